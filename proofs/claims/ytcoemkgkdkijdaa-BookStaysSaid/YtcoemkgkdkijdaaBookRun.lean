/- The laws of package book: acts, one behind the other. -/
import Derived.Test.YtcoemkgkdkijdaaBookRef5
import Derived.Deep.CutRange
namespace Go.Proofs.Ytcoemkgkdkijdaa
open Go.ChangeShapes Go.WideShapes Go.ChangeAt Go.RowKit
set_option maxRecDepth 100000
set_option linter.unusedVariables false

/-- A variable that is no block of a book's may be written. -/
theorem BookAt.other {w w' : World} {c : Cf} {a : Ad} {s : St} {T : Nat} {z : Int} (h : BookAt w c a s) (q : But (· = T) w w') (hT : ¬ (a.lo ≤ T ∧ T < a.hi)) (h1 : w.cell? ⟨T, 1, none⟩ = some (.int .i64 z)) : BookAt w' c a s := by
  have o1 := h.o1; have o2 := h.o2; have o3 := h.o3; have o4 := h.o4; have o5 := h.o5; have o6 := h.o6
  have hp : ¬ a.p = T := by omega
  refine ⟨h.ok, q.cell hp h.c0, q.cell hp h.c1, q.cell hp h.c2, q.cell hp h.c3, q.cell hp h.c4, q.cell hp h.c5, q.cell hp h.c6, q.cell hp h.c7,
    h.mw.but q (fun e => h.mw.ne h1 e.symm), h.mc.but q (fun e => h.mc.ne h1 e.symm), h.mn.but q (fun e => h.mn.ne h1 e.symm),
    fun j hj => q.cell (show ¬ a.bw + j = T by omega) (h.w0 j hj), fun j hj => q.cell (show ¬ a.bw + j = T by omega) (h.w1 j hj), fun j hj => q.cell (show ¬ a.bw + j = T by omega) (h.w2 j hj), fun j hj => q.cell (show ¬ a.bw + j = T by omega) (h.w3 j hj),
    fun j o hj => q.frozen (h.wf j o hj), fun n hn => ?_, fun n hn => q.frozen (h.sf n hn), fun n hn => ?_, fun n hn => q.frozen (h.nf n hn), o1, o2, o3, o4, o5, Nat.le_trans o6 q.2.2⟩
  · have hb : ¬ a.bc + n = T := by omega
    have hs := h.sc n hn
    cases e : look s.ops n with
    | none => rw [e] at hs; exact q.cell hb hs
    | some y =>
      rw [e] at hs
      obtain ⟨r, h0, h2, h3, h4, h5, h6, h7⟩ := hs
      have hr : ¬ r = T := fun e => by rw [e, h1] at h4; cases h4
      exact ⟨r, h0, q.cell hb h2, q.cell hr h3, q.cell hr h4, q.cell hr h5, q.cell hr h6, q.shape hr h7⟩
  · have hb : ¬ a.bn + n = T := by omega
    have hs := h.sn n hn
    cases e : look s.nodes n with
    | none => rw [e] at hs; exact q.cell hb hs
    | some y =>
      rw [e] at hs
      obtain ⟨r, h0, h2, h3, h4⟩ := hs
      have hr : ¬ r = T := fun e => by
        subst e
        obtain ⟨e', n', hsh, hlt, -⟩ := World.shape?_of_cell? h1
        rw [h4] at hsh
        cases hsh
        simp at hlt
      exact ⟨r, h0, q.cell hb h2, q.cell hr h3, q.shape hr h4⟩
theorem own_fresh {W a b : World} {d : Ad} (g : Grown W a) (h : But (Own d) a b) (hl : W.heap.size ≤ d.lo) : Grown W b := h.fresh g fun i hi => Nat.le_trans hl hi.1
theorem Off.of {w : World} {lo n b : Nat} {t s0 : Value} {cells : List Value} (o : t = s0 ∨ FlatAt w lo t cells n) (h : Off s0 b) (hb : b < lo) : Off t b := by
  rcases o with rfl | o
  · exact h
  · exact o.offNew hb

/-- What stands behind so many acts. -/
def stA (c : Cf) (act : Nat → ActV) : Nat → St
  | 0 => St.new c
  | k + 1 => (actI c (stA c act k) (act k)).1
theorem stA_inv (c : Cf) (act : Nat → ActV) : ∀ k, Inv c (stA c act k)
  | 0 => Inv.new
  | k + 1 => (stA_inv c act k).actI _
theorem stA_len (c : Cf) (act : Nat → ActV) : ∀ k, (stA c act k).ops.length ≤ k ∧ (stA c act k).nodes.length ≤ k
  | 0 => by simp [stA, St.new]
  | k + 1 => by
    have h1 := stA_len c act k
    have h2 := act_len c (stA c act k) (act k)
    exact ⟨by show (actI c (stA c act k) (act k)).1.ops.length ≤ k + 1; omega, by show (actI c (stA c act k) (act k)).1.nodes.length ≤ k + 1; omega⟩

/-- The document's Book in a variable of block T, told. -/
def Var (wr : World) (c : Cf) (a : Ad) (T : Nat) (s : St) (s1 s2 s3 s4 s5 : Value) : Prop :=
  Box wr T [.int .i64 c.t, .int .i64 c.b, .int .i64 c.i, .int .i64 c.f, .int .i64 c.k, s1, s2, s3, s4, s5] ∧ RefS wr a.hi c s s1 s2 s3 s4 s5 ∧ Off s1 T ∧ Off s2 T ∧ Off s3 T ∧ Off s4 T ∧ Off s5 T
/-- What holds behind k acts: of the two books, and of run's own variables. -/
def RunI (w wr : World) (c : Cf) (a : Ad) (T : Nat) (s : St) : Prop :=
  Grown w wr ∧ BookAt wr c a s ∧ Box wr (w.heap.size + 1) [.int .i64 0, .int .i64 0, .int .i64 0, .int .i64 0, .int .i64 0, .slice none 0 0, .slice none 0 0, .slice none 0 0, .slice none 0 0, .slice none 0 0] ∧ ∃ s1 s2 s3 s4 s5, Var wr c a T s s1 s2 s3 s4 s5
/-- What run tells. -/
def RunTell (c : Cf) (s : St) (w : World) (e : Ending) (w' : World) : Prop :=
  ∃ (a : Ad) (s1 s2 s3 s4 s5 : Value), e = .returned (.tuple #[.pointer (some ⟨a.p, 0, none⟩), RV c s1 s2 s3 s4 s5, .bool true]) ∧ Grown w w' ∧ BookAt w' c a s ∧ RefS w' a.hi c s s1 s2 s3 s4 s5 ∧ w.heap.size ≤ a.lo

set_option maxHeartbeats 8000000 in
theorem run_at (w : World) (c : Cf) (hok : c.Ok) (A : Option Addr) (bb off m cap : Nat) (act : Nat → ActV) (hA : 0 < m → A = some ⟨bb, off, none⟩) (ha : ActsAt w bb off m act) (hm : m ≤ 30) :
    Calls Try.prog 10 #[c.v, .slice A m cap] w (RunTell c (stA c act m) w) := by
  have HOK := Lib.hid hok
  have HA := Lib.hid ha
  have HAd := Lib.hid hA
  clear hok ha hA
  unfold Cf.v
  go_enter Try.func10, Try.ntmps10
  go_wp2_with fail
  refine (New_at _ c HOK.out).mono ?_; rintro e w2 ⟨a, rfl, g2, h2, hlo, hhi⟩
  have d0 : w2.cell? ⟨w.heap.size, 0, none⟩ = some (.int .i64 c.t) := gcell g2 (by simp)
  have d1 : w2.cell? ⟨w.heap.size, 1, none⟩ = some (.int .i64 c.b) := gcell g2 (by simp)
  have d2 : w2.cell? ⟨w.heap.size, 2, none⟩ = some (.int .i64 c.i) := gcell g2 (by simp)
  have d3 : w2.cell? ⟨w.heap.size, 3, none⟩ = some (.int .i64 c.f) := gcell g2 (by simp)
  have d4 : w2.cell? ⟨w.heap.size, 4, none⟩ = some (.int .i64 c.k) := gcell g2 (by simp)
  obtain ⟨-, BZ, G⟩ := boxes2 (l1 := [.int .i64 c.t, .int .i64 c.b, .int .i64 c.i, .int .i64 c.f, .int .i64 c.k]) (l2 := [.int .i64 0, .int .i64 0, .int .i64 0, .int .i64 0, .int .i64 0, .slice none 0 0, .slice none 0 0, .slice none 0 0, .slice none 0 0, .slice none 0 0]) g2
  have hl1 : w.heap.size + 1 + 1 ≤ a.lo := by rw [hlo]; simp
  have HB2 := Lib.hid h2
  have HZ2 := Lib.hid BZ
  clear g2 hlo h2 BZ
  go_wp2_with fail
  refine (rNew_at _ a.hi c HOK.out (Nat.le_of_eq hhi)).mono ?_; rintro e w3 ⟨s1, s2, s3, s4, s5, rfl, R3, g3⟩
  clear d0 d1 d2 d3 d4
  obtain ⟨A1, n1, k1, rfl⟩ := R3.f1.slice
  obtain ⟨A2, n2, k2, rfl⟩ := R3.f2.slice
  obtain ⟨A3, n3, k3, rfl⟩ := R3.f3.slice
  obtain ⟨A4, n4, k4, rfl⟩ := R3.f4.slice
  obtain ⟨A5, n5, k5, rfl⟩ := R3.f5.slice
  have hT3 : a.hi ≤ w3.heap.size := Nat.le_trans (Nat.le_of_eq hhi) g3.2.2
  simp only [RV]
  have HS : Hid (RunI w (w3.alloc (.cells #[.int .i64 c.t, .int .i64 c.b, .int .i64 c.i, .int .i64 c.f, .int .i64 c.k, .slice A1 n1 k1, .slice A2 n2 k2, .slice A3 n3 k3, .slice A4 n4 k4, .slice A5 n5 k5] 32)) c a w3.heap.size (St.new c)) := Lib.hid ⟨(gtr G g3).alloc _ _, HB2.out.grown (g3.alloc _ _), HZ2.out.grown (g3.alloc _ _), _, _, _, _, _, Box.made w3 [.int .i64 c.t, .int .i64 c.b, .int .i64 c.i, .int .i64 c.f, .int .i64 c.k, .slice A1 n1 k1, .slice A2 n2 k2, .slice A3 n3 k3, .slice A4 n4 k4, .slice A5 n5 k5] _, R3.grown ((Grown.refl _).alloc _ _), R3.f1.off (vNat_ne (Inv.new (c := c)).l1) (Nat.le_refl _), R3.f2.off (vNat_ne (Inv.new (c := c)).l2) (Nat.le_refl _), R3.f3.off (vNat_ne (Inv.new (c := c)).l3) (Nat.le_refl _), R3.f4.off flatC_ne (Nat.le_refl _), R3.f5.off flatN_ne (Nat.le_refl _)⟩
  have hTw : w.heap.size + 1 < w3.heap.size := by have := (HZ2.out.grown g3).lt; omega
  clear R3 HB2 HZ2 G hhi g3
  obtain ⟨T, hT⟩ : ∃ T, w3.heap.size = T := ⟨_, rfl⟩
  rw [hT] at HS hT3 hTw
  go_wp2_with fail
  generalize w3.alloc (.cells #[.int .i64 c.t, .int .i64 c.b, .int .i64 c.i, .int .i64 c.f, .int .i64 c.k, .slice A1 n1 k1, .slice A2 n2 k2, .slice A3 n3 k3, .slice A4 n4 k4, .slice A5 n5 k5] 32) = w4 at *
  clear hT
  go_loopw [11] (fun v wr => ∃ k : Nat, k ≤ m ∧ v = .int .i64 k ∧ Hid (RunI w wr c a T (stA c act k))) (fun v _ => m - (intOf v).toNat)
  case atStart => exact ⟨0, Nat.zero_le _, rfl, HS⟩
  case round =>
    obtain ⟨k, hk, rfl, HS⟩ := hrel
    have HI := Lib.hid (stA_inv c act k)
    obtain ⟨N1, N2⟩ := stA_len c act k
    have HST : Hid (stA c act (k + 1) = (actI c (stA c act k) (act k)).1) := Lib.hid rfl
    by_cases hkm : k < m
    · obtain rfl : A = some ⟨bb, off, none⟩ := HAd.out (by omega)
      clear HAd
      generalize stA c act k = s at *
      obtain ⟨r, hr⟩ : ∃ r, actI c s (act k) = r := ⟨_, rfl⟩
      have HI2 : Hid (Inv c r.1) := Lib.hid (by rw [← hr]; exact HI.out.actI (act k))
      rw [hr] at HST
      have HR := Lib.hid hr
      clear hr
      obtain ⟨rs, p1, p2⟩ := r
      obtain ⟨G, B, BZ, s1, s2, s3, s4, s5, V⟩ := HS.out
      have VR := V.2.1
      obtain ⟨A1, n1, k1, rfl⟩ := VR.f1.slice
      obtain ⟨A2, n2, k2, rfl⟩ := VR.f2.slice
      obtain ⟨A3, n3, k3, rfl⟩ := VR.f3.slice
      obtain ⟨A4, n4, k4, rfl⟩ := VR.f4.slice
      obtain ⟨A5, n5, k5, rfl⟩ := VR.f5.slice
      have HB := Lib.hid B; have HZ := Lib.hid BZ; have HV := Lib.hid V
      clear B BZ V VR HS
      have e0 : wr.cell? ⟨bb, off + k * 7, none⟩ = some (.bool (act k).made) := (HA.out.grown G) k hkm 0 _ rfl
      have e1 : wr.cell? ⟨bb, off + k * 7 + 1, none⟩ = some (.int .i64 (act k).th) := (HA.out.grown G) k hkm 1 _ rfl
      have e2 : wr.cell? ⟨bb, off + k * 7 + 2, none⟩ = some (.int .i64 (act k).op) := (HA.out.grown G) k hkm 2 _ rfl
      have e3 : wr.cell? ⟨bb, off + k * 7 + 3, none⟩ = some (.int .i64 (act k).x.kind) := (HA.out.grown G) k hkm 3 _ rfl
      have e4 : wr.cell? ⟨bb, off + k * 7 + 4, none⟩ = some (.int .u64 (act k).x.key) := (HA.out.grown G) k hkm 4 _ rfl
      have e5 : wr.cell? ⟨bb, off + k * 7 + 5, none⟩ = some (.int .u64 (act k).x.val) := (HA.out.grown G) k hkm 5 _ rfl
      have e6 : wr.cell? ⟨bb, off + k * 7 + 6, none⟩ = some (.int .i64 (act k).x.lim) := (HA.out.grown G) k hkm 6 _ rfl
      have ed : decide (k < m) = true := decide_eq_true hkm
      go_wp2_with fail
      refine (do_any _ c a s HB.out HI.out (act k) (rs, p1, p2) HR.out).mono ?_; rintro e w5 ⟨rfl, q5, h5⟩
      have nT : ¬ Own a T := fun h => by have := h.2; omega
      have nZ : ¬ Own a (w.heap.size + 1) := fun h => by have := h.1; omega
      have G5 : Grown w w5 := own_fresh G q5 (by omega)
      replace HZ := Lib.hid (HZ.out.but q5 nZ)
      replace HV : Hid (Var w5 c a T s (.slice A1 n1 k1) (.slice A2 n2 k2) (.slice A3 n3 k3) (.slice A4 n4 k4) (.slice A5 n5 k5)) := Lib.hid ⟨HV.out.1.but q5 nT, HV.out.2.1.but q5 (fun i hi h => by have := h.2; omega), HV.out.2.2⟩
      have HB5 := Lib.hid h5
      have hT5 : T < w5.heap.size := HV.out.1.lt
      clear HB h5 q5 G e0 e1 e2 e3 e4 e5 e6
      go_wp2_with fail
      go_cut [14, 15, 16] from 27 to 62 (fun s14 s15 s16 wx => ∃ (T14 : Nat) (t1 t2 t3 t4 t5 : Value), s14 = .pointer (some ⟨T14, 0, none⟩) ∧ s15 = .int .i64 (p1 : Int) ∧ s16 = .int .i64 (p2 : Int) ∧ Grown w5 wx ∧ Hid (Var wx c a T14 rs t1 t2 t3 t4 t5) ∧ Off t1 T ∧ Off t2 T ∧ Off t3 T ∧ Off t4 T ∧ Off t5 T ∧ T14 ≠ T)
      case first =>
        refine wp_region_plang (.two [0, 1, 2, 3, 4] 5 (.one [6, 7, 8, 9] 10 (.one [] 11 (.fin [12, 13]))) 10 (.one [] 5 (.one [6, 7, 8, 9] 11 (.fin [12, 13])))) (by kernel_rfl) (by kernel_rfl) (by kernel_rfl) ?_
        intro w6 g6
        have hT6 : T < w6.heap.size := Nat.lt_of_lt_of_le hT5 g6.2.2
        have d0 : ∀ g : GrW w6, g.w.cell? ⟨T, 0, none⟩ = some (.int .i64 c.t) := GrW.cell (gcell g6 (HV.out.1.cell 0 _ rfl))
        have d1 : ∀ g : GrW w6, g.w.cell? ⟨T, 1, none⟩ = some (.int .i64 c.b) := GrW.cell (gcell g6 (HV.out.1.cell 1 _ rfl))
        have d2 : ∀ g : GrW w6, g.w.cell? ⟨T, 2, none⟩ = some (.int .i64 c.i) := GrW.cell (gcell g6 (HV.out.1.cell 2 _ rfl))
        have d3 : ∀ g : GrW w6, g.w.cell? ⟨T, 3, none⟩ = some (.int .i64 c.f) := GrW.cell (gcell g6 (HV.out.1.cell 3 _ rfl))
        have d4 : ∀ g : GrW w6, g.w.cell? ⟨T, 4, none⟩ = some (.int .i64 c.k) := GrW.cell (gcell g6 (HV.out.1.cell 4 _ rfl))
        have d5 : ∀ g : GrW w6, g.w.cell? ⟨T, 5, none⟩ = some (.slice A1 n1 k1) := GrW.cell (gcell g6 (HV.out.1.cell 5 _ rfl))
        have d6 : ∀ g : GrW w6, g.w.cell? ⟨T, 6, none⟩ = some (.slice A2 n2 k2) := GrW.cell (gcell g6 (HV.out.1.cell 6 _ rfl))
        have d7 : ∀ g : GrW w6, g.w.cell? ⟨T, 7, none⟩ = some (.slice A3 n3 k3) := GrW.cell (gcell g6 (HV.out.1.cell 7 _ rfl))
        have d8 : ∀ g : GrW w6, g.w.cell? ⟨T, 8, none⟩ = some (.slice A4 n4 k4) := GrW.cell (gcell g6 (HV.out.1.cell 8 _ rfl))
        have d9 : ∀ g : GrW w6, g.w.cell? ⟨T, 9, none⟩ = some (.slice A5 n5 k5) := GrW.cell (gcell g6 (HV.out.1.cell 9 _ rfl))
        have e0 : w6.cell? ⟨bb, off + k * 7, none⟩ = some (.bool (act k).made) := (HA.out.grown (gtr G5 g6)) k hkm 0 _ rfl
        have e1 : w6.cell? ⟨bb, off + k * 7 + 1, none⟩ = some (.int .i64 (act k).th) := (HA.out.grown (gtr G5 g6)) k hkm 1 _ rfl
        have e2 : w6.cell? ⟨bb, off + k * 7 + 2, none⟩ = some (.int .i64 (act k).op) := (HA.out.grown (gtr G5 g6)) k hkm 2 _ rfl
        have e3 : w6.cell? ⟨bb, off + k * 7 + 3, none⟩ = some (.int .i64 (act k).x.kind) := (HA.out.grown (gtr G5 g6)) k hkm 3 _ rfl
        have e4 : w6.cell? ⟨bb, off + k * 7 + 4, none⟩ = some (.int .u64 (act k).x.key) := (HA.out.grown (gtr G5 g6)) k hkm 4 _ rfl
        have e5 : w6.cell? ⟨bb, off + k * 7 + 5, none⟩ = some (.int .u64 (act k).x.val) := (HA.out.grown (gtr G5 g6)) k hkm 5 _ rfl
        have e6 : w6.cell? ⟨bb, off + k * 7 + 6, none⟩ = some (.int .i64 (act k).x.lim) := (HA.out.grown (gtr G5 g6)) k hkm 6 _ rfl
        replace e0 : ∀ g : GrW w6, g.w.cell? ⟨bb, off + k * 7, none⟩ = some (.bool (act k).made) := GrW.cell e0
        replace e1 : ∀ g : GrW w6, g.w.cell? ⟨bb, off + k * 7 + 1, none⟩ = some (.int .i64 (act k).th) := GrW.cell e1
        replace e2 : ∀ g : GrW w6, g.w.cell? ⟨bb, off + k * 7 + 2, none⟩ = some (.int .i64 (act k).op) := GrW.cell e2
        replace e3 : ∀ g : GrW w6, g.w.cell? ⟨bb, off + k * 7 + 3, none⟩ = some (.int .i64 (act k).x.kind) := GrW.cell e3
        replace e4 : ∀ g : GrW w6, g.w.cell? ⟨bb, off + k * 7 + 4, none⟩ = some (.int .u64 (act k).x.key) := GrW.cell e4
        replace e5 : ∀ g : GrW w6, g.w.cell? ⟨bb, off + k * 7 + 5, none⟩ = some (.int .u64 (act k).x.val) := GrW.cell e5
        replace e6 : ∀ g : GrW w6, g.w.cell? ⟨bb, off + k * 7 + 6, none⟩ = some (.int .i64 (act k).x.lim) := GrW.cell e6
        refine plan_two ?_
        simp only [nths, nth, List.map_cons, List.map_nil, List.getD_cons_zero, List.getD_cons_succ]
        repeat go_big_quiet_step (fail)
        clear d0 d1 d2 d3 d4 d5 d6 d7 d8 d9 e0 e1 e2 e3 e4 e5 e6
        have H6 := Lib.hid (HV.out.2.1.grown g6)
        have hi6 : a.hi ≤ w6.heap.size := by omega
        refine wpQuiet_nil ⟨?_, ?_⟩
        · go_wp2_with fail
          refine (rDo_any _ a.hi c s _ _ _ _ _ H6.out HOK.out HI.out hi6 (by omega) (by omega) (act k) (rs, p1, p2) HR.out).mono ?_; rintro e w7 ⟨t1, t2, t3, t4, t5, rfl, R7, g7, o1, o2, o3, o4, o5⟩
          obtain ⟨tA1, tn1, tk1, rfl⟩ := R7.f1.slice
          obtain ⟨tA2, tn2, tk2, rfl⟩ := R7.f2.slice
          obtain ⟨tA3, tn3, tk3, rfl⟩ := R7.f3.slice
          obtain ⟨tA4, tn4, tk4, rfl⟩ := R7.f4.slice
          obtain ⟨tA5, tn5, tk5, rfl⟩ := R7.f5.slice
          simp only [RV]
          go_wp2_with fail
          refine nxt_grow g7 (plan_one ?_)
          simp only [nths, nth, List.map_cons, List.map_nil, List.getD_cons_zero, List.getD_cons_succ]
          repeat go_big_quiet_step (fail)
          refine wpQuiet_nil ?_
          go_wp2_with fail
          have g8 : Grown w7 (w7.alloc (.cells #[.int .i64 0, .int .i64 0, .int .i64 0, .int .i64 0, .int .i64 0, .slice none 0 0, .slice none 0 0, .slice none 0 0, .slice none 0 0, .slice none 0 0] 32)) := by go_grown
          have BX := Box.made w7 [.int .i64 0, .int .i64 0, .int .i64 0, .int .i64 0, .int .i64 0, .slice none 0 0, .slice none 0 0, .slice none 0 0, .slice none 0 0, .slice none 0 0] 32
          obtain ⟨X, hX⟩ : ∃ X, w7.heap.size = X := ⟨_, rfl⟩
          rw [hX] at BX ⊢
          replace BX := Lib.hid BX
          generalize w7.alloc (.cells #[.int .i64 0, .int .i64 0, .int .i64 0, .int .i64 0, .int .i64 0, .slice none 0 0, .slice none 0 0, .slice none 0 0, .slice none 0 0, .slice none 0 0] 32) = v at *
          refine nxt_stay g8 (plan_one ?_)
          simp only [nths, nth, List.map_nil, List.getD_cons_zero, List.getD_cons_succ]
          refine wpQuiet_nil ?_
          have c0 := BX.out.cell 0 _ rfl; have qc0 := BX.out.free 0
          have c1 := BX.out.cell 1 _ rfl; have qc1 := BX.out.free 1
          have c2 := BX.out.cell 2 _ rfl; have qc2 := BX.out.free 2
          have c3 := BX.out.cell 3 _ rfl; have qc3 := BX.out.free 3
          have c4 := BX.out.cell 4 _ rfl; have qc4 := BX.out.free 4
          have c5 := BX.out.cell 5 _ rfl; have qc5 := BX.out.free 5
          have c6 := BX.out.cell 6 _ rfl; have qc6 := BX.out.free 6
          have c7 := BX.out.cell 7 _ rfl; have qc7 := BX.out.free 7
          have c8 := BX.out.cell 8 _ rfl; have qc8 := BX.out.free 8
          have c9 := BX.out.cell 9 _ rfl; have qc9 := BX.out.free 9
          have hlt := BX.out.lt
          go_wp2_with fail
          have B2 := BX.out.fill rfl (.int .i64 c.t) (.int .i64 c.b) (.int .i64 c.i) (.int .i64 c.f) (.int .i64 c.k) (.slice tA1 tn1 tk1) (.slice tA2 tn2 tk2) (.slice tA3 tn3 tk3) (.slice tA4 tn4 tk4) (.slice tA5 tn5 tk5)
          have kS := (But.refl (· = X) v).fill (b := X) (.inl rfl) (.int .i64 c.t) (.int .i64 c.b) (.int .i64 c.i) (.int .i64 c.f) (.int .i64 c.k) (.slice tA1 tn1 tk1) (.slice tA2 tn2 tk2) (.slice tA3 tn3 tk3) (.slice tA4 tn4 tk4) (.slice tA5 tn5 tk5)
          clear c0 qc0 c1 qc1 c2 qc2 c3 qc3 c4 qc4 c5 qc5 c6 qc6 c7 qc7 c8 qc8 c9 qc9
          have gF : Grown w7 _ := But.fresh g8 kS (fun i hi => by omega)
          refine nxt_stay gF (plan_fin ?_)
          simp only [nths, nth, List.map_cons, List.map_nil, List.getD_cons_zero, List.getD_cons_succ]
          repeat go_big_quiet_step (fail)
          refine wpQuiet_nil ?_
          go_wp2_with fail
          have f1 := (R7.f1.grown g8).offBut (R7.f1.off (vNat_ne HI2.out.l1) (Nat.le_of_eq hX)) kS
          have f2 := (R7.f2.grown g8).offBut (R7.f2.off (vNat_ne HI2.out.l2) (Nat.le_of_eq hX)) kS
          have f3 := (R7.f3.grown g8).offBut (R7.f3.off (vNat_ne HI2.out.l3) (Nat.le_of_eq hX)) kS
          have f4 := (R7.f4.grown g8).offBut (R7.f4.off flatC_ne (Nat.le_of_eq hX)) kS
          have f5 := (R7.f5.grown g8).offBut (R7.f5.off flatN_ne (Nat.le_of_eq hX)) kS
          have x1 : Off (.slice tA1 tn1 tk1) X := R7.f1.off (vNat_ne HI2.out.l1) (Nat.le_of_eq hX)
          have x2 : Off (.slice tA2 tn2 tk2) X := R7.f2.off (vNat_ne HI2.out.l2) (Nat.le_of_eq hX)
          have x3 : Off (.slice tA3 tn3 tk3) X := R7.f3.off (vNat_ne HI2.out.l3) (Nat.le_of_eq hX)
          have x4 : Off (.slice tA4 tn4 tk4) X := R7.f4.off flatC_ne (Nat.le_of_eq hX)
          have x5 : Off (.slice tA5 tn5 tk5) X := R7.f5.off flatN_ne (Nat.le_of_eq hX)
          have z1 : Off (.slice tA1 tn1 tk1) T := Off.of o1 HV.out.2.2.1 (by omega)
          have z2 : Off (.slice tA2 tn2 tk2) T := Off.of o2 HV.out.2.2.2.1 (by omega)
          have z3 : Off (.slice tA3 tn3 tk3) T := Off.of o3 HV.out.2.2.2.2.1 (by omega)
          have z4 : Off (.slice tA4 tn4 tk4) T := Off.of o4 HV.out.2.2.2.2.2.1 (by omega)
          have z5 : Off (.slice tA5 tn5 tk5) T := Off.of o5 HV.out.2.2.2.2.2.2 (by omega)
          have hXT : X ≠ T := by have := g7.2.2; omega
          go_meet
          case rel => exact ⟨X, _, _, _, _, _, rfl, rfl, rfl, gtr g6 (gtr g7 gF), Lib.hid ⟨B2, ⟨f1, f2, f3, f4, f5⟩, x1, x2, x3, x4, x5⟩, z1, z2, z3, z4, z5, hXT⟩
        · go_wp2_with fail
          have g8 : Grown w6 (w6.alloc (.cells #[.int .i64 0, .int .i64 0, .int .i64 0, .int .i64 0, .int .i64 0, .slice none 0 0, .slice none 0 0, .slice none 0 0, .slice none 0 0, .slice none 0 0] 32)) := by go_grown
          have hsz : (w6.alloc (.cells #[.int .i64 0, .int .i64 0, .int .i64 0, .int .i64 0, .int .i64 0, .slice none 0 0, .slice none 0 0, .slice none 0 0, .slice none 0 0, .slice none 0 0] 32)).heap.size = w6.heap.size + 1 := by simp
          have BX := Box.made w6 [.int .i64 0, .int .i64 0, .int .i64 0, .int .i64 0, .int .i64 0, .slice none 0 0, .slice none 0 0, .slice none 0 0, .slice none 0 0, .slice none 0 0] 32
          obtain ⟨X, hX⟩ : ∃ X, w6.heap.size = X := ⟨_, rfl⟩
          rw [hX] at BX hsz ⊢
          generalize w6.alloc (.cells #[.int .i64 0, .int .i64 0, .int .i64 0, .int .i64 0, .int .i64 0, .slice none 0 0, .slice none 0 0, .slice none 0 0, .slice none 0 0, .slice none 0 0] 32) = v at *
          refine nxt_stay g8 (plan_one ?_)
          simp only [nths, nth, List.map_nil, List.getD_cons_zero, List.getD_cons_succ]
          refine wpQuiet_nil ?_
          go_wp2_with fail
          refine (rDo_any _ a.hi c s _ _ _ _ _ (H6.out.grown g8) HOK.out HI.out (by omega) (by omega) (by omega) (act k) (rs, p1, p2) HR.out).mono ?_; rintro e w7 ⟨t1, t2, t3, t4, t5, rfl, R7, g7, o1, o2, o3, o4, o5⟩
          obtain ⟨tA1, tn1, tk1, rfl⟩ := R7.f1.slice
          obtain ⟨tA2, tn2, tk2, rfl⟩ := R7.f2.slice
          obtain ⟨tA3, tn3, tk3, rfl⟩ := R7.f3.slice
          obtain ⟨tA4, tn4, tk4, rfl⟩ := R7.f4.slice
          obtain ⟨tA5, tn5, tk5, rfl⟩ := R7.f5.slice
          simp only [RV]
          go_wp2_with fail
          replace BX := Lib.hid (BX.grown g7)
          refine nxt_stay (gtr g8 g7) (plan_one ?_)
          simp only [nths, nth, List.map_cons, List.map_nil, List.getD_cons_zero, List.getD_cons_succ]
          repeat go_big_quiet_step (fail)
          refine wpQuiet_nil ?_
          have c0 := BX.out.cell 0 _ rfl; have qc0 := BX.out.free 0
          have c1 := BX.out.cell 1 _ rfl; have qc1 := BX.out.free 1
          have c2 := BX.out.cell 2 _ rfl; have qc2 := BX.out.free 2
          have c3 := BX.out.cell 3 _ rfl; have qc3 := BX.out.free 3
          have c4 := BX.out.cell 4 _ rfl; have qc4 := BX.out.free 4
          have c5 := BX.out.cell 5 _ rfl; have qc5 := BX.out.free 5
          have c6 := BX.out.cell 6 _ rfl; have qc6 := BX.out.free 6
          have c7 := BX.out.cell 7 _ rfl; have qc7 := BX.out.free 7
          have c8 := BX.out.cell 8 _ rfl; have qc8 := BX.out.free 8
          have c9 := BX.out.cell 9 _ rfl; have qc9 := BX.out.free 9
          have hlt := BX.out.lt
          go_wp2_with fail
          have B2 := BX.out.fill rfl (.int .i64 c.t) (.int .i64 c.b) (.int .i64 c.i) (.int .i64 c.f) (.int .i64 c.k) (.slice tA1 tn1 tk1) (.slice tA2 tn2 tk2) (.slice tA3 tn3 tk3) (.slice tA4 tn4 tk4) (.slice tA5 tn5 tk5)
          have kS := (But.refl (· = X) w7).fill (b := X) (.inl rfl) (.int .i64 c.t) (.int .i64 c.b) (.int .i64 c.i) (.int .i64 c.f) (.int .i64 c.k) (.slice tA1 tn1 tk1) (.slice tA2 tn2 tk2) (.slice tA3 tn3 tk3) (.slice tA4 tn4 tk4) (.slice tA5 tn5 tk5)
          clear c0 qc0 c1 qc1 c2 qc2 c3 qc3 c4 qc4 c5 qc5 c6 qc6 c7 qc7 c8 qc8 c9 qc9
          have gF : Grown w6 _ := But.fresh (gtr g8 g7) kS (fun i hi => by omega)
          refine nxt_stay gF (plan_fin ?_)
          simp only [nths, nth, List.map_cons, List.map_nil, List.getD_cons_zero, List.getD_cons_succ]
          repeat go_big_quiet_step (fail)
          refine wpQuiet_nil ?_
          go_wp2_with fail
          obtain ⟨f1, -⟩ := keep_row R7.f1 H6.out.f1 (vNat_ne HI.out.l1) o1 kS (by omega) (by omega) (by omega)
          obtain ⟨f2, -⟩ := keep_row R7.f2 H6.out.f2 (vNat_ne HI.out.l2) o2 kS (by omega) (by omega) (by omega)
          obtain ⟨f3, -⟩ := keep_row R7.f3 H6.out.f3 (vNat_ne HI.out.l3) o3 kS (by omega) (by omega) (by omega)
          obtain ⟨f4, -⟩ := keep_row R7.f4 H6.out.f4 flatC_ne o4 kS (by omega) (by omega) (by omega)
          obtain ⟨f5, -⟩ := keep_row R7.f5 H6.out.f5 flatN_ne o5 kS (by omega) (by omega) (by omega)
          have x1 : Off (.slice tA1 tn1 tk1) X := Off.of o1 (H6.out.f1.off (vNat_ne HI.out.l1) (by omega)) (by omega)
          have x2 : Off (.slice tA2 tn2 tk2) X := Off.of o2 (H6.out.f2.off (vNat_ne HI.out.l2) (by omega)) (by omega)
          have x3 : Off (.slice tA3 tn3 tk3) X := Off.of o3 (H6.out.f3.off (vNat_ne HI.out.l3) (by omega)) (by omega)
          have x4 : Off (.slice tA4 tn4 tk4) X := Off.of o4 (H6.out.f4.off flatC_ne (by omega)) (by omega)
          have x5 : Off (.slice tA5 tn5 tk5) X := Off.of o5 (H6.out.f5.off flatN_ne (by omega)) (by omega)
          have z1 : Off (.slice tA1 tn1 tk1) T := Off.of o1 HV.out.2.2.1 (by omega)
          have z2 : Off (.slice tA2 tn2 tk2) T := Off.of o2 HV.out.2.2.2.1 (by omega)
          have z3 : Off (.slice tA3 tn3 tk3) T := Off.of o3 HV.out.2.2.2.2.1 (by omega)
          have z4 : Off (.slice tA4 tn4 tk4) T := Off.of o4 HV.out.2.2.2.2.2.1 (by omega)
          have z5 : Off (.slice tA5 tn5 tk5) T := Off.of o5 HV.out.2.2.2.2.2.2 (by omega)
          have hXT : X ≠ T := by omega
          go_meet
          case rel => exact ⟨X, _, _, _, _, _, rfl, rfl, rfl, gtr g6 gF, Lib.hid ⟨B2, ⟨f1, f2, f3, f4, f5⟩, x1, x2, x3, x4, x5⟩, z1, z2, z3, z4, z5, hXT⟩
      case rest =>
        obtain ⟨X, t1, t2, t3, t4, t5, rfl, rfl, rfl, gx, HX, z1, z2, z3, z4, z5, hXT⟩ := hcut
        have XR := HX.out.2.1
        obtain ⟨tA1, tn1, tk1, rfl⟩ := XR.f1.slice
        obtain ⟨tA2, tn2, tk2, rfl⟩ := XR.f2.slice
        obtain ⟨tA3, tn3, tk3, rfl⟩ := XR.f3.slice
        obtain ⟨tA4, tn4, tk4, rfl⟩ := XR.f4.slice
        obtain ⟨tA5, tn5, tk5, rfl⟩ := XR.f5.slice
        replace HV := Lib.hid (HV.out.1.grown gx)
        replace HZ := Lib.hid (HZ.out.grown gx)
        replace HB5 := Lib.hid (HB5.out.grown gx)
        replace G5 := gtr G5 gx
        clear gx
        have b0 := HX.out.1.cell 0 _ rfl
        have b1 := HX.out.1.cell 1 _ rfl
        have b2 := HX.out.1.cell 2 _ rfl
        have b3 := HX.out.1.cell 3 _ rfl
        have b4 := HX.out.1.cell 4 _ rfl
        have b5 := HX.out.1.cell 5 _ rfl
        have b6 := HX.out.1.cell 6 _ rfl
        have b7 := HX.out.1.cell 7 _ rfl
        have b8 := HX.out.1.cell 8 _ rfl
        have b9 := HX.out.1.cell 9 _ rfl
        have c0 := HV.out.cell 0 _ rfl; have qc0 := HV.out.free 0
        have c1 := HV.out.cell 1 _ rfl; have qc1 := HV.out.free 1
        have c2 := HV.out.cell 2 _ rfl; have qc2 := HV.out.free 2
        have c3 := HV.out.cell 3 _ rfl; have qc3 := HV.out.free 3
        have c4 := HV.out.cell 4 _ rfl; have qc4 := HV.out.free 4
        have c5 := HV.out.cell 5 _ rfl; have qc5 := HV.out.free 5
        have c6 := HV.out.cell 6 _ rfl; have qc6 := HV.out.free 6
        have c7 := HV.out.cell 7 _ rfl; have qc7 := HV.out.free 7
        have c8 := HV.out.cell 8 _ rfl; have qc8 := HV.out.free 8
        have c9 := HV.out.cell 9 _ rfl; have qc9 := HV.out.free 9
        have hlt := HV.out.lt
        have hltX := HX.out.1.lt
        have v1 : ((p1 : Int) != (p1 : Int)) = false := by simp
        have v2 : ((p2 : Int) != (p2 : Int)) = false := by simp
        go_wp2_with fail
        have B2 := HV.out.fill rfl (.int .i64 c.t) (.int .i64 c.b) (.int .i64 c.i) (.int .i64 c.f) (.int .i64 c.k) (.slice tA1 tn1 tk1) (.slice tA2 tn2 tk2) (.slice tA3 tn3 tk3) (.slice tA4 tn4 tk4) (.slice tA5 tn5 tk5)
        have kS := (But.refl (· = T) wc).fill (b := T) (.inl rfl) (.int .i64 c.t) (.int .i64 c.b) (.int .i64 c.i) (.int .i64 c.f) (.int .i64 c.k) (.slice tA1 tn1 tk1) (.slice tA2 tn2 tk2) (.slice tA3 tn3 tk3) (.slice tA4 tn4 tk4) (.slice tA5 tn5 tk5)
        have f1 := XR.f1.offBut z1 kS
        have f2 := XR.f2.offBut z2 kS
        have f3 := XR.f3.offBut z3 kS
        have f4 := XR.f4.offBut z4 kS
        have f5 := XR.f5.offBut z5 kS
        refine ⟨⟨k + 1, hkm, by simp, Lib.hid ?_⟩, by simp [intOf]; omega⟩
        rw [HST.out]
        exact ⟨But.fresh G5 kS (fun i hi => by omega), HB5.out.other kS (by omega) (HV.out.cell 1 _ rfl), HZ.out.but kS (by omega), _, _, _, _, _, B2, ⟨f1, f2, f3, f4, f5⟩, z1, z2, z3, z4, z5⟩
    · obtain rfl : k = m := by omega
      have ed : decide (k < k) = false := decide_eq_false (by omega)
      obtain ⟨G, B, BZ, s1, s2, s3, s4, s5, V⟩ := HS.out
      have VR := V.2.1
      obtain ⟨A1, n1, k1, rfl⟩ := VR.f1.slice
      obtain ⟨A2, n2, k2, rfl⟩ := VR.f2.slice
      obtain ⟨A3, n3, k3, rfl⟩ := VR.f3.slice
      obtain ⟨A4, n4, k4, rfl⟩ := VR.f4.slice
      obtain ⟨A5, n5, k5, rfl⟩ := VR.f5.slice
      have HB := Lib.hid B; have HZ := Lib.hid BZ; have HV := Lib.hid V
      clear B BZ V VR HS
      go_wp2_with fail
      refine wp_region_planb (· = w.heap.size + 1) (.one [0, 1, 2] 3 (.fin [4])) (by kernel_rfl) (by kernel_rfl) (by kernel_rfl) ?_
      intro w5 g5
      have d0 : ∀ g : ButW (· = w.heap.size + 1) w5, g.w.cell? ⟨T, 0, none⟩ = some (.int .i64 c.t) := ButW.cell (show ¬ T = w.heap.size + 1 by omega) (gcell g5 (HV.out.1.cell 0 _ rfl))
      have d1 : ∀ g : ButW (· = w.heap.size + 1) w5, g.w.cell? ⟨T, 1, none⟩ = some (.int .i64 c.b) := ButW.cell (show ¬ T = w.heap.size + 1 by omega) (gcell g5 (HV.out.1.cell 1 _ rfl))
      have d2 : ∀ g : ButW (· = w.heap.size + 1) w5, g.w.cell? ⟨T, 2, none⟩ = some (.int .i64 c.i) := ButW.cell (show ¬ T = w.heap.size + 1 by omega) (gcell g5 (HV.out.1.cell 2 _ rfl))
      have d3 : ∀ g : ButW (· = w.heap.size + 1) w5, g.w.cell? ⟨T, 3, none⟩ = some (.int .i64 c.f) := ButW.cell (show ¬ T = w.heap.size + 1 by omega) (gcell g5 (HV.out.1.cell 3 _ rfl))
      have d4 : ∀ g : ButW (· = w.heap.size + 1) w5, g.w.cell? ⟨T, 4, none⟩ = some (.int .i64 c.k) := ButW.cell (show ¬ T = w.heap.size + 1 by omega) (gcell g5 (HV.out.1.cell 4 _ rfl))
      have d5 : ∀ g : ButW (· = w.heap.size + 1) w5, g.w.cell? ⟨T, 5, none⟩ = some (.slice A1 n1 k1) := ButW.cell (show ¬ T = w.heap.size + 1 by omega) (gcell g5 (HV.out.1.cell 5 _ rfl))
      have d6 : ∀ g : ButW (· = w.heap.size + 1) w5, g.w.cell? ⟨T, 6, none⟩ = some (.slice A2 n2 k2) := ButW.cell (show ¬ T = w.heap.size + 1 by omega) (gcell g5 (HV.out.1.cell 6 _ rfl))
      have d7 : ∀ g : ButW (· = w.heap.size + 1) w5, g.w.cell? ⟨T, 7, none⟩ = some (.slice A3 n3 k3) := ButW.cell (show ¬ T = w.heap.size + 1 by omega) (gcell g5 (HV.out.1.cell 7 _ rfl))
      have d8 : ∀ g : ButW (· = w.heap.size + 1) w5, g.w.cell? ⟨T, 8, none⟩ = some (.slice A4 n4 k4) := ButW.cell (show ¬ T = w.heap.size + 1 by omega) (gcell g5 (HV.out.1.cell 8 _ rfl))
      have d9 : ∀ g : ButW (· = w.heap.size + 1) w5, g.w.cell? ⟨T, 9, none⟩ = some (.slice A5 n5 k5) := ButW.cell (show ¬ T = w.heap.size + 1 by omega) (gcell g5 (HV.out.1.cell 9 _ rfl))
      refine plan_one ?_
      simp only [nths, nth, List.map_cons, List.map_nil, List.getD_cons_zero, List.getD_cons_succ]
      repeat go_big_quiet_step (fail)
      refine wpQuiet_nil ?_
      clear d0 d1 d2 d3 d4 d5 d6 d7 d8 d9
      have HZ5 := Lib.hid (HZ.out.grown g5)
      have c0 := HZ5.out.cell 0 _ rfl; have qc0 := HZ5.out.free 0
      have c1 := HZ5.out.cell 1 _ rfl; have qc1 := HZ5.out.free 1
      have c2 := HZ5.out.cell 2 _ rfl; have qc2 := HZ5.out.free 2
      have c3 := HZ5.out.cell 3 _ rfl; have qc3 := HZ5.out.free 3
      have c4 := HZ5.out.cell 4 _ rfl; have qc4 := HZ5.out.free 4
      have c5 := HZ5.out.cell 5 _ rfl; have qc5 := HZ5.out.free 5
      have c6 := HZ5.out.cell 6 _ rfl; have qc6 := HZ5.out.free 6
      have c7 := HZ5.out.cell 7 _ rfl; have qc7 := HZ5.out.free 7
      have c8 := HZ5.out.cell 8 _ rfl; have qc8 := HZ5.out.free 8
      have c9 := HZ5.out.cell 9 _ rfl; have qc9 := HZ5.out.free 9
      have hlt := HZ5.out.lt
      go_wp2_with fail
      have B2 := HZ5.out.fill rfl (.int .i64 c.t) (.int .i64 c.b) (.int .i64 c.i) (.int .i64 c.f) (.int .i64 c.k) (.slice A1 n1 k1) (.slice A2 n2 k2) (.slice A3 n3 k3) (.slice A4 n4 k4) (.slice A5 n5 k5)
      have kS := (But.refl (· = w.heap.size + 1) w5).fill (b := w.heap.size + 1) (.inl rfl) (.int .i64 c.t) (.int .i64 c.b) (.int .i64 c.i) (.int .i64 c.f) (.int .i64 c.k) (.slice A1 n1 k1) (.slice A2 n2 k2) (.slice A3 n3 k3) (.slice A4 n4 k4) (.slice A5 n5 k5)
      have B5 := (HB.out.grown g5).other kS (by omega) (HZ5.out.cell 1 _ rfl)
      have R5 := (HV.out.2.1.grown g5).but kS (fun i hi e => by have q1 := HB.out.o1; have q2 := HB.out.o2; have q3 := HB.out.o3; have q4 := HB.out.o4; have q5 := HB.out.o5; omega)
      have gE := But.fresh (gtr G g5) kS (fun i hi => by omega)
      refine nxt_but kS (plan_fin ?_)
      clear kS c0 qc0 c1 qc1 c2 qc2 c3 qc3 c4 qc4 c5 qc5 c6 qc6 c7 qc7 c8 qc8 c9 qc9
      simp only [nths, nth, List.map_cons, List.map_nil, List.getD_cons_zero, List.getD_cons_succ]
      repeat go_big_quiet_step (fail)
      refine wpQuiet_nil ?_
      have e0 := B2.cell 0 _ rfl
      have e1 := B2.cell 1 _ rfl
      have e2 := B2.cell 2 _ rfl
      have e3 := B2.cell 3 _ rfl
      have e4 := B2.cell 4 _ rfl
      have e5 := B2.cell 5 _ rfl
      have e6 := B2.cell 6 _ rfl
      have e7 := B2.cell 7 _ rfl
      have e8 := B2.cell 8 _ rfl
      have e9 := B2.cell 9 _ rfl
      go_wp2_with fail
      refine bodyPost_ret (v := .tuple #[.pointer (some ⟨a.p, 0, none⟩), RV c (.slice A1 n1 k1) (.slice A2 n2 k2) (.slice A3 n3 k3) (.slice A4 n4 k4) (.slice A5 n5 k5), .bool true]) (by simp [results, Try.results10, go_sem, RV, e0, e1, e2, e3, e4, e5, e6, e7, e8, e9]) rfl ?_
      exact ⟨a, _, _, _, _, _, rfl, gE, B5, R5, by omega⟩
end Go.Proofs.Ytcoemkgkdkijdaa
