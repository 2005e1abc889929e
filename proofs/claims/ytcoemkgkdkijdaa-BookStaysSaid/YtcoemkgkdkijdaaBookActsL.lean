/- The laws of package book, walked: whatever calls are begun, and nodes made. -/
import Derived.Test.YtcoemkgkdkijdaaBookFew
import Derived.Test.YtcoemkgkdkijdaaBookRun
namespace Go.Proofs.Ytcoemkgkdkijdaa
open Go.ChangeShapes Go.WideShapes Go.ChangeAt Go.RowKit
set_option maxRecDepth 100000
set_option linter.unusedVariables false

theorem Carried_v (w : World) (c : Cf) (a : Ad) (s : St) (h : BookAt w c a s) (hI : Inv c s) (x v : Int) (hv : carriedOf (lookI s.nodes x) = v) :
    Calls Try.prog 15 #[.pointer (some ⟨a.p, 0, none⟩), .int .i64 x] w fun e w' => e = .returned (.int .i64 v) ∧ Grown w w' := by
  subst hv
  exact Carried_at w c a s h hI x _ rfl
theorem Var.grown {wr w' : World} {c : Cf} {a : Ad} {T : Nat} {s : St} {s1 s2 s3 s4 s5 : Value} (h : Var wr c a T s s1 s2 s3 s4 s5) (g : Grown wr w') : Var w' c a T s s1 s2 s3 s4 s5 := ⟨h.1.grown g, h.2.1.grown g, h.2.2⟩
/-- What holds while all is asked. -/
def LI (w wr : World) (c : Cf) (a : Ad) (T : Nat) (s : St) (s1 s2 s3 s4 s5 : Value) : Prop :=
  Grown w wr ∧ BookAt wr c a s ∧ Var wr c a T s s1 s2 s3 s4 s5 ∧ Box wr w.heap.size [.int .i64 c.t, .int .i64 c.b, .int .i64 c.i, .int .i64 c.f, .int .i64 c.k]

set_option maxHeartbeats 8000000 in
theorem law_BookActs0 (w : World) (c : Cf) (hok : c.Ok) (hf : bFew c.t c.b c.i c.f c.k = true) (A : Option Addr) (bb off m cap : Nat) (act : Nat → ActV) (hA : 0 < m → A = some ⟨bb, off, none⟩) (ha : ActsAt w bb off m act) (hm : m ≤ 30) :
    Calls Try.prog 3 #[c.v, .slice A m cap] w fun e w' => e = .returned (.bool true) ∧ Grown w w' := by
  have HOK := Lib.hid hok
  have HF := Lib.hid hf
  have HA := Lib.hid ha
  have HAd := Lib.hid hA
  have HN : Hid (zNodes c.t c.b c.i c.f c.k = ((c.nodes : Nat) : Int)) := Lib.hid ((if_pos hok.z).trans (by simp [Cf.nodes]))
  have hnod : c.nodes ≤ 99999 := by have h1 := hok.tk; have h2 := hok.b64; unfold Cf.nodes; omega
  have em : decide (30 < m) = false := decide_eq_false (by omega)
  clear hok hf ha hA
  unfold Cf.v
  go_enter Try.func3, Try.ntmps3
  go_wp2_with fail
  refine (awake_any _).mono ?_; rintro e w0 ⟨rfl, g0⟩
  have B := (Box.made w [.int .i64 c.t, .int .i64 c.b, .int .i64 c.i, .int .i64 c.f, .int .i64 c.k] 23).grown g0
  have a0 := B.cell 0 _ rfl
  have a1 := B.cell 1 _ rfl
  have a2 := B.cell 2 _ rfl
  have a3 := B.cell 3 _ rfl
  have a4 := B.cell 4 _ rfl
  have HB := Lib.hid B
  replace g0 : Grown w w0 := gtr (by go_grown) g0
  clear B
  go_wp2_with fail
  refine (Few_at _ _ _ _ _ _ _ HF.out).mono ?_; rintro e w1 ⟨rfl, g1⟩
  replace HB := Lib.hid (HB.out.grown g1)
  clear a0 a1 a2 a3 a4
  have a0 := HB.out.cell 0 _ rfl
  have a1 := HB.out.cell 1 _ rfl
  have a2 := HB.out.cell 2 _ rfl
  have a3 := HB.out.cell 3 _ rfl
  have a4 := HB.out.cell 4 _ rfl
  replace g1 := gtr g0 g1; clear g0
  go_wp2_with fail
  refine (run_at _ c HOK.out A bb off m cap act HAd.out (HA.out.grown g1) hm).mono ?_; rintro e w2 ⟨a, s1, s2, s3, s4, s5, rfl, g2, h2, R2, hlo⟩
  replace HB := Lib.hid (HB.out.grown g2)
  clear a0 a1 a2 a3 a4
  have a0 := HB.out.cell 0 _ rfl
  have a1 := HB.out.cell 1 _ rfl
  have a2 := HB.out.cell 2 _ rfl
  have a3 := HB.out.cell 3 _ rfl
  have a4 := HB.out.cell 4 _ rfl
  replace g2 := gtr g1 g2; clear g1
  obtain ⟨A1, n1, k1, rfl⟩ := R2.f1.slice
  obtain ⟨A2, n2, k2, rfl⟩ := R2.f2.slice
  obtain ⟨A3, n3, k3, rfl⟩ := R2.f3.slice
  obtain ⟨A4, n4, k4, rfl⟩ := R2.f4.slice
  obtain ⟨A5, n5, k5, rfl⟩ := R2.f5.slice
  have HI := Lib.hid (stA_inv c act m)
  obtain ⟨N1, N2⟩ := stA_len c act m
  generalize stA c act m = s at *
  simp only [RV]
  have HS : Hid (LI w (w2.alloc (.cells #[.int .i64 c.t, .int .i64 c.b, .int .i64 c.i, .int .i64 c.f, .int .i64 c.k, .slice A1 n1 k1, .slice A2 n2 k2, .slice A3 n3 k3, .slice A4 n4 k4, .slice A5 n5 k5] 32)) c a w2.heap.size s (.slice A1 n1 k1) (.slice A2 n2 k2) (.slice A3 n3 k3) (.slice A4 n4 k4) (.slice A5 n5 k5)) := Lib.hid ⟨g2.alloc _ _, h2.grown ((Grown.refl _).alloc _ _), ⟨Box.made w2 [.int .i64 c.t, .int .i64 c.b, .int .i64 c.i, .int .i64 c.f, .int .i64 c.k, .slice A1 n1 k1, .slice A2 n2 k2, .slice A3 n3 k3, .slice A4 n4 k4, .slice A5 n5 k5] _, R2.grown ((Grown.refl _).alloc _ _), R2.f1.off (vNat_ne HI.out.l1) (Nat.le_refl _), R2.f2.off (vNat_ne HI.out.l2) (Nat.le_refl _), R2.f3.off (vNat_ne HI.out.l3) (Nat.le_refl _), R2.f4.off flatC_ne (Nat.le_refl _), R2.f5.off flatN_ne (Nat.le_refl _)⟩, HB.out.grown ((Grown.refl _).alloc _ _)⟩
  clear R2 h2 g2 HB hlo a0 a1 a2 a3 a4
  go_wp2_with fail
  generalize w2.alloc (.cells #[.int .i64 c.t, .int .i64 c.b, .int .i64 c.i, .int .i64 c.f, .int .i64 c.k, .slice A1 n1 k1, .slice A2 n2 k2, .slice A3 n3 k3, .slice A4 n4 k4, .slice A5 n5 k5] 32) = w3 at *
  obtain ⟨T, hT⟩ : ∃ T, w2.heap.size = T := ⟨_, rfl⟩
  rw [hT] at HS ⊢
  clear hT
  go_loopw [9] (fun v wr => ∃ j : Nat, j ≤ c.nodes + 2 ∧ v = .int .i64 ((j : Int) - 1) ∧ Hid (LI w wr c a T s (.slice A1 n1 k1) (.slice A2 n2 k2) (.slice A3 n3 k3) (.slice A4 n4 k4) (.slice A5 n5 k5))) (fun v _ => c.nodes + 3 - (intOf v + 1).toNat)
  case atStart => exact ⟨0, Nat.zero_le _, rfl, HS⟩
  case round =>
    obtain ⟨j, hj, rfl, HS⟩ := hrel
    obtain ⟨i, hi⟩ : ∃ i : Int, (j : Int) - 1 = i := ⟨_, rfl⟩
    rw [hi]
    have HII := Lib.hid hi
    obtain ⟨G, B, V, C⟩ := HS.out
    have HB := Lib.hid B; have HV := Lib.hid V; have HC := Lib.hid C
    clear B V C HS
    have a0 := HC.out.cell 0 _ rfl
    have a1 := HC.out.cell 1 _ rfl
    have a2 := HC.out.cell 2 _ rfl
    have a3 := HC.out.cell 3 _ rfl
    have a4 := HC.out.cell 4 _ rfl
    go_wp2_with fail
    refine (rNodes_at _ _ _ _ _ _ _ HN.out).mono ?_; rintro e wn ⟨rfl, m1⟩
    clear a0 a1 a2 a3 a4
    replace G := gtr G m1
    replace HB := Lib.hid (HB.out.grown m1)
    replace HV := Lib.hid (HV.out.grown m1)
    replace HC := Lib.hid (HC.out.grown m1)
    clear m1
    by_cases hjn : j ≤ c.nodes + 1
    · have ed : decide (i ≤ (c.nodes : Int)) = true := decide_eq_true (by omega)
      have hi1 : -1 ≤ i := by omega
      have hi2 : i ≤ 100000 := by omega
      clear hi
      obtain ⟨ob, ho⟩ : ∃ o, lookI s.ops i = o := ⟨_, rfl⟩
      have HO := Lib.hid ho
      obtain ⟨q, hq⟩ : ∃ q, ob.getD Cal.zero = q := ⟨_, rfl⟩
      have HQ := Lib.hid hq
      obtain ⟨eo, heo⟩ : ∃ eo, errOf ob = eo := ⟨_, rfl⟩
      have HEO := Lib.hid heo
      obtain ⟨v1, hv1⟩ : ∃ v, CallsOf c s i = v := ⟨_, rfl⟩
      obtain ⟨v2, hv2⟩ : ∃ v, MadeOf c s i = v := ⟨_, rfl⟩
      obtain ⟨cv, hcv⟩ : ∃ v, carriedOf (lookI s.nodes i) = v := ⟨_, rfl⟩
      obtain ⟨kv, hkv⟩ : ∃ v, keyOf_ s i = v := ⟨_, rfl⟩
      have H1 := Lib.hid hv1; have H2 := Lib.hid hv2; have H3 := Lib.hid hcv; have H4 := Lib.hid hkv
      clear ho hq heo hv1 hv2 hcv hkv
      go_wp2_with fail
      refine (Call_at _ c a s HB.out HI.out i ob HO.out).mono ?_; rintro e w5 ⟨rfl, m2⟩
      rw [HQ.out, HEO.out]
      simp only [Cal.v]
      replace G := gtr G m2
      replace HB := Lib.hid (HB.out.grown m2)
      replace HV := Lib.hid (HV.out.grown m2)
      replace HC := Lib.hid (HC.out.grown m2)
      clear m2
      have t0 := HV.out.1.cell 0 _ rfl
      have t1 := HV.out.1.cell 1 _ rfl
      have t2 := HV.out.1.cell 2 _ rfl
      have t3 := HV.out.1.cell 3 _ rfl
      have t4 := HV.out.1.cell 4 _ rfl
      have t5 := HV.out.1.cell 5 _ rfl
      have t6 := HV.out.1.cell 6 _ rfl
      have t7 := HV.out.1.cell 7 _ rfl
      have t8 := HV.out.1.cell 8 _ rfl
      have t9 := HV.out.1.cell 9 _ rfl
      have hTl := HV.out.1.lt
      go_wp2_with fail
      refine (rCall_at _ a.hi c s _ _ _ _ _ (HV.out.2.1.grown (by go_grown)) HOK.out (by omega) i ob HO.out).mono ?_; rintro e w6 ⟨rfl, m3⟩
      rw [HQ.out, HEO.out]
      simp only [Cal.v]
      have y0 : w6.cell? ⟨w5.heap.size, 0, none⟩ = some (.int .i64 q.kind) := gcell m3 (by simp)
      have y1 : w6.cell? ⟨w5.heap.size, 1, none⟩ = some (.int .u64 q.key) := gcell m3 (by simp)
      have y2 : w6.cell? ⟨w5.heap.size, 2, none⟩ = some (.int .u64 q.val) := gcell m3 (by simp)
      have y3 : w6.cell? ⟨w5.heap.size, 3, none⟩ = some (.int .i64 q.lim) := gcell m3 (by simp)
      replace m3 := galloc m3
      replace G := gtr G m3
      replace HB := Lib.hid (HB.out.grown m3)
      replace HV := Lib.hid (HV.out.grown m3)
      replace HC := Lib.hid (HC.out.grown m3)
      clear m3
      clear t0 t1 t2 t3 t4 t5 t6 t7 t8 t9 hTl
      have t0 := HV.out.1.cell 0 _ rfl
      have t1 := HV.out.1.cell 1 _ rfl
      have t2 := HV.out.1.cell 2 _ rfl
      have t3 := HV.out.1.cell 3 _ rfl
      have t4 := HV.out.1.cell 4 _ rfl
      have t5 := HV.out.1.cell 5 _ rfl
      have t6 := HV.out.1.cell 6 _ rfl
      have t7 := HV.out.1.cell 7 _ rfl
      have t8 := HV.out.1.cell 8 _ rfl
      have t9 := HV.out.1.cell 9 _ rfl
      have hTl := HV.out.1.lt
      have hl5 : w5.heap.size < w6.heap.size := World.block_lt_of_cell? w6 _ y0
      go_wp2_with fail
      refine (rCounts_at _ a.hi c s _ _ _ _ _ (HV.out.2.1.grown (by go_grown)) HOK.out HI.out.l1 HI.out.l3 i v1 v2 H1.out H2.out).mono ?_; rintro e w7 ⟨rfl, m4⟩
      have z0 : w7.cell? ⟨w6.heap.size, 0, none⟩ = some (.int .i64 q.kind) := gcell m4 (by simp)
      have z1 : w7.cell? ⟨w6.heap.size, 1, none⟩ = some (.int .u64 q.key) := gcell m4 (by simp)
      have z2 : w7.cell? ⟨w6.heap.size, 2, none⟩ = some (.int .u64 q.val) := gcell m4 (by simp)
      have z3 : w7.cell? ⟨w6.heap.size, 3, none⟩ = some (.int .i64 q.lim) := gcell m4 (by simp)
      replace m4 := galloc m4
      replace y0 := gcell m4 y0
      replace y1 := gcell m4 y1
      replace y2 := gcell m4 y2
      replace y3 := gcell m4 y3
      replace G := gtr G m4
      replace HB := Lib.hid (HB.out.grown m4)
      replace HV := Lib.hid (HV.out.grown m4)
      replace HC := Lib.hid (HC.out.grown m4)
      clear m4 hl5
      clear t0 t1 t2 t3 t4 t5 t6 t7 t8 t9 hTl
      go_wp2_with fail
      have f0 : (q.kind == q.kind) = true := by simp
      have f1 : (q.key == q.key) = true := by simp
      have f2 : (q.val == q.val) = true := by simp
      have f3 : (q.lim == q.lim) = true := by simp
      have f4 : (eo != eo) = false := by simp
      have f5 : (cv != cv) = false := by simp
      have f6 : (kv != kv) = false := by simp
      have f7 : ((v1 : Int) != (v1 : Int)) = false := by simp
      have f8 : ((v2 : Int) != (v2 : Int)) = false := by simp
      have y0 : ∀ g : GrW w7, g.w.cell? ⟨w5.heap.size, 0, none⟩ = some (.int .i64 q.kind) := GrW.cell y0
      have y1 : ∀ g : GrW w7, g.w.cell? ⟨w5.heap.size, 1, none⟩ = some (.int .u64 q.key) := GrW.cell y1
      have y2 : ∀ g : GrW w7, g.w.cell? ⟨w5.heap.size, 2, none⟩ = some (.int .u64 q.val) := GrW.cell y2
      have y3 : ∀ g : GrW w7, g.w.cell? ⟨w5.heap.size, 3, none⟩ = some (.int .i64 q.lim) := GrW.cell y3
      have z0 : ∀ g : GrW w7, g.w.cell? ⟨w6.heap.size, 0, none⟩ = some (.int .i64 q.kind) := GrW.cell z0
      have z1 : ∀ g : GrW w7, g.w.cell? ⟨w6.heap.size, 1, none⟩ = some (.int .u64 q.key) := GrW.cell z1
      have z2 : ∀ g : GrW w7, g.w.cell? ⟨w6.heap.size, 2, none⟩ = some (.int .u64 q.val) := GrW.cell z2
      have z3 : ∀ g : GrW w7, g.w.cell? ⟨w6.heap.size, 3, none⟩ = some (.int .i64 q.lim) := GrW.cell z3
      have t0 : ∀ g : GrW w7, g.w.cell? ⟨T, 0, none⟩ = some (.int .i64 c.t) := GrW.cell (HV.out.1.cell 0 _ rfl)
      have t1 : ∀ g : GrW w7, g.w.cell? ⟨T, 1, none⟩ = some (.int .i64 c.b) := GrW.cell (HV.out.1.cell 1 _ rfl)
      have t2 : ∀ g : GrW w7, g.w.cell? ⟨T, 2, none⟩ = some (.int .i64 c.i) := GrW.cell (HV.out.1.cell 2 _ rfl)
      have t3 : ∀ g : GrW w7, g.w.cell? ⟨T, 3, none⟩ = some (.int .i64 c.f) := GrW.cell (HV.out.1.cell 3 _ rfl)
      have t4 : ∀ g : GrW w7, g.w.cell? ⟨T, 4, none⟩ = some (.int .i64 c.k) := GrW.cell (HV.out.1.cell 4 _ rfl)
      have t5 : ∀ g : GrW w7, g.w.cell? ⟨T, 5, none⟩ = some (.slice A1 n1 k1) := GrW.cell (HV.out.1.cell 5 _ rfl)
      have t6 : ∀ g : GrW w7, g.w.cell? ⟨T, 6, none⟩ = some (.slice A2 n2 k2) := GrW.cell (HV.out.1.cell 6 _ rfl)
      have t7 : ∀ g : GrW w7, g.w.cell? ⟨T, 7, none⟩ = some (.slice A3 n3 k3) := GrW.cell (HV.out.1.cell 7 _ rfl)
      have t8 : ∀ g : GrW w7, g.w.cell? ⟨T, 8, none⟩ = some (.slice A4 n4 k4) := GrW.cell (HV.out.1.cell 8 _ rfl)
      have t9 : ∀ g : GrW w7, g.w.cell? ⟨T, 9, none⟩ = some (.slice A5 n5 k5) := GrW.cell (HV.out.1.cell 9 _ rfl)
      refine wp_region_grow (by kernel_rfl) (by kernel_rfl) ?_
      repeat (go_big_quiet_step (first | (go_at_call 15; exact grcall (Carried_v _ c a s (HB.out.grown (GrW.gr _)) HI.out i cv H3.out)) | (go_at_call 16; exact grcall (rCarried_at _ a.hi c s _ _ _ _ _ (HV.out.2.1.grown (GrW.gr _)) HOK.out (by omega) i cv H3.out)) | (go_at_call 17; exact grcall (Key_at _ c a s (HB.out.grown (GrW.gr _)) HI.out i kv H4.out)) | (go_at_call 18; exact grcall (rKey_at _ a.hi c s _ _ _ _ _ (HV.out.2.1.grown (GrW.gr _)) HOK.out (by omega) (by omega) i kv H4.out)) | (go_at_call 19; exact grcall (Calls_any _ c a s (HB.out.grown (GrW.gr _)) i v1 H1.out)) | (go_at_call 20; exact grcall (Made_any _ c a s (HB.out.grown (GrW.gr _)) i v2 H2.out))))
      refine wpQuiet_nil ?_
      rintro _ ⟨⟨w8, g8⟩, rfl⟩
      clear f0 f1 f2 f3 f4 f5 f6 f7 f8 y0 y1 y2 y3 z0 z1 z2 z3 t0 t1 t2 t3 t4 t5 t6 t7 t8 t9
      go_wp2_with fail
      have hii := HII.out
      exact ⟨⟨j + 1, by omega, by rw [show (i + 1 : Int) = ((j + 1 : Nat) : Int) - 1 by omega], Lib.hid ⟨gtr G g8, HB.out.grown g8, HV.out.grown g8, HC.out.grown g8⟩⟩, by simp [intOf]; omega⟩
    · have ed : decide (i ≤ (c.nodes : Int)) = false := decide_eq_false (by omega)
      go_wp2_with fail
      go_ret
      exact ⟨rfl, G⟩

theorem law_BookActs (t b i f k : Int) (A : Option Addr) (bb off m cap : Nat) (act : Nat → ActV) (w : World) (_ : -9223372036854775808 ≤ t) (_ : t ≤ 9223372036854775807) (_ : -9223372036854775808 ≤ b) (_ : b ≤ 9223372036854775807) (_ : -9223372036854775808 ≤ i) (_ : i ≤ 9223372036854775807)
    (_ : -9223372036854775808 ≤ f) (_ : f ≤ 9223372036854775807) (_ : -9223372036854775808 ≤ k) (_ : k ≤ 9223372036854775807) (hA : 0 < m → A = some ⟨bb, off, none⟩) (ha : ActsAt w bb off m act) :
    Calls Try.prog 3 #[.agg #[.int .i64 t, .int .i64 b, .int .i64 i, .int .i64 f, .int .i64 k], .slice A m cap] w fun e w' => e = .returned (.bool true) ∧ Grown w w' := by
  by_cases hf : bFew t b i f k = true
  · by_cases hm : m ≤ 30
    · have hz := hf
      unfold bFew at hz
      simp only [Bool.and_eq_true] at hz
      obtain ⟨c, rfl, rfl, rfl, rfl, rfl, hok⟩ := cf_of hz.1
      exact law_BookActs0 w c hok hf A bb off m cap act hA ha hm
    · have HF := Lib.hid hf
      have em : decide (30 < m) = true := decide_eq_true (by omega)
      clear hf ha hA
      go_enter Try.func3, Try.ntmps3
      go_wp2_with fail
      refine (awake_any _).mono ?_; rintro e w0 ⟨rfl, g0⟩
      have B := (Box.made w [.int .i64 t, .int .i64 b, .int .i64 i, .int .i64 f, .int .i64 k] 23).grown g0
      have a0 := B.cell 0 _ rfl; have a1 := B.cell 1 _ rfl; have a2 := B.cell 2 _ rfl; have a3 := B.cell 3 _ rfl; have a4 := B.cell 4 _ rfl
      replace g0 : Grown w w0 := gtr (by go_grown) g0
      clear B
      go_wp2_with fail
      refine (Few_at _ _ _ _ _ _ _ HF.out).mono ?_; rintro e w1 ⟨rfl, g1⟩
      go_wp2_with fail
      go_ret
      exact ⟨rfl, gtr g0 g1⟩
  · have HF : Hid (bFew t b i f k = false) := Lib.hid (Bool.eq_false_iff.2 hf)
    clear hf ha hA
    go_enter Try.func3, Try.ntmps3
    go_wp2_with fail
    refine (awake_any _).mono ?_; rintro e w0 ⟨rfl, g0⟩
    have B := (Box.made w [.int .i64 t, .int .i64 b, .int .i64 i, .int .i64 f, .int .i64 k] 23).grown g0
    have a0 := B.cell 0 _ rfl; have a1 := B.cell 1 _ rfl; have a2 := B.cell 2 _ rfl; have a3 := B.cell 3 _ rfl; have a4 := B.cell 4 _ rfl
    replace g0 : Grown w w0 := gtr (by go_grown) g0
    clear B
    go_wp2_with fail
    refine (Few_at _ _ _ _ _ _ _ HF.out).mono ?_; rintro e w1 ⟨rfl, g1⟩
    go_wp2_with fail
    go_ret
    exact ⟨rfl, gtr g0 g1⟩
end Go.Proofs.Ytcoemkgkdkijdaa
