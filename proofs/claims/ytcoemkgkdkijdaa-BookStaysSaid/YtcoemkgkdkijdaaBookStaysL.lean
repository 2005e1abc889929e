/- The laws of package book, walked: what was written down stays. -/
import Derived.Test.YtcoemkgkdkijdaaBookActsL
namespace Go.Proofs.Ytcoemkgkdkijdaa
open Go.ChangeShapes Go.WideShapes Go.ChangeAt Go.RowKit
set_option maxRecDepth 100000
set_option linter.unusedVariables false

/-- What stands behind so many more acts. -/
def stF (c : Cf) (s : St) (act : Nat → ActV) : Nat → St
  | 0 => s
  | k + 1 => (actI c (stF c s act k) (act k)).1
theorem stF_inv {c : Cf} {s : St} (h : Inv c s) (act : Nat → ActV) : ∀ k, Inv c (stF c s act k)
  | 0 => h
  | k + 1 => (stF_inv h act k).actI _
theorem stF_stays (c : Cf) (s : St) (act : Nat → ActV) : ∀ k, Stays s (stF c s act k)
  | 0 => Stays.refl s
  | k + 1 => (stF_stays c s act k).trans (act_stays c _ (act k))
theorem FlatAt.isSlice' {w : World} {lo n : Nat} {v : Value} {cells : List Value} (h : FlatAt w lo v cells n) : ∃ A k, v = .slice A n k := by
  rcases h with ⟨rfl, -, rfl⟩ | ⟨-, g, cap, rfl, -⟩ <;> exact ⟨_, _, rfl⟩
theorem Var.but {wr w' : World} {c : Cf} {a : Ad} {T : Nat} {s : St} {s1 s2 s3 s4 s5 : Value} (h : Var wr c a T s s1 s2 s3 s4 s5) (q : But (Own a) wr w') (hT : a.hi ≤ T) : Var w' c a T s s1 s2 s3 s4 s5 :=
  ⟨h.1.but q (fun h => by have := h.2; omega), h.2.1.but q (fun i hi h => by have := h.2; omega), h.2.2⟩
/-- What holds while more is done, and all is asked. -/
def LS (w wr : World) (c : Cf) (a : Ad) (T : Nat) (s s' : St) (s1 s2 s3 s4 s5 : Value) : Prop :=
  Grown w wr ∧ BookAt wr c a s' ∧ Var wr c a T s s1 s2 s3 s4 s5
theorem LS.grown {w wr w' : World} {c : Cf} {a : Ad} {T : Nat} {s s' : St} {s1 s2 s3 s4 s5 : Value} (h : LS w wr c a T s s' s1 s2 s3 s4 s5) (g : Grown wr w') : LS w w' c a T s s' s1 s2 s3 s4 s5 := ⟨gtr h.1 g, h.2.1.grown g, h.2.2.grown g⟩

set_option maxHeartbeats 8000000 in
theorem law_BookStays0 (w : World) (c : Cf) (hok : c.Ok) (hf : bFew c.t c.b c.i c.f c.k = true) (A : Option Addr) (bb off m cap : Nat) (act : Nat → ActV) (hA : 0 < m → A = some ⟨bb, off, none⟩) (ha : ActsAt w bb off m act) (hm : m ≤ 30)
    (A' : Option Addr) (bb' off' m' cap' : Nat) (act' : Nat → ActV) (hA' : 0 < m' → A' = some ⟨bb', off', none⟩) (ha' : ActsAt w bb' off' m' act') (hm' : m' ≤ 30) :
    Calls Try.prog 5 #[c.v, .slice A m cap, .slice A' m' cap'] w fun e w' => e = .returned (.bool true) ∧ Grown w w' := by
  have HOK := Lib.hid hok
  have HF := Lib.hid hf
  have HA := Lib.hid ha
  have HAd := Lib.hid hA
  have HA2 := Lib.hid ha'
  have HAd2 := Lib.hid hA'
  have em : decide (30 < m) = false := decide_eq_false (by omega)
  have em2 : decide (30 < m') = false := decide_eq_false (by omega)
  clear hok hf ha hA ha' hA'
  unfold Cf.v
  go_enter Try.func5, Try.ntmps5
  go_wp2_with fail
  refine (awake_any _).mono ?_; rintro e w0 ⟨rfl, g0⟩
  have B := (Box.made w [.int .i64 c.t, .int .i64 c.b, .int .i64 c.i, .int .i64 c.f, .int .i64 c.k] 23).grown g0
  have a0 := B.cell 0 _ rfl
  have a1 := B.cell 1 _ rfl
  have a2 := B.cell 2 _ rfl
  have a3 := B.cell 3 _ rfl
  have a4 := B.cell 4 _ rfl
  have HB := Lib.hid B
  replace g0 : Grown w w0 := gtr (by go_grown) g0
  clear B
  go_wp2_with fail
  refine (Few_at _ _ _ _ _ _ _ HF.out).mono ?_; rintro e w1 ⟨rfl, g1⟩
  replace HB := Lib.hid (HB.out.grown g1)
  clear a0 a1 a2 a3 a4
  have a0 := HB.out.cell 0 _ rfl
  have a1 := HB.out.cell 1 _ rfl
  have a2 := HB.out.cell 2 _ rfl
  have a3 := HB.out.cell 3 _ rfl
  have a4 := HB.out.cell 4 _ rfl
  replace g1 := gtr g0 g1; clear g0
  go_wp2_with fail
  refine (run_at _ c HOK.out A bb off m cap act HAd.out (HA.out.grown g1) hm).mono ?_; rintro e w2 ⟨a, s1, s2, s3, s4, s5, rfl, g2, h2, R2, hlo⟩
  have hl0 : w.heap.size ≤ a.lo := Nat.le_trans g1.2.2 hlo
  replace g2 := gtr g1 g2; clear g1 HB a0 a1 a2 a3 a4 hlo
  have HI := Lib.hid (stA_inv c act m)
  obtain ⟨N1, N2⟩ := stA_len c act m
  generalize stA c act m = s at *
  obtain ⟨A1, n1, k1, rfl⟩ := R2.f1.slice
  obtain ⟨A2, n2, k2, rfl⟩ := R2.f2.slice
  obtain ⟨A3, n3, k3, rfl⟩ := R2.f3.slice
  obtain ⟨A4, k4, rfl⟩ := R2.f4.isSlice'
  obtain ⟨A5, k5, rfl⟩ := R2.f5.isSlice'
  simp only [RV]
  have HS : Hid (LS w (w2.alloc (.cells #[.int .i64 c.t, .int .i64 c.b, .int .i64 c.i, .int .i64 c.f, .int .i64 c.k, .slice A1 n1 k1, .slice A2 n2 k2, .slice A3 n3 k3, .slice A4 s.ops.length k4, .slice A5 s.nodes.length k5] 32)) c a w2.heap.size s (stF c s act' 0) (.slice A1 n1 k1) (.slice A2 n2 k2) (.slice A3 n3 k3) (.slice A4 s.ops.length k4) (.slice A5 s.nodes.length k5)) := Lib.hid ⟨g2.alloc _ _, h2.grown ((Grown.refl _).alloc _ _), Box.made w2 [.int .i64 c.t, .int .i64 c.b, .int .i64 c.i, .int .i64 c.f, .int .i64 c.k, .slice A1 n1 k1, .slice A2 n2 k2, .slice A3 n3 k3, .slice A4 s.ops.length k4, .slice A5 s.nodes.length k5] _, R2.grown ((Grown.refl _).alloc _ _), R2.f1.off (vNat_ne HI.out.l1) (Nat.le_refl _), R2.f2.off (vNat_ne HI.out.l2) (Nat.le_refl _), R2.f3.off (vNat_ne HI.out.l3) (Nat.le_refl _), R2.f4.off flatC_ne (Nat.le_refl _), R2.f5.off flatN_ne (Nat.le_refl _)⟩
  have hT3 : a.hi ≤ w2.heap.size := h2.o6
  clear R2 h2 g2
  go_wp2_with fail
  generalize w2.alloc (.cells #[.int .i64 c.t, .int .i64 c.b, .int .i64 c.i, .int .i64 c.f, .int .i64 c.k, .slice A1 n1 k1, .slice A2 n2 k2, .slice A3 n3 k3, .slice A4 s.ops.length k4, .slice A5 s.nodes.length k5] 32) = w3 at *
  obtain ⟨T, hT⟩ : ∃ T, w2.heap.size = T := ⟨_, rfl⟩
  rw [hT] at HS hT3 ⊢
  clear hT
  go_loopw [11] (fun v wr => ∃ k : Nat, k ≤ m' ∧ v = .int .i64 k ∧ Hid (LS w wr c a T s (stF c s act' k) (.slice A1 n1 k1) (.slice A2 n2 k2) (.slice A3 n3 k3) (.slice A4 s.ops.length k4) (.slice A5 s.nodes.length k5))) (fun v _ => m' - (intOf v).toNat)
  case atStart => exact ⟨0, Nat.zero_le _, rfl, HS⟩
  case round =>
    obtain ⟨k, hk, rfl, HS⟩ := hrel
    by_cases hkm : k < m'
    · obtain rfl : A' = some ⟨bb', off', none⟩ := HAd2.out (by omega)
      clear HAd2
      have HI2 := Lib.hid (stF_inv HI.out act' k)
      have HST : Hid (stF c s act' (k + 1) = (actI c (stF c s act' k) (act' k)).1) := Lib.hid rfl
      generalize stF c s act' k = s' at *
      obtain ⟨r, hr⟩ : ∃ r, actI c s' (act' k) = r := ⟨_, rfl⟩
      rw [hr] at HST
      have HR := Lib.hid hr
      clear hr
      obtain ⟨rs, p1, p2⟩ := r
      obtain ⟨G, B, V⟩ := HS.out
      have HB := Lib.hid B; have HV := Lib.hid V
      clear B V HS
      have e0 : wr.cell? ⟨bb', off' + k * 7, none⟩ = some (.bool (act' k).made) := (HA2.out.grown G) k hkm 0 _ rfl
      have e1 : wr.cell? ⟨bb', off' + k * 7 + 1, none⟩ = some (.int .i64 (act' k).th) := (HA2.out.grown G) k hkm 1 _ rfl
      have e2 : wr.cell? ⟨bb', off' + k * 7 + 2, none⟩ = some (.int .i64 (act' k).op) := (HA2.out.grown G) k hkm 2 _ rfl
      have e3 : wr.cell? ⟨bb', off' + k * 7 + 3, none⟩ = some (.int .i64 (act' k).x.kind) := (HA2.out.grown G) k hkm 3 _ rfl
      have e4 : wr.cell? ⟨bb', off' + k * 7 + 4, none⟩ = some (.int .u64 (act' k).x.key) := (HA2.out.grown G) k hkm 4 _ rfl
      have e5 : wr.cell? ⟨bb', off' + k * 7 + 5, none⟩ = some (.int .u64 (act' k).x.val) := (HA2.out.grown G) k hkm 5 _ rfl
      have e6 : wr.cell? ⟨bb', off' + k * 7 + 6, none⟩ = some (.int .i64 (act' k).x.lim) := (HA2.out.grown G) k hkm 6 _ rfl
      have ed : decide (k < m') = true := decide_eq_true hkm
      go_wp2_with fail
      refine (do_any _ c a s' HB.out HI2.out (act' k) (rs, p1, p2) HR.out).mono ?_; rintro e w5 ⟨rfl, q5, h5⟩
      clear e0 e1 e2 e3 e4 e5 e6
      go_wp2_with fail
      exact ⟨⟨k + 1, hkm, by simp, Lib.hid ⟨own_fresh G q5 hl0, by rw [HST.out]; exact h5, HV.out.but q5 hT3⟩⟩, by simp [intOf]; omega⟩
    · obtain rfl : k = m' := by omega
      have ed : decide (k < k) = false := decide_eq_false (by omega)
      have HI2 := Lib.hid (stF_inv HI.out act' k)
      have HY := Lib.hid (stF_stays c s act' k)
      generalize stF c s act' k = s' at *
      clear hkm
      go_wp2_with fail
      go_loopw [12] (fun v wr => ∃ j : Nat, j ≤ s.ops.length ∧ v = .int .i64 j ∧ Hid (LS w wr c a T s s' (.slice A1 n1 k1) (.slice A2 n2 k2) (.slice A3 n3 k3) (.slice A4 s.ops.length k4) (.slice A5 s.nodes.length k5))) (fun v _ => s.ops.length - (intOf v).toNat)
      case atStart => exact ⟨0, Nat.zero_le _, rfl, HS⟩
      case round =>
        obtain ⟨j, hj, rfl, HS⟩ := hrel
        have t8 := HS.out.2.2.1.cell 8 _ rfl
        by_cases hjn : j < s.ops.length
        · have ej : decide (j < s.ops.length) = true := decide_eq_true hjn
          obtain ⟨y, hy⟩ : ∃ y, s.ops[j]? = some y := ⟨_, List.getElem?_eq_getElem hjn⟩
          have HL : Hid (lookI s'.ops (y.1 : Int) = some y.2) := Lib.hid (by rw [lookI_nat]; exact HY.out.1 _ _ (look_of_nodup HI.out.d1 hy))
          obtain ⟨G0, kk, hg4, -, hc4⟩ := HS.out.2.2.2.1.f4.some (by omega)
          simp only [Value.slice.injEq, true_and] at hg4
          obtain ⟨rfl, rfl⟩ := hg4
          have x0 : wr.cell? ⟨G0, j * 5, none⟩ = some (.int .i64 (y.1 : Int)) := hc4 _ _ (flat_at (k := 5) (o := 0) (fun _ => rfl) (by decide) s.ops j y hy)
          have x1 : wr.cell? ⟨G0, j * 5 + 1, none⟩ = some (.int .i64 y.2.kind) := hc4 _ _ (flat_at (k := 5) (o := 1) (fun _ => rfl) (by decide) s.ops j y hy)
          have x2 : wr.cell? ⟨G0, j * 5 + 1 + 1, none⟩ = some (.int .u64 y.2.key) := hc4 _ _ (flat_at (k := 5) (o := 2) (fun _ => rfl) (by decide) s.ops j y hy)
          have x3 : wr.cell? ⟨G0, j * 5 + 1 + 2, none⟩ = some (.int .u64 y.2.val) := hc4 _ _ (flat_at (k := 5) (o := 3) (fun _ => rfl) (by decide) s.ops j y hy)
          have x4 : wr.cell? ⟨G0, j * 5 + 1 + 3, none⟩ = some (.int .i64 y.2.lim) := hc4 _ _ (flat_at (k := 5) (o := 4) (fun _ => rfl) (by decide) s.ops j y hy)
          clear hc4 hy
          go_wp2_with fail
          refine (Call_at _ c a s' HS.out.2.1 HI2.out _ (some y.2) HL.out).mono ?_; rintro e w5 ⟨rfl, m5⟩
          simp only [Option.getD_some, Cal.v, show errOf (some y.2) = 0 from rfl]
          replace HS := Lib.hid (HS.out.grown m5)
          replace x1 := gcell m5 x1
          replace x2 := gcell m5 x2
          replace x3 := gcell m5 x3
          replace x4 := gcell m5 x4
          clear m5 x0
          have t8 := HS.out.2.2.1.cell 8 _ rfl
          have hTl := HS.out.2.2.1.lt
          have hgl := World.block_lt_of_cell? _ _ x1
          go_wp2_with fail
          refine wp_region_plang (.fin [0, 1, 2, 3, 4, 5, 6, 7, 8, 9, 10, 11]) (by kernel_rfl) (by kernel_rfl) (by kernel_rfl) ?_
          intro w6 g6
          have d0 : ∀ g : GrW w6, g.w.cell? ⟨w5.heap.size, 0, none⟩ = some (.int .i64 y.2.kind) := GrW.cell (gcell g6 (by simp))
          have d1 : ∀ g : GrW w6, g.w.cell? ⟨w5.heap.size, 1, none⟩ = some (.int .u64 y.2.key) := GrW.cell (gcell g6 (by simp))
          have d2 : ∀ g : GrW w6, g.w.cell? ⟨w5.heap.size, 2, none⟩ = some (.int .u64 y.2.val) := GrW.cell (gcell g6 (by simp))
          have d3 : ∀ g : GrW w6, g.w.cell? ⟨w5.heap.size, 3, none⟩ = some (.int .i64 y.2.lim) := GrW.cell (gcell g6 (by simp))
          replace g6 := galloc g6
          replace HS := Lib.hid (HS.out.grown g6)
          have f8 : ∀ g : GrW w6, g.w.cell? ⟨T, 8, none⟩ = some (.slice (some ⟨G0, 0, none⟩) s.ops.length k4) := GrW.cell (HS.out.2.2.1.cell 8 _ rfl)
          have u1 : ∀ g : GrW w6, g.w.cell? ⟨G0, j * 5 + 1, none⟩ = some (.int .i64 y.2.kind) := GrW.cell (gcell g6 x1)
          have u2 : ∀ g : GrW w6, g.w.cell? ⟨G0, j * 5 + 1 + 1, none⟩ = some (.int .u64 y.2.key) := GrW.cell (gcell g6 x2)
          have u3 : ∀ g : GrW w6, g.w.cell? ⟨G0, j * 5 + 1 + 2, none⟩ = some (.int .u64 y.2.val) := GrW.cell (gcell g6 x3)
          have u4 : ∀ g : GrW w6, g.w.cell? ⟨G0, j * 5 + 1 + 3, none⟩ = some (.int .i64 y.2.lim) := GrW.cell (gcell g6 x4)
          have v0 : (y.2.kind == y.2.kind) = true := by simp
          have v1 : (y.2.key == y.2.key) = true := by simp
          have v2 : (y.2.val == y.2.val) = true := by simp
          have v3 : (y.2.lim == y.2.lim) = true := by simp
          clear t8 x1 x2 x3 x4
          refine plan_fin ?_
          simp only [nths, nth, List.map_cons, List.map_nil, List.getD_cons_zero, List.getD_cons_succ]
          repeat go_big_quiet_step (fail)
          refine wpQuiet_nil ?_
          clear d0 d1 d2 d3 f8 u1 u2 u3 u4 v0 v1 v2 v3
          go_wp2_with fail
          exact ⟨⟨j + 1, hjn, by simp, HS⟩, by simp [intOf]; omega⟩
        · obtain rfl : j = s.ops.length := by omega
          have ej : decide (s.ops.length < s.ops.length) = false := decide_eq_false (by omega)
          clear hjn
          go_wp2_with fail
          go_loopw [15] (fun v wr => ∃ j : Nat, j ≤ s.nodes.length ∧ v = .int .i64 j ∧ Hid (LS w wr c a T s s' (.slice A1 n1 k1) (.slice A2 n2 k2) (.slice A3 n3 k3) (.slice A4 s.ops.length k4) (.slice A5 s.nodes.length k5))) (fun v _ => s.nodes.length - (intOf v).toNat)
          case atStart => exact ⟨0, Nat.zero_le _, rfl, HS⟩
          case round =>
            obtain ⟨j, hj, rfl, HS⟩ := hrel
            have t9 := HS.out.2.2.1.cell 9 _ rfl
            by_cases hjn : j < s.nodes.length
            · have ej2 : decide (j < s.nodes.length) = true := decide_eq_true hjn
              obtain ⟨y, hy⟩ : ∃ y, s.nodes[j]? = some y := ⟨_, List.getElem?_eq_getElem hjn⟩
              have HL : Hid (carriedOf (lookI s'.nodes (y.1 : Int)) = (y.2 : Int)) := Lib.hid (by rw [lookI_nat, HY.out.2 _ _ (look_of_nodup HI.out.d2 hy)]; rfl)
              obtain ⟨G0, kk, hg5, -, hc5⟩ := HS.out.2.2.2.1.f5.some (by omega)
              simp only [Value.slice.injEq, true_and] at hg5
              obtain ⟨rfl, rfl⟩ := hg5
              have x0 : wr.cell? ⟨G0, j * 2, none⟩ = some (.int .i64 (y.1 : Int)) := hc5 _ _ (flat_at (k := 2) (o := 0) (fun _ => rfl) (by decide) s.nodes j y hy)
              have x1 : wr.cell? ⟨G0, j * 2 + 1, none⟩ = some (.int .i64 (y.2 : Int)) := hc5 _ _ (flat_at (k := 2) (o := 1) (fun _ => rfl) (by decide) s.nodes j y hy)
              clear hc5 hy
              have d0 : ∀ g : GrW wr, g.w.cell? ⟨T, 9, none⟩ = some (.slice (some ⟨G0, 0, none⟩) s.nodes.length k5) := GrW.cell t9
              have d1 : ∀ g : GrW wr, g.w.cell? ⟨G0, j * 2, none⟩ = some (.int .i64 (y.1 : Int)) := GrW.cell x0
              have d2 : ∀ g : GrW wr, g.w.cell? ⟨G0, j * 2 + 1, none⟩ = some (.int .i64 (y.2 : Int)) := GrW.cell x1
              have v0 : ((y.2 : Int) != (y.2 : Int)) = false := by simp
              go_wp2_with fail
              refine wp_region_grow (by kernel_rfl) (by kernel_rfl) ?_
              repeat (go_big_quiet_step ((go_at_call 15; exact grcall (Carried_v _ c a s' (HS.out.2.1.grown (GrW.gr _)) HI2.out _ _ HL.out))))
              refine wpQuiet_nil ?_
              rintro _ ⟨⟨w6, g6⟩, rfl⟩
              clear d0 d1 d2 v0 x0 x1 t9
              go_wp2_with fail
              exact ⟨⟨j + 1, hjn, by simp, Lib.hid (HS.out.grown g6)⟩, by simp [intOf]; omega⟩
            · obtain rfl : j = s.nodes.length := by omega
              have ej2 : decide (s.nodes.length < s.nodes.length) = false := decide_eq_false (by omega)
              clear hjn
              go_wp2_with fail
              go_ret
              exact ⟨rfl, HS.out.1⟩

set_option maxHeartbeats 8000000 in
theorem law_BookStays (t b i f k : Int) (A : Option Addr) (bb off m cap : Nat) (act : Nat → ActV) (A' : Option Addr) (bb' off' m' cap' : Nat) (act' : Nat → ActV) (w : World) (_ : -9223372036854775808 ≤ t) (_ : t ≤ 9223372036854775807) (_ : -9223372036854775808 ≤ b) (_ : b ≤ 9223372036854775807) (_ : -9223372036854775808 ≤ i) (_ : i ≤ 9223372036854775807)
    (_ : -9223372036854775808 ≤ f) (_ : f ≤ 9223372036854775807) (_ : -9223372036854775808 ≤ k) (_ : k ≤ 9223372036854775807) (hA : 0 < m → A = some ⟨bb, off, none⟩) (ha : ActsAt w bb off m act) (hA' : 0 < m' → A' = some ⟨bb', off', none⟩) (ha' : ActsAt w bb' off' m' act') :
    Calls Try.prog 5 #[.agg #[.int .i64 t, .int .i64 b, .int .i64 i, .int .i64 f, .int .i64 k], .slice A m cap, .slice A' m' cap'] w fun e w' => e = .returned (.bool true) ∧ Grown w w' := by
  by_cases hf : bFew t b i f k = true
  · by_cases hm : m ≤ 30
    · by_cases hm' : m' ≤ 30
      · have hz := hf
        unfold bFew at hz
        simp only [Bool.and_eq_true] at hz
        obtain ⟨c, rfl, rfl, rfl, rfl, rfl, hok⟩ := cf_of hz.1
        exact law_BookStays0 w c hok hf A bb off m cap act hA ha hm A' bb' off' m' cap' act' hA' ha' hm'
      · have HF := Lib.hid hf
        have em : decide (30 < m) = false := decide_eq_false (by omega)
        have em2 : decide (30 < m') = true := decide_eq_true (by omega)
        clear hf ha hA ha' hA'
        go_enter Try.func5, Try.ntmps5
        go_wp2_with fail
        refine (awake_any _).mono ?_; rintro e w0 ⟨rfl, g0⟩
        have B := (Box.made w [.int .i64 t, .int .i64 b, .int .i64 i, .int .i64 f, .int .i64 k] 23).grown g0
        have a0 := B.cell 0 _ rfl; have a1 := B.cell 1 _ rfl; have a2 := B.cell 2 _ rfl; have a3 := B.cell 3 _ rfl; have a4 := B.cell 4 _ rfl
        replace g0 : Grown w w0 := gtr (by go_grown) g0
        clear B
        go_wp2_with fail
        refine (Few_at _ _ _ _ _ _ _ HF.out).mono ?_; rintro e w1 ⟨rfl, g1⟩
        go_wp2_with fail
        go_ret
        exact ⟨rfl, gtr g0 g1⟩
    · have HF := Lib.hid hf
      have em : decide (30 < m) = true := decide_eq_true (by omega)
      clear hf ha hA ha' hA'
      go_enter Try.func5, Try.ntmps5
      go_wp2_with fail
      refine (awake_any _).mono ?_; rintro e w0 ⟨rfl, g0⟩
      have B := (Box.made w [.int .i64 t, .int .i64 b, .int .i64 i, .int .i64 f, .int .i64 k] 23).grown g0
      have a0 := B.cell 0 _ rfl; have a1 := B.cell 1 _ rfl; have a2 := B.cell 2 _ rfl; have a3 := B.cell 3 _ rfl; have a4 := B.cell 4 _ rfl
      replace g0 : Grown w w0 := gtr (by go_grown) g0
      clear B
      go_wp2_with fail
      refine (Few_at _ _ _ _ _ _ _ HF.out).mono ?_; rintro e w1 ⟨rfl, g1⟩
      go_wp2_with fail
      go_ret
      exact ⟨rfl, gtr g0 g1⟩
  · have HF := Lib.hid hf
    have HF0 := HF
    replace HF : Hid (bFew t b i f k = false) := Lib.hid (Bool.eq_false_iff.2 HF0.out)
    clear HF0
    clear hf ha hA ha' hA'
    go_enter Try.func5, Try.ntmps5
    go_wp2_with fail
    refine (awake_any _).mono ?_; rintro e w0 ⟨rfl, g0⟩
    have B := (Box.made w [.int .i64 t, .int .i64 b, .int .i64 i, .int .i64 f, .int .i64 k] 23).grown g0
    have a0 := B.cell 0 _ rfl; have a1 := B.cell 1 _ rfl; have a2 := B.cell 2 _ rfl; have a3 := B.cell 3 _ rfl; have a4 := B.cell 4 _ rfl
    replace g0 : Grown w w0 := gtr (by go_grown) g0
    clear B
    go_wp2_with fail
    refine (Few_at _ _ _ _ _ _ _ HF.out).mono ?_; rintro e w1 ⟨rfl, g1⟩
    go_wp2_with fail
    go_ret
    exact ⟨rfl, gtr g0 g1⟩
end Go.Proofs.Ytcoemkgkdkijdaa
