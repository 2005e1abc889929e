/- The laws of package conf hold for every input: each call of a law's function returns true, and its arguments read behind the call as they read before. -/
import Derived.Test.YtjekofjmhaehiaaLift
import Derived.Test.YtjekofjmhaehiaaConfLaws
import Derived.ProofKit
import Derived.OpenShut
namespace Go.Proofs.Ytjekofjmhaehiaa
open Go.ChangeShapes Go.WideShapes Go.ChangeAt Go.RowKit
set_option linter.unusedVariables false

theorem own : ownKnob Try.prog.godebug = none := by kernel_rfl
theorem arr5 {cs : Array Value} (h : cs.size = 5) : ∃ c0 c1 c2 c3 c4, cs = #[c0, c1, c2, c3, c4] := by
  obtain ⟨l⟩ := cs
  simp only [List.size_toArray] at h
  match l, h with
  | [c0, c1, c2, c3, c4], _ => exact ⟨c0, c1, c2, c3, c4, rfl⟩

set_option maxRecDepth 100000 in
theorem confMay_lifted (os : Os) (started : os.Started) (H : Type) (enc : TypeId × Value → H) :
    ReturnsInHanded {} Try.checked os 3 .any (Rows.confMaySpec.pre6 enc Try.prog Try.f3 Rows.confMayRow.domain false) (Rows.confMaySpec.post enc Try.prog Try.f3 false true false false) := by
  refine returnsInHanded_of_change (C := Try.checked) own started (by kernel_rfl) Try.func3
    (ChangeSpec.witness6 (enc := enc) (C := Try.checked) false ⟨#[], #[.agg #[.int .i64 0, .int .i64 0, .int .i64 0, .int .i64 0, .int .i64 0]], []⟩ 8 (by kernel_rfl) (by kernel_rfl) (by kernel_rfl) (by kernel_rfl)) ?_
  intro W base args ds gs before hval0 hW hcnd _
  have hval : ∀ (j : Nat) t v, Try.f3.params[j]? = some t → args[j]? = some v → Value.okWide Try.prog W .any base t v := hval0
  have hW' := hW
  obtain ⟨p, q, hA0, hV, rfl, hfz, hnd⟩ := hW
  have hA : DataW.TrodAll enc Try.prog W 0 (fun _ => true) true Try.f3.params.toList args.toList ds p := hA0
  rw [Try.params3] at hA hval
  obtain ⟨v0, vs0, d0, ds0, p0, q0, hargs, rfl, rfl, h0, r0⟩ := trodAll_cons hA
  obtain ⟨rfl, rfl, rfl⟩ := trodAll_nil r0
  obtain rfl : args = #[v0] := by cases args; simp_all
  obtain ⟨cs0, rfl, hs0, hc0⟩ := open_flat (n := 5) (ts := [3, 3, 3, 3, 3]) (by kernel_rfl) (by kernel_rfl) (by kernel_rfl) (hval 0 23 v0 rfl rfl)
  obtain ⟨c0_0, c0_1, c0_2, c0_3, c0_4, rfl⟩ := arr5 hs0
  obtain ⟨a0_0, rfl, w0_0⟩ := cell_int Try.underlying3 (hc0 0 _ 3 rfl rfl)
  obtain ⟨l0_0, u0_0⟩ := has_i64 w0_0
  obtain ⟨a0_1, rfl, w0_1⟩ := cell_int Try.underlying3 (hc0 1 _ 3 rfl rfl)
  obtain ⟨l0_1, u0_1⟩ := has_i64 w0_1
  obtain ⟨a0_2, rfl, w0_2⟩ := cell_int Try.underlying3 (hc0 2 _ 3 rfl rfl)
  obtain ⟨l0_2, u0_2⟩ := has_i64 w0_2
  obtain ⟨a0_3, rfl, w0_3⟩ := cell_int Try.underlying3 (hc0 3 _ 3 rfl rfl)
  obtain ⟨l0_3, u0_3⟩ := has_i64 w0_3
  obtain ⟨a0_4, rfl, w0_4⟩ := cell_int Try.underlying3 (hc0 4 _ 3 rfl rfl)
  obtain ⟨l0_4, u0_4⟩ := has_i64 w0_4
  refine (law_ConfMay a0_0 a0_1 a0_2 a0_3 a0_4 W l0_0 u0_0 l0_1 u0_1 l0_2 u0_2 l0_3 u0_3 l0_4 u0_4).mono fun e W' ⟨he, hg⟩ => ?_
  subst he
  exact ⟨_, rfl, law_post rfl (by kernel_rfl) rfl Try.underlying4 hW' rfl hg⟩

theorem confMay_proved : Rows.ConfMaySaid :=
  OpenClaim.holds_of_wide 3 Try.f3 rfl rfl rfl rfl rfl rfl rfl ⟨rfl, rfl, rfl, rfl, rfl⟩ rfl rfl rfl rfl rfl (by kernel_rfl) Try.func3 (by kernel_rfl)
    (of_decide_eq_true (by kernel_rfl)) (by unfold Func.isWrapper; first | (rw [if_pos (by decide +kernel)]; kernel_rfl) | (rw [if_neg (by decide +kernel)]; exact ⟨rfl, rfl⟩))
    (fun os started H enc _ => confMay_lifted os started H enc)

set_option maxRecDepth 100000 in
theorem confTells_lifted (os : Os) (started : os.Started) (H : Type) (enc : TypeId × Value → H) :
    ReturnsInHanded {} Try.checked os 4 .any (Rows.confTellsSpec.pre6 enc Try.prog Try.f4 Rows.confTellsRow.domain false) (Rows.confTellsSpec.post enc Try.prog Try.f4 false true false false) := by
  refine returnsInHanded_of_change (C := Try.checked) own started (by kernel_rfl) Try.func4
    (ChangeSpec.witness6 (enc := enc) (C := Try.checked) false ⟨#[], #[.agg #[.int .i64 0, .int .i64 0, .int .i64 0, .int .i64 0, .int .i64 0]], []⟩ 8 (by kernel_rfl) (by kernel_rfl) (by kernel_rfl) (by kernel_rfl)) ?_
  intro W base args ds gs before hval0 hW hcnd _
  have hval : ∀ (j : Nat) t v, Try.f4.params[j]? = some t → args[j]? = some v → Value.okWide Try.prog W .any base t v := hval0
  have hW' := hW
  obtain ⟨p, q, hA0, hV, rfl, hfz, hnd⟩ := hW
  have hA : DataW.TrodAll enc Try.prog W 0 (fun _ => true) true Try.f4.params.toList args.toList ds p := hA0
  rw [Try.params4] at hA hval
  obtain ⟨v0, vs0, d0, ds0, p0, q0, hargs, rfl, rfl, h0, r0⟩ := trodAll_cons hA
  obtain ⟨rfl, rfl, rfl⟩ := trodAll_nil r0
  obtain rfl : args = #[v0] := by cases args; simp_all
  obtain ⟨cs0, rfl, hs0, hc0⟩ := open_flat (n := 5) (ts := [3, 3, 3, 3, 3]) (by kernel_rfl) (by kernel_rfl) (by kernel_rfl) (hval 0 23 v0 rfl rfl)
  obtain ⟨c0_0, c0_1, c0_2, c0_3, c0_4, rfl⟩ := arr5 hs0
  obtain ⟨a0_0, rfl, w0_0⟩ := cell_int Try.underlying3 (hc0 0 _ 3 rfl rfl)
  obtain ⟨l0_0, u0_0⟩ := has_i64 w0_0
  obtain ⟨a0_1, rfl, w0_1⟩ := cell_int Try.underlying3 (hc0 1 _ 3 rfl rfl)
  obtain ⟨l0_1, u0_1⟩ := has_i64 w0_1
  obtain ⟨a0_2, rfl, w0_2⟩ := cell_int Try.underlying3 (hc0 2 _ 3 rfl rfl)
  obtain ⟨l0_2, u0_2⟩ := has_i64 w0_2
  obtain ⟨a0_3, rfl, w0_3⟩ := cell_int Try.underlying3 (hc0 3 _ 3 rfl rfl)
  obtain ⟨l0_3, u0_3⟩ := has_i64 w0_3
  obtain ⟨a0_4, rfl, w0_4⟩ := cell_int Try.underlying3 (hc0 4 _ 3 rfl rfl)
  obtain ⟨l0_4, u0_4⟩ := has_i64 w0_4
  refine (law_ConfTells a0_0 a0_1 a0_2 a0_3 a0_4 W l0_0 u0_0 l0_1 u0_1 l0_2 u0_2 l0_3 u0_3 l0_4 u0_4).mono fun e W' ⟨he, hg⟩ => ?_
  subst he
  exact ⟨_, rfl, law_post rfl (by kernel_rfl) rfl Try.underlying4 hW' rfl hg⟩

theorem confTells_proved : Rows.ConfTellsSaid :=
  OpenClaim.holds_of_wide 4 Try.f4 rfl rfl rfl rfl rfl rfl rfl ⟨rfl, rfl, rfl, rfl, rfl⟩ rfl rfl rfl rfl rfl (by kernel_rfl) Try.func4 (by kernel_rfl)
    (of_decide_eq_true (by kernel_rfl)) (by unfold Func.isWrapper; first | (rw [if_pos (by decide +kernel)]; kernel_rfl) | (rw [if_neg (by decide +kernel)]; exact ⟨rfl, rfl⟩))
    (fun os started H enc _ => confTells_lifted os started H enc)

set_option maxRecDepth 100000 in
theorem confLess_lifted (os : Os) (started : os.Started) (H : Type) (enc : TypeId × Value → H) :
    ReturnsInHanded {} Try.checked os 5 .any (Rows.confLessSpec.pre6 enc Try.prog Try.f5 Rows.confLessRow.domain false) (Rows.confLessSpec.post enc Try.prog Try.f5 false true false false) := by
  refine returnsInHanded_of_change (C := Try.checked) own started (by kernel_rfl) Try.func5
    (ChangeSpec.witness6 (enc := enc) (C := Try.checked) false ⟨#[], #[.agg #[.int .i64 0, .int .i64 0, .int .i64 0, .int .i64 0, .int .i64 0], .int .u8 0, .int .u16 0], []⟩ 8 (by kernel_rfl) (by kernel_rfl) (by kernel_rfl) (by kernel_rfl)) ?_
  intro W base args ds gs before hval0 hW hcnd _
  have hval : ∀ (j : Nat) t v, Try.f5.params[j]? = some t → args[j]? = some v → Value.okWide Try.prog W .any base t v := hval0
  have hW' := hW
  obtain ⟨p, q, hA0, hV, rfl, hfz, hnd⟩ := hW
  have hA : DataW.TrodAll enc Try.prog W 0 (fun _ => true) true Try.f5.params.toList args.toList ds p := hA0
  rw [Try.params5] at hA hval
  obtain ⟨v0, vs0, d0, ds0, p0, q0, hargs, rfl, rfl, h0, r0⟩ := trodAll_cons hA
  obtain ⟨v1, vs1, d1, ds1, p1, q1, rfl, rfl, rfl, h1, r1⟩ := trodAll_cons r0
  obtain ⟨v2, vs2, d2, ds2, p2, q2, rfl, rfl, rfl, h2, r2⟩ := trodAll_cons r1
  obtain ⟨rfl, rfl, rfl⟩ := trodAll_nil r2
  obtain rfl : args = #[v0, v1, v2] := by cases args; simp_all
  obtain ⟨cs0, rfl, hs0, hc0⟩ := open_flat (n := 5) (ts := [3, 3, 3, 3, 3]) (by kernel_rfl) (by kernel_rfl) (by kernel_rfl) (hval 0 23 v0 rfl rfl)
  obtain ⟨c0_0, c0_1, c0_2, c0_3, c0_4, rfl⟩ := arr5 hs0
  obtain ⟨a0_0, rfl, w0_0⟩ := cell_int Try.underlying3 (hc0 0 _ 3 rfl rfl)
  obtain ⟨l0_0, u0_0⟩ := has_i64 w0_0
  obtain ⟨a0_1, rfl, w0_1⟩ := cell_int Try.underlying3 (hc0 1 _ 3 rfl rfl)
  obtain ⟨l0_1, u0_1⟩ := has_i64 w0_1
  obtain ⟨a0_2, rfl, w0_2⟩ := cell_int Try.underlying3 (hc0 2 _ 3 rfl rfl)
  obtain ⟨l0_2, u0_2⟩ := has_i64 w0_2
  obtain ⟨a0_3, rfl, w0_3⟩ := cell_int Try.underlying3 (hc0 3 _ 3 rfl rfl)
  obtain ⟨l0_3, u0_3⟩ := has_i64 w0_3
  obtain ⟨a0_4, rfl, w0_4⟩ := cell_int Try.underlying3 (hc0 4 _ 3 rfl rfl)
  obtain ⟨l0_4, u0_4⟩ := has_i64 w0_4
  obtain ⟨a1, rfl, w1⟩ := val_int Try.underlying5 (hval 1 5 v1 rfl rfl)
  obtain ⟨l1, u1⟩ := has_u8 w1
  obtain ⟨a2, rfl, w2⟩ := val_int Try.underlying29 (hval 2 29 v2 rfl rfl)
  obtain ⟨l2, u2⟩ := has_u16 w2
  refine (law_ConfLess a0_0 a0_1 a0_2 a0_3 a0_4 a1 a2 W l0_0 u0_0 l0_1 u0_1 l0_2 u0_2 l0_3 u0_3 l0_4 u0_4 l1 u1 l2 u2).mono fun e W' ⟨he, hg⟩ => ?_
  subst he
  exact ⟨_, rfl, law_post rfl (by kernel_rfl) rfl Try.underlying4 hW' rfl hg⟩

theorem confLess_proved : Rows.ConfLessSaid :=
  OpenClaim.holds_of_wide 5 Try.f5 rfl rfl rfl rfl rfl rfl rfl ⟨rfl, rfl, rfl, rfl, rfl⟩ rfl rfl rfl rfl rfl (by kernel_rfl) Try.func5 (by kernel_rfl)
    (of_decide_eq_true (by kernel_rfl)) (by unfold Func.isWrapper; first | (rw [if_pos (by decide +kernel)]; kernel_rfl) | (rw [if_neg (by decide +kernel)]; exact ⟨rfl, rfl⟩))
    (fun os started H enc _ => confLess_lifted os started H enc)

set_option maxRecDepth 100000 in
theorem confCounts_lifted (os : Os) (started : os.Started) (H : Type) (enc : TypeId × Value → H) :
    ReturnsInHanded {} Try.checked os 6 .any (Rows.confCountsSpec.pre6 enc Try.prog Try.f6 Rows.confCountsRow.domain false) (Rows.confCountsSpec.post enc Try.prog Try.f6 false true false false) := by
  refine returnsInHanded_of_change (C := Try.checked) own started (by kernel_rfl) Try.func6
    (ChangeSpec.witness6 (enc := enc) (C := Try.checked) false ⟨#[], #[.agg #[.int .i64 0, .int .i64 0, .int .i64 0, .int .i64 0, .int .i64 0]], []⟩ 8 (by kernel_rfl) (by kernel_rfl) (by kernel_rfl) (by kernel_rfl)) ?_
  intro W base args ds gs before hval0 hW hcnd _
  have hval : ∀ (j : Nat) t v, Try.f6.params[j]? = some t → args[j]? = some v → Value.okWide Try.prog W .any base t v := hval0
  have hW' := hW
  obtain ⟨p, q, hA0, hV, rfl, hfz, hnd⟩ := hW
  have hA : DataW.TrodAll enc Try.prog W 0 (fun _ => true) true Try.f6.params.toList args.toList ds p := hA0
  rw [Try.params6] at hA hval
  obtain ⟨v0, vs0, d0, ds0, p0, q0, hargs, rfl, rfl, h0, r0⟩ := trodAll_cons hA
  obtain ⟨rfl, rfl, rfl⟩ := trodAll_nil r0
  obtain rfl : args = #[v0] := by cases args; simp_all
  obtain ⟨cs0, rfl, hs0, hc0⟩ := open_flat (n := 5) (ts := [3, 3, 3, 3, 3]) (by kernel_rfl) (by kernel_rfl) (by kernel_rfl) (hval 0 23 v0 rfl rfl)
  obtain ⟨c0_0, c0_1, c0_2, c0_3, c0_4, rfl⟩ := arr5 hs0
  obtain ⟨a0_0, rfl, w0_0⟩ := cell_int Try.underlying3 (hc0 0 _ 3 rfl rfl)
  obtain ⟨l0_0, u0_0⟩ := has_i64 w0_0
  obtain ⟨a0_1, rfl, w0_1⟩ := cell_int Try.underlying3 (hc0 1 _ 3 rfl rfl)
  obtain ⟨l0_1, u0_1⟩ := has_i64 w0_1
  obtain ⟨a0_2, rfl, w0_2⟩ := cell_int Try.underlying3 (hc0 2 _ 3 rfl rfl)
  obtain ⟨l0_2, u0_2⟩ := has_i64 w0_2
  obtain ⟨a0_3, rfl, w0_3⟩ := cell_int Try.underlying3 (hc0 3 _ 3 rfl rfl)
  obtain ⟨l0_3, u0_3⟩ := has_i64 w0_3
  obtain ⟨a0_4, rfl, w0_4⟩ := cell_int Try.underlying3 (hc0 4 _ 3 rfl rfl)
  obtain ⟨l0_4, u0_4⟩ := has_i64 w0_4
  refine (law_ConfCounts a0_0 a0_1 a0_2 a0_3 a0_4 W l0_0 u0_0 l0_1 u0_1 l0_2 u0_2 l0_3 u0_3 l0_4 u0_4).mono fun e W' ⟨he, hg⟩ => ?_
  subst he
  exact ⟨_, rfl, law_post rfl (by kernel_rfl) rfl Try.underlying4 hW' rfl hg⟩

theorem confCounts_proved : Rows.ConfCountsSaid :=
  OpenClaim.holds_of_wide 6 Try.f6 rfl rfl rfl rfl rfl rfl rfl ⟨rfl, rfl, rfl, rfl, rfl⟩ rfl rfl rfl rfl rfl (by kernel_rfl) Try.func6 (by kernel_rfl)
    (of_decide_eq_true (by kernel_rfl)) (by unfold Func.isWrapper; first | (rw [if_pos (by decide +kernel)]; kernel_rfl) | (rw [if_neg (by decide +kernel)]; exact ⟨rfl, rfl⟩))
    (fun os started H enc _ => confCounts_lifted os started H enc)

set_option maxRecDepth 100000 in
theorem confFree_lifted (os : Os) (started : os.Started) (H : Type) (enc : TypeId × Value → H) :
    ReturnsInHanded {} Try.checked os 7 .any (Rows.confFreeSpec.pre6 enc Try.prog Try.f7 Rows.confFreeRow.domain false) (Rows.confFreeSpec.post enc Try.prog Try.f7 false true false false) := by
  refine returnsInHanded_of_change (C := Try.checked) own started (by kernel_rfl) Try.func7
    (ChangeSpec.witness6 (enc := enc) (C := Try.checked) false ⟨#[], #[.agg #[.int .i64 0, .int .i64 0, .int .i64 0, .int .i64 0, .int .i64 0], .agg #[.int .i64 0, .int .i64 0, .int .i64 0, .int .i64 0, .int .i64 0]], []⟩ 8 (by kernel_rfl) (by kernel_rfl) (by kernel_rfl) (by kernel_rfl)) ?_
  intro W base args ds gs before hval0 hW hcnd _
  have hval : ∀ (j : Nat) t v, Try.f7.params[j]? = some t → args[j]? = some v → Value.okWide Try.prog W .any base t v := hval0
  have hW' := hW
  obtain ⟨p, q, hA0, hV, rfl, hfz, hnd⟩ := hW
  have hA : DataW.TrodAll enc Try.prog W 0 (fun _ => true) true Try.f7.params.toList args.toList ds p := hA0
  rw [Try.params7] at hA hval
  obtain ⟨v0, vs0, d0, ds0, p0, q0, hargs, rfl, rfl, h0, r0⟩ := trodAll_cons hA
  obtain ⟨v1, vs1, d1, ds1, p1, q1, rfl, rfl, rfl, h1, r1⟩ := trodAll_cons r0
  obtain ⟨rfl, rfl, rfl⟩ := trodAll_nil r1
  obtain rfl : args = #[v0, v1] := by cases args; simp_all
  obtain ⟨cs0, rfl, hs0, hc0⟩ := open_flat (n := 5) (ts := [3, 3, 3, 3, 3]) (by kernel_rfl) (by kernel_rfl) (by kernel_rfl) (hval 0 23 v0 rfl rfl)
  obtain ⟨c0_0, c0_1, c0_2, c0_3, c0_4, rfl⟩ := arr5 hs0
  obtain ⟨a0_0, rfl, w0_0⟩ := cell_int Try.underlying3 (hc0 0 _ 3 rfl rfl)
  obtain ⟨l0_0, u0_0⟩ := has_i64 w0_0
  obtain ⟨a0_1, rfl, w0_1⟩ := cell_int Try.underlying3 (hc0 1 _ 3 rfl rfl)
  obtain ⟨l0_1, u0_1⟩ := has_i64 w0_1
  obtain ⟨a0_2, rfl, w0_2⟩ := cell_int Try.underlying3 (hc0 2 _ 3 rfl rfl)
  obtain ⟨l0_2, u0_2⟩ := has_i64 w0_2
  obtain ⟨a0_3, rfl, w0_3⟩ := cell_int Try.underlying3 (hc0 3 _ 3 rfl rfl)
  obtain ⟨l0_3, u0_3⟩ := has_i64 w0_3
  obtain ⟨a0_4, rfl, w0_4⟩ := cell_int Try.underlying3 (hc0 4 _ 3 rfl rfl)
  obtain ⟨l0_4, u0_4⟩ := has_i64 w0_4
  obtain ⟨cs1, rfl, hs1, hc1⟩ := open_flat (n := 5) (ts := [3, 3, 3, 3, 3]) (by kernel_rfl) (by kernel_rfl) (by kernel_rfl) (hval 1 23 v1 rfl rfl)
  obtain ⟨c1_0, c1_1, c1_2, c1_3, c1_4, rfl⟩ := arr5 hs1
  obtain ⟨a1_0, rfl, w1_0⟩ := cell_int Try.underlying3 (hc1 0 _ 3 rfl rfl)
  obtain ⟨l1_0, u1_0⟩ := has_i64 w1_0
  obtain ⟨a1_1, rfl, w1_1⟩ := cell_int Try.underlying3 (hc1 1 _ 3 rfl rfl)
  obtain ⟨l1_1, u1_1⟩ := has_i64 w1_1
  obtain ⟨a1_2, rfl, w1_2⟩ := cell_int Try.underlying3 (hc1 2 _ 3 rfl rfl)
  obtain ⟨l1_2, u1_2⟩ := has_i64 w1_2
  obtain ⟨a1_3, rfl, w1_3⟩ := cell_int Try.underlying3 (hc1 3 _ 3 rfl rfl)
  obtain ⟨l1_3, u1_3⟩ := has_i64 w1_3
  obtain ⟨a1_4, rfl, w1_4⟩ := cell_int Try.underlying3 (hc1 4 _ 3 rfl rfl)
  obtain ⟨l1_4, u1_4⟩ := has_i64 w1_4
  refine (law_ConfFree a0_0 a0_1 a0_2 a0_3 a0_4 a1_0 a1_1 a1_2 a1_3 a1_4 W l0_0 u0_0 l0_1 u0_1 l0_2 u0_2 l0_3 u0_3 l0_4 u0_4 l1_0 u1_0 l1_1 u1_1 l1_2 u1_2 l1_3 u1_3 l1_4 u1_4).mono fun e W' ⟨he, hg⟩ => ?_
  subst he
  exact ⟨_, rfl, law_post rfl (by kernel_rfl) rfl Try.underlying4 hW' rfl hg⟩

theorem confFree_proved : Rows.ConfFreeSaid :=
  OpenClaim.holds_of_wide 7 Try.f7 rfl rfl rfl rfl rfl rfl rfl ⟨rfl, rfl, rfl, rfl, rfl⟩ rfl rfl rfl rfl rfl (by kernel_rfl) Try.func7 (by kernel_rfl)
    (of_decide_eq_true (by kernel_rfl)) (by unfold Func.isWrapper; first | (rw [if_pos (by decide +kernel)]; kernel_rfl) | (rw [if_neg (by decide +kernel)]; exact ⟨rfl, rfl⟩))
    (fun os started H enc _ => confFree_lifted os started H enc)
end Go.Proofs.Ytjekofjmhaehiaa
