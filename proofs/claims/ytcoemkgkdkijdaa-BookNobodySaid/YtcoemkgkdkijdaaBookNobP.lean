/- A law of package book holds for every input: each call of the law's function returns true, and its arguments read behind the call as they read before. -/
import Derived.Test.YtcoemkgkdkijdaaLift
import Derived.Test.YtcoemkgkdkijdaaBookAw
import Derived.ProofKit
import Derived.OpenShut
namespace Go.Proofs.Ytcoemkgkdkijdaa
open Go.ChangeShapes Go.WideShapes Go.ChangeAt Go.RowKit
set_option linter.unusedVariables false

theorem own : ownKnob Try.prog.godebug = none := by kernel_rfl
theorem arr4 {cs : Array Value} (h : cs.size = 4) : ∃ c0 c1 c2 c3, cs = #[c0, c1, c2, c3] := by
  obtain ⟨l⟩ := cs
  simp only [List.size_toArray] at h
  match l, h with
  | [c0, c1, c2, c3], _ => exact ⟨c0, c1, c2, c3, rfl⟩

set_option maxRecDepth 100000 in
theorem bookNobody_lifted (os : Os) (started : os.Started) (H : Type) (enc : TypeId × Value → H) :
    ReturnsInHanded {} Try.checked os 7 .any (Rows.bookNobodySpec.pre6 enc Try.prog Try.f7 Rows.bookNobodyRow.domain false) (Rows.bookNobodySpec.post enc Try.prog Try.f7 false true false false) := by
  refine returnsInHanded_of_change (C := Try.checked) own started (by kernel_rfl) Try.func7
    (ChangeSpec.witness6 (enc := enc) (C := Try.checked) false ⟨#[], #[.int .i64 0, .agg #[.int .i64 0, .int .u64 0, .int .u64 0, .int .i64 0]], []⟩ 8 (by kernel_rfl) (by kernel_rfl) (by kernel_rfl) (by kernel_rfl)) ?_
  intro W base args ds gs before hval0 hW hcnd _
  have hval : ∀ (j : Nat) t v, Try.f7.params[j]? = some t → args[j]? = some v → Value.okWide Try.prog W .any base t v := hval0
  have hW' := hW
  obtain ⟨p, q, hA0, hV, rfl, hfz, hnd⟩ := hW
  have hA : DataW.TrodAll enc Try.prog W 0 (fun _ => true) true Try.f7.params.toList args.toList ds p := hA0
  rw [Try.params7] at hA hval
  obtain ⟨v0, vs0, d0, ds0, p0, q0, hargs, rfl, rfl, h0, r0⟩ := trodAll_cons hA
  obtain ⟨v1, vs1, d1, ds1, p1, q1, rfl, rfl, rfl, h1, r1⟩ := trodAll_cons r0
  obtain ⟨rfl, rfl, rfl⟩ := trodAll_nil r1
  obtain rfl : args = #[v0, v1] := by cases args; simp_all
  obtain ⟨a0, rfl, w0⟩ := val_int Try.underlying3 (hval 0 3 v0 rfl rfl)
  obtain ⟨l0, u0⟩ := has_i64 w0
  obtain ⟨cs1, rfl, hs1, hc1⟩ := open_flat (n := 4) (ts := [3, 36, 36, 3]) (by kernel_rfl) (by kernel_rfl) (by kernel_rfl) (hval 1 38 v1 rfl rfl)
  obtain ⟨c1_0, c1_1, c1_2, c1_3, rfl⟩ := arr4 hs1
  obtain ⟨a1_0, rfl, w1_0⟩ := cell_int Try.underlying3 (hc1 0 _ 3 rfl rfl)
  obtain ⟨l1_0, u1_0⟩ := has_i64 w1_0
  obtain ⟨a1_1, rfl, w1_1⟩ := cell_int Try.underlying36 (hc1 1 _ 36 rfl rfl)
  obtain ⟨l1_1, u1_1⟩ := has_u64 w1_1
  obtain ⟨a1_2, rfl, w1_2⟩ := cell_int Try.underlying36 (hc1 2 _ 36 rfl rfl)
  obtain ⟨l1_2, u1_2⟩ := has_u64 w1_2
  obtain ⟨a1_3, rfl, w1_3⟩ := cell_int Try.underlying3 (hc1 3 _ 3 rfl rfl)
  obtain ⟨l1_3, u1_3⟩ := has_i64 w1_3
  refine (law_BookNobody a0 a1_0 a1_1 a1_2 a1_3 W l0 u0 l1_0 u1_0 l1_1 u1_1 l1_2 u1_2 l1_3 u1_3).mono fun e W' ⟨he, hg⟩ => ?_
  subst he
  exact ⟨_, rfl, law_post rfl (by kernel_rfl) rfl Try.underlying4 hW' rfl hg⟩

theorem bookNobody_proved : Rows.BookNobodySaid :=
  OpenClaim.holds_of_wide 7 Try.f7 rfl rfl rfl rfl rfl rfl rfl ⟨rfl, rfl, rfl, rfl, rfl⟩ rfl rfl rfl rfl rfl (by kernel_rfl) Try.func7 (by kernel_rfl)
    (of_decide_eq_true (by kernel_rfl)) (by unfold Func.isWrapper; first | (rw [if_pos (by decide +kernel)]; kernel_rfl) | (rw [if_neg (by decide +kernel)]; exact ⟨rfl, rfl⟩))
    (fun os started H enc _ => bookNobody_lifted os started H enc)
end Go.Proofs.Ytcoemkgkdkijdaa
