/- A law of package look holds for every input: each call of the law's function returns true, and its arguments read behind the call as they read before. -/
import Derived.Test.YtagapfejgmmppaaGreatLift
import Derived.Test.YtagapfejgmmppaaGreatLookNw
import Derived.ProofKit
import Derived.OpenShut
namespace Go.Proofs.YtagapfejgmmppaaGreat
open Go.ChangeShapes Go.WideShapes Go.ChangeAt Go.RowKit
set_option linter.unusedVariables false

theorem own : ownKnob Tryz.prog.godebug = none := by kernel_rfl
theorem arr5 {cs : Array Value} (h : cs.size = 5) : ∃ c0 c1 c2 c3 c4, cs = #[c0, c1, c2, c3, c4] := by
  obtain ⟨l⟩ := cs
  simp only [List.size_toArray] at h
  match l, h with
  | [c0, c1, c2, c3, c4], _ => exact ⟨c0, c1, c2, c3, c4, rfl⟩

set_option maxRecDepth 100000 in
theorem lookNew_lifted (os : Os) (started : os.Started) (H : Type) (enc : TypeId × Value → H) :
    ReturnsInHanded {} Tryz.checked os 6 .any (Rows.lookNewSpec.pre6 enc Tryz.prog Tryz.f6 Rows.lookNewRow.domain false) (Rows.lookNewSpec.post enc Tryz.prog Tryz.f6 false true false false) := by
  refine returnsInHanded_of_change (C := Tryz.checked) own started (by kernel_rfl) Tryz.func6
    (ChangeSpec.witness6 (enc := enc) (C := Tryz.checked) false ⟨#[], #[.agg #[.int .i64 0, .int .i64 0, .int .i64 0, .int .i64 0, .int .i64 0], .int .i64 0], []⟩ 8 (by kernel_rfl) (by kernel_rfl) (by kernel_rfl) (by kernel_rfl)) ?_
  intro W base args ds gs before hval0 hW hcnd _
  have hval : ∀ (j : Nat) t v, Tryz.f6.params[j]? = some t → args[j]? = some v → Value.okWide Tryz.prog W .any base t v := hval0
  have hW' := hW
  obtain ⟨p, q, hA0, hV, rfl, hfz, hnd⟩ := hW
  have hA : DataW.TrodAll enc Tryz.prog W 0 (fun _ => true) true Tryz.f6.params.toList args.toList ds p := hA0
  rw [Tryz.params6] at hA hval
  obtain ⟨v0, vs0, d0, ds0, p0, q0, hargs, rfl, rfl, h0, r0⟩ := trodAll_cons hA
  obtain ⟨v1, vs1, d1, ds1, p1, q1, rfl, rfl, rfl, h1, r1⟩ := trodAll_cons r0
  obtain ⟨rfl, rfl, rfl⟩ := trodAll_nil r1
  obtain rfl : args = #[v0, v1] := by cases args; simp_all
  obtain ⟨cs0, rfl, hs0, hc0⟩ := open_flat (n := 5) (ts := [3, 3, 3, 3, 3]) (by kernel_rfl) (by kernel_rfl) (by kernel_rfl) (hval 0 32 v0 rfl rfl)
  obtain ⟨c0_0, c0_1, c0_2, c0_3, c0_4, rfl⟩ := arr5 hs0
  obtain ⟨a0_0, rfl, w0_0⟩ := cell_int Tryz.underlying3 (hc0 0 _ 3 rfl rfl)
  obtain ⟨l0_0, u0_0⟩ := has_i64 w0_0
  obtain ⟨a0_1, rfl, w0_1⟩ := cell_int Tryz.underlying3 (hc0 1 _ 3 rfl rfl)
  obtain ⟨l0_1, u0_1⟩ := has_i64 w0_1
  obtain ⟨a0_2, rfl, w0_2⟩ := cell_int Tryz.underlying3 (hc0 2 _ 3 rfl rfl)
  obtain ⟨l0_2, u0_2⟩ := has_i64 w0_2
  obtain ⟨a0_3, rfl, w0_3⟩ := cell_int Tryz.underlying3 (hc0 3 _ 3 rfl rfl)
  obtain ⟨l0_3, u0_3⟩ := has_i64 w0_3
  obtain ⟨a0_4, rfl, w0_4⟩ := cell_int Tryz.underlying3 (hc0 4 _ 3 rfl rfl)
  obtain ⟨l0_4, u0_4⟩ := has_i64 w0_4
  obtain ⟨a1, rfl, w1⟩ := val_int Tryz.underlying3 (hval 1 3 v1 rfl rfl)
  obtain ⟨l1, u1⟩ := has_i64 w1
  refine (law_LookNew a0_0 a0_1 a0_2 a0_3 a0_4 a1 W l0_0 u0_0 l0_1 u0_1 l0_2 u0_2 l0_3 u0_3 l0_4 u0_4 l1 u1).mono fun e W' ⟨he, hg⟩ => ?_
  subst he
  exact ⟨_, rfl, law_post rfl (by kernel_rfl) rfl Tryz.underlying4 hW' rfl hg⟩

theorem lookNew_proved : Rows.LookNewSaid :=
  OpenClaim.holds_of_wide 6 Tryz.f6 rfl rfl rfl rfl rfl rfl rfl ⟨rfl, rfl, rfl, rfl, rfl⟩ rfl rfl rfl rfl rfl (by kernel_rfl) Tryz.func6 (by kernel_rfl)
    (of_decide_eq_true (by kernel_rfl)) (by unfold Func.isWrapper; first | (rw [if_pos (by decide +kernel)]; kernel_rfl) | (rw [if_neg (by decide +kernel)]; exact ⟨rfl, rfl⟩))
    (fun os started H enc _ => lookNew_lifted os started H enc)
end Go.Proofs.YtagapfejgmmppaaGreat
