/- A law of package world holds for every input: each call of the law's function returns true, and its arguments read behind the call as they read before. -/
import Derived.Test.YtjllemjmdbnkjaaLift
import Derived.Test.YtjllemjmdbnkjaaWorldAp
import Derived.ProofKit
import Derived.OpenShut
namespace Go.Proofs.Ytjllemjmdbnkjaa
open Go.ChangeShapes Go.WideShapes Go.ChangeAt Go.RowKit
set_option linter.unusedVariables false

theorem own : ownKnob Try.prog.godebug = none := by kernel_rfl
theorem arr2 {cs : Array Value} (h : cs.size = 2) : ∃ c0 c1, cs = #[c0, c1] := by
  obtain ⟨l⟩ := cs
  simp only [List.size_toArray] at h
  match l, h with
  | [c0, c1], _ => exact ⟨c0, c1, rfl⟩
theorem arr4 {cs : Array Value} (h : cs.size = 4) : ∃ c0 c1 c2 c3, cs = #[c0, c1, c2, c3] := by
  obtain ⟨l⟩ := cs
  simp only [List.size_toArray] at h
  match l, h with
  | [c0, c1, c2, c3], _ => exact ⟨c0, c1, c2, c3, rfl⟩
theorem arr5 {cs : Array Value} (h : cs.size = 5) : ∃ c0 c1 c2 c3 c4, cs = #[c0, c1, c2, c3, c4] := by
  obtain ⟨l⟩ := cs
  simp only [List.size_toArray] at h
  match l, h with
  | [c0, c1, c2, c3, c4], _ => exact ⟨c0, c1, c2, c3, c4, rfl⟩

set_option maxRecDepth 100000 in
theorem worldApart_lifted (os : Os) (started : os.Started) (H : Type) (enc : TypeId × Value → H) :
    ReturnsInHanded {} Try.checked os 5 .any (Rows.worldApartSpec.pre6 enc Try.prog Try.f5 Rows.worldApartRow.domain false) (Rows.worldApartSpec.post enc Try.prog Try.f5 false true false false) := by
  refine returnsInHanded_of_change (C := Try.checked) own started (by kernel_rfl) Try.func5
    (ChangeSpec.witness6 (enc := enc) (C := Try.checked) false ⟨#[], #[.agg #[.int .i64 0, .int .i64 0, .int .i64 0, .int .i64 0, .int .i64 0], .agg #[.int .u8 0, .int .u8 0, .int .u8 0, .int .u8 0], .agg #[.int .u64 0, .int .u64 0]], []⟩ 8 (by kernel_rfl) (by kernel_rfl) (by kernel_rfl) (by kernel_rfl)) ?_
  intro W base args ds gs before hval0 hW hcnd _
  have hval : ∀ (j : Nat) t v, Try.f5.params[j]? = some t → args[j]? = some v → Value.okWide Try.prog W .any base t v := hval0
  have hW' := hW
  obtain ⟨p, q, hA0, hV, rfl, hfz, hnd⟩ := hW
  have hA : DataW.TrodAll enc Try.prog W 0 (fun _ => true) true Try.f5.params.toList args.toList ds p := hA0
  rw [Try.params5] at hA hval
  obtain ⟨v0, vs0, d0, ds0, p0, q0, hargs, rfl, rfl, h0, r0⟩ := trodAll_cons hA
  obtain ⟨v1, vs1, d1, ds1, p1, q1, rfl, rfl, rfl, h1, r1⟩ := trodAll_cons r0
  obtain ⟨v2, vs2, d2, ds2, p2, q2, rfl, rfl, rfl, h2, r2⟩ := trodAll_cons r1
  obtain ⟨rfl, rfl, rfl⟩ := trodAll_nil r2
  obtain rfl : args = #[v0, v1, v2] := by cases args; simp_all
  obtain ⟨cs0, rfl, hs0, hc0⟩ := open_flat (n := 5) (ts := [3, 3, 3, 3, 3]) (by kernel_rfl) (by kernel_rfl) (by kernel_rfl) (hval 0 23 v0 rfl rfl)
  obtain ⟨c0_0, c0_1, c0_2, c0_3, c0_4, rfl⟩ := arr5 hs0
  obtain ⟨a0_0, rfl, w0_0⟩ := cell_int Try.underlying3 (hc0 0 _ 3 rfl rfl)
  obtain ⟨l0_0, u0_0⟩ := has_i64 w0_0
  obtain ⟨a0_1, rfl, w0_1⟩ := cell_int Try.underlying3 (hc0 1 _ 3 rfl rfl)
  obtain ⟨l0_1, u0_1⟩ := has_i64 w0_1
  obtain ⟨a0_2, rfl, w0_2⟩ := cell_int Try.underlying3 (hc0 2 _ 3 rfl rfl)
  obtain ⟨l0_2, u0_2⟩ := has_i64 w0_2
  obtain ⟨a0_3, rfl, w0_3⟩ := cell_int Try.underlying3 (hc0 3 _ 3 rfl rfl)
  obtain ⟨l0_3, u0_3⟩ := has_i64 w0_3
  obtain ⟨a0_4, rfl, w0_4⟩ := cell_int Try.underlying3 (hc0 4 _ 3 rfl rfl)
  obtain ⟨l0_4, u0_4⟩ := has_i64 w0_4
  obtain ⟨cs1, rfl, hs1, hc1⟩ := open_flat (n := 4) (ts := [5, 5, 5, 5]) (by kernel_rfl) (by kernel_rfl) (by kernel_rfl) (hval 1 57 v1 rfl rfl)
  obtain ⟨c1_0, c1_1, c1_2, c1_3, rfl⟩ := arr4 hs1
  obtain ⟨a1_0, rfl, w1_0⟩ := cell_int Try.underlying5 (hc1 0 _ 5 rfl rfl)
  obtain ⟨l1_0, u1_0⟩ := has_u8 w1_0
  obtain ⟨a1_1, rfl, w1_1⟩ := cell_int Try.underlying5 (hc1 1 _ 5 rfl rfl)
  obtain ⟨l1_1, u1_1⟩ := has_u8 w1_1
  obtain ⟨a1_2, rfl, w1_2⟩ := cell_int Try.underlying5 (hc1 2 _ 5 rfl rfl)
  obtain ⟨l1_2, u1_2⟩ := has_u8 w1_2
  obtain ⟨a1_3, rfl, w1_3⟩ := cell_int Try.underlying5 (hc1 3 _ 5 rfl rfl)
  obtain ⟨l1_3, u1_3⟩ := has_u8 w1_3
  obtain ⟨cs2, rfl, hs2, hc2⟩ := open_flat (n := 2) (ts := [50, 50]) (by kernel_rfl) (by kernel_rfl) (by kernel_rfl) (hval 2 58 v2 rfl rfl)
  obtain ⟨c2_0, c2_1, rfl⟩ := arr2 hs2
  obtain ⟨a2_0, rfl, w2_0⟩ := cell_int Try.underlying50 (hc2 0 _ 50 rfl rfl)
  obtain ⟨l2_0, u2_0⟩ := has_u64 w2_0
  obtain ⟨a2_1, rfl, w2_1⟩ := cell_int Try.underlying50 (hc2 1 _ 50 rfl rfl)
  obtain ⟨l2_1, u2_1⟩ := has_u64 w2_1
  refine (law_WorldApart a0_0 a0_1 a0_2 a0_3 a0_4 a1_0 a1_1 a1_2 a1_3 a2_0 a2_1 W l0_0 u0_0 l0_1 u0_1 l0_2 u0_2 l0_3 u0_3 l0_4 u0_4 l1_0 u1_0 l1_1 u1_1 l1_2 u1_2 l1_3 u1_3 l2_0 u2_0 l2_1 u2_1).mono fun e W' ⟨he, hg⟩ => ?_
  subst he
  exact ⟨_, rfl, law_post rfl (by kernel_rfl) rfl Try.underlying4 hW' rfl hg⟩

theorem worldApart_proved : Rows.WorldApartSaid :=
  OpenClaim.holds_of_wide 5 Try.f5 rfl rfl rfl rfl rfl rfl rfl ⟨rfl, rfl, rfl, rfl, rfl⟩ rfl rfl rfl rfl rfl (by kernel_rfl) Try.func5 (by kernel_rfl)
    (of_decide_eq_true (by kernel_rfl)) (by unfold Func.isWrapper; first | (rw [if_pos (by decide +kernel)]; kernel_rfl) | (rw [if_neg (by decide +kernel)]; exact ⟨rfl, rfl⟩))
    (fun os started H enc _ => worldApart_lifted os started H enc)
end Go.Proofs.Ytjllemjmdbnkjaa
