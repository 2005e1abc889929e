/- The laws of package book, walked: a thread begins just so many calls as it may. -/
import Derived.Test.YtjllemjmdbnkjaaGreatNewB
namespace Go.Proofs.YtjllemjmdbnkjaaGreat
open Go.ChangeShapes Go.WideShapes Go.ChangeAt Go.RowKit
set_option maxRecDepth 100000
set_option linter.unusedVariables false
def bFew (t b i f k : Int) : Bool := zOk t b i f k && decide (t ≤ 4 ∧ b ≤ 4 ∧ k ≤ 8)
theorem Few_at (t b i f k : Int) (w : World) (v : Bool) (h : bFew t b i f k = v) :
    Calls Tryz.prog 5 #[.agg #[.int .i64 t, .int .i64 b, .int .i64 i, .int .i64 f, .int .i64 k]] w fun e w' => e = .returned (.bool v) ∧ Grown w w' := by
  subst h
  unfold bFew
  obtain ⟨u, hu⟩ : ∃ u : Int, (if zOk t b i f k = true then 0 else 1) = u := ⟨_, rfl⟩
  have HU := Lib.hid hu
  by_cases hz : zOk t b i f k = true
  · rw [if_pos hz] at hu
    rw [hz]
    subst hu
    clear hz
    by_cases h1 : t ≤ 4 <;> by_cases h2 : b ≤ 4 <;> by_cases h3 : k ≤ 8
    all_goals
      simp only [h1, h2, h3, and_self, and_true, and_false, decide_true, decide_false, Bool.true_and]
      go_enter Tryz.func5, Tryz.ntmps5
      go_wp2_with fail
      refine (rMayC_at _ _ _ _ _ _ _ HU.out).mono ?_; rintro e w1 ⟨rfl, g1⟩
      have z0 : w1.cell? ⟨w.heap.size, 0, none⟩ = some (.int .i64 t) := gcell g1 (by simp)
      have z1 : w1.cell? ⟨w.heap.size, 1, none⟩ = some (.int .i64 b) := gcell g1 (by simp)
      have z4 : w1.cell? ⟨w.heap.size, 4, none⟩ = some (.int .i64 k) := gcell g1 (by simp)
      replace g1 := galloc g1
      go_wp2
      go_ret
      first | exact ⟨rfl, g1⟩ | exact ⟨by show Ending.returned (.bool (decide (k ≤ 8))) = _; rw [decide_eq_false (by omega)], g1⟩
  · rw [if_neg hz] at hu
    rw [Bool.eq_false_iff.2 hz]
    subst hu
    clear hz
    simp only [Bool.false_and]
    go_enter Tryz.func5, Tryz.ntmps5
    go_wp2_with fail
    refine (rMayC_at _ _ _ _ _ _ _ HU.out).mono ?_; rintro e w1 ⟨rfl, g1⟩
    go_wp2
    go_ret
    exact ⟨rfl, galloc g1⟩
/-- A layout that may be. -/
theorem cf_of {t b i f k : Int} (h : zOk t b i f k = true) : ∃ c : Cf, t = c.t ∧ b = c.b ∧ i = c.i ∧ f = c.f ∧ k = c.k ∧ c.Ok := by
  obtain ⟨t1, t2, hb, i1, i2, f1, f2, k1, k2⟩ := zOk_spec.1 h
  have b1 : (1 : Int) ≤ b := by unfold Pow2 at hb; omega
  obtain ⟨t', rfl⟩ : ∃ n : Nat, t = n := ⟨t.toNat, by omega⟩
  obtain ⟨b', rfl⟩ : ∃ n : Nat, b = n := ⟨b.toNat, by omega⟩
  obtain ⟨i', rfl⟩ : ∃ n : Nat, i = n := ⟨i.toNat, by omega⟩
  obtain ⟨f', rfl⟩ : ∃ n : Nat, f = n := ⟨f.toNat, by omega⟩
  obtain ⟨k', rfl⟩ : ∃ n : Nat, k = n := ⟨k.toNat, by omega⟩
  exact ⟨⟨t', b', i', f', k'⟩, rfl, rfl, rfl, rfl, rfl, cf_ok h⟩

end Go.Proofs.YtjllemjmdbnkjaaGreat
