/- The laws of package book, walked: a thread begins just so many calls as it may. -/
import Derived.Test.YtagapfejgmmppaaGreatNewB
namespace Go.Proofs.YtagapfejgmmppaaGreat
open Go.ChangeShapes Go.WideShapes Go.ChangeAt Go.RowKit
set_option maxRecDepth 100000
set_option linter.unusedVariables false
def bFew (t b i f k : Int) : Bool := zOk t b i f k && decide (t ≤ 4 ∧ b ≤ 4 ∧ k ≤ 8)
/-- A layout that may be. -/
theorem cf_of {t b i f k : Int} (h : zOk t b i f k = true) : ∃ c : Cf, t = c.t ∧ b = c.b ∧ i = c.i ∧ f = c.f ∧ k = c.k ∧ c.Ok := by
  obtain ⟨t1, t2, hb, i1, i2, f1, f2, k1, k2⟩ := zOk_spec.1 h
  have b1 : (1 : Int) ≤ b := by unfold Pow2 at hb; omega
  obtain ⟨t', rfl⟩ : ∃ n : Nat, t = n := ⟨t.toNat, by omega⟩
  obtain ⟨b', rfl⟩ : ∃ n : Nat, b = n := ⟨b.toNat, by omega⟩
  obtain ⟨i', rfl⟩ : ∃ n : Nat, i = n := ⟨i.toNat, by omega⟩
  obtain ⟨f', rfl⟩ : ∃ n : Nat, f = n := ⟨f.toNat, by omega⟩
  obtain ⟨k', rfl⟩ : ∃ n : Nat, k = n := ⟨k.toNat, by omega⟩
  exact ⟨⟨t', b', i', f', k'⟩, rfl, rfl, rfl, rfl, rfl, cf_ok h⟩

end Go.Proofs.YtagapfejgmmppaaGreat
