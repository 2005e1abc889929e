/- Package word and the document's answers for it (corrieref02), function by function: what each call returns, and that it leaves all memory that was there as it was. -/
import Derived.Test.YtagapfejgmmppaaGreatGrow
namespace Go.Proofs.YtagapfejgmmppaaGreat
open Go.ChangeShapes Go.WideShapes Go.ChangeAt Go.RowKit
set_option maxRecDepth 100000
/-- The word that names an operation, by an offset. -/
def zNaming (n k : Int) : Int := if 0 ≤ n ∧ n ≤ 2147483647 then n + k else 0
/-- The operation that a word names, by an offset. -/
def zNamed (a k : Int) : Int := if k ≤ a ∧ a ≤ 2147483647 + k then a - k else -1

theorem wrap_neg (n : Int) (h0 : -9223372036854775808 ≤ n) (h1 : n < 0) : IntKind.u64.wrap n = n + 18446744073709551616 := by
  simp [IntKind.wrap, IntKind.signed, IntKind.bits]; omega

theorem Over_any (a : Int) (w : World) :
    Calls Tryz.prog 138 #[.int .u64 a] w fun e w' => e = .returned (.bool (decide (2 ≤ a))) ∧ Grown w w' := by
  go_enter Tryz.func138, Tryz.ntmps138
  go_wp2
  go_ret
  exact ⟨rfl, by go_grown⟩

theorem refOver_any (a : Int) (w : World) :
    Calls Tryz.prog 105 #[.int .u64 a] w fun e w' => e = .returned (.bool (decide (2 ≤ a))) ∧ Grown w w' := by
  go_enter Tryz.func105, Tryz.ntmps105
  go_wp2
  go_ret
  exact ⟨rfl, by go_grown⟩
end Go.Proofs.YtagapfejgmmppaaGreat
