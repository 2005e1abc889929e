/- Package ref and the document's answers for it (corrieref01), function by function: what each call returns, and that it leaves all memory that was there as it was. -/
import Derived.Test.YtagapfejgmmppaaGreatGrow
namespace Go.Proofs.YtagapfejgmmppaaGreat
open Go.ChangeShapes Go.WideShapes Go.ChangeAt Go.RowKit
set_option maxRecDepth 100000
/-- The reference of a node, marked or not. -/
def zPack (n : Int) (m : Bool) : Int := if 0 ≤ n ∧ n ≤ 2147483647 then 2 * n + (if m = true then 1 else 0) else 0


theorem split_any (a : Int) (w : World) (h0 : 0 ≤ a) (h1 : a ≤ 18446744073709551615) :
    Calls Tryz.prog 130 #[.int .u64 a] w fun e w' => e = .returned (.agg #[.int .u64 (a / 2), .int .u64 (a % 2)]) ∧ Grown w w' := by
  go_enter Tryz.func130, Tryz.ntmps130
  go_wp2
  exact bodyPost_ret (v := .agg #[.int .u64 (a / 2), .int .u64 (a % 2)]) (by simp [results, Tryz.results130, go_sem]) rfl ⟨rfl, by go_grown⟩

theorem idx0 (a b : Int) (w : World) : (Instr.index 213 (.agg #[.int .u64 a, .int .u64 b]) (.int .i64 0)).run Tryz.prog w = .ok (.int .u64 a) w := by kernel_rfl
theorem idx1 (a b : Int) (w : World) : (Instr.index 213 (.agg #[.int .u64 a, .int .u64 b]) (.int .i64 1)).run Tryz.prog w = .ok (.int .u64 b) w := by kernel_rfl

theorem Index_any (a : Int) (w : World) (h0 : 0 ≤ a) (h1 : a ≤ 18446744073709551615) :
    Calls Tryz.prog 93 #[.int .u64 a] w fun e w' => e = .returned (.int .i64 (a / 2)) ∧ Grown w w' := by
  have hi := idx0
  go_enter Tryz.func93, Tryz.ntmps93
  go_wp2_with (refine (split_any _ _ h0 h1).mono ?_; rintro e w1 ⟨rfl, hg1⟩)
  go_ret
  exact ⟨rfl, hg1⟩

theorem Marked_any (a : Int) (w : World) (h0 : 0 ≤ a) (h1 : a ≤ 18446744073709551615) :
    Calls Tryz.prog 139 #[.int .u64 a] w fun e w' => e = .returned (.bool (a % 2 == 1)) ∧ Grown w w' := by
  have hi := idx1
  go_enter Tryz.func139, Tryz.ntmps139
  go_wp2_with (refine (split_any _ _ h0 h1).mono ?_; rintro e w1 ⟨rfl, hg1⟩)
  go_ret
  exact ⟨rfl, hg1⟩

end Go.Proofs.YtagapfejgmmppaaGreat
