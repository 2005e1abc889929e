/- The laws of package ref (corrielaw01), as functions of the program: each call returns true, and leaves all memory that was there as it was. -/
import Derived.Test.YtagapfejgmmppaaGreatRef
namespace Go.Proofs.YtagapfejgmmppaaGreat
open Go.ChangeShapes Go.WideShapes Go.ChangeAt Go.RowKit
set_option maxRecDepth 100000
/- The document's answers. -/
theorem refPack_any (n : Int) (m : Bool) (w : World) (h0 : -9223372036854775808 ≤ n) (h1 : n ≤ 9223372036854775807) :
    Calls Tryz.prog 32 #[.int .i64 n, .bool m] w fun e w' => e = .returned (.int .u64 (zPack n m)) ∧ Grown w w' := by
  by_cases hn : n < 0
  · have hz : zPack n m = 0 := if_neg (by omega)
    rw [hz]; clear hz
    go_enter Tryz.func32, Tryz.ntmps32
    go_wp2
    go_ret
    exact ⟨rfl, by go_grown⟩
  by_cases hg : 2147483647 < n
  · have hz : zPack n m = 0 := if_neg (by omega)
    rw [hz]; clear hz
    go_enter Tryz.func32, Tryz.ntmps32
    go_wp2
    go_ret
    exact ⟨rfl, by go_grown⟩
  cases m
  · have hz : zPack n false = 2 * n := (if_pos (by omega)).trans (by simp)
    rw [hz]; clear hz
    go_enter Tryz.func32, Tryz.ntmps32
    go_wp2
    go_ret
    exact ⟨rfl, by go_grown⟩
  · have hz : zPack n true = 2 * n + 1 := if_pos (by omega)
    rw [hz]; clear hz
    go_enter Tryz.func32, Tryz.ntmps32
    go_wp2
    go_ret
    exact ⟨rfl, by go_grown⟩

theorem refIndex_any (a : Int) (w : World) (h0 : 0 ≤ a) (h1 : a ≤ 18446744073709551615) :
    Calls Tryz.prog 42 #[.int .u64 a] w fun e w' => e = .returned (.int .i64 (a / 2)) ∧ Grown w w' := by
  go_enter Tryz.func42, Tryz.ntmps42
  go_wp2
  go_ret
  exact ⟨rfl, by go_grown⟩

theorem refMarked_any (a : Int) (w : World) (h0 : 0 ≤ a) (h1 : a ≤ 18446744073709551615) :
    Calls Tryz.prog 33 #[.int .u64 a] w fun e w' => e = .returned (.bool (a % 2 == 1)) ∧ Grown w w' := by
  go_enter Tryz.func33, Tryz.ntmps33
  go_wp2
  go_ret
  exact ⟨rfl, by go_grown⟩

theorem Index_at {a v : Int} (w : World) (h : a / 2 = v) (h0 : 0 ≤ a) (h1 : a ≤ 18446744073709551615) :
    Calls Tryz.prog 93 #[.int .u64 a] w fun e w' => e = .returned (.int .i64 v) ∧ Grown w w' := by
  subst h; exact Index_any a w h0 h1
theorem Marked_at {a : Int} {v : Bool} (w : World) (h : (a % 2 == 1) = v) (h0 : 0 ≤ a) (h1 : a ≤ 18446744073709551615) :
    Calls Tryz.prog 139 #[.int .u64 a] w fun e w' => e = .returned (.bool v) ∧ Grown w w' := by
  subst h; exact Marked_any a w h0 h1
theorem mod31 (a : Int) : 0 ≤ a % 2147483648 ∧ a % 2147483648 ≤ 2147483647 := by omega
theorem zPack_in {n : Int} {m : Bool} (h0 : 0 ≤ n) (h1 : n ≤ 2147483647) : zPack n m = 2 * n + (if m = true then 1 else 0) := if_pos ⟨h0, h1⟩
theorem zPack_bd (n : Int) (m : Bool) : 0 ≤ zPack n m ∧ zPack n m ≤ 18446744073709551615 := by
  unfold zPack; cases m <;> (split <;> simp <;> omega)

end Go.Proofs.YtagapfejgmmppaaGreat
