/- Package ref and the document's answers for it (corrieref01), function by function: what each call returns, and that it leaves all memory that was there as it was. -/
import Derived.Test.YtjdjcaoaefapgabGreatMBase
namespace Go.Proofs.YtjdjcaoaefapgabGreat
open Go.ChangeShapes Go.WideShapes Go.ChangeAt Go.RowKit
set_option maxRecDepth 100000
/-- The reference of a node, marked or not. -/
def zPack (n : Int) (m : Bool) : Int := if 0 ≤ n ∧ n ≤ 2147483647 then 2 * n + (if m = true then 1 else 0) else 0


set_option maxHeartbeats 400000 in
theorem join_any (a b : Int) (w : World) (ha : 0 ≤ a) (ha' : a ≤ 9223372036854775807) (hb : 0 ≤ b) (hb' : b ≤ 1) :
    Calls Tryz.prog 144 #[.agg #[.int .u64 a, .int .u64 b]] w fun e w' => e = .returned (.int .u64 (2 * a + b)) ∧ Grown w w' := by
  have hmf := mkFunc
  have i0 : ∀ w, (Instr.index 180 (.agg #[.int .u64 a, .int .u64 b]) (.int .i64 0)).run Tryz.prog w = .ok (.int .u64 a) w := fun _ => by kernel_rfl
  have i1 : ∀ w, (Instr.index 180 (.agg #[.int .u64 a, .int .u64 b]) (.int .i64 1)).run Tryz.prog w = .ok (.int .u64 b) w := fun _ => by kernel_rfl
  go_enter Tryz.func144, Tryz.ntmps144
  go_wp2
  go_rounds 3
  go_wp2
  go_ret
  exact ⟨rfl, by go_grown⟩

theorem split_any (a : Int) (w : World) (h0 : 0 ≤ a) (h1 : a ≤ 18446744073709551615) :
    Calls Tryz.prog 109 #[.int .u64 a] w fun e w' => e = .returned (.agg #[.int .u64 (a / 2), .int .u64 (a % 2)]) ∧ Grown w w' := by
  go_enter Tryz.func109, Tryz.ntmps109
  go_wp2
  exact bodyPost_ret (v := .agg #[.int .u64 (a / 2), .int .u64 (a % 2)]) (by simp [results, Tryz.results109, go_sem]) rfl ⟨rfl, by go_grown⟩

theorem idx0 (a b : Int) (w : World) : (Instr.index 180 (.agg #[.int .u64 a, .int .u64 b]) (.int .i64 0)).run Tryz.prog w = .ok (.int .u64 a) w := by kernel_rfl
theorem idx1 (a b : Int) (w : World) : (Instr.index 180 (.agg #[.int .u64 a, .int .u64 b]) (.int .i64 1)).run Tryz.prog w = .ok (.int .u64 b) w := by kernel_rfl

theorem Pack_any (n : Int) (m : Bool) (w : World) (h0 : -9223372036854775808 ≤ n) (h1 : n ≤ 9223372036854775807) :
    Calls Tryz.prog 119 #[.int .i64 n, .bool m] w fun e w' => e = .returned (.int .u64 (zPack n m)) ∧ Grown w w' := by
  by_cases hn : n < 0
  · have hz : zPack n m = 0 := if_neg (by omega)
    rw [hz]; clear hz
    go_enter Tryz.func119, Tryz.ntmps119
    go_wp2
    go_ret
    exact ⟨rfl, by go_grown⟩
  by_cases hg : 2147483647 < n
  · have hz : zPack n m = 0 := if_neg (by omega)
    rw [hz]; clear hz
    go_enter Tryz.func119, Tryz.ntmps119
    go_wp2
    go_ret
    exact ⟨rfl, by go_grown⟩
  cases m
  · have hz : zPack n false = 2 * n := (if_pos (by omega)).trans (by simp)
    rw [hz]; clear hz
    go_enter Tryz.func119, Tryz.ntmps119
    go_wp2_with (refine (join_any _ _ _ (by omega) (by omega) (by omega) (by omega)).mono ?_; rintro e w1 ⟨rfl, hg1⟩)
    go_ret
    exact ⟨rfl, gtr (by go_grown) hg1⟩
  · have hz : zPack n true = 2 * n + 1 := if_pos (by omega)
    rw [hz]; clear hz
    go_enter Tryz.func119, Tryz.ntmps119
    go_wp2_with (refine (join_any _ _ _ (by omega) (by omega) (by omega) (by omega)).mono ?_; rintro e w1 ⟨rfl, hg1⟩)
    go_ret
    exact ⟨rfl, gtr (by go_grown) hg1⟩

theorem Index_any (a : Int) (w : World) (h0 : 0 ≤ a) (h1 : a ≤ 18446744073709551615) :
    Calls Tryz.prog 64 #[.int .u64 a] w fun e w' => e = .returned (.int .i64 (a / 2)) ∧ Grown w w' := by
  have hi := idx0
  go_enter Tryz.func64, Tryz.ntmps64
  go_wp2_with (refine (split_any _ _ h0 h1).mono ?_; rintro e w1 ⟨rfl, hg1⟩)
  go_ret
  exact ⟨rfl, hg1⟩

theorem Marked_any (a : Int) (w : World) (h0 : 0 ≤ a) (h1 : a ≤ 18446744073709551615) :
    Calls Tryz.prog 115 #[.int .u64 a] w fun e w' => e = .returned (.bool (a % 2 == 1)) ∧ Grown w w' := by
  have hi := idx1
  go_enter Tryz.func115, Tryz.ntmps115
  go_wp2_with (refine (split_any _ _ h0 h1).mono ?_; rintro e w1 ⟨rfl, hg1⟩)
  go_ret
  exact ⟨rfl, hg1⟩

theorem Mark_any (a : Int) (w : World) (h0 : 0 ≤ a) (h1 : a ≤ 18446744073709551615) :
    Calls Tryz.prog 122 #[.int .u64 a] w fun e w' => e = .returned (.int .u64 (2 * (a / 2) + 1)) ∧ Grown w w' := by
  go_enter Tryz.func122, Tryz.ntmps122
  go_wp2_with (first | (refine (split_any _ _ h0 h1).mono ?_; rintro e w1 ⟨rfl, hg1⟩) | (refine (join_any _ _ _ (by omega) (by omega) (by omega) (by omega)).mono ?_; rintro e w2 ⟨rfl, hg2⟩))
  go_ret
  exact ⟨rfl, gtr hg1 (gtr (by go_grown) hg2)⟩
end Go.Proofs.YtjdjcaoaefapgabGreat
/- Package word and the document's answers for it (corrieref02), function by function: what each call returns, and that it leaves all memory that was there as it was. -/
namespace Go.Proofs.YtjdjcaoaefapgabGreat
open Go.ChangeShapes Go.WideShapes Go.ChangeAt Go.RowKit
set_option maxRecDepth 100000
/-- The word that names an operation, by an offset. -/
def zNaming (n k : Int) : Int := if 0 ≤ n ∧ n ≤ 2147483647 then n + k else 0
/-- The operation that a word names, by an offset. -/
def zNamed (a k : Int) : Int := if k ≤ a ∧ a ≤ 2147483647 + k then a - k else -1

theorem wrap_neg (n : Int) (h0 : -9223372036854775808 ≤ n) (h1 : n < 0) : IntKind.u64.wrap n = n + 18446744073709551616 := by
  simp [IntKind.wrap, IntKind.signed, IntKind.bits]; omega

theorem Over_any (a : Int) (w : World) :
    Calls Tryz.prog 114 #[.int .u64 a] w fun e w' => e = .returned (.bool (decide (2 ≤ a))) ∧ Grown w w' := by
  go_enter Tryz.func114, Tryz.ntmps114
  go_wp2
  go_ret
  exact ⟨rfl, by go_grown⟩

end Go.Proofs.YtjdjcaoaefapgabGreat
/- The laws of package ref (corrielaw01), as functions of the program: each call returns true, and leaves all memory that was there as it was. -/
namespace Go.Proofs.YtjdjcaoaefapgabGreat
open Go.ChangeShapes Go.WideShapes Go.ChangeAt Go.RowKit
set_option maxRecDepth 100000
/- The document's answers. -/
theorem refPack_any (n : Int) (m : Bool) (w : World) (h0 : -9223372036854775808 ≤ n) (h1 : n ≤ 9223372036854775807) :
    Calls Tryz.prog 28 #[.int .i64 n, .bool m] w fun e w' => e = .returned (.int .u64 (zPack n m)) ∧ Grown w w' := by
  by_cases hn : n < 0
  · have hz : zPack n m = 0 := if_neg (by omega)
    rw [hz]; clear hz
    go_enter Tryz.func28, Tryz.ntmps28
    go_wp2
    go_ret
    exact ⟨rfl, by go_grown⟩
  by_cases hg : 2147483647 < n
  · have hz : zPack n m = 0 := if_neg (by omega)
    rw [hz]; clear hz
    go_enter Tryz.func28, Tryz.ntmps28
    go_wp2
    go_ret
    exact ⟨rfl, by go_grown⟩
  cases m
  · have hz : zPack n false = 2 * n := (if_pos (by omega)).trans (by simp)
    rw [hz]; clear hz
    go_enter Tryz.func28, Tryz.ntmps28
    go_wp2
    go_ret
    exact ⟨rfl, by go_grown⟩
  · have hz : zPack n true = 2 * n + 1 := if_pos (by omega)
    rw [hz]; clear hz
    go_enter Tryz.func28, Tryz.ntmps28
    go_wp2
    go_ret
    exact ⟨rfl, by go_grown⟩

theorem refMarked_any (a : Int) (w : World) (h0 : 0 ≤ a) (h1 : a ≤ 18446744073709551615) :
    Calls Tryz.prog 29 #[.int .u64 a] w fun e w' => e = .returned (.bool (a % 2 == 1)) ∧ Grown w w' := by
  go_enter Tryz.func29, Tryz.ntmps29
  go_wp2
  go_ret
  exact ⟨rfl, by go_grown⟩

theorem Pack_at {n : Int} {m : Bool} {v : Int} (w : World) (h : zPack n m = v) (h0 : -9223372036854775808 ≤ n) (h1 : n ≤ 9223372036854775807) :
    Calls Tryz.prog 119 #[.int .i64 n, .bool m] w fun e w' => e = .returned (.int .u64 v) ∧ Grown w w' := by
  subst h; exact Pack_any n m w h0 h1
theorem Index_at {a v : Int} (w : World) (h : a / 2 = v) (h0 : 0 ≤ a) (h1 : a ≤ 18446744073709551615) :
    Calls Tryz.prog 64 #[.int .u64 a] w fun e w' => e = .returned (.int .i64 v) ∧ Grown w w' := by
  subst h; exact Index_any a w h0 h1
theorem Marked_at {a : Int} {v : Bool} (w : World) (h : (a % 2 == 1) = v) (h0 : 0 ≤ a) (h1 : a ≤ 18446744073709551615) :
    Calls Tryz.prog 115 #[.int .u64 a] w fun e w' => e = .returned (.bool v) ∧ Grown w w' := by
  subst h; exact Marked_any a w h0 h1
theorem Mark_at {a v : Int} (w : World) (h : 2 * (a / 2) + 1 = v) (h0 : 0 ≤ a) (h1 : a ≤ 18446744073709551615) :
    Calls Tryz.prog 122 #[.int .u64 a] w fun e w' => e = .returned (.int .u64 v) ∧ Grown w w' := by
  subst h; exact Mark_any a w h0 h1

theorem mod31 (a : Int) : 0 ≤ a % 2147483648 ∧ a % 2147483648 ≤ 2147483647 := by omega
theorem zPack_in {n : Int} {m : Bool} (h0 : 0 ≤ n) (h1 : n ≤ 2147483647) : zPack n m = 2 * n + (if m = true then 1 else 0) := if_pos ⟨h0, h1⟩
theorem zPack_bd (n : Int) (m : Bool) : 0 ≤ zPack n m ∧ zPack n m ≤ 18446744073709551615 := by
  unfold zPack; cases m <;> (split <;> simp <;> omega)

end Go.Proofs.YtjdjcaoaefapgabGreat
