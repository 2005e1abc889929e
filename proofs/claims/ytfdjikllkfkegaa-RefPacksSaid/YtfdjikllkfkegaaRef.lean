/- Package ref and the document's answers for it (corrieref01), function by function: what each call returns, and that it leaves all memory that was there as it was. -/
import Derived.Test.YtfdjikllkfkegaaGrow
namespace Go.Proofs.Ytfdjikllkfkegaa
open Go.ChangeShapes Go.WideShapes Go.ChangeAt Go.RowKit

/-- The reference of a node, marked or not. -/
def zPack (n : Int) (m : Bool) : Int := if 0 ≤ n ∧ n ≤ 2147483647 then 2 * n + (if m = true then 1 else 0) else 0


set_option maxHeartbeats 400000 in
theorem join_any (a b : Int) (w : World) (ha : 0 ≤ a) (ha' : a ≤ 9223372036854775807) (hb : 0 ≤ b) (hb' : b ≤ 1) :
    Calls Try.prog 17 #[.agg #[.int .u64 a, .int .u64 b]] w fun e w' => e = .returned (.int .u64 (2 * a + b)) ∧ Grown w w' := by
  have hmf := mkFunc
  have i0 : ∀ w, (Instr.index 34 (.agg #[.int .u64 a, .int .u64 b]) (.int .i64 0)).run Try.prog w = .ok (.int .u64 a) w := fun _ => by kernel_rfl
  have i1 : ∀ w, (Instr.index 34 (.agg #[.int .u64 a, .int .u64 b]) (.int .i64 1)).run Try.prog w = .ok (.int .u64 b) w := fun _ => by kernel_rfl
  go_enter Try.func17, Try.ntmps17
  go_wp2
  go_rounds 3
  go_wp2
  go_ret
  exact ⟨rfl, by go_grown⟩

theorem split_any (a : Int) (w : World) (h0 : 0 ≤ a) (h1 : a ≤ 18446744073709551615) :
    Calls Try.prog 18 #[.int .u64 a] w fun e w' => e = .returned (.agg #[.int .u64 (a / 2), .int .u64 (a % 2)]) ∧ Grown w w' := by
  go_enter Try.func18, Try.ntmps18
  go_wp2
  exact bodyPost_ret (v := .agg #[.int .u64 (a / 2), .int .u64 (a % 2)]) (by simp [results, Try.results18, go_sem]) rfl ⟨rfl, by go_grown⟩

theorem idx0 (a b : Int) (w : World) : (Instr.index 34 (.agg #[.int .u64 a, .int .u64 b]) (.int .i64 0)).run Try.prog w = .ok (.int .u64 a) w := by kernel_rfl
theorem idx1 (a b : Int) (w : World) : (Instr.index 34 (.agg #[.int .u64 a, .int .u64 b]) (.int .i64 1)).run Try.prog w = .ok (.int .u64 b) w := by kernel_rfl

theorem Pack_any (n : Int) (m : Bool) (w : World) (h0 : -9223372036854775808 ≤ n) (h1 : n ≤ 9223372036854775807) :
    Calls Try.prog 9 #[.int .i64 n, .bool m] w fun e w' => e = .returned (.int .u64 (zPack n m)) ∧ Grown w w' := by
  by_cases hn : n < 0
  · have hz : zPack n m = 0 := if_neg (by omega)
    rw [hz]; clear hz
    go_enter Try.func9, Try.ntmps9
    go_wp2
    go_ret
    exact ⟨rfl, by go_grown⟩
  by_cases hg : 2147483647 < n
  · have hz : zPack n m = 0 := if_neg (by omega)
    rw [hz]; clear hz
    go_enter Try.func9, Try.ntmps9
    go_wp2
    go_ret
    exact ⟨rfl, by go_grown⟩
  cases m
  · have hz : zPack n false = 2 * n := (if_pos (by omega)).trans (by simp)
    rw [hz]; clear hz
    go_enter Try.func9, Try.ntmps9
    go_wp2_with (refine (join_any _ _ _ (by omega) (by omega) (by omega) (by omega)).mono ?_; rintro e w1 ⟨rfl, hg1⟩)
    go_ret
    exact ⟨rfl, gtr (by go_grown) hg1⟩
  · have hz : zPack n true = 2 * n + 1 := if_pos (by omega)
    rw [hz]; clear hz
    go_enter Try.func9, Try.ntmps9
    go_wp2_with (refine (join_any _ _ _ (by omega) (by omega) (by omega) (by omega)).mono ?_; rintro e w1 ⟨rfl, hg1⟩)
    go_ret
    exact ⟨rfl, gtr (by go_grown) hg1⟩

theorem Index_any (a : Int) (w : World) (h0 : 0 ≤ a) (h1 : a ≤ 18446744073709551615) :
    Calls Try.prog 11 #[.int .u64 a] w fun e w' => e = .returned (.int .i64 (a / 2)) ∧ Grown w w' := by
  have hi := idx0
  go_enter Try.func11, Try.ntmps11
  go_wp2_with (refine (split_any _ _ h0 h1).mono ?_; rintro e w1 ⟨rfl, hg1⟩)
  go_ret
  exact ⟨rfl, hg1⟩

theorem Marked_any (a : Int) (w : World) (h0 : 0 ≤ a) (h1 : a ≤ 18446744073709551615) :
    Calls Try.prog 13 #[.int .u64 a] w fun e w' => e = .returned (.bool (a % 2 == 1)) ∧ Grown w w' := by
  have hi := idx1
  go_enter Try.func13, Try.ntmps13
  go_wp2_with (refine (split_any _ _ h0 h1).mono ?_; rintro e w1 ⟨rfl, hg1⟩)
  go_ret
  exact ⟨rfl, hg1⟩

theorem Mark_any (a : Int) (w : World) (h0 : 0 ≤ a) (h1 : a ≤ 18446744073709551615) :
    Calls Try.prog 15 #[.int .u64 a] w fun e w' => e = .returned (.int .u64 (2 * (a / 2) + 1)) ∧ Grown w w' := by
  go_enter Try.func15, Try.ntmps15
  go_wp2_with (first | (refine (split_any _ _ h0 h1).mono ?_; rintro e w1 ⟨rfl, hg1⟩) | (refine (join_any _ _ _ (by omega) (by omega) (by omega) (by omega)).mono ?_; rintro e w2 ⟨rfl, hg2⟩))
  go_ret
  exact ⟨rfl, gtr hg1 (gtr (by go_grown) hg2)⟩
end Go.Proofs.Ytfdjikllkfkegaa
