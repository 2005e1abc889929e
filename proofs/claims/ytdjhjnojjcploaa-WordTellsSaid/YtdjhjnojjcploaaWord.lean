/- Package word and the document's answers for it (corrieref02), function by function: what each call returns, and that it leaves all memory that was there as it was. -/
import Derived.Test.YtdjhjnojjcploaaGrow
namespace Go.Proofs.Ytdjhjnojjcploaa
open Go.ChangeShapes Go.WideShapes Go.ChangeAt Go.RowKit

/-- The word that names an operation, by an offset. -/
def zNaming (n k : Int) : Int := if 0 ≤ n ∧ n ≤ 2147483647 then n + k else 0
/-- The operation that a word names, by an offset. -/
def zNamed (a k : Int) : Int := if k ≤ a ∧ a ≤ 2147483647 + k then a - k else -1

theorem wrap_neg (n : Int) (h0 : -9223372036854775808 ≤ n) (h1 : n < 0) : IntKind.u64.wrap n = n + 18446744073709551616 := by
  simp [IntKind.wrap, IntKind.signed, IntKind.bits]; omega

set_option maxHeartbeats 400000 in
theorem naming_any (n k : Int) (w : World) (h0 : -9223372036854775808 ≤ n) (h1 : n ≤ 9223372036854775807) (k0 : 0 ≤ k) (k1 : k ≤ 3) :
    Calls Try.prog 19 #[.int .i64 n, .int .u64 k] w fun e w' => e = .returned (.int .u64 (zNaming n k)) ∧ Grown w w' := by
  have hmf := mkFunc
  by_cases hn : n < 0
  · have hz : zNaming n k = 0 := if_neg (by omega)
    rw [hz]; clear hz
    have hw := wrap_neg n h0 hn
    have hd : decide (n + 18446744073709551616 ≤ 2147483647) = false := decide_eq_false (by omega)
    go_enter Try.func19, Try.ntmps19
    go_wp2
    go_ret
    exact ⟨rfl, by go_grown⟩
  by_cases hg : 2147483647 < n
  · have hz : zNaming n k = 0 := if_neg (by omega)
    rw [hz]; clear hz
    have hd : decide (n ≤ 2147483647) = false := decide_eq_false (by omega)
    go_enter Try.func19, Try.ntmps19
    go_wp2
    go_ret
    exact ⟨rfl, by go_grown⟩
  · have hz : zNaming n k = n + k := if_pos (by omega)
    rw [hz]; clear hz
    have hd : decide (n ≤ 2147483647) = true := decide_eq_true (by omega)
    go_enter Try.func19, Try.ntmps19
    go_wp2
    go_ret
    exact ⟨rfl, by go_grown⟩

set_option maxHeartbeats 400000 in
theorem named_any (a k : Int) (w : World) (h0 : 0 ≤ a) (h1 : a ≤ 18446744073709551615) (k0 : 0 ≤ k) (k1 : k ≤ 3) :
    Calls Try.prog 21 #[.int .u64 a, .int .u64 k] w fun e w' => e = .returned (.int .i64 (zNamed a k)) ∧ Grown w w' := by
  have hmf := mkFunc
  by_cases hn : a < k
  · have hz : zNamed a k = -1 := if_neg (by omega)
    rw [hz]; clear hz
    have hw := wrap_neg (a - k) (by omega) (by omega)
    have hd : decide (a - k + 18446744073709551616 ≤ 2147483647) = false := decide_eq_false (by omega)
    go_enter Try.func21, Try.ntmps21
    go_wp2
    go_ret
    exact ⟨rfl, by go_grown⟩
  by_cases hg : 2147483647 < a - k
  · have hz : zNamed a k = -1 := if_neg (by omega)
    rw [hz]; clear hz
    have hd : decide (a - k ≤ 2147483647) = false := decide_eq_false (by omega)
    go_enter Try.func21, Try.ntmps21
    go_wp2
    go_ret
    exact ⟨rfl, by go_grown⟩
  · have hz : zNamed a k = a - k := if_pos (by omega)
    rw [hz]; clear hz
    have hd : decide (a - k ≤ 2147483647) = true := decide_eq_true (by omega)
    go_enter Try.func21, Try.ntmps21
    go_wp2
    go_ret
    exact ⟨rfl, by go_grown⟩

theorem Out_any (n : Int) (w : World) (h0 : -9223372036854775808 ≤ n) (h1 : n ≤ 9223372036854775807) :
    Calls Try.prog 9 #[.int .i64 n] w fun e w' => e = .returned (.int .u64 (zNaming n 3)) ∧ Grown w w' := by
  go_enter Try.func9, Try.ntmps9
  go_wp2_with (refine (naming_any _ _ _ h0 h1 (by omega) (by omega)).mono ?_; rintro e w1 ⟨rfl, hg1⟩)
  go_ret
  exact ⟨rfl, hg1⟩
theorem Target_any (n : Int) (w : World) (h0 : -9223372036854775808 ≤ n) (h1 : n ≤ 9223372036854775807) :
    Calls Try.prog 11 #[.int .i64 n] w fun e w' => e = .returned (.int .u64 (zNaming n 2)) ∧ Grown w w' := by
  go_enter Try.func11, Try.ntmps11
  go_wp2_with (refine (naming_any _ _ _ h0 h1 (by omega) (by omega)).mono ?_; rintro e w1 ⟨rfl, hg1⟩)
  go_ret
  exact ⟨rfl, hg1⟩
theorem By_any (a : Int) (w : World) (h0 : 0 ≤ a) (h1 : a ≤ 18446744073709551615) :
    Calls Try.prog 13 #[.int .u64 a] w fun e w' => e = .returned (.int .i64 (zNamed a 3)) ∧ Grown w w' := by
  go_enter Try.func13, Try.ntmps13
  go_wp2_with (refine (named_any _ _ _ h0 h1 (by omega) (by omega)).mono ?_; rintro e w1 ⟨rfl, hg1⟩)
  go_ret
  exact ⟨rfl, hg1⟩
theorem Of_any (a : Int) (w : World) (h0 : 0 ≤ a) (h1 : a ≤ 18446744073709551615) :
    Calls Try.prog 15 #[.int .u64 a] w fun e w' => e = .returned (.int .i64 (zNamed a 2)) ∧ Grown w w' := by
  go_enter Try.func15, Try.ntmps15
  go_wp2_with (refine (named_any _ _ _ h0 h1 (by omega) (by omega)).mono ?_; rintro e w1 ⟨rfl, hg1⟩)
  go_ret
  exact ⟨rfl, hg1⟩
theorem Over_any (a : Int) (w : World) :
    Calls Try.prog 17 #[.int .u64 a] w fun e w' => e = .returned (.bool (decide (2 ≤ a))) ∧ Grown w w' := by
  go_enter Try.func17, Try.ntmps17
  go_wp2
  go_ret
  exact ⟨rfl, by go_grown⟩

/- The document's answers. -/
theorem refMay_any (n : Int) (w : World) :
    Calls Try.prog 20 #[.int .i64 n] w fun e w' => e = .returned (.bool (decide (0 ≤ n ∧ n ≤ 2147483647))) ∧ Grown w w' := by
  by_cases hn : 0 ≤ n
  · have hz : decide (0 ≤ n ∧ n ≤ 2147483647) = decide (n ≤ 2147483647) := by simp [hn]
    rw [hz]; clear hz
    go_enter Try.func20, Try.ntmps20
    go_wp2
    go_ret
    exact ⟨rfl, by go_grown⟩
  · have hz : decide (0 ≤ n ∧ n ≤ 2147483647) = false := by simp [hn]
    rw [hz]; clear hz
    go_enter Try.func20, Try.ntmps20
    go_wp2
    go_ret
    exact ⟨rfl, by go_grown⟩
theorem refOut_any (n : Int) (w : World) :
    Calls Try.prog 10 #[.int .i64 n] w fun e w' => e = .returned (.int .u64 (zNaming n 3)) ∧ Grown w w' := by
  by_cases hn : 0 ≤ n ∧ n ≤ 2147483647
  · have hz : zNaming n 3 = n + 3 := if_pos hn
    have hd : decide (0 ≤ n ∧ n ≤ 2147483647) = true := decide_eq_true hn
    rw [hz]; clear hz
    obtain ⟨n0, n1⟩ := hn
    go_enter Try.func10, Try.ntmps10
    go_wp2_with fail
    refine (refMay_any n _).mono ?_; rw [hd]; rintro e w1 ⟨rfl, g1⟩; clear hd
    go_wp2_with fail
    go_ret
    exact ⟨rfl, g1⟩
  · have hz : zNaming n 3 = 0 := if_neg hn
    have hd : decide (0 ≤ n ∧ n ≤ 2147483647) = false := decide_eq_false hn
    rw [hz]; clear hz
    go_enter Try.func10, Try.ntmps10
    go_wp2_with fail
    refine (refMay_any n _).mono ?_; rw [hd]; rintro e w1 ⟨rfl, g1⟩; clear hd
    go_wp2_with fail
    go_ret
    exact ⟨rfl, g1⟩
theorem refTarget_any (n : Int) (w : World) :
    Calls Try.prog 12 #[.int .i64 n] w fun e w' => e = .returned (.int .u64 (zNaming n 2)) ∧ Grown w w' := by
  by_cases hn : 0 ≤ n ∧ n ≤ 2147483647
  · have hz : zNaming n 2 = n + 2 := if_pos hn
    have hd : decide (0 ≤ n ∧ n ≤ 2147483647) = true := decide_eq_true hn
    rw [hz]; clear hz
    obtain ⟨n0, n1⟩ := hn
    go_enter Try.func12, Try.ntmps12
    go_wp2_with fail
    refine (refMay_any n _).mono ?_; rw [hd]; rintro e w1 ⟨rfl, g1⟩; clear hd
    go_wp2_with fail
    go_ret
    exact ⟨rfl, g1⟩
  · have hz : zNaming n 2 = 0 := if_neg hn
    have hd : decide (0 ≤ n ∧ n ≤ 2147483647) = false := decide_eq_false hn
    rw [hz]; clear hz
    go_enter Try.func12, Try.ntmps12
    go_wp2_with fail
    refine (refMay_any n _).mono ?_; rw [hd]; rintro e w1 ⟨rfl, g1⟩; clear hd
    go_wp2_with fail
    go_ret
    exact ⟨rfl, g1⟩
theorem refBy_any (a : Int) (w : World) (h0 : 0 ≤ a) (h1 : a ≤ 18446744073709551615) :
    Calls Try.prog 14 #[.int .u64 a] w fun e w' => e = .returned (.int .i64 (zNamed a 3)) ∧ Grown w w' := by
  by_cases hn : a < 3
  · have hz : zNamed a 3 = -1 := if_neg (by omega)
    rw [hz]; clear hz
    go_enter Try.func14, Try.ntmps14
    go_wp2
    go_ret
    exact ⟨rfl, by go_grown⟩
  by_cases hg : 2147483650 < a
  · have hz : zNamed a 3 = -1 := if_neg (by omega)
    rw [hz]; clear hz
    go_enter Try.func14, Try.ntmps14
    go_wp2
    go_ret
    exact ⟨rfl, by go_grown⟩
  · have hz : zNamed a 3 = a - 3 := if_pos (by omega)
    rw [hz]; clear hz
    go_enter Try.func14, Try.ntmps14
    go_wp2
    go_ret
    exact ⟨rfl, by go_grown⟩
theorem refOf_any (a : Int) (w : World) (h0 : 0 ≤ a) (h1 : a ≤ 18446744073709551615) :
    Calls Try.prog 16 #[.int .u64 a] w fun e w' => e = .returned (.int .i64 (zNamed a 2)) ∧ Grown w w' := by
  by_cases hn : a < 2
  · have hz : zNamed a 2 = -1 := if_neg (by omega)
    rw [hz]; clear hz
    go_enter Try.func16, Try.ntmps16
    go_wp2
    go_ret
    exact ⟨rfl, by go_grown⟩
  by_cases hg : 2147483649 < a
  · have hz : zNamed a 2 = -1 := if_neg (by omega)
    rw [hz]; clear hz
    go_enter Try.func16, Try.ntmps16
    go_wp2
    go_ret
    exact ⟨rfl, by go_grown⟩
  · have hz : zNamed a 2 = a - 2 := if_pos (by omega)
    rw [hz]; clear hz
    go_enter Try.func16, Try.ntmps16
    go_wp2
    go_ret
    exact ⟨rfl, by go_grown⟩
theorem refOver_any (a : Int) (w : World) :
    Calls Try.prog 18 #[.int .u64 a] w fun e w' => e = .returned (.bool (decide (2 ≤ a))) ∧ Grown w w' := by
  go_enter Try.func18, Try.ntmps18
  go_wp2
  go_ret
  exact ⟨rfl, by go_grown⟩
end Go.Proofs.Ytdjhjnojjcploaa
