/- The laws of package route (corrielaw03), as functions of the program: each call returns true, and leaves all memory that was there as it was. -/
import Derived.Test.YtciomibokndlpaaRoute
namespace Go.Proofs.Ytciomibokndlpaa
open Go.ChangeShapes Go.WideShapes Go.ChangeAt Go.RowKit
set_option linter.unusedVariables false

theorem Bucket_at {a n v : Int} (w : World) (h : zBucket a n = v) :
    Calls Try.prog 11 #[.int .u64 a, .int .i64 n] w fun e w' => e = .returned (.int .i64 v) ∧ Grown w w' := by
  subst h; exact Bucket_any a n w
theorem May_at {n : Int} {v : Bool} (w : World) (h : decide (Pow2 n) = v) :
    Calls Try.prog 9 #[.int .i64 n] w fun e w' => e = .returned (.bool v) ∧ Grown w w' := by
  cases v
  · exact May_no n w (of_decide_eq_false h)
  · exact May_yes n w (of_decide_eq_true h)

theorem awake_any (w : World) : Calls Try.prog 8 #[] w fun e w' => e = .returned (.bool true) ∧ Grown w w' := by
  go_enter Try.func8, Try.ntmps8
  go_wp2_with fail
  refine (Bucket_at (v := 1) _ (by decide)).mono ?_; rintro e w1 ⟨rfl, g1⟩
  go_wp2_with fail
  refine (Bucket_at (v := 0) _ (by decide)).mono ?_; rintro e w2 ⟨rfl, g2⟩
  go_wp2_with fail
  refine (Bucket_at (v := 39) _ (by decide)).mono ?_; rintro e w3 ⟨rfl, g3⟩
  go_wp2_with fail
  refine (Bucket_at (v := 0) _ (by decide)).mono ?_; rintro e w4 ⟨rfl, g4⟩
  go_wp2_with fail
  refine (May_at (v := true) _ (by decide)).mono ?_; rintro e w5 ⟨rfl, g5⟩
  go_wp2_with fail
  refine (May_at (v := false) _ (by decide)).mono ?_; rintro e w6 ⟨rfl, g6⟩
  go_wp2_with fail
  refine (May_at (v := false) _ (by decide)).mono ?_; rintro e w7 ⟨rfl, g7⟩
  go_wp2_with fail
  go_ret
  exact ⟨rfl, gtr g1 (gtr g2 (gtr g3 (gtr g4 (gtr g5 (gtr g6 g7)))))⟩

theorem law_RouteTells (a n : Int) (w : World) (h0 : 0 ≤ a) (h1 : a ≤ 18446744073709551615) (h2 : -9223372036854775808 ≤ n) (h3 : n ≤ 9223372036854775807) :
    Calls Try.prog 3 #[.int .u64 a, .int .i64 n] w fun e w' => e = .returned (.bool true) ∧ Grown w w' := by
  clear h2 h3
  by_cases h : Pow2 n
  · go_enter Try.func3, Try.ntmps3
    go_wp2_with fail
    refine (awake_any _).mono ?_; rintro e w1 ⟨rfl, g1⟩
    go_wp2_with fail
    refine (May_yes n _ h).mono ?_; rintro e w2 ⟨rfl, g2⟩
    go_wp2_with fail
    refine (refMay_yes n _ h).mono ?_; rintro e w3 ⟨rfl, g3⟩
    go_wp2_with fail
    refine (Bucket_any a n _).mono ?_; rintro e w4 ⟨rfl, g4⟩
    go_wp2_with fail
    refine (refBucket_any a n _).mono ?_; rintro e w5 ⟨rfl, g5⟩
    go_wp2_with fail
    go_ret
    exact ⟨rfl, gtr g1 (gtr g2 (gtr g3 (gtr g4 g5)))⟩
  · go_enter Try.func3, Try.ntmps3
    go_wp2_with fail
    refine (awake_any _).mono ?_; rintro e w1 ⟨rfl, g1⟩
    go_wp2_with fail
    refine (May_no n _ h).mono ?_; rintro e w2 ⟨rfl, g2⟩
    go_wp2_with fail
    refine (refMay_no n _ h).mono ?_; rintro e w3 ⟨rfl, g3⟩
    go_wp2_with fail
    refine (Bucket_any a n _).mono ?_; rintro e w4 ⟨rfl, g4⟩
    go_wp2_with fail
    refine (refBucket_any a n _).mono ?_; rintro e w5 ⟨rfl, g5⟩
    go_wp2_with fail
    go_ret
    exact ⟨rfl, gtr g1 (gtr g2 (gtr g3 (gtr g4 g5)))⟩

theorem law_RouteMay (a n : Int) (w : World) (h0 : 0 ≤ a) (h1 : a ≤ 18446744073709551615) (h2 : -9223372036854775808 ≤ n) (h3 : n ≤ 9223372036854775807) :
    Calls Try.prog 6 #[.int .u64 a, .int .i64 n] w fun e w' => e = .returned (.bool true) ∧ Grown w w' := by
  clear h2 h3
  by_cases h : Pow2 n
  · go_enter Try.func6, Try.ntmps6
    go_wp2_with fail
    refine (awake_any _).mono ?_; rintro e w1 ⟨rfl, g1⟩
    go_wp2_with fail
    refine (refMay_yes n _ h).mono ?_; rintro e w2 ⟨rfl, g2⟩
    go_wp2_with fail
    go_ret
    exact ⟨rfl, gtr g1 g2⟩
  · go_enter Try.func6, Try.ntmps6
    go_wp2_with fail
    refine (awake_any _).mono ?_; rintro e w1 ⟨rfl, g1⟩
    go_wp2_with fail
    refine (refMay_no n _ h).mono ?_; rintro e w2 ⟨rfl, g2⟩
    go_wp2_with fail
    refine (May_no n _ h).mono ?_; rintro e w3 ⟨rfl, g3⟩
    go_wp2_with fail
    refine (Bucket_at (v := 0) _ (if_neg h)).mono ?_; rintro e w4 ⟨rfl, g4⟩
    go_wp2_with fail
    go_ret
    exact ⟨rfl, gtr g1 (gtr g2 (gtr g3 g4))⟩

theorem pow_7 (k : Int) (h2 : 0 ≤ k) : ∃ n, wrap64 ((2 : Int) ^ (k % 7).toNat) = n ∧ Pow2 n := by
  rcases (show k % 7 = 0 ∨ k % 7 = 1 ∨ k % 7 = 2 ∨ k % 7 = 3 ∨ k % 7 = 4 ∨ k % 7 = 5 ∨ k % 7 = 6 by omega) with h | h | h | h | h | h | h
  all_goals
    rw [h]
    exact ⟨_, rfl, by decide +kernel⟩
theorem pow_6 (k : Int) (h2 : 0 ≤ k) : ∃ n, wrap64 ((2 : Int) ^ (k % 6).toNat) = n ∧ Pow2 n ∧ n ≤ 32 := by
  rcases (show k % 6 = 0 ∨ k % 6 = 1 ∨ k % 6 = 2 ∨ k % 6 = 3 ∨ k % 6 = 4 ∨ k % 6 = 5 by omega) with h | h | h | h | h | h
  all_goals
    rw [h]
    exact ⟨_, rfl, by decide +kernel, by decide +kernel⟩
theorem Pow2.bd {n : Int} (h : Pow2 n) : 1 ≤ n ∧ n ≤ 64 := by unfold Pow2 at h; omega
theorem zBucket_bd (a : Int) {n : Int} (h : Pow2 n) : 0 ≤ zBucket a n ∧ zBucket a n < n := by
  unfold zBucket
  rw [if_pos h]
  obtain ⟨l, u⟩ := zH_lo a
  generalize zH a = x at l u
  rcases h with rfl | rfl | rfl | rfl | rfl | rfl | rfl <;> omega
theorem zBucket_half (a : Int) {n : Int} (h : Pow2 n) (h' : n ≤ 32) : Pow2 (2 * n) ∧ zBucket a (2 * n) / 2 = zBucket a n := by
  have h2 : Pow2 (2 * n) := by unfold Pow2 at *; omega
  refine ⟨h2, ?_⟩
  unfold zBucket
  rw [if_pos h, if_pos h2]
  obtain ⟨l, u⟩ := zH_lo a
  generalize zH a = x at l u
  rcases h with rfl | rfl | rfl | rfl | rfl | rfl | rfl <;> omega
theorem zH_up (a : Int) : zH (IntKind.u64.wrap (a + 17428512612931826493)) = (zH a + 1) % 18446744073709551616 := by
  simp [IntKind.wrap, IntKind.signed, IntKind.bits, zH]; omega
theorem zBucket_up (a : Int) {n : Int} (h : Pow2 n) :
    zBucket (IntKind.u64.wrap (a + 17428512612931826493)) n = zBucket a n ∨ ((zBucket (IntKind.u64.wrap (a + 17428512612931826493)) n == zBucket a n) = false ∧ zBucket (IntKind.u64.wrap (a + 17428512612931826493)) n = (zBucket a n + 1) % n) := by
  have e : zBucket (IntKind.u64.wrap (a + 17428512612931826493)) n = (zBucket a n + 1) % n ∨ zBucket (IntKind.u64.wrap (a + 17428512612931826493)) n = zBucket a n := by
    unfold zBucket
    rw [if_pos h, if_pos h, zH_up]
    obtain ⟨l, u⟩ := zH_lo a
    generalize zH a = x at l u
    rcases h with rfl | rfl | rfl | rfl | rfl | rfl | rfl <;> omega
  by_cases k : zBucket (IntKind.u64.wrap (a + 17428512612931826493)) n = zBucket a n
  · exact .inl k
  · exact .inr ⟨by simpa using k, by omega⟩

theorem law_RouteOne (a k : Int) (w : World) (h0 : 0 ≤ a) (h1 : a ≤ 18446744073709551615) (h2 : 0 ≤ k) (h3 : k ≤ 255) :
    Calls Try.prog 4 #[.int .u64 a, .int .u8 k] w fun e w' => e = .returned (.bool true) ∧ Grown w w' := by
  obtain ⟨n, hn, hp⟩ := pow_7 k h2
  obtain ⟨b0, b1⟩ := hp.bd
  obtain ⟨c0, c1⟩ := zBucket_bd a hp
  obtain ⟨z, hz⟩ : ∃ z, zBucket a n = z := ⟨_, rfl⟩
  rw [hz] at c0 c1
  have HZ := Lib.hid hz; clear hz
  go_enter Try.func4, Try.ntmps4
  go_wp2_with fail
  refine (awake_any _).mono ?_; rintro e w1 ⟨rfl, g1⟩
  go_wp2_with fail
  refine (Bucket_at _ HZ.out).mono ?_; rintro e w2 ⟨rfl, g2⟩
  go_wp2_with fail
  refine (May_yes n _ hp).mono ?_; rintro e w3 ⟨rfl, g3⟩
  go_wp2_with fail
  go_ret
  exact ⟨rfl, gtr g1 (gtr g2 g3)⟩

theorem law_RouteParts (a k : Int) (w : World) (h0 : 0 ≤ a) (h1 : a ≤ 18446744073709551615) (h2 : 0 ≤ k) (h3 : k ≤ 255) :
    Calls Try.prog 5 #[.int .u64 a, .int .u8 k] w fun e w' => e = .returned (.bool true) ∧ Grown w w' := by
  obtain ⟨n, hn, hp, hb⟩ := pow_6 k h2
  obtain ⟨b0, b1⟩ := hp.bd
  obtain ⟨hp2, hh⟩ := zBucket_half a hp hb
  obtain ⟨c0, c1⟩ := zBucket_bd a hp2
  obtain ⟨z, hz⟩ : ∃ z, zBucket a (2 * n) = z := ⟨_, rfl⟩
  rw [hz] at c0 c1 hh
  have HZ := Lib.hid hz; clear hz
  have HH := Lib.hid hh; clear hh
  go_enter Try.func5, Try.ntmps5
  go_wp2_with fail
  refine (awake_any _).mono ?_; rintro e w1 ⟨rfl, g1⟩
  go_wp2_with fail
  refine (Bucket_at _ HZ.out).mono ?_; rintro e w2 ⟨rfl, g2⟩
  go_wp2_with fail
  refine (Bucket_at _ HH.out.symm).mono ?_; rintro e w3 ⟨rfl, g3⟩
  go_wp2_with fail
  go_ret
  exact ⟨rfl, gtr g1 (gtr g2 g3)⟩

theorem law_RouteSpread (a k : Int) (w : World) (h0 : 0 ≤ a) (h1 : a ≤ 18446744073709551615) (h2 : 0 ≤ k) (h3 : k ≤ 255) :
    Calls Try.prog 7 #[.int .u64 a, .int .u8 k] w fun e w' => e = .returned (.bool true) ∧ Grown w w' := by
  obtain ⟨n, hn, hp⟩ := pow_7 k h2
  obtain ⟨b0, b1⟩ := hp.bd
  have hu := zBucket_up a hp
  obtain ⟨c0, c1⟩ := zBucket_bd a hp
  obtain ⟨z, hz⟩ : ∃ z, zBucket a n = z := ⟨_, rfl⟩
  rw [hz] at c0 c1 hu
  have HZ := Lib.hid hz; clear hz
  obtain ⟨y, hy⟩ : ∃ y, zBucket (IntKind.u64.wrap (a + 17428512612931826493)) n = y := ⟨_, rfl⟩
  rw [hy] at hu
  have HY := Lib.hid hy; clear hy
  rcases hu with rfl | ⟨hne, rfl⟩
  all_goals
    go_enter Try.func7, Try.ntmps7
    go_wp2_with fail
    refine (awake_any _).mono ?_; rintro e w1 ⟨rfl, g1⟩
    go_wp2_with fail
    refine (Bucket_at _ HZ.out).mono ?_; rintro e w2 ⟨rfl, g2⟩
    go_wp2_with fail
    refine (Bucket_at _ HY.out).mono ?_; rintro e w3 ⟨rfl, g3⟩
    go_wp2_with fail
    go_ret
    exact ⟨rfl, gtr g1 (gtr g2 g3)⟩
end Go.Proofs.Ytciomibokndlpaa
