/- The laws of package word (corrielaw02), as functions of the program: each call returns true, and leaves all memory that was there as it was. -/
import Derived.Test.YtdjhjnojjcploaaWord
namespace Go.Proofs.Ytdjhjnojjcploaa
open Go.ChangeShapes Go.WideShapes Go.ChangeAt Go.RowKit

theorem Out_at {n : Int} {v : Int} (w : World) (h : zNaming n 3 = v) (h0 : -9223372036854775808 ≤ n) (h1 : n ≤ 9223372036854775807) :
    Calls Try.prog 9 #[.int .i64 n] w fun e w' => e = .returned (.int .u64 v) ∧ Grown w w' := by
  subst h; exact Out_any n w h0 h1
theorem Target_at {n : Int} {v : Int} (w : World) (h : zNaming n 2 = v) (h0 : -9223372036854775808 ≤ n) (h1 : n ≤ 9223372036854775807) :
    Calls Try.prog 11 #[.int .i64 n] w fun e w' => e = .returned (.int .u64 v) ∧ Grown w w' := by
  subst h; exact Target_any n w h0 h1
theorem By_at {a v : Int} (w : World) (h : zNamed a 3 = v) (h0 : 0 ≤ a) (h1 : a ≤ 18446744073709551615) :
    Calls Try.prog 13 #[.int .u64 a] w fun e w' => e = .returned (.int .i64 v) ∧ Grown w w' := by
  subst h; exact By_any a w h0 h1
theorem Of_at {a v : Int} (w : World) (h : zNamed a 2 = v) (h0 : 0 ≤ a) (h1 : a ≤ 18446744073709551615) :
    Calls Try.prog 15 #[.int .u64 a] w fun e w' => e = .returned (.int .i64 v) ∧ Grown w w' := by
  subst h; exact Of_any a w h0 h1
theorem Over_at {a : Int} {v : Bool} (w : World) (h : decide (2 ≤ a) = v) :
    Calls Try.prog 17 #[.int .u64 a] w fun e w' => e = .returned (.bool v) ∧ Grown w w' := by
  subst h; exact Over_any a w

theorem awake_any (w : World) : Calls Try.prog 8 #[] w fun e w' => e = .returned (.bool true) ∧ Grown w w' := by
  go_enter Try.func8, Try.ntmps8
  go_wp2_with fail
  refine (Out_at (v := 7) _ (by decide) (by decide) (by decide)).mono ?_; rintro e w1 ⟨rfl, g1⟩
  go_wp2_with fail
  refine (By_at (v := 4) _ (by decide) (by decide) (by decide)).mono ?_; rintro e w2 ⟨rfl, g2⟩
  go_wp2_with fail
  refine (By_at (v := -1) _ (by decide) (by decide) (by decide)).mono ?_; rintro e w3 ⟨rfl, g3⟩
  go_wp2_with fail
  refine (Target_at (v := 6) _ (by decide) (by decide) (by decide)).mono ?_; rintro e w4 ⟨rfl, g4⟩
  go_wp2_with fail
  refine (Of_at (v := 4) _ (by decide) (by decide) (by decide)).mono ?_; rintro e w5 ⟨rfl, g5⟩
  go_wp2_with fail
  refine (Of_at (v := -1) _ (by decide) (by decide) (by decide)).mono ?_; rintro e w6 ⟨rfl, g6⟩
  go_wp2_with fail
  refine (Over_at (v := true) _ (by decide)).mono ?_; rintro e w7 ⟨rfl, g7⟩
  go_wp2_with fail
  refine (Over_at (v := false) _ (by decide)).mono ?_; rintro e w8 ⟨rfl, g8⟩
  go_wp2_with fail
  refine (Over_at (v := false) _ (by decide)).mono ?_; rintro e w9 ⟨rfl, g9⟩
  go_wp2_with fail
  refine (Out_at (v := 0) _ (by decide) (by decide) (by decide)).mono ?_; rintro e w10 ⟨rfl, g10⟩
  go_wp2_with fail
  go_ret
  exact ⟨rfl, gtr g1 (gtr g2 (gtr g3 (gtr g4 (gtr g5 (gtr g6 (gtr g7 (gtr g8 (gtr g9 g10))))))))⟩

theorem law_WordOuts (n : Int) (w : World) (h0 : -9223372036854775808 ≤ n) (h1 : n ≤ 9223372036854775807) :
    Calls Try.prog 3 #[.int .i64 n] w fun e w' => e = .returned (.bool true) ∧ Grown w w' := by
  go_enter Try.func3, Try.ntmps3
  go_wp2_with fail
  refine (awake_any _).mono ?_; rintro e w1 ⟨rfl, g1⟩
  go_wp2_with fail
  refine (Out_any n _ h0 h1).mono ?_; rintro e w2 ⟨rfl, g2⟩
  go_wp2_with fail
  refine (refOut_any n _).mono ?_; rintro e w3 ⟨rfl, g3⟩
  go_wp2_with fail
  refine (Target_any n _ h0 h1).mono ?_; rintro e w4 ⟨rfl, g4⟩
  go_wp2_with fail
  refine (refTarget_any n _).mono ?_; rintro e w5 ⟨rfl, g5⟩
  go_wp2_with fail
  go_ret
  exact ⟨rfl, gtr g1 (gtr g2 (gtr g3 (gtr g4 g5)))⟩

theorem law_WordTells (a : Int) (w : World) (h0 : 0 ≤ a) (h1 : a ≤ 18446744073709551615) :
    Calls Try.prog 4 #[.int .u64 a] w fun e w' => e = .returned (.bool true) ∧ Grown w w' := by
  go_enter Try.func4, Try.ntmps4
  go_wp2_with fail
  refine (awake_any _).mono ?_; rintro e w1 ⟨rfl, g1⟩
  go_wp2_with fail
  refine (By_any a _ h0 h1).mono ?_; rintro e w2 ⟨rfl, g2⟩
  go_wp2_with fail
  refine (refBy_any a _ h0 h1).mono ?_; rintro e w3 ⟨rfl, g3⟩
  go_wp2_with fail
  refine (Of_any a _ h0 h1).mono ?_; rintro e w4 ⟨rfl, g4⟩
  go_wp2_with fail
  refine (refOf_any a _ h0 h1).mono ?_; rintro e w5 ⟨rfl, g5⟩
  go_wp2_with fail
  refine (Over_any a _).mono ?_; rintro e w6 ⟨rfl, g6⟩
  go_wp2_with fail
  refine (refOver_any a _).mono ?_; rintro e w7 ⟨rfl, g7⟩
  go_wp2_with fail
  go_ret
  exact ⟨rfl, gtr g1 (gtr g2 (gtr g3 (gtr g4 (gtr g5 (gtr g6 g7)))))⟩

theorem mod31 (a : Int) : 0 ≤ a % 2147483648 ∧ a % 2147483648 ≤ 2147483647 := by omega
theorem naming_in {n k : Int} (h0 : 0 ≤ n) (h1 : n ≤ 2147483647) : zNaming n k = n + k := if_pos ⟨h0, h1⟩
theorem named_naming {n k : Int} (h0 : 0 ≤ n) (h1 : n ≤ 2147483647) : zNamed (n + k) k = n := (if_pos (by omega)).trans (by omega)

theorem law_WordBack (a : Int) (w : World) (h0 : 0 ≤ a) (h1 : a ≤ 4294967295) :
    Calls Try.prog 5 #[.int .u32 a] w fun e w' => e = .returned (.bool true) ∧ Grown w w' := by
  obtain ⟨k0, k1⟩ := mod31 a
  go_enter Try.func5, Try.ntmps5
  go_wp2_with fail
  refine (awake_any _).mono ?_; rintro e w1 ⟨rfl, g1⟩
  go_wp2_with fail
  refine (Out_at _ (naming_in k0 k1) (by omega) (by omega)).mono ?_; rintro e w2 ⟨rfl, g2⟩
  go_wp2_with fail
  refine (By_at _ (named_naming k0 k1) (by omega) (by omega)).mono ?_; rintro e w3 ⟨rfl, g3⟩
  go_wp2_with fail
  refine (Target_at _ (naming_in k0 k1) (by omega) (by omega)).mono ?_; rintro e w4 ⟨rfl, g4⟩
  go_wp2_with fail
  refine (Of_at _ (named_naming k0 k1) (by omega) (by omega)).mono ?_; rintro e w5 ⟨rfl, g5⟩
  go_wp2_with fail
  refine (Out_at _ (naming_in k0 k1) (by omega) (by omega)).mono ?_; rintro e w6 ⟨rfl, g6⟩
  go_wp2_with fail
  refine (Over_at (v := true) _ (decide_eq_true (by omega))).mono ?_; rintro e w7 ⟨rfl, g7⟩
  go_wp2_with fail
  refine (Target_at _ (naming_in k0 k1) (by omega) (by omega)).mono ?_; rintro e w8 ⟨rfl, g8⟩
  go_wp2_with fail
  refine (Over_at (v := true) _ (decide_eq_true (by omega))).mono ?_; rintro e w9 ⟨rfl, g9⟩
  go_wp2_with fail
  go_ret
  exact ⟨rfl, gtr g1 (gtr g2 (gtr g3 (gtr g4 (gtr g5 (gtr g6 (gtr g7 (gtr g8 g9)))))))⟩

theorem named_lt {a k : Int} : (zNamed a k < 0 ∧ zNamed a k = -1) ∨ (0 ≤ zNamed a k ∧ zNamed a k = a - k ∧ k ≤ a) := by
  unfold zNamed; split
  · right; omega
  · left; omega

set_option maxHeartbeats 400000 in
theorem law_WordOver (a : Int) (w : World) (h0 : 0 ≤ a) (h1 : a ≤ 18446744073709551615) :
    Calls Try.prog 6 #[.int .u64 a] w fun e w' => e = .returned (.bool true) ∧ Grown w w' := by
  rcases (show a = 0 ∨ a = 1 ∨ 2 ≤ a by omega) with rfl | rfl | h2
  · go_enter Try.func6, Try.ntmps6
    go_wp2_with fail
    refine (awake_any _).mono ?_; rintro e w1 ⟨rfl, g1⟩
    go_wp2_with fail
    refine (Over_at (v := false) _ (by decide)).mono ?_; rintro e w2 ⟨rfl, g2⟩
    go_wp2_with fail
    refine (By_at (v := -1) _ (by decide) (by decide) (by decide)).mono ?_; rintro e w3 ⟨rfl, g3⟩
    go_wp2_with fail
    refine (Of_at (v := -1) _ (by decide) (by decide) (by decide)).mono ?_; rintro e w4 ⟨rfl, g4⟩
    go_wp2_with fail
    go_ret
    exact ⟨rfl, gtr g1 (gtr g2 (gtr g3 g4))⟩
  · go_enter Try.func6, Try.ntmps6
    go_wp2_with fail
    refine (awake_any _).mono ?_; rintro e w1 ⟨rfl, g1⟩
    go_wp2_with fail
    refine (Over_at (v := false) _ (by decide)).mono ?_; rintro e w2 ⟨rfl, g2⟩
    go_wp2_with fail
    refine (By_at (v := -1) _ (by decide) (by decide) (by decide)).mono ?_; rintro e w3 ⟨rfl, g3⟩
    go_wp2_with fail
    refine (Of_at (v := -1) _ (by decide) (by decide) (by decide)).mono ?_; rintro e w4 ⟨rfl, g4⟩
    go_wp2_with fail
    go_ret
    exact ⟨rfl, gtr g1 (gtr g2 (gtr g3 g4))⟩
  · have e0 : (a != 0) = true := by simp; omega
    have e1 : (a != 1) = true := by simp; omega
    rcases named_lt (a := a) (k := 3) with ⟨b0, b1⟩ | ⟨b0, b1, b2⟩
    · rcases named_lt (a := a) (k := 2) with ⟨c0, c1⟩ | ⟨c0, c1, c2⟩
      · go_enter Try.func6, Try.ntmps6
        go_wp2_with fail
        refine (awake_any _).mono ?_; rintro e w1 ⟨rfl, g1⟩
        go_wp2_with fail
        refine (Over_at (v := true) _ (decide_eq_true h2)).mono ?_; rintro e w2 ⟨rfl, g2⟩
        go_wp2_with fail
        refine (By_at _ b1 h0 h1).mono ?_; rintro e w3 ⟨rfl, g3⟩
        go_wp2_with fail
        refine (Of_at _ c1 h0 h1).mono ?_; rintro e w4 ⟨rfl, g4⟩
        go_wp2_with fail
        go_ret
        exact ⟨rfl, gtr g1 (gtr g2 (gtr g3 g4))⟩
      · have d0 : decide (a - 2 < 0) = false := decide_eq_false (by omega)
        go_enter Try.func6, Try.ntmps6
        go_wp2_with fail
        refine (awake_any _).mono ?_; rintro e w1 ⟨rfl, g1⟩
        go_wp2_with fail
        refine (Over_at (v := true) _ (decide_eq_true h2)).mono ?_; rintro e w2 ⟨rfl, g2⟩
        go_wp2_with fail
        refine (By_at _ b1 h0 h1).mono ?_; rintro e w3 ⟨rfl, g3⟩
        go_wp2_with fail
        refine (Of_at _ c1 h0 h1).mono ?_; rintro e w4 ⟨rfl, g4⟩
        go_wp2_with fail
        go_ret
        exact ⟨rfl, gtr g1 (gtr g2 (gtr g3 g4))⟩
    · have d1 : decide (a - 3 < 0) = false := decide_eq_false (by omega)
      rcases named_lt (a := a) (k := 2) with ⟨c0, c1⟩ | ⟨c0, c1, c2⟩
      · go_enter Try.func6, Try.ntmps6
        go_wp2_with fail
        refine (awake_any _).mono ?_; rintro e w1 ⟨rfl, g1⟩
        go_wp2_with fail
        refine (Over_at (v := true) _ (decide_eq_true h2)).mono ?_; rintro e w2 ⟨rfl, g2⟩
        go_wp2_with fail
        refine (By_at _ b1 h0 h1).mono ?_; rintro e w3 ⟨rfl, g3⟩
        go_wp2_with fail
        refine (Over_at (v := true) _ (decide_eq_true h2)).mono ?_; rintro e w5 ⟨rfl, g5⟩
        go_wp2_with fail
        refine (Of_at _ c1 h0 h1).mono ?_; rintro e w4 ⟨rfl, g4⟩
        go_wp2_with fail
        go_ret
        exact ⟨rfl, gtr g1 (gtr g2 (gtr g3 (gtr g5 g4)))⟩
      · have d0 : decide (a - 2 < 0) = false := decide_eq_false (by omega)
        go_enter Try.func6, Try.ntmps6
        go_wp2_with fail
        refine (awake_any _).mono ?_; rintro e w1 ⟨rfl, g1⟩
        go_wp2_with fail
        refine (Over_at (v := true) _ (decide_eq_true h2)).mono ?_; rintro e w2 ⟨rfl, g2⟩
        go_wp2_with fail
        refine (By_at _ b1 h0 h1).mono ?_; rintro e w3 ⟨rfl, g3⟩
        go_wp2_with fail
        refine (Over_at (v := true) _ (decide_eq_true h2)).mono ?_; rintro e w5 ⟨rfl, g5⟩
        go_wp2_with fail
        refine (Of_at _ c1 h0 h1).mono ?_; rintro e w4 ⟨rfl, g4⟩
        go_wp2_with fail
        go_ret
        exact ⟨rfl, gtr g1 (gtr g2 (gtr g3 (gtr g5 g4)))⟩

set_option maxHeartbeats 400000 in
theorem law_WordApart (a b : Int) (w : World) (h0 : 0 ≤ a) (h1 : a ≤ 4294967295) (h2 : 0 ≤ b) (h3 : b ≤ 4294967295) :
    Calls Try.prog 7 #[.int .u32 a, .int .u32 b] w fun e w' => e = .returned (.bool true) ∧ Grown w w' := by
  obtain ⟨k0, k1⟩ := mod31 a
  obtain ⟨k2, k3⟩ := mod31 b
  have e3 : (a % 2147483648 + 3 == b % 2147483648 + 3) = (a % 2147483648 == b % 2147483648) := by
    rw [Bool.eq_iff_iff]; simp
  have e2 : (a % 2147483648 + 2 == b % 2147483648 + 2) = (a % 2147483648 == b % 2147483648) := by
    rw [Bool.eq_iff_iff]; simp
  have n2 : (a % 2147483648 + 3 != 2) = true := by simp; omega
  have n1 : (a % 2147483648 + 3 != 1) = true := by simp; omega
  go_enter Try.func7, Try.ntmps7
  go_wp2_with fail
  refine (awake_any _).mono ?_; rintro e w1 ⟨rfl, g1⟩
  go_wp2_with fail
  refine (Out_at _ (naming_in k0 k1) (by omega) (by omega)).mono ?_; rintro e w2 ⟨rfl, g2⟩
  go_wp2_with fail
  refine (Out_at _ (naming_in k2 k3) (by omega) (by omega)).mono ?_; rintro e w3 ⟨rfl, g3⟩
  go_wp2_with fail
  refine (Target_at _ (naming_in k0 k1) (by omega) (by omega)).mono ?_; rintro e w4 ⟨rfl, g4⟩
  go_wp2_with fail
  refine (Target_at _ (naming_in k2 k3) (by omega) (by omega)).mono ?_; rintro e w5 ⟨rfl, g5⟩
  go_wp2_with fail
  refine (Out_at _ (naming_in k0 k1) (by omega) (by omega)).mono ?_; rintro e w6 ⟨rfl, g6⟩
  go_wp2_with fail
  refine (Out_at _ (naming_in k0 k1) (by omega) (by omega)).mono ?_; rintro e w7 ⟨rfl, g7⟩
  go_wp2_with fail
  go_ret
  exact ⟨rfl, gtr g1 (gtr g2 (gtr g3 (gtr g4 (gtr g5 (gtr g6 g7)))))⟩
end Go.Proofs.Ytdjhjnojjcploaa
