/- The laws of package ref (corrielaw01), as functions of the program: each call returns true, and leaves all memory that was there as it was. -/
import Derived.Test.YtfdjikllkfkegaaRef
namespace Go.Proofs.Ytfdjikllkfkegaa
open Go.ChangeShapes Go.WideShapes Go.ChangeAt Go.RowKit

/- The document's answers. -/
theorem refPack_any (n : Int) (m : Bool) (w : World) (h0 : -9223372036854775808 ≤ n) (h1 : n ≤ 9223372036854775807) :
    Calls Try.prog 10 #[.int .i64 n, .bool m] w fun e w' => e = .returned (.int .u64 (zPack n m)) ∧ Grown w w' := by
  by_cases hn : n < 0
  · have hz : zPack n m = 0 := if_neg (by omega)
    rw [hz]; clear hz
    go_enter Try.func10, Try.ntmps10
    go_wp2
    go_ret
    exact ⟨rfl, by go_grown⟩
  by_cases hg : 2147483647 < n
  · have hz : zPack n m = 0 := if_neg (by omega)
    rw [hz]; clear hz
    go_enter Try.func10, Try.ntmps10
    go_wp2
    go_ret
    exact ⟨rfl, by go_grown⟩
  cases m
  · have hz : zPack n false = 2 * n := (if_pos (by omega)).trans (by simp)
    rw [hz]; clear hz
    go_enter Try.func10, Try.ntmps10
    go_wp2
    go_ret
    exact ⟨rfl, by go_grown⟩
  · have hz : zPack n true = 2 * n + 1 := if_pos (by omega)
    rw [hz]; clear hz
    go_enter Try.func10, Try.ntmps10
    go_wp2
    go_ret
    exact ⟨rfl, by go_grown⟩

theorem refIndex_any (a : Int) (w : World) (h0 : 0 ≤ a) (h1 : a ≤ 18446744073709551615) :
    Calls Try.prog 12 #[.int .u64 a] w fun e w' => e = .returned (.int .i64 (a / 2)) ∧ Grown w w' := by
  go_enter Try.func12, Try.ntmps12
  go_wp2
  go_ret
  exact ⟨rfl, by go_grown⟩

theorem refMarked_any (a : Int) (w : World) (h0 : 0 ≤ a) (h1 : a ≤ 18446744073709551615) :
    Calls Try.prog 14 #[.int .u64 a] w fun e w' => e = .returned (.bool (a % 2 == 1)) ∧ Grown w w' := by
  go_enter Try.func14, Try.ntmps14
  go_wp2
  go_ret
  exact ⟨rfl, by go_grown⟩

theorem refMark_any (a : Int) (w : World) (h0 : 0 ≤ a) (h1 : a ≤ 18446744073709551615) :
    Calls Try.prog 16 #[.int .u64 a] w fun e w' => e = .returned (.int .u64 (2 * (a / 2) + 1)) ∧ Grown w w' := by
  rcases (show a % 2 = 0 ∨ a % 2 = 1 by omega) with h | h
  · have hz : 2 * (a / 2) + 1 = a + 1 := by omega
    rw [hz]; clear hz
    have hb : (a % 2 == 0) = true := by simp [h]
    go_enter Try.func16, Try.ntmps16
    go_wp2
    go_ret
    exact ⟨rfl, by go_grown⟩
  · have hz : 2 * (a / 2) + 1 = a := by omega
    rw [hz]; clear hz
    have hb : (a % 2 == 0) = false := by simp [h]
    go_enter Try.func16, Try.ntmps16
    go_wp2
    go_ret
    exact ⟨rfl, by go_grown⟩

theorem Pack_at {n : Int} {m : Bool} {v : Int} (w : World) (h : zPack n m = v) (h0 : -9223372036854775808 ≤ n) (h1 : n ≤ 9223372036854775807) :
    Calls Try.prog 9 #[.int .i64 n, .bool m] w fun e w' => e = .returned (.int .u64 v) ∧ Grown w w' := by
  subst h; exact Pack_any n m w h0 h1
theorem Index_at {a v : Int} (w : World) (h : a / 2 = v) (h0 : 0 ≤ a) (h1 : a ≤ 18446744073709551615) :
    Calls Try.prog 11 #[.int .u64 a] w fun e w' => e = .returned (.int .i64 v) ∧ Grown w w' := by
  subst h; exact Index_any a w h0 h1
theorem Marked_at {a : Int} {v : Bool} (w : World) (h : (a % 2 == 1) = v) (h0 : 0 ≤ a) (h1 : a ≤ 18446744073709551615) :
    Calls Try.prog 13 #[.int .u64 a] w fun e w' => e = .returned (.bool v) ∧ Grown w w' := by
  subst h; exact Marked_any a w h0 h1
theorem Mark_at {a v : Int} (w : World) (h : 2 * (a / 2) + 1 = v) (h0 : 0 ≤ a) (h1 : a ≤ 18446744073709551615) :
    Calls Try.prog 15 #[.int .u64 a] w fun e w' => e = .returned (.int .u64 v) ∧ Grown w w' := by
  subst h; exact Mark_any a w h0 h1

theorem awake_any (w : World) : Calls Try.prog 8 #[] w fun e w' => e = .returned (.bool true) ∧ Grown w w' := by
  go_enter Try.func8, Try.ntmps8
  go_wp2_with fail
  refine (Pack_at (v := 7) _ (by decide) (by decide) (by decide)).mono ?_; rintro e w1 ⟨rfl, g1⟩
  go_wp2_with fail
  refine (Pack_at (v := 6) _ (by decide) (by decide) (by decide)).mono ?_; rintro e w2 ⟨rfl, g2⟩
  go_wp2_with fail
  refine (Index_at (v := 3) _ (by decide) (by decide) (by decide)).mono ?_; rintro e w3 ⟨rfl, g3⟩
  go_wp2_with fail
  refine (Marked_at (v := true) _ (by decide) (by decide) (by decide)).mono ?_; rintro e w4 ⟨rfl, g4⟩
  go_wp2_with fail
  refine (Marked_at (v := false) _ (by decide) (by decide) (by decide)).mono ?_; rintro e w5 ⟨rfl, g5⟩
  go_wp2_with fail
  refine (Mark_at (v := 7) _ (by decide) (by decide) (by decide)).mono ?_; rintro e w6 ⟨rfl, g6⟩
  go_wp2_with fail
  refine (Pack_at (v := 0) _ (by decide) (by decide) (by decide)).mono ?_; rintro e w7 ⟨rfl, g7⟩
  go_wp2_with fail
  go_ret
  exact ⟨rfl, gtr g1 (gtr g2 (gtr g3 (gtr g4 (gtr g5 (gtr g6 g7)))))⟩

theorem law_RefPacks (n : Int) (m : Bool) (w : World) (h0 : -9223372036854775808 ≤ n) (h1 : n ≤ 9223372036854775807) :
    Calls Try.prog 3 #[.int .i64 n, .bool m] w fun e w' => e = .returned (.bool true) ∧ Grown w w' := by
  go_enter Try.func3, Try.ntmps3
  go_wp2_with fail
  refine (awake_any _).mono ?_; rintro e w1 ⟨rfl, g1⟩
  go_wp2_with fail
  refine (Pack_any n m _ h0 h1).mono ?_; rintro e w2 ⟨rfl, g2⟩
  go_wp2_with fail
  refine (refPack_any n m _ h0 h1).mono ?_; rintro e w3 ⟨rfl, g3⟩
  go_wp2_with fail
  go_ret
  exact ⟨rfl, gtr g1 (gtr g2 g3)⟩

theorem law_RefTells (a : Int) (w : World) (h0 : 0 ≤ a) (h1 : a ≤ 18446744073709551615) :
    Calls Try.prog 4 #[.int .u64 a] w fun e w' => e = .returned (.bool true) ∧ Grown w w' := by
  go_enter Try.func4, Try.ntmps4
  go_wp2_with fail
  refine (awake_any _).mono ?_; rintro e w1 ⟨rfl, g1⟩
  go_wp2_with fail
  refine (Index_any a _ h0 h1).mono ?_; rintro e w2 ⟨rfl, g2⟩
  go_wp2_with fail
  refine (refIndex_any a _ h0 h1).mono ?_; rintro e w3 ⟨rfl, g3⟩
  go_wp2_with fail
  refine (Marked_any a _ h0 h1).mono ?_; rintro e w4 ⟨rfl, g4⟩
  go_wp2_with fail
  refine (refMarked_any a _ h0 h1).mono ?_; rintro e w5 ⟨rfl, g5⟩
  go_wp2_with fail
  refine (Mark_any a _ h0 h1).mono ?_; rintro e w6 ⟨rfl, g6⟩
  go_wp2_with fail
  refine (refMark_any a _ h0 h1).mono ?_; rintro e w7 ⟨rfl, g7⟩
  go_wp2_with fail
  go_ret
  exact ⟨rfl, gtr g1 (gtr g2 (gtr g3 (gtr g4 (gtr g5 (gtr g6 g7)))))⟩

theorem mod31 (a : Int) : 0 ≤ a % 2147483648 ∧ a % 2147483648 ≤ 2147483647 := by omega
theorem zPack_in {n : Int} {m : Bool} (h0 : 0 ≤ n) (h1 : n ≤ 2147483647) : zPack n m = 2 * n + (if m = true then 1 else 0) := if_pos ⟨h0, h1⟩
theorem zPack_bd (n : Int) (m : Bool) : 0 ≤ zPack n m ∧ zPack n m ≤ 18446744073709551615 := by
  unfold zPack; cases m <;> (split <;> simp <;> omega)

theorem law_RefBack (a : Int) (m : Bool) (w : World) (h0 : 0 ≤ a) (h1 : a ≤ 4294967295) :
    Calls Try.prog 5 #[.int .u32 a, .bool m] w fun e w' => e = .returned (.bool true) ∧ Grown w w' := by
  obtain ⟨k0, k1⟩ := mod31 a
  go_enter Try.func5, Try.ntmps5
  go_wp2_with fail
  refine (awake_any _).mono ?_; rintro e w1 ⟨rfl, g1⟩
  go_wp2_with fail
  refine (Pack_any _ m _ (by omega) (by omega)).mono ?_; rintro e w2 ⟨rfl, g2⟩
  have hb := zPack_bd (a % 2147483648) m
  have hi : zPack (a % 2147483648) m / 2 = a % 2147483648 := by
    rw [zPack_in k0 k1]; cases m <;> simp <;> omega
  have hm : (zPack (a % 2147483648) m % 2 == 1) = m := by
    rw [zPack_in k0 k1]; cases m <;> simp <;> omega
  have Hi := Lib.hid hi
  have Hm := Lib.hid hm
  clear hi hm
  go_wp2_with fail
  refine (Index_at _ Hi.out hb.1 hb.2).mono ?_; rintro e w3 ⟨rfl, g3⟩
  go_wp2_with fail
  refine (Marked_at _ Hm.out hb.1 hb.2).mono ?_; rintro e w4 ⟨rfl, g4⟩
  go_wp2_with fail
  go_ret
  exact ⟨rfl, gtr g1 (gtr g2 (gtr g3 g4))⟩

theorem law_RefMarks (a : Int) (w : World) (h0 : 0 ≤ a) (h1 : a ≤ 18446744073709551615) :
    Calls Try.prog 6 #[.int .u64 a] w fun e w' => e = .returned (.bool true) ∧ Grown w w' := by
  obtain ⟨M, c, hM, hp, hmm, hI, hMa, hc, hb0, hb1⟩ : ∃ (M : Int) (c : Bool), 2 * (a / 2) + 1 = M ∧ (M % 2 == 1) = true ∧ 2 * (M / 2) + 1 = M ∧ M / 2 = a / 2 ∧ (M == a) = c ∧ (a % 2 == 1) = c ∧ 0 ≤ M ∧ M ≤ 18446744073709551615 := by
    refine ⟨2 * (a / 2) + 1, a % 2 == 1, rfl, by simp, by omega, by omega, ?_, rfl, by omega, by omega⟩
    rw [Bool.eq_iff_iff]; simp; omega
  have HM := Lib.hid hM
  have Hp := Lib.hid hp
  have Hmm := Lib.hid hmm
  have HI := Lib.hid hI
  have Hc := Lib.hid hc
  clear hM hp hmm hI hc
  go_enter Try.func6, Try.ntmps6
  go_wp2_with fail
  refine (awake_any _).mono ?_; rintro e w1 ⟨rfl, g1⟩
  go_wp2_with fail
  refine (Mark_at _ HM.out h0 h1).mono ?_; rintro e w2 ⟨rfl, g2⟩
  go_wp2_with fail
  refine (Marked_at _ Hp.out hb0 hb1).mono ?_; rintro e w3 ⟨rfl, g3⟩
  go_wp2_with fail
  refine (Index_at _ HI.out hb0 hb1).mono ?_; rintro e w4 ⟨rfl, g4⟩
  go_wp2_with fail
  refine (Index_any _ _ h0 h1).mono ?_; rintro e w5 ⟨rfl, g5⟩
  go_wp2_with fail
  refine (Mark_at _ Hmm.out hb0 hb1).mono ?_; rintro e w6 ⟨rfl, g6⟩
  go_wp2_with fail
  refine (Marked_at _ Hc.out h0 h1).mono ?_; rintro e w7 ⟨rfl, g7⟩
  go_wp2_with fail
  go_ret
  exact ⟨rfl, gtr g1 (gtr g2 (gtr g3 (gtr g4 (gtr g5 (gtr g6 g7)))))⟩

set_option maxHeartbeats 400000 in
theorem law_RefApart (a b : Int) (m0 m1 : Bool) (w : World) (h0 : 0 ≤ a) (h1 : a ≤ 4294967295) (h2 : 0 ≤ b) (h3 : b ≤ 4294967295) :
    Calls Try.prog 7 #[.int .u32 a, .int .u32 b, .agg #[.bool m0, .bool m1]] w fun e w' => e = .returned (.bool true) ∧ Grown w w' := by
  obtain ⟨k0, k1⟩ := mod31 a
  obtain ⟨k2, k3⟩ := mod31 b
  have hpq : (zPack (a % 2147483648) m0 == zPack (b % 2147483648) m1) = ((a % 2147483648 == b % 2147483648) && (m0 == m1)) := by
    rw [zPack_in k0 k1, zPack_in k2 k3, Bool.eq_iff_iff]
    cases m0 <;> cases m1 <;> simp <;> omega
  have hc0 : (w.alloc (.cells #[.bool m0, .bool m1] 31)).cell? ⟨w.heap.size, 0, none⟩ = some (.bool m0) := by
    rw [World.cell?_alloc_at _ _ _ _ rfl]; rfl
  have hc1 : (w.alloc (.cells #[.bool m0, .bool m1] 31)).cell? ⟨w.heap.size, 1, none⟩ = some (.bool m1) := by
    rw [World.cell?_alloc_at _ _ _ _ rfl]; rfl
  cases hx : (a % 2147483648 == b % 2147483648)
  all_goals
    rw [hx] at hpq
    simp only [Bool.false_and, Bool.true_and] at hpq
    go_enter Try.func7, Try.ntmps7
    go_wp2_with fail
    refine (awake_any _).mono ?_; rintro e w1 ⟨rfl, g1⟩
    have d0 := GrW.cell (gcell g1 hc0)
    have d1 := GrW.cell (gcell g1 hc1)
    clear hc0 hc1
    go_wp2_with fail
    refine wp_region_grow (by kernel_rfl) (by kernel_rfl) ?_
    repeat (go_big_quiet_step ((go_at_call 9; exact grcall (Pack_any _ _ _ (by omega) (by omega)))))
    refine wpQuiet_nil ?_
    rintro _ ⟨⟨w2, g2⟩, rfl⟩
    go_wp2
    go_ret
    exact ⟨rfl, gtr (by go_grown) (gtr g1 g2)⟩

end Go.Proofs.Ytfdjikllkfkegaa
