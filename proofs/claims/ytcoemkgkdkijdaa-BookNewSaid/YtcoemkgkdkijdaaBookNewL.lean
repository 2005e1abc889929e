/- The laws of package book, walked: a book of any layout, or what forbids it. -/
import Derived.Test.YtcoemkgkdkijdaaBookFew
import Derived.Test.YtcoemkgkdkijdaaBookRef2
namespace Go.Proofs.Ytcoemkgkdkijdaa
open Go.ChangeShapes Go.WideShapes Go.ChangeAt Go.RowKit
set_option maxRecDepth 100000
set_option linter.unusedVariables false

theorem FlatAt.isSlice {w : World} {lo n : Nat} {v : Value} {cells : List Value} (h : FlatAt w lo v cells n) : ∃ A m k, v = .slice A m k := by
  rcases h with ⟨-, -, rfl⟩ | ⟨-, g, cap, rfl, -⟩ <;> exact ⟨_, _, _, rfl⟩

set_option maxHeartbeats 2000000 in
theorem law_BookNew (t b i f k : Int) (w : World) (_ : -9223372036854775808 ≤ t) (_ : t ≤ 9223372036854775807) (_ : -9223372036854775808 ≤ b) (_ : b ≤ 9223372036854775807) (_ : -9223372036854775808 ≤ i) (_ : i ≤ 9223372036854775807)
    (_ : -9223372036854775808 ≤ f) (_ : f ≤ 9223372036854775807) (_ : -9223372036854775808 ≤ k) (_ : k ≤ 9223372036854775807) :
    Calls Try.prog 4 #[.agg #[.int .i64 t, .int .i64 b, .int .i64 i, .int .i64 f, .int .i64 k]] w fun e w' => e = .returned (.bool true) ∧ Grown w w' := by
  by_cases hz : zOk t b i f k = true
  · obtain ⟨c, rfl, rfl, rfl, rfl, rfl, hok⟩ := cf_of hz
    have HOK := Lib.hid hok
    have HC0 : Hid (CallsOf c (St.new c) 0 = 0) := Lib.hid (by unfold CallsOf; split <;> simp [St.new, at_zeros])
    have HM0 : Hid (MadeOf c (St.new c) 0 = 0) := Lib.hid (by unfold MadeOf; split <;> simp [St.new, at_zeros])
    clear hz hok
    go_enter Try.func4, Try.ntmps4
    go_wp2_with fail
    refine (awake_any _).mono ?_; rintro e w0 ⟨rfl, g0⟩
    have a0 : w0.cell? ⟨w.heap.size, 0, none⟩ = some (.int .i64 c.t) := gcell g0 (by simp)
    have a1 : w0.cell? ⟨w.heap.size, 1, none⟩ = some (.int .i64 c.b) := gcell g0 (by simp)
    have a2 : w0.cell? ⟨w.heap.size, 2, none⟩ = some (.int .i64 c.i) := gcell g0 (by simp)
    have a3 : w0.cell? ⟨w.heap.size, 3, none⟩ = some (.int .i64 c.f) := gcell g0 (by simp)
    have a4 : w0.cell? ⟨w.heap.size, 4, none⟩ = some (.int .i64 c.k) := gcell g0 (by simp)
    replace g0 : Grown w w0 := gtr (by go_grown) g0
    go_wp2_with fail
    refine (New_at _ c HOK.out).mono ?_; rintro e w2 ⟨a, rfl, g2, h2, hlo, -⟩
    replace a0 := gcell g2 a0; replace a1 := gcell g2 a1; replace a2 := gcell g2 a2; replace a3 := gcell g2 a3; replace a4 := gcell g2 a4
    replace g2 := gtr g0 g2; clear g0 hlo
    have H2 := Lib.hid h2
    clear h2
    go_wp2_with fail
    refine (rNew_at _ 0 c HOK.out (Nat.zero_le _)).mono ?_; rintro e w3 ⟨s1, s2, s3, s4, s5, rfl, hr, g3⟩
    obtain ⟨A1, n1, k1, rfl⟩ := hr.f1.isSlice
    obtain ⟨A2, n2, k2, rfl⟩ := hr.f2.isSlice
    obtain ⟨A3, n3, k3, rfl⟩ := hr.f3.isSlice
    obtain ⟨A4, n4, k4, rfl⟩ := hr.f4.isSlice
    obtain ⟨A5, n5, k5, rfl⟩ := hr.f5.isSlice
    have H3 := Lib.hid (H2.out.grown g3)
    replace g3 := gtr g2 g3
    clear g2 H2 hr a0 a1 a2 a3 a4
    simp only [RV]
    go_wp2_with fail
    refine (Calls_any _ c a _ (H3.out.grown (by go_grown)) 0 _ HC0.out).mono ?_; rintro e w4 ⟨rfl, g4⟩
    have H4 := Lib.hid (H3.out.grown (gtr (by go_grown) g4))
    replace g4 := gtr g3 (galloc g4)
    clear g3 H3
    go_wp2_with fail
    refine (Made_any _ c a _ H4.out 0 _ HM0.out).mono ?_; rintro e w5 ⟨rfl, g5⟩
    have H5 := Lib.hid (H4.out.grown g5)
    replace g5 := gtr g4 g5
    clear g4 H4
    go_wp2_with fail
    refine (Carried_at _ c a _ H5.out Inv.new 0 none rfl).mono ?_; rintro e w6 ⟨rfl, g6⟩
    simp only [carriedOf]
    go_wp2_with fail
    go_ret
    exact ⟨rfl, gtr g5 g6⟩
  · have HZ := Lib.hid hz
    clear hz
    go_enter Try.func4, Try.ntmps4
    go_wp2_with fail
    refine (awake_any _).mono ?_; rintro e w0 ⟨rfl, g0⟩
    have a0 : w0.cell? ⟨w.heap.size, 0, none⟩ = some (.int .i64 t) := gcell g0 (by simp)
    have a1 : w0.cell? ⟨w.heap.size, 1, none⟩ = some (.int .i64 b) := gcell g0 (by simp)
    have a2 : w0.cell? ⟨w.heap.size, 2, none⟩ = some (.int .i64 i) := gcell g0 (by simp)
    have a3 : w0.cell? ⟨w.heap.size, 3, none⟩ = some (.int .i64 f) := gcell g0 (by simp)
    have a4 : w0.cell? ⟨w.heap.size, 4, none⟩ = some (.int .i64 k) := gcell g0 (by simp)
    replace g0 : Grown w w0 := gtr (by go_grown) g0
    go_wp2_with fail
    refine (New_bad _ _ _ _ _ _ HZ.out).mono ?_; rintro e w2 ⟨rfl, g2⟩
    replace a0 := gcell g2 a0; replace a1 := gcell g2 a1; replace a2 := gcell g2 a2; replace a3 := gcell g2 a3; replace a4 := gcell g2 a4
    replace g2 := gtr g0 g2; clear g0
    go_wp2_with fail
    refine (rNew_bad _ _ _ _ _ _ HZ.out).mono ?_; rintro e w3 ⟨rfl, g3⟩
    replace g3 := gtr g2 g3
    clear g2 a0 a1 a2 a3 a4
    go_wp2_with fail
    refine (Calls_nil _ _).mono ?_; rintro e w4 ⟨rfl, g4⟩
    replace g4 := gtr g3 (galloc g4)
    clear g3
    go_wp2_with fail
    refine (Made_nil _ _).mono ?_; rintro e w5 ⟨rfl, g5⟩
    replace g5 := gtr g4 g5
    clear g4
    go_wp2_with fail
    refine (Carried_nil _ _).mono ?_; rintro e w6 ⟨rfl, g6⟩
    go_wp2_with fail
    go_ret
    exact ⟨rfl, gtr g5 g6⟩
end Go.Proofs.Ytcoemkgkdkijdaa
