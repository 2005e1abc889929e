/- The laws of package book, walked: the example ahead of each, and of a book that is nil nothing is told. -/
import Derived.Test.YtcoemkgkdkijdaaBookInv
namespace Go.Proofs.Ytcoemkgkdkijdaa
open Go.ChangeShapes Go.WideShapes Go.ChangeAt Go.RowKit
set_option maxRecDepth 100000
set_option linter.unusedVariables false

def c0 : Cf := ⟨2, 1, 1, 5, 2⟩
def x0 : Cal := ⟨1, 9, 0, 0⟩
theorem c0_ok : c0.Ok := cf_ok (zOk_spec.2 ⟨by decide, by decide, .inl rfl, by decide, by decide, by decide, by decide, by decide, by decide⟩)

theorem fresh_own {W a b : World} {d : Ad} (g : Grown W a) (h : But (Own d) a b) (hl : W.heap.size ≤ d.lo) : Grown W b := h.fresh g fun i hi => Nat.le_trans hl hi.1

theorem small_at (w : World) : Calls Try.prog 26 #[] w fun e w' => e = .returned c0.v ∧ Grown w w' := by
  go_enter Try.func26, Try.ntmps26
  go_wp2
  exact bodyPost_ret (v := c0.v) (by simp [results, Try.results26, go_sem, Cf.v, c0]) rfl ⟨rfl, by go_grown⟩

def t1 : St := ⟨[0, 1], [0, 1], [0, 0], [(2, x0)], []⟩
def t2 : St := ⟨[0, 1], [0, 1], [1, 0], [(2, x0)], [(2, 2)]⟩
def t3 : St := ⟨[0, 2], [0, 1], [1, 0], [(2, x0)], [(2, 2)]⟩
theorem i1 : Inv c0 t1 := Inv.beginI (Inv.new (c := c0)) 1 x0
theorem i2 : Inv c0 t2 := Inv.makeI i1 0 2
theorem i3 : Inv c0 t3 := Inv.beginI i2 1 ⟨1, 0, 0, 0⟩

set_option maxHeartbeats 2000000 in
theorem awake_any (w : World) : Calls Try.prog 8 #[] w fun e w' => e = .returned (.bool true) ∧ Grown w w' := by
  go_enter Try.func8, Try.ntmps8
  go_wp2_with fail
  refine (small_at _).mono ?_; rintro e w0 ⟨rfl, g0⟩
  simp only [Cf.v, c0]
  go_wp2_with fail
  refine (New_at _ c0 c0_ok).mono ?_; rintro e w1 ⟨a, rfl, g1, h1, hlo, -⟩
  replace hlo : w.heap.size ≤ a.lo := Nat.le_trans g0.2.2 (Nat.le_of_eq hlo.symm)
  replace g1 : Grown w w1 := gtr g0 g1
  have HL := Lib.hid hlo
  have H1 := Lib.hid h1
  clear hlo h1 g0
  go_wp2_with fail
  refine (Begin_any _ c0 a (St.new c0) H1.out Inv.new 1 x0 (t1, 2, 0) rfl).mono ?_; rintro e w2 ⟨he, q2, h2⟩
  replace he : e = .returned (.tuple #[.int .i64 2, .int .i64 0]) := he
  subst he
  replace h2 : BookAt w2 c0 a t1 := h2
  have g2 := fresh_own g1 q2 HL.out
  have H2 := Lib.hid h2
  clear h2 q2 g1 H1
  go_wp2_with fail
  refine (Make_any _ c0 a t1 H2.out i1 0 2 (t2, 2, 0) rfl).mono ?_; rintro e w3 ⟨he, q3, h3⟩
  replace he : e = .returned (.tuple #[.int .i64 2, .int .i64 0]) := he
  subst he
  replace h3 : BookAt w3 c0 a t2 := h3
  have g3 := fresh_own g2 q3 HL.out
  have H3 := Lib.hid h3
  clear h3 q3 g2 H2
  go_wp2_with fail
  refine (Begin_any _ c0 a t2 H3.out i2 1 ⟨1, 0, 0, 0⟩ (t3, 0, 3) rfl).mono ?_; rintro e w4 ⟨he, q4, h4⟩
  replace he : e = .returned (.tuple #[.int .i64 0, .int .i64 3]) := he
  subst he
  replace h4 : BookAt w4 c0 a t3 := h4
  have g4 := fresh_own g3 q4 HL.out
  have H4 := Lib.hid h4
  clear h4 q4 g3 H3
  go_wp2_with fail
  refine (Begin_any _ c0 a t3 H4.out i3 1 ⟨3, 0, 0, 0⟩ (t3, 0, 2) rfl).mono ?_; rintro e w5 ⟨he, q5, h5⟩
  replace he : e = .returned (.tuple #[.int .i64 0, .int .i64 2]) := he
  subst he
  replace h5 : BookAt w5 c0 a t3 := h5
  have g5 := fresh_own g4 q5 HL.out
  have H5 := Lib.hid h5
  clear h5 q5 g4 H4
  go_wp2_with fail
  refine (Make_any _ c0 a t3 H5.out i3 0 3 (t3, 0, 1) rfl).mono ?_; rintro e w6 ⟨he, q6, h6⟩
  replace he : e = .returned (.tuple #[.int .i64 0, .int .i64 1]) := he
  subst he
  replace h6 : BookAt w6 c0 a t3 := h6
  have g6 := fresh_own g5 q6 HL.out
  have H6 := Lib.hid h6
  clear h6 q6 g5 H5
  go_wp2_with fail
  refine (Call_at _ c0 a t3 H6.out i3 2 (some x0) rfl).mono ?_; rintro e w7 ⟨he, g7⟩
  replace he : e = .returned (.tuple #[.agg #[.int .i64 1, .int .u64 9, .int .u64 0, .int .i64 0], .int .i64 0]) := he
  subst he
  have H7 := Lib.hid (H6.out.grown g7)
  replace g7 := gtr g6 g7
  clear g6 H6
  go_wp2_with fail
  refine (Carried_at _ c0 a t3 (H7.out.grown (by go_grown)) i3 2 (some 2) rfl).mono ?_; rintro e w8 ⟨he, g8⟩
  replace he : e = .returned (.int .i64 2) := he
  subst he
  have H8 := Lib.hid (H7.out.grown (gtr (by go_grown) g8))
  replace g8 := gtr g7 (gtr (by go_grown) g8)
  clear g7 H7
  go_wp2_with fail
  refine (Key_at _ c0 a t3 H8.out i3 2 9 rfl).mono ?_; rintro e w9 ⟨he, g9⟩
  replace he : e = .returned (.int .u64 9) := he
  subst he
  have H9 := Lib.hid (H8.out.grown g9)
  replace g9 := gtr g8 g9
  clear g8 H8
  go_wp2_with fail
  refine (Carried_at _ c0 a t3 H9.out i3 1 none rfl).mono ?_; rintro e w10 ⟨he, g10⟩
  replace he : e = .returned (.int .i64 (-1)) := he
  subst he
  have H10 := Lib.hid (H9.out.grown g10)
  replace g10 := gtr g9 g10
  clear g9 H9
  go_wp2_with fail
  refine (Calls_any _ c0 a t3 H10.out 1 2 rfl).mono ?_; rintro e w11 ⟨he, g11⟩
  replace he : e = .returned (.int .i64 2) := he
  subst he
  have H11 := Lib.hid (H10.out.grown g11)
  replace g11 := gtr g10 g11
  clear g10 H10
  go_wp2_with fail
  refine (Made_any _ c0 a t3 H11.out 0 1 rfl).mono ?_; rintro e w12 ⟨he, g12⟩
  replace he : e = .returned (.int .i64 1) := he
  subst he
  have H12 := Lib.hid (H11.out.grown g12)
  replace g12 := gtr g11 g12
  clear g11 H11
  go_wp2_with fail
  go_ret
  exact ⟨rfl, g12⟩

theorem law_BookNobody (n k q v m : Int) (w : World) (_ : -9223372036854775808 ≤ n) (_ : n ≤ 9223372036854775807) (_ : -9223372036854775808 ≤ k) (_ : k ≤ 9223372036854775807) (_ : 0 ≤ q) (_ : q ≤ 18446744073709551615) (_ : 0 ≤ v) (_ : v ≤ 18446744073709551615) (_ : -9223372036854775808 ≤ m) (_ : m ≤ 9223372036854775807) :
    Calls Try.prog 7 #[.int .i64 n, .agg #[.int .i64 k, .int .u64 q, .int .u64 v, .int .i64 m]] w fun e w' => e = .returned (.bool true) ∧ Grown w w' := by
  go_enter Try.func7, Try.ntmps7
  go_wp2_with fail
  refine (awake_any _).mono ?_; rintro e w0 ⟨rfl, g0⟩
  have z0 : w0.cell? ⟨w.heap.size, 0, none⟩ = some (.int .i64 k) := gcell g0 (by simp)
  have z1 : w0.cell? ⟨w.heap.size, 1, none⟩ = some (.int .u64 q) := gcell g0 (by simp)
  have z2 : w0.cell? ⟨w.heap.size, 2, none⟩ = some (.int .u64 v) := gcell g0 (by simp)
  have z3 : w0.cell? ⟨w.heap.size, 3, none⟩ = some (.int .i64 m) := gcell g0 (by simp)
  replace g0 : Grown w w0 := gtr (by go_grown) g0
  go_wp2_with fail
  refine (Begin_nil _ n ⟨k, q, v, m⟩).mono ?_; rintro e w1 ⟨rfl, g1⟩
  replace g1 := gtr g0 g1; clear g0 z0 z1 z2 z3
  go_wp2_with fail
  refine (Make_nil _ _ _).mono ?_; rintro e w2 ⟨rfl, g2⟩
  replace g2 := gtr g1 g2; clear g1
  go_wp2_with fail
  refine (Call_nil _ _).mono ?_; rintro e w3 ⟨rfl, g3⟩
  replace g3 := gtr g2 g3; clear g2
  simp only [Cal.v, Cal.zero]
  go_wp2_with fail
  refine (Carried_nil _ _).mono ?_; rintro e w4 ⟨rfl, g4⟩
  replace g4 := gtr g3 (galloc g4); clear g3
  go_wp2_with fail
  refine (Key_nil _ _).mono ?_; rintro e w5 ⟨rfl, g5⟩
  replace g5 := gtr g4 g5; clear g4
  go_wp2_with fail
  refine (Calls_nil _ _).mono ?_; rintro e w6 ⟨rfl, g6⟩
  replace g6 := gtr g5 g6; clear g5
  go_wp2_with fail
  refine (Made_nil _ _).mono ?_; rintro e w7 ⟨rfl, g7⟩
  go_wp2_with fail
  go_ret
  exact ⟨rfl, gtr g6 g7⟩
end Go.Proofs.Ytcoemkgkdkijdaa
