/- slices.SortStableFunc of less than 20 pairs. -/
import Derived.Test.YtagapfejgmmppaaGreatSortB
import Derived.Test.YtagapfejgmmppaaGreatRow
namespace Go.Proofs.YtagapfejgmmppaaGreat
open Go.ChangeShapes Go.WideShapes Go.ChangeAt Go.RowKit
set_option maxRecDepth 100000
set_option linter.unusedVariables false

theorem stable_at (w : World) (g cap n : Nat) (ps : List (Int × Int)) (hn : ps.length = n) (hn1 : 1 ≤ n) (hn9 : n < 20) (h : Box w g (flatP ps)) :
    Calls Tryz.prog 99 #[.slice (some ⟨g, 0, none⟩) n cap, .int .i64 n, .func (.func 48) #[] #[]] w (Sorted1 g ps w) := by
  have HB := Lib.hid h
  have HN := Lib.hid hn
  have e1 : decide ((20 : Int) ≤ (n : Int)) = false := decide_eq_false (by omega)
  have e2 : decide (20 ≤ n) = false := decide_eq_false (by omega)
  have e3 : decide ((20 : Int) < (n : Int)) = false := decide_eq_false (by omega)
  have e4 : decide (20 < n) = false := decide_eq_false (by omega)
  clear h hn
  go_enter Tryz.func99, Tryz.ntmps99
  go_wp2_with fail
  refine wp_loop_rounds 1 ?_
  rw [rounds_succ]
  go_wp2_with fail
  refine (insort_at _ g cap n ps HN.out hn1 (by omega) HB.out).mono ?_; rintro e w1 ⟨rfl, hB, q1⟩
  go_wp2_with fail
  refine wp_loop_rounds 1 ?_
  rw [rounds_succ]
  go_wp2_with fail
  go_end0
  exact ⟨rfl, hB, q1⟩

theorem sortStable_at (w : World) (lo n : Nat) (v : Value) (ps : List (Int × Int)) (hn : ps.length = n) (hn9 : n < 20) (h : w.ownsRow lo 66 2 v n (flatP ps)) (hv : 0 < n ∨ v = .slice none 0 0) :
    Calls Tryz.prog 47 #[v, .func (.func 48) #[] #[]] w
      fun e w' => e = .returned (.tuple #[]) ∧ w'.ownsRow lo 66 2 v n (flatP (sortP ps)) ∧ But (InRow v) w w' := by
  rcases hv with hv | rfl
  · obtain ⟨g, cap, rfl⟩ := own_open h hv
    have hb := own_at h (g := g) rfl
    have hbox : Box w g (flatP ps) := by
      rcases h.2 with ⟨he, -⟩ | ⟨g0, cap0, cur, he, -, hh, -⟩
      · cases he
      · cases he
        refine ⟨fun j u hu => ?_, fun j => ?_, hb.2⟩
        · have := h.cells (g := g) rfl j u hu; rwa [add0] at this
        · unfold World.frozen?; rw [hh]; simp
    have HB := Lib.hid hbox
    have HH := Lib.hid h
    clear h hbox
    go_enter Tryz.func47, Tryz.ntmps47
    go_wp2_with fail
    refine (stable_at _ g cap n ps hn (by omega) hn9 HB.out).mono ?_; rintro e w1 ⟨rfl, hB, q1⟩
    go_wp2_with fail
    go_end0
    refine ⟨rfl, ?_, q1.mono (fun i hi => by subst hi; rfl)⟩
    have hx := HH.out
    refine ⟨by rw [flatP_len, sortP_len]; rw [hn], .inr ?_⟩
    rcases hx.2 with ⟨he, -⟩ | ⟨g0, cap0, cur, he, h1, hh, h2, h3, h4, h5⟩
    · cases he
    · cases he
      have hk := q1.1.2.2 g hb.2
      rw [hh] at hk
      cases hw : w1.heap[g]? with
      | none => rw [hw] at hk; cases hk
      | some o =>
        rw [hw] at hk
        cases o with
        | cells cur' t' fr' =>
          obtain ⟨rfl, rfl, hsz, -⟩ := hk
          refine ⟨g, cap, cur', rfl, h1, hw, h2, h3, hsz.trans h4, ?_⟩
          have hl : (flatP (sortP ps)).length = n * 2 := by rw [flatP_len, sortP_len, hn]
          apply List.ext_getElem?
          intro j
          by_cases hj : j < n * 2
          · have hc := hB.cell j _ (List.getElem?_eq_getElem (by rw [hl]; exact hj))
            rw [List.getElem?_take_of_lt hj]
            simp only [World.cell?, hw] at hc
            rw [show (flatP (sortP ps))[j]? = some _ from List.getElem?_eq_getElem (by rw [hl]; exact hj)]
            simpa using hc
          · rw [List.getElem?_eq_none (by simp; omega), List.getElem?_eq_none (by rw [hl]; omega)]
        | _ => exact absurd hk (by simp)
  · have hn0 : n = 0 := by
      rcases h.2 with ⟨-, h0⟩ | ⟨g0, cap0, cur, he, -⟩
      · exact h0
      · cases he
    subst hn0
    have hps : ps = [] := List.eq_nil_of_length_eq_zero hn
    subst hps
    have HH := Lib.hid h
    clear h
    go_enter Tryz.func47, Tryz.ntmps47
    go_wp2_with fail
    have hz : Calls Tryz.prog 134 #[.slice none 0 0, .int .i64 0, .int .i64 0, .func (.func 48) #[] #[]] w fun e w' => e = .returned (.tuple #[]) ∧ Grown w w' := by
      go_enter Tryz.func134, Tryz.ntmps134
      go_wp2_with fail
      refine wp_loop_rounds 1 ?_
      rw [rounds_succ]
      go_wp2_with fail
      go_end0
      exact ⟨rfl, by go_grown⟩
    have hs : Calls Tryz.prog 99 #[.slice none 0 0, .int .i64 0, .func (.func 48) #[] #[]] w fun e w' => e = .returned (.tuple #[]) ∧ Grown w w' := by
      go_enter Tryz.func99, Tryz.ntmps99
      go_wp2_with fail
      refine wp_loop_rounds 1 ?_
      rw [rounds_succ]
      go_wp2_with fail
      refine hz.mono ?_; rintro e w1 ⟨rfl, g1⟩
      go_wp2_with fail
      refine wp_loop_rounds 1 ?_
      rw [rounds_succ]
      go_wp2_with fail
      go_end0
      exact ⟨rfl, g1⟩
    refine hs.mono ?_; rintro e w1 ⟨rfl, g1⟩
    go_wp2_with fail
    go_end0
    exact ⟨rfl, by simpa [sortP, flatP] using own_grown HH.out g1, But.of_grown g1⟩
end Go.Proofs.YtagapfejgmmppaaGreat
