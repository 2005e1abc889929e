/- Has a list a number, and a pair put into a list (corrieref09.has, corrieref09.insert). -/
import Derived.Test.YtagapfejgmmppaaGreatSame
import Derived.Test.YtagapfejgmmppaaGreatPairs
namespace Go.Proofs.YtagapfejgmmppaaGreat
open Go.ChangeShapes Go.WideShapes Go.ChangeAt Go.RowKit
set_option maxRecDepth 100000
set_option linter.unusedVariables false

theorem bool_eq_of {a b : Bool} (h : (a = true) ↔ (b = true)) : a = b := by cases a <;> cases b <;> simp_all

set_option maxHeartbeats 4000000 in
theorem has_at (w : World) (v : Value) (xs : List Int) (h : RowC w v (ints xs) xs.length) (hl : xs.length ≤ 99999) (x : Int) (r : Bool) (hr : decide (x ∈ xs) = r) :
    Calls Tryz.prog 52 #[v, .int .i64 x] w fun e w' => e = .returned (.bool r) ∧ Grown w w' := by
  subst hr
  obtain ⟨n, hn⟩ : ∃ n, xs.length = n := ⟨_, rfl⟩
  rw [hn] at h hl
  rcases h with ⟨rfl, h0, -⟩ | ⟨g, cap, rfl, -, hc⟩
  · obtain rfl : xs = [] := List.eq_nil_of_length_eq_zero (by omega)
    clear h0 hn hl
    go_enter Tryz.func52, Tryz.ntmps52
    go_wp2_with fail
    refine wp_loop_rounds 1 ?_
    rw [rounds_succ]
    go_wp2_with fail
    go_ret
    exact ⟨by simp, by go_grown⟩
  · have HC := Lib.hid hc
    have HN := Lib.hid hn
    obtain ⟨R, hR⟩ : ∃ R, decide (x ∈ xs) = R := ⟨_, rfl⟩
    rw [hR]
    have HR := Lib.hid hR
    clear hc hn hR
    go_enter Tryz.func52, Tryz.ntmps52
    go_wp2_with fail
    go_loopw [5] (fun s5 wr => ∃ k : Nat, s5 = .int .i64 (k : Int) ∧ k ≤ n ∧ (∀ y ∈ xs.take k, y ≠ x) ∧ Grown w wr) (fun s5 _ => n - (intOf s5).toNat)
    case atStart => exact ⟨0, rfl, Nat.zero_le _, by simp, by go_grown⟩
    case round =>
      obtain ⟨k, rfl, hk, hnot, hg⟩ := hrel
      have HNOT := Lib.hid hnot
      clear hnot
      by_cases hkn : k < n
      · obtain ⟨y, hy⟩ : ∃ y, xs[k]? = some y := ⟨_, List.getElem?_eq_getElem (by rw [HN.out]; exact hkn)⟩
        have d1 := gcell hg (HC.out k _ (ints_at hy))
        have hlt : (k : Int) < (n : Int) := by omega
        have HY := Lib.hid hy
        clear hy
        by_cases hyx : y = x
        · have ey : (y == x) = true := by simpa using hyx
          have HE := Lib.hid hyx
          clear hyx
          go_wp2_with fail
          go_ret
          refine ⟨ret_bool ?_, hg⟩
          rw [← HR.out]
          have := List.mem_of_getElem? HY.out
          rw [HE.out] at this
          simpa using this
        · have ey : (y == x) = false := by simpa using hyx
          have HE := Lib.hid hyx
          clear hyx
          go_wp2_with fail
          refine ⟨⟨k + 1, by simp, hkn, ?_, hg⟩, by simp [intOf]; omega⟩
          intro z hz
          rw [List.take_add_one, HY.out] at hz
          rcases List.mem_append.1 hz with hz | hz
          · exact HNOT.out z hz
          · simp at hz; rw [hz]; exact HE.out
      · have hlt : ¬ (k : Int) < (n : Int) := by omega
        have HK : Hid (xs.take k = xs) := Lib.hid (List.take_of_length_le (by have := HN.out; omega))
        clear hkn
        go_wp2_with fail
        go_ret
        refine ⟨ret_bool ?_, hg⟩
        rw [← HR.out]
        have := HNOT.out
        rw [HK.out] at this
        simp only [eq_comm (a := false), decide_eq_false_iff_not]
        exact fun hm => this x hm rfl

/-- Where a pair is put: behind all whose keys aren't greater, ahead of the first whose key is. -/
theorem insP_at (x : Int × Int) : ∀ (ps : List (Int × Int)) (k : Nat), (∀ y ∈ ps.take k, y.1 ≤ x.1) → (∀ y, ps[k]? = some y → x.1 < y.1) → k ≤ ps.length → insP ps x = ps.take k ++ x :: ps.drop k
  | [], k, _, _, hk => by simp [insP]
  | z :: r, 0, _, h2, _ => by
    have := h2 z (by simp)
    simp only [insP, if_neg (show ¬ z.1 ≤ x.1 by omega), List.take_zero, List.drop_zero, List.nil_append]
  | z :: r, k + 1, h1, h2, hk => by
    have hz := h1 z (by simp)
    simp only [insP, if_pos hz, List.take_succ_cons, List.drop_succ_cons, List.cons_append]
    rw [insP_at x r k (fun y hy => h1 y (by simp [hy])) (fun y hy => h2 y (by simpa using hy)) (by simpa using hk)]
end Go.Proofs.YtagapfejgmmppaaGreat
