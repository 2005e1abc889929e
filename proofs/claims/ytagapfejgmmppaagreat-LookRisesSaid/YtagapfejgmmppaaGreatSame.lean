/- Two lists that are the same (corrieref01, corrieref09). -/
import Derived.Test.YtagapfejgmmppaaGreatChain
import Derived.Test.YtagapfejgmmppaaGreatSortC
namespace Go.Proofs.YtagapfejgmmppaaGreat
open Go.ChangeShapes Go.WideShapes Go.ChangeAt Go.RowKit
set_option maxRecDepth 100000
set_option linter.unusedVariables false

theorem ints_at {xs : List Int} {j : Nat} {x : Int} (h : xs[j]? = some x) : (ints xs)[j]? = some (.int .i64 x) := by simp [ints, h]

set_option maxHeartbeats 4000000 in
theorem sameI_at (w : World) (lo1 lo2 : Nat) (v1 v2 : Value) (xs : List Int) (h1 : FlatAt w lo1 v1 (ints xs) xs.length) (h2 : FlatAt w lo2 v2 (ints xs) xs.length) (hl : xs.length ≤ 99999) :
    Calls Tryz.prog 13 #[v1, v2] w fun e w' => e = .returned (.bool true) ∧ Grown w w' := by
  obtain ⟨n, hn⟩ : ∃ n, xs.length = n := ⟨_, rfl⟩
  rw [hn] at h1 h2 hl
  have HN := Lib.hid hn
  clear hn
  rcases h1 with ⟨h0, -, rfl⟩ | ⟨hn1, g1, cap1, rfl, -, k1⟩
  · rcases h2 with ⟨-, -, rfl⟩ | ⟨hn2, -⟩
    · clear h0 hl
      go_enter Tryz.func13, Tryz.ntmps13
      go_wp2_with fail
      refine wp_loop_rounds 1 ?_
      rw [rounds_succ]
      go_wp2_with fail
      go_ret
      exact ⟨rfl, by go_grown⟩
    · omega
  · rcases h2 with ⟨h0, -⟩ | ⟨-, g2, cap2, rfl, -, k2⟩
    · omega
    have K1 := Lib.hid k1
    have K2 := Lib.hid k2
    have hl' : (n : Int) ≤ 99999 := by omega
    clear k1 k2 hn1
    go_enter Tryz.func13, Tryz.ntmps13
    go_wp2_with fail
    go_loopw [5] (fun s5 wr => ∃ k : Nat, s5 = .int .i64 (k : Int) ∧ k ≤ n ∧ Grown w wr) (fun s5 _ => n - (intOf s5).toNat)
    case atStart => exact ⟨0, rfl, Nat.zero_le _, by go_grown⟩
    case round =>
      obtain ⟨k, rfl, hk, hg⟩ := hrel
      by_cases hkn : k < n
      · obtain ⟨x, hx⟩ : ∃ x, xs[k]? = some x := ⟨_, List.getElem?_eq_getElem (by rw [HN.out]; exact hkn)⟩
        have d1 : ∀ q : GrW wr, q.w.cell? ⟨g1, k, none⟩ = some (.int .i64 x) := GrW.cell (gcell hg (K1.out k _ (ints_at hx)))
        have d2 : ∀ q : GrW wr, q.w.cell? ⟨g2, k, none⟩ = some (.int .i64 x) := GrW.cell (gcell hg (K2.out k _ (ints_at hx)))
        have hlt : (k : Int) < (n : Int) := by omega
        have hxx : (x != x) = false := by simp
        have HG := Lib.hid hg
        clear hx hg
        go_wp2_with fail
        refine wp_region_grow (by kernel_rfl) (by kernel_rfl) ?_
        repeat (go_big_quiet_step (fail))
        refine wpQuiet_nil ?_
        rintro w3 ⟨⟨_, g3⟩, rfl⟩
        clear d1 d2
        go_wp2_with fail
        exact ⟨⟨k + 1, by simp, hkn, gtr HG.out g3⟩, by simp [intOf]; omega⟩
      · have hlt : ¬ (k : Int) < (n : Int) := by omega
        clear hkn
        go_wp2_with fail
        go_ret
        exact ⟨rfl, hg⟩

set_option maxHeartbeats 4000000 in
theorem sameP_at (w : World) (lo1 lo2 : Nat) (v1 v2 : Value) (xs : List (Int × Int)) (h1 : FlatAt w lo1 v1 (flatP xs) xs.length) (h2 : FlatAt w lo2 v2 (flatP xs) xs.length) (hl : xs.length ≤ 99999) :
    Calls Tryz.prog 17 #[v1, v2] w fun e w' => e = .returned (.bool true) ∧ Grown w w' := by
  obtain ⟨n, hn⟩ : ∃ n, xs.length = n := ⟨_, rfl⟩
  rw [hn] at h1 h2 hl
  have HN := Lib.hid hn
  clear hn
  rcases h1 with ⟨h0, -, rfl⟩ | ⟨hn1, g1, cap1, rfl, -, k1⟩
  · rcases h2 with ⟨-, -, rfl⟩ | ⟨hn2, -⟩
    · clear h0 hl
      go_enter Tryz.func17, Tryz.ntmps17
      go_wp2_with fail
      refine wp_loop_rounds 1 ?_
      rw [rounds_succ]
      go_wp2_with fail
      go_ret
      exact ⟨rfl, by go_grown⟩
    · omega
  · rcases h2 with ⟨h0, -⟩ | ⟨-, g2, cap2, rfl, -, k2⟩
    · omega
    have K1 := Lib.hid k1
    have K2 := Lib.hid k2
    have hl' : (n : Int) ≤ 99999 := by omega
    clear k1 k2 hn1
    go_enter Tryz.func17, Tryz.ntmps17
    go_wp2_with fail
    go_loopw [5] (fun s5 wr => ∃ k : Nat, s5 = .int .i64 (k : Int) ∧ k ≤ n ∧ Grown w wr) (fun s5 _ => n - (intOf s5).toNat)
    case atStart => exact ⟨0, rfl, Nat.zero_le _, by go_grown⟩
    case round =>
      obtain ⟨k, rfl, hk, hg⟩ := hrel
      by_cases hkn : k < n
      · obtain ⟨x, hx⟩ : ∃ x, xs[k]? = some x := ⟨_, List.getElem?_eq_getElem (by rw [HN.out]; exact hkn)⟩
        have d1 : ∀ q : GrW wr, q.w.cell? ⟨g1, k * 2, none⟩ = some (.int .u64 x.1) := GrW.cell (gcell hg (K1.out _ _ (flatP_0 hx)))
        have d2 : ∀ q : GrW wr, q.w.cell? ⟨g2, k * 2, none⟩ = some (.int .u64 x.1) := GrW.cell (gcell hg (K2.out _ _ (flatP_0 hx)))
        have d3 : ∀ q : GrW wr, q.w.cell? ⟨g1, k * 2 + 1, none⟩ = some (.int .u64 x.2) := GrW.cell (gcell hg (K1.out _ _ (flatP_1 hx)))
        have d4 : ∀ q : GrW wr, q.w.cell? ⟨g2, k * 2 + 1, none⟩ = some (.int .u64 x.2) := GrW.cell (gcell hg (K2.out _ _ (flatP_1 hx)))
        have hlt : (k : Int) < (n : Int) := by omega
        have HG := Lib.hid hg
        clear hx hg
        go_wp2_with fail
        refine wp_region_grow (by kernel_rfl) (by kernel_rfl) ?_
        repeat (go_big_quiet_step (fail))
        refine wpQuiet_nil ?_
        rintro w3 ⟨⟨_, g3⟩, rfl⟩
        clear d1 d2 d3 d4
        go_wp2_with fail
        exact ⟨⟨k + 1, by simp, hkn, gtr HG.out g3⟩, by simp [intOf]; omega⟩
      · have hlt : ¬ (k : Int) < (n : Int) := by omega
        clear hkn
        go_wp2_with fail
        go_ret
        exact ⟨rfl, hg⟩
end Go.Proofs.YtagapfejgmmppaaGreat
