/- The laws of package cells (corrielaw06), as functions of the program: each call returns true, and leaves all memory that was there as it was. -/
import Derived.Test.YtgnoghgljdmfiaaCellsRun
import Derived.Test.YtgnoghgljdmfiaaOpen
namespace Go.Proofs.Ytgnoghgljdmfiaa
open Go.ChangeShapes Go.WideShapes Go.ChangeAt Go.RowKit
set_option linter.unusedVariables false

theorem awake_any (w : World) : Calls Try.prog 7 #[] w fun e w' => e = .returned (.bool true) ∧ Grown w w' := by
  go_enter Try.func7, Try.ntmps7
  go_wp2_with fail
  refine (New_at _ 2 (by omega)).mono ?_; rintro e w1 ⟨p, b, rfl, g1, hp, hb, h1⟩
  go_wp2_with fail
  refine (Swap_any _ _ _ _ _ _ _ 5 h1 (by omega) (by omega)).mono ?_; rintro e w2 ⟨rfl, q2, h2⟩
  rw [show may (List.replicate 2 0) 0 0 = true from by decide +kernel]
  replace h2 : Bank w2 p b [5, 0] 1 := h2
  go_wp2_with fail
  refine (Swap_any _ _ _ _ _ _ _ 6 h2 (by omega) (by omega)).mono ?_; rintro e w3 ⟨rfl, q3, h3⟩
  rw [show may [5, 0] 0 0 = false from by decide +kernel]
  replace h3 : Bank w3 p b [5, 0] 2 := h3
  replace q3 := q2.trans q3; clear q2 h2
  go_wp2_with fail
  refine (Store_any _ _ _ _ _ _ 7 h3 (by omega) (by omega)).mono ?_; rintro e w4 ⟨rfl, q4, h4⟩
  replace h4 : Bank w4 p b [5, 7] 3 := h4
  replace q4 := q3.trans q4; clear q3 h3
  go_wp2_with fail
  refine (Load_any _ _ _ _ _ _ h4 (by omega) (by omega)).mono ?_; rintro e w5 ⟨rfl, q5, h5⟩
  rw [show rd [5, 7] 0 = 5 from rfl]
  replace h5 : Bank w5 p b [5, 7] 4 := h5
  replace q5 := q4.trans q5; clear q4 h4
  go_wp2_with fail
  refine (Peek_any _ _ _ _ _ _ h5).mono ?_; rintro e w6 ⟨rfl, q6⟩
  rw [show rd [5, 7] 1 = 7 from rfl]
  have h6 := h5.grown q6
  replace q6 := q5.trans (But.of_grown q6); clear q5 h5
  go_wp2_with fail
  refine (Steps_at _ _ _ _ _ h6).mono ?_; rintro e w7 ⟨rfl, q7⟩
  have h7 := h6.grown q7
  replace q7 := q6.trans (But.of_grown q7); clear q6 h6
  go_wp2_with fail
  refine (Len_at _ _ _ _ _ h7).mono ?_; rintro e w8 ⟨rfl, q8⟩
  have h8 := h7.grown q8
  replace q8 := q7.trans (But.of_grown q8); clear q7 h7
  go_wp2_with fail
  refine (Swap_any _ _ _ _ _ _ _ 1 h8 (by omega) (by omega)).mono ?_; rintro e w9 ⟨rfl, q9, h9⟩
  rw [show may [5, 7] 2 0 = false from by decide +kernel]
  replace h9 : Bank w9 p b [5, 7] 4 := h9
  replace q9 := q8.trans q9; clear q8 h8
  go_wp2_with fail
  refine (Steps_at _ _ _ _ _ h9).mono ?_; rintro e w10 ⟨rfl, q10⟩
  replace q10 := q9.trans (But.of_grown q10); clear q9 h9
  go_wp2_with fail
  go_ret
  exact ⟨rfl, fresh2 g1 q10 hp hb⟩

theorem law_CellsOnce (old a c : Int) (w : World) (_ : 0 ≤ old) (_ : old ≤ 18446744073709551615) (_ : 0 ≤ a) (_ : a ≤ 18446744073709551615) (_ : 0 ≤ c) (_ : c ≤ 18446744073709551615) :
    Calls Try.prog 5 #[.int .u64 old, .int .u64 a, .int .u64 c] w fun e w' => e = .returned (.bool true) ∧ Grown w w' := by
  go_enter Try.func5, Try.ntmps5
  go_wp2_with fail
  refine (awake_any _).mono ?_; rintro e w0 ⟨rfl, g0⟩
  go_wp2_with fail
  refine (New_at _ 1 (by omega)).mono ?_; rintro e w1 ⟨p, b, rfl, g1, hp, hb, h1⟩
  have sz := g0.2.2
  replace g1 := gtr g0 g1
  replace hp : w.heap.size ≤ p := Nat.le_trans sz hp
  replace hb : w.heap.size ≤ b := Nat.le_trans sz hb
  clear g0 sz
  go_wp2_with fail
  refine (Store_any _ _ _ _ _ _ old h1 (by omega) (by omega)).mono ?_; rintro e w2 ⟨rfl, q2, h2⟩
  replace h2 : Bank w2 p b [old] 1 := h2
  go_wp2_with fail
  refine (Swap_any _ _ _ _ _ _ _ a h2 (by omega) (by omega)).mono ?_; rintro e w3 ⟨rfl, q3, h3⟩
  have hm : may [old] 0 old = true := decide_eq_true ⟨by omega, by simp, rfl⟩
  have hs : sw [old] 0 old a = [a] := by unfold sw; rw [hm]; rfl
  rw [hs] at h3
  rw [hm]
  replace h3 : Bank w3 p b [a] 2 := h3
  clear hs
  replace q3 := q2.trans q3; clear q2 h2 hm
  go_wp2_with fail
  refine (Swap_any _ _ _ _ _ _ _ c h3 (by omega) (by omega)).mono ?_; rintro e w4 ⟨rfl, q4, h4⟩
  have hm : may [a] 0 old = (a == old) := by
    have : rd [a] 0 = a := rfl
    unfold may
    rw [this]
    by_cases h : a = old <;> simp [h]
  rw [hm]
  replace h4 : ∃ ws, Bank w4 p b ws 3 := ⟨_, h4⟩
  obtain ⟨ws, h4⟩ := h4
  replace q4 := q3.trans q4; clear q3 h3 hm
  have v1 : ((a == old) == (a == old)) = true := by simp
  by_cases ha : a = old
  · have v2 : (a == old) = true := by simp [ha]
    rw [v2]
    clear ha v1
    go_wp2_with fail
    refine (Steps_at _ _ _ _ _ h4).mono ?_; rintro e w5 ⟨rfl, q5⟩
    go_wp2_with fail
    go_ret
    exact ⟨rfl, fresh2 g1 (q4.trans (But.of_grown q5)) hp hb⟩
  · have v2 : (a == old) = false := by simp [ha]
    rw [v2]
    clear ha v1
    go_wp2_with fail
    refine (Steps_at _ _ _ _ _ h4).mono ?_; rintro e w5 ⟨rfl, q5⟩
    go_wp2_with fail
    go_ret
    exact ⟨rfl, fresh2 g1 (q4.trans (But.of_grown q5)) hp hb⟩

theorem law_CellsNobody (i v : Int) (w : World) (_ : -9223372036854775808 ≤ i) (_ : i ≤ 9223372036854775807) (_ : 0 ≤ v) (_ : v ≤ 18446744073709551615) :
    Calls Try.prog 6 #[.int .i64 i, .int .u64 v] w fun e w' => e = .returned (.bool true) ∧ Grown w w' := by
  go_enter Try.func6, Try.ntmps6
  go_wp2_with fail
  refine (awake_any _).mono ?_; rintro e w0 ⟨rfl, g0⟩
  go_wp2_with fail
  refine (Store_nil _ _ _).mono ?_; rintro e w1 ⟨rfl, g1⟩
  replace g1 := gtr g0 g1; clear g0
  go_wp2_with fail
  refine (Load_nil _ _).mono ?_; rintro e w2 ⟨rfl, g2⟩
  replace g2 := gtr g1 g2; clear g1
  go_wp2_with fail
  refine (Swap_nil _ _ _ _).mono ?_; rintro e w3 ⟨rfl, g3⟩
  replace g3 := gtr g2 g3; clear g2
  go_wp2_with fail
  refine (Peek_nil _ _).mono ?_; rintro e w4 ⟨rfl, g4⟩
  replace g4 := gtr g3 g4; clear g3
  go_wp2_with fail
  refine (Steps_nil _).mono ?_; rintro e w5 ⟨rfl, g5⟩
  replace g5 := gtr g4 g5; clear g4
  go_wp2_with fail
  refine (Len_nil _).mono ?_; rintro e w6 ⟨rfl, g6⟩
  go_wp2_with fail
  go_ret
  exact ⟨rfl, gtr g5 g6⟩

theorem rd_zeros (k : Nat) (i : Int) : rd (List.replicate k 0) i = 0 := by
  rcases three_ways (List.replicate k 0) i with h | ⟨j, rfl, h⟩ | ⟨j, rfl, h⟩
  · exact rd_out (.inl h)
  · exact rd_out (.inr (by omega))
  · rw [rd_in h]; simp

theorem law_CellsNew (many i : Int) (w : World) (_ : -9223372036854775808 ≤ many) (_ : many ≤ 9223372036854775807) (_ : -9223372036854775808 ≤ i) (_ : i ≤ 9223372036854775807) :
    Calls Try.prog 3 #[.int .i64 many, .int .i64 i] w fun e w' => e = .returned (.bool true) ∧ Grown w w' := by
  have hmany : (∃ k : Nat, many = k ∧ k ≤ 1048576) ∨ (many < 0 ∨ 1048576 < many) := by
    by_cases h : many < 0 ∨ 1048576 < many
    · exact .inr h
    · exact .inl ⟨many.toNat, by omega, by omega⟩
  rcases hmany with ⟨k, rfl, hk⟩ | hm
  · go_enter Try.func3, Try.ntmps3
    go_wp2_with fail
    refine (awake_any _).mono ?_; rintro e w0 ⟨rfl, g0⟩
    go_wp2_with fail
    refine (New_at _ k hk).mono ?_; rintro e w1 ⟨p, b, rfl, g1, hp, hb, h1⟩
    have H1 := Lib.hid h1
    have sz := g0.2.2
    replace g1 := gtr g0 g1
    replace hp : w.heap.size ≤ p := Nat.le_trans sz hp
    replace hb : w.heap.size ≤ b := Nat.le_trans sz hb
    clear g0 h1 sz
    go_wp2_with fail
    refine (rNew_at _ k hk).mono ?_; rintro e w2 ⟨b', rfl, g2, h2, -⟩
    have H2 := Lib.hid (H1.out.grown g2)
    replace g2 := gtr g1 g2
    clear g1 H1 h2
    have hf : ∀ w, (Instr.field 27 (.agg #[.slice (some ⟨b', 0, none⟩) k k, .int .i64 0]) 0).run Try.prog w = .ok (.slice (some ⟨b', 0, none⟩) k k) w := fun _ => by kernel_rfl
    have LEN := Lib.hid (List.length_replicate (n := k) (a := (0 : Int)))
    go_wp2_with fail
    refine (Len_at _ _ _ _ _ H2.out).mono ?_; rintro e w3 ⟨rfl, g3⟩
    rw [LEN.out]
    have H3 := Lib.hid (H2.out.grown g3)
    replace g3 := gtr g2 g3
    clear g2 H2
    go_wp2_with fail
    refine (Peek_any _ _ _ _ _ i H3.out).mono ?_; rintro e w4 ⟨rfl, g4⟩
    rw [rd_zeros]
    have H4 := Lib.hid (H3.out.grown g4)
    replace g4 := gtr g3 g4
    clear g3 H3
    go_wp2_with fail
    refine (Load_out _ _ _ _ _ k (.inr (by rw [LEN.out]; omega)) H4.out).mono ?_; rintro e w5 ⟨rfl, g5⟩
    have H5 := Lib.hid (H4.out.grown g5)
    replace g5 := gtr g4 g5
    clear g4 H4
    go_wp2_with fail
    refine (Load_out _ _ _ _ _ (-1) (.inl (by omega)) H5.out).mono ?_; rintro e w6 ⟨rfl, g6⟩
    have H6 := Lib.hid (H5.out.grown g6)
    replace g6 := gtr g5 g6
    clear g5 H5
    go_wp2_with fail
    refine (Steps_at _ _ _ _ _ H6.out).mono ?_; rintro e w7 ⟨rfl, g7⟩
    go_wp2_with fail
    go_ret
    exact ⟨rfl, gtr g6 g7⟩
  · have HM := Lib.hid hm
    clear hm
    go_enter Try.func3, Try.ntmps3
    go_wp2_with fail
    refine (awake_any _).mono ?_; rintro e w0 ⟨rfl, g0⟩
    go_wp2_with fail
    refine (New_none _ _ HM.out).mono ?_; rintro e w1 ⟨p, b, rfl, g1, hp, hb, h1⟩
    have H1 := Lib.hid h1
    replace g1 := gtr g0 g1
    clear g0 h1
    go_wp2_with fail
    refine (rNew_none _ _ HM.out).mono ?_; rintro e w2 ⟨rfl, g2⟩
    have hf : ∀ w, (Instr.field 27 (.agg #[.slice none 0 0, .int .i64 0]) 0).run Try.prog w = .ok (.slice none 0 0) w := fun _ => by kernel_rfl
    have H2 := Lib.hid (H1.out.grown g2)
    replace g2 := gtr g1 g2
    clear g1 H1
    go_wp2_with fail
    refine (Len_at _ _ _ _ _ H2.out).mono ?_; rintro e w3 ⟨rfl, g3⟩
    have H3 := Lib.hid (H2.out.grown g3)
    replace g3 := gtr g2 g3
    clear g2 H2
    go_wp2_with fail
    refine (Peek_any _ _ _ _ _ i H3.out).mono ?_; rintro e w4 ⟨rfl, g4⟩
    rw [rd_zeros]
    have H4 := Lib.hid (H3.out.grown g4)
    replace g4 := gtr g3 g4
    clear g3 H3
    go_wp2_with fail
    refine (Load_out _ _ _ _ _ 0 (.inr (by simp)) H4.out).mono ?_; rintro e w5 ⟨rfl, g5⟩
    have H5 := Lib.hid (H4.out.grown g5)
    replace g5 := gtr g4 g5
    clear g4 H4
    go_wp2_with fail
    refine (Load_out _ _ _ _ _ (-1) (.inl (by omega)) H5.out).mono ?_; rintro e w6 ⟨rfl, g6⟩
    have H6 := Lib.hid (H5.out.grown g6)
    replace g6 := gtr g5 g6
    clear g5 H5
    go_wp2_with fail
    refine (Steps_at _ _ _ _ _ H6.out).mono ?_; rintro e w7 ⟨rfl, g7⟩
    go_wp2_with fail
    go_ret
    exact ⟨rfl, gtr g6 g7⟩

theorem rd_wr {ws : List Int} {j : Nat} (hj : j < ws.length) (v : Int) : rd (wr ws j v) j = v := by
  rw [wr_in, rd_in (by simpa using hj)]
  simp
theorem may_self {ws : List Int} {j : Nat} (hj : j < ws.length) {v : Int} (h : rd ws j = v) : may ws j v = true := decide_eq_true ⟨by omega, by omega, h⟩
theorem may_not {ws : List Int} {j v : Int} (h : ¬ rd ws j = v) : may ws j v = false := decide_eq_false fun hx => h hx.2.2

theorem law_CellsLast0 (w : World) (n : Int) (q : Nat) (A : Option Addr) (bb off m c : Nat) (act : Nat → ActAt) (v0 v1 : Int) (hA : 0 < m → A = some ⟨bb, off, none⟩) (hq : 1 + n % 6 = q) (q1 : 1 ≤ q) (q6 : q ≤ 6) (n0 : 0 ≤ n) (n1 : n ≤ 255) (ha : Acts w bb off m act) :
    Calls Try.prog 4 #[.int .u8 n, .slice A m c, .agg #[.int .u64 v0, .int .u64 v1]] w fun e w' => e = .returned (.bool true) ∧ Grown w w' := by
  have HA := Lib.hid ha
  have HAd := Lib.hid hA
  have HQ := Lib.hid hq
  clear ha hA hq
  by_cases hm : m ≤ 40
  · have em : decide (40 < m) = false := decide_eq_false (by omega)
    obtain ⟨j, hat⟩ : ∃ j : Nat, n % (q : Int) = j := ⟨(n % q).toNat, by have := Int.emod_nonneg n (b := (q : Int)) (by omega); omega⟩
    have hj : j < q := by have := Int.emod_lt_of_pos n (b := (q : Int)) (by omega); omega
    have HAT := Lib.hid hat
    clear hat
    go_enter Try.func4, Try.ntmps4
    go_wp2_with fail
    refine (awake_any _).mono ?_; rintro e w0 ⟨rfl, g0⟩
    have c0 : w0.cell? ⟨w.heap.size, 0, none⟩ = some (.int .u64 v0) := gcell g0 (by simp)
    have c1 : w0.cell? ⟨w.heap.size, 1, none⟩ = some (.int .u64 v1) := gcell g0 (by simp)
    replace g0 := gtr (show Grown w _ by go_grown) g0
    have hlt0 : w.heap.size < w0.heap.size := World.block_lt_of_cell? w0 _ c0
    go_wp2_with fail
    refine (run_at _ n q A bb off m c act HAd.out HQ.out q1 q6 n0 n1 hm (HA.out.grown g0)).mono ?_; rintro e w1 ⟨p, b, b', cap, rfl, g1, hp, hb, h1⟩
    have LW : (stW (List.replicate q 0) act m).length = q := (length_stW _ _ _).trans (by simp)
    have N := stN_le (List.replicate q 0) act m
    generalize stW (List.replicate q 0) act m = ws at *
    generalize stN (List.replicate q 0) act m = ns at *
    replace c0 := gcell g1 c0
    replace c1 := gcell g1 c1
    have sz := g0.2.2
    have hlt : w.heap.size < w1.heap.size := World.block_lt_of_cell? w1 _ c0
    have H1 := Lib.hid h1
    have hT : ¬ Mine p b w.heap.size := by rintro (rfl | rfl) <;> omega
    replace hp : w.heap.size ≤ p := by omega
    replace hb : w.heap.size ≤ b := by omega
    replace g1 := gtr g0 g1
    have hLW := Lib.hid LW
    clear g0 h1 LW hlt0 sz
    go_wp2_with fail
    simp only [HAT.out]
    refine (Peek_any _ p b ws ns j (H1.out.grown (by go_grown))).mono ?_; rintro e w2 ⟨rfl, g2⟩
    replace g2 := gtr (show Grown w1 _ by go_grown) g2
    replace c0 := gcell g2 c0
    replace c1 := gcell g2 c1
    have H2 := Lib.hid (H1.out.grown g2)
    replace g2 := gtr g1 g2
    clear g1 H1
    obtain ⟨was, hwas⟩ : ∃ was, rd ws j = was := ⟨_, rfl⟩
    rw [hwas]
    have HWAS := Lib.hid hwas
    clear hwas
    go_wp2_with fail
    refine (Swap_any _ p b ws ns j _ _ H2.out (by omega) (by omega)).mono ?_; rintro e w3 ⟨rfl, q3, h3⟩
    have hin : j < ws.length := by rw [hLW.out]; exact hj
    have HIN := Lib.hid hin
    have hmf : may ws j (IntKind.u64.wrap (was + 1)) = false := may_not (by rw [HWAS.out, IntKind.wrap_u64]; omega)
    have hsw : sw ws j (IntKind.u64.wrap (was + 1)) v0 = ws := by unfold sw; rw [hmf]; rfl
    rw [hsw, cnt_in hin] at h3
    rw [hmf]
    clear hmf hsw hin
    have H3 := Lib.hid h3
    have g3 := fresh2 g2 q3 hp hb
    replace c0 := q3.cell hT c0
    replace c1 := q3.cell hT c1
    clear h3 q3 g2 H2
    go_wp2_with fail
    refine (Load_any _ p b ws _ j H3.out (by omega) (by omega)).mono ?_; rintro e w4 ⟨rfl, q4, h4⟩
    rw [HWAS.out]
    rw [cnt_in HIN.out] at h4
    have H4 := Lib.hid h4
    have g4 := fresh2 g3 q4 hp hb
    replace c0 := q4.cell hT c0
    replace c1 := q4.cell hT c1
    clear h4 q4 g3 H3
    go_wp2_with fail
    refine (Store_any _ p b ws _ j v0 H4.out (by omega) (by omega)).mono ?_; rintro e w5 ⟨rfl, q5, h5⟩
    rw [cnt_in HIN.out] at h5
    have H5 := Lib.hid h5
    have g5 := fresh2 g4 q5 hp hb
    replace c0 := q5.cell hT c0
    replace c1 := q5.cell hT c1
    clear h5 q5 g4 H4
    have HIN5 : Hid (j < (wr ws j v0).length) := Lib.hid (by rw [length_wr]; exact HIN.out)
    go_wp2_with fail
    refine (Load_any _ p b (wr ws j v0) _ j H5.out (by omega) (by omega)).mono ?_; rintro e w6 ⟨rfl, q6, h6⟩
    rw [rd_wr HIN.out]
    rw [cnt_in HIN5.out] at h6
    have H6 := Lib.hid h6
    have g6 := fresh2 g5 q6 hp hb
    replace c0 := q6.cell hT c0
    replace c1 := q6.cell hT c1
    clear h6 q6 g5 H5
    go_wp2_with fail
    refine (Swap_any _ p b (wr ws j v0) _ j v0 v1 H6.out (by omega) (by omega)).mono ?_; rintro e w7 ⟨rfl, q7, h7⟩
    have hmt : may (wr ws j v0) j v0 = true := may_self HIN5.out (rd_wr HIN.out v0)
    have hsw : sw (wr ws j v0) j v0 v1 = wr (wr ws j v0) j v1 := by unfold sw; rw [hmt]; rfl
    rw [hsw, cnt_in HIN5.out] at h7
    rw [hmt]
    clear hmt hsw
    have H7 := Lib.hid h7
    have g7 := fresh2 g6 q7 hp hb
    replace c0 := q7.cell hT c0
    replace c1 := q7.cell hT c1
    clear h7 q7 g6 H6
    have v2 : (was == was) = true := by simp
    have v3 : (v0 == v0) = true := by simp
    have v4 : (v1 == v1) = true := by simp
    go_wp2_with fail
    refine wp_region_planb (Mine p b) (.one [0, 1, 2, 3, 4, 5, 6, 7, 8, 9, 10, 11, 12, 13, 14, 15, 16, 17, 18, 19, 20, 21, 22, 23, 24, 26, 27] 25 (.fin [28, 29, 30])) (by kernel_rfl) (by kernel_rfl) (by kernel_rfl) ?_
    intro w8 g8
    have d0 : ∀ g : ButW (Mine p b) w8, g.w.cell? ⟨w.heap.size, 0, none⟩ = some (.int .u64 v0) := ButW.cell hT (gcell g8 c0)
    have d1 : ∀ g : ButW (Mine p b) w8, g.w.cell? ⟨w.heap.size, 1, none⟩ = some (.int .u64 v1) := ButW.cell hT (gcell g8 c1)
    refine plan_one ?_
    simp only [nths, nth, List.map_cons, List.map_nil, List.getD_cons_zero, List.getD_cons_succ]
    repeat go_big_quiet_step (fail)
    refine wpQuiet_nil ?_
    clear d0 d1 v2 v3
    go_wp2_with fail
    refine (Load_any _ p b (wr (wr ws j v0) j v1) _ j (H7.out.grown g8) (by omega) (by omega)).mono ?_; rintro e w9 ⟨rfl, q9, h9⟩
    rw [rd_wr HIN5.out]
    go_wp2_with fail
    refine nxt_but q9 (plan_fin ?_)
    simp only [nths, nth, List.map_cons, List.map_nil, List.getD_cons_zero, List.getD_cons_succ]
    repeat go_big_quiet_step (fail)
    refine wpQuiet_nil ?_
    clear v4
    go_wp2_with fail
    go_ret
    exact ⟨rfl, fresh2 (gtr g7 g8) q9 hp hb⟩
  · have em : decide (40 < m) = true := decide_eq_true (by omega)
    go_enter Try.func4, Try.ntmps4
    go_wp2_with fail
    refine (awake_any _).mono ?_; rintro e w0 ⟨rfl, g0⟩
    go_wp2_with fail
    go_ret
    exact ⟨rfl, gtr (by go_grown) g0⟩

theorem acts_of {w : World} {bb off m : Nat} (h : NumsAt w bb off m [.u8, .i64, .u64, .u64]) : ∃ act, Acts w bb off m act := by
  have key : ∀ j, ∃ x : ActAt, j < m → w.cell? ⟨bb, off + j * 4, none⟩ = some (.int .u8 x.k) ∧ w.cell? ⟨bb, off + j * 4 + 1, none⟩ = some (.int .i64 x.i) ∧ w.cell? ⟨bb, off + j * 4 + 2, none⟩ = some (.int .u64 x.old) ∧
      w.cell? ⟨bb, off + j * 4 + 3, none⟩ = some (.int .u64 x.v) ∧ 0 ≤ x.k ∧ x.k ≤ 255 := by
    intro j
    by_cases hj : j < m
    · obtain ⟨a, ha, wa⟩ := h j hj 0 _ rfl
      obtain ⟨b, hb, -⟩ := h j hj 1 _ rfl
      obtain ⟨c, hc, -⟩ := h j hj 2 _ rfl
      obtain ⟨d, hd, -⟩ := h j hj 3 _ rfl
      obtain ⟨l, u⟩ := has_u8 wa
      exact ⟨⟨a, b, c, d⟩, fun _ => ⟨ha, hb, hc, hd, l, u⟩⟩
    · exact ⟨⟨0, 0, 0, 0⟩, fun h => absurd h hj⟩
  exact ⟨fun j => Classical.choose (key j), fun j hj => Classical.choose_spec (key j) hj⟩

theorem law_CellsLast (n : Int) (A : Option Addr) (bb off m c : Nat) (v0 v1 : Int) (w : World) (n0 : 0 ≤ n) (n1 : n ≤ 255) (hA : 0 < m → A = some ⟨bb, off, none⟩) (hN : NumsAt w bb off m [.u8, .i64, .u64, .u64])
    (_ : 0 ≤ v0) (_ : v0 ≤ 18446744073709551615) (_ : 0 ≤ v1) (_ : v1 ≤ 18446744073709551615) :
    Calls Try.prog 4 #[.int .u8 n, .slice A m c, .agg #[.int .u64 v0, .int .u64 v1]] w fun e w' => e = .returned (.bool true) ∧ Grown w w' := by
  obtain ⟨act, ha⟩ := acts_of hN
  exact law_CellsLast0 w n (1 + n % 6).toNat A bb off m c act v0 v1 hA (by omega) (by omega) (by omega) n0 n1 ha
end Go.Proofs.Ytgnoghgljdmfiaa
