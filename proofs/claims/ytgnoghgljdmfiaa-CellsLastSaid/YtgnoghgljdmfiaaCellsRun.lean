/- The laws' own functions over package cells (corrielaw06.do, run), and the document's New. -/
import Derived.Test.YtgnoghgljdmfiaaCellsRef
import Derived.Test.YtgnoghgljdmfiaaPlan
namespace Go.Proofs.Ytgnoghgljdmfiaa
open Go.ChangeShapes Go.WideShapes Go.ChangeAt Go.RowKit
set_option linter.unusedVariables false

def BDo (p b : Nat) (ws : List Int) (n k i old v : Int) (w : World) (e : Ending) (w' : World) : Prop :=
  e = .returned (.tuple #[.int .u64 (actR ws k i), .bool (actB ws k i old)]) ∧ Left1 p b (actW ws k i old v) (n + actN ws k i) w w'

theorem do_any (w : World) (p b : Nat) (ws : List Int) (n k i old v : Int) (h : Bank w p b ws n) (hn : 0 ≤ n) (hn' : n < 4611686018427387904) (k0 : 0 ≤ k) (k1 : k ≤ 255) :
    Calls Try.prog 23 #[.pointer (some ⟨p, 0, none⟩), .agg #[.int .u8 k, .int .i64 i, .int .u64 old, .int .u64 v]] w (BDo p b ws n k i old v w) := by
  have HB := Lib.hid h
  clear h
  unfold BDo
  have hk : k % 4 = 0 ∨ k % 4 = 1 ∨ k % 4 = 2 ∨ k % 4 = 3 := by omega
  rcases hk with hk | hk | hk | hk
  · rw [show actW ws k i old v = ws from by unfold actW; rw [if_neg (by omega), if_neg (by omega)], show actN ws k i = cnt ws i from if_neg (by omega), show actR ws k i = rd ws i from if_pos (.inl hk), show actB ws k i old = false from if_neg (by omega)]
    go_enter Try.func23, Try.ntmps23
    go_wp2_with fail
    refine (Load_any _ p b ws n i (HB.out.grown (by go_grown)) hn hn').mono ?_; rintro e w1 ⟨rfl, q, h1⟩
    go_wp2_with fail
    go_ret2
    exact ⟨rfl, (But.of_grown (by go_grown)).trans q, h1⟩
  · rw [show actW ws k i old v = wr ws i v from if_pos hk, show actN ws k i = cnt ws i from if_neg (by omega), show actR ws k i = 0 from if_neg (by omega), show actB ws k i old = false from if_neg (by omega)]
    go_enter Try.func23, Try.ntmps23
    go_wp2_with fail
    refine (Store_any _ p b ws n i v (HB.out.grown (by go_grown)) hn hn').mono ?_; rintro e w1 ⟨rfl, q, h1⟩
    go_wp2_with fail
    go_ret2
    exact ⟨rfl, (But.of_grown (by go_grown)).trans q, h1⟩
  · rw [show actW ws k i old v = sw ws i old v from by unfold actW; rw [if_neg (by omega), if_pos hk], show actN ws k i = cnt ws i from if_neg (by omega), show actR ws k i = 0 from if_neg (by omega), show actB ws k i old = may ws i old from if_pos hk]
    go_enter Try.func23, Try.ntmps23
    go_wp2_with fail
    refine (Swap_any _ p b ws n i old v (HB.out.grown (by go_grown)) hn hn').mono ?_; rintro e w1 ⟨rfl, q, h1⟩
    go_wp2_with fail
    go_ret2
    exact ⟨rfl, (But.of_grown (by go_grown)).trans q, h1⟩
  · rw [show actW ws k i old v = ws from by unfold actW; rw [if_neg (by omega), if_neg (by omega)], show actN ws k i = 0 from if_pos hk, show actR ws k i = rd ws i from if_pos (.inr hk), show actB ws k i old = false from if_neg (by omega), Int.add_zero]
    go_enter Try.func23, Try.ntmps23
    go_wp2_with fail
    refine (Peek_any _ p b ws n i (HB.out.grown (by go_grown))).mono ?_; rintro e w1 ⟨rfl, g⟩
    go_wp2_with fail
    go_ret2
    exact ⟨rfl, But.of_grown (gtr (by go_grown) g), HB.out.grown (gtr (by go_grown) g)⟩

/-- A new Cells of the document's. -/
def ANew (k : Nat) (w : World) (e : Ending) (w' : World) : Prop :=
  ∃ b, e = .returned (.agg #[.slice (some ⟨b, 0, none⟩) k k, .int .i64 0]) ∧ Grown w w' ∧ Holds w' b (List.replicate k 0) ∧ w.heap.size ≤ b

theorem make_u64 (k : Nat) (hk : k ≤ 1048576) (w : World) : (Instr.makeSlice 25 (.int .i64 (k : Int)) (.int .i64 (k : Int))).run Try.prog w = .ok (.slice (some ⟨w.heap.size, 0, none⟩) k k) (w.alloc (.cells (Array.replicate k (.int .u64 0)) 30)) := by
  obtain ⟨i, hi, hz, hs, hb⟩ := info_parts info_u64
  have h := run_make (P := Try.prog) w 25 30 i _ (by kernel_rfl) hi hz .i64 .i64 k k (by omega) (by omega) (by rw [hb]; omega) (by omega)
  simpa [hs, Value.cells, madeCells_one] using h

theorem rNew_at (w : World) (k : Nat) (hk : k ≤ 1048576) : Calls Try.prog 9 #[.int .i64 k] w (ANew k w) := by
  have hm := make_u64 k hk
  have e1 : decide ((k : Int) < 0) = false := decide_eq_false (by omega)
  have e2 : decide (1048576 < (k : Int)) = false := decide_eq_false (by omega)
  go_enter Try.func9, Try.ntmps9
  go_wp2
  refine bodyPost_ret (v := .agg #[.slice (some ⟨w.heap.size + 1, 0, none⟩) k k, .int .i64 0]) (by simp [results, Try.results9, go_sem]) rfl ⟨_, rfl, by go_grown, fun j hj => ?_, by omega⟩
  have hj' : j < k := by simpa using hj
  simp [go_sem, hj']

theorem rNew_none (w : World) (many : Int) (hk : many < 0 ∨ 1048576 < many) : Calls Try.prog 9 #[.int .i64 many] w fun e w' => e = .returned (.agg #[.slice none 0 0, .int .i64 0]) ∧ Grown w w' := by
  by_cases h0 : many < 0
  · have e1 : decide (many < 0) = true := decide_eq_true h0
    clear hk
    go_enter Try.func9, Try.ntmps9
    go_wp2
    exact bodyPost_ret (v := .agg #[.slice none 0 0, .int .i64 0]) (by simp [results, Try.results9, go_sem]) rfl ⟨rfl, by go_grown⟩
  · have h1 : 1048576 < many := by omega
    clear hk
    go_enter Try.func9, Try.ntmps9
    go_wp2
    exact bodyPost_ret (v := .agg #[.slice none 0 0, .int .i64 0]) (by simp [results, Try.results9, go_sem]) rfl ⟨rfl, by go_grown⟩

/- A RUN: the words, and the steps, behind so many acts. -/
structure ActAt where
  k : Int
  i : Int
  old : Int
  v : Int
def stW (ws : List Int) (act : Nat → ActAt) : Nat → List Int
  | 0 => ws
  | j + 1 => actW (stW ws act j) (act j).k (act j).i (act j).old (act j).v
def stN (ws : List Int) (act : Nat → ActAt) : Nat → Int
  | 0 => 0
  | j + 1 => stN ws act j + actN (stW ws act j) (act j).k (act j).i
theorem length_actW (ws : List Int) (k i old v : Int) : (actW ws k i old v).length = ws.length := by
  unfold actW; split
  · exact length_wr _ _ _
  · split
    · exact length_sw _ _ _ _
    · rfl
theorem length_stW (ws : List Int) (act : Nat → ActAt) : ∀ j, (stW ws act j).length = ws.length
  | 0 => rfl
  | j + 1 => (length_actW _ _ _ _ _).trans (length_stW ws act j)
theorem stN_le (ws : List Int) (act : Nat → ActAt) : ∀ j, 0 ≤ stN ws act j ∧ stN ws act j ≤ j
  | 0 => ⟨Int.le_refl _, Int.le_refl _⟩
  | j + 1 => by
    have h := stN_le ws act j
    have h2 : 0 ≤ actN (stW ws act j) (act j).k (act j).i ∧ actN (stW ws act j) (act j).k (act j).i ≤ 1 := by
      unfold actN cnt; split
      · omega
      · split <;> omega
    simp only [stN]
    omega

/-- The acts lie in memory. -/
def Acts (w : World) (bb off m : Nat) (act : Nat → ActAt) : Prop :=
  ∀ j, j < m → w.cell? ⟨bb, off + j * 4, none⟩ = some (.int .u8 (act j).k) ∧ w.cell? ⟨bb, off + j * 4 + 1, none⟩ = some (.int .i64 (act j).i) ∧ w.cell? ⟨bb, off + j * 4 + 2, none⟩ = some (.int .u64 (act j).old) ∧
    w.cell? ⟨bb, off + j * 4 + 3, none⟩ = some (.int .u64 (act j).v) ∧ 0 ≤ (act j).k ∧ (act j).k ≤ 255
theorem Acts.grown {w w' : World} {bb off m : Nat} {act : Nat → ActAt} (h : Acts w bb off m act) (g : Grown w w') : Acts w' bb off m act := fun j hj => by
  obtain ⟨h0, h1, h2, h3, h4⟩ := h j hj
  exact ⟨gcell g h0, gcell g h1, gcell g h2, gcell g h3, h4⟩

/-- Where a run has come. -/
def Runs (W : World) (p b t r : Nat) (q : Nat) (act : Nat → ActAt) (j : Nat) (w : World) : Prop :=
  Grown W w ∧ Bank w p b (stW (List.replicate q 0) act j) (stN (List.replicate q 0) act j) ∧
  (∃ b' cap, w.cell? ⟨t, 0, none⟩ = some (.slice (some ⟨b', 0, none⟩) q cap) ∧ w.cell? ⟨t, 1, none⟩ = some (.int .i64 (stN (List.replicate q 0) act j)) ∧ Holds w b' (stW (List.replicate q 0) act j) ∧ ¬ Mine p b b') ∧
  (w.frozen? ⟨t, 0, none⟩ = false ∧ w.frozen? ⟨t, 1, none⟩ = false ∧ w.frozen? ⟨r, 0, none⟩ = false ∧ w.frozen? ⟨r, 1, none⟩ = false) ∧
  w.cell? ⟨r, 0, none⟩ = some (.slice none 0 0) ∧ w.cell? ⟨r, 1, none⟩ = some (.int .i64 0)

/-- What a run tells. -/
def BRun (W : World) (q : Nat) (act : Nat → ActAt) (m : Nat) (e : Ending) (w : World) : Prop :=
  ∃ p b b' cap, e = .returned (.tuple #[.pointer (some ⟨p, 0, none⟩), .agg #[.slice (some ⟨b', 0, none⟩) q cap, .int .i64 (stN (List.replicate q 0) act m)], .bool true]) ∧
    Grown W w ∧ W.heap.size ≤ p ∧ W.heap.size ≤ b ∧ Bank w p b (stW (List.replicate q 0) act m) (stN (List.replicate q 0) act m)

/-- An act of the document's, of so many cells. -/
def ADoL (w : World) (b0 q : Nat) (ws : List Int) (n r : Int) (d : Bool) (e : Ending) (w' : World) : Prop :=
  ∃ b cap, e = .returned (.tuple #[.agg #[.slice (some ⟨b, 0, none⟩) q cap, .int .i64 n], .int .u64 r, .bool d]) ∧ Grown w w' ∧ Holds w' b ws ∧ (b = b0 ∨ w.heap.size ≤ b)
theorem rDo_len (w : World) (b cap q : Nat) (ws : List Int) (n k i old v : Int) (hq : ws.length = q) (hc : Holds w b ws) (hw : 0 < q) (hf : q ≤ 1048576) (hn : 0 ≤ n) (hn' : n < 4611686018427387904) (k0 : 0 ≤ k) (k1 : k ≤ 255) :
    Calls Try.prog 24 #[.agg #[.slice (some ⟨b, 0, none⟩) q cap, .int .i64 n], .agg #[.int .u8 k, .int .i64 i, .int .u64 old, .int .u64 v]] w (ADoL w b q (actW ws k i old v) (n + actN ws k i) (actR ws k i) (actB ws k i old)) := by
  subst hq
  refine (rDo_any w b cap ws n k i old v hc hw hf hn hn' k0 k1).mono fun e w' h => ?_
  obtain ⟨b2, cap2, rfl, h⟩ := h
  exact ⟨b2, cap2, by rw [length_actW], h⟩

theorem run_at (w : World) (n : Int) (q : Nat) (A : Option Addr) (bb off m c : Nat) (act : Nat → ActAt) (hA : 0 < m → A = some ⟨bb, off, none⟩) (hq : 1 + n % 6 = q) (q1 : 1 ≤ q) (q6 : q ≤ 6) (n0 : 0 ≤ n) (n1 : n ≤ 255) (hm : m ≤ 40) (ha : Acts w bb off m act) :
    Calls Try.prog 14 #[.int .u8 n, .slice A m c] w (BRun w q act m) := by
  have HA := Lib.hid ha
  have HAd := Lib.hid hA
  clear ha hA
  go_enter Try.func14, Try.ntmps14
  go_wp2_with fail
  refine (New_at _ q (by omega)).mono ?_; rintro e w1 ⟨p, b, rfl, g1, hp, hb, h1⟩
  have H1 := Lib.hid h1
  clear h1
  go_wp2_with fail
  refine (rNew_at _ q (by omega)).mono ?_; rintro e w2 ⟨b', rfl, g2, h2, hb'⟩
  have H2 := Lib.hid h2
  have c0 : w2.cell? ⟨w.heap.size, 0, none⟩ = some (.slice none 0 0) := gcell g2 (gcell g1 (by simp))
  have c1 : w2.cell? ⟨w.heap.size, 1, none⟩ = some (.int .i64 0) := gcell g2 (gcell g1 (by simp))
  have f0 : ∀ j, w2.frozen? ⟨w.heap.size, j, none⟩ = false := fun j => (g2.2.1 _).trans ((g1.2.1 _).trans (by simp))
  have G := gtr g1 g2
  have hlt : w.heap.size < w2.heap.size := World.block_lt_of_cell? w2 _ c0
  have hbank := H1.out.grown g2
  have HB := Lib.hid hbank
  clear h2 hbank
  go_wp2_with fail
  go_loopw [9] (fun i wr => ∃ k : Nat, k ≤ m ∧ i = .int .i64 k ∧ Runs w p b w2.heap.size w.heap.size q act k wr) (fun i _ => m - (intOf i).toNat)
  case atStart =>
    refine ⟨0, Nat.zero_le _, rfl, ?_, ?_, ?_, ?_, ?_, ?_⟩
    · exact gtr (by go_grown) (gtr G (by go_grown))
    · exact HB.out.grown (by go_grown)
    · exact ⟨b', q, by simp, by simp [stN], H2.out.grown (by go_grown), H1.out.mine hb'⟩
    · exact ⟨by simp, by simp, (frozen?_alloc_cells _ _ _ _).trans (f0 0), (frozen?_alloc_cells _ _ _ _).trans (f0 1)⟩
    · exact gcell (by go_grown) c0
    · exact gcell (by go_grown) c1
  case round =>
    obtain ⟨k, hk, rfl, hR⟩ := hrel
    by_cases hlt : k < m
    · obtain rfl : A = some ⟨bb, off, none⟩ := HAd.out (by omega)
      clear HAd
      obtain ⟨r1, r2, ⟨b1, cap1, r3, r4, r5, r9⟩, r6, r7, r8⟩ := hR
      have N := stN_le (List.replicate q 0) act k
      have LW : (stW (List.replicate q 0) act k).length = q := (length_stW _ _ _).trans (by simp)
      have HW : Hid (stW (List.replicate q 0) act (k + 1) = actW (stW (List.replicate q 0) act k) (act k).k (act k).i (act k).old (act k).v) := Lib.hid rfl
      have HN : Hid (stN (List.replicate q 0) act (k + 1) = stN (List.replicate q 0) act k + actN (stW (List.replicate q 0) act k) (act k).k (act k).i) := Lib.hid rfl
      generalize stW (List.replicate q 0) act k = ws at *
      generalize stN (List.replicate q 0) act k = ns at *
      obtain ⟨e0, e1, e2, e3, e4, e5⟩ := (HA.out.grown r1) k hlt
      have R2 := Lib.hid r2; have R5 := Lib.hid r5; have R6 := Lib.hid r6
      have hLW := Lib.hid LW
      have ed : decide (k < m) = true := decide_eq_true hlt
      clear r2 r5 r6 LW
      go_wp2_with fail
      refine (do_any _ p b _ _ _ _ _ _ R2.out (by omega) (by omega) e4 e5).mono ?_; rintro e w3 ⟨rfl, q3, h3⟩
      have G3 : Grown w w3 := fresh2 r1 q3 (by simp at hp; omega) (by simp at hb; omega)
      have hT : ¬ Mine p b w2.heap.size := HB.out.mine (Nat.le_refl _)
      have hr : ¬ Mine p b w.heap.size := by simp at hp hb; rintro (rfl | rfl) <;> omega
      obtain ⟨e0, e1, e2, e3, -, -⟩ := (HA.out.grown G3) k hlt
      replace r3 := q3.cell hT r3
      replace r4 := q3.cell hT r4
      have H5 : Holds w3 b1 ws := fun j hj => q3.cell r9 (R5.out j hj)
      replace r7 := q3.cell hr r7
      replace r8 := q3.cell hr r8
      have s6 := R6.out
      have s1 := q3.frozen s6.1
      have s2 := q3.frozen s6.2.1
      have s3 := q3.frozen s6.2.2.1
      have s4 := q3.frozen s6.2.2.2
      have H3 := Lib.hid h3
      have HS := Lib.hid H5
      clear s6 h3 H5 R2 R5 R6
      go_wp2_with fail
      refine wp_region_plang (.two [0, 1, 2, 3, 4] 5 (.one [6, 7, 8, 9] 10 (.one [] 11 (.fin [12, 13]))) 10 (.one [] 5 (.one [6, 7, 8, 9] 11 (.fin [12, 13])))) (by kernel_rfl) (by kernel_rfl) (by kernel_rfl) ?_
      intro w4 g4
      have G4 := gtr G3 g4
      have t0 : ∀ g : GrW w4, g.w.cell? ⟨w2.heap.size, 0, none⟩ = some (.slice (some ⟨b1, 0, none⟩) q cap1) := GrW.cell (gcell g4 r3)
      have t1 : ∀ g : GrW w4, g.w.cell? ⟨w2.heap.size, 1, none⟩ = some (.int .i64 ns) := GrW.cell (gcell g4 r4)
      have a0 : ∀ g : GrW w4, g.w.cell? ⟨bb, off + k * 4, none⟩ = some (.int .u8 (act k).k) := GrW.cell (gcell g4 e0)
      have a1 : ∀ g : GrW w4, g.w.cell? ⟨bb, off + k * 4 + 1, none⟩ = some (.int .i64 (act k).i) := GrW.cell (gcell g4 e1)
      have a2 : ∀ g : GrW w4, g.w.cell? ⟨bb, off + k * 4 + 2, none⟩ = some (.int .u64 (act k).old) := GrW.cell (gcell g4 e2)
      have a3 : ∀ g : GrW w4, g.w.cell? ⟨bb, off + k * 4 + 3, none⟩ = some (.int .u64 (act k).v) := GrW.cell (gcell g4 e3)
      clear e0 e1 e2 e3
      refine plan_two ?_
      simp only [nths, nth, List.map_cons, List.map_nil, List.getD_cons_zero, List.getD_cons_succ]
      repeat go_big_quiet_step (fail)
      have hs4 : w2.heap.size < w4.heap.size := World.block_lt_of_cell? w4 _ (t0 ⟨w4, Grown.refl _⟩)
      clear t0 t1 a0 a1 a2 a3
      refine wpQuiet_nil ⟨?_, ?_⟩
      focus
        go_wp2_with fail
        refine (rDo_len _ b1 cap1 q ws ns (act k).k (act k).i (act k).old (act k).v hLW.out (HS.out.grown g4) (by omega) (by omega) (by omega) (by omega) e4 e5).mono ?_; rintro e w5 ⟨b2, cap2, rfl, g5, h5, hb2⟩
        go_wp2_with fail
        refine nxt_grow g5 (plan_one ?_)
        simp only [nths, nth, List.map_cons, List.map_nil, List.getD_cons_zero, List.getD_cons_succ]
        repeat go_big_quiet_step (fail)
        refine wpQuiet_nil ?_
        go_wp2_with fail
        refine nxt_stay (by go_grown) (plan_one ?_)
        simp only [nths, nth, List.map_nil, List.getD_cons_zero, List.getD_cons_succ]
        refine wpQuiet_nil ?_
        go_wp2_with fail
        refine nxt_stay (by go_grown) (plan_fin ?_)
        simp only [nths, nth, List.map_cons, List.map_nil, List.getD_cons_zero, List.getD_cons_succ]
        repeat go_big_quiet_step (fail)
        refine wpQuiet_nil ?_
        have x0 : (w5.alloc (.cells #[.slice (some ⟨b2, 0, none⟩) q cap2, .int .i64 (ns + actN ws (act k).k (act k).i)] 27)).cell? ⟨w5.heap.size, 0, none⟩ = some (.slice (some ⟨b2, 0, none⟩) q cap2) := by simp
        have x1 : (w5.alloc (.cells #[.slice (some ⟨b2, 0, none⟩) q cap2, .int .i64 (ns + actN ws (act k).k (act k).i)] 27)).cell? ⟨w5.heap.size, 1, none⟩ = some (.int .i64 (ns + actN ws (act k).k (act k).i)) := by simp
        have g6 : Grown w4 (w5.alloc (.cells #[.slice (some ⟨b2, 0, none⟩) q cap2, .int .i64 (ns + actN ws (act k).k (act k).i)] 27)) := gtr g5 (by go_grown)
        have h6 := h5.grown (show Grown w5 (w5.alloc (.cells #[.slice (some ⟨b2, 0, none⟩) q cap2, .int .i64 (ns + actN ws (act k).k (act k).i)] 27)) by go_grown)
        generalize w5.alloc (.cells #[.slice (some ⟨b2, 0, none⟩) q cap2, .int .i64 (ns + actN ws (act k).k (act k).i)] 27) = w6 at *
        generalize w5.heap.size = tt at *
      rotate_left
      focus
        go_wp2_with fail
        refine nxt_stay (by go_grown) (plan_one ?_)
        simp only [nths, nth, List.map_nil, List.getD_cons_zero, List.getD_cons_succ]
        refine wpQuiet_nil ?_
        go_wp2_with fail
        refine (rDo_len _ b1 cap1 q ws ns (act k).k (act k).i (act k).old (act k).v hLW.out (HS.out.grown (gtr g4 (by go_grown))) (by omega) (by omega) (by omega) (by omega) e4 e5).mono ?_; rintro e w5 ⟨b2, cap2, rfl, g5, h5, hb2⟩
        have y0 : w5.cell? ⟨w4.heap.size, 0, none⟩ = some (.slice none 0 0) := gcell g5 (by simp)
        have y1 : w5.cell? ⟨w4.heap.size, 1, none⟩ = some (.int .i64 0) := gcell g5 (by simp)
        have y2 : w5.frozen? ⟨w4.heap.size, 0, none⟩ = false := (g5.2.1 _).trans (by simp)
        have y3 : w5.frozen? ⟨w4.heap.size, 1, none⟩ = false := (g5.2.1 _).trans (by simp)
        go_wp2_with fail
        refine nxt_stay (gtr (by go_grown) g5) (plan_one ?_)
        simp only [nths, nth, List.map_cons, List.map_nil, List.getD_cons_zero, List.getD_cons_succ]
        repeat go_big_quiet_step (fail)
        refine wpQuiet_nil ?_
        go_wp2_with fail
        refine nxt_stay (((gtr (by go_grown) g5).setCell (Nat.le_refl _) _).setCell (Nat.le_refl _) _) (plan_fin ?_)
        simp only [nths, nth, List.map_cons, List.map_nil, List.getD_cons_zero, List.getD_cons_succ]
        repeat go_big_quiet_step (fail)
        refine wpQuiet_nil ?_
        obtain ⟨x0, x1⟩ := two_cells (x := .slice (some ⟨b2, 0, none⟩) q cap2) (y := .int .i64 (ns + actN ws (act k).k (act k).i)) y0 y1
        have g6 : Grown w4 ((w5.setCell ⟨w4.heap.size, 0, none⟩ (.slice (some ⟨b2, 0, none⟩) q cap2)).setCell ⟨w4.heap.size, 1, none⟩ (.int .i64 (ns + actN ws (act k).k (act k).i))) := ((gtr (by go_grown) g5).setCell (Nat.le_refl _) _).setCell (Nat.le_refl _) _
        have hne : w4.heap.size ≠ b2 := by
          rintro rfl
          have z0 := h5 0 (by rw [length_actW, hLW.out]; omega)
          rw [y0] at z0
          cases z0
        have h6 := (h5.put (a := ⟨w4.heap.size, 0, none⟩) hne (.slice (some ⟨b2, 0, none⟩) q cap2)).put (a := ⟨w4.heap.size, 1, none⟩) hne (.int .i64 (ns + actN ws (act k).k (act k).i))
        replace hb2 : b2 = b1 ∨ w4.heap.size ≤ b2 := hb2.imp id (fun h => by simp at h; omega)
        generalize (w5.setCell ⟨w4.heap.size, 0, none⟩ (.slice (some ⟨b2, 0, none⟩) q cap2)).setCell ⟨w4.heap.size, 1, none⟩ (.int .i64 (ns + actN ws (act k).k (act k).i)) = w6 at *
        clear y0 y1 y2 y3
        obtain ⟨tt, htt⟩ : ∃ tt, w4.heap.size = tt := ⟨_, rfl⟩
        rw [htt] at x0 x1 ⊢
      all_goals
        clear g5 h5
        have z0 := gcell g6 (gcell g4 r3)
        have z1 := gcell g6 (gcell g4 r4)
        have z2 := (g6.2.1 _).trans ((g4.2.1 _).trans s1)
        have z3 := (g6.2.1 _).trans ((g4.2.1 _).trans s2)
        go_wp2_with fail
        have hne2 : w2.heap.size ≠ b2 := by
          rintro rfl
          have z9 := h6 0 (by rw [length_actW, hLW.out]; omega)
          rw [z0] at z9
          cases z9
        have B7 := Lib.hid (((H3.out.grown (gtr g4 g6)).put (a := ⟨w2.heap.size, 0, none⟩) hT (.slice (some ⟨b2, 0, none⟩) q cap2)).put (a := ⟨w2.heap.size, 1, none⟩) hT (.int .i64 (ns + actN ws (act k).k (act k).i)))
        have D7 := Lib.hid (two_cells (x := .slice (some ⟨b2, 0, none⟩) q cap2) (y := .int .i64 (ns + actN ws (act k).k (act k).i)) z0 z1)
        have h7 := Lib.hid ((h6.put (a := ⟨w2.heap.size, 0, none⟩) hne2 (.slice (some ⟨b2, 0, none⟩) q cap2)).put (a := ⟨w2.heap.size, 1, none⟩) hne2 (.int .i64 (ns + actN ws (act k).k (act k).i)))
        have m7 : ¬ Mine p b b2 := by
          rcases hb2 with rfl | h
          · exact r9
          · exact (H3.out.grown g4).mine h
        have f7 : ∀ x, ((w6.setCell ⟨w2.heap.size, 0, none⟩ (.slice (some ⟨b2, 0, none⟩) q cap2)).setCell ⟨w2.heap.size, 1, none⟩ (.int .i64 (ns + actN ws (act k).k (act k).i))).frozen? x = w3.frozen? x := fun x => (World.frozen?_setCell _ _ _ _).trans ((World.frozen?_setCell _ _ _ _).trans ((g6.2.1 x).trans (g4.2.1 x)))
        have F7 := Lib.hid (And.intro ((f7 _).trans s1) (And.intro ((f7 _).trans s2) (And.intro ((f7 _).trans s3) ((f7 _).trans s4))))
        have u7 : ∀ o v, w3.cell? ⟨w.heap.size, o, none⟩ = some v → ((w6.setCell ⟨w2.heap.size, 0, none⟩ (.slice (some ⟨b2, 0, none⟩) q cap2)).setCell ⟨w2.heap.size, 1, none⟩ (.int .i64 (ns + actN ws (act k).k (act k).i))).cell? ⟨w.heap.size, o, none⟩ = some v := fun o v h =>
          (World.cell?_setCell_other _ _ _ _ (fun hx => absurd (congrArg Addr.block hx) (by show w2.heap.size ≠ w.heap.size; omega))).trans ((World.cell?_setCell_other _ _ _ _ (fun hx => absurd (congrArg Addr.block hx) (by show w2.heap.size ≠ w.heap.size; omega))).trans (gcell (gtr g4 g6) h))
        have U7 := Lib.hid (And.intro (u7 _ _ r7) (u7 _ _ r8))
        have G7 : Grown w ((w6.setCell ⟨w2.heap.size, 0, none⟩ (.slice (some ⟨b2, 0, none⟩) q cap2)).setCell ⟨w2.heap.size, 1, none⟩ (.int .i64 (ns + actN ws (act k).k (act k).i))) := ((gtr G4 g6).setCell (by show _ ≤ w2.heap.size; omega) _).setCell (by show _ ≤ w2.heap.size; omega) _
        clear x0 x1 z0 z1 z2 z3 f7 u7 r3 r4 r7 r8 s1 s2 s3 s4 h6 hb2 hne2
        generalize (w6.setCell ⟨w2.heap.size, 0, none⟩ (.slice (some ⟨b2, 0, none⟩) q cap2)).setCell ⟨w2.heap.size, 1, none⟩ (.int .i64 (ns + actN ws (act k).k (act k).i)) = w7 at *
        have v1 : (actR ws (act k).k (act k).i != actR ws (act k).k (act k).i) = false := by simp
        have v2 : (actB ws (act k).k (act k).i (act k).old != actB ws (act k).k (act k).i (act k).old) = false := by simp
        have v3 : (ns + actN ws (act k).k (act k).i != ns + actN ws (act k).k (act k).i) = false := by simp
        have d1 : ∀ g : GrW w7, g.w.cell? ⟨w2.heap.size, 1, none⟩ = some (.int .i64 (ns + actN ws (act k).k (act k).i)) := GrW.cell D7.out.2
        refine wp_region_grow (by kernel_rfl) (by kernel_rfl) ?_
        repeat (go_big_quiet_step ((go_at_call 13; exact grcall (Steps_at _ _ _ _ _ (B7.out.grown (GrW.gr _))))))
        refine wpQuiet_nil ?_; intro w8 hw8
        have g8 : Grown w7 w8 := by obtain ⟨g, rfl⟩ := hw8; exact g.gr
        clear d1 v1 v2 v3 hw8
        go_wp2_with fail
        refine ⟨⟨k + 1, hlt, by simp, gtr G7 g8, ?_, ⟨b2, cap2, gcell g8 D7.out.1, ?_, ?_, m7⟩, ⟨(g8.2.1 _).trans F7.out.1, (g8.2.1 _).trans F7.out.2.1, (g8.2.1 _).trans F7.out.2.2.1, (g8.2.1 _).trans F7.out.2.2.2⟩, gcell g8 U7.out.1, gcell g8 U7.out.2⟩, by simp [intOf]; omega⟩
        · rw [HW.out, HN.out]; exact B7.out.grown g8
        · rw [HN.out]; exact gcell g8 D7.out.2
        · rw [HW.out]; exact h7.out.grown g8
    · obtain rfl : k = m := by omega
      obtain ⟨r1, r2, ⟨b1, cap1, r3, r4, r5, r9⟩, r6, r7, r8⟩ := hR
      have ed : decide (k < k) = false := decide_eq_false (by omega)
      have R2 := Lib.hid r2
      obtain ⟨s1, s2, s3, s4⟩ := r6
      have hr : ¬ Mine p b w.heap.size := by simp at hp hb; rintro (rfl | rfl) <;> omega
      clear r2 hlt
      generalize hns : stN (List.replicate q 0) act k = ns at *
      have HNS := Lib.hid hns
      clear hns
      go_wp2_with fail
      go_region
      go_wp2_with fail
      obtain ⟨d0, d1⟩ := two_cells (x := .slice (some ⟨b1, 0, none⟩) q cap1) (y := .int .i64 ns) r7 r8
      refine bodyPost_ret (v := .tuple #[.pointer (some ⟨p, 0, none⟩), .agg #[.slice (some ⟨b1, 0, none⟩) q cap1, .int .i64 ns], .bool true]) (by simp [results, Try.results14, go_sem, d0, d1]) rfl ?_
      refine ⟨p, b, b1, cap1, ?_, (r1.setCell (Nat.le_refl _) _).setCell (Nat.le_refl _) _, by simp at hp; omega, by simp at hb; omega, ?_⟩
      · rw [HNS.out]
      · rw [HNS.out]; exact ((R2.out.put (a := ⟨w.heap.size, 0, none⟩) hr _).put (a := ⟨w.heap.size, 1, none⟩) hr _).grown (Grown.refl _).drew
end Go.Proofs.Ytgnoghgljdmfiaa
