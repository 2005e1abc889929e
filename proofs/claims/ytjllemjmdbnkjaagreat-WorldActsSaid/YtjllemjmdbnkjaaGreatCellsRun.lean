/- The laws' own functions over package cells (corrielaw06.do, run), and the document's New. -/
import Derived.Test.YtjllemjmdbnkjaaGreatCellsRef
import Derived.Test.YtjllemjmdbnkjaaGreatPlan
namespace Go.Proofs.YtjllemjmdbnkjaaGreat
open Go.ChangeShapes Go.WideShapes Go.ChangeAt Go.RowKit
set_option maxRecDepth 100000
set_option linter.unusedVariables false
def BDo (p b : Nat) (ws : List Int) (n k i old v : Int) (w : World) (e : Ending) (w' : World) : Prop :=
  e = .returned (.tuple #[.int .u64 (actR ws k i), .bool (actB ws k i old)]) ∧ Left1 p b (actW ws k i old v) (n + actN ws k i) w w'

/-- A new Cells of the document's. -/
def ANew (k : Nat) (w : World) (e : Ending) (w' : World) : Prop :=
  ∃ b, e = .returned (.agg #[.slice (some ⟨b, 0, none⟩) k k, .int .i64 0]) ∧ Grown w w' ∧ Holds w' b (List.replicate k 0) ∧ w.heap.size ≤ b

theorem make_u64 (k : Nat) (hk : k ≤ 1048576) (w : World) : (Instr.makeSlice 31 (.int .i64 (k : Int)) (.int .i64 (k : Int))).run Tryz.prog w = .ok (.slice (some ⟨w.heap.size, 0, none⟩) k k) (w.alloc (.cells (Array.replicate k (.int .u64 0)) 43)) := by
  obtain ⟨i, hi, hz, hs, hb⟩ := info_parts info_u64
  have h := run_make (P := Tryz.prog) w 31 43 i _ (by kernel_rfl) hi hz .i64 .i64 k k (by omega) (by omega) (by rw [hb]; omega) (by omega)
  simpa [hs, Value.cells, madeCells_one] using h

theorem cNewR_at (w : World) (k : Nat) (hk : k ≤ 1048576) : Calls Tryz.prog 27 #[.int .i64 k] w (ANew k w) := by
  have hm := make_u64 k hk
  have e1 : decide ((k : Int) < 0) = false := decide_eq_false (by omega)
  have e2 : decide (1048576 < (k : Int)) = false := decide_eq_false (by omega)
  go_enter Tryz.func27, Tryz.ntmps27
  go_wp2
  refine bodyPost_ret (v := .agg #[.slice (some ⟨w.heap.size + 1, 0, none⟩) k k, .int .i64 0]) (by simp [results, Tryz.results27, go_sem]) rfl ⟨_, rfl, by go_grown, fun j hj => ?_, by omega⟩
  have hj' : j < k := by simpa using hj
  simp [go_sem, hj']

theorem cNewR_none (w : World) (many : Int) (hk : many < 0 ∨ 1048576 < many) : Calls Tryz.prog 27 #[.int .i64 many] w fun e w' => e = .returned (.agg #[.slice none 0 0, .int .i64 0]) ∧ Grown w w' := by
  by_cases h0 : many < 0
  · have e1 : decide (many < 0) = true := decide_eq_true h0
    clear hk
    go_enter Tryz.func27, Tryz.ntmps27
    go_wp2
    exact bodyPost_ret (v := .agg #[.slice none 0 0, .int .i64 0]) (by simp [results, Tryz.results27, go_sem]) rfl ⟨rfl, by go_grown⟩
  · have h1 : 1048576 < many := by omega
    clear hk
    go_enter Tryz.func27, Tryz.ntmps27
    go_wp2
    exact bodyPost_ret (v := .agg #[.slice none 0 0, .int .i64 0]) (by simp [results, Tryz.results27, go_sem]) rfl ⟨rfl, by go_grown⟩

/- A RUN: the words, and the steps, behind so many acts. -/
structure ActAt where
  k : Int
  i : Int
  old : Int
  v : Int
def stW (ws : List Int) (act : Nat → ActAt) : Nat → List Int
  | 0 => ws
  | j + 1 => actW (stW ws act j) (act j).k (act j).i (act j).old (act j).v
def stN (ws : List Int) (act : Nat → ActAt) : Nat → Int
  | 0 => 0
  | j + 1 => stN ws act j + actN (stW ws act j) (act j).k (act j).i
theorem length_actW (ws : List Int) (k i old v : Int) : (actW ws k i old v).length = ws.length := by
  unfold actW; split
  · exact length_wr _ _ _
  · split
    · exact length_sw _ _ _ _
    · rfl
theorem length_stW (ws : List Int) (act : Nat → ActAt) : ∀ j, (stW ws act j).length = ws.length
  | 0 => rfl
  | j + 1 => (length_actW _ _ _ _ _).trans (length_stW ws act j)
theorem stN_le (ws : List Int) (act : Nat → ActAt) : ∀ j, 0 ≤ stN ws act j ∧ stN ws act j ≤ j
  | 0 => ⟨Int.le_refl _, Int.le_refl _⟩
  | j + 1 => by
    have h := stN_le ws act j
    have h2 : 0 ≤ actN (stW ws act j) (act j).k (act j).i ∧ actN (stW ws act j) (act j).k (act j).i ≤ 1 := by
      unfold actN cnt; split
      · omega
      · split <;> omega
    simp only [stN]
    omega

/-- The acts lie in memory. -/
def Acts (w : World) (bb off m : Nat) (act : Nat → ActAt) : Prop :=
  ∀ j, j < m → w.cell? ⟨bb, off + j * 4, none⟩ = some (.int .u8 (act j).k) ∧ w.cell? ⟨bb, off + j * 4 + 1, none⟩ = some (.int .i64 (act j).i) ∧ w.cell? ⟨bb, off + j * 4 + 2, none⟩ = some (.int .u64 (act j).old) ∧
    w.cell? ⟨bb, off + j * 4 + 3, none⟩ = some (.int .u64 (act j).v) ∧ 0 ≤ (act j).k ∧ (act j).k ≤ 255
theorem Acts.grown {w w' : World} {bb off m : Nat} {act : Nat → ActAt} (h : Acts w bb off m act) (g : Grown w w') : Acts w' bb off m act := fun j hj => by
  obtain ⟨h0, h1, h2, h3, h4⟩ := h j hj
  exact ⟨gcell g h0, gcell g h1, gcell g h2, gcell g h3, h4⟩

/-- Where a run has come. -/
def Runs (W : World) (p b t r : Nat) (q : Nat) (act : Nat → ActAt) (j : Nat) (w : World) : Prop :=
  Grown W w ∧ Bank w p b (stW (List.replicate q 0) act j) (stN (List.replicate q 0) act j) ∧
  (∃ b' cap, w.cell? ⟨t, 0, none⟩ = some (.slice (some ⟨b', 0, none⟩) q cap) ∧ w.cell? ⟨t, 1, none⟩ = some (.int .i64 (stN (List.replicate q 0) act j)) ∧ Holds w b' (stW (List.replicate q 0) act j) ∧ ¬ Mine p b b') ∧
  (w.frozen? ⟨t, 0, none⟩ = false ∧ w.frozen? ⟨t, 1, none⟩ = false ∧ w.frozen? ⟨r, 0, none⟩ = false ∧ w.frozen? ⟨r, 1, none⟩ = false) ∧
  w.cell? ⟨r, 0, none⟩ = some (.slice none 0 0) ∧ w.cell? ⟨r, 1, none⟩ = some (.int .i64 0)

/-- What a run tells. -/
def BRun (W : World) (q : Nat) (act : Nat → ActAt) (m : Nat) (e : Ending) (w : World) : Prop :=
  ∃ p b b' cap, e = .returned (.tuple #[.pointer (some ⟨p, 0, none⟩), .agg #[.slice (some ⟨b', 0, none⟩) q cap, .int .i64 (stN (List.replicate q 0) act m)], .bool true]) ∧
    Grown W w ∧ W.heap.size ≤ p ∧ W.heap.size ≤ b ∧ Bank w p b (stW (List.replicate q 0) act m) (stN (List.replicate q 0) act m)

/-- An act of the document's, of so many cells. -/
def ADoL (w : World) (b0 q : Nat) (ws : List Int) (n r : Int) (d : Bool) (e : Ending) (w' : World) : Prop :=
  ∃ b cap, e = .returned (.tuple #[.agg #[.slice (some ⟨b, 0, none⟩) q cap, .int .i64 n], .int .u64 r, .bool d]) ∧ Grown w w' ∧ Holds w' b ws ∧ (b = b0 ∨ w.heap.size ≤ b)
end Go.Proofs.YtjllemjmdbnkjaaGreat
