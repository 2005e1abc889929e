/- The document's answers for package cells (corrieref06): what each call returns, and that it leaves all memory that was there as it was. -/
import Derived.Test.YtjllemjmdbnkjaaGreatCells
import Derived.OwnWalk
namespace Go.Proofs.YtjllemjmdbnkjaaGreat
open Go.ChangeShapes Go.WideShapes Go.ChangeAt Go.RowKit
set_option maxRecDepth 100000
set_option linter.unusedVariables false
/-- A slice of words. -/
def Holds (w : World) (b : Nat) (ws : List Int) : Prop := ∀ (j : Nat) (h : j < ws.length), w.cell? ⟨b, j, none⟩ = some (.int .u64 ws[j])

theorem info_u64 : (Tryz.prog.info? 43).map (fun i => (i.zero, i.size, i.bytes)) = some (some (.int .u64 0), 1, 8) := by kernel_rfl

/-- The words, as the program's values. -/
def vals (ws : List Int) : List Value := ws.map (.int .u64)
theorem Holds.news {w : World} {b : Nat} {ws : List Int} (h : Holds w b ws) : ∀ j u, (vals ws)[j]? = some u → w.cell? ((⟨b, 0, none⟩ : Addr).add j) = some u := by
  intro j u hu
  obtain ⟨hj, he⟩ := List.getElem?_eq_some_iff.1 hu
  have hj' : j < ws.length := by simpa [vals] using hj
  have e : (⟨b, 0, none⟩ : Addr).add j = ⟨b, j, none⟩ := by
    unfold Addr.add
    split
    · rename_i hz; simp_all
    · simp
  rw [e, h j hj', ← he]
  simp [vals]
theorem Holds.grown {w w' : World} {b : Nat} {ws : List Int} (h : Holds w b ws) (g : Grown w w') : Holds w' b ws := fun j hj => gcell g (h j hj)
theorem Holds.made (w : World) (ws : List Int) (Z : Array Value) (t : TypeId) : Holds (w.alloc (.cells ((vals ws).toArray ++ Z) t)) w.heap.size ws := fun j hj => by
  rw [World.cell?_alloc_new, Array.getElem?_append_left (by simpa [vals] using hj)]
  simp [vals, hj]
theorem Holds.lay {w : World} {b : Nat} {ws : List Int} (h : Holds w b ws) {j : Nat} (hj : j < ws.length) (v : Int) : Holds (w.setCell ⟨b, j, none⟩ (.int .u64 v)) b (ws.set j v) := fun i hi => by
  have hi' : i < ws.length := by simpa using hi
  by_cases e : j = i
  · subst e
    rw [List.getElem_set_self]
    exact World.cell?_setCell_same _ _ _ (h j hj)
  · rw [List.getElem_set_ne e]
    exact (World.cell?_setCell_other _ _ _ _ (by intro hx; cases hx; exact e rfl)).trans (h i hi')
theorem Holds.put {w : World} {b : Nat} {ws : List Int} (h : Holds w b ws) {a : Addr} (ha : a.block ≠ b) (v : Value) : Holds (w.setCell a v) b ws := fun i hi =>
  (World.cell?_setCell_other _ _ _ _ (by intro hx; apply ha; rw [hx])).trans (h i hi)

theorem vals_at {ws : List Int} {j : Nat} (hj : j < ws.length) (Z : Array Value) : ((vals ws).toArray ++ Z)[j]? = some (.int .u64 ws[j]) := by
  rw [Array.getElem?_append_left (by simpa [vals] using hj)]
  simp [vals, hj]
theorem vals_set {ws : List Int} {j : Nat} (hj : j < ws.length) (v : Int) (Z : Array Value) : ((vals ws).toArray ++ Z).setIfInBounds j (.int .u64 v) = (vals (ws.set j v)).toArray ++ Z := by
  rw [Array.setIfInBounds_append_left (by simpa [vals] using hj)]
  simp [vals, List.map_set]

theorem three_ways (ws : List Int) (i : Int) : i < 0 ∨ (∃ j : Nat, i = j ∧ ws.length ≤ j) ∨ ∃ j : Nat, i = j ∧ j < ws.length := by
  by_cases h : i < 0
  · exact .inl h
  · by_cases h' : ws.length ≤ i.toNat
    · exact .inr (.inl ⟨i.toNat, by omega, h'⟩)
    · exact .inr (.inr ⟨i.toNat, by omega, by omega⟩)

/-- The document's Cells, told. -/
def ACells (w : World) (b0 : Nat) (ws : List Int) (n : Int) (e : Ending) (w' : World) : Prop :=
  ∃ b cap, e = .returned (.agg #[.slice (some ⟨b, 0, none⟩) ws.length cap, .int .i64 n]) ∧ Grown w w' ∧ Holds w' b ws ∧ (b = b0 ∨ w.heap.size ≤ b)

theorem rStore_in (w : World) (b cap : Nat) (ws : List Int) (n : Int) (j : Nat) (v : Int) (hj : j < ws.length) (hc : Holds w b ws) (hf : ws.length ≤ 1048576) (hn : 0 ≤ n) (hn' : n < 4611686018427387904) :
    Calls Tryz.prog 62 #[.agg #[.slice (some ⟨b, 0, none⟩) ws.length cap, .int .i64 n], .int .i64 j, .int .u64 v] w (ACells w b (ws.set j v) (n + 1)) := by
  have HC := Lib.hid hc
  clear hc
  have e1 : decide ((j : Int) < 0) = false := decide_eq_false (by omega)
  have e2 : decide (ws.length ≤ j) = false := decide_eq_false (by omega)
  go_enter Tryz.func62, Tryz.ntmps62
  go_wp2_with (at_builtin; refine wpList_append_copy rfl _ _ 31 rfl 43 (.int .u64 0) 8 Tryz.underlying31 info_u64 _ rfl ⟨b, 0, none⟩ ws.length _ (vals ws) rfl (by omega) (by simp [vals]) (HC.out.grown (by go_grown)).news (by omega) (by omega) ?_; intro cap' Z hcap; have hz := vals_at hj Z)
  refine bodyPost_ret (v := .agg #[.slice (some ⟨w.heap.size + 1 + 1 + 1, 0, none⟩) ws.length cap', .int .i64 (n + 1)]) (by simp [results, Tryz.results62, go_sem]) rfl ?_
  rw [vals_set hj]
  exact ⟨_, cap', by simp, by go_grown, Holds.made _ _ _ _, .inr (by simp; omega)⟩

theorem rLoad_any (w : World) (b cap : Nat) (ws : List Int) (n i : Int) (hc : Holds w b ws) (hf : ws.length ≤ 1048576) (hn : 0 ≤ n) (hn' : n < 4611686018427387904) :
    Calls Tryz.prog 80 #[.agg #[.slice (some ⟨b, 0, none⟩) ws.length cap, .int .i64 n], .int .i64 i] w fun e w' => e = .returned (.tuple #[.agg #[.slice (some ⟨b, 0, none⟩) ws.length cap, .int .i64 (n + cnt ws i)], .int .u64 (rd ws i)]) ∧ Grown w w' := by
  have HC := Lib.hid hc
  clear hc
  rcases three_ways ws i with h | ⟨j, rfl, h⟩ | ⟨j, rfl, hj⟩
  · rw [rd_out (.inl h), cnt_out (.inl h), Int.add_zero]
    have e1 : decide (i < 0) = true := decide_eq_true h
    clear h
    go_enter Tryz.func80, Tryz.ntmps80
    go_wp2
    exact bodyPost_ret (v := .tuple #[.agg #[.slice (some ⟨b, 0, none⟩) ws.length cap, .int .i64 n], .int .u64 0]) (by simp [results, Tryz.results80, go_sem]) rfl ⟨rfl, by go_grown⟩
  · rw [rd_out (.inr (by omega)), cnt_out (.inr (by omega)), Int.add_zero]
    have e1 : decide ((j : Int) < 0) = false := decide_eq_false (by omega)
    have e2 : decide (ws.length ≤ j) = true := decide_eq_true h
    clear h
    go_enter Tryz.func80, Tryz.ntmps80
    go_wp2
    exact bodyPost_ret (v := .tuple #[.agg #[.slice (some ⟨b, 0, none⟩) ws.length cap, .int .i64 n], .int .u64 0]) (by simp [results, Tryz.results80, go_sem]) rfl ⟨rfl, by go_grown⟩
  · rw [rd_in hj, cnt_in hj]
    have e1 : decide ((j : Int) < 0) = false := decide_eq_false (by omega)
    have e2 : decide (ws.length ≤ j) = false := decide_eq_false (by omega)
    have hb : b < w.heap.size := World.block_lt_of_cell? w _ (HC.out j hj)
    have hx := HC.out j hj
    go_enter Tryz.func80, Tryz.ntmps80
    go_wp2
    go_region
    go_wp2
    exact bodyPost_ret (v := .tuple #[.agg #[.slice (some ⟨b, 0, none⟩) ws.length cap, .int .i64 (n + 1)], .int .u64 ws[j]]) (by simp [results, Tryz.results80, go_sem]) rfl ⟨rfl, by go_grown⟩

theorem rStore_any (w : World) (b cap : Nat) (ws : List Int) (n i v : Int) (hc : Holds w b ws) (hf : ws.length ≤ 1048576) (hn : 0 ≤ n) (hn' : n < 4611686018427387904) :
    Calls Tryz.prog 62 #[.agg #[.slice (some ⟨b, 0, none⟩) ws.length cap, .int .i64 n], .int .i64 i, .int .u64 v] w (ACells w b (wr ws i v) (n + cnt ws i)) := by
  have HC := Lib.hid hc
  clear hc
  rcases three_ways ws i with h | ⟨j, rfl, h⟩ | ⟨j, rfl, hj⟩
  · rw [wr_out (.inl h), cnt_out (.inl h), Int.add_zero]
    have e1 : decide (i < 0) = true := decide_eq_true h
    clear h
    go_enter Tryz.func62, Tryz.ntmps62
    go_wp2
    exact bodyPost_ret (v := .agg #[.slice (some ⟨b, 0, none⟩) ws.length cap, .int .i64 n]) (by simp [results, Tryz.results62, go_sem]) rfl ⟨b, cap, rfl, by go_grown, HC.out.grown (by go_grown), .inl rfl⟩
  · rw [wr_out (.inr (by omega)), cnt_out (.inr (by omega)), Int.add_zero]
    have e1 : decide ((j : Int) < 0) = false := decide_eq_false (by omega)
    have e2 : decide (ws.length ≤ j) = true := decide_eq_true h
    clear h
    go_enter Tryz.func62, Tryz.ntmps62
    go_wp2
    exact bodyPost_ret (v := .agg #[.slice (some ⟨b, 0, none⟩) ws.length cap, .int .i64 n]) (by simp [results, Tryz.results62, go_sem]) rfl ⟨b, cap, rfl, by go_grown, HC.out.grown (by go_grown), .inl rfl⟩
  · rw [wr_in, cnt_in hj]
    have e1 : decide ((j : Int) < 0) = false := decide_eq_false (by omega)
    have e2 : decide (ws.length ≤ j) = false := decide_eq_false (by omega)
    exact rStore_in w b cap ws n j v hj HC.out hf hn hn'

theorem two_cells {w : World} {k : Nat} {u v x y : Value} (h0 : w.cell? ⟨k, 0, none⟩ = some u) (h1 : w.cell? ⟨k, 1, none⟩ = some v) :
    ((w.setCell ⟨k, 0, none⟩ x).setCell ⟨k, 1, none⟩ y).cell? ⟨k, 0, none⟩ = some x ∧ ((w.setCell ⟨k, 0, none⟩ x).setCell ⟨k, 1, none⟩ y).cell? ⟨k, 1, none⟩ = some y :=
  ⟨(World.cell?_setCell_other _ _ _ _ (by simp)).trans (World.cell?_setCell_same _ _ _ h0), World.cell?_setCell_same _ _ _ ((World.cell?_setCell_other _ _ _ _ (by simp)).trans h1)⟩

/-- The document's Cells, told, and whether it was done. -/
def ASwap (w : World) (b0 : Nat) (ws : List Int) (n : Int) (d : Bool) (e : Ending) (w' : World) : Prop :=
  ∃ b cap, e = .returned (.tuple #[.agg #[.slice (some ⟨b, 0, none⟩) ws.length cap, .int .i64 n], .bool d]) ∧ Grown w w' ∧ Holds w' b ws ∧ (b = b0 ∨ w.heap.size ≤ b)

theorem rSwap_any (w : World) (b cap : Nat) (ws : List Int) (n i old v : Int) (hc : Holds w b ws) (hf : ws.length ≤ 1048576) (hn : 0 ≤ n) (hn' : n < 4611686018427387904) :
    Calls Tryz.prog 82 #[.agg #[.slice (some ⟨b, 0, none⟩) ws.length cap, .int .i64 n], .int .i64 i, .int .u64 old, .int .u64 v] w (ASwap w b (sw ws i old v) (n + cnt ws i) (may ws i old)) := by
  unfold sw
  have HC := Lib.hid hc
  clear hc
  rcases three_ways ws i with h | ⟨j, rfl, h⟩ | ⟨j, rfl, hj⟩
  · rw [show may ws i old = false from decide_eq_false (by omega), cnt_out (.inl h), Int.add_zero, if_neg (by simp)]
    have e1 : decide (i < 0) = true := decide_eq_true h
    clear h
    go_enter Tryz.func82, Tryz.ntmps82
    go_wp2
    exact bodyPost_ret (v := .tuple #[.agg #[.slice (some ⟨b, 0, none⟩) ws.length cap, .int .i64 n], .bool false]) (by simp [results, Tryz.results82, go_sem]) rfl ⟨b, cap, rfl, by go_grown, HC.out.grown (by go_grown), .inl rfl⟩
  · rw [show may ws j old = false from decide_eq_false (by omega), cnt_out (.inr (by omega)), Int.add_zero, if_neg (by simp)]
    have e1 : decide ((j : Int) < 0) = false := decide_eq_false (by omega)
    have e2 : decide (ws.length ≤ j) = true := decide_eq_true h
    clear h
    go_enter Tryz.func82, Tryz.ntmps82
    go_wp2
    exact bodyPost_ret (v := .tuple #[.agg #[.slice (some ⟨b, 0, none⟩) ws.length cap, .int .i64 n], .bool false]) (by simp [results, Tryz.results82, go_sem]) rfl ⟨b, cap, rfl, by go_grown, HC.out.grown (by go_grown), .inl rfl⟩
  · rw [cnt_in hj]
    have e1 : decide ((j : Int) < 0) = false := decide_eq_false (by omega)
    have e2 : decide (ws.length ≤ j) = false := decide_eq_false (by omega)
    have hb : b < w.heap.size := World.block_lt_of_cell? w _ (HC.out j hj)
    have hx := HC.out j hj
    by_cases ho : ws[j] = old
    · rw [show may ws j old = true from decide_eq_true ⟨by omega, by omega, (rd_in hj).trans ho⟩, if_pos rfl, wr_in]
      have e3 : (ws[j] != old) = false := by simp [ho]
      clear ho
      go_enter Tryz.func82, Tryz.ntmps82
      go_wp2_with fail
      refine (rStore_in _ b cap ws n j v hj (HC.out.grown (by go_grown)) hf hn hn').mono ?_; rintro e w1 ⟨b', cap', rfl, g1, h1, hb'⟩
      have c0 : w1.cell? ⟨w.heap.size + 1, 0, none⟩ = some (.slice none 0 0) := gcell g1 (by simp)
      have c1 : w1.cell? ⟨w.heap.size + 1, 1, none⟩ = some (.int .i64 0) := gcell g1 (by simp)
      have f0 : w1.frozen? ⟨w.heap.size + 1, 0, none⟩ = false := (g1.2.1 _).trans (by simp)
      have f1 : w1.frozen? ⟨w.heap.size + 1, 1, none⟩ = false := (g1.2.1 _).trans (by simp)
      have hne : w.heap.size + 1 ≠ b' := by
        rintro rfl
        have h0 := h1 0 (by simp; omega)
        rw [c0] at h0
        cases h0
      go_wp2
      obtain ⟨d0, d1⟩ := two_cells (x := .slice (some ⟨b', 0, none⟩) ws.length cap') (y := .int .i64 (n + 1)) c0 c1
      refine bodyPost_ret (v := .tuple #[.agg #[.slice (some ⟨b', 0, none⟩) ws.length cap', .int .i64 (n + 1)], .bool true]) (by simp [results, Tryz.results82, go_sem, d0, d1]) rfl ⟨b', cap', by simp, ?_, (h1.put hne _).put hne _, hb'.imp id (fun h => by simp at h; omega)⟩
      exact ((gtr (by go_grown) g1).setCell (by simp) _).setCell (by simp) _
    · rw [show may ws j old = false from decide_eq_false (fun hx => ho ((rd_in hj).symm.trans hx.2.2)), if_neg (by simp)]
      have e3 : (ws[j] != old) = true := by simp [ho]
      clear ho
      go_enter Tryz.func82, Tryz.ntmps82
      go_wp2
      exact bodyPost_ret (v := .tuple #[.agg #[.slice (some ⟨b, 0, none⟩) ws.length cap, .int .i64 (n + 1)], .bool false]) (by simp [results, Tryz.results82, go_sem]) rfl ⟨b, cap, rfl, by go_grown, HC.out.grown (by go_grown), .inl rfl⟩

theorem length_sw (ws : List Int) (i old v : Int) : (sw ws i old v).length = ws.length := by
  unfold sw; split
  · exact length_wr _ _ _
  · rfl

/- AN ACT: the words behind it, how many steps it was, the word told, whether it was done. -/
def actW (ws : List Int) (k i old v : Int) : List Int := if k % 4 = 1 then wr ws i v else if k % 4 = 2 then sw ws i old v else ws
def actN (ws : List Int) (k i : Int) : Int := if k % 4 = 3 then 0 else cnt ws i
def actR (ws : List Int) (k i : Int) : Int := if k % 4 = 0 ∨ k % 4 = 3 then rd ws i else 0
def actB (ws : List Int) (k i old : Int) : Bool := if k % 4 = 2 then may ws i old else false

/-- The document's Cells, told, the word, and whether it was done. -/
def ADo (w : World) (b0 : Nat) (ws : List Int) (n r : Int) (d : Bool) (e : Ending) (w' : World) : Prop :=
  ∃ b cap, e = .returned (.tuple #[.agg #[.slice (some ⟨b, 0, none⟩) ws.length cap, .int .i64 n], .int .u64 r, .bool d]) ∧ Grown w w' ∧ Holds w' b ws ∧ (b = b0 ∨ w.heap.size ≤ b)

end Go.Proofs.YtjllemjmdbnkjaaGreat
