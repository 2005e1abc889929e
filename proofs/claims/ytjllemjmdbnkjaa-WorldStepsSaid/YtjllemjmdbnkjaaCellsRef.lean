/- The document's answers for package cells (corrieref06): what each call returns, and that it leaves all memory that was there as it was. -/
import Derived.Test.YtjllemjmdbnkjaaCells
import Derived.OwnWalk
namespace Go.Proofs.Ytjllemjmdbnkjaa
open Go.ChangeShapes Go.WideShapes Go.ChangeAt Go.RowKit
set_option linter.unusedVariables false
/-- A slice of words. -/
def Holds (w : World) (b : Nat) (ws : List Int) : Prop := ∀ (j : Nat) (h : j < ws.length), w.cell? ⟨b, j, none⟩ = some (.int .u64 ws[j])

theorem info_u64 : (Try.prog.info? 50).map (fun i => (i.zero, i.size, i.bytes)) = some (some (.int .u64 0), 1, 8) := by kernel_rfl

/-- The words, as the program's values. -/
def vals (ws : List Int) : List Value := ws.map (.int .u64)
theorem Holds.news {w : World} {b : Nat} {ws : List Int} (h : Holds w b ws) : ∀ j u, (vals ws)[j]? = some u → w.cell? ((⟨b, 0, none⟩ : Addr).add j) = some u := by
  intro j u hu
  obtain ⟨hj, he⟩ := List.getElem?_eq_some_iff.1 hu
  have hj' : j < ws.length := by simpa [vals] using hj
  have e : (⟨b, 0, none⟩ : Addr).add j = ⟨b, j, none⟩ := by
    unfold Addr.add
    split
    · rename_i hz; simp_all
    · simp
  rw [e, h j hj', ← he]
  simp [vals]
theorem Holds.grown {w w' : World} {b : Nat} {ws : List Int} (h : Holds w b ws) (g : Grown w w') : Holds w' b ws := fun j hj => gcell g (h j hj)
theorem Holds.made (w : World) (ws : List Int) (Z : Array Value) (t : TypeId) : Holds (w.alloc (.cells ((vals ws).toArray ++ Z) t)) w.heap.size ws := fun j hj => by
  rw [World.cell?_alloc_new, Array.getElem?_append_left (by simpa [vals] using hj)]
  simp [vals, hj]
theorem Holds.lay {w : World} {b : Nat} {ws : List Int} (h : Holds w b ws) {j : Nat} (hj : j < ws.length) (v : Int) : Holds (w.setCell ⟨b, j, none⟩ (.int .u64 v)) b (ws.set j v) := fun i hi => by
  have hi' : i < ws.length := by simpa using hi
  by_cases e : j = i
  · subst e
    rw [List.getElem_set_self]
    exact World.cell?_setCell_same _ _ _ (h j hj)
  · rw [List.getElem_set_ne e]
    exact (World.cell?_setCell_other _ _ _ _ (by intro hx; cases hx; exact e rfl)).trans (h i hi')
theorem Holds.put {w : World} {b : Nat} {ws : List Int} (h : Holds w b ws) {a : Addr} (ha : a.block ≠ b) (v : Value) : Holds (w.setCell a v) b ws := fun i hi =>
  (World.cell?_setCell_other _ _ _ _ (by intro hx; apply ha; rw [hx])).trans (h i hi)

theorem vals_at {ws : List Int} {j : Nat} (hj : j < ws.length) (Z : Array Value) : ((vals ws).toArray ++ Z)[j]? = some (.int .u64 ws[j]) := by
  rw [Array.getElem?_append_left (by simpa [vals] using hj)]
  simp [vals, hj]
theorem vals_set {ws : List Int} {j : Nat} (hj : j < ws.length) (v : Int) (Z : Array Value) : ((vals ws).toArray ++ Z).setIfInBounds j (.int .u64 v) = (vals (ws.set j v)).toArray ++ Z := by
  rw [Array.setIfInBounds_append_left (by simpa [vals] using hj)]
  simp [vals, List.map_set]

theorem three_ways (ws : List Int) (i : Int) : i < 0 ∨ (∃ j : Nat, i = j ∧ ws.length ≤ j) ∨ ∃ j : Nat, i = j ∧ j < ws.length := by
  by_cases h : i < 0
  · exact .inl h
  · by_cases h' : ws.length ≤ i.toNat
    · exact .inr (.inl ⟨i.toNat, by omega, h'⟩)
    · exact .inr (.inr ⟨i.toNat, by omega, by omega⟩)

/-- The document's Cells, told. -/
def ACells (w : World) (b0 : Nat) (ws : List Int) (n : Int) (e : Ending) (w' : World) : Prop :=
  ∃ b cap, e = .returned (.agg #[.slice (some ⟨b, 0, none⟩) ws.length cap, .int .i64 n]) ∧ Grown w w' ∧ Holds w' b ws ∧ (b = b0 ∨ w.heap.size ≤ b)

theorem two_cells {w : World} {k : Nat} {u v x y : Value} (h0 : w.cell? ⟨k, 0, none⟩ = some u) (h1 : w.cell? ⟨k, 1, none⟩ = some v) :
    ((w.setCell ⟨k, 0, none⟩ x).setCell ⟨k, 1, none⟩ y).cell? ⟨k, 0, none⟩ = some x ∧ ((w.setCell ⟨k, 0, none⟩ x).setCell ⟨k, 1, none⟩ y).cell? ⟨k, 1, none⟩ = some y :=
  ⟨(World.cell?_setCell_other _ _ _ _ (by simp)).trans (World.cell?_setCell_same _ _ _ h0), World.cell?_setCell_same _ _ _ ((World.cell?_setCell_other _ _ _ _ (by simp)).trans h1)⟩

/-- The document's Cells, told, and whether it was done. -/
def ASwap (w : World) (b0 : Nat) (ws : List Int) (n : Int) (d : Bool) (e : Ending) (w' : World) : Prop :=
  ∃ b cap, e = .returned (.tuple #[.agg #[.slice (some ⟨b, 0, none⟩) ws.length cap, .int .i64 n], .bool d]) ∧ Grown w w' ∧ Holds w' b ws ∧ (b = b0 ∨ w.heap.size ≤ b)

theorem length_sw (ws : List Int) (i old v : Int) : (sw ws i old v).length = ws.length := by
  unfold sw; split
  · exact length_wr _ _ _
  · rfl

/- AN ACT: the words behind it, how many steps it was, the word told, whether it was done. -/
def actW (ws : List Int) (k i old v : Int) : List Int := if k % 4 = 1 then wr ws i v else if k % 4 = 2 then sw ws i old v else ws
def actN (ws : List Int) (k i : Int) : Int := if k % 4 = 3 then 0 else cnt ws i
def actR (ws : List Int) (k i : Int) : Int := if k % 4 = 0 ∨ k % 4 = 3 then rd ws i else 0
def actB (ws : List Int) (k i old : Int) : Bool := if k % 4 = 2 then may ws i old else false

/-- The document's Cells, told, the word, and whether it was done. -/
def ADo (w : World) (b0 : Nat) (ws : List Int) (n r : Int) (d : Bool) (e : Ending) (w' : World) : Prop :=
  ∃ b cap, e = .returned (.tuple #[.agg #[.slice (some ⟨b, 0, none⟩) ws.length cap, .int .i64 n], .int .u64 r, .bool d]) ∧ Grown w w' ∧ Holds w' b ws ∧ (b = b0 ∨ w.heap.size ≤ b)

end Go.Proofs.Ytjllemjmdbnkjaa
