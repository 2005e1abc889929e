/- A whole struct, stored into a variable's block, and read out of it: laws, over any program. -/
import Derived.Test.YtjllemjmdbnkjaaBookRef2
import Derived.Deep.MidRow
namespace Go.Proofs.Ytjllemjmdbnkjaa
open Go.ChangeShapes Go.WideShapes Go.ChangeAt Go.RowKit
set_option linter.unusedVariables false

theorem Box.range {w : World} {b : Nat} {l : List Value} (h : Box w b l) : w.rangeAt b 0 l := fun j v hv => by rw [Nat.zero_add]; exact h.cell j v hv
theorem Box.there {w : World} {b : Nat} {l : List Value} (h : Box w b l) : w.there b 0 l.length := fun j hj => by
  rw [Nat.zero_add]
  exact ⟨by rw [h.cell j _ (List.getElem?_eq_getElem hj)]; rfl, h.free j⟩
theorem But.cells {S : Nat → Prop} {W : World} {b : Nat} (hb : S b ∨ W.heap.size ≤ b) : ∀ (vs : List Value) (o : Nat) {w : World}, But S W w → But S W (w.setCells b o vs)
  | [], _, _, h => h
  | v :: r, o, w, h => But.cells hb r (o + 1) (h.setCell (a := ⟨b, o, none⟩) hb v)
theorem Box.all {w : World} {b : Nat} {l : List Value} (h : Box w b l) (vs : List Value) (hl : vs.length = l.length) : Box (w.setCells b 0 vs) b vs := by
  have ht : w.there b 0 vs.length := hl ▸ h.there
  refine ⟨fun j u hu => ?_, fun j => (World.frozen?_setCells _ _ _ _ _).trans (h.free j), ?_⟩
  · have := World.rangeAt_setCells_same w b 0 vs ht j u hu
    rwa [Nat.zero_add] at this
  · have := But.cells (S := fun _ => True) (W := w) (b := b) (.inl trivial) vs 0 (But.refl _ w)
    exact Nat.lt_of_lt_of_le h.lt this.2.2

/-- THE STORE of a whole struct into a variable's block: its cells are those, and all else is as it was. -/
theorem store_box {P : Program} {ops : Array Oper} {rest : List Oper} {op : Oper} {a : Act} {w : World} {Q : Exit → Act → World → Prop} (hgd : op.guard = none) (ty : TypeId) (x y : Operand) (ho : op.op = .store ty x y)
    (b : Nat) (l : List Value) (hB : Box w b l) (cells : Array Value) (hx : a.eval x = .pointer (some ⟨b, 0, none⟩)) (hy : a.eval y = .agg cells) (hl : cells.size = l.length)
    (hi : (P.info? ty).map (·.size) = some cells.size) (h1 : cells.toList.all (·.oneCell') = true)
    (h : ∀ w', Box w' b cells.toList → But (fun i => i = b) w w' → wpList P ops Q rest (a.put op.dst undef) w') : wpList P ops Q (op :: rest) a w :=
  wpList_store_mid hgd ty x y ho b 0 cells hx hy (by rw [hl]; exact hB.there) hi (by rw [← Array.all_toList]; exact h1)
    (h _ (hB.all cells.toList (by simpa using hl)) (But.cells (S := fun i => i = b) (.inl rfl) _ _ (But.refl _ w)))
end Go.Proofs.Ytjllemjmdbnkjaa
