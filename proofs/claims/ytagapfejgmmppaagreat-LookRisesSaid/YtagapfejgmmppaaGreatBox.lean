/- A whole struct, stored into a variable's block, and read out of it: laws, over any program. -/
import Derived.Test.YtagapfejgmmppaaGreatBookRef2
import Derived.Deep.MidRow
namespace Go.Proofs.YtagapfejgmmppaaGreat
open Go.ChangeShapes Go.WideShapes Go.ChangeAt Go.RowKit
set_option maxRecDepth 100000
set_option linter.unusedVariables false
theorem Box.range {w : World} {b : Nat} {l : List Value} (h : Box w b l) : w.rangeAt b 0 l := fun j v hv => by rw [Nat.zero_add]; exact h.cell j v hv
theorem Box.there {w : World} {b : Nat} {l : List Value} (h : Box w b l) : w.there b 0 l.length := fun j hj => by
  rw [Nat.zero_add]
  exact ⟨by rw [h.cell j _ (List.getElem?_eq_getElem hj)]; rfl, h.free j⟩
theorem But.cells {S : Nat → Prop} {W : World} {b : Nat} (hb : S b ∨ W.heap.size ≤ b) : ∀ (vs : List Value) (o : Nat) {w : World}, But S W w → But S W (w.setCells b o vs)
  | [], _, _, h => h
  | v :: r, o, w, h => But.cells hb r (o + 1) (h.setCell (a := ⟨b, o, none⟩) hb v)
theorem Box.all {w : World} {b : Nat} {l : List Value} (h : Box w b l) (vs : List Value) (hl : vs.length = l.length) : Box (w.setCells b 0 vs) b vs := by
  have ht : w.there b 0 vs.length := hl ▸ h.there
  refine ⟨fun j u hu => ?_, fun j => (World.frozen?_setCells _ _ _ _ _).trans (h.free j), ?_⟩
  · have := World.rangeAt_setCells_same w b 0 vs ht j u hu
    rwa [Nat.zero_add] at this
  · have := But.cells (S := fun _ => True) (W := w) (b := b) (.inl trivial) vs 0 (But.refl _ w)
    exact Nat.lt_of_lt_of_le h.lt this.2.2

/-- THE STORE of a whole struct into a variable's block: its cells are those, and all else is as it was. -/
theorem store_box {P : Program} {ops : Array Oper} {rest : List Oper} {op : Oper} {a : Act} {w : World} {Q : Exit → Act → World → Prop} (hgd : op.guard = none) (ty : TypeId) (x y : Operand) (ho : op.op = .store ty x y)
    (b : Nat) (l : List Value) (hB : Box w b l) (cells : Array Value) (hx : a.eval x = .pointer (some ⟨b, 0, none⟩)) (hy : a.eval y = .agg cells) (hl : cells.size = l.length)
    (hi : (P.info? ty).map (·.size) = some cells.size) (h1 : cells.toList.all (·.oneCell') = true)
    (h : ∀ w', Box w' b cells.toList → But (fun i => i = b) w w' → wpList P ops Q rest (a.put op.dst undef) w') : wpList P ops Q (op :: rest) a w :=
  wpList_store_mid hgd ty x y ho b 0 cells hx hy (by rw [hl]; exact hB.there) hi (by rw [← Array.all_toList]; exact h1)
    (h _ (hB.all cells.toList (by simpa using hl)) (But.cells (S := fun i => i = b) (.inl rfl) _ _ (But.refl _ w)))
/-- Some cells of a block, written. -/
theorem Box.mid {b : Nat} : ∀ (vs : List Value) {w : World} (o : Nat) {l : List Value}, Box w b l → o + vs.length ≤ l.length → Box (w.setCells b o vs) b (l.take o ++ vs ++ l.drop (o + vs.length))
  | [], w, o, l, h, _ => by simpa [World.setCells] using h
  | v :: vs, w, o, l, h, hj => by
    simp only [List.length_cons] at hj
    have h2 := Box.mid vs (o + 1) (h.set (j := o) (by omega) v) (by simp; omega)
    have e : (l.set o v).take (o + 1) ++ vs ++ (l.set o v).drop (o + 1 + vs.length) = l.take o ++ (v :: vs) ++ l.drop (o + (v :: vs).length) := by
      rw [List.drop_set_of_lt (by omega), List.take_set, List.take_add_one, List.getElem?_eq_getElem (by omega)]
      simp only [Option.toList_some, List.length_cons]
      rw [show (List.take o l ++ [l[o]]).set o v = List.take o l ++ [v] from by
        rw [List.set_append_right _ _ (by simp; omega)]
        simp [show min o l.length = o by omega]]
      simp [Nat.add_assoc, Nat.add_comm 1]
    rw [← e]
    exact h2
theorem Box.midThere {w : World} {b : Nat} {l : List Value} (h : Box w b l) {o n : Nat} (hn : o + n ≤ l.length) : w.there b o n := fun j hj =>
  ⟨by rw [h.cell (o + j) _ (List.getElem?_eq_getElem (by omega))]; rfl, h.free _⟩

/-- THE STORE of a struct into a part of a variable's block. -/
theorem store_part {P : Program} {ops : Array Oper} {rest : List Oper} {op : Oper} {a : Act} {w : World} {Q : Exit → Act → World → Prop} (hgd : op.guard = none) (ty : TypeId) (x y : Operand) (ho : op.op = .store ty x y)
    (b o : Nat) (hx : a.eval x = .pointer (some ⟨b, o, none⟩)) (cells : Array Value) (hy : a.eval y = .agg cells) (l l' : List Value) (hB : Box w b l) (hl : o + cells.size ≤ l.length)
    (hi : (P.info? ty).map (·.size) = some cells.size) (h1 : cells.toList.all (·.oneCell') = true) (hl' : l.take o ++ cells.toList ++ l.drop (o + cells.toList.length) = l')
    (h : ∀ w', Box w' b l' → But (fun i => i = b) w w' → wpList P ops Q rest (a.put op.dst undef) w') : wpList P ops Q (op :: rest) a w :=
  wpList_store_mid hgd ty x y ho b o cells hx hy (hB.midThere hl) hi (by rw [← Array.all_toList]; exact h1)
    (h _ (hl' ▸ Box.mid cells.toList o hB (by simpa using hl)) (But.cells (S := fun i => i = b) (.inl rfl) _ _ (But.refl _ w)))

/-- THE LOAD of a whole struct. -/
theorem load_box {P : Program} {ops : Array Oper} {rest : List Oper} {op : Oper} {a : Act} {w : World} {Q : Exit → Act → World → Prop} (hgd : op.guard = none) (ty : TypeId) (x : Operand) (ho : op.op = .load ty x)
    (b : Nat) (hx : a.eval x = .pointer (some ⟨b, 0, none⟩)) (l : List Value) (d : TypeDesc) (hu : P.underlying ty = some d) (hd : d.isRow = true) (hi : (P.info? ty).map (·.size) = some l.length) (hB : Box w b l)
    (h : wpList P ops Q rest (a.put op.dst (.agg l.toArray)) w) : wpList P ops Q (op :: rest) a w :=
  wpList_load_mid hgd ty x ho b 0 hx l d hB.range hu hd hi h

/- RESULTS, the first of which lies in a variable's block. -/
theorem load_run {P : Program} {w : World} {b : Nat} {l : List Value} (hB : Box w b l) (ty : TypeId) (d : TypeDesc) (hu : P.underlying ty = some d) (hd : d.isRow = true) (hi : (P.info? ty).map (·.size) = some l.length) :
    (loadVar ty ⟨b, 0, none⟩).run P w = .ok (.agg l.toArray) w := run_loadVar_mid w b 0 ty l d hB.range hu hd hi
theorem results_c {P : Program} {fn : Func} {tmps : Array Value} {w : World} {t b : Nat} {ty : TypeId} {l : List Value} (hf : fn.results = #[.cell t ty]) (ht : tmps.getD t undef = .pointer (some ⟨b, 0, none⟩)) (hl : (loadVar ty ⟨b, 0, none⟩).run P w = .ok (.agg l.toArray) w) :
    (results fn tmps).run P w = .ok (.agg l.toArray) w := by
  have ht' : tmps[t]?.getD undef = .pointer (some ⟨b, 0, none⟩) := by simpa using ht
  simp [results, hf, ht', asAddr, hl]
theorem results_ct {P : Program} {fn : Func} {tmps : Array Value} {w : World} {t t1 b : Nat} {ty : TypeId} {l : List Value} (hf : fn.results = #[.cell t ty, .tmp t1]) (ht : tmps.getD t undef = .pointer (some ⟨b, 0, none⟩)) (hl : (loadVar ty ⟨b, 0, none⟩).run P w = .ok (.agg l.toArray) w) :
    (results fn tmps).run P w = .ok (.tuple #[.agg l.toArray, tmps.getD t1 undef]) w := by
  have ht' : tmps[t]?.getD undef = .pointer (some ⟨b, 0, none⟩) := by simpa using ht
  simp [results, hf, ht', asAddr, hl]
theorem results_cttt {P : Program} {fn : Func} {tmps : Array Value} {w : World} {t t1 t2 t3 b : Nat} {ty : TypeId} {l : List Value} (hf : fn.results = #[.cell t ty, .tmp t1, .tmp t2, .tmp t3]) (ht : tmps.getD t undef = .pointer (some ⟨b, 0, none⟩)) (hl : (loadVar ty ⟨b, 0, none⟩).run P w = .ok (.agg l.toArray) w) :
    (results fn tmps).run P w = .ok (.tuple #[.agg l.toArray, tmps.getD t1 undef, tmps.getD t2 undef, tmps.getD t3 undef]) w := by
  have ht' : tmps[t]?.getD undef = .pointer (some ⟨b, 0, none⟩) := by simpa using ht
  simp [results, hf, ht', asAddr, hl]
end Go.Proofs.YtagapfejgmmppaaGreat
