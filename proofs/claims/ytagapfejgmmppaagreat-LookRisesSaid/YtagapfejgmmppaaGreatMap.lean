/- A map whose keys are 0 .. n-1, at each of them a pointer to the block so many behind the first: how it is made, and what is looked up in it. -/
import Derived.Test.YtagapfejgmmppaaGreatBut
import Derived.MapKept
import Derived.Carry
import Derived.ChangeMaps5
import Derived.Maps.OwnOps
namespace Go.Proofs.YtagapfejgmmppaaGreat
open Go.ChangeShapes Go.WideShapes Go.ChangeAt Go.RowKit Go.ChangeMaps
set_option maxRecDepth 100000
def ent (base i : Nat) : MapEntry := { key := .int .i64 i, val := .pointer (some ⟨base + i, 0, none⟩), born := i }
def ents (base n : Nat) : Array MapEntry := ((List.range n).map (ent base)).toArray

theorem findNow_app (d : TypeDesc) (k : Value) (r : List MapEntry) : ∀ (l : List MapEntry) (i : Nat), Instr.findNow d k l i = some none → Instr.findNow d k (l ++ r) i = Instr.findNow d k r (i + l.length)
  | [], i, _ => by simp
  | e :: l, i, h => by
    simp only [List.cons_append, Instr.findNow] at h ⊢
    split at h
    · cases h
    · rename_i h1
      rw [findNow_app d k r l (i + 1) h, List.length_cons]
      congr 1; omega
    · cases h
theorem findNow_hit (d : TypeDesc) (k : Value) (r : List MapEntry) (z : Nat × Value) : ∀ (l : List MapEntry) (i : Nat), Instr.findNow d k l i = some (some z) → Instr.findNow d k (l ++ r) i = some (some z)
  | [], i, h => by simp [Instr.findNow] at h
  | e :: l, i, h => by
    simp only [List.cons_append, Instr.findNow] at h ⊢
    split at h
    · exact h
    · exact findNow_hit d k r z l (i + 1) h
    · cases h

theorem find_in (base j : Nat) : ∀ n, j < n → Instr.findNow (.int .i64) (.int .i64 j) ((List.range n).map (ent base)) 0 = some (some (j, .pointer (some ⟨base + j, 0, none⟩)))
  | 0, h => absurd h (by omega)
  | n + 1, h => by
    rw [List.range_succ, List.map_append]
    by_cases hn : j < n
    · exact findNow_hit _ _ _ _ _ _ (find_in base j n hn)
    · obtain rfl : j = n := by omega
      rw [findNow_app]
      · simp [Instr.findNow, Instr.sameNow, ent]
      · have : ∀ m, m ≤ j → Instr.findNow (.int .i64) (.int .i64 j) ((List.range m).map (ent base)) 0 = some none := by
          intro m
          induction m with
          | zero => intro _; rfl
          | succ m ih =>
            intro hm
            rw [List.range_succ, List.map_append, findNow_app _ _ _ _ _ (ih (by omega))]
            have : ((j : Int) == (m : Int)) = false := by simp; omega
            simp [Instr.findNow, Instr.sameNow, ent, this]
        exact this j (Nat.le_refl _)
theorem find_out (base : Nat) (x : Int) : ∀ n : Nat, (x < 0 ∨ n ≤ x) → Instr.findNow (.int .i64) (.int .i64 x) ((List.range n).map (ent base)) 0 = some none
  | 0, _ => rfl
  | n + 1, h => by
    rw [List.range_succ, List.map_append, findNow_app _ _ _ _ _ (find_out base x n (by omega))]
    have : (x == (n : Int)) = false := by simp; omega
    simp [Instr.findNow, Instr.sameNow, ent, this]

/-- Block mb is such a map. -/
def MapAt (w : World) (mb base n : Nat) : Prop := w.heap[mb]? = some (.map (ents base n) n)
theorem MapAt.lt {w : World} {mb base n : Nat} (h : MapAt w mb base n) : mb < w.heap.size := (Array.getElem?_eq_some_iff.1 h).1
theorem MapAt.ne {w : World} {mb base n : Nat} (h : MapAt w mb base n) {i o : Nat} {v : Value} (hc : w.cell? ⟨i, o, none⟩ = some v) : i ≠ mb := by
  rintro rfl
  have h' : w.heap[i]? = some (.map (ents base n) n) := h
  simp [World.cell?, h'] at hc
theorem MapAt.but {S : Nat → Prop} {w w' : World} {mb base n : Nat} (h : MapAt w mb base n) (g : But S w w') (hs : ¬ S mb) : MapAt w' mb base n := by
  have e : w'.heap[mb]? = w.heap[mb]? := g.1.block h.lt (fun p hp hpi => by subst hpi; exact hs hp)
  exact e.trans h
theorem MapAt.grown {w w' : World} {mb base n : Nat} (h : MapAt w mb base n) (g : Grown w w') : MapAt w' mb base n :=
  h.but (S := fun _ => False) g (fun f => f)
theorem MapAt.made (w : World) (base : Nat) : MapAt (w.alloc (.map #[] 0)) w.heap.size base 0 := (MapKept.heap_alloc w _).1

section
variable {P : Program} {t k e : TypeId} {w : World} {mb base n : Nat}
theorem look_in (h : MapAt w mb base n) (ht : P.underlying t = some (.map k e)) (hk : P.underlying k = some (.int .i64)) (j : Nat) (hj : j < n) :
    (Instr.lookup t (.map (some mb)) (.int .i64 j) false).run P w = .ok (.pointer (some ⟨base + j, 0, none⟩)) w := by
  have h1 := find_in base j n hj
  simp [Instr.lookup, run_underlying ht, MapKept.run_getObj_map h, MapKept.run_checkKey hk (show MapKept.IsKey (.int .i64) (.int .i64 j) from rfl), ents, MapKept.run_findKey hk h1, Result.andThen]
theorem look_in_ok (h : MapAt w mb base n) (ht : P.underlying t = some (.map k e)) (hk : P.underlying k = some (.int .i64)) (j : Nat) (hj : j < n) :
    (Instr.lookup t (.map (some mb)) (.int .i64 j) true).run P w = .ok (.tuple #[.pointer (some ⟨base + j, 0, none⟩), .bool true]) w := by
  have h1 := find_in base j n hj
  simp [Instr.lookup, run_underlying ht, MapKept.run_getObj_map h, MapKept.run_checkKey hk (show MapKept.IsKey (.int .i64) (.int .i64 j) from rfl), ents, MapKept.run_findKey hk h1, Result.andThen]
theorem look_out (h : MapAt w mb base n) (ht : P.underlying t = some (.map k e)) (hk : P.underlying k = some (.int .i64)) (hz : (zeroValue e).run P w = .ok (.pointer none) w) (x : Int) (hx : x < 0 ∨ n ≤ x) :
    (Instr.lookup t (.map (some mb)) (.int .i64 x) false).run P w = .ok (.pointer none) w := by
  have h1 := find_out base x n hx
  simp [Instr.lookup, run_underlying ht, MapKept.run_getObj_map h, MapKept.run_checkKey hk (show MapKept.IsKey (.int .i64) (.int .i64 x) from rfl), ents, MapKept.run_findKey hk h1, hz, Result.andThen]
theorem look_out_ok (h : MapAt w mb base n) (ht : P.underlying t = some (.map k e)) (hk : P.underlying k = some (.int .i64)) (hz : (zeroValue e).run P w = .ok (.pointer none) w) (x : Int) (hx : x < 0 ∨ n ≤ x) :
    (Instr.lookup t (.map (some mb)) (.int .i64 x) true).run P w = .ok (.tuple #[.pointer none, .bool false]) w := by
  have h1 := find_out base x n hx
  simp [Instr.lookup, run_underlying ht, MapKept.run_getObj_map h, MapKept.run_checkKey hk (show MapKept.IsKey (.int .i64) (.int .i64 x) from rfl), ents, MapKept.run_findKey hk h1, hz, Result.andThen]

theorem run_makeMap_hint (ht : P.underlying t = some (.map k e)) (x : Int) : (Instr.makeMap t (some (.int .i64 x))).run P w = .ok (.map (some w.heap.size)) (w.alloc (.map #[] 0)) := by
  simp [Instr.makeMap, run_underlying ht, asInt, asIntOf, Result.andThen]

theorem run_put (h : MapAt w mb base n) (ht : P.underlying t = some (.map k e)) (hk : P.underlying k = some (.int .i64)) :
    ∃ w', (Instr.mapUpdate t (.map (some mb)) (.int .i64 n) (.pointer (some ⟨base + n, 0, none⟩))).run P w = .ok () w' ∧ MapAt w' mb base (n + 1) ∧ But (· = mb) w w' ∧ w'.heap.size = w.heap.size := by
  have h1 := find_out base n n (.inr (by omega))
  refine ⟨setBlock w mb (.map (ents base (n + 1)) (n + 1)), ?_, heap_setBlock_same h _, ⟨keptBut_setBlock h rfl, frozen?_setBlock h, by simp [setBlock]⟩, by simp [setBlock]⟩
  have he : (ents base n).push { key := .int .i64 n, val := .pointer (some ⟨base + n, 0, none⟩), born := n } = ents base (n + 1) := by
    simp [ents, List.range_succ, ent]
  have h2 : Instr.findNow (.int .i64) (.int .i64 n) (ents base n).toList 0 = some none := by simpa [ents] using h1
  simp [Instr.mapUpdate, run_underlying ht, MapKept.run_getObj_map h, MapKept.run_checkKey hk (show MapKept.IsKey (.int .i64) (.int .i64 n) from rfl), MapKept.run_findKey hk h2, he, MapKept.run_setObj_map _ h, Result.andThen, setBlock]
end
/-- THE STORE AT THE OPERATION, for the walk. -/
theorem wpList_put {P : Program} {w : World} {ops : Array Oper} {rest : List Oper} {o : Oper} {a : Act} {Q : Exit → Act → World → Prop} (hg : o.guard = none) (m x v : Operand) (t : TypeId) (hop : o.op = Op.mapUpdate t m x v)
    (k e : TypeId) (ht : P.underlying t = some (.map k e)) (hk : P.underlying k = some (.int .i64)) (mb base n b' : Nat) (h : MapAt w mb base n) (hm : a.eval m = .map (some mb)) (hx : a.eval x = .int .i64 n)
    (hv : a.eval v = .pointer (some ⟨b', 0, none⟩)) (hb : b' = base + n)
    (hK : ∀ w', MapAt w' mb base (n + 1) → But (· = mb) w w' → w'.heap.size = w.heap.size → wpList P ops Q rest (a.put o.dst undef) w') : wpList P ops Q (o :: rest) a w := by
  subst hb
  refine wpList_plain hg fun K' hK' => ?_
  obtain ⟨w', hrun, r1, r2, r3⟩ := run_put (P := P) h ht hk
  unfold Oper.wp
  simp [execOp, hop, hm, hx, hv, hrun, Result.andThen]
  exact hK' _ _ (hK w' r1 r2 r3)
end Go.Proofs.YtagapfejgmmppaaGreat
