/- Worlds that have grown, but for some blocks that may have been written: laws, over any program. -/
import Derived.Test.YtagapfejgmmppaaGreatGrow
import Derived.Laws.LoneSync
import Derived.Laws.MakeOwn
import Derived.OwnWalk
namespace Go.Proofs.YtagapfejgmmppaaGreat
open Go.ChangeShapes Go.WideShapes Go.ChangeAt Go.RowKit
set_option maxRecDepth 100000
/-- w' is w with new blocks laid behind it, and cells of blocks in S written. -/
def But (S : Nat → Prop) (w w' : World) : Prop :=
  w.keptBut w' (fun m => S m.block) ∧ (∀ a, w'.frozen? a = w.frozen? a) ∧ w.heap.size ≤ w'.heap.size

theorem But.refl (S : Nat → Prop) (w : World) : But S w w := ⟨World.keptBut_refl _ _, fun _ => rfl, Nat.le_refl _⟩
theorem But.trans {S : Nat → Prop} {a b c : World} (h : But S a b) (k : But S b c) : But S a c :=
  ⟨World.keptBut_trans h.1 k.1, fun x => (k.2.1 x).trans (h.2.1 x), Nat.le_trans h.2.2 k.2.2⟩
theorem But.mono {S T : Nat → Prop} {a b : World} (h : But S a b) (hs : ∀ i, S i → T i) : But T a b :=
  ⟨World.keptBut_mono (fun _ f => hs _ f) h.1, h.2.1, h.2.2⟩
theorem But.of_grown {S : Nat → Prop} {a b : World} (h : Grown a b) : But S a b :=
  ⟨World.keptBut_mono (fun _ f => f.elim) h.1, h.2.1, h.2.2⟩
theorem But.cell {S : Nat → Prop} {a b : World} (h : But S a b) {i o : Nat} {v : Value} (hs : ¬ S i) (k : a.cell? ⟨i, o, none⟩ = some v) : b.cell? ⟨i, o, none⟩ = some v := by
  rw [h.1.cell (World.block_lt_of_cell? a _ k) hs]; exact k
theorem But.alloc {S : Nat → Prop} {W w' : World} (h : But S W w') (c : Array Value) (t : TypeId) : But S W (w'.alloc (.cells c t)) :=
  ⟨World.keptBut_trans h.1 (World.keptBut_alloc _ _ _), fun a => (frozen?_alloc_cells _ _ _ a).trans (h.2.1 a), Nat.le_trans h.2.2 (by show w'.heap.size ≤ (w'.heap.push _).size; simp)⟩
theorem But.drew {S : Nat → Prop} {W w' : World} (h : But S W w') : But S W w'.drew := h
theorem But.setCell {S : Nat → Prop} {W w' : World} (h : But S W w') {a : Addr} (ha : S a.block ∨ W.heap.size ≤ a.block) (v : Value) : But S W (w'.setCell a v) := by
  rcases ha with ha | ha
  · exact ⟨World.keptBut_trans h.1 (World.keptBut_setCell _ _ _ ha), fun x => (World.frozen?_setCell _ _ _ _).trans (h.2.1 x), by simpa [World.setCell] using h.2.2⟩
  · obtain ⟨⟨h1, h2, h3⟩, hf, hs⟩ := h
    refine ⟨⟨h1, h2, fun i hi => ?_⟩, fun x => (World.frozen?_setCell _ _ _ _).trans (hf x), by simpa [World.setCell] using hs⟩
    have e : (w'.setCell a v).heap[i]? = w'.heap[i]? := by
      simp only [World.setCell, Array.getElem?_modify]
      rw [if_neg (by omega)]
    rw [e]
    exact h3 i hi
/-- What was written lies in blocks that the elder world had not: the elder world has only grown. -/
theorem But.fresh {S : Nat → Prop} {W a b : World} (g : Grown W a) (h : But S a b) (hs : ∀ i, S i → W.heap.size ≤ i) : Grown W b := by
  refine ⟨⟨h.1.1.trans g.1.1, h.1.2.1.trans g.1.2.1, fun i hi => ?_⟩, fun x => (h.2.1 x).trans (g.2.1 x), Nat.le_trans g.2.2 h.2.2⟩
  have e : b.heap[i]? = a.heap[i]? := h.1.block (Nat.lt_of_lt_of_le hi g.2.2) (fun p hp hpi => by have := hs _ hp; omega)
  rw [e]
  exact g.1.2.2 i hi
theorem But.frozen {S : Nat → Prop} {a b : World} (h : But S a b) {x : Addr} {f : Bool} (k : a.frozen? x = f) : b.frozen? x = f := (h.2.1 x).trans k

/-- A COPY BY append: 'append([]T{}, xs...)' of one-cell values, xs not empty: a new row. -/
theorem wpList_append_copy {P : Program} {w : World} {ops : Array Oper} {rest : List Oper} {o : Oper} {a : Act} {Q : Exit → Act → World → Prop} (hgd : o.guard = none) (s x : Operand) (t : TypeId)
    (ho : o.op = .call { callee := .builtin .append, args := #[s, x], argTypes := #[t, t] })
    (e : TypeId) (z : Value) (bytes : Nat) (ht : P.underlying t = some (.slice e)) (hi : (P.info? e).map (fun i => (i.zero, i.size, i.bytes)) = some (some z, 1, bytes))
    (g : Nat) (hs : a.eval s = .slice (some ⟨g, 0, none⟩) 0 0) (ad : Addr) (m c : Nat) (news : List Value) (hx : a.eval x = .slice (some ad) m c) (hm : 0 < m) (hl : news.length = m)
    (hnews : ∀ j u, news[j]? = some u → w.cell? (ad.add j) = some u) (h63 : m ≤ 1152921504606846976) (hbytes : m * bytes ≤ 140737488355328)
    (h : ∀ cap Z, m ≤ cap → wpList P ops Q rest (a.put o.dst (.slice (some ⟨w.heap.size, 0, none⟩) m cap)) (w.drew.alloc (.cells (news.toArray ++ Z) e))) : wpList P ops Q (o :: rest) a w := by
  obtain ⟨i, hi1, hi2, hi3, hi4⟩ := info_parts hi
  have hr := run_append_grow (P := P) w t o.type e i z ht hi1 hi2 ⟨g, 0, none⟩ 0 0 [] (by simp) (by simp) ad m c news (by rw [hi3, hl, Nat.mul_one]) hnews (by omega) (by omega) (growslice_fits (by omega) (by rw [hi4, Nat.zero_add]; exact hbytes))
  simp only [Nat.zero_add, Array.empty_append] at hr
  refine wpList_plain hgd fun K hK => ?_
  unfold Oper.wp execOp
  simp only [ho, resolve, invoke, builtin, Sem.run_bind, Sem.run_pure, Result.andThen_ok, List.map_toArray, List.map_cons, List.map_nil, hs, hx, hr]
  exact hK _ _ (h _ _ (grownCap_ge w m 0 e))

/-- A world that has grown out of W, but for blocks in S. -/
structure ButW (S : Nat → Prop) (W : World) : Type where
  w : World
  gr : But S W w
instance (S : Nat → Prop) (W : World) : Nonempty (ButW S W) := ⟨⟨W, But.refl S W⟩⟩
theorem ButW.cell {S : Nat → Prop} {W : World} {i o : Nat} {v : Value} (hs : ¬ S i) (k : W.cell? ⟨i, o, none⟩ = some v) (g : ButW S W) : g.w.cell? ⟨i, o, none⟩ = some v := g.gr.cell hs k
end Go.Proofs.YtagapfejgmmppaaGreat
