/- Rows of one's own, appended to; and slices as they are handed on: laws, over any program. -/
import Derived.Test.YtagapfejgmmppaaGreatBut
import Derived.Laws.OwnMore
namespace Go.Proofs.YtagapfejgmmppaaGreat
open Go.ChangeShapes Go.WideShapes Go.ChangeAt Go.RowKit
set_option maxRecDepth 100000
/-- A slice of n elements, nil if there are none, whose cells are those; its block is none of those ahead of lo. -/
def FlatAt (w : World) (lo : Nat) (v : Value) (cells : List Value) (n : Nat) : Prop :=
  (n = 0 ∧ cells = [] ∧ v = .slice none 0 0) ∨ (0 < n ∧ ∃ g cap, v = .slice (some ⟨g, 0, none⟩) n cap ∧ lo ≤ g ∧ ∀ j u, cells[j]? = some u → w.cell? ⟨g, j, none⟩ = some u)
theorem FlatAt.but {S : Nat → Prop} {w w' : World} {lo n : Nat} {v : Value} {cells : List Value} (h : FlatAt w lo v cells n) (q : But S w w') (hs : ∀ i, lo ≤ i → ¬ S i) : FlatAt w' lo v cells n := by
  rcases h with h | ⟨h0, g, cap, hv, hlo, hc⟩
  · exact .inl h
  · exact .inr ⟨h0, g, cap, hv, hlo, fun j u hu => q.cell (hs g hlo) (hc j u hu)⟩
theorem FlatAt.grown {w w' : World} {lo n : Nat} {v : Value} {cells : List Value} (h : FlatAt w lo v cells n) (q : Grown w w') : FlatAt w' lo v cells n :=
  h.but (S := fun _ => False) q (fun _ _ f => f)

theorem add0 (g j : Nat) : (⟨g, 0, none⟩ : Addr).add j = ⟨g, j, none⟩ := by unfold Addr.add; split <;> simp_all

theorem But.setRow {w : World} {g : Nat} {cur cs : Array Value} {t : TypeId} (hg : w.heap[g]? = some (.cells cur t (0, 0))) (hs : cs.size = cur.size) : But (· = g) w (w.setRow g cs) := by
  refine ⟨⟨rfl, rfl, fun i hi => ?_⟩, fun a => ?_, by simp [World.setRow]⟩
  · by_cases e : i = g
    · subst e
      rw [hg, setRow_heap w i cur cs t _ hg]
      exact ⟨rfl, rfl, hs, fun j hj => absurd rfl hj⟩
    · rw [setRow_other w g i cs e]
      exact (World.keptBut_refl w (fun m => m.block = g)).2.2 i hi
  · unfold World.frozen?
    by_cases e : a.block = g
    · rw [e, hg, setRow_heap w g cur cs t _ hg]
    · rw [setRow_other w g a.block cs e]

section
variable {P : Program} {w : World}
theorem run_push (base : Nat) (t ty e : TypeId) (z : Value) (size bytes : Nat) (ht : P.underlying t = some (.slice e)) (hi : (P.info? e).map (fun i => (i.zero, i.size, i.bytes)) = some (some z, size, bytes)) (hzs : z.cells.size = size) (hsz : 0 < size)
    (v : Value) (n : Nat) (xs : List Value) (g : Nat) (hown : w.ownsRow base e size v n xs) (hv : v.ownBlock = some g) (x : Value) (m lo : Nat) (cells : List Value) (hx : FlatAt w lo x cells m) (hl : cells.length = m * size)
    (h1 : ∀ u ∈ cells, u.oneCell' = true) (h63 : n + m ≤ 100000) (hb : bytes ≤ 1000) (hbase : base ≤ w.heap.size) :
    ∃ v' w' g', (Builtin.append_ #[t, t] ty #[v, x]).run P w = .ok v' w' ∧ w'.ownsRow base e size v' (n + m) (xs ++ cells) ∧ v'.ownBlock = some g' ∧ (g' = g ∨ w.heap.size ≤ g') ∧ But (· = g) w w' := by
  obtain ⟨i, hi1, hi2, hi3, hi4⟩ := info_parts hi
  rcases hx with ⟨rfl, rfl, rfl⟩ | ⟨hm, ga, ca, rfl, -, hc⟩
  · have hr := run_append_owned_none (P := P) (w := w) base t ty e i size ht hi1 v n xs hown
    exact ⟨v, w, g, hr, by simpa using hown, hv, .inl rfl, But.refl _ _⟩
  · have hnews : ∀ j u, cells[j]? = some u → w.cell? ((⟨ga, 0, none⟩ : Addr).add j) = some u := fun j u hu => by rw [add0]; exact hc j u hu
    have hby : (n + m) * bytes ≤ 140737488355328 := Nat.le_trans (Nat.mul_le_mul h63 hb) (by decide)
    obtain ⟨v', w', hr, hown', hgr, -⟩ := run_append_own (P := P) w base t ty e i z size bytes ht hi1 hi2 hi3 hi4 hzs hsz v n xs hown ⟨ga, 0, none⟩ m ca cells hl hnews h1 (by simp only [maxLen]; omega) hby hbase
    rcases hown.2 with ⟨rfl, -⟩ | ⟨g0, cap, cur, rfl, hbg, hg, hnc, hcm, hcs, htake⟩
    · cases hv
    · have : g0 = g := by simpa [Value.ownBlock] using hv
      subst this
      by_cases hroom : n + m ≤ cap
      · have hfit : n * i.size + cells.length ≤ cur.size := by rw [hl, hcs, hi3, ← Nat.add_mul]; exact Nat.mul_le_mul_right _ hroom
        have hr2 := run_append_room (P := P) w t ty e i ht hi1 g0 n cap cur hg ⟨ga, 0, none⟩ m ca cells (by rw [hi3]; exact hl) hnews h1 hroom hfit
        rw [hr] at hr2
        simp only [Result.ok.injEq] at hr2
        obtain ⟨rfl, rfl⟩ := hr2
        refine ⟨_, _, g0, hr, hown', rfl, .inl rfl, But.setRow hg ?_⟩
        simp only [List.size_toArray, List.length_append, List.length_take, List.length_drop, Array.length_toList]
        omega
      · have hr2 := run_append_grow (P := P) w t ty e i z ht hi1 hi2 ⟨g0, 0, none⟩ n cap xs (by rw [hi3]; exact hown.1) (hown.cells (g := g0) rfl) ⟨ga, 0, none⟩ m ca cells (by rw [hi3]; exact hl) hnews (by omega) (by omega) (growslice_fits (by omega) (by rw [hi4]; exact hby))
        rw [hr] at hr2
        simp only [Result.ok.injEq] at hr2
        obtain ⟨rfl, rfl⟩ := hr2
        exact ⟨_, _, _, hr, hown', rfl, .inr (Nat.le_refl _), But.of_grown ((Grown.refl w).drew.alloc _ _)⟩

/-- AN APPEND TO A ROW OF ONE's OWN, at the operation. -/
theorem wpList_push {ops : Array Oper} {rest : List Oper} {o : Oper} {a : Act} {Q : Exit → Act → World → Prop} (hgd : o.guard = none) (s x : Operand) (t : TypeId)
    (ho : o.op = .call { callee := .builtin .append, args := #[s, x], argTypes := #[t, t] })
    (base : Nat) (e : TypeId) (z : Value) (size bytes : Nat) (ht : P.underlying t = some (.slice e)) (hi : (P.info? e).map (fun i => (i.zero, i.size, i.bytes)) = some (some z, size, bytes)) (hzs : z.cells.size = size) (hsz : 0 < size)
    (v : Value) (n : Nat) (xs : List Value) (g : Nat) (hown : w.ownsRow base e size v n xs) (hv : v.ownBlock = some g) (xv : Value) (m lo : Nat) (cells : List Value) (hx : FlatAt w lo xv cells m) (hl : cells.length = m * size)
    (h1 : ∀ u ∈ cells, u.oneCell' = true) (h63 : n + m ≤ 100000) (hb : bytes ≤ 1000) (hbase : base ≤ w.heap.size) (hs : a.eval s = v) (hxv : a.eval x = xv)
    (h : ∀ v' w' g', w'.ownsRow base e size v' (n + m) (xs ++ cells) → v'.ownBlock = some g' → (g' = g ∨ w.heap.size ≤ g') → But (· = g) w w' → wpList P ops Q rest (a.put o.dst v') w') : wpList P ops Q (o :: rest) a w := by
  obtain ⟨v', w', g', hr, r1, r2, r3, r4⟩ := run_push (P := P) (w := w) base t o.type e z size bytes ht hi hzs hsz v n xs g hown hv xv m lo cells hx hl h1 h63 hb hbase
  refine wpList_plain hgd fun K hK => ?_
  unfold Oper.wp execOp
  simp only [ho, resolve, invoke, builtin, Sem.run_bind, Sem.run_pure, Result.andThen_ok, List.map_toArray, List.map_cons, List.map_nil, hs, hxv, hr]
  exact hK _ _ (h v' w' g' r1 r2 r3 r4)
end
/-- A row of one's own, handed on. -/
theorem FlatAt.of_own {w : World} {base n size : Nat} {e : TypeId} {v : Value} {xs : List Value} (h : w.ownsRow base e size v n xs) (hn : 0 < n) : FlatAt w base v xs n := by
  rcases h.2 with ⟨rfl, rfl⟩ | ⟨g, cap, cur, rfl, hb, -⟩
  · omega
  · exact .inr ⟨hn, g, cap, rfl, hb, fun j u hu => by have := h.cells (g := g) rfl j u hu; rwa [add0] at this⟩
theorem own_made {w : World} {base size : Nat} {e : TypeId} (hb : base ≤ w.heap.size) : (w.alloc (.cells #[] e)).ownsRow base e size (.slice (some ⟨w.heap.size, 0, none⟩) 0 0) 0 [] :=
  World.ownsRow_made w #[] 0 hb (Nat.zero_le _) (by simp)
theorem own_but {S : Nat → Prop} {w w' : World} {base n size g : Nat} {e : TypeId} {v : Value} {xs : List Value} (h : w.ownsRow base e size v n xs) (hv : v.ownBlock = some g) (q : But S w w') (hs : ¬ S g) : w'.ownsRow base e size v n xs := by
  refine ⟨h.1, ?_⟩
  rcases h.2 with h2 | ⟨g0, cap, cur, rfl, hb, hg, hr⟩
  · exact .inl h2
  · have : g0 = g := by simpa [Value.ownBlock] using hv
    subst this
    refine .inr ⟨g0, cap, cur, rfl, hb, ?_, hr⟩
    rw [q.1.block (Array.getElem?_eq_some_iff.1 hg).1 (fun p hp hpi => by subst hpi; exact hs hp)]
    exact hg
end Go.Proofs.YtagapfejgmmppaaGreat
