/- Rows of one's own, appended to; and slices as they are handed on: laws, over any program. -/
import Derived.Test.YtjdjcaoaefapgabGreatMBase
import Derived.Laws.OwnMore
import Derived.Test.YtjdjcaoaefapgabGreatMBook
import Derived.Test.YtjdjcaoaefapgabGreatMLay
import Derived.LoopTactic
namespace Go.Proofs.YtjdjcaoaefapgabGreat
open Go.ChangeShapes Go.WideShapes Go.ChangeAt Go.RowKit
set_option maxRecDepth 100000
/-- A slice of n elements, nil if there are none, whose cells are those; its block is none of those ahead of lo. -/
def FlatAt (w : World) (lo : Nat) (v : Value) (cells : List Value) (n : Nat) : Prop :=
  (n = 0 ∧ cells = [] ∧ v = .slice none 0 0) ∨ (0 < n ∧ ∃ g cap, v = .slice (some ⟨g, 0, none⟩) n cap ∧ lo ≤ g ∧ ∀ j u, cells[j]? = some u → w.cell? ⟨g, j, none⟩ = some u)
theorem FlatAt.but {S : Nat → Prop} {w w' : World} {lo n : Nat} {v : Value} {cells : List Value} (h : FlatAt w lo v cells n) (q : But S w w') (hs : ∀ i, lo ≤ i → ¬ S i) : FlatAt w' lo v cells n := by
  rcases h with h | ⟨h0, g, cap, hv, hlo, hc⟩
  · exact .inl h
  · exact .inr ⟨h0, g, cap, hv, hlo, fun j u hu => q.cell (hs g hlo) (hc j u hu)⟩
theorem FlatAt.grown {w w' : World} {lo n : Nat} {v : Value} {cells : List Value} (h : FlatAt w lo v cells n) (q : Grown w w') : FlatAt w' lo v cells n :=
  h.but (S := fun _ => False) q (fun _ _ f => f)

theorem add0 (g j : Nat) : (⟨g, 0, none⟩ : Addr).add j = ⟨g, j, none⟩ := by unfold Addr.add; split <;> simp_all

theorem But.setRow {w : World} {g : Nat} {cur cs : Array Value} {t : TypeId} (hg : w.heap[g]? = some (.cells cur t (0, 0))) (hs : cs.size = cur.size) : But (· = g) w (w.setRow g cs) := by
  refine ⟨⟨rfl, rfl, fun i hi => ?_⟩, fun a => ?_, by simp [World.setRow]⟩
  · by_cases e : i = g
    · subst e
      rw [hg, setRow_heap w i cur cs t _ hg]
      exact ⟨rfl, rfl, hs, fun j hj => absurd rfl hj⟩
    · rw [setRow_other w g i cs e]
      exact (World.keptBut_refl w (fun m => m.block = g)).2.2 i hi
  · unfold World.frozen?
    by_cases e : a.block = g
    · rw [e, hg, setRow_heap w g cur cs t _ hg]
    · rw [setRow_other w g a.block cs e]

section
variable {P : Program} {w : World}
theorem run_push (base : Nat) (t ty e : TypeId) (z : Value) (size bytes : Nat) (ht : P.underlying t = some (.slice e)) (hi : (P.info? e).map (fun i => (i.zero, i.size, i.bytes)) = some (some z, size, bytes)) (hzs : z.cells.size = size) (hsz : 0 < size)
    (v : Value) (n : Nat) (xs : List Value) (g : Nat) (hown : w.ownsRow base e size v n xs) (hv : v.ownBlock = some g) (x : Value) (m lo : Nat) (cells : List Value) (hx : FlatAt w lo x cells m) (hl : cells.length = m * size)
    (h1 : ∀ u ∈ cells, u.oneCell' = true) (h63 : n + m ≤ 100000) (hb : bytes ≤ 1000) (hbase : base ≤ w.heap.size) :
    ∃ v' w' g', (Builtin.append_ #[t, t] ty #[v, x]).run P w = .ok v' w' ∧ w'.ownsRow base e size v' (n + m) (xs ++ cells) ∧ v'.ownBlock = some g' ∧ (g' = g ∨ w.heap.size ≤ g') ∧ But (· = g) w w' := by
  obtain ⟨i, hi1, hi2, hi3, hi4⟩ := info_parts hi
  rcases hx with ⟨rfl, rfl, rfl⟩ | ⟨hm, ga, ca, rfl, -, hc⟩
  · have hr := run_append_owned_none (P := P) (w := w) base t ty e i size ht hi1 v n xs hown
    exact ⟨v, w, g, hr, by simpa using hown, hv, .inl rfl, But.refl _ _⟩
  · have hnews : ∀ j u, cells[j]? = some u → w.cell? ((⟨ga, 0, none⟩ : Addr).add j) = some u := fun j u hu => by rw [add0]; exact hc j u hu
    have hby : (n + m) * bytes ≤ 140737488355328 := Nat.le_trans (Nat.mul_le_mul h63 hb) (by decide)
    obtain ⟨v', w', hr, hown', hgr, -⟩ := run_append_own (P := P) w base t ty e i z size bytes ht hi1 hi2 hi3 hi4 hzs hsz v n xs hown ⟨ga, 0, none⟩ m ca cells hl hnews h1 (by simp only [maxLen]; omega) hby hbase
    rcases hown.2 with ⟨rfl, -⟩ | ⟨g0, cap, cur, rfl, hbg, hg, hnc, hcm, hcs, htake⟩
    · cases hv
    · have : g0 = g := by simpa [Value.ownBlock] using hv
      subst this
      by_cases hroom : n + m ≤ cap
      · have hfit : n * i.size + cells.length ≤ cur.size := by rw [hl, hcs, hi3, ← Nat.add_mul]; exact Nat.mul_le_mul_right _ hroom
        have hr2 := run_append_room (P := P) w t ty e i ht hi1 g0 n cap cur hg ⟨ga, 0, none⟩ m ca cells (by rw [hi3]; exact hl) hnews h1 hroom hfit
        rw [hr] at hr2
        simp only [Result.ok.injEq] at hr2
        obtain ⟨rfl, rfl⟩ := hr2
        refine ⟨_, _, g0, hr, hown', rfl, .inl rfl, But.setRow hg ?_⟩
        simp only [List.size_toArray, List.length_append, List.length_take, List.length_drop, Array.length_toList]
        omega
      · have hr2 := run_append_grow (P := P) w t ty e i z ht hi1 hi2 ⟨g0, 0, none⟩ n cap xs (by rw [hi3]; exact hown.1) (hown.cells (g := g0) rfl) ⟨ga, 0, none⟩ m ca cells (by rw [hi3]; exact hl) hnews (by omega) (by omega) (growslice_fits (by omega) (by rw [hi4]; exact hby))
        rw [hr] at hr2
        simp only [Result.ok.injEq] at hr2
        obtain ⟨rfl, rfl⟩ := hr2
        exact ⟨_, _, _, hr, hown', rfl, .inr (Nat.le_refl _), But.of_grown ((Grown.refl w).drew.alloc _ _)⟩

/-- AN APPEND TO A ROW OF ONE's OWN, at the operation. -/
theorem wpList_push {ops : Array Oper} {rest : List Oper} {o : Oper} {a : Act} {Q : Exit → Act → World → Prop} (hgd : o.guard = none) (s x : Operand) (t : TypeId)
    (ho : o.op = .call { callee := .builtin .append, args := #[s, x], argTypes := #[t, t] })
    (base : Nat) (e : TypeId) (z : Value) (size bytes : Nat) (ht : P.underlying t = some (.slice e)) (hi : (P.info? e).map (fun i => (i.zero, i.size, i.bytes)) = some (some z, size, bytes)) (hzs : z.cells.size = size) (hsz : 0 < size)
    (v : Value) (n : Nat) (xs : List Value) (g : Nat) (hown : w.ownsRow base e size v n xs) (hv : v.ownBlock = some g) (xv : Value) (m lo : Nat) (cells : List Value) (hx : FlatAt w lo xv cells m) (hl : cells.length = m * size)
    (h1 : ∀ u ∈ cells, u.oneCell' = true) (h63 : n + m ≤ 100000) (hb : bytes ≤ 1000) (hbase : base ≤ w.heap.size) (hs : a.eval s = v) (hxv : a.eval x = xv)
    (h : ∀ v' w' g', w'.ownsRow base e size v' (n + m) (xs ++ cells) → v'.ownBlock = some g' → (g' = g ∨ w.heap.size ≤ g') → But (· = g) w w' → wpList P ops Q rest (a.put o.dst v') w') : wpList P ops Q (o :: rest) a w := by
  obtain ⟨v', w', g', hr, r1, r2, r3, r4⟩ := run_push (P := P) (w := w) base t o.type e z size bytes ht hi hzs hsz v n xs g hown hv xv m lo cells hx hl h1 h63 hb hbase
  refine wpList_plain hgd fun K hK => ?_
  unfold Oper.wp execOp
  simp only [ho, resolve, invoke, builtin, Sem.run_bind, Sem.run_pure, Result.andThen_ok, List.map_toArray, List.map_cons, List.map_nil, hs, hxv, hr]
  exact hK _ _ (h v' w' g' r1 r2 r3 r4)
end
/-- A row of one's own, handed on. -/
theorem FlatAt.of_own {w : World} {base n size : Nat} {e : TypeId} {v : Value} {xs : List Value} (h : w.ownsRow base e size v n xs) (hn : 0 < n) : FlatAt w base v xs n := by
  rcases h.2 with ⟨rfl, rfl⟩ | ⟨g, cap, cur, rfl, hb, -⟩
  · omega
  · exact .inr ⟨hn, g, cap, rfl, hb, fun j u hu => by have := h.cells (g := g) rfl j u hu; rwa [add0] at this⟩
theorem own_made {w : World} {base size : Nat} {e : TypeId} (hb : base ≤ w.heap.size) : (w.alloc (.cells #[] e)).ownsRow base e size (.slice (some ⟨w.heap.size, 0, none⟩) 0 0) 0 [] :=
  World.ownsRow_made w #[] 0 hb (Nat.zero_le _) (by simp)
theorem own_but {S : Nat → Prop} {w w' : World} {base n size g : Nat} {e : TypeId} {v : Value} {xs : List Value} (h : w.ownsRow base e size v n xs) (hv : v.ownBlock = some g) (q : But S w w') (hs : ¬ S g) : w'.ownsRow base e size v n xs := by
  refine ⟨h.1, ?_⟩
  rcases h.2 with h2 | ⟨g0, cap, cur, rfl, hb, hg, hr⟩
  · exact .inl h2
  · have : g0 = g := by simpa [Value.ownBlock] using hv
    subst this
    refine .inr ⟨g0, cap, cur, rfl, hb, ?_, hr⟩
    rw [q.1.block (Array.getElem?_eq_some_iff.1 hg).1 (fun p hp hpi => by subst hpi; exact hs hp)]
    exact hg
end Go.Proofs.YtjdjcaoaefapgabGreat
/- The document's answers for package book (corrieref07): what they are in memory, and what is asked of them. -/
namespace Go.Proofs.YtjdjcaoaefapgabGreat
open Go.ChangeShapes Go.WideShapes Go.ChangeAt Go.RowKit
set_option maxRecDepth 100000
set_option linter.unusedVariables false
def vNat (l : List Nat) : List Value := l.map fun n : Nat => .int .i64 (n : Int)
def flatC (l : List (Nat × Cal)) : List Value := l.flatMap fun p => [.int .i64 (p.1 : Int), .int .i64 p.2.kind, .int .u64 p.2.key, .int .u64 p.2.val, .int .i64 p.2.lim]
def flatN (l : List (Nat × Nat)) : List Value := l.flatMap fun p => [.int .i64 (p.1 : Int), .int .i64 (p.2 : Int)]
theorem vNat_at {l : List Nat} {j : Nat} (hj : j < l.length) : (vNat l)[j]? = some (.int .i64 (at_ l j : Int)) := by
  simp [vNat, at_, List.getD, hj]
theorem flat_at {α : Type} {f : α → List Value} {k : Nat} (hf : ∀ x, (f x).length = k) {o : Nat} (ho : o < k) : ∀ (l : List α) (j : Nat) (x : α), l[j]? = some x → (l.flatMap f)[j * k + o]? = (f x)[o]?
  | [], j, x, h => by simp at h
  | y :: l, 0, x, h => by
    simp only [List.getElem?_cons_zero, Option.some.injEq] at h
    subst h
    rw [List.flatMap_cons, Nat.zero_mul, Nat.zero_add, List.getElem?_append_left (by rw [hf]; exact ho)]
  | y :: l, j + 1, x, h => by
    rw [List.getElem?_cons_succ] at h
    rw [List.flatMap_cons, List.getElem?_append_right (by rw [hf, Nat.add_mul]; omega), hf, show (j + 1) * k + o - k = j * k + o by rw [Nat.add_mul]; omega]
    exact flat_at hf ho l j x h
theorem flatC_len (l : List (Nat × Cal)) : (flatC l).length = l.length * 5 := by
  unfold flatC
  induction l with
  | nil => rfl
  | cons x r ih => rw [List.flatMap_cons, List.length_append, ih, List.length_cons]; simp; omega
theorem flatN_len (l : List (Nat × Nat)) : (flatN l).length = l.length * 2 := by
  unfold flatN
  induction l with
  | nil => rfl
  | cons x r ih => rw [List.flatMap_cons, List.length_append, ih, List.length_cons]; simp; omega
theorem flatC_one (l : List (Nat × Cal)) : ∀ u ∈ flatC l, u.oneCell' = true := by
  intro u hu
  simp only [flatC, List.mem_flatMap] at hu
  obtain ⟨p, -, hp⟩ := hu
  simp only [List.mem_cons, List.not_mem_nil, or_false] at hp
  rcases hp with rfl | rfl | rfl | rfl | rfl <;> rfl
theorem flatN_one (l : List (Nat × Nat)) : ∀ u ∈ flatN l, u.oneCell' = true := by
  intro u hu
  simp only [flatN, List.mem_flatMap] at hu
  obtain ⟨p, -, hp⟩ := hu
  simp only [List.mem_cons, List.not_mem_nil, or_false] at hp
  rcases hp with rfl | rfl <;> rfl

def RV (c : Cf) (s1 s2 s3 s4 s5 : Value) : Value := .agg #[.int .i64 c.t, .int .i64 c.b, .int .i64 c.i, .int .i64 c.f, .int .i64 c.k, s1, s2, s3, s4, s5]
/-- The slices of the document's Book. -/
structure RefS (w : World) (hi : Nat) (c : Cf) (s : St) (s1 s2 s3 s4 s5 : Value) : Prop where
  f1 : FlatAt w hi s1 (vNat s.calls) c.t
  f2 : FlatAt w hi s2 (vNat s.ins) c.t
  f3 : FlatAt w hi s3 (vNat s.made) c.t
  f4 : FlatAt w hi s4 (flatC s.ops) s.ops.length
  f5 : FlatAt w hi s5 (flatN s.nodes) s.nodes.length
theorem RefS.but {S : Nat → Prop} {w w' : World} {hi : Nat} {c : Cf} {s : St} {s1 s2 s3 s4 s5 : Value} (h : RefS w hi c s s1 s2 s3 s4 s5) (q : But S w w') (hs : ∀ i, hi ≤ i → ¬ S i) : RefS w' hi c s s1 s2 s3 s4 s5 :=
  ⟨h.f1.but q hs, h.f2.but q hs, h.f3.but q hs, h.f4.but q hs, h.f5.but q hs⟩
theorem RefS.grown {w w' : World} {hi : Nat} {c : Cf} {s : St} {s1 s2 s3 s4 s5 : Value} (h : RefS w hi c s s1 s2 s3 s4 s5) (q : Grown w w') : RefS w' hi c s s1 s2 s3 s4 s5 :=
  h.but (S := fun _ => False) q (fun _ _ f => f)

/-- Where an operation is. -/
def Find {α : Type} (l : List (Nat × α)) (x r : Int) : Prop := (r = -1 ∧ lookI l x = none) ∨ ∃ (j : Nat) (y : Nat × α), r = j ∧ l[j]? = some y ∧ (y.1 : Int) = x ∧ lookI l x = some y.2
theorem find_first {α : Type} : ∀ (l : List (Nat × α)) (j : Nat) (y : Nat × α), l[j]? = some y → (∀ i, i < j → ∀ z, l[i]? = some z → (z.1 : Int) ≠ (y.1 : Int)) → look l y.1 = some y.2
  | [], j, y, h, _ => by simp at h
  | z :: l, 0, y, h, _ => by
    simp only [List.getElem?_cons_zero, Option.some.injEq] at h
    subst h
    simp [look]
  | z :: l, j + 1, y, h, hb => by
    rw [List.getElem?_cons_succ] at h
    have hz : z.1 ≠ y.1 := fun e => hb 0 (by omega) z rfl (by rw [e])
    simp only [look, if_neg hz]
    exact find_first l j y h fun i hi q hq => hb (i + 1) (by omega) q (by rwa [List.getElem?_cons_succ])
theorem find_none {α : Type} (l : List (Nat × α)) (x : Int) (h : ∀ (i : Nat) (z : Nat × α), l[i]? = some z → (z.1 : Int) ≠ x) : lookI l x = none := by
  unfold lookI
  split
  · rfl
  · refine look_none fun z hz e => ?_
    obtain ⟨i, hi⟩ := List.getElem?_of_mem hz
    exact h i z hi (by omega)

end Go.Proofs.YtjdjcaoaefapgabGreat
/- The document's answers for package book (corrieref07): New, Begin, Make. -/
namespace Go.Proofs.YtjdjcaoaefapgabGreat
open Go.ChangeShapes Go.WideShapes Go.ChangeAt Go.RowKit
set_option maxRecDepth 100000
set_option linter.unusedVariables false
/-- A variable's block: its cells, which may be written. -/
structure Box (w : World) (b : Nat) (l : List Value) : Prop where
  cell : ∀ j u, l[j]? = some u → w.cell? ⟨b, j, none⟩ = some u
  free : ∀ j, w.frozen? ⟨b, j, none⟩ = false
  lt : b < w.heap.size
theorem Box.made (w : World) (l : List Value) (t : TypeId) : Box (w.alloc (.cells l.toArray t)) w.heap.size l :=
  ⟨fun j u hu => by rw [World.cell?_alloc_new]; simpa using hu, fun j => by simp, by simp⟩
theorem Box.but {S : Nat → Prop} {w w' : World} {b : Nat} {l : List Value} (h : Box w b l) (q : But S w w') (hs : ¬ S b) : Box w' b l :=
  ⟨fun j u hu => q.cell hs (h.cell j u hu), fun j => q.frozen (h.free j), Nat.lt_of_lt_of_le h.lt q.2.2⟩
theorem Box.grown {w w' : World} {b : Nat} {l : List Value} (h : Box w b l) (q : Grown w w') : Box w' b l := h.but (S := fun _ => False) q (fun f => f)
theorem Box.set {w : World} {b : Nat} {l : List Value} (h : Box w b l) {j : Nat} (hj : j < l.length) (v : Value) : Box (w.setCell ⟨b, j, none⟩ v) b (l.set j v) := by
  refine ⟨fun i u hu => ?_, fun i => (World.frozen?_setCell _ _ _ _).trans (h.free i), by simpa using h.lt⟩
  by_cases e : j = i
  · subst e
    rw [List.getElem?_set_self hj] at hu
    cases hu
    exact World.cell?_setCell_same _ _ _ (h.cell j _ (List.getElem?_eq_getElem hj))
  · rw [List.getElem?_set_ne e] at hu
    exact (World.cell?_setCell_other _ _ _ _ (fun q => e (congrArg Addr.off q))).trans (h.cell i u hu)
theorem Box.put {w : World} {b : Nat} {l : List Value} (h : Box w b l) {a : Addr} (ha : a.block ≠ b) (v : Value) : Box (w.setCell a v) b l :=
  ⟨fun i u hu => oth ha (h.cell i u hu), fun i => (World.frozen?_setCell _ _ _ _).trans (h.free i), by simpa using h.lt⟩
/-- A list of counts, handed on with one of them one more. -/
def More (w : World) (hi : Nat) (l : List Nat) (h : Nat) (e : Ending) (w' : World) : Prop :=
  ∃ v, e = .returned v ∧ FlatAt w' hi v (vNat (bump l h)) l.length ∧ Grown w w'
theorem info_int : (Tryz.prog.info? 3).map (fun i => (i.zero, i.size, i.bytes)) = some (some (.int .i64 0), 1, 8) := by kernel_rfl
theorem vNat_arr {l : List Nat} {j : Nat} (hj : j < l.length) (Z : Array Value) : ((vNat l).toArray ++ Z)[j]? = some (.int .i64 (at_ l j : Int)) := by
  rw [Array.getElem?_append_left (by simpa [vNat] using hj)]
  simpa using vNat_at hj
theorem vNat_bump {l : List Nat} {j : Nat} (hj : j < l.length) (Z : Array Value) : ((vNat l).toArray ++ Z).setIfInBounds j (.int .i64 ((at_ l j : Int) + 1)) = (vNat (bump l j)).toArray ++ Z := by
  rw [Array.setIfInBounds_append_left (by simpa [vNat] using hj)]
  simp [vNat, bump, List.map_set]
theorem Box.fill {w : World} {b : Nat} {l : List Value} (h : Box w b l) (hl : l.length = 10) (x0 x1 x2 x3 x4 x5 x6 x7 x8 x9 : Value) : Box ((((((((((w.setCell ⟨b, 0, none⟩ x0).setCell ⟨b, 1, none⟩ x1).setCell ⟨b, 2, none⟩ x2).setCell ⟨b, 3, none⟩ x3).setCell ⟨b, 4, none⟩ x4).setCell ⟨b, 5, none⟩ x5).setCell ⟨b, 6, none⟩ x6).setCell ⟨b, 7, none⟩ x7).setCell ⟨b, 8, none⟩ x8).setCell ⟨b, 9, none⟩ x9) b [x0, x1, x2, x3, x4, x5, x6, x7, x8, x9] := by
  have e : ((((((((((l.set 0 x0).set 1 x1).set 2 x2).set 3 x3).set 4 x4).set 5 x5).set 6 x6).set 7 x7).set 8 x8).set 9 x9) = [x0, x1, x2, x3, x4, x5, x6, x7, x8, x9] := by
    match l, hl with
    | [a0, a1, a2, a3, a4, a5, a6, a7, a8, a9], _ => rfl
  rw [← e]
  exact ((((((((((h.set (by simp [hl]) x0).set (by simp [hl]) x1).set (by simp [hl]) x2).set (by simp [hl]) x3).set (by simp [hl]) x4).set (by simp [hl]) x5).set (by simp [hl]) x6).set (by simp [hl]) x7).set (by simp [hl]) x8).set (by simp [hl]) x9)
theorem FlatAt.mono {w : World} {lo lo' n : Nat} {v : Value} {cells : List Value} (h : FlatAt w lo v cells n) (hl : lo' ≤ lo) : FlatAt w lo' v cells n := by
  rcases h with h | ⟨h0, g, cap, hv, hlo, hc⟩
  · exact .inl h
  · exact .inr ⟨h0, g, cap, hv, Nat.le_trans hl hlo, hc⟩
theorem But.fill {S : Nat → Prop} {W w : World} {b : Nat} (g : But S W w) (hb : S b ∨ W.heap.size ≤ b) (x0 x1 x2 x3 x4 x5 x6 x7 x8 x9 : Value) : But S W ((((((((((w.setCell ⟨b, 0, none⟩ x0).setCell ⟨b, 1, none⟩ x1).setCell ⟨b, 2, none⟩ x2).setCell ⟨b, 3, none⟩ x3).setCell ⟨b, 4, none⟩ x4).setCell ⟨b, 5, none⟩ x5).setCell ⟨b, 6, none⟩ x6).setCell ⟨b, 7, none⟩ x7).setCell ⟨b, 8, none⟩ x8).setCell ⟨b, 9, none⟩ x9) :=
  (((((((((g.setCell hb x0).setCell hb x1).setCell hb x2).setCell hb x3).setCell hb x4).setCell hb x5).setCell hb x6).setCell hb x7).setCell hb x8).setCell hb x9
theorem Grown.fill {W w : World} {b : Nat} (g : Grown W w) (hb : W.heap.size ≤ b) (x0 x1 x2 x3 x4 x5 x6 x7 x8 x9 : Value) : Grown W ((((((((((w.setCell ⟨b, 0, none⟩ x0).setCell ⟨b, 1, none⟩ x1).setCell ⟨b, 2, none⟩ x2).setCell ⟨b, 3, none⟩ x3).setCell ⟨b, 4, none⟩ x4).setCell ⟨b, 5, none⟩ x5).setCell ⟨b, 6, none⟩ x6).setCell ⟨b, 7, none⟩ x7).setCell ⟨b, 8, none⟩ x8).setCell ⟨b, 9, none⟩ x9) :=
  (((((((((g.setCell hb x0).setCell hb x1).setCell hb x2).setCell hb x3).setCell hb x4).setCell hb x5).setCell hb x6).setCell hb x7).setCell hb x8).setCell hb x9

/-- What New, Begin and Make of the document tell. -/
def RTold (hi : Nat) (c : Cf) (r : St × Nat × Nat) (w : World) (e : Ending) (w' : World) : Prop :=
  ∃ s1 s2 s3 s4 s5, e = .returned (.tuple #[RV c s1 s2 s3 s4 s5, .int .i64 r.2.1, .int .i64 r.2.2]) ∧ RefS w' hi c r.1 s1 s2 s3 s4 s5 ∧ Grown w w'
def RNew (hi : Nat) (c : Cf) (w : World) (e : Ending) (w' : World) : Prop :=
  ∃ s1 s2 s3 s4 s5, e = .returned (.tuple #[RV c s1 s2 s3 s4 s5, .int .i64 0]) ∧ RefS w' hi c (St.new c) s1 s2 s3 s4 s5 ∧ Grown w w'
theorem vNat_zeros (n : Nat) (j : Nat) (u : Value) (hu : (vNat (List.replicate n 0))[j]? = some u) : (madeCells (Value.int .i64 0).cells (n * 1))[j]? = some u := by
  have hj := (List.getElem?_eq_some_iff.1 hu).1
  have hjn : j < n := by simpa [vNat] using hj
  rw [List.getElem?_eq_getElem hj] at hu
  simp only [vNat, List.getElem_map, List.getElem_replicate] at hu
  simp [madeCells, hjn, Value.cells, ← hu, Nat.mod_one]

theorem made_zeros {n : Nat} {Z : Array Value} (hZ : madeCells (Value.int .i64 0).cells (n * 1) = Z) (w : World) (hi : Nat) (hn : 1 ≤ n) (hw : hi ≤ w.heap.size) : FlatAt (w.alloc (.cells Z 3)) hi (.slice (some ⟨w.heap.size, 0, none⟩) n n) (vNat (List.replicate n 0)) n :=
  .inr ⟨hn, _, _, rfl, hw, fun j u hu => by rw [World.cell?_alloc_new, ← hZ]; exact vNat_zeros n j u hu⟩

end Go.Proofs.YtjdjcaoaefapgabGreat
