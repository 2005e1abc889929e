/- The document's answers for package book (corrieref07): what they are in memory, and what is asked of them. -/
import Derived.Test.YtjllemjmdbnkjaaGreatBegin
import Derived.Test.YtjllemjmdbnkjaaGreatNewB
import Derived.Test.YtjllemjmdbnkjaaGreatPush
import Derived.Test.YtjllemjmdbnkjaaGreatLayRef
import Derived.LoopTactic
namespace Go.Proofs.YtjllemjmdbnkjaaGreat
open Go.ChangeShapes Go.WideShapes Go.ChangeAt Go.RowKit
set_option maxRecDepth 100000
set_option linter.unusedVariables false
def vNat (l : List Nat) : List Value := l.map fun n : Nat => .int .i64 (n : Int)
def flatC (l : List (Nat × Cal)) : List Value := l.flatMap fun p => [.int .i64 (p.1 : Int), .int .i64 p.2.kind, .int .u64 p.2.key, .int .u64 p.2.val, .int .i64 p.2.lim]
def flatN (l : List (Nat × Nat)) : List Value := l.flatMap fun p => [.int .i64 (p.1 : Int), .int .i64 (p.2 : Int)]
theorem vNat_at {l : List Nat} {j : Nat} (hj : j < l.length) : (vNat l)[j]? = some (.int .i64 (at_ l j : Int)) := by
  simp [vNat, at_, List.getD, hj]
theorem flat_at {α : Type} {f : α → List Value} {k : Nat} (hf : ∀ x, (f x).length = k) {o : Nat} (ho : o < k) : ∀ (l : List α) (j : Nat) (x : α), l[j]? = some x → (l.flatMap f)[j * k + o]? = (f x)[o]?
  | [], j, x, h => by simp at h
  | y :: l, 0, x, h => by
    simp only [List.getElem?_cons_zero, Option.some.injEq] at h
    subst h
    rw [List.flatMap_cons, Nat.zero_mul, Nat.zero_add, List.getElem?_append_left (by rw [hf]; exact ho)]
  | y :: l, j + 1, x, h => by
    rw [List.getElem?_cons_succ] at h
    rw [List.flatMap_cons, List.getElem?_append_right (by rw [hf, Nat.add_mul]; omega), hf, show (j + 1) * k + o - k = j * k + o by rw [Nat.add_mul]; omega]
    exact flat_at hf ho l j x h
theorem flatC_len (l : List (Nat × Cal)) : (flatC l).length = l.length * 5 := by
  unfold flatC
  induction l with
  | nil => rfl
  | cons x r ih => rw [List.flatMap_cons, List.length_append, ih, List.length_cons]; simp; omega
theorem flatN_len (l : List (Nat × Nat)) : (flatN l).length = l.length * 2 := by
  unfold flatN
  induction l with
  | nil => rfl
  | cons x r ih => rw [List.flatMap_cons, List.length_append, ih, List.length_cons]; simp; omega
theorem flatC_one (l : List (Nat × Cal)) : ∀ u ∈ flatC l, u.oneCell' = true := by
  intro u hu
  simp only [flatC, List.mem_flatMap] at hu
  obtain ⟨p, -, hp⟩ := hu
  simp only [List.mem_cons, List.not_mem_nil, or_false] at hp
  rcases hp with rfl | rfl | rfl | rfl | rfl <;> rfl
theorem flatN_one (l : List (Nat × Nat)) : ∀ u ∈ flatN l, u.oneCell' = true := by
  intro u hu
  simp only [flatN, List.mem_flatMap] at hu
  obtain ⟨p, -, hp⟩ := hu
  simp only [List.mem_cons, List.not_mem_nil, or_false] at hp
  rcases hp with rfl | rfl <;> rfl

def RV (c : Cf) (s1 s2 s3 s4 s5 : Value) : Value := .agg #[.int .i64 c.t, .int .i64 c.b, .int .i64 c.i, .int .i64 c.f, .int .i64 c.k, s1, s2, s3, s4, s5]
/-- The slices of the document's Book. -/
structure RefS (w : World) (hi : Nat) (c : Cf) (s : St) (s1 s2 s3 s4 s5 : Value) : Prop where
  f1 : FlatAt w hi s1 (vNat s.calls) c.t
  f2 : FlatAt w hi s2 (vNat s.ins) c.t
  f3 : FlatAt w hi s3 (vNat s.made) c.t
  f4 : FlatAt w hi s4 (flatC s.ops) s.ops.length
  f5 : FlatAt w hi s5 (flatN s.nodes) s.nodes.length
theorem RefS.but {S : Nat → Prop} {w w' : World} {hi : Nat} {c : Cf} {s : St} {s1 s2 s3 s4 s5 : Value} (h : RefS w hi c s s1 s2 s3 s4 s5) (q : But S w w') (hs : ∀ i, hi ≤ i → ¬ S i) : RefS w' hi c s s1 s2 s3 s4 s5 :=
  ⟨h.f1.but q hs, h.f2.but q hs, h.f3.but q hs, h.f4.but q hs, h.f5.but q hs⟩
theorem RefS.grown {w w' : World} {hi : Nat} {c : Cf} {s : St} {s1 s2 s3 s4 s5 : Value} (h : RefS w hi c s s1 s2 s3 s4 s5) (q : Grown w w') : RefS w' hi c s s1 s2 s3 s4 s5 :=
  h.but (S := fun _ => False) q (fun _ _ f => f)

/-- Where an operation is. -/
def Find {α : Type} (l : List (Nat × α)) (x r : Int) : Prop := (r = -1 ∧ lookI l x = none) ∨ ∃ (j : Nat) (y : Nat × α), r = j ∧ l[j]? = some y ∧ (y.1 : Int) = x ∧ lookI l x = some y.2
theorem find_first {α : Type} : ∀ (l : List (Nat × α)) (j : Nat) (y : Nat × α), l[j]? = some y → (∀ i, i < j → ∀ z, l[i]? = some z → (z.1 : Int) ≠ (y.1 : Int)) → look l y.1 = some y.2
  | [], j, y, h, _ => by simp at h
  | z :: l, 0, y, h, _ => by
    simp only [List.getElem?_cons_zero, Option.some.injEq] at h
    subst h
    simp [look]
  | z :: l, j + 1, y, h, hb => by
    rw [List.getElem?_cons_succ] at h
    have hz : z.1 ≠ y.1 := fun e => hb 0 (by omega) z rfl (by rw [e])
    simp only [look, if_neg hz]
    exact find_first l j y h fun i hi q hq => hb (i + 1) (by omega) q (by rwa [List.getElem?_cons_succ])
theorem find_none {α : Type} (l : List (Nat × α)) (x : Int) (h : ∀ (i : Nat) (z : Nat × α), l[i]? = some z → (z.1 : Int) ≠ x) : lookI l x = none := by
  unfold lookI
  split
  · rfl
  · refine look_none fun z hz e => ?_
    obtain ⟨i, hi⟩ := List.getElem?_of_mem hz
    exact h i z hi (by omega)

end Go.Proofs.YtjllemjmdbnkjaaGreat
