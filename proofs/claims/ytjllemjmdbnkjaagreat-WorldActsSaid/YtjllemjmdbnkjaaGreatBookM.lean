/- Package book, method by method. -/
import Derived.Test.YtjllemjmdbnkjaaGreatBook
namespace Go.Proofs.YtjllemjmdbnkjaaGreat
open Go.ChangeShapes Go.WideShapes Go.ChangeAt Go.RowKit
set_option maxRecDepth 100000
def lookI {α : Type} (l : List (Nat × α)) (x : Int) : Option α := if x < 0 then none else look l x.toNat
theorem lookI_nat {α : Type} (l : List (Nat × α)) (n : Nat) : lookI l n = look l n := by
  unfold lookI; rw [if_neg (by omega)]; rfl

structure Inv (c : Cf) (s : St) : Prop where
  l1 : s.calls.length = c.t
  l2 : s.ins.length = c.t
  l3 : s.made.length = c.t
  b1 : ∀ h, h < c.t → at_ s.calls h ≤ c.k
  b2 : ∀ h, h < c.t → at_ s.ins h ≤ c.i
  b3 : ∀ h, h < c.t → at_ s.made h ≤ 2 * c.k
  k1 : ∀ x ∈ s.ops, ∃ h m, h < c.t ∧ m < at_ s.calls h ∧ x.1 = h * c.k + m
  k2 : ∀ x ∈ s.nodes, ∃ h m, h < c.t ∧ m < at_ s.made h ∧ x.1 = 1 + c.b + h * (2 * c.k) + m
  d1 : (s.ops.map (·.1)).Nodup
  d2 : (s.nodes.map (·.1)).Nodup
theorem look_mem {α : Type} : ∀ {l : List (Nat × α)} {n : Nat} {x : α}, look l n = some x → (n, x) ∈ l
  | (m, y) :: r, n, x, h => by
    simp only [look] at h
    split at h
    · cases h; subst_vars; simp
    · exact List.mem_cons_of_mem _ (look_mem h)
theorem look_none {α : Type} {l : List (Nat × α)} {n : Nat} (h : ∀ x ∈ l, x.1 ≠ n) : look l n = none := by
  cases e : look l n with
  | none => rfl
  | some x => exact absurd rfl (h _ (look_mem e))
theorem row_lt {h t k m : Nat} (h1 : h < t) (h2 : m < k) : h * k + m < t * k := by
  have := Nat.mul_le_mul_right k (show h + 1 ≤ t from h1)
  rw [Nat.succ_mul] at this
  omega
theorem row_eq {h h' k m m' : Nat} (h1 : m < k) (h2 : m' < k) (e : h * k + m = h' * k + m') : h = h' ∧ m = m' := by
  have a1 : (h * k + m) / k = h := by rw [Nat.mul_comm, Nat.mul_add_div (by omega), Nat.div_eq_of_lt h1, Nat.add_zero]
  have a2 : (h' * k + m') / k = h' := by rw [Nat.mul_comm, Nat.mul_add_div (by omega), Nat.div_eq_of_lt h2, Nat.add_zero]
  have : h = h' := by rw [← a1, e, a2]
  subst this
  exact ⟨rfl, by omega⟩
theorem Inv.ro {c : Cf} {s : St} (h : Inv c s) {n : Nat} (hn : c.ops ≤ n) : look s.ops n = none := look_none fun x hx e => by
  obtain ⟨i, m, hi, hm, hxe⟩ := h.k1 x hx
  have := row_lt (k := c.k) hi (Nat.lt_of_lt_of_le hm (h.b1 i hi))
  unfold Cf.ops at hn
  omega
theorem Inv.rn {c : Cf} {s : St} (h : Inv c s) {n : Nat} (hn : c.nodes ≤ n) : look s.nodes n = none := look_none fun x hx e => by
  obtain ⟨i, m, hi, hm, hxe⟩ := h.k2 x hx
  have := row_lt (k := 2 * c.k) hi (Nat.lt_of_lt_of_le hm (h.b3 i hi))
  have e2 : c.t * (2 * c.k) = 2 * (c.t * c.k) := by rw [Nat.mul_left_comm]
  unfold Cf.nodes at hn
  omega
theorem Inv.newOp {c : Cf} {s : St} (h : Inv c s) {i : Nat} (_ : i < c.t) (hk : at_ s.calls i < c.k) : look s.ops (i * c.k + at_ s.calls i) = none := look_none fun x hx e => by
  obtain ⟨j, m, hj, hm, hxe⟩ := h.k1 x hx
  have := row_eq hk (Nat.lt_of_lt_of_le hm (h.b1 j hj)) (e.symm.trans hxe)
  obtain ⟨rfl, rfl⟩ := this
  omega
theorem Inv.newNode {c : Cf} {s : St} (h : Inv c s) {i : Nat} (_ : i < c.t) (hk : at_ s.made i < 2 * c.k) : look s.nodes (1 + c.b + i * (2 * c.k) + at_ s.made i) = none := look_none fun x hx e => by
  obtain ⟨j, m, hj, hm, hxe⟩ := h.k2 x hx
  have := row_eq hk (Nat.lt_of_lt_of_le hm (h.b3 j hj)) (show i * (2 * c.k) + at_ s.made i = j * (2 * c.k) + m by omega)
  obtain ⟨rfl, rfl⟩ := this
  omega

theorem four {w : World} {k : Nat} {u0 u1 u2 u3 x0 x1 x2 x3 : Value} (h0 : w.cell? ⟨k, 0, none⟩ = some u0) (h1 : w.cell? ⟨k, 1, none⟩ = some u1) (h2 : w.cell? ⟨k, 2, none⟩ = some u2) (h3 : w.cell? ⟨k, 3, none⟩ = some u3) :
    ((((w.setCell ⟨k, 0, none⟩ x0).setCell ⟨k, 1, none⟩ x1).setCell ⟨k, 2, none⟩ x2).setCell ⟨k, 3, none⟩ x3).cell? ⟨k, 0, none⟩ = some x0 ∧
    ((((w.setCell ⟨k, 0, none⟩ x0).setCell ⟨k, 1, none⟩ x1).setCell ⟨k, 2, none⟩ x2).setCell ⟨k, 3, none⟩ x3).cell? ⟨k, 1, none⟩ = some x1 ∧
    ((((w.setCell ⟨k, 0, none⟩ x0).setCell ⟨k, 1, none⟩ x1).setCell ⟨k, 2, none⟩ x2).setCell ⟨k, 3, none⟩ x3).cell? ⟨k, 2, none⟩ = some x2 ∧
    ((((w.setCell ⟨k, 0, none⟩ x0).setCell ⟨k, 1, none⟩ x1).setCell ⟨k, 2, none⟩ x2).setCell ⟨k, 3, none⟩ x3).cell? ⟨k, 3, none⟩ = some x3 := by
  have o : ∀ {v : World} {i j : Nat} {x y : Value}, i ≠ j → v.cell? ⟨k, j, none⟩ = some y → (v.setCell ⟨k, i, none⟩ x).cell? ⟨k, j, none⟩ = some y := fun hij h => (World.cell?_setCell_other _ _ _ _ (fun e => hij (congrArg Addr.off e))).trans h
  have s : ∀ {v : World} {i : Nat} {x y : Value}, v.cell? ⟨k, i, none⟩ = some y → (v.setCell ⟨k, i, none⟩ x).cell? ⟨k, i, none⟩ = some x := fun h => World.cell?_setCell_same _ _ _ h
  exact ⟨o (by decide) (o (by decide) (o (by decide) (s h0))), o (by decide) (o (by decide) (s (o (by decide) h1))), o (by decide) (s (o (by decide) (o (by decide) h2))), s (o (by decide) (o (by decide) (o (by decide) h3)))⟩
theorem Grown.set4 {W w : World} (g : Grown W w) {k : Nat} (hk : W.heap.size ≤ k) (x0 x1 x2 x3 : Value) : Grown W ((((w.setCell ⟨k, 0, none⟩ x0).setCell ⟨k, 1, none⟩ x1).setCell ⟨k, 2, none⟩ x2).setCell ⟨k, 3, none⟩ x3) :=
  (((g.setCell hk _).setCell hk _).setCell hk _).setCell hk _
theorem acell {w : World} {cs : Array Value} {t : TypeId} {i o : Nat} {v : Value} (k : w.cell? ⟨i, o, none⟩ = some v) : (w.alloc (.cells cs t)).cell? ⟨i, o, none⟩ = some v := gcell ((Grown.refl w).alloc _ _) k

/-- What Call tells. -/
def errOf {α : Type} (o : Option α) : Int := if o.isSome then 0 else 4
/-- What Carried tells. -/
def carriedOf (o : Option Nat) : Int := match o with | none => -1 | some n => n
def keyOf_ (s : St) (x : Int) : Int := ((lookI s.ops (carriedOf (lookI s.nodes x))).getD Cal.zero).key
/-- What is counted of a thread. -/
def CallsOf (c : Cf) (s : St) (x : Int) : Nat := if x < 0 ∨ c.t ≤ x then 0 else at_ s.calls x.toNat
/-- What is counted of a thread. -/
def MadeOf (c : Cf) (s : St) (x : Int) : Nat := if x < 0 ∨ c.t ≤ x then 0 else at_ s.made x.toNat
end Go.Proofs.YtjllemjmdbnkjaaGreat
