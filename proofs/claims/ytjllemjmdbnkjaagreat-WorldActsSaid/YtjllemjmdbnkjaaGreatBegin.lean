/- Package book: Begin and Make. -/
import Derived.Test.YtjllemjmdbnkjaaGreatBookM
namespace Go.Proofs.YtjllemjmdbnkjaaGreat
open Go.ChangeShapes Go.WideShapes Go.ChangeAt Go.RowKit
set_option maxRecDepth 100000
theorem vOp_nat {c : Cf} (h : c.Ok) {i n : Nat} (hi : i < c.t) (hn : n < c.k) : vOp c.t c.b c.i c.f c.k i n = ((i * c.k + n : Nat) : Int) := by
  unfold vOp
  rw [if_pos ⟨h.z, by omega, by omega, by omega⟩]
  simp
theorem vNode_nat {c : Cf} (h : c.Ok) {i n : Nat} (hi : i < c.t) (hn : n < 2 * c.k) : vNode c.t c.b c.i c.f c.k i n = ((1 + c.b + i * (2 * c.k) + n : Nat) : Int) := by
  unfold vNode
  rw [if_pos ⟨h.z, by omega, by omega, by omega⟩]
  simp

/-- Begin, and Make, of the document: what is written down, what is told, and what is wrong. -/
def kindOk (x : Cal) : Prop := 1 ≤ x.kind ∧ x.kind ≤ 4
instance (x : Cal) : Decidable (kindOk x) := inferInstanceAs (Decidable (_ ∧ _))
def beginS (c : Cf) (s : St) (i : Nat) (x : Cal) : St × Nat × Nat :=
  if at_ s.calls i = c.k then (s, 0, 2)
  else if x.kind = 1 ∧ at_ s.ins i = c.i then ({ s with calls := bump s.calls i }, 0, 3)
  else ({ s with calls := bump s.calls i, ins := if x.kind = 1 then bump s.ins i else s.ins, ops := s.ops ++ [(i * c.k + at_ s.calls i, x)] }, i * c.k + at_ s.calls i, 0)
def beginI (c : Cf) (s : St) (th : Int) (x : Cal) : St × Nat × Nat :=
  if th < 0 ∨ c.t ≤ th ∨ ¬ kindOk x then (s, 0, 1) else beginS c s th.toNat x
def makeS (c : Cf) (s : St) (i op : Nat) : St × Nat × Nat :=
  if at_ s.made i = 2 * c.k then (s, 0, 3)
  else ({ s with made := bump s.made i, nodes := s.nodes ++ [(1 + c.b + i * (2 * c.k) + at_ s.made i, op)] }, 1 + c.b + i * (2 * c.k) + at_ s.made i, 0)
def makeI (c : Cf) (s : St) (th op : Int) : St × Nat × Nat :=
  if th < 0 ∨ c.t ≤ th ∨ (lookI s.ops op).isNone then (s, 0, 1) else makeS c s th.toNat op.toNat

/-- The blocks that may be written. -/
def Wr (c : Cf) (a : Ad) : Nat → Prop := fun i => (a.bc ≤ i ∧ i < a.bc + c.ops) ∨ (a.bn ≤ i ∧ i < a.bn + c.nodes) ∨ (a.bw ≤ i ∧ i < a.bw + c.t)
theorem BookAt.wr_own {w : World} {c : Cf} {a : Ad} {s : St} (h : BookAt w c a s) : ∀ i, Wr c a i → Own a i := by
  have o1 := h.o1; have o2 := h.o2; have o3 := h.o3; have o4 := h.o4; have o5 := h.o5
  rintro i (h | h | h) <;> exact ⟨by omega, by omega⟩
theorem BookAt.wr_p {w : World} {c : Cf} {a : Ad} {s : St} (h : BookAt w c a s) : ¬ Wr c a a.p := by
  have o1 := h.o1; have o2 := h.o2; have o3 := h.o3; have o4 := h.o4; have o5 := h.o5
  rintro (h | h | h) <;> omega
theorem BookAt.wr_new {w : World} {c : Cf} {a : Ad} {s : St} (h : BookAt w c a s) {i : Nat} (hi : w.heap.size ≤ i) : ¬ Wr c a i := by
  have o1 := h.o1; have o2 := h.o2; have o3 := h.o3; have o4 := h.o4; have o5 := h.o5; have o6 := h.o6
  rintro (h | h | h) <;> omega
/-- What Begin and Make leave. -/
def Told (c : Cf) (a : Ad) (r : St × Nat × Nat) (w : World) (e : Ending) (w' : World) : Prop :=
  e = .returned (.tuple #[.int .i64 r.2.1, .int .i64 r.2.2]) ∧ But (Own a) w w' ∧ BookAt w' c a r.1

end Go.Proofs.YtjllemjmdbnkjaaGreat
