/- In a round: operations that call nobody, and whole structs stored and loaded. -/
import Derived.Test.YtagapfejgmmppaaGreatBox
import Derived.Test.YtagapfejgmmppaaGreatRow
namespace Go.Proofs.YtagapfejgmmppaaGreat
open Go.ChangeShapes Go.WideShapes Go.ChangeAt Go.RowKit
set_option maxRecDepth 100000
set_option linter.unusedVariables false

/-- Where a walk is to stop. -/
def Pause (p : Prop) : Prop := p
theorem pause {p : Prop} (h : Pause p) : p := h

section
variable {P : Program} {ops : Array Oper} {rest : List Oper} {op : Oper} {a : Act} {w : World} {Q : Exit → Act → World → Prop} {l₀ n : Nat}

theorem wpIn_of_wp {K : Act → World → Prop} (hnd : ∀ c, op.op ≠ .defer c) (h : op.wp P a w K Q) : op.wpIn (Fence.wide.inRound l₀) n P a w K Q := by
  refine ⟨fun _ _ => trivial, ?_⟩
  have hs : op.semAt (Fence.wide.inRound l₀).round a.eval = execOp a.eval op := Oper.semAt_eq _ _ _ hnd
  rw [hs]
  unfold Oper.wp at h
  generalize (execOp a.eval op).run P w = r at h
  cases r with
  | ok x w' =>
    cases x <;> simp only [Oper.upon] at h <;> simp only [Oper.uponIn]
    case value u => exact h
    case skip => exact h
    case defer d => exact h
    case enter f args => exact ⟨fun h => by simp [Fence.wide] at h, CallsIn.inRound l₀ (callsIn_wide.2 h)⟩
    case row row args =>
      refine ⟨fun h => by simp [Fence.wide] at h, ?_⟩
      intro fr cs _
      obtain ⟨v, w'', h1, h2⟩ := h fr cs
      exact ⟨v, w'', h1, stepsIn_wide.2 h2⟩
  | halt x w' =>
    cases x <;> simp only [Oper.upon] at h <;> simp only [Oper.uponIn]
    case panic u => exact h

theorem wpListIn_lift (hgd : op.guard = none) (hnd : ∀ c, op.op ≠ .defer c) (h : ∀ K : Act → World → Prop, (∀ a w, wpListIn (Fence.wide.inRound l₀) n P ops Q rest a w → K a w) → op.wp P a w K Q) :
    wpListIn (Fence.wide.inRound l₀) n P ops Q (op :: rest) a w := wpListIn_plain hgd fun K hK => wpIn_of_wp hnd (h K hK)

/-- THE STORE of a whole struct into a variable's block, in a round. -/
theorem store_boxIn (hgd : op.guard = none) (ty : TypeId) (x y : Operand) (ho : op.op = .store ty x y)
    (b : Nat) (l : List Value) (hB : Box w b l) (cells : Array Value) (hx : a.eval x = .pointer (some ⟨b, 0, none⟩)) (hy : a.eval y = .agg cells) (hl : cells.size = l.length)
    (hi : (P.info? ty).map (·.size) = some cells.size) (h1 : cells.toList.all (·.oneCell') = true)
    (h : ∀ w', Box w' b cells.toList → But (fun i => i = b) w w' → wpListIn (Fence.wide.inRound l₀) n P ops Q rest (a.put op.dst undef) w') : wpListIn (Fence.wide.inRound l₀) n P ops Q (op :: rest) a w :=
  wpListIn_lift hgd (fun c hc => by rw [ho] at hc; cases hc) fun K hK => wp_store_mid ty x y ho b 0 cells hx hy (by rw [hl]; exact hB.there) hi (by rw [← Array.all_toList]; exact h1)
    (hK _ _ (h _ (hB.all cells.toList (by simpa using hl)) (But.cells (S := fun i => i = b) (.inl rfl) _ _ (But.refl _ w))))

/-- THE LOAD of a whole struct, in a round. -/
theorem load_boxIn (hgd : op.guard = none) (ty : TypeId) (x : Operand) (ho : op.op = .load ty x)
    (b : Nat) (hx : a.eval x = .pointer (some ⟨b, 0, none⟩)) (l : List Value) (d : TypeDesc) (hu : P.underlying ty = some d) (hd : d.isRow = true) (hi : (P.info? ty).map (·.size) = some l.length) (hB : Box w b l)
    (h : wpListIn (Fence.wide.inRound l₀) n P ops Q rest (a.put op.dst (.agg l.toArray)) w) : wpListIn (Fence.wide.inRound l₀) n P ops Q (op :: rest) a w :=
  wpListIn_lift hgd (fun c hc => by rw [ho] at hc; cases hc) fun K hK => wp_load_mid ty x ho b 0 hx l d hB.range hu hd hi (hK _ _ h)
end
end Go.Proofs.YtagapfejgmmppaaGreat
