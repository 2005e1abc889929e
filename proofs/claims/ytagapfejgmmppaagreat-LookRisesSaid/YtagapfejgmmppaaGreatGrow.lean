/- Small laws about worlds that grow, over any program: of a world that has grown all that was there reads as before; and a statement whose order Go leaves open, all of whose operations read what was there or call functions that make memory alone, does the same in every order. -/
import Derived.Test.YtagapfejgmmppaaGreatRows
import Derived.Handy
import Derived.Lib.Hide
import Derived.BigQuiet
import Derived.Deep.RegionHeld3
namespace Go.Proofs.YtagapfejgmmppaaGreat
open Go.ChangeShapes Go.WideShapes Go.ChangeAt Go.RowKit
set_option maxRecDepth 100000
theorem gtr {a b c : World} (h : Grown a b) (k : Grown b c) : Grown a c :=
  ⟨World.keptBut_trans h.1 (World.keptBut_mono (fun _ f => f) k.1), fun x => (k.2.1 x).trans (h.2.1 x), Nat.le_trans h.2.2 k.2.2⟩
theorem gcell {a b : World} (h : Grown a b) {i o : Nat} {v : Value} (k : a.cell? ⟨i, o, none⟩ = some v) : b.cell? ⟨i, o, none⟩ = some v := by
  rw [h.1.cell (World.block_lt_of_cell? a _ k) (fun f => f)]; exact k

/-- A world that has grown out of W. -/
structure GrW (W : World) : Type where
  w : World
  gr : Grown W w
instance (W : World) : Nonempty (GrW W) := ⟨⟨W, Grown.refl W⟩⟩
theorem GrW.cell {W : World} {i o : Nat} {v : Value} (k : W.cell? ⟨i, o, none⟩ = some v) (g : GrW W) : g.w.cell? ⟨i, o, none⟩ = some v := gcell g.gr k
theorem GrW.frozen {W : World} {a : Addr} {b : Bool} (k : W.frozen? a = b) (g : GrW W) : g.w.frozen? a = b := (g.gr.2.1 a).trans k

/-- A callee's contract, met in a world that has grown out of W. -/
theorem grcall {P : Program} {f : FuncId} {args : Array Value} {W : World} {g : GrW W} {v : Value}
    (h : Calls P f args g.w fun e w' => e = .returned v ∧ Grown g.w w') : Calls P f args g.w fun e w'' => e = .returned v ∧ ∃ k : GrW W, w'' = k.w :=
  h.mono fun _ w' ⟨he, hm⟩ => ⟨he, ⟨w', gtr g.gr hm⟩, rfl⟩

/-- A region that draws its order, AT THE CLASS 'worlds that have grown out of w'. -/
theorem wp_region_grow {P : Program} {id : Nat} {Q : Exit → Act → World → Prop} {a : Act} {w : World} {l : List Oper} (hm : P.follows .mixedOrders = true) (hB : Region.lexB .any l.toArray = true)
    (h : wpQuiet P l.toArray (fun w' => ∃ g : GrW w, w' = g.w) (fun a' => ∀ w', (∃ g : GrW w, w' = g.w) → Q .normal a' w') l a) : (Code.region id l.toArray true).wp P Q a w :=
  wp_region_quiet (C := fun w' => ∃ g : GrW w, w' = g.w) hm hB ⟨⟨w.drew, (Grown.refl w).drew⟩, rfl⟩ (by simpa using h)

theorem ret_int {k : IntKind} {a b : Int} (h : a = b) : Ending.returned (.int k a) = Ending.returned (.int k b) := by rw [h]
theorem ret_bool {a b : Bool} (h : a = b) : Ending.returned (.bool a) = Ending.returned (.bool b) := by rw [h]
theorem mkFunc (fn : Fn) (first cap : Array Value) (w : World) : (Instr.makeFunc fn first cap).run Tryz.prog w = .ok (.func fn first cap) w := rfl
end Go.Proofs.YtagapfejgmmppaaGreat
