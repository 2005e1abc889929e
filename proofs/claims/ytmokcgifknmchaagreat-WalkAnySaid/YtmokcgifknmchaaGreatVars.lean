/- Two variables; a struct that is loaded under a guard. -/
import Derived.Test.YtmokcgifknmchaaGreatQBox
namespace Go.Proofs.YtmokcgifknmchaaGreat
open Go.ChangeShapes Go.WideShapes Go.ChangeAt Go.RowKit
set_option maxRecDepth 100000
set_option linter.unusedVariables false
theorem vars2 (w:World) (l1 l2:List Value) (t1 t2:TypeId):∃ u,(w.alloc (.cells l1.toArray t1)).alloc (.cells l2.toArray t2) = u ∧ Grown w u ∧ Box u w.heap.size l1 ∧ Box u (w.heap.size + 1) l2:=by
 have g1:Grown w (w.alloc (.cells l1.toArray t1)):=by go_grown
 have g2:Grown (w.alloc (.cells l1.toArray t1)) ((w.alloc (.cells l1.toArray t1)).alloc (.cells l2.toArray t2)):=by go_grown
 have e1:(w.alloc (.cells l1.toArray t1)).heap.size = w.heap.size + 1:=by simp
 refine ⟨_,rfl,gtr g1 g2,(Box.made w l1 t1).grown g2,?_⟩
 have:=Box.made (w.alloc (.cells l1.toArray t1)) l2 t2
 rwa [e1] at this
theorem wpQuiet_load_boxg {P:Program} {ops:Array Oper} {C:World → Prop} {Q:Act → Prop} {rest:List Oper} {op:Oper} {a:Act} (hgd:Region.wanted op (yielded ops a.tmps) = true) (ty:TypeId) (x:Operand) (ho:op.op = .load ty x)
  (b:Nat) (hx:a.eval x = .pointer (some ⟨b,0,none⟩)) (l:List Value) (d:TypeDesc) (hu:P.underlying ty = some d) (hd:d.isRow = true) (hi:(P.info? ty).map (·.size) = some l.length) (hB:∀ w,C w → Box w b l)
  (h:wpQuiet P ops C Q rest (a.put op.dst (.agg l.toArray))):wpQuiet P ops C Q (op :: rest) a :=
 Go.BigFrame.wpQuiet_want hgd fun K hK => ⟨_,fun w hw => by
  unfold Oper.quietAt execOp
  simp only [ho,hx,Instr.loadAt,Instr.sureAddr,Sem.run_bind,Sem.run_pure,Result.andThen_ok,run_loadVar_mid w b 0 ty l d (hB w hw).range hu hd hi]
  exact ⟨rfl,rfl⟩,hK _ h⟩
end Go.Proofs.YtmokcgifknmchaaGreat
