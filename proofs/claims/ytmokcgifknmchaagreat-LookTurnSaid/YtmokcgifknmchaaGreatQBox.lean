/- A whole struct that a region which draws its order loads: by its block's cells. -/
import Derived.Test.YtmokcgifknmchaaGreatMWRef
import Derived.Test.YtmokcgifknmchaaGreatMBase
import Derived.BigQuiet
namespace Go.Proofs.YtmokcgifknmchaaGreat
open Go.ChangeShapes Go.WideShapes Go.ChangeAt Go.RowKit
set_option maxRecDepth 100000
set_option linter.unusedVariables false
theorem wpQuiet_load_box {P:Program} {ops:Array Oper} {C:World → Prop} {Q:Act → Prop} {rest:List Oper} {op:Oper} {a:Act} (hgd:op.guard = none) (ty:TypeId) (x:Operand) (ho:op.op = .load ty x)
  (b:Nat) (hx:a.eval x = .pointer (some ⟨b,0,none⟩)) (l:List Value) (d:TypeDesc) (hu:P.underlying ty = some d) (hd:d.isRow = true) (hi:(P.info? ty).map (·.size) = some l.length) (hB:∀ w,C w → Box w b l)
  (h:wpQuiet P ops C Q rest (a.put op.dst (.agg l.toArray))):wpQuiet P ops C Q (op :: rest) a :=
 Go.BigFrame.wpQuiet_want (by unfold Region.wanted;rw [hgd]) fun K hK => ⟨_,fun w hw => by
  unfold Oper.quietAt execOp
  simp only [ho,hx,Instr.loadAt,Instr.sureAddr,Sem.run_bind,Sem.run_pure,Result.andThen_ok,run_loadVar_mid w b 0 ty l d (hB w hw).range hu hd hi]
  exact ⟨rfl,rfl⟩,hK _ h⟩
theorem Box.butw {S:Nat → Prop} {w0:World} {b:Nat} {l:List Value} (h:Box w0 b l) (hs:¬ S b):∀ w,(∃ g:ButW S w0,w = g.w) → Box w b l:=by
 rintro _ ⟨g,rfl⟩
 exact h.but g.gr hs
theorem Box.grw {w0:World} {b:Nat} {l:List Value} (h:Box w0 b l):∀ w,(∃ g:GrW w0,w = g.w) → Box w b l:=by
 rintro _ ⟨g,rfl⟩
 exact h.grown g.gr
end Go.Proofs.YtmokcgifknmchaaGreat
