/- The world of a scene, of the program (corrielaw09.lay). -/
import Derived.Test.YtmokcgifknmchaaGreatMScene
import Derived.Test.YtmokcgifknmchaaGreatMWorld
namespace Go.Proofs.YtmokcgifknmchaaGreat
open Go.ChangeShapes Go.WideShapes Go.ChangeAt Go.RowKit
set_option maxRecDepth 100000
set_option linter.unusedVariables false
def Ow (d:Wd):Nat → Prop:=fun i => Own d.a i ∨ Mine d.p d.b i
def LaidAt (c:Cf) (ws:List Int) (n:Int) (s:St) (w:World) (e:Ending) (w':World):Prop :=
 ∃ d:Wd,e = .returned (.pointer (some ⟨d.x,0,none⟩)) ∧ Grown w w' ∧ WdAt w' c d ws n s ∧ ∀ i,Ow d i → w.heap.size ≤ i
theorem WdAt.ow_lt {w:World} {c:Cf} {d:Wd} {ws:List Int} {n:Int} {s:St} (h:WdAt w c d ws n s) {i:Nat} (hi:w.heap.size ≤ i):¬ Ow d i:=by
 rintro (h1 | h1)
 ·exact h.book.own hi h1
 ·exact h.new hi h1
theorem WdAt.ow_x {w:World} {c:Cf} {d:Wd} {ws:List Int} {n:Int} {s:St} (h:WdAt w c d ws n s):¬ Ow d d.x:=by
 rintro (h1 | h1)
 ·have:=h.o3;have:=h1.2;omega
 ·exact h.mine h1
theorem LyOk.a {c:Cf} {L:Ly} {k:Nat} (h:LyOk c L k) {x:It} (h0:0 ≤ x.word) (h1:x.word ≤ 18446744073709551615):Inv c (lyA c L x).s ∧ WOk (lyA c L x).ws ∧ 0 ≤ (lyA c L x).n ∧ (lyA c L x).n ≤ 3 * k + 1:=by
 have i0:=h.n0;have i1:=h.n1
 have b2:=cnt_le L.ws (wrdI c ((beginI c L.s 0 ⟨1,x.key,x.val,0⟩).2.1:Nat))
 exact ⟨h.inv.beginI _ _,h.wok.sw _ _ _ h0 h1,by simp only [lyA];omega,by simp only [lyA];omega⟩
theorem lyC_inv {c:Cf}:∀ (xs:List Cal) {s:St},Inv c s → Inv c (lyC c s xs)
 | [],s,h => h
 | x :: r,s,h => lyC_inv r (h.beginI 2 x)
end Go.Proofs.YtmokcgifknmchaaGreat
