/- Walks in laws: their numbers stay in bounds; awake (corrielaw10). -/
import Derived.Test.YtcogckjpmmjmbaaGreatQDWkQ
import Derived.Test.YtcogckjpmmjmbaaGreatQDMSound
import Derived.Test.YtcogckjpmmjmbaaGreatQDGLaid
namespace Go.Proofs.YtcogckjpmmjmbaaGreat
open Go.ChangeShapes Go.WideShapes Go.ChangeAt Go.RowKit
set_option maxRecDepth 100000
set_option linter.unusedVariables false
structure KOk (y:Kd) (m:Int):Prop where
 wok:∀ i:Int,0 ≤ rd y.ws i ∧ rd y.ws i ≤ 18446744073709551615
 ok:y.x.Ok
 n0:0 ≤ y.n
 n1:y.n ≤ m
theorem arr_ok (s:St) {x:Wk} {v:Int} (h:x.Ok) (h0:0 ≤ v) (h1:v ≤ 9223372036854775807):(arrK s x v).Ok:=by
 unfold arrK
 split
 ·exact ⟨by simp only;omega,by simp only;omega,h.b0,h.b1⟩
 ·exact ⟨by simp only;omega,by simp only;omega,h.b0,h.b1⟩
theorem adv_ok (s:St) {x:Wk} (h:x.Ok):(advK s x).Ok:=by
 have h0:=h.b0;have h1:=h.b1
 exact arr_ok s (x:={ x with pred:=x.curr }) ⟨h.u0,h.u1,h.b0,h.b1⟩ (by omega) (by omega)
theorem KOk.step {c:Cf} {s:St} {y:Kd} {m:Int} (h:KOk y m):KOk (stepK c s y) (m + 1):=by
 obtain ⟨ws,n,x⟩:=y
 have w:=h.wok
 have ok:=h.ok
 have n0:=h.n0
 have n1:=h.n1
 simp only at w ok n0 n1
 have cn:∀ i,0 ≤ n + cnt ws i ∧ n + cnt ws i ≤ m + 1:=fun i => by have:=cnt_le ws i;omega
 have zb:=zPack_le
 unfold stepK
 simp only
 split
 ·exact ⟨w,ok,n0,by simp only;omega⟩
 split
 ·have hr:=w (nxtI c (headI c x.key))
  exact ⟨w,arr_ok s ⟨ok.u0,ok.u1,ok.b0,ok.b1⟩ (by dsimp only;omega) (by dsimp only;omega),(cn _).1,(cn _).2⟩
 split
 ·have hr:=w (nxtI c x.curr)
  exact ⟨w,⟨ok.u0,ok.u1,hr.1,hr.2⟩,(cn _).1,(cn _).2⟩
 split
 ·refine ⟨WOk.sw w _ _ _ (zb _ _).1 (zb _ _).2,?_,(cn _).1,(cn _).2⟩
  have h0:=ok.b0;have h1:=ok.b1
  simp only [unlK]
  split
  ·exact arr_ok s ok (by omega) (by omega)
  ·exact ⟨ok.u0,ok.u1,ok.b0,ok.b1⟩
 split
 ·refine ⟨w,?_,(cn _).1,(cn _).2⟩
  simp only [jdgK]
  unfold judK
  repeat' split
  all_goals first | exact adv_ok s ok | exact adv_ok s (x:={ x with seen:=opK s x }) ⟨ok.u0,ok.u1,ok.b0,ok.b1⟩ | exact ⟨ok.u0,ok.u1,ok.b0,ok.b1⟩
 split
 ·have h0:=ok.b0;have h1:=ok.b1
  exact ⟨WOk.sw w _ _ _ (by dsimp only;omega) (by dsimp only;omega),⟨ok.u0,ok.u1,ok.b0,ok.b1⟩,(cn _).1,(cn _).2⟩
 split
 ·refine ⟨w,?_,(cn _).1,(cn _).2⟩
  simp only [askK]
  split <;> exact ⟨ok.u0,ok.u1,ok.b0,ok.b1⟩
 split
 ·exact ⟨WOk.sw w _ _ _ (by omega) (by omega),⟨ok.u0,ok.u1,ok.b0,ok.b1⟩,(cn _).1,(cn _).2⟩
 split
 ·exact ⟨WOk.sw w _ _ _ (by omega) (by omega),⟨ok.u0,ok.u1,ok.b0,ok.b1⟩,(cn _).1,(cn _).2⟩
 ·exact ⟨w,⟨ok.u0,ok.u1,ok.b0,ok.b1⟩,n0,by simp only;omega⟩
theorem KOk.run {c:Cf} {s:St} {y:Kd} {m:Int} (h:KOk y m):∀ k:Nat,KOk (runK c s y k) (m + k)
 | 0 => by simpa [runK] using h
 | k + 1 => by
  have:=(KOk.run (c:=c) (s:=s) h k).step (c:=c) (s:=s)
  rw [show m + (((k + 1:Nat)):Int) = m + k + 1 by omega]
  exact this
theorem newK_ok (key mode:Int):(newK key mode).Ok:=⟨by simp [newK],by simp [newK],by simp [newK],by simp [newK]⟩
theorem WkAt.new {w w':World} {c:Cf} {d:Wd} {s:St} {ws:List Int} {n:Int} {x:Wk} {T:Nat} (h:WdAt w c d ws n s) (g:Grown w w') (hB:Box w' T x.l) (hT:w.heap.size ≤ T):WkAt w' c d s T ⟨ws,n,x⟩ :=
 ⟨h.grown g,hB,h.new hT,fun e => by have:=h.xlt;omega⟩
end Go.Proofs.YtcogckjpmmjmbaaGreat
