/- Package take, pure: a delete, a step of it, and numbers that stay in bounds. -/
import Derived.Test.YtcogckjpmmjmbaaGreatQCGWkL
import Derived.Test.YtcogckjpmmjmbaaGreatQCLaid
import Derived.Test.YtcogckjpmmjmbaaGreatQCGMRoute
namespace Go.Proofs.YtcogckjpmmjmbaaGreat
open Go.ChangeShapes Go.WideShapes Go.ChangeAt Go.RowKit
set_option maxRecDepth 100000
set_option linter.unusedVariables false
structure Tk where
 op:Int
 own:Bool
 phase:Int
 want:Int
 wk:Wk
 done:Bool
 won:Bool
def Tk.l (x:Tk):List Value:=[.int .i64 x.op,.bool x.own,.int .i64 x.phase,.int .u64 x.want,.int .u64 x.wk.key,.int .i64 x.wk.mode,.int .i64 x.wk.phase,.int .i64 x.wk.pred,.int .i64 x.wk.curr,.int .u64 x.wk.next,.int .i64 x.wk.seen,.int .i64 x.wk.found,.bool x.wk.stop,.bool x.wk.done,.bool x.done,.bool x.won]
structure Kt where
 ws:List Int
 n:Int
 x:Tk
def keyT (s:St) (op:Int):Int:=((lookI s.ops op).getD Cal.zero).key
def askX (s:St) (x:Tk) (v:Int):Tk :=
 if v = 0 then { x with want:=v,wk:=newK (keyT s x.op) 2,phase:=1 }
 else if v = 1 then { x with want:=v,done:=true }
 else { x with want:=v,phase:=3 }
def askT (c:Cf) (s:St) (y:Kt):Kt:=⟨y.ws,y.n + cnt y.ws (wrdI c y.x.op),askX s y.x (rd y.ws (wrdI c y.x.op))⟩
def fndX (f:Int):Int:=if f = -1 then 1 else zNaming f 2
def wkdX (x:Tk) (z:Wk):Tk:=if z.done then (if x.phase = 1 then { x with wk:=z,want:=fndX z.found,phase:=2 } else { x with wk:=z,done:=true }) else { x with wk:=z }
def wlkT (c:Cf) (s:St) (y:Kt):Kt:=⟨(stepK c s ⟨y.ws,y.n,y.x.wk⟩).ws,(stepK c s ⟨y.ws,y.n,y.x.wk⟩).n,wkdX y.x (stepK c s ⟨y.ws,y.n,y.x.wk⟩).x⟩
def setT (c:Cf) (y:Kt):Kt:=⟨sw y.ws (wrdI c y.x.op) 0 y.x.want,y.n + cnt y.ws (wrdI c y.x.op),{ y.x with phase:=0 }⟩
def outT (c:Cf) (y:Kt):Kt:=⟨sw y.ws (wrdI c (zNamed y.x.want 2)) 1 (zNaming y.x.op 3),y.n + cnt y.ws (wrdI c (zNamed y.x.want 2)),{ y.x with phase:=4 }⟩
def whoX (s:St) (x:Tk) (v:Int):Tk :=
 if zNamed v 3 = x.op then (if x.own then { x with won:=true,wk:=newK (keyT s x.op) 3,phase:=5 } else { x with won:=true,done:=true })
 else { x with won:=false,done:=true }
def whoT (c:Cf) (s:St) (y:Kt):Kt:=⟨y.ws,y.n + cnt y.ws (wrdI c (zNamed y.x.want 2)),whoX s y.x (rd y.ws (wrdI c (zNamed y.x.want 2)))⟩
def stepT (c:Cf) (s:St) (y:Kt):Kt :=
 if y.x.done then y else
 if y.x.phase = 0 then askT c s y else
 if y.x.phase = 1 ∨ y.x.phase = 5 then wlkT c s y else
 if y.x.phase = 2 then setT c y else
 if y.x.phase = 3 then outT c y else
 if y.x.phase = 4 then whoT c s y else
 { y with x:={ y.x with done:=true } }
def runT (c:Cf) (s:St) (y:Kt):Nat → Kt
 | 0 => y
 | k + 1 => stepT c s (runT c s y k)
theorem zNaming_le (n k:Int) (k0:0 ≤ k) (k1:k ≤ 3):0 ≤ zNaming n k ∧ zNaming n k ≤ 18446744073709551615:=by
 unfold zNaming
 split <;> constructor <;> omega
def NdOk (c:Cf) (s:St):Prop:=∀ x ∈ s.nodes,x.2 < c.ops
theorem NdOk.at_ {c:Cf} {s:St} (h:NdOk c s) (a:Int):-1 ≤ opAt s a ∧ opAt s a < c.ops:=by
 unfold opAt
 rcases hl:lookI s.nodes a with _ | x
 ·simp only [carriedOf];omega
 ·have hx:x < c.ops:=by
   unfold lookI at hl
   split at hl
   ·cases hl
   ·exact h _ (look_mem hl)
  simp only [carriedOf]
  omega
theorem NdOk.begin_ {c:Cf} {s:St} (h:NdOk c s) (th:Int) (x:Cal):NdOk c (beginI c s th x).1:=by
 unfold beginI
 split
 ·exact h
 ·unfold beginS
  repeat' split
  all_goals exact h
theorem Inv.opLt {c:Cf} {s:St} (h:Inv c s) {n:Nat} {x:Cal} (hl:look s.ops n = some x):n < c.ops:=by
 obtain ⟨i,m,h1,h2,h3⟩:=h.k1 _ (look_mem hl)
 have h4:=h.b1 i h1
 simp only at h3
 have h5:i * c.k + c.k ≤ c.t * c.k:=by
  have:=Nat.mul_le_mul_right c.k (show i + 1 ≤ c.t by omega)
  rw [Nat.add_mul,Nat.one_mul] at this
  exact this
 simp only [Cf.ops]
 omega
theorem NdOk.make {c:Cf} {s:St} (h:NdOk c s) (hI:Inv c s) (th op:Int):NdOk c (makeI c s th op).1:=by
 unfold makeI
 split
 ·exact h
 ·rename_i hn
  unfold makeS
  split
  ·exact h
  ·intro y hy
   simp only [List.mem_append,List.mem_singleton] at hy
   rcases hy with hy | hy
   ·exact h y hy
   ·subst hy
    simp only
    rcases hl:lookI s.ops op with _ | x
    ·exact absurd (by rw [hl];rfl) (fun e => hn (.inr (.inr e)))
    ·unfold lookI at hl
     split at hl
     ·cases hl
     ·exact hI.opLt hl
theorem arr_fnd (s:St) (x:Wk) (v:Int):(arrK s x v).found = x.found:=by unfold arrK;split <;> rfl
theorem step_fnd (c:Cf) (s:St) (y:Kd):(stepK c s y).x.found = y.x.found ∨ ∃ a,(stepK c s y).x.found = opAt s a:=by
 unfold stepK
 split
 ·exact .inl rfl
 split
 ·exact .inl (arr_fnd _ _ _)
 split
 ·exact .inl rfl
 split
 ·simp only [unlK]
  split
  ·exact .inl (arr_fnd _ _ _)
  ·exact .inl rfl
 split
 ·simp only [jdgK,judK]
  split
  ·exact .inl rfl
  split
  ·exact .inl (arr_fnd _ _ _)
  split
  ·split
   ·exact .inr ⟨_,rfl⟩
   ·exact .inl rfl
  split
  ·exact .inl (arr_fnd _ _ _)
  split
  ·split
   ·exact .inl rfl
   ·exact .inl (arr_fnd _ _ _)
  ·exact .inl rfl
 split
 ·exact .inl rfl
 split
 ·simp only [askK]
  split <;> exact .inl rfl
 split
 ·exact .inl rfl
 split <;> exact .inl rfl
structure TOk (c:Cf) (y:Kt) (m:Int):Prop where
 wok:∀ i:Int,0 ≤ rd y.ws i ∧ rd y.ws i ≤ 18446744073709551615
 ok:y.x.wk.Ok
 n0:0 ≤ y.n
 n1:y.n ≤ m
 w0:0 ≤ y.x.want
 w1:y.x.want ≤ 18446744073709551615
 f0:-1 ≤ y.x.wk.found
 f1:y.x.wk.found ≤ 9223372036854775807
theorem askX_ok {s:St} {x:Tk} {v:Int} (h:x.wk.Ok):(askX s x v).wk.Ok ∧ (askX s x v).want = v ∧ ((askX s x v).wk.found = -1 ∨ (askX s x v).wk.found = x.wk.found):=by
 unfold askX
 split
 ·exact ⟨newK_ok _ _,rfl,.inl rfl⟩
 ·split <;> exact ⟨h,rfl,.inr rfl⟩
theorem whoX_ok {s:St} {x:Tk} {v:Int} (h:x.wk.Ok):(whoX s x v).wk.Ok ∧ (whoX s x v).want = x.want ∧ ((whoX s x v).wk.found = -1 ∨ (whoX s x v).wk.found = x.wk.found):=by
 unfold whoX
 split
 ·split
  ·exact ⟨newK_ok _ _,rfl,.inl rfl⟩
  ·exact ⟨h,rfl,.inr rfl⟩
 ·exact ⟨h,rfl,.inr rfl⟩
theorem fndX_le (f:Int):0 ≤ fndX f ∧ fndX f ≤ 18446744073709551615:=by
 unfold fndX
 split
 ·constructor <;> omega
 ·exact zNaming_le _ _ (by omega) (by omega)
theorem wkdX_wk (x:Tk) (z:Wk):(wkdX x z).wk = z ∧ ((wkdX x z).want = x.want ∨ (wkdX x z).want = fndX z.found):=by
 unfold wkdX
 split
 ·split
  ·exact ⟨rfl,.inr rfl⟩
  ·exact ⟨rfl,.inl rfl⟩
 ·exact ⟨rfl,.inl rfl⟩
theorem TOk.step {c:Cf} (hc:c.ops ≤ 9999) {s:St} (hN:NdOk c s) {y:Kt} {m:Int} (h:TOk c y m):TOk c (stepT c s y) (m + 1):=by
 have n0:=h.n0;have n1:=h.n1;have w0:=h.w0;have w1:=h.w1;have f0:=h.f0;have f1:=h.f1
 unfold stepT
 split
 ·exact ⟨h.wok,h.ok,n0,by omega,w0,w1,f0,f1⟩
 split
 ·have hc:=cnt_le y.ws (wrdI c y.x.op)
  obtain ⟨a,b,e⟩:=askX_ok (s:=s) (x:=y.x) (v:=rd y.ws (wrdI c y.x.op)) h.ok
  have hr:=h.wok (wrdI c y.x.op)
  refine ⟨h.wok,a,by simp only [askT];omega,by simp only [askT];omega,by simp only [askT];rw [b];exact hr.1,by simp only [askT];rw [b];exact hr.2,?_,?_⟩ <;> simp only [askT] <;> rcases e with e | e <;> rw [e] <;> omega
 split
 ·have hk:=KOk.step (c:=c) (s:=s) (y:=⟨y.ws,y.n,y.x.wk⟩) (m:=m) ⟨h.wok,h.ok,n0,n1⟩
  obtain ⟨a,b⟩:=wkdX_wk y.x (stepK c s ⟨y.ws,y.n,y.x.wk⟩).x
  have e:=step_fnd c s ⟨y.ws,y.n,y.x.wk⟩
  refine ⟨hk.wok,by simp only [wlkT];rw [a];exact hk.ok,hk.n0,hk.n1,?_,?_,?_,?_⟩ <;> simp only [wlkT]
  ·rcases b with b | b <;> rw [b]
   ·exact w0
   ·exact (fndX_le _).1
  ·rcases b with b | b <;> rw [b]
   ·exact w1
   ·exact (fndX_le _).2
  ·rw [a]
   rcases e with e | ⟨z,e⟩ <;> rw [e]
   ·exact f0
   ·exact (hN.at_ z).1
  ·rw [a]
   rcases e with e | ⟨z,e⟩ <;> rw [e]
   ·exact f1
   ·have:=(hN.at_ z).2;omega
 split
 ·have hc:=cnt_le y.ws (wrdI c y.x.op)
  exact ⟨WOk.sw h.wok _ _ _ w0 w1,h.ok,by simp only [setT];omega,by simp only [setT];omega,w0,w1,f0,f1⟩
 split
 ·have hc:=cnt_le y.ws (wrdI c (zNamed y.x.want 2))
  have hz:=zNaming_le y.x.op 3 (by omega) (by omega)
  exact ⟨WOk.sw h.wok _ _ _ hz.1 hz.2,h.ok,by simp only [outT];omega,by simp only [outT];omega,w0,w1,f0,f1⟩
 split
 ·have hc:=cnt_le y.ws (wrdI c (zNamed y.x.want 2))
  obtain ⟨a,b,e⟩:=whoX_ok (s:=s) (x:=y.x) (v:=rd y.ws (wrdI c (zNamed y.x.want 2))) h.ok
  refine ⟨h.wok,a,by simp only [whoT];omega,by simp only [whoT];omega,by simp only [whoT];rw [b];exact w0,by simp only [whoT];rw [b];exact w1,?_,?_⟩ <;> simp only [whoT] <;> rcases e with e | e <;> rw [e] <;> omega
 ·exact ⟨h.wok,h.ok,n0,by simp only;omega,w0,w1,f0,f1⟩
theorem TOk.run {c:Cf} (hc:c.ops ≤ 9999) {s:St} (hN:NdOk c s) {y:Kt} {m:Int} (h:TOk c y m):∀ k:Nat,TOk c (runT c s y k) (m + k)
 | 0 => by simpa [runT] using h
 | k + 1 => by
  have:=(TOk.run hc hN h k).step hc hN
  rw [show m + (((k + 1:Nat)):Int) = m + k + 1 by omega]
  exact this
end Go.Proofs.YtcogckjpmmjmbaaGreat
