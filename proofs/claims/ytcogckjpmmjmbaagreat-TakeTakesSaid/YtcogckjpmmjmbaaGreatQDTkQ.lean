/- A delete that nobody disturbs: what its walk finds, where it ends, and that a sound world stays one. -/
import Derived.Test.YtcogckjpmmjmbaaGreatQDGPlH
import Derived.Test.YtcogckjpmmjmbaaGreatQDGWkCl
namespace Go.Proofs.YtcogckjpmmjmbaaGreat
set_option maxRecDepth 100000
set_option linter.unusedVariables false
theorem zNamed_of {a:Int} (h0:0 ≤ a) (h1:a ≤ 2147483647):zNaming a 2 = a + 2 ∧ zNamed (a + 2) 2 = a:=by
 unfold zNaming zNamed
 rw [if_pos ⟨h0,h1⟩,if_pos ⟨by omega,by omega⟩]
 exact ⟨rfl,by omega⟩
theorem zNamed_by {a:Int} (h0:0 ≤ a) (h1:a ≤ 2147483647):zNaming a 3 = a + 3 ∧ zNamed (a + 3) 3 = a:=by
 unfold zNaming zNamed
 rw [if_pos ⟨h0,h1⟩,if_pos ⟨by omega,by omega⟩]
 exact ⟨rfl,by omega⟩
theorem PB.walkM {c:Cf} {s:St} {ws l:List Int} (h:PB c s ws l) (n key mode:Int):WI c s key mode ⟨ws,n,newK key mode⟩ [] l :=
 ⟨h.lay,h.wok,h.b1,h.lk,h.nd,h.st,by intro a ha;simp only [List.mem_singleton] at ha;subst ha;exact h.hd,rfl,rfl,by simp,by simp,by intro q;exact absurd rfl q,by simp,.beg rfl rfl rfl⟩
theorem PB.muM (c:Cf) (s:St) (ws:List Int) (n key mode:Int) (l:List Int):Go.Proofs.YtcogckjpmmjmbaaGreat.mu c s ⟨ws,n,newK key mode⟩ l = 8 * l.length + 1:=by
 cases l with
 | nil => simp [Go.Proofs.YtcogckjpmmjmbaaGreat.mu,newK]
 | cons C r => simp [Go.Proofs.YtcogckjpmmjmbaaGreat.mu,newK]
theorem arr_found (s:St) (x:Wk) (v:Int):(arrK s x v).found = x.found:=by unfold arrK;split <;> rfl
theorem adv_found (s:St) (x:Wk):(advK s x).found = x.found:=arr_found _ _ _
def FndT (c:Cf) (s:St) (key:Int) (ws:List Int) (x:Wk) (l:List Int):Prop :=
 (x.found = -1 ∧ (x.stop = true → ∃ a ∈ l,keyOf_ s a = key ∧ wd c ws (opAt s a) = 0)) ∨ ∃ a ∈ l,x.found = opAt s a ∧ wd c ws (opAt s a) = 1 ∧ keyOf_ s a = key
theorem WI.seek {c:Cf} {s:St} {key:Int} {y:Kd} {pre rest:List Int} (h:WI c s key 2 y pre rest) (hd:y.x.done = false) (hf:y.x.found = -1) (hs:y.x.stop = false) :
  ((stepK c s y).x.found = -1 ∧ (stepK c s y).x.stop = false) ∨ (stepK c s y).ws = y.ws ∧ (stepK c s y).x.done = true ∧ (stepK c s y).x.stop = true ∧ FndT c s key y.ws (stepK c s y).x (pre ++ rest):=by
 obtain ⟨ws,n,x⟩:=y
 simp only at hd hf hs
 have hm2:=h.hm
 have hk2:=h.hk
 simp only at hm2 hk2
 cases h.pos with
 | fin h1 _ => simp only at h1;rw [hd] at h1;cases h1
 | beg _ h0 hp =>
  left
  rw [st_0 hd h0]
  simp only [begK]
  exact ⟨(arr_found _ _ _).trans hf,(arr_stop _ _ _).trans hs⟩
 | at_ C r _ hr hc hp hk ha =>
  subst hr
  cases ha with
  | peek h1 => left;rw [st_1 hd h1];exact ⟨hf,hs⟩
  | unl h2 hn hm =>
   left
   rw [st_2 hd h2]
   simp only [unlK]
   split
   ·exact ⟨(arr_found _ _ _).trans hf,(arr_stop _ _ _).trans hs⟩
   ·exact ⟨hf,hs⟩
  | mrk h4 hn hm ho => left;rw [st_4 hd h4];exact ⟨hf,hs⟩
  | ask h5 hn hm h1 => cases h1
  | let_ h5 hn hm h1 => cases h1
  | ref h5 hn hm h1 => cases h1
  | jdg h3 hn hm =>
   rw [st_3 hd h3]
   have hop:opK s x = opAt s C:=by rw [opK_at];exact congrArg _ hc
   have hv:rd ws (wrdI c (opK s x)) = wd c ws (opAt s C):=by rw [hop]
   simp only [jdgK]
   rw [hv]
   have hv0:0 ≤ wd c ws (opAt s C):=(h.wok (wrdI c (opAt s C))).1
   generalize hw:wd c ws (opAt s C) = v at *
   unfold judK
   by_cases c1:2 ≤ v
   ·rw [if_pos c1];exact .inl ⟨hf,hs⟩
   rw [if_neg c1]
   have hcx:x.curr = C:=hc
   rw [hcx,hk2]
   by_cases c2:keyOf_ s C ≠ key
   ·rw [if_pos c2];exact .inl ⟨(adv_found _ _).trans hf,(adv_stop _ _).trans hs⟩
   rw [if_neg c2,if_pos hm2]
   have c2':keyOf_ s C = key:=by simpa using c2
   right
   refine ⟨trivial,rfl,rfl,?_⟩
   unfold FndT
   by_cases c3:v = 1
   ·rw [if_pos c3]
    exact .inr ⟨C,by simp,hop,by rw [hw];exact c3,c2'⟩
   ·rw [if_neg c3]
    exact .inl ⟨hf,fun _ => ⟨C,by simp,c2',by rw [hw];omega⟩⟩
theorem Eff.other {c:Cf} {s:St} {key seen:Int} {ws ws':List Int} {pre rest pre' rest':List Int} (h:Eff c s key 2 seen ws ws' pre rest pre' rest') (hp:∀ a ∈ pre,keyOf_ s a ≠ key):∀ a ∈ pre',keyOf_ s a ≠ key:=by
 cases h with
 | same _ e _ => rw [e];exact hp
 | adv C r _ _ e _ _ _ h2 =>
  rw [e]
  intro a ha
  rcases List.mem_append.1 ha with ha | ha
  ·exact hp a ha
  ·rw [List.mem_singleton] at ha;rw [ha];exact h2 rfl
 | unl C r _ e => rw [e];exact hp
 | mrk C r _ e => rw [e];exact hp
 | let_ C r _ e => rw [e];exact hp
 | ref C r _ e => rw [e];exact hp
theorem Eff.wdAll {c:Cf} {s:St} {key mode seen:Int} {ws ws':List Int} {pre rest pre' rest':List Int} (h:Eff c s key mode seen ws ws' pre rest pre' rest') (hm:mode ≠ 1) (o:Int):wd c ws' o = wd c ws o:=by
 cases h with
 | same h _ _ => rw [h]
 | adv C r h => rw [h]
 | unl C r _ _ _ _ hw => exact hw o
 | mrk C r _ _ _ _ hw => exact hw o
 | let_ C r _ _ _ h1 => exact absurd h1 hm
 | ref C r _ _ _ h1 => exact absurd h1 hm
structure DC (c:Cf) (s:St) (op key:Int):Prop where
 ok:c.Ok
 o0:0 ≤ op
 on:op < c.ops
 ol:c.ops ≤ 9999
 kt:keyT s op = key
theorem PB.wdOf {c:Cf} {s:St} {ws l:List Int} (h:PB c s ws l) {op:Int} (o0:0 ≤ op) (on:op < c.ops) (o v:Int) (v0:0 ≤ v) (v1:v ≤ 18446744073709551615):PB c s (sw ws (wrdI c op) o v) l:=by
 have e:∀ a,nx c (sw ws (wrdI c op) o v) a = nx c ws a:=fun a => nx_sww h.lay o0 on o v a
 exact ⟨h.lay.sw _ _ _,rd_sw_ok h.wok _ _ _ v0 v1,h.b1,by rw [e];exact h.lk.congr (fun a _ => e a),h.nd,h.st,by rw [e];exact h.hd,h.up⟩
theorem PB.turn {c:Cf} {s:St} {ws l:List Int} (h:PB c s ws l) {op:Int} (o0:0 ≤ op) (on:op < c.ops) {o v:Int} (hv:2 ≤ v ∨ ∀ a ∈ l,opAt s a ≠ op) (hs:sndTo c ws s c.b = true) (v0:0 ≤ v) (v1:v ≤ 18446744073709551615):sndTo c (sw ws (wrdI c op) o v) s c.b = true:=by
 rw [h.sound] at hs
 rw [(h.wdOf o0 on o v v0 v1).sound]
 have hw:=fun b => wd_sw h.lay o0 on o v b
 have hn:∀ a,nx c (sw ws (wrdI c op) o v) a = nx c ws a:=fun a => nx_sww h.lay o0 on o v a
 refine sndL_rel (Rel.refl _ _ _) (fun x hx => ?_) (fun x hx => ?_) hs
 ·rcases hv with hv | hv
  ·rw [hw,hn]
   by_cases e:opAt s x = op ∧ wd c ws op = o
   ·rw [if_pos e];exact .inl hv
   ·rw [if_neg e];exact .inr (.inr ⟨rfl,rfl⟩)
  ·rw [hw,hn,if_neg (fun e => hv x hx e.1)]
   exact .inr (.inr ⟨rfl,rfl⟩)
 ·rcases hv with hv | hv
  ·rw [hw]
   by_cases e:opAt s x = op ∧ wd c ws op = o
   ·rw [if_pos e];intro q;omega
   ·rw [if_neg e];exact id
  ·rw [hw,if_neg (fun e => hv x hx e.1)]
   exact id
def Tgt (c:Cf) (s:St) (key:Int) (ws:List Int) (want:Int) (l:List Int):Prop:=∃ a ∈ l,want = opAt s a + 2 ∧ wd c ws (opAt s a) = 1 ∧ keyOf_ s a = key
inductive TI (c:Cf) (s:St) (op key:Int):Kt → List Int → Nat → Prop
 | ask0 {ws:List Int} {n want:Int} {own won:Bool} {wk:Wk} {l:List Int} (pb:PB c s ws l) (w:wd c ws op = 0) (nc:∀ a ∈ l,opAt s a ≠ op) :
   TI c s op key ⟨ws,n,⟨op,own,0,want,wk,false,won⟩⟩ l (16 * l.length + 10)
 | walk {ws:List Int} {n want:Int} {own won:Bool} {wk:Wk} {pre rest:List Int} (wi:WI c s key 2 ⟨ws,n,wk⟩ pre rest) (up:(pre ++ rest).Pairwise fun a b => keyOf_ s a ≤ keyOf_ s b) (np:∀ a ∈ pre,keyOf_ s a ≠ key)
   (wdn:wk.done = false) (wst:wk.stop = false) (wf:wk.found = -1) (w:wd c ws op = 0) (nc:∀ a ∈ pre ++ rest,opAt s a ≠ op) :
   TI c s op key ⟨ws,n,⟨op,own,1,want,wk,false,won⟩⟩ (pre ++ rest) (mu c s ⟨ws,n,wk⟩ rest + 8 * (pre ++ rest).length + 8)
 | settle {ws:List Int} {n want:Int} {own won:Bool} {wk:Wk} {l:List Int} (pb:PB c s ws l) (w:wd c ws op = 0) (nc:∀ a ∈ l,opAt s a ≠ op) (hw:want = 1 ∨ Tgt c s key ws want l) :
   TI c s op key ⟨ws,n,⟨op,own,2,want,wk,false,won⟩⟩ l (8 * l.length + 7)
 | ask1 {ws:List Int} {n want wt:Int} {own won:Bool} {wk:Wk} {l:List Int} (pb:PB c s ws l) (w:wd c ws op = wt) (nc:∀ a ∈ l,opAt s a ≠ op) (hw:wt = 1 ∨ Tgt c s key ws wt l) :
   TI c s op key ⟨ws,n,⟨op,own,0,want,wk,false,won⟩⟩ l (8 * l.length + 6)
 | out {ws:List Int} {n want:Int} {own won:Bool} {wk:Wk} {l:List Int} (pb:PB c s ws l) (hw:Tgt c s key ws want l) :
   TI c s op key ⟨ws,n,⟨op,own,3,want,wk,false,won⟩⟩ l (8 * l.length + 5)
 | who {ws:List Int} {n want:Int} {own won:Bool} {wk:Wk} {l:List Int} (pb:PB c s ws l) :
   TI c s op key ⟨ws,n,⟨op,own,4,want,wk,false,won⟩⟩ l (8 * l.length + 4)
 | clean {ws:List Int} {n want:Int} {own won:Bool} {wk:Wk} {pre rest:List Int} (wi:WI c s key 3 ⟨ws,n,wk⟩ pre rest) (up:(pre ++ rest).Pairwise fun a b => keyOf_ s a ≤ keyOf_ s b) (wdn:wk.done = false) :
   TI c s op key ⟨ws,n,⟨op,own,5,want,wk,false,won⟩⟩ (pre ++ rest) (mu c s ⟨ws,n,wk⟩ rest)
 | fin {y:Kt} {l:List Int} (dn:y.x.done = true) (pb:PB c s y.ws l):TI c s op key y l 0
theorem st_t1 (c:Cf) (s:St) (ws:List Int) (n op want:Int) (own won:Bool) (wk:Wk):stepT c s ⟨ws,n,⟨op,own,1,want,wk,false,won⟩⟩ =
  ⟨(stepK c s ⟨ws,n,wk⟩).ws,(stepK c s ⟨ws,n,wk⟩).n,if (stepK c s ⟨ws,n,wk⟩).x.done then ⟨op,own,2,fndX (stepK c s ⟨ws,n,wk⟩).x.found,(stepK c s ⟨ws,n,wk⟩).x,false,won⟩ else ⟨op,own,1,want,(stepK c s ⟨ws,n,wk⟩).x,false,won⟩⟩:=by
 simp [stepT,wlkT,wkdX]
theorem st_t5 (c:Cf) (s:St) (ws:List Int) (n op want:Int) (own won:Bool) (wk:Wk):stepT c s ⟨ws,n,⟨op,own,5,want,wk,false,won⟩⟩ =
  ⟨(stepK c s ⟨ws,n,wk⟩).ws,(stepK c s ⟨ws,n,wk⟩).n,if (stepK c s ⟨ws,n,wk⟩).x.done then ⟨op,own,5,want,(stepK c s ⟨ws,n,wk⟩).x,true,won⟩ else ⟨op,own,5,want,(stepK c s ⟨ws,n,wk⟩).x,false,won⟩⟩:=by
 simp [stepT,wlkT,wkdX]
def TNext (c:Cf) (s:St) (op key:Int) (y:Kt) (b:Nat):Prop :=
 ∃ l' b',TI c s op key (stepT c s y) l' b' ∧ b' < b ∧ (sndTo c y.ws s c.b = true → sndTo c (stepT c s y).ws s c.b = true)
theorem TI.s_ask0 {c:Cf} {s:St} {op key:Int} (D:DC c s op key) {ws:List Int} {n want:Int} {own won:Bool} {wk:Wk} {l:List Int} (pb:PB c s ws l) (w:wd c ws op = 0) (nc:∀ a ∈ l,opAt s a ≠ op) :
  TNext c s op key ⟨ws,n,⟨op,own,0,want,wk,false,won⟩⟩ (16 * l.length + 10):=by
 have e:stepT c s ⟨ws,n,⟨op,own,0,want,wk,false,won⟩⟩ = ⟨ws,n + cnt ws (wrdI c op),⟨op,own,1,0,newK key 2,false,won⟩⟩:=by
  have hw:rd ws (wrdI c op) = 0:=w
  simp [stepT,askT,askX,hw,D.kt]
 unfold TNext
 rw [e]
 refine ⟨_,_,.walk (pre:=[]) (rest:=l) (pb.walkM _ _ _) (by simpa using pb.up) (by simp) rfl rfl rfl w (by simpa using nc),?_,id⟩
 rw [PB.muM]
 simp only [List.nil_append]
 omega
theorem TI.s_walk {c:Cf} {s:St} {op key:Int} (D:DC c s op key) {ws:List Int} {n want:Int} {own won:Bool} {wk:Wk} {pre rest:List Int} (wi:WI c s key 2 ⟨ws,n,wk⟩ pre rest) (up:(pre ++ rest).Pairwise fun a b => keyOf_ s a ≤ keyOf_ s b) (np:∀ a ∈ pre,keyOf_ s a ≠ key)
  (wdn:wk.done = false) (wst:wk.stop = false) (wf:wk.found = -1) (w:wd c ws op = 0) (nc:∀ a ∈ pre ++ rest,opAt s a ≠ op) :
  TNext c s op key ⟨ws,n,⟨op,own,1,want,wk,false,won⟩⟩ (mu c s ⟨ws,n,wk⟩ rest + 8 * (pre ++ rest).length + 8):=by
 obtain ⟨pre',rest',wi',hmu,-,ef⟩:=wi.step wdn
 have hsk:=wi.seek wdn wf wst
 have hsn:=fun q => ef.sndTo (y:=⟨ws,n,wk⟩) (y':=stepK c s ⟨ws,n,wk⟩) wi wi' up q
 have hw':=ef.wdOp nc
 have hnp:=ef.other np
 have hsub:=ef.sub
 have hch:=wi.chain
 have hch':=wi'.chain
 unfold TNext
 rw [st_t1]
 generalize stepK c s ⟨ws,n,wk⟩ = z at *
 obtain ⟨zws,zn,zx⟩:=z
 simp only at *
 have hlen:=hsub.length_le
 have hup':=up.sublist hsub
 have hnc:∀ a ∈ pre' ++ rest',opAt s a ≠ op:=fun a ha => nc a (hsub.subset ha)
 cases hd:zx.done with
 | true =>
  simp only [if_true]
  refine ⟨_,_,.settle (wi'.pb hup') (hw'.trans w) hnc ?_,by omega,hsn⟩
  rcases hsk with ⟨hf,-⟩ | ⟨he,-,-,hf⟩
  ·exact .inl (by unfold fndX;rw [if_pos hf])
  ·subst he
   rw [hch'] at hch
   rw [← hch] at hf
   rcases hf with ⟨hf,-⟩ | ⟨a,ha,hf,hw,hk⟩
   ·exact .inl (by unfold fndX;rw [if_pos hf])
   ·have hsc:=(wi'.pb hup').st a ha
    have ol:=D.ol
    refine .inr ⟨a,ha,?_,hw,hk⟩
    unfold fndX
    rw [hf,if_neg (by have:=hsc.o0;omega)]
    exact (zNamed_of hsc.o0 (by have:=hsc.on;omega)).1
 | false =>
  simp only [Bool.false_eq_true,if_false]
  rcases hsk with ⟨hf,hst⟩ | ⟨-,hd',-⟩
  ·exact ⟨_,_,.walk wi' hup' hnp hd hst hf (hw'.trans w) hnc,by omega,hsn⟩
  ·rw [hd] at hd';cases hd'
theorem TI.s_settle {c:Cf} {s:St} {op key:Int} (D:DC c s op key) {ws:List Int} {n want:Int} {own won:Bool} {wk:Wk} {l:List Int} (pb:PB c s ws l) (w:wd c ws op = 0) (nc:∀ a ∈ l,opAt s a ≠ op) (hw:want = 1 ∨ Tgt c s key ws want l) :
  TNext c s op key ⟨ws,n,⟨op,own,2,want,wk,false,won⟩⟩ (8 * l.length + 7):=by
 have e:stepT c s ⟨ws,n,⟨op,own,2,want,wk,false,won⟩⟩ = ⟨sw ws (wrdI c op) 0 want,n + cnt ws (wrdI c op),⟨op,own,0,want,wk,false,won⟩⟩:=by
  simp [stepT,setT]
 unfold TNext
 rw [e]
 have hb:0 ≤ want ∧ want ≤ 18446744073709551615:=by
  rcases hw with hw | ⟨a,ha,hw,-⟩
  ·omega
  ·have h:=pb.st a ha
   have:=h.o0;have:=h.on;have:=D.ol
   omega
 have hwd:=fun b => wd_sw pb.lay D.o0 D.on 0 want b
 refine ⟨_,_,.ask1 (wt:=want) (pb.wdOf D.o0 D.on _ _ hb.1 hb.2) (by rw [hwd,if_pos ⟨rfl,w⟩]) nc ?_,by omega,fun q => pb.turn D.o0 D.on (.inr nc) q hb.1 hb.2⟩
 rcases hw with hw | ⟨a,ha,hw,h1,hk⟩
 ·exact .inl hw
 ·exact .inr ⟨a,ha,hw,by rw [hwd,if_neg (fun e => nc a ha e.1)];exact h1,hk⟩
theorem TI.s_ask1 {c:Cf} {s:St} {op key:Int} (D:DC c s op key) {ws:List Int} {n want wt:Int} {own won:Bool} {wk:Wk} {l:List Int} (pb:PB c s ws l) (w:wd c ws op = wt) (nc:∀ a ∈ l,opAt s a ≠ op) (hw:wt = 1 ∨ Tgt c s key ws wt l) :
  TNext c s op key ⟨ws,n,⟨op,own,0,want,wk,false,won⟩⟩ (8 * l.length + 6):=by
 have hr:rd ws (wrdI c op) = wt:=w
 unfold TNext
 rcases hw with hw | hw
 ·have e:stepT c s ⟨ws,n,⟨op,own,0,want,wk,false,won⟩⟩ = ⟨ws,n + cnt ws (wrdI c op),⟨op,own,0,1,wk,true,won⟩⟩:=by
   simp [stepT,askT,askX,hr,hw]
  rw [e]
  exact ⟨_,_,.fin rfl pb,by omega,id⟩
 ·have h2:2 ≤ wt:=by
   obtain ⟨a,ha,hw,-⟩:=hw
   have:=(pb.st a ha).o0
   omega
  have e:stepT c s ⟨ws,n,⟨op,own,0,want,wk,false,won⟩⟩ = ⟨ws,n + cnt ws (wrdI c op),⟨op,own,3,wt,wk,false,won⟩⟩:=by
   have h3:¬ wt = 0:=by omega
   have h4:¬ wt = 1:=by omega
   simp [stepT,askT,askX,hr,h3,h4]
  rw [e]
  exact ⟨_,_,.out pb hw,by omega,id⟩
theorem TI.s_out {c:Cf} {s:St} {op key:Int} (D:DC c s op key) {ws:List Int} {n want:Int} {own won:Bool} {wk:Wk} {l:List Int} (pb:PB c s ws l) (hw:Tgt c s key ws want l) :
  TNext c s op key ⟨ws,n,⟨op,own,3,want,wk,false,won⟩⟩ (8 * l.length + 5):=by
 obtain ⟨a,ha,hw,h1,hk⟩:=hw
 have hsc:=pb.st a ha
 have ol:=D.ol
 have d0:=D.o0
 have dn:=D.on
 have hz:=(zNamed_of hsc.o0 (by have:=hsc.on;omega)).2
 have hy:=(zNamed_by D.o0 (by omega)).1
 have e:stepT c s ⟨ws,n,⟨op,own,3,want,wk,false,won⟩⟩ = ⟨sw ws (wrdI c (opAt s a)) 1 (op + 3),n + cnt ws (wrdI c (opAt s a)),⟨op,own,4,want,wk,false,won⟩⟩:=by
  simp [stepT,outT,hw,hz,hy]
 unfold TNext
 rw [e]
 exact ⟨_,_,.who (pb.wdOf hsc.o0 hsc.on _ _ (by omega) (by omega)),by omega,fun q => pb.turn hsc.o0 hsc.on (.inl (by omega)) q (by omega) (by omega)⟩
theorem TI.s_who {c:Cf} {s:St} {op key:Int} (D:DC c s op key) {ws:List Int} {n want:Int} {own won:Bool} {wk:Wk} {l:List Int} (pb:PB c s ws l) :
  TNext c s op key ⟨ws,n,⟨op,own,4,want,wk,false,won⟩⟩ (8 * l.length + 4):=by
 have e:stepT c s ⟨ws,n,⟨op,own,4,want,wk,false,won⟩⟩ = ⟨ws,n + cnt ws (wrdI c (zNamed want 2)),whoX s ⟨op,own,4,want,wk,false,won⟩ (rd ws (wrdI c (zNamed want 2)))⟩:=by
  simp [stepT,whoT]
 unfold TNext
 rw [e]
 unfold whoX
 split
 ·cases own
  ·exact ⟨_,_,.fin rfl pb,by omega,id⟩
  ·simp only [D.kt,if_true]
   refine ⟨_,_,.clean (pre:=[]) (rest:=l) (pb.walkM _ _ _) (by simpa using pb.up) rfl,?_,id⟩
   rw [PB.muM]
   omega
 ·exact ⟨_,_,.fin rfl pb,by omega,id⟩
theorem TI.s_clean {c:Cf} {s:St} {op key:Int} {ws:List Int} {n want:Int} {own won:Bool} {wk:Wk} {pre rest:List Int} (wi:WI c s key 3 ⟨ws,n,wk⟩ pre rest) (up:(pre ++ rest).Pairwise fun a b => keyOf_ s a ≤ keyOf_ s b) (wdn:wk.done = false) :
  TNext c s op key ⟨ws,n,⟨op,own,5,want,wk,false,won⟩⟩ (mu c s ⟨ws,n,wk⟩ rest):=by
 obtain ⟨pre',rest',wi',hmu,-,ef⟩:=wi.step wdn
 have hsn:=fun q => ef.sndTo (y:=⟨ws,n,wk⟩) (y':=stepK c s ⟨ws,n,wk⟩) wi wi' up q
 have hsub:=ef.sub
 unfold TNext
 rw [st_t5]
 generalize stepK c s ⟨ws,n,wk⟩ = z at *
 obtain ⟨zws,zn,zx⟩:=z
 simp only at *
 have hup':=up.sublist hsub
 cases hd:zx.done with
 | true =>
  simp only [if_true]
  exact ⟨_,_,.fin rfl (wi'.pb hup'),by omega,hsn⟩
 | false =>
  simp only [Bool.false_eq_true,if_false]
  exact ⟨_,_,.clean wi' hup' hd,hmu,hsn⟩
theorem TI.step {c:Cf} {s:St} {op key:Int} (D:DC c s op key) {y:Kt} {l:List Int} {b:Nat} (h:TI c s op key y l b) (hd:y.x.done = false):TNext c s op key y b:=by
 cases h with
 | ask0 pb w nc => exact TI.s_ask0 D pb w nc
 | walk wi up np wdn wst wf w nc => exact TI.s_walk D wi up np wdn wst wf w nc
 | settle pb w nc hw => exact TI.s_settle D pb w nc hw
 | ask1 pb w nc hw => exact TI.s_ask1 D pb w nc hw
 | out pb hw => exact TI.s_out D pb hw
 | who pb => exact TI.s_who D pb
 | clean wi up wdn => exact TI.s_clean wi up wdn
 | fin dn pb => rw [hd] at dn;cases dn
theorem stepT_done {c:Cf} {s:St} {y:Kt} (hd:y.x.done = true):stepT c s y = y:=by unfold stepT;rw [if_pos hd]
theorem TI.run {c:Cf} {s:St} {op key:Int} (D:DC c s op key) {y:Kt} {l:List Int} {b:Nat} (h:TI c s op key y l b):∀ k,∃ l' b',TI c s op key (runT c s y k) l' b' ∧ (b' ≤ b - k ∨ (runT c s y k).x.done = true) ∧ (sndTo c y.ws s c.b = true → sndTo c (runT c s y k).ws s c.b = true)
 | 0 => ⟨l,b,h,.inl (Nat.le_refl _),id⟩
 | k + 1 => by
  obtain ⟨l1,b1,h1,h2,h3⟩:=TI.run D h k
  cases hd:(runT c s y k).x.done with
  | true =>
   have e:runT c s y (k + 1) = runT c s y k:=stepT_done hd
   rw [e]
   exact ⟨l1,b1,h1,.inr hd,h3⟩
  | false =>
   obtain ⟨l2,b2,g1,g2,g3⟩:=h1.step D hd
   refine ⟨l2,b2,g1,.inl ?_,fun q => g3 (h3 q)⟩
   rcases h2 with h2 | h2
   ·omega
   ·rw [hd] at h2;cases h2
theorem TI.ends {c:Cf} {s:St} {op key:Int} (D:DC c s op key) {y:Kt} {l:List Int} {b:Nat} (h:TI c s op key y l b) {k:Nat} (hk:b < k):(runT c s y k).x.done = true:=by
 obtain ⟨l',b',h1,h2,-⟩:=h.run D (k - 1)
 have e:runT c s y k = stepT c s (runT c s y (k - 1)):=by
  obtain ⟨j,rfl⟩:∃ j,k = j + 1:=⟨k - 1,by omega⟩
  rfl
 cases hd:(runT c s y (k - 1)).x.done with
 | true => rw [e,stepT_done hd];exact hd
 | false =>
  rcases h2 with h2 | h2
  ·obtain ⟨l2,b2,g1,g2,-⟩:=h1.step D hd
   omega
  ·rw [hd] at h2;cases h2
end Go.Proofs.YtcogckjpmmjmbaaGreat
