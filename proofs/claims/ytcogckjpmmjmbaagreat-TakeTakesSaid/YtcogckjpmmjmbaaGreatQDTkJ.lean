/- A delete that nobody disturbs, in a sound world, step by step: the pairs. -/
import Derived.Test.YtcogckjpmmjmbaaGreatQDTkT
namespace Go.Proofs.YtcogckjpmmjmbaaGreat
set_option maxRecDepth 100000
set_option linter.unusedVariables false
def NoK (key:Int) (was:List (Int × Int)):Prop:=∀ p ∈ was,p.1 ≠ key
def HasK (key:Int) (was:List (Int × Int)):Prop:=∃ p ∈ was,p.1 = key
def Chc (c:Cf) (s:St) (key:Int) (was:List (Int × Int)) (ws:List Int) (want:Int) (l:List Int):Prop:=(want = 1 ∧ NoK key was) ∨ (Tgt c s key ws want l ∧ HasK key was)
def Tkn (c:Cf) (s:St) (op key:Int) (was:List (Int × Int)) (ws:List Int) (want:Int) (l:List Int):Prop :=
 ∃ t:Int,0 ≤ t ∧ t < c.ops ∧ want = t + 2 ∧ wd c ws t = op + 3 ∧ wd c ws op = want ∧ HasK key was ∧ prsL c ws s l = woK key was
def EndT (c:Cf) (s:St) (op key:Int) (was:List (Int × Int)) (ws:List Int) (won:Bool) (l:List Int):Prop :=
 (won = true ∧ ∃ want,Tkn c s op key was ws want l) ∨ (won = false ∧ NoK key was ∧ prsL c ws s l = was ∧ wd c ws op = 1)
inductive TJ (c:Cf) (s:St) (op key:Int) (was:List (Int × Int)):Kt → List Int → Nat → Prop
 | ask0 {ws:List Int} {n want:Int} {own won:Bool} {wk:Wk} {l:List Int} (pb:PB c s ws l) (hs:sndL c ws s 0 ps0 l = true) (w:wd c ws op = 0) (nc:∀ a ∈ l,opAt s a ≠ op) (hp:prsL c ws s l = was) (hw:won = false) :
   TJ c s op key was ⟨ws,n,⟨op,own,0,want,wk,false,won⟩⟩ l (24 * l.length + 10)
 | walk {ws:List Int} {n want:Int} {own won:Bool} {wk:Wk} {pre rest:List Int} (wi:WI c s key 2 ⟨ws,n,wk⟩ pre rest) (up:(pre ++ rest).Pairwise fun a b => keyOf_ s a ≤ keyOf_ s b) (np:∀ a ∈ pre,keyOf_ s a ≠ key)
   (wdn:wk.done = false) (wst:wk.stop = false) (wf:wk.found = -1) (hs:sndL c ws s 0 ps0 (pre ++ rest) = true) (w:wd c ws op = 0) (nc:∀ a ∈ pre ++ rest,opAt s a ≠ op) (hp:prsL c ws s (pre ++ rest) = was) (hw:won = false) :
   TJ c s op key was ⟨ws,n,⟨op,own,1,want,wk,false,won⟩⟩ (pre ++ rest) (mu c s ⟨ws,n,wk⟩ rest + 16 * (pre ++ rest).length + 8)
 | settle {ws:List Int} {n want:Int} {own won:Bool} {wk:Wk} {l:List Int} (pb:PB c s ws l) (hs:sndL c ws s 0 ps0 l = true) (w:wd c ws op = 0) (nc:∀ a ∈ l,opAt s a ≠ op) (hc:Chc c s key was ws want l) (hp:prsL c ws s l = was) (hw:won = false) :
   TJ c s op key was ⟨ws,n,⟨op,own,2,want,wk,false,won⟩⟩ l (16 * l.length + 7)
 | ask1 {ws:List Int} {n want wt:Int} {own won:Bool} {wk:Wk} {l:List Int} (pb:PB c s ws l) (hs:sndL c ws s 0 ps0 l = true) (w:wd c ws op = wt) (nc:∀ a ∈ l,opAt s a ≠ op) (hc:Chc c s key was ws wt l) (hp:prsL c ws s l = was) (hw:won = false) :
   TJ c s op key was ⟨ws,n,⟨op,own,0,want,wk,false,won⟩⟩ l (16 * l.length + 6)
 | out {ws:List Int} {n want:Int} {own won:Bool} {wk:Wk} {l:List Int} (pb:PB c s ws l) (hs:sndL c ws s 0 ps0 l = true) (w:wd c ws op = want) (nc:∀ a ∈ l,opAt s a ≠ op) (hc:Tgt c s key ws want l) (hk:HasK key was) (hp:prsL c ws s l = was) :
   TJ c s op key was ⟨ws,n,⟨op,own,3,want,wk,false,won⟩⟩ l (16 * l.length + 5)
 | ask2 {ws:List Int} {n want wt:Int} {own won:Bool} {wk:Wk} {l:List Int} (pb:PB c s ws l) (hs:sndL c ws s 0 ps0 l = true) (ht:Tkn c s op key was ws wt l) :
   TJ c s op key was ⟨ws,n,⟨op,own,0,want,wk,false,won⟩⟩ l (16 * l.length + 6)
 | out2 {ws:List Int} {n want:Int} {own won:Bool} {wk:Wk} {l:List Int} (pb:PB c s ws l) (hs:sndL c ws s 0 ps0 l = true) (ht:Tkn c s op key was ws want l) :
   TJ c s op key was ⟨ws,n,⟨op,own,3,want,wk,false,won⟩⟩ l (16 * l.length + 5)
 | who {ws:List Int} {n want:Int} {own won:Bool} {wk:Wk} {l:List Int} (pb:PB c s ws l) (hs:sndL c ws s 0 ps0 l = true) (ht:Tkn c s op key was ws want l) :
   TJ c s op key was ⟨ws,n,⟨op,own,4,want,wk,false,won⟩⟩ l (16 * l.length + 4)
 | clean {ws:List Int} {n want:Int} {own:Bool} {wk:Wk} {pre rest:List Int} (wi:WI c s key 3 ⟨ws,n,wk⟩ pre rest) (up:(pre ++ rest).Pairwise fun a b => keyOf_ s a ≤ keyOf_ s b) (wdn:wk.done = false) (hs:sndL c ws s 0 ps0 (pre ++ rest) = true) (ht:Tkn c s op key was ws want (pre ++ rest)) :
   TJ c s op key was ⟨ws,n,⟨op,own,5,want,wk,false,true⟩⟩ (pre ++ rest) (mu c s ⟨ws,n,wk⟩ rest + 8 * (pre ++ rest).length + 1)
 | fin {y:Kt} {l:List Int} (dn:y.x.done = true) (pb:PB c s y.ws l) (hs:sndL c y.ws s 0 ps0 l = true) (he:EndT c s op key was y.ws y.x.won l):TJ c s op key was y l (8 * l.length)
def JNext (c:Cf) (s:St) (op key:Int) (was:List (Int × Int)) (y:Kt) (b:Nat):Prop:=∃ l' b',TJ c s op key was (stepT c s y) l' b' ∧ b' < b
section
variable {c:Cf} {s:St} {op key:Int} {was:List (Int × Int)}
theorem TJ.s_ask0 (D:DC c s op key) {ws:List Int} {n want:Int} {own won:Bool} {wk:Wk} {l:List Int} (pb:PB c s ws l) (hs:sndL c ws s 0 ps0 l = true) (w:wd c ws op = 0) (nc:∀ a ∈ l,opAt s a ≠ op) (hp:prsL c ws s l = was) (hw:won = false) :
  JNext c s op key was ⟨ws,n,⟨op,own,0,want,wk,false,won⟩⟩ (24 * l.length + 10):=by
 have e:stepT c s ⟨ws,n,⟨op,own,0,want,wk,false,won⟩⟩ = ⟨ws,n + cnt ws (wrdI c op),⟨op,own,1,0,newK key 2,false,won⟩⟩:=by
  have hw:rd ws (wrdI c op) = 0:=w
  simp [stepT,askT,askX,hw,D.kt]
 unfold JNext
 rw [e]
 refine ⟨_,_,.walk (pre:=[]) (rest:=l) (pb.walkM _ _ _) (by simpa using pb.up) (by simp) rfl rfl rfl hs w (by simpa using nc) hp hw,?_⟩
 rw [PB.muM]
 simp only [List.nil_append]
 omega
theorem TJ.s_walk (D:DC c s op key) {ws:List Int} {n want:Int} {own won:Bool} {wk:Wk} {pre rest:List Int} (wi:WI c s key 2 ⟨ws,n,wk⟩ pre rest) (up:(pre ++ rest).Pairwise fun a b => keyOf_ s a ≤ keyOf_ s b) (np:∀ a ∈ pre,keyOf_ s a ≠ key)
  (wdn:wk.done = false) (wst:wk.stop = false) (wf:wk.found = -1) (hs:sndL c ws s 0 ps0 (pre ++ rest) = true) (w:wd c ws op = 0) (nc:∀ a ∈ pre ++ rest,opAt s a ≠ op) (hp:prsL c ws s (pre ++ rest) = was) (hw:won = false) :
  JNext c s op key was ⟨ws,n,⟨op,own,1,want,wk,false,won⟩⟩ (mu c s ⟨ws,n,wk⟩ rest + 16 * (pre ++ rest).length + 8):=by
 obtain ⟨pre',rest',wi',hmu,-,ef⟩:=wi.step wdn
 have hsk:=wi.seek2 wdn wf wst
 have hs':=ef.snd (List.nodup_cons.1 wi.nd).2 hs
 have hw':=ef.wdOp nc
 have hnp:=ef.other np
 have hsub:=ef.sub
 have hch:=wi.chain
 have hch':=wi'.chain
 have hpr:prsL c (stepK c s ⟨ws,n,wk⟩).ws s (pre' ++ rest') = was:=by
  rw [← hp]
  exact congrArg (·.2) ((ef.prs hs).2 (by decide))
 unfold JNext
 rw [st_t1]
 have hup0:=fun hd hst => wi'.upto hd hst (up.sublist hsub)
 generalize stepK c s ⟨ws,n,wk⟩ = z at *
 obtain ⟨zws,zn,zx⟩:=z
 simp only at *
 have hlen:=hsub.length_le
 have hup':=up.sublist hsub
 have hnc:∀ a ∈ pre' ++ rest',opAt s a ≠ op:=fun a ha => nc a (hsub.subset ha)
 cases hd:zx.done with
 | true =>
  simp only [if_true]
  refine ⟨_,_,.settle (wi'.pb hup') hs' (hw'.trans w) hnc ?_ hpr hw,by omega⟩
  rcases hsk with ⟨hf,hst⟩ | ⟨he,-,C,r,hr,hk,hcs⟩
  ·refine .inl ⟨by unfold fndX;rw [if_pos hf],?_⟩
   have:=far_none (c:=c) (ws:=zws) (s:=s) hnp (hup0 hd hst)
   rwa [hpr] at this
  ·subst he
   rw [hch'] at hch
   rcases hcs with ⟨hf,h0⟩ | ⟨hf,h1⟩
   ·refine .inl ⟨by unfold fndX;rw [if_pos hf],?_⟩
    subst hr
    have:=seek_none hs np hk h0
    rwa [hp] at this
   ·have hC:C ∈ pre' ++ rest':=by rw [hch,hr];simp
    have hsc:=(wi'.pb hup').st C hC
    have ol:=D.ol
    refine .inr ⟨⟨C,hC,?_,h1,hk⟩,?_⟩
    ·unfold fndX
     rw [hf,if_neg (by have:=hsc.o0;omega)]
     exact (zNamed_of hsc.o0 (by have:=hsc.on;omega)).1
    ·rw [← hpr]
     exact prs_key.2 ⟨C,hC,snd_kind hs' C hC,h1,hk⟩
 | false =>
  simp only [Bool.false_eq_true,if_false]
  rcases hsk with ⟨hf,hst⟩ | ⟨-,hd',-⟩
  ·exact ⟨_,_,.walk wi' hup' hnp hd hst hf hs' (hw'.trans w) hnc hpr hw,by omega⟩
  ·rw [hd] at hd';cases hd'
theorem snd_turn {ws:List Int} {l:List Int} (pb:PB c s ws l) (hs:sndL c ws s 0 ps0 l = true) {t:Int} (o0:0 ≤ t) (on:t < c.ops) {o v:Int} (hv:2 ≤ v ∨ ∀ a ∈ l,opAt s a ≠ t) (v0:0 ≤ v) (v1:v ≤ 18446744073709551615):sndL c (sw ws (wrdI c t) o v) s 0 ps0 l = true:=by
 have h:=pb.turn o0 on (o:=o) hv (by rw [pb.sound];exact hs) v0 v1
 rwa [(pb.wdOf o0 on o v v0 v1).sound] at h
theorem Chc.bd (D:DC c s op key) {ws:List Int} {l:List Int} (pb:PB c s ws l) {want:Int} (h:Chc c s key was ws want l):0 ≤ want ∧ want ≤ 18446744073709551615:=by
 rcases h with ⟨hw,-⟩ | ⟨⟨a,ha,hw,-⟩,-⟩
 ·omega
 ·have h:=pb.st a ha
  have:=h.o0;have:=h.on;have:=D.ol
  omega
theorem TJ.s_settle (D:DC c s op key) {ws:List Int} {n want:Int} {own won:Bool} {wk:Wk} {l:List Int} (pb:PB c s ws l) (hs:sndL c ws s 0 ps0 l = true) (w:wd c ws op = 0) (nc:∀ a ∈ l,opAt s a ≠ op) (hc:Chc c s key was ws want l) (hp:prsL c ws s l = was) (hw:won = false) :
  JNext c s op key was ⟨ws,n,⟨op,own,2,want,wk,false,won⟩⟩ (16 * l.length + 7):=by
 have e:stepT c s ⟨ws,n,⟨op,own,2,want,wk,false,won⟩⟩ = ⟨sw ws (wrdI c op) 0 want,n + cnt ws (wrdI c op),⟨op,own,0,want,wk,false,won⟩⟩:=by
  simp [stepT,setT]
 unfold JNext
 rw [e]
 have hb:=hc.bd D pb
 have hwd:=fun b => wd_sw pb.lay D.o0 D.on 0 want b
 refine ⟨_,_,.ask1 (wt:=want) (pb.wdOf D.o0 D.on _ _ hb.1 hb.2) (snd_turn pb hs D.o0 D.on (.inr nc) hb.1 hb.2) (by rw [hwd,if_pos ⟨rfl,w⟩]) nc ?_ ?_ hw,by omega⟩
 ·rcases hc with hc | ⟨⟨a,ha,hw,h1,hk⟩,hh⟩
  ·exact .inl hc
  ·exact .inr ⟨⟨a,ha,hw,by rw [hwd,if_neg (fun e => nc a ha e.1)];exact h1,hk⟩,hh⟩
 ·rw [← hp]
  exact congrArg (·.2) (fold_congr (c:=c) (ws:=ws) (ws':=sw ws (wrdI c op) 0 want) (acc:=([],[])) (fun a ha => by rw [hwd,if_neg (fun e => nc a ha e.1)]))
theorem TJ.s_ask1 (D:DC c s op key) {ws:List Int} {n want wt:Int} {own won:Bool} {wk:Wk} {l:List Int} (pb:PB c s ws l) (hs:sndL c ws s 0 ps0 l = true) (w:wd c ws op = wt) (nc:∀ a ∈ l,opAt s a ≠ op) (hc:Chc c s key was ws wt l) (hp:prsL c ws s l = was) (hw:won = false) :
  JNext c s op key was ⟨ws,n,⟨op,own,0,want,wk,false,won⟩⟩ (16 * l.length + 6):=by
 have hr:rd ws (wrdI c op) = wt:=w
 unfold JNext
 rcases hc with ⟨hw1,hn⟩ | ⟨hc,hk⟩
 ·have e:stepT c s ⟨ws,n,⟨op,own,0,want,wk,false,won⟩⟩ = ⟨ws,n + cnt ws (wrdI c op),⟨op,own,0,1,wk,true,won⟩⟩:=by
   simp [stepT,askT,askX,hr,hw1]
  rw [e]
  exact ⟨_,_,.fin rfl pb hs (.inr ⟨hw,hn,hp,w.trans hw1⟩),by omega⟩
 ·have h2:2 ≤ wt:=by
   obtain ⟨a,ha,hw,-⟩:=hc
   have:=(pb.st a ha).o0
   omega
  have e:stepT c s ⟨ws,n,⟨op,own,0,want,wk,false,won⟩⟩ = ⟨ws,n + cnt ws (wrdI c op),⟨op,own,3,wt,wk,false,won⟩⟩:=by
   have h3:¬ wt = 0:=by omega
   have h4:¬ wt = 1:=by omega
   simp [stepT,askT,askX,hr,h3,h4]
  rw [e]
  exact ⟨_,_,.out pb hs w nc hc hk hp,by omega⟩
theorem TJ.s_out (D:DC c s op key) {ws:List Int} {n want:Int} {own won:Bool} {wk:Wk} {l:List Int} (pb:PB c s ws l) (hs:sndL c ws s 0 ps0 l = true) (w:wd c ws op = want) (nc:∀ a ∈ l,opAt s a ≠ op) (hc:Tgt c s key ws want l) (hk:HasK key was) (hp:prsL c ws s l = was) :
  JNext c s op key was ⟨ws,n,⟨op,own,3,want,wk,false,won⟩⟩ (16 * l.length + 5):=by
 obtain ⟨a,ha,hw,h1,hka⟩:=hc
 have hsc:=pb.st a ha
 have ol:=D.ol
 have d0:=D.o0
 have dn:=D.on
 have hz:=(zNamed_of hsc.o0 (by have:=hsc.on;omega)).2
 have hy:=(zNamed_by D.o0 (by omega)).1
 have e:stepT c s ⟨ws,n,⟨op,own,3,want,wk,false,won⟩⟩ = ⟨sw ws (wrdI c (opAt s a)) 1 (op + 3),n + cnt ws (wrdI c (opAt s a)),⟨op,own,4,want,wk,false,won⟩⟩:=by
  simp [stepT,outT,hw,hz,hy]
 unfold JNext
 rw [e]
 have hwd:=fun b => wd_sw pb.lay hsc.o0 hsc.on 1 (op + 3) b
 have hwt:wd c (sw ws (wrdI c (opAt s a)) 1 (op + 3)) (opAt s a) = op + 3:=by rw [hwd,if_pos ⟨rfl,h1⟩]
 refine ⟨_,_,.who (pb.wdOf hsc.o0 hsc.on _ _ (by omega) (by omega)) (snd_turn pb hs hsc.o0 hsc.on (.inl (by omega)) (by omega) (by omega)) ⟨opAt s a,hsc.o0,hsc.on,hw,hwt,?_,hk,?_⟩,by omega⟩
 ·rw [hwd,if_neg (fun e => nc a ha e.1.symm)];exact w
 ·rw [← hp]
  refine prs_out hs ⟨a,ha,rfl,h1,hka⟩ (fun o => ?_) (by rw [hwt];omega)
  rw [hwt,hwd]
  by_cases q:o = opAt s a
  ·rw [if_pos ⟨q,h1⟩,if_pos q]
  ·rw [if_neg (fun z => q z.1),if_neg q]
theorem TJ.s_ask2 (D:DC c s op key) {ws:List Int} {n want wt:Int} {own won:Bool} {wk:Wk} {l:List Int} (pb:PB c s ws l) (hs:sndL c ws s 0 ps0 l = true) (ht:Tkn c s op key was ws wt l) :
  JNext c s op key was ⟨ws,n,⟨op,own,0,want,wk,false,won⟩⟩ (16 * l.length + 6):=by
 obtain ⟨t,t0,t1,hw,ho,hr,hk,hp⟩:=ht
 have hr':rd ws (wrdI c op) = wt:=hr
 have e:stepT c s ⟨ws,n,⟨op,own,0,want,wk,false,won⟩⟩ = ⟨ws,n + cnt ws (wrdI c op),⟨op,own,3,wt,wk,false,won⟩⟩:=by
  have h3:¬ wt = 0:=by omega
  have h4:¬ wt = 1:=by omega
  simp [stepT,askT,askX,hr',h3,h4]
 unfold JNext
 rw [e]
 exact ⟨_,_,.out2 pb hs ⟨t,t0,t1,hw,ho,hr,hk,hp⟩,by omega⟩
theorem sw_no {ws:List Int} {i o v:Int} (h:rd ws i ≠ o):sw ws i o v = ws:=by
 unfold sw may
 rw [if_neg]
 intro q
 exact h (of_decide_eq_true q).2.2
theorem TJ.s_out2 (D:DC c s op key) {ws:List Int} {n want:Int} {own won:Bool} {wk:Wk} {l:List Int} (pb:PB c s ws l) (hs:sndL c ws s 0 ps0 l = true) (ht:Tkn c s op key was ws want l) :
  JNext c s op key was ⟨ws,n,⟨op,own,3,want,wk,false,won⟩⟩ (16 * l.length + 5):=by
 obtain ⟨t,t0,t1,hw,ho,hr,hk,hp⟩:=ht
 have ol:=D.ol
 have d0:=D.o0
 have dn:=D.on
 have hz:=(zNamed_of t0 (by omega)).2
 have hy:=(zNamed_by D.o0 (by omega)).1
 have hn:sw ws (wrdI c t) 1 (op + 3) = ws:=sw_no (by show wd c ws t ≠ 1;rw [ho];omega)
 have e:stepT c s ⟨ws,n,⟨op,own,3,want,wk,false,won⟩⟩ = ⟨ws,n + cnt ws (wrdI c t),⟨op,own,4,want,wk,false,won⟩⟩:=by
  simp [stepT,outT,hw,hz,hy,hn]
 unfold JNext
 rw [e]
 exact ⟨_,_,.who pb hs ⟨t,t0,t1,hw,ho,hr,hk,hp⟩,by omega⟩
theorem TJ.s_who (D:DC c s op key) {ws:List Int} {n want:Int} {own won:Bool} {wk:Wk} {l:List Int} (pb:PB c s ws l) (hs:sndL c ws s 0 ps0 l = true) (ht:Tkn c s op key was ws want l) :
  JNext c s op key was ⟨ws,n,⟨op,own,4,want,wk,false,won⟩⟩ (16 * l.length + 4):=by
 have ht2:=ht
 obtain ⟨t,t0,t1,hw,ho,hr,hk,hp⟩:=ht
 have ol:=D.ol
 have d0:=D.o0
 have dn:=D.on
 have hz:=(zNamed_of t0 (by omega)).2
 have hy:=(zNamed_by D.o0 (by omega)).2
 have hrd:rd ws (wrdI c t) = op + 3:=ho
 have e:stepT c s ⟨ws,n,⟨op,own,4,want,wk,false,won⟩⟩ = ⟨ws,n + cnt ws (wrdI c t),if own then ⟨op,own,5,want,newK key 3,false,true⟩ else ⟨op,own,4,want,wk,true,true⟩⟩:=by
  cases own <;> simp [stepT,whoT,whoX,hw,hz,hrd,hy,D.kt]
 unfold JNext
 rw [e]
 cases own
 ·exact ⟨_,_,.fin rfl pb hs (.inl ⟨rfl,_,ht2⟩),by omega⟩
 ·simp only [if_true]
  refine ⟨_,_,.clean (pre:=[]) (rest:=l) (pb.walkM _ _ _) (by simpa using pb.up) rfl hs ht2,?_⟩
  rw [PB.muM]
  simp only [List.nil_append]
  omega
theorem TJ.s_clean {ws:List Int} {n want:Int} {own:Bool} {wk:Wk} {pre rest:List Int} (wi:WI c s key 3 ⟨ws,n,wk⟩ pre rest) (up:(pre ++ rest).Pairwise fun a b => keyOf_ s a ≤ keyOf_ s b) (wdn:wk.done = false) (hs:sndL c ws s 0 ps0 (pre ++ rest) = true) (ht:Tkn c s op key was ws want (pre ++ rest)) :
  JNext c s op key was ⟨ws,n,⟨op,own,5,want,wk,false,true⟩⟩ (mu c s ⟨ws,n,wk⟩ rest + 8 * (pre ++ rest).length + 1):=by
 obtain ⟨pre',rest',wi',hmu,-,ef⟩:=wi.step wdn
 have hs':=ef.snd (List.nodup_cons.1 wi.nd).2 hs
 have hsub:=ef.sub
 obtain ⟨t,t0,t1,hw,ho,hr,hk,hp⟩:=ht
 have ht':Tkn c s op key was (stepK c s ⟨ws,n,wk⟩).ws want (pre' ++ rest'):=by
  refine ⟨t,t0,t1,hw,(ef.wdAll (by decide) t).trans ho,(ef.wdAll (by decide) op).trans hr,hk,?_⟩
  rw [← hp]
  exact congrArg (·.2) ((ef.prs hs).2 (by decide))
 unfold JNext
 rw [st_t5]
 generalize stepK c s ⟨ws,n,wk⟩ = z at *
 obtain ⟨zws,zn,zx⟩:=z
 simp only at *
 have hlen:=hsub.length_le
 have hup':=up.sublist hsub
 cases hd:zx.done with
 | true =>
  simp only [if_true]
  exact ⟨_,_,.fin rfl (wi'.pb hup') hs' (.inl ⟨rfl,_,ht'⟩),by omega⟩
 | false =>
  simp only [Bool.false_eq_true,if_false]
  exact ⟨_,_,.clean wi' hup' hd hs' ht',by omega⟩
theorem TJ.step (D:DC c s op key) {y:Kt} {l:List Int} {b:Nat} (h:TJ c s op key was y l b) (hd:y.x.done = false):JNext c s op key was y b:=by
 cases h with
 | ask0 pb hs w nc hp hw => exact TJ.s_ask0 D pb hs w nc hp hw
 | walk wi up np wdn wst wf hs w nc hp hw => exact TJ.s_walk D wi up np wdn wst wf hs w nc hp hw
 | settle pb hs w nc hc hp hw => exact TJ.s_settle D pb hs w nc hc hp hw
 | ask1 pb hs w nc hc hp hw => exact TJ.s_ask1 D pb hs w nc hc hp hw
 | out pb hs w nc hc hk hp => exact TJ.s_out D pb hs w nc hc hk hp
 | ask2 pb hs ht => exact TJ.s_ask2 D pb hs ht
 | out2 pb hs ht => exact TJ.s_out2 D pb hs ht
 | who pb hs ht => exact TJ.s_who D pb hs ht
 | clean wi up wdn hs ht => exact TJ.s_clean wi up wdn hs ht
 | fin dn pb hs he => rw [hd] at dn;cases dn
theorem TJ.ends (D:DC c s op key) {y:Kt} {l:List Int} {b:Nat} (h:TJ c s op key was y l b):∀ k,b < k → ∃ l',8 * l'.length ≤ b ∧ (runT c s y k).x.done = true ∧ PB c s (runT c s y k).ws l' ∧ sndL c (runT c s y k).ws s 0 ps0 l' = true ∧ EndT c s op key was (runT c s y k).ws (runT c s y k).x.won l':=by
 have hrun:∀ k,∃ l' b',TJ c s op key was (runT c s y k) l' b' ∧ b' ≤ b ∧ (b' ≤ b - k ∨ (runT c s y k).x.done = true):=by
  intro k
  induction k with
  | zero => exact ⟨l,b,h,Nat.le_refl _,.inl (Nat.le_refl _)⟩
  | succ k ih =>
   obtain ⟨l1,b1,h1,h3,h2⟩:=ih
   cases hd:(runT c s y k).x.done with
   | true =>
    have e:runT c s y (k + 1) = runT c s y k:=stepT_done hd
    rw [e]
    exact ⟨l1,b1,h1,h3,.inr hd⟩
   | false =>
    obtain ⟨l2,b2,g1,g2⟩:=h1.step D hd
    refine ⟨l2,b2,g1,by omega,.inl ?_⟩
    rcases h2 with h2 | h2
    ·omega
    ·rw [hd] at h2;cases h2
 intro k hk
 obtain ⟨l1,b1,h1,h3,h2⟩:=hrun k
 have hd:(runT c s y k).x.done = true:=by
  rcases h2 with h2 | h2
  ·cases hd:(runT c s y k).x.done with
   | true => rfl
   | false =>
    obtain ⟨j,rfl⟩:∃ j,k = j + 1:=⟨k - 1,by omega⟩
    obtain ⟨l2,b2,-,g2⟩:=h1.step D hd
    omega
  ·exact h2
 generalize runT c s y k = z at *
 cases h1 with
 | fin dn pb hs he => exact ⟨l1,h3,hd,pb,hs,he⟩
 | _ => cases hd
end
end Go.Proofs.YtcogckjpmmjmbaaGreat
