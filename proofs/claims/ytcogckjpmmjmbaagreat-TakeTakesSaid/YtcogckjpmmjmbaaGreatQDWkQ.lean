/- A walk that nobody disturbs: each step of it. -/
import Derived.Test.YtcogckjpmmjmbaaGreatQDWkP
namespace Go.Proofs.YtcogckjpmmjmbaaGreat
set_option maxRecDepth 100000
set_option linter.unusedVariables false
theorem st_0 {c:Cf} {s:St} {y:Kd} (hd:y.x.done = false) (hp:y.x.phase = 0):stepK c s y = begK c s y:=by unfold stepK;rw [hd,hp];simp
theorem st_1 {c:Cf} {s:St} {y:Kd} (hd:y.x.done = false) (hp:y.x.phase = 1):stepK c s y = peeK c y:=by unfold stepK;rw [hd,hp];simp
theorem st_2 {c:Cf} {s:St} {y:Kd} (hd:y.x.done = false) (hp:y.x.phase = 2):stepK c s y = unlK c s y:=by unfold stepK;rw [hd,hp];simp
theorem st_3 {c:Cf} {s:St} {y:Kd} (hd:y.x.done = false) (hp:y.x.phase = 3):stepK c s y = jdgK c s y:=by unfold stepK;rw [hd,hp];simp
theorem st_4 {c:Cf} {s:St} {y:Kd} (hd:y.x.done = false) (hp:y.x.phase = 4):stepK c s y = mrkK c y:=by unfold stepK;rw [hd,hp];simp
theorem st_5 {c:Cf} {s:St} {y:Kd} (hd:y.x.done = false) (hp:y.x.phase = 5):stepK c s y = askK c y:=by unfold stepK;rw [hd,hp];simp
theorem st_6 {c:Cf} {s:St} {y:Kd} (hd:y.x.done = false) (hp:y.x.phase = 6):stepK c s y = setK c s y 1:=by unfold stepK;rw [hd,hp];simp
theorem st_7 {c:Cf} {s:St} {y:Kd} (hd:y.x.done = false) (hp:y.x.phase = 7):stepK c s y = setK c s y 2:=by unfold stepK;rw [hd,hp];simp
theorem st_d {c:Cf} {s:St} {y:Kd} (hd:y.x.done = true):stepK c s y = y:=by unfold stepK;rw [if_pos hd]
theorem head_1 {c:Cf} (h:c.Ok) (hb:c.b = 1) (key:Int):headI c key = 1:=by
 have h0:zBucket key c.b = 0:=by
  have h1:=zH_lo key
  rw [hb]
  unfold zBucket
  split
  ·simp only [Int.natCast_one,Int.mul_one];omega
  ·rfl
 unfold headI
 rw [h0]
 unfold vHead
 rw [if_pos ⟨h.z,by omega,by omega⟩]
 rfl
theorem nodes_lt {c:Cf} (h:c.Ok):(1:Int) < c.nodes:=by have:=h.b1;simp only [Cf.nodes];omega
inductive Eff (c:Cf) (s:St) (key mode seen:Int) (ws ws':List Int) (pre rest pre' rest':List Int):Prop
 | same (h:ws' = ws) (hp:pre' = pre) (hr:rest' = rest)
 | adv (C:Int) (r:List Int) (h:ws' = ws) (hr:rest = C :: r) (hp:pre' = pre ++ [C]) (hr':rest' = r) (hs:mode = 1 → keyOf_ s C = key → wd c ws (opAt s C) = 1 ∧ seen ≠ opAt s C) (hl:keyOf_ s C ≤ key) (h2:mode = 2 → keyOf_ s C ≠ key)
 | unl (C:Int) (r:List Int) (hr:rest = C :: r) (hp:pre' = pre) (hr':rest' = r) (hm:nx c ws C % 2 = 1) (hw:∀ o,wd c ws' o = wd c ws o) (hn:∀ a,nx c ws' a % 2 = nx c ws a % 2)
 | mrk (C:Int) (r:List Int) (hr:rest = C :: r) (hp:pre' = pre) (hr':rest' = rest) (ho:2 ≤ wd c ws (opAt s C) ∨ ∃ a ∈ pre,opAt s C = opAt s a) (hw:∀ o,wd c ws' o = wd c ws o) (hn:∀ a,a ≠ C → nx c ws' a % 2 = nx c ws a % 2)
 | let_ (C:Int) (r:List Int) (hr:rest = C :: r) (hp:pre' = pre) (hr':rest' = rest) (h1:mode = 1) (hk:keyOf_ s C = key) (h0:wd c ws (opAt s C) = 0) (hm:nx c ws C % 2 = 0) (hf:∀ a ∈ pre,keyOf_ s a ≠ key) (hn:∀ a,nx c ws' a = nx c ws a)
   (hw:∀ o,wd c ws' o = if o = opAt s C then 1 else wd c ws o)
 | ref (C:Int) (r:List Int) (hr:rest = C :: r) (hp:pre' = pre) (hr':rest' = rest) (h1:mode = 1) (hk:keyOf_ s C = key) (h0:wd c ws (opAt s C) = 0) (hn:∀ a,nx c ws' a = nx c ws a)
   (hw:∀ o,wd c ws' o = if o = opAt s C then 2 else wd c ws o)
def Nxt1 (c:Cf) (s:St) (key mode:Int) (y:Kd) (pre rest:List Int) (y':Kd):Prop :=
 ∃ pre' rest',WI c s key mode y' pre' rest' ∧ mu c s y' rest' < mu c s y rest ∧ y'.n = y.n + 1 ∧ Eff c s key mode y.x.seen y.ws y'.ws pre rest pre' rest'
theorem WI.lastOk {c:Cf} {s:St} {key mode:Int} {y:Kd} {pre rest:List Int} (h:WI c s key mode y pre rest):0 ≤ lastN pre ∧ lastN pre < c.nodes ∧ nx c y.ws (lastN pre) % 2 = 0:=by
 have hm:lastN pre ∈ 1 :: pre:=List.getLastD_mem_cons
 refine ⟨?_,?_,h.um _ hm⟩
 ·rcases List.mem_cons.1 hm with e | e
  ·omega
  ·have:=(h.st _ (List.mem_append_left _ e)).a2;omega
 ·rcases List.mem_cons.1 hm with e | e
  ·have:=nodes_lt h.lay.ok;omega
  ·exact (h.st _ (List.mem_append_left _ e)).an
theorem WI.s0 {c:Cf} {s:St} {key mode:Int} {ws:List Int} {n:Int} {x:Wk} {pre rest:List Int} (h:WI c s key mode ⟨ws,n,x⟩ pre rest) (hd:x.done = false) (h0:x.phase = 0) (hp:pre = []):Nxt1 c s key mode ⟨ws,n,x⟩ pre rest (stepK c s ⟨ws,n,x⟩):=by
 rw [st_0 hd h0]
 subst hp
 have hb:=head_1 h.lay.ok h.b1 x.key
 have hn:=nodes_lt h.lay.ok
 refine ⟨[],rest,⟨h.lay,h.wok,h.b1,h.lk,h.nd,h.st,h.um,?_,?_,by simp,by simp,?_,by simp,?_⟩,?_,?_,.same rfl rfl rfl⟩
 ·simp only [begK];rw [(arr_keep s _ _).1];exact h.hk
 ·simp only [begK];rw [(arr_keep s _ _).2.1];exact h.hm
 ·simp only [begK];rw [(arr_keep s _ _).2.2];intro q;exact absurd rfl q
 ·simp only [begK]
  exact arr_pos (by rw [hb];exact h.lk) hd h.hk (by rw [hb];rfl)
 ·have h1:mu c s (begK c s ⟨ws,n,x⟩) rest ≤ 8 * rest.length:=by
   refine arr_mu hd (fun C r e => ?_) (fun e => ?_)
   ·subst e;obtain ⟨e1,e2,-⟩:=h.lk;exact ⟨by rw [hb];exact e1,e2⟩
   ·subst e;rw [hb];exact h.lk
  cases rest with
  | nil => simp only [mu,hd] at *;simp only [List.length_nil] at h1;simp;simpa using h1
  | cons C r =>
   have h2:mu c s ⟨ws,n,x⟩ (C :: r) = 8 * (r.length + 1) + 1:=by simp only [mu,hd,h0];simp
   rw [h2]
   simp only [List.length_cons] at h1
   omega
 ·simp only [begK]
  rw [hb,cnt_nx h.lay (by omega) hn]
theorem WI.s1 {c:Cf} {s:St} {key mode:Int} {ws:List Int} {n:Int} {x:Wk} {pre r:List Int} {C:Int} (h:WI c s key mode ⟨ws,n,x⟩ pre (C :: r)) (hd:x.done = false) (hc:x.curr = C) (hp:x.pred = lastN pre) (hk:keyOf_ s C ≤ key) (h1:x.phase = 1):Nxt1 c s key mode ⟨ws,n,x⟩ pre (C :: r) (stepK c s ⟨ws,n,x⟩):=by
 rw [st_1 hd h1]
 have hC:=h.st C (by simp)
 refine ⟨pre,C :: r,⟨h.lay,h.wok,h.b1,h.lk,h.nd,h.st,h.um,h.hk,h.hm,h.pw,h.pk,h.sa,h.sn,?_⟩,?_,?_,.same rfl rfl rfl⟩
 ·refine .at_ C r hd rfl hc hp hk ?_
  simp only [peeK]
  rw [hc]
  by_cases e:nx c ws C % 2 = 1
  ·exact .unl (by simp only [nx] at e;simp [e]) rfl e
  ·exact .jdg (by simp only [nx] at e;simp [e]) rfl (by omega)
 ·simp only [mu,peeK,hd,h1,muA,hc]
  by_cases e:nx c ws C % 2 = 1
  ·simp only [nx] at e;simp [e]
  ·simp only [nx] at e;simp [e];split <;> omega
 ·simp only [peeK]
  rw [hc,cnt_nx h.lay (by have:=hC.a2;omega) hC.an]
theorem zPack_ev {a:Int} (h0:0 ≤ a) (h1:a ≤ 9999):zPack a false = 2 * a:=by rw [zPack_in h0 (by omega)];simp
theorem sc_le {c:Cf} {s:St} {a:Int} (h:Sc c s a) (ok:c.Ok):0 ≤ a ∧ a ≤ 9999:=by have h1:=h.a2;have h2:=h.an;have h3:=ok.nodes_le;omega
theorem rd_sw_ok {ws:List Int} (h:∀ i:Int,0 ≤ rd ws i ∧ rd ws i ≤ 18446744073709551615) (i o v:Int) (h0:0 ≤ v) (h1:v ≤ 18446744073709551615):∀ j:Int,0 ≤ rd (sw ws i o v) j ∧ rd (sw ws i o v) j ≤ 18446744073709551615:=WOk.sw h i o v h0 h1
theorem WI.s2 {c:Cf} {s:St} {key mode:Int} {ws:List Int} {n:Int} {x:Wk} {pre r:List Int} {C:Int} (h:WI c s key mode ⟨ws,n,x⟩ pre (C :: r)) (hd:x.done = false) (hc:x.curr = C) (hp:x.pred = lastN pre) (hk:keyOf_ s C ≤ key) (h2:x.phase = 2) (hn:x.next = nx c ws C) (hm:nx c ws C % 2 = 1):Nxt1 c s key mode ⟨ws,n,x⟩ pre (C :: r) (stepK c s ⟨ws,n,x⟩):=by
 rw [st_2 hd h2]
 have hC:=h.st C (by simp)
 have hl:=h.lay
 obtain ⟨p0,p1,p2⟩:=h.lastOk
 simp only at hl p0 p1 p2
 obtain ⟨c0,c1⟩:=sc_le hC h.lay.ok
 have hat:=h.lk.at
 obtain ⟨e1,e2,e3⟩:=hat
 simp only at e1 e3
 have eP:nx c ws (lastN pre) = 2 * C:=by omega
 have hz:zPack C false = 2 * C:=zPack_ev c0 c1
 obtain ⟨t,ht⟩:∃ t,nx c ws C / 2 = t:=⟨_,rfl⟩
 have htv:0 ≤ t ∧ t ≤ 9999:=by
  cases r with
  | nil => have h0:nx c ws C / 2 = 0:=e3;omega
  | cons D q =>
   obtain ⟨f1,-,-⟩:=e3
   have:=sc_le (h.st D (by simp)) h.lay.ok
   omega
 have hz2:zPack t false = 2 * t:=zPack_ev htv.1 htv.2
 have hK:unlK c s ⟨ws,n,x⟩ = ⟨sw ws (nxtI c (lastN pre)) (2 * C) (2 * t),n + 1,arrK s x t⟩:=by
  simp only [unlK]
  rw [hp,hc,hn,ht,hz,hz2,may_nx hl p0 p1 eP,cnt_nx hl p0 p1]
  simp
 rw [hK]
 have hN:∀ b,nx c (sw ws (nxtI c (lastN pre)) (2 * C) (2 * t)) b = if b = lastN pre then 2 * t else nx c ws b:=fun b => by
  rw [nx_sw hl p0 p1]
  by_cases e:b = lastN pre
  ·rw [if_pos ⟨e,eP⟩,if_pos e]
  ·rw [if_neg (fun z => e z.1),if_neg e]
 have hW:∀ b,wd c (sw ws (nxtI c (lastN pre)) (2 * C) (2 * t)) b = wd c ws b:=fun b => wd_swn hl p0 p1 _ _ _
 have hlk:Lk c (sw ws (nxtI c (lastN pre)) (2 * C) (2 * t)) (nx c (sw ws (nxtI c (lastN pre)) (2 * C) (2 * t)) 1) (pre ++ r) :=
  Lk.skip h.lk h.nd (by show nx c _ (lastN pre) / 2 = nx c ws C / 2;rw [hN,if_pos rfl];omega) (fun b hb => by rw [hN,if_neg (show ¬ b = lastN pre from hb)])
 have hnd:(1 :: (pre ++ r)).Nodup:=by
  refine h.nd.sublist ?_
  exact List.Sublist.cons_cons _ (List.Sublist.append_left (List.sublist_cons_self _ _) _)
 have hne:∀ a ∈ r,a ≠ lastN pre:=by
  intro a ha e
  have hm:lastN pre ∈ 1 :: pre:=List.getLastD_mem_cons
  have:=hnd
  rw [← List.cons_append,List.nodup_append] at this
  exact this.2.2 _ (e ▸ hm) a ha rfl
 have hlr:Lk c (sw ws (nxtI c (lastN pre)) (2 * C) (2 * t)) (nx c ws C) r:=e3.congr (fun a ha => by rw [hN,if_neg (hne a ha)])
 refine ⟨pre,r,⟨hl.sw _ _ _,rd_sw_ok h.wok _ _ _ (by omega) (by omega),h.b1,hlk,hnd,fun a ha => h.st a (by simp only [List.mem_append,List.mem_cons] at ha ⊢;rcases ha with h | h <;> simp [h]),?_,?_,?_,?_,?_,?_,?_,?_⟩,?_,rfl,.unl C r rfl rfl rfl hm hW ?_⟩
 ·intro a ha
  simp only
  rw [hN]
  split
  ·omega
  ·exact h.um a ha
 ·simp only;rw [(arr_keep s _ _).1];exact h.hk
 ·simp only;rw [(arr_keep s _ _).2.1];exact h.hm
 ·intro a ha;simp only;rw [hW];exact h.pw a ha
 ·intro h1 a ha hk;simp only;rw [hW];exact h.pk h1 a ha hk
 ·simp only;rw [(arr_keep s _ _).2.2];exact h.sa
 ·simp only;rw [(arr_keep s _ _).2.2];exact h.sn
 ·simp only
  have hq:=arr_pos (s:=s) (mode:=mode) hlr hd h.hk hp
  rw [ht] at hq
  exact hq
 ·have h1:mu c s ⟨sw ws (nxtI c (lastN pre)) (2 * C) (2 * t),n + 1,arrK s x t⟩ r ≤ 8 * r.length:=by
   refine arr_mu hd (fun D q e => ?_) (fun e => ?_)
   ·subst e;obtain ⟨f1,f2,-⟩:=e3;exact ⟨by omega,f2⟩
   ·subst e;have h0:nx c ws C / 2 = 0:=e3;omega
  have h3:mu c s ⟨ws,n,x⟩ (C :: r) = 8 * r.length + 1:=by simp only [mu,hd,h2,muA];simp
  omega
 ·intro a
  simp only
  rw [hN]
  split
  ·rename_i e;subst e;omega
  ·rfl
theorem WI.s4 {c:Cf} {s:St} {key mode:Int} {ws:List Int} {n:Int} {x:Wk} {pre r:List Int} {C:Int} (h:WI c s key mode ⟨ws,n,x⟩ pre (C :: r)) (hd:x.done = false) (hc:x.curr = C) (hp:x.pred = lastN pre) (hk:keyOf_ s C ≤ key) (h4:x.phase = 4) (hn:x.next = nx c ws C) (hm:nx c ws C % 2 = 0)
  (ho:2 ≤ wd c ws (opAt s C) ∨ mode = 1 ∧ keyOf_ s C = key ∧ wd c ws (opAt s C) = 1 ∧ x.seen = opAt s C):Nxt1 c s key mode ⟨ws,n,x⟩ pre (C :: r) (stepK c s ⟨ws,n,x⟩):=by
 rw [st_4 hd h4]
 have hC:=h.st C (by simp)
 have hl:=h.lay
 simp only at hl
 have c0:0 ≤ C:=by have:=hC.a2;omega
 obtain ⟨v,hv⟩:∃ v,nx c ws C = v:=⟨_,rfl⟩
 have hvb:=h.wok (nxtI c C)
 have hvb:0 ≤ v ∧ v ≤ 18446744073709551615:=by rw [← hv];exact h.wok (nxtI c C)
 have hvm:v % 2 = 0:=by rw [← hv];exact hm
 have hK:mrkK c ⟨ws,n,x⟩ = ⟨sw ws (nxtI c C) v (v + 1),n + 1,{ x with phase:=1 }⟩:=by
  simp only [mrkK]
  rw [hc,hn,hv,cnt_nx hl c0 hC.an,show 2 * (v / 2) + 1 = v + 1 by omega]
 rw [hK]
 have hN:∀ b,nx c (sw ws (nxtI c C) v (v + 1)) b = if b = C then v + 1 else nx c ws b:=fun b => by
  rw [nx_sw hl c0 hC.an]
  by_cases e:b = C
  ·rw [if_pos ⟨e,hv⟩,if_pos e]
  ·rw [if_neg (fun z => e z.1),if_neg e]
 have hW:∀ b,wd c (sw ws (nxtI c C) v (v + 1)) b = wd c ws b:=fun b => wd_swn hl c0 hC.an _ _ _
 have hH:∀ b,nx c (sw ws (nxtI c C) v (v + 1)) b / 2 = nx c ws b / 2:=fun b => by
  rw [hN];split
  ·rename_i e;subst e;omega
  ·rfl
 have hCp:∀ a ∈ 1 :: pre,a ≠ C:=by
  intro a ha e
  have:=h.nd
  rw [← List.cons_append,List.nodup_append] at this
  exact this.2.2 a ha C (by simp) e
 refine ⟨pre,C :: r,⟨hl.sw _ _ _,rd_sw_ok h.wok _ _ _ (by omega) (by omega),h.b1,h.lk.half (hH 1) (fun a _ => hH a),h.nd,h.st,?_,h.hk,h.hm,?_,?_,h.sa,h.sn,?_⟩,?_,rfl,.mrk C r rfl rfl rfl ?_ hW (fun a ha => by rw [hN,if_neg ha])⟩
 ·intro a ha;simp only;rw [hN,if_neg (hCp a ha)];exact h.um a ha
 ·intro a ha;simp only;rw [hW];exact h.pw a ha
 ·intro h1 a ha hk;simp only;rw [hW];exact h.pk h1 a ha hk
 ·exact .at_ C r hd rfl hc hp hk (.peek rfl)
 ·simp only [mu,hd,h4,muA]
  have hodd:nx c (sw ws (nxtI c C) v (v + 1)) C % 2 = 1:=by rw [hN,if_pos rfl];omega
  simp only [nx] at hodd
  simp [hodd]
 ·rcases ho with ho | ⟨h1,h2,h3,h4⟩
  ·exact .inl ho
  ·obtain ⟨-,a,ha,e,-⟩:=h.sa (by rw [h4];have:=hC.o0;omega)
   exact .inr ⟨a,ha,h4.symm.trans e⟩
theorem WI.s5 {c:Cf} {s:St} {key mode:Int} {ws:List Int} {n:Int} {x:Wk} {pre r:List Int} {C:Int} (h:WI c s key mode ⟨ws,n,x⟩ pre (C :: r)) (hd:x.done = false) (hc:x.curr = C) (hp:x.pred = lastN pre) (hkl:keyOf_ s C ≤ key) (h5:x.phase = 5) (hn:x.next = nx c ws C) (hm:nx c ws C % 2 = 0)
  (h1:mode = 1) (hk:keyOf_ s C = key) (hw:wd c ws (opAt s C) = 0) (hs:x.seen ≠ -1):Nxt1 c s key mode ⟨ws,n,x⟩ pre (C :: r) (stepK c s ⟨ws,n,x⟩):=by
 rw [st_5 hd h5]
 obtain ⟨-,a,ha,e,ek⟩:=h.sa hs
 simp only at e
 have hA:=h.st a (by simp [ha])
 have hW:=h.pk h1 a ha ek
 simp only [wd] at hW
 have hK:askK c ⟨ws,n,x⟩ = ⟨ws,n + 1,{ x with phase:=7 }⟩:=by
  simp only [askK]
  rw [e,cnt_wd h.lay hA.o0 hA.on,if_pos hW]
 rw [hK]
 refine ⟨pre,C :: r,⟨h.lay,h.wok,h.b1,h.lk,h.nd,h.st,h.um,h.hk,h.hm,h.pw,h.pk,h.sa,h.sn,.at_ C r hd rfl hc hp hkl (.ref rfl hn hm h1 hk hw hs)⟩,?_,rfl,.same rfl rfl rfl⟩
 simp only [mu,hd,h5,muA]
 simp
theorem WI.s67 {c:Cf} {s:St} {key mode:Int} {ws:List Int} {n:Int} {x:Wk} {pre r:List Int} {C:Int} (h:WI c s key mode ⟨ws,n,x⟩ pre (C :: r)) (hd:x.done = false) (hc:x.curr = C) (hp:x.pred = lastN pre) (hkl:keyOf_ s C ≤ key) (hn:x.next = nx c ws C) (hm:nx c ws C % 2 = 0)
  (h1:mode = 1) (hk:keyOf_ s C = key) (hw:wd c ws (opAt s C) = 0) (v:Int) (hv:(v = 1 ∧ x.phase = 6 ∧ x.seen = -1) ∨ (v = 2 ∧ x.phase = 7)):Nxt1 c s key mode ⟨ws,n,x⟩ pre (C :: r) (setK c s ⟨ws,n,x⟩ v):=by
 have hC:=h.st C (by simp)
 have hl:=h.lay
 simp only at hl
 have hK:setK c s ⟨ws,n,x⟩ v = ⟨sw ws (wrdI c (opAt s C)) 0 v,n + 1,{ x with phase:=3 }⟩:=by
  simp only [setK,opK_at]
  rw [hc,cnt_wd hl hC.o0 hC.on]
 rw [hK]
 have hN:∀ b,nx c (sw ws (wrdI c (opAt s C)) 0 v) b = nx c ws b:=fun b => nx_sww hl hC.o0 hC.on _ _ _
 have hW:∀ o,wd c (sw ws (wrdI c (opAt s C)) 0 v) o = if o = opAt s C then v else wd c ws o:=fun o => by
  rw [wd_sw hl hC.o0 hC.on]
  by_cases e:o = opAt s C
  ·rw [if_pos ⟨e,hw⟩,if_pos e]
  ·rw [if_neg (fun z => e z.1),if_neg e]
 have hop:∀ a ∈ pre,opAt s a ≠ opAt s C:=by
  intro a ha e
  have hka:keyOf_ s a = key:=by rw [key_op,e,← key_op];exact hk
  have:=h.pk h1 a ha hka
  simp only at this
  rw [e,hw] at this
  cases this
 refine ⟨pre,C :: r,⟨hl.sw _ _ _,rd_sw_ok h.wok _ _ _ (by omega) (by omega),h.b1,?_,h.nd,h.st,?_,h.hk,h.hm,?_,?_,h.sa,h.sn,.at_ C r hd rfl hc hp hkl (.jdg rfl (by simp only;rw [hN];exact hn) (by rw [hN];exact hm))⟩,?_,rfl,?_⟩
 ·simp only;rw [hN];exact h.lk.congr (fun a _ => hN a)
 ·intro a ha;simp only;rw [hN];exact h.um a ha
 ·intro a ha;simp only;rw [hW,if_neg (hop a ha)];exact h.pw a ha
 ·intro h1 a ha hk;simp only;rw [hW,if_neg (hop a ha)];exact h.pk h1 a ha hk
 ·have hw':wd c (sw ws (wrdI c (opAt s C)) 0 v) (opAt s C) = v:=by rw [hW,if_pos rfl]
  have hv0:v ≠ 0:=by omega
  simp only [wd] at hw'
  rcases hv with ⟨rfl,hp6,-⟩ | ⟨rfl,hp7⟩
  ·simp [mu,hd,muA,hp6,hw']
  ·simp [mu,hd,muA,hp7,hw']
 ·rcases hv with ⟨rfl,hp6,hs⟩ | ⟨rfl,hp7⟩
  ·exact .let_ C r rfl rfl rfl h1 hk hw hm (h.sn h1 hs) hN hW
  ·exact .ref C r rfl rfl rfl h1 hk hw hN hW
theorem WI.adv {c:Cf} {s:St} {key mode:Int} {ws:List Int} {n:Int} {x z:Wk} {pre r:List Int} {C:Int} (h:WI c s key mode ⟨ws,n,x⟩ pre (C :: r)) (hd:z.done = false) (hc:z.curr = C) (hn:z.next = nx c ws C) (hm:nx c ws C % 2 = 0) (hk:z.key = key) (hmo:z.mode = mode) (h3:x.phase = 3) (hxd:x.done = false)
  (hw1:wd c ws (opAt s C) ≤ 1) (hpk:mode = 1 → keyOf_ s C = key → wd c ws (opAt s C) = 1)
  (hs:(z.seen = x.seen ∧ (mode = 1 → x.seen = -1 → keyOf_ s C ≠ key)) ∨ (z.seen = opAt s C ∧ mode = 1 ∧ keyOf_ s C = key)) :
  WI c s key mode ⟨ws,n + 1,advK s z⟩ (pre ++ [C]) r ∧ mu c s ⟨ws,n + 1,advK s z⟩ r < mu c s ⟨ws,n,x⟩ (C :: r):=by
 have hC:=h.st C (by simp)
 have e3:=h.lk.at
 obtain ⟨e1,e2,e3⟩:=e3
 have eL:pre ++ [C] ++ r = pre ++ C :: r:=by simp
 have hkp:=arr_keep s { z with pred:=z.curr } (z.next / 2)
 simp only at hkp e3
 refine ⟨⟨h.lay,h.wok,h.b1,by rw [eL];exact h.lk,by rw [eL];exact h.nd,by rw [eL];exact h.st,?_,?_,?_,?_,?_,?_,?_,?_⟩,?_⟩
 ·intro a ha
  simp only [List.mem_cons,List.mem_append,List.not_mem_nil,or_false] at ha
  rcases ha with ha | ha | ha
  ·exact h.um a (by simp [ha])
  ·exact h.um a (by simp [ha])
  ·subst ha;exact hm
 ·exact hkp.1.trans hk
 ·exact hkp.2.1.trans hmo
 ·intro a ha
  simp only [List.mem_append,List.mem_cons,List.not_mem_nil,or_false] at ha
  rcases ha with ha | rfl
  ·exact h.pw a ha
  ·exact hw1
 ·intro h1 a ha hka
  simp only [List.mem_append,List.mem_cons,List.not_mem_nil,or_false] at ha
  rcases ha with ha | rfl
  ·exact h.pk h1 a ha hka
  ·exact hpk h1 hka
 ·have hse:(advK s z).seen = z.seen:=hkp.2.2
  simp only
  rw [hse]
  intro hne
  rcases hs with ⟨e,-⟩ | ⟨e,h1,hk2⟩
  ·rw [e] at hne ⊢
   obtain ⟨q0,a,ha,q1,q2⟩:=h.sa hne
   exact ⟨q0,a,by simp [ha],q1,q2⟩
  ·exact ⟨h1,C,by simp,e,hk2⟩
 ·have hse:(advK s z).seen = z.seen:=hkp.2.2
  simp only
  rw [hse]
  intro h1 e0 a ha
  simp only [List.mem_append,List.mem_cons,List.not_mem_nil,or_false] at ha
  rcases hs with ⟨e,hx⟩ | ⟨e,-,-⟩
  ·rw [e] at e0
   rcases ha with ha | rfl
   ·exact h.sn h1 e0 a ha
   ·exact hx h1 e0
  ·have:=hC.o0;omega
 ·simp only [advK]
  rw [hn]
  exact arr_pos e3 hd hk (by rw [lastN_app];exact hc)
 ·have h1:mu c s ⟨ws,n + 1,advK s z⟩ r ≤ 8 * r.length:=by
   refine arr_mu hd (fun D q e => ?_) (fun e => ?_)
   ·subst e;obtain ⟨f1,f2,-⟩:=e3;exact ⟨by rw [hn];exact f1,f2⟩
   ·subst e;rw [hn];exact e3
  have h2:mu c s ⟨ws,n,x⟩ (C :: r) = 8 * r.length + muA c s ws x C:=by simp only [mu,hxd,h3];simp
  have h4:=muA_pos c s ws x C
  omega
theorem WI.s3 {c:Cf} {s:St} {key mode:Int} {ws:List Int} {n:Int} {x:Wk} {pre r:List Int} {C:Int} (h:WI c s key mode ⟨ws,n,x⟩ pre (C :: r)) (hd:x.done = false) (hc:x.curr = C) (hp:x.pred = lastN pre) (hkl:keyOf_ s C ≤ key) (h3:x.phase = 3) (hn:x.next = nx c ws C) (hm:nx c ws C % 2 = 0):Nxt1 c s key mode ⟨ws,n,x⟩ pre (C :: r) (stepK c s ⟨ws,n,x⟩):=by
 rw [st_3 hd h3]
 have hC:=h.st C (by simp)
 have hkx:=h.hk
 have hmx:=h.hm
 simp only at hkx hmx
 obtain ⟨v,hv⟩:∃ v,wd c ws (opAt s C) = v:=⟨_,rfl⟩
 have hvb:0 ≤ v:=by rw [← hv];exact (h.wok (wrdI c (opAt s C))).1
 have hv':rd ws (wrdI c (opAt s C)) = v:=hv
 have hK:jdgK c s ⟨ws,n,x⟩ = ⟨ws,n + 1,judK s x v⟩:=by
  simp only [jdgK,opK_at]
  rw [hc,cnt_wd h.lay hC.o0 hC.on,hv']
 rw [hK]
 have hmu:mu c s ⟨ws,n,x⟩ (C :: r) = 8 * r.length + (if v = 0 then 7 else 4):=by simp only [mu,hd,h3,muA];simp [hv']
 have stay:∀ z:Wk,z.done = false → z.curr = C → z.pred = lastN pre → z.key = key → z.mode = mode → z.seen = x.seen → At c s key mode ws z C → (muA c s ws z C < (if v = 0 then 7 else 4)) → z.phase ≠ 0 → Nxt1 c s key mode ⟨ws,n,x⟩ pre (C :: r) ⟨ws,n + 1,z⟩:=by
  intro z zd zc zp zk zm zs za zu z0
  refine ⟨pre,C :: r,⟨h.lay,h.wok,h.b1,h.lk,h.nd,h.st,h.um,zk,zm,h.pw,h.pk,by simp only;rw [zs];exact h.sa,by simp only;rw [zs];exact h.sn,.at_ C r zd rfl zc zp hkl za⟩,?_,rfl,.same rfl rfl rfl⟩
  rw [hmu]
  simp only [mu,zd]
  rw [if_neg (by simp),if_neg z0]
  omega
 have advn:∀ z:Wk,z.done = false → z.curr = C → z.next = nx c ws C → z.key = key → z.mode = mode → v ≤ 1 → (mode = 1 → keyOf_ s C = key → v = 1) → ((z.seen = x.seen ∧ (mode = 1 → x.seen = -1 → keyOf_ s C ≠ key)) ∨ (z.seen = opAt s C ∧ mode = 1 ∧ keyOf_ s C = key)) → (mode = 1 → keyOf_ s C = key → wd c ws (opAt s C) = 1 ∧ x.seen ≠ opAt s C) → (mode = 2 → keyOf_ s C ≠ key) → Nxt1 c s key mode ⟨ws,n,x⟩ pre (C :: r) ⟨ws,n + 1,advK s z⟩:=by
  intro z zd zc zn zk zm zv zw zs zq z2
  obtain ⟨a,b⟩:=h.adv zd zc zn hm zk zm h3 hd (by rw [hv];exact zv) (by rw [hv];exact zw) zs
  exact ⟨pre ++ [C],r,a,b,rfl,.adv C r rfl rfl rfl rfl zq hkl z2⟩
 clear hK
 obtain ⟨xk,xm,xp,xr,xc,xn,xs,xf,xt,xd⟩:=x
 simp only at hd hc hp h3 hn hkx hmx
 subst hd hc hp h3 hn hkx hmx
 have hop:opK s ⟨xk,xm,3,lastN pre,xc,nx c ws xc,xs,xf,xt,false⟩ = opAt s xc:=rfl
 unfold judK
 simp only
 by_cases c1:2 ≤ v
 ·rw [if_pos c1]
  exact stay _ rfl rfl rfl rfl rfl rfl (.mrk rfl rfl hm (.inl (by rw [hv];exact c1))) (by simp only [muA];simp;split <;> omega) (by simp)
 rw [if_neg c1]
 by_cases c2:keyOf_ s xc ≠ xk
 ·rw [if_pos c2]
  exact advn _ rfl rfl rfl rfl rfl (by omega) (fun _ e => absurd e c2) (.inl ⟨rfl,fun _ _ => c2⟩) (fun _ e => absurd e c2) (fun _ => c2)
 rw [if_neg c2]
 have c2':keyOf_ s xc = xk:=by simpa using c2
 by_cases c3:xm = 2
 ·rw [if_pos c3]
  refine ⟨pre,xc :: r,⟨h.lay,h.wok,h.b1,h.lk,h.nd,h.st,h.um,rfl,rfl,h.pw,h.pk,h.sa,h.sn,.fin rfl (.inl rfl)⟩,?_,rfl,.same rfl rfl rfl⟩
  rw [hmu]
  simp only [mu,if_true]
  split <;> omega
 rw [if_neg c3]
 by_cases c4:xm ≠ 1
 ·rw [if_pos c4]
  exact advn _ rfl rfl rfl rfl rfl (by omega) (fun e => absurd e c4) (.inl ⟨rfl,fun e => absurd e c4⟩) (fun e => absurd e c4) (fun e => absurd e c3)
 rw [if_neg c4]
 have c4':xm = 1:=by simpa using c4
 by_cases c5:v = 1
 ·rw [if_pos c5]
  by_cases c6:xs = opAt s xc
  ·rw [if_pos (hop ▸ c6)]
   exact stay _ rfl rfl rfl rfl rfl rfl (.mrk rfl rfl hm (.inr ⟨c4',c2',by rw [hv];exact c5,c6⟩)) (by simp only [muA];simp;split <;> omega) (by simp)
  ·rw [if_neg (hop ▸ c6)]
   exact advn _ rfl rfl rfl rfl rfl (by omega) (fun _ _ => c5) (.inr ⟨rfl,c4',c2'⟩) (fun _ _ => ⟨by rw [hv];exact c5,c6⟩) (fun e => absurd e c3)
 ·rw [if_neg c5]
  have v0:v = 0:=by omega
  by_cases c6:xs = -1
  ·rw [if_pos c6]
   exact stay _ rfl rfl rfl rfl rfl rfl (.let_ rfl rfl hm c4' c2' (by rw [hv];exact v0) c6) (by simp only [muA];simp [v0]) (by simp)
  ·rw [if_neg c6]
   exact stay _ rfl rfl rfl rfl rfl rfl (.ask rfl rfl hm c4' c2' (by rw [hv];exact v0) c6) (by simp only [muA];simp [v0]) (by simp)
theorem WI.step {c:Cf} {s:St} {key mode:Int} {y:Kd} {pre rest:List Int} (h:WI c s key mode y pre rest) (hd:y.x.done = false):Nxt1 c s key mode y pre rest (stepK c s y):=by
 obtain ⟨ws,n,x⟩:=y
 simp only at hd
 cases h.pos with
 | fin h1 _ => simp only at h1;rw [hd] at h1;cases h1
 | beg _ h0 hp => exact h.s0 hd h0 hp
 | at_ C r _ hr hc hp hk ha =>
  subst hr
  cases ha with
  | peek h1 => exact h.s1 hd hc hp hk h1
  | unl h2 hn hm => exact h.s2 hd hc hp hk h2 hn hm
  | jdg h3 hn hm => exact h.s3 hd hc hp hk h3 hn hm
  | mrk h4 hn hm ho => exact h.s4 hd hc hp hk h4 hn hm ho
  | ask h5 hn hm h1 hk2 hw hs => exact h.s5 hd hc hp hk h5 hn hm h1 hk2 hw hs
  | let_ h6 hn hm h1 hk2 hw hs => rw [st_6 hd h6];exact h.s67 hd hc hp hk hn hm h1 hk2 hw 1 (.inl ⟨rfl,h6,hs⟩)
  | ref h7 hn hm h1 hk2 hw hs => rw [st_7 hd h7];exact h.s67 hd hc hp hk hn hm h1 hk2 hw 2 (.inr ⟨rfl,h7⟩)
def runK (c:Cf) (s:St) (y:Kd):Nat → Kd
 | 0 => y
 | k + 1 => stepK c s (runK c s y k)
theorem WI.run {c:Cf} {s:St} {key mode:Int} {y:Kd} {pre rest:List Int} (h:WI c s key mode y pre rest):∀ k,∃ pre' rest',WI c s key mode (runK c s y k) pre' rest' ∧ mu c s (runK c s y k) rest' ≤ mu c s y rest - k
 | 0 => ⟨pre,rest,h,Nat.le_refl _⟩
 | k + 1 => by
  obtain ⟨p,r,h1,h2⟩:=h.run k
  by_cases hd:(runK c s y k).x.done = true
  ·refine ⟨p,r,?_,?_⟩
   ·show WI c s key mode (stepK c s (runK c s y k)) p r
    rw [st_d hd];exact h1
   ·show mu c s (stepK c s (runK c s y k)) r ≤ _
    rw [st_d hd]
    have:mu c s (runK c s y k) r = 0:=by cases r <;> simp [mu,hd]
    omega
  ·obtain ⟨p',r',h3,h4,-,-⟩:=h1.step (by simpa using hd)
   exact ⟨p',r',h3,by show mu c s (stepK c s (runK c s y k)) r' ≤ _;omega⟩
theorem WI.ends {c:Cf} {s:St} {key mode:Int} {y:Kd} {pre rest:List Int} (h:WI c s key mode y pre rest) {k:Nat} (hk:mu c s y rest ≤ k):(runK c s y k).x.done = true:=by
 obtain ⟨p,r,h1,h2⟩:=h.run k
 have h0:mu c s (runK c s y k) r = 0:=by omega
 cases hd:(runK c s y k).x.done with
 | true => rfl
 | false =>
  cases r with
  | nil => simp [mu,hd] at h0
  | cons C q =>
   simp only [mu,hd] at h0
   have:=muA_pos c s (runK c s y k).ws (runK c s y k).x C
   split at h0
   ·simp at *
   ·split at h0 <;> omega
end Go.Proofs.YtcogckjpmmjmbaaGreat
