/- An insert that nobody disturbs: it lays its node, and links it; it ends. -/
import Derived.Test.YtcogckjpmmjmbaaGreatQAGWkCl
namespace Go.Proofs.YtcogckjpmmjmbaaGreat
set_option maxRecDepth 100000
set_option linter.unusedVariables false
theorem headD_le {c:Cf} {s:St} {ws:List Int} {pre rest:List Int} (pb:PB c s ws (pre ++ rest)):0 ≤ rest.headD 0 ∧ rest.headD 0 ≤ 9999:=by
 cases rest with
 | nil => exact ⟨by decide,by decide⟩
 | cons a r => exact sc_le (pb.st a (by simp)) pb.lay.ok
theorem lastN_mem (pre:List Int):lastN pre ∈ 1 :: pre:=List.getLastD_mem_cons
theorem PI.s_lay {c:Cf} {th op key:Int} {ws:List Int} {n:Int} {s:St} {wk:Wk} {won:Bool} {pre rest:List Int} (h:PC c th op key s) (pb:PB c s ws (pre ++ rest)) (pw:PW c s ws wk key pre rest) (w:wd c ws op = 0) (nc:∀ a ∈ pre ++ rest,opAt s a ≠ op) (rm:at_ s.made th.toNat < 2 * c.k) :
  PNext c th op key ⟨ws,n,s,⟨op,th,3,0,false,wk,false,won⟩⟩ (16 * (pre ++ rest).length + 22):=by
 obtain ⟨s',nd,em,h',sc,hon,hk,ho⟩:=h.made pb.b1 pb.lay.ok rm
 have e:stepU c ⟨ws,n,s,⟨op,th,3,0,false,wk,false,won⟩⟩ = ⟨wr ws (nxtI c (nd:Int)) (zPack wk.curr false),n + cnt ws (nxtI c (nd:Int)),s',⟨op,th,4,(nd:Int),false,wk,false,won⟩⟩:=by
  simp [stepU,layU,setU,em]
 have s2:=sc.a2
 obtain ⟨ws',hws⟩:∃ x,wr ws (nxtI c (nd:Int)) (zPack wk.curr false) = x:=⟨_,rfl⟩
 have n':∀ b,nx c ws' b = if b = (nd:Int) then zPack wk.curr false else nx c ws b:=fun b => by rw [← hws];exact nx_wr pb.lay (by omega) sc.an _ b
 have w':∀ o,wd c ws' o = wd c ws o:=fun o => by rw [← hws];exact wd_wrn pb.lay (by omega) sc.an _ o
 have hne:∀ a ∈ pre ++ rest,a ≠ (nd:Int):=fun a ha => (hk a (pb.st a ha).o0).1
 have hop:∀ a ∈ pre ++ rest,opAt s' a = opAt s a:=fun a ha => (hk a (pb.st a ha).o0).2
 have hca:∀ o,calAt s' o = calAt s o:=fun o => by unfold calAt;rw [ho]
 have hke:∀ a ∈ pre ++ rest,keyOf_ s' a = keyOf_ s a:=fun a ha => by rw [key_op,key_op,hop a ha,hca]
 have nn:(nd:Int) ∉ 1 :: (pre ++ rest):=by
  intro q
  rcases List.mem_cons.1 q with q | q
  ·omega
  ·exact hne _ q rfl
 have hL:lastN pre ≠ (nd:Int):=fun q => nn (by
  have:=lastN_mem pre
  rw [q] at this
  rcases List.mem_cons.1 this with x | x
  ·rw [x];simp
  ·exact List.mem_cons_of_mem _ (List.mem_append_left _ x))
 have one:¬ (1:Int) = (nd:Int):=fun q => nn (by rw [← q];simp)
 have pb':PB c s' ws' (pre ++ rest):=by
  refine ⟨by rw [← hws];exact pb.lay.wr _ _,by rw [← hws];exact WOk.wr pb.wok _ _ (zPack_le _ _).1 (zPack_le _ _).2,pb.b1,?_,pb.nd,fun a ha => ?_,?_,?_⟩
  ·rw [n',if_neg one]
   exact pb.lk.congr (fun a ha => by rw [n',if_neg (hne a ha)])
  ·have:=pb.st a ha
   exact ⟨this.a2,this.an,by rw [hop a ha];exact this.o0,by rw [hop a ha];exact this.on⟩
  ·rw [n',if_neg one];exact pb.hd
  ·exact pb.up.imp_of_mem fun ha hb q => by rw [hke _ ha,hke _ hb];exact q
 have hle:=headD_le pb
 unfold PNext
 rw [e,hws]
 refine ⟨_,_,.link (nd:=(nd:Int)) h' pb' ⟨fun a ha => by rw [hke a (List.mem_append_left _ ha)];exact pw.pl a ha,fun a ha => by rw [hke a (List.mem_append_right _ ha)];exact pw.pr a ha,by rw [n',if_neg hL];exact pw.um,pw.pd,pw.cu⟩ (by rw [w'];exact w)
  (fun a ha => by rw [hop a ha];exact nc a ha) sc hon nn ?_,by omega,fun q => ?_⟩
 ·rw [n',if_pos rfl,pw.cu]
  exact zPack_ev hle.1 hle.2
 ·simp only at q ⊢
  rw [pb.sound] at q
  rw [pb'.sound,sndL_congr (fun a ha => ?_)]
  ·exact q
  ·have e1:refOf c ws' a = refOf c ws a:=by
    show nx c ws' a = nx c ws a
    rw [n',if_neg (hne a ha)]
   have e2:wrdOf c ws' (opAt s a) = wrdOf c ws (opAt s a):=w' _
   unfold ndOf
   rw [hop a ha,hca,e1,e2]
theorem PI.s_link {c:Cf} {th op key:Int} {ws:List Int} {n:Int} {s:St} {wk:Wk} {won:Bool} {pre rest:List Int} {nd:Int} (h:PC c th op key s) (pb:PB c s ws (pre ++ rest)) (pw:PW c s ws wk key pre rest) (w:wd c ws op = 0) (nc:∀ a ∈ pre ++ rest,opAt s a ≠ op)
  (sc:Sc c s nd) (hon:opAt s nd = op) (nn:nd ∉ 1 :: (pre ++ rest)) (nv:nx c ws nd = 2 * rest.headD 0) :
  PNext c th op key ⟨ws,n,s,⟨op,th,4,nd,false,wk,false,won⟩⟩ (16 * (pre ++ rest).length + 21):=by
 have hle:=headD_le pb
 have s2:=sc.a2
 have hsl:=sc_le sc pb.lay.ok
 have hP:0 ≤ lastN pre ∧ lastN pre < c.nodes:=by
  rcases List.mem_cons.1 (lastN_mem pre) with q | q
  ·have:=nodes_lt pb.lay.ok;omega
  ·have:=pb.st _ (List.mem_append_left _ q)
   have h1:=this.a2;have h2:=this.an;omega
 have hPl:lastN pre ∈ 1 :: (pre ++ rest):=by
  rcases List.mem_cons.1 (lastN_mem pre) with x | x
  ·rw [x];simp
  ·exact List.mem_cons_of_mem _ (List.mem_append_left _ x)
 have hL:lastN pre ≠ nd:=fun q => nn (q ▸ hPl)
 have zc:zPack wk.curr false = 2 * rest.headD 0:=by rw [pw.cu];exact zPack_ev hle.1 hle.2
 have zn:zPack nd false = 2 * nd:=zPack_ev hsl.1 hsl.2
 have cur:nx c ws (lastN pre) = 2 * rest.headD 0:=by
  have h1:=pb.lk.at
  have h2:=pw.um
  cases rest with
  | nil =>
   have h1:nx c ws (lastN pre) / 2 = 0:=h1
   simp only [List.headD_nil]
   omega
  | cons a r =>
   have h1:nx c ws (lastN pre) / 2 = a:=h1.1
   simp only [List.headD_cons]
   omega
 have hmay:may ws (nxtI c (lastN pre)) (2 * rest.headD 0) = true:=may_nx pb.lay hP.1 hP.2 cur
 have e:stepU c ⟨ws,n,s,⟨op,th,4,nd,false,wk,false,won⟩⟩ = ⟨sw ws (nxtI c (lastN pre)) (2 * rest.headD 0) (2 * nd),n + cnt ws (nxtI c (lastN pre)),s,⟨op,th,0,nd,true,wk,false,won⟩⟩:=by
  revert hmay zc
  generalize rest.headD 0 = v
  intro hmay zc
  simp [stepU,lnkU,pw.pd,zc,zn,hmay]
 obtain ⟨ws',hws⟩:∃ x,sw ws (nxtI c (lastN pre)) (2 * rest.headD 0) (2 * nd) = x:=⟨_,rfl⟩
 have n':∀ b,nx c ws' b = if b = lastN pre then 2 * nd else nx c ws b:=fun b => by
  rw [← hws,nx_sw pb.lay hP.1 hP.2]
  by_cases hb:b = lastN pre
  ·rw [if_pos ⟨hb,cur⟩,if_pos hb]
  ·rw [if_neg (fun q => hb q.1),if_neg hb]
 have w':∀ o,wd c ws' o = wd c ws o:=fun o => by rw [← hws];exact wd_swn pb.lay hP.1 hP.2 _ _ o
 have hnl:nd ∉ pre ++ rest:=fun q => nn (List.mem_cons_of_mem _ q)
 have hky:keyOf_ s nd = key:=h.keyAt hon
 have nnd:nx c ws' nd = 2 * rest.headD 0:=by rw [n',if_neg (Ne.symm hL)];exact nv
 have pb':PB c s ws' (pre ++ nd :: rest):=by
  refine ⟨by rw [← hws];exact pb.lay.sw _ _ _,by rw [← hws];exact WOk.sw pb.wok _ _ _ (by omega) (by omega),pb.b1,?_,?_,fun a ha => ?_,?_,?_⟩
  ·refine Lk.put (by omega) pb.lk pb.nd nn ?_ ?_ (fun b hb hne => ?_)
   ·show nx c ws' (lastN pre) / 2 = nd
    rw [n',if_pos rfl];omega
   ·rw [nnd];omega
   ·rw [n',if_neg (show b ≠ lastN pre from hne)]
  ·have hp:(1 :: (pre ++ nd :: rest)).Perm (nd :: 1 :: (pre ++ rest)):=(List.Perm.cons 1 List.perm_middle).trans (List.Perm.swap _ _ _)
   exact hp.nodup_iff.2 (List.nodup_cons.2 ⟨nn,pb.nd⟩)
  ·rcases List.mem_append.1 ha with ha | ha
   ·exact pb.st a (List.mem_append_left _ ha)
   ·rcases List.mem_cons.1 ha with rfl | ha
    ·exact sc
    ·exact pb.st a (List.mem_append_right _ ha)
  ·rw [n']
   split
   ·omega
   ·exact pb.hd
  ·have hu:=pb.up
   rw [List.pairwise_append] at hu ⊢
   obtain ⟨u1,u2,u3⟩:=hu
   refine ⟨u1,List.pairwise_cons.2 ⟨fun b hb => by have:=pw.pr b hb;omega,u2⟩,fun a ha b hb => ?_⟩
   rcases List.mem_cons.1 hb with rfl | hb
   ·have:=pw.pl a ha;omega
   ·exact u3 a ha b hb
 unfold PNext
 rw [e,hws]
 refine ⟨_,_,.ask2 h pb' (by rw [w'];exact w) (by simp) hon (by rw [nnd];omega),?_,fun q => ?_⟩
 ·simp only [List.length_append,List.length_cons];omega
 ·simp only at q ⊢
  rw [pb.sound] at q
  rw [pb'.sound]
  exact sndL_link pb.b1 (by rw [hon];exact h.kind) hky (by rw [hon,w'];exact w) (by rw [nnd];omega) hnl h.k0 pw.pl pw.pr w' (fun a ha => by
   rw [n']
   split
   ·next hq => rw [hq,cur];omega
   ·rfl) q
theorem PI.step {c:Cf} {th op key:Int} {y:Ku} {l:List Int} {b:Nat} (h:PI c th op key y l b) (hd:y.x.done = false):PNext c th op key y b:=by
 cases h with
 | ask0 h pb w nc rm => exact PI.s_ask0 h pb w nc rm
 | walk1 h wi up pl wdn wst w nc rm => exact PI.s_walk1 h wi up pl wdn wst w nc rm
 | ask1 h pb pw w nc rm => exact PI.s_ask1 h pb pw w nc rm
 | lay h pb pw w nc rm => exact PI.s_lay h pb pw w nc rm
 | link h pb pw w nc sc hon nn nv => exact PI.s_link h pb pw w nc sc hon nn nv
 | ask2 h pb w hm hon um => exact PI.s_ask2 h pb w hm hon um
 | walk2 h wi up wdn wst hon j => exact PI.s_walk2 h wi up wdn wst hon j
 | ask3 h pb w => exact PI.s_ask3 h pb w
 | walk3 h wi up wdn => exact PI.s_walk3 h wi up wdn
 | fin dn pb => rw [hd] at dn;cases dn
theorem stepU_done {c:Cf} {y:Ku} (hd:y.x.done = true):stepU c y = y:=by unfold stepU;rw [if_pos hd]
theorem PI.run {c:Cf} {th op key:Int} {y:Ku} {l:List Int} {b:Nat} (h:PI c th op key y l b):∀ k,∃ l' b',PI c th op key (runU c y k) l' b' ∧ (b' ≤ b - k ∨ (runU c y k).x.done = true) ∧ (sndTo c y.ws y.s c.b = true → sndTo c (runU c y k).ws (runU c y k).s c.b = true)
 | 0 => ⟨l,b,h,.inl (Nat.le_refl _),id⟩
 | k + 1 => by
  obtain ⟨l1,b1,h1,h2,h3⟩:=h.run k
  cases hd:(runU c y k).x.done with
  | true =>
   have e:runU c y (k + 1) = runU c y k:=stepU_done hd
   rw [e]
   exact ⟨l1,b1,h1,.inr hd,h3⟩
  | false =>
   obtain ⟨l2,b2,q1,q2,q3⟩:=h1.step hd
   refine ⟨l2,b2,q1,.inl ?_,fun q => q3 (h3 q)⟩
   rcases h2 with h2 | h2
   ·omega
   ·rw [hd] at h2;cases h2
theorem PI.ends {c:Cf} {th op key:Int} {y:Ku} {l:List Int} {b:Nat} (h:PI c th op key y l b) {k:Nat} (hk:b < k):(runU c y k).x.done = true:=by
 obtain ⟨l1,b1,h1,h2,-⟩:=h.run b
 have hz:(runU c y (b + 1)).x.done = true:=by
  cases hd:(runU c y b).x.done with
  | true => rw [show runU c y (b + 1) = runU c y b from stepU_done hd];exact hd
  | false =>
   obtain ⟨l2,b2,-,q2,-⟩:=h1.step hd
   rcases h2 with h2 | h2
   ·omega
   ·rw [hd] at h2;cases h2
 have key:∀ j,(runU c y (b + 1 + j)).x.done = true:=by
  intro j
  induction j with
  | zero => exact hz
  | succ j ih => rw [show runU c y (b + 1 + (j + 1)) = runU c y (b + 1 + j) from stepU_done ih];exact ih
 have:=key (k - (b + 1))
 rwa [show b + 1 + (k - (b + 1)) = k by omega] at this
end Go.Proofs.YtcogckjpmmjmbaaGreat
