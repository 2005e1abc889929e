/- An insert that nobody disturbs: it lays its node, and links it; it ends. -/
import Derived.Test.YtcogckjpmmjmbaaGreatQDGWkCl
import Derived.Test.YtcogckjpmmjmbaaGreatQDWalk
import Derived.Test.YtcogckjpmmjmbaaGreatQDMScene
import Derived.Test.YtcogckjpmmjmbaaGreatQDMMap
import Derived.Test.YtcogckjpmmjmbaaGreatQDWkSo
import Derived.Test.YtcogckjpmmjmbaaGreatQDGLaid
import Derived.Test.YtcogckjpmmjmbaaGreatQDMWorld
import Derived.Test.YtcogckjpmmjmbaaGreatQDMSound
import Derived.Test.YtcogckjpmmjmbaaGreatQDInsO
import Derived.Test.YtcogckjpmmjmbaaGreatQDMSorted
import Derived.Test.YtcogckjpmmjmbaaGreatQDMRefW
import Derived.Test.YtcogckjpmmjmbaaGreatQDGMRoute
import Derived.Test.YtcogckjpmmjmbaaGreatQDMWRef
import Derived.Test.YtcogckjpmmjmbaaGreatQDMBase
import Derived.Test.YtcogckjpmmjmbaaGreatQDWkRun
namespace Go.Proofs.YtcogckjpmmjmbaaGreat
set_option maxRecDepth 100000
set_option linter.unusedVariables false
theorem headD_le {c:Cf} {s:St} {ws:List Int} {pre rest:List Int} (pb:PB c s ws (pre ++ rest)):0 ≤ rest.headD 0 ∧ rest.headD 0 ≤ 9999:=by
 cases rest with
 | nil => exact ⟨by decide,by decide⟩
 | cons a r => exact sc_le (pb.st a (by simp)) pb.lay.ok
theorem lastN_mem (pre:List Int):lastN pre ∈ 1 :: pre:=List.getLastD_mem_cons
theorem PI.s_lay {c:Cf} {th op key:Int} {ws:List Int} {n:Int} {s:St} {wk:Wk} {won:Bool} {pre rest:List Int} (h:PC c th op key s) (pb:PB c s ws (pre ++ rest)) (pw:PW c s ws wk key pre rest) (w:wd c ws op = 0) (nc:∀ a ∈ pre ++ rest,opAt s a ≠ op) (rm:at_ s.made th.toNat < 2 * c.k) :
  PNext c th op key ⟨ws,n,s,⟨op,th,3,0,false,wk,false,won⟩⟩ (16 * (pre ++ rest).length + 22):=by
 obtain ⟨s',nd,em,h',sc,hon,hk,ho⟩:=h.made pb.b1 pb.lay.ok rm
 have e:stepU c ⟨ws,n,s,⟨op,th,3,0,false,wk,false,won⟩⟩ = ⟨wr ws (nxtI c (nd:Int)) (zPack wk.curr false),n + cnt ws (nxtI c (nd:Int)),s',⟨op,th,4,(nd:Int),false,wk,false,won⟩⟩:=by
  simp [stepU,layU,setU,em]
 have s2:=sc.a2
 obtain ⟨ws',hws⟩:∃ x,wr ws (nxtI c (nd:Int)) (zPack wk.curr false) = x:=⟨_,rfl⟩
 have n':∀ b,nx c ws' b = if b = (nd:Int) then zPack wk.curr false else nx c ws b:=fun b => by rw [← hws];exact nx_wr pb.lay (by omega) sc.an _ b
 have w':∀ o,wd c ws' o = wd c ws o:=fun o => by rw [← hws];exact wd_wrn pb.lay (by omega) sc.an _ o
 have hne:∀ a ∈ pre ++ rest,a ≠ (nd:Int):=fun a ha => (hk a (pb.st a ha).o0).1
 have hop:∀ a ∈ pre ++ rest,opAt s' a = opAt s a:=fun a ha => (hk a (pb.st a ha).o0).2
 have hca:∀ o,calAt s' o = calAt s o:=fun o => by unfold calAt;rw [ho]
 have hke:∀ a ∈ pre ++ rest,keyOf_ s' a = keyOf_ s a:=fun a ha => by rw [key_op,key_op,hop a ha,hca]
 have nn:(nd:Int) ∉ 1 :: (pre ++ rest):=by
  intro q
  rcases List.mem_cons.1 q with q | q
  ·omega
  ·exact hne _ q rfl
 have hL:lastN pre ≠ (nd:Int):=fun q => nn (by
  have:=lastN_mem pre
  rw [q] at this
  rcases List.mem_cons.1 this with x | x
  ·rw [x];simp
  ·exact List.mem_cons_of_mem _ (List.mem_append_left _ x))
 have one:¬ (1:Int) = (nd:Int):=fun q => nn (by rw [← q];simp)
 have pb':PB c s' ws' (pre ++ rest):=by
  refine ⟨by rw [← hws];exact pb.lay.wr _ _,by rw [← hws];exact WOk.wr pb.wok _ _ (zPack_le _ _).1 (zPack_le _ _).2,pb.b1,?_,pb.nd,fun a ha => ?_,?_,?_⟩
  ·rw [n',if_neg one]
   exact pb.lk.congr (fun a ha => by rw [n',if_neg (hne a ha)])
  ·have:=pb.st a ha
   exact ⟨this.a2,this.an,by rw [hop a ha];exact this.o0,by rw [hop a ha];exact this.on⟩
  ·rw [n',if_neg one];exact pb.hd
  ·exact pb.up.imp_of_mem fun ha hb q => by rw [hke _ ha,hke _ hb];exact q
 have hle:=headD_le pb
 unfold PNext
 rw [e,hws]
 refine ⟨_,_,.link (nd:=(nd:Int)) h' pb' ⟨fun a ha => by rw [hke a (List.mem_append_left _ ha)];exact pw.pl a ha,fun a ha => by rw [hke a (List.mem_append_right _ ha)];exact pw.pr a ha,by rw [n',if_neg hL];exact pw.um,pw.pd,pw.cu⟩ (by rw [w'];exact w)
  (fun a ha => by rw [hop a ha];exact nc a ha) sc hon nn ?_,by omega,fun q => ?_⟩
 ·rw [n',if_pos rfl,pw.cu]
  exact zPack_ev hle.1 hle.2
 ·simp only at q ⊢
  rw [pb.sound] at q
  rw [pb'.sound,sndL_congr (fun a ha => ?_)]
  ·exact q
  ·have e1:refOf c ws' a = refOf c ws a:=by
    show nx c ws' a = nx c ws a
    rw [n',if_neg (hne a ha)]
   have e2:wrdOf c ws' (opAt s a) = wrdOf c ws (opAt s a):=w' _
   unfold ndOf
   rw [hop a ha,hca,e1,e2]
theorem PI.s_link {c:Cf} {th op key:Int} {ws:List Int} {n:Int} {s:St} {wk:Wk} {won:Bool} {pre rest:List Int} {nd:Int} (h:PC c th op key s) (pb:PB c s ws (pre ++ rest)) (pw:PW c s ws wk key pre rest) (w:wd c ws op = 0) (nc:∀ a ∈ pre ++ rest,opAt s a ≠ op)
  (sc:Sc c s nd) (hon:opAt s nd = op) (nn:nd ∉ 1 :: (pre ++ rest)) (nv:nx c ws nd = 2 * rest.headD 0) :
  PNext c th op key ⟨ws,n,s,⟨op,th,4,nd,false,wk,false,won⟩⟩ (16 * (pre ++ rest).length + 21):=by
 have hle:=headD_le pb
 have s2:=sc.a2
 have hsl:=sc_le sc pb.lay.ok
 have hP:0 ≤ lastN pre ∧ lastN pre < c.nodes:=by
  rcases List.mem_cons.1 (lastN_mem pre) with q | q
  ·have:=nodes_lt pb.lay.ok;omega
  ·have:=pb.st _ (List.mem_append_left _ q)
   have h1:=this.a2;have h2:=this.an;omega
 have hPl:lastN pre ∈ 1 :: (pre ++ rest):=by
  rcases List.mem_cons.1 (lastN_mem pre) with x | x
  ·rw [x];simp
  ·exact List.mem_cons_of_mem _ (List.mem_append_left _ x)
 have hL:lastN pre ≠ nd:=fun q => nn (q ▸ hPl)
 have zc:zPack wk.curr false = 2 * rest.headD 0:=by rw [pw.cu];exact zPack_ev hle.1 hle.2
 have zn:zPack nd false = 2 * nd:=zPack_ev hsl.1 hsl.2
 have cur:nx c ws (lastN pre) = 2 * rest.headD 0:=by
  have h1:=pb.lk.at
  have h2:=pw.um
  cases rest with
  | nil =>
   have h1:nx c ws (lastN pre) / 2 = 0:=h1
   simp only [List.headD_nil]
   omega
  | cons a r =>
   have h1:nx c ws (lastN pre) / 2 = a:=h1.1
   simp only [List.headD_cons]
   omega
 have hmay:may ws (nxtI c (lastN pre)) (2 * rest.headD 0) = true:=may_nx pb.lay hP.1 hP.2 cur
 have e:stepU c ⟨ws,n,s,⟨op,th,4,nd,false,wk,false,won⟩⟩ = ⟨sw ws (nxtI c (lastN pre)) (2 * rest.headD 0) (2 * nd),n + cnt ws (nxtI c (lastN pre)),s,⟨op,th,0,nd,true,wk,false,won⟩⟩:=by
  revert hmay zc
  generalize rest.headD 0 = v
  intro hmay zc
  simp [stepU,lnkU,pw.pd,zc,zn,hmay]
 obtain ⟨ws',hws⟩:∃ x,sw ws (nxtI c (lastN pre)) (2 * rest.headD 0) (2 * nd) = x:=⟨_,rfl⟩
 have n':∀ b,nx c ws' b = if b = lastN pre then 2 * nd else nx c ws b:=fun b => by
  rw [← hws,nx_sw pb.lay hP.1 hP.2]
  by_cases hb:b = lastN pre
  ·rw [if_pos ⟨hb,cur⟩,if_pos hb]
  ·rw [if_neg (fun q => hb q.1),if_neg hb]
 have w':∀ o,wd c ws' o = wd c ws o:=fun o => by rw [← hws];exact wd_swn pb.lay hP.1 hP.2 _ _ o
 have hnl:nd ∉ pre ++ rest:=fun q => nn (List.mem_cons_of_mem _ q)
 have hky:keyOf_ s nd = key:=h.keyAt hon
 have nnd:nx c ws' nd = 2 * rest.headD 0:=by rw [n',if_neg (Ne.symm hL)];exact nv
 have pb':PB c s ws' (pre ++ nd :: rest):=by
  refine ⟨by rw [← hws];exact pb.lay.sw _ _ _,by rw [← hws];exact WOk.sw pb.wok _ _ _ (by omega) (by omega),pb.b1,?_,?_,fun a ha => ?_,?_,?_⟩
  ·refine Lk.put (by omega) pb.lk pb.nd nn ?_ ?_ (fun b hb hne => ?_)
   ·show nx c ws' (lastN pre) / 2 = nd
    rw [n',if_pos rfl];omega
   ·rw [nnd];omega
   ·rw [n',if_neg (show b ≠ lastN pre from hne)]
  ·have hp:(1 :: (pre ++ nd :: rest)).Perm (nd :: 1 :: (pre ++ rest)):=(List.Perm.cons 1 List.perm_middle).trans (List.Perm.swap _ _ _)
   exact hp.nodup_iff.2 (List.nodup_cons.2 ⟨nn,pb.nd⟩)
  ·rcases List.mem_append.1 ha with ha | ha
   ·exact pb.st a (List.mem_append_left _ ha)
   ·rcases List.mem_cons.1 ha with rfl | ha
    ·exact sc
    ·exact pb.st a (List.mem_append_right _ ha)
  ·rw [n']
   split
   ·omega
   ·exact pb.hd
  ·have hu:=pb.up
   rw [List.pairwise_append] at hu ⊢
   obtain ⟨u1,u2,u3⟩:=hu
   refine ⟨u1,List.pairwise_cons.2 ⟨fun b hb => by have:=pw.pr b hb;omega,u2⟩,fun a ha b hb => ?_⟩
   rcases List.mem_cons.1 hb with rfl | hb
   ·have:=pw.pl a ha;omega
   ·exact u3 a ha b hb
 unfold PNext
 rw [e,hws]
 refine ⟨_,_,.ask2 h pb' (by rw [w'];exact w) (by simp) hon (by rw [nnd];omega),?_,fun q => ?_⟩
 ·simp only [List.length_append,List.length_cons];omega
 ·simp only at q ⊢
  rw [pb.sound] at q
  rw [pb'.sound]
  exact sndL_link pb.b1 (by rw [hon];exact h.kind) hky (by rw [hon,w'];exact w) (by rw [nnd];omega) hnl h.k0 pw.pl pw.pr w' (fun a ha => by
   rw [n']
   split
   ·next hq => rw [hq,cur];omega
   ·rfl) q
theorem PI.step {c:Cf} {th op key:Int} {y:Ku} {l:List Int} {b:Nat} (h:PI c th op key y l b) (hd:y.x.done = false):PNext c th op key y b:=by
 cases h with
 | ask0 h pb w nc rm => exact PI.s_ask0 h pb w nc rm
 | walk1 h wi up pl wdn wst w nc rm => exact PI.s_walk1 h wi up pl wdn wst w nc rm
 | ask1 h pb pw w nc rm => exact PI.s_ask1 h pb pw w nc rm
 | lay h pb pw w nc rm => exact PI.s_lay h pb pw w nc rm
 | link h pb pw w nc sc hon nn nv => exact PI.s_link h pb pw w nc sc hon nn nv
 | ask2 h pb w hm hon um => exact PI.s_ask2 h pb w hm hon um
 | walk2 h wi up wdn wst hon j => exact PI.s_walk2 h wi up wdn wst hon j
 | ask3 h pb w => exact PI.s_ask3 h pb w
 | walk3 h wi up wdn => exact PI.s_walk3 h wi up wdn
 | fin dn pb => rw [hd] at dn;cases dn
theorem stepU_done {c:Cf} {y:Ku} (hd:y.x.done = true):stepU c y = y:=by unfold stepU;rw [if_pos hd]
theorem PI.run {c:Cf} {th op key:Int} {y:Ku} {l:List Int} {b:Nat} (h:PI c th op key y l b):∀ k,∃ l' b',PI c th op key (runU c y k) l' b' ∧ (b' ≤ b - k ∨ (runU c y k).x.done = true) ∧ (sndTo c y.ws y.s c.b = true → sndTo c (runU c y k).ws (runU c y k).s c.b = true)
 | 0 => ⟨l,b,h,.inl (Nat.le_refl _),id⟩
 | k + 1 => by
  obtain ⟨l1,b1,h1,h2,h3⟩:=h.run k
  cases hd:(runU c y k).x.done with
  | true =>
   have e:runU c y (k + 1) = runU c y k:=stepU_done hd
   rw [e]
   exact ⟨l1,b1,h1,.inr hd,h3⟩
  | false =>
   obtain ⟨l2,b2,q1,q2,q3⟩:=h1.step hd
   refine ⟨l2,b2,q1,.inl ?_,fun q => q3 (h3 q)⟩
   rcases h2 with h2 | h2
   ·omega
   ·rw [hd] at h2;cases h2
theorem PI.ends {c:Cf} {th op key:Int} {y:Ku} {l:List Int} {b:Nat} (h:PI c th op key y l b) {k:Nat} (hk:b < k):(runU c y k).x.done = true:=by
 obtain ⟨l1,b1,h1,h2,-⟩:=h.run b
 have hz:(runU c y (b + 1)).x.done = true:=by
  cases hd:(runU c y b).x.done with
  | true => rw [show runU c y (b + 1) = runU c y b from stepU_done hd];exact hd
  | false =>
   obtain ⟨l2,b2,-,q2,-⟩:=h1.step hd
   rcases h2 with h2 | h2
   ·omega
   ·rw [hd] at h2;cases h2
 have key:∀ j,(runU c y (b + 1 + j)).x.done = true:=by
  intro j
  induction j with
  | zero => exact hz
  | succ j ih => rw [show runU c y (b + 1 + (j + 1)) = runU c y (b + 1 + j) from stepU_done ih];exact ih
 have:=key (k - (b + 1))
 rwa [show b + 1 + (k - (b + 1)) = k by omega] at this
end Go.Proofs.YtcogckjpmmjmbaaGreat
namespace Go.Proofs.YtcogckjpmmjmbaaGreat
open Go.ChangeShapes Go.WideShapes Go.ChangeAt Go.RowKit
set_option maxRecDepth 100000
set_option linter.unusedVariables false
structure PlAt (w:World) (c:Cf) (d:Wd) (r:Nat) (y:Ku):Prop where
 wd:WdAt w c d y.ws y.n y.s
 box:Box w r y.x.l
 nm:¬ Ow d r
 nx:¬ d.x = r
 hr:d.a.hi ≤ r
def So (d:Wd) (r:Nat):Nat → Prop:=fun i => Ow d i ∨ i = r
theorem so_r {d:Wd} {r:Nat} {w w':World} (q:But (fun i => i = r) w w'):But (So d r) w w':=q.mono fun _ h => .inr h
theorem so_m {d:Wd} {r:Nat} {w w':World} (q:But (Mine d.p d.b) w w'):But (So d r) w w':=q.mono fun _ h => .inl (.inr h)
theorem WdAt.othB {w w':World} {c:Cf} {d:Wd} {ws:List Int} {n:Int} {s:St} {T:Nat} {z:Int} (h:WdAt w c d ws n s) (q:But (fun i => i = T) w w') (hT:d.a.hi ≤ T) (hm:¬ Mine d.p d.b T) (hx:¬ d.x = T)
  (h1:w.cell? ⟨T,1,none⟩ = some (.int .i64 z)):WdAt w' c d ws n s:=by
 have hp:¬ d.p = T:=fun e => hm (.inl e.symm)
 have hb:¬ d.b = T:=fun e => hm (.inr e.symm)
 have B:=h.bank
 exact ⟨q.cell hx h.k0,q.cell hx h.k1,q.cell hx h.k2,q.cell hx h.k3,q.cell hx h.k4,q.cell hx h.k5,q.cell hx h.k6,
  ⟨q.cell hp B.words,q.cell hp B.steps,fun i j hij => q.frozen (B.free i j hij),fun j hj => q.cell hb (B.cells j hj),B.apart,Nat.lt_of_lt_of_le B.ltb q.2.2,B.few⟩,
  h.book.other q (by omega) h1,h.len,h.mine,h.o1,h.o2,h.o3⟩
theorem PlAt.grown {w w':World} {c:Cf} {d:Wd} {r:Nat} {y:Ku} (h:PlAt w c d r y) (g:Grown w w'):PlAt w' c d r y:=⟨h.wd.grown g,h.box.grown g,h.nm,h.nx,h.hr⟩
theorem PlAt.put {w w':World} {c:Cf} {d:Wd} {r:Nat} {y:Ku} {x:Put} (h:PlAt w c d r y) (hB:Box w' r x.l) (q:But (fun i => i = r) w w'):PlAt w' c d r ⟨y.ws,y.n,y.s,x⟩ :=
 ⟨h.wd.othB q h.hr (fun m => h.nm (.inr m)) h.nx (h.box.cell 1 _ rfl),hB,h.nm,h.nx,h.hr⟩
theorem PlAt.step {w w':World} {c:Cf} {d:Wd} {r:Nat} {y:Ku} {ws:List Int} {n:Int} (h:PlAt w c d r y) (q:LeftW c d ws n y.s w w'):PlAt w' c d r ⟨ws,n,y.s,y.x⟩ :=
 ⟨q.2,h.box.but q.1 (fun m => h.nm (.inr m)),h.nm,h.nx,h.hr⟩
theorem load_mid {P:Program} {ops:Array Oper} {rest:List Oper} {op:Oper} {a:Act} {w:World} {Q:Exit → Act → World → Prop} (hgd:op.guard = none) (ty:TypeId) (x:Operand) (ho:op.op = .load ty x)
  (b f:Nat) (hx:a.eval x = .pointer (some ⟨b,f,none⟩)) (l l':List Value) (d:TypeDesc) (hu:P.underlying ty = some d) (hd:d.isRow = true) (hi:(P.info? ty).map (·.size) = some l'.length) (hB:Box w b l) (hl:(l.drop f).take l'.length = l')
  (h:wpList P ops Q rest (a.put op.dst (.agg l'.toArray)) w):wpList P ops Q (op :: rest) a w :=
 wpList_load_mid hgd ty x ho b f hx l' d (fun j v hv => by
  refine hB.cell (f + j) v ?_
  rw [← hl] at hv
  rw [List.getElem?_take] at hv
  split at hv
  ·rw [List.getElem?_drop] at hv;exact hv
  ·cases hv) hu hd hi h
end Go.Proofs.YtcogckjpmmjmbaaGreat
namespace Go.Proofs.YtcogckjpmmjmbaaGreat
open Go.ChangeShapes Go.WideShapes Go.ChangeAt Go.RowKit Go.ChangeMaps
set_option maxRecDepth 100000
set_option linter.unusedVariables false
def entF:Nat → List Value → List MapEntry
 | _,[] => []
 | i,v :: r => { key:=.int .i64 i,val:=v,born:=i } :: entF (i + 1) r
def MapF (w:World) (mb:Nat) (vs:List Value):Prop:=w.heap[mb]? = some (.map (entF 0 vs).toArray vs.length)
theorem MapF.lt {w:World} {mb:Nat} {vs:List Value} (h:MapF w mb vs):mb < w.heap.size:=(Array.getElem?_eq_some_iff.1 h).1
theorem MapF.but {S:Nat → Prop} {w w':World} {mb:Nat} {vs:List Value} (h:MapF w mb vs) (g:But S w w') (hs:¬ S mb):MapF w' mb vs:=by
 have e:w'.heap[mb]? = w.heap[mb]?:=g.1.block h.lt (fun p hp hpi => by subst hpi;exact hs hp)
 exact e.trans h
theorem MapF.grown {w w':World} {mb:Nat} {vs:List Value} (h:MapF w mb vs) (g:Grown w w'):MapF w' mb vs:=h.but (S:=fun _ => False) g (fun f => f)
theorem MapF.made (w:World):MapF (w.alloc (.map #[] 0)) w.heap.size []:=(MapKept.heap_alloc w _).1
section
variable {P:Program} {t k e:TypeId} {w:World} {mb:Nat} {vs:List Value}
end
end Go.Proofs.YtcogckjpmmjmbaaGreat
namespace Go.Proofs.YtcogckjpmmjmbaaGreat
set_option maxRecDepth 100000
set_option linter.unusedVariables false
theorem UOk.run {c:Cf} (hc:c.Ok) {y:Ku} {m:Int} {q:Nat} (h:UOk c y m q):∀ k:Nat,UOk c (runU c y k) (m + k) (q + k)
 | 0 => by simpa [runU] using h
 | k + 1 => by
  have:=(UOk.run hc h k).step hc
  rw [show m + (((k + 1:Nat)):Int) = m + k + 1 by omega,show q + (k + 1) = q + k + 1 by omega]
  exact this
end Go.Proofs.YtcogckjpmmjmbaaGreat
namespace Go.Proofs.YtcogckjpmmjmbaaGreat
open Go.ChangeShapes Go.WideShapes Go.ChangeAt Go.RowKit
set_option maxRecDepth 100000
set_option linter.unusedVariables false
theorem PlAt.new {w w':World} {c:Cf} {d:Wd} {s:St} {ws:List Int} {n:Int} {x:Put} {T:Nat} (h:WdAt w c d ws n s) (g:Grown w w') (hB:Box w' T x.l) (hT:w.heap.size ≤ T):PlAt w' c d T ⟨ws,n,s,x⟩ :=
 ⟨h.grown g,hB,h.ow_lt hT,fun e => by have:=h.xlt;omega,by have:=h.book.o6;omega⟩
end Go.Proofs.YtcogckjpmmjmbaaGreat
namespace Go.Proofs.YtcogckjpmmjmbaaGreat
set_option maxRecDepth 100000
set_option linter.unusedVariables false
def kyN (s:St) (a:Int):Int:=(calAt s (opAt s a)).key
def overV (c:Cf) (ws:List Int) (op:Int):Bool:=decide (2 ≤ wrdOf c ws op)
def firV (s:St) (op:Int) (l:List Int):Bool:=l.all fun y => !(opAt s y == op)
def opnV (c:Cf) (ws:List Int) (s:St) (key:Int) (l:List Int):Bool:=l.any fun y => (kyN s y == key) && !overV c ws (opAt s y)
def leV (s:St) (key:Int) (l:List Int):Bool:=l.all fun y => decide (kyN s y ≤ key)
def fitD (c:Cf) (ws:List Int) (s:St) (b:Int) (pre:List Int) (x:Int):Bool :=
  (decide ((calAt s (opAt s x)).kind = 1) && decide (zBucket (kyN s x) c.b = b) && !decide (x ∈ pre)) && (leV s (kyN s x) pre &&
    !(firV s (opAt s x) pre && ((refOf c ws x % 2 == 1 && !overV c ws (opAt s x)) || (opnV c ws s (kyN s x) pre && insV c ws s (opAt s x)))))
def sndD (c:Cf) (ws:List Int) (s:St) (b:Int):List Int → List Int → Bool
  | _,[] => true
  | pre,x :: r => if fitD c ws s b pre x = true then sndD c ws s b (pre ++ [x]) r else false
structure PsFor (c:Cf) (ws:List Int) (s:St) (p:Ps) (pre:List Int):Prop where
  nodes:∀ x,x ∈ p.nodes ↔ x ∈ pre
  ops:∀ o,o ∈ p.ops ↔ ∃ y ∈ pre,opAt s y = o
  opens:∀ k,k ∈ p.opens ↔ ∃ y ∈ pre,kyN s y = k ∧ ¬ 2 ≤ wrdOf c ws (opAt s y)
  key:∀ k,0 ≤ k → (k < p.key ↔ ∃ y ∈ pre,k < kyN s y)
theorem PsFor.fit {c:Cf} {ws:List Int} {s:St} {p:Ps} {pre:List Int} (h:PsFor c ws s p pre) (b x:Int) (hk:0 ≤ kyN s x):fitV c b p (ndOf c ws s x) = fitD c ws s b pre x:=by
  have e1:decide (x ∈ p.nodes) = decide (x ∈ pre):=decide_eq_decide.2 (h.nodes x)
  have e2:decide (kyN s x < p.key) = !leV s (kyN s x) pre:=by
    rw [Bool.eq_iff_iff,decide_eq_true_iff,h.key _ hk]
    simp [leV]
  have e3:decide (opAt s x ∈ p.ops) = !firV s (opAt s x) pre:=by
    rw [Bool.eq_iff_iff,decide_eq_true_iff,h.ops]
    simp [firV]
  have e4:decide (kyN s x ∈ p.opens) = opnV c ws s (kyN s x) pre:=by
    rw [Bool.eq_iff_iff,decide_eq_true_iff,h.opens]
    simp [opnV,overV]
  show (decide ((calAt s (opAt s x)).kind = 1) && decide (zBucket (kyN s x) c.b = b) && (if x ∈ p.nodes ∨ kyN s x < p.key then false else if opAt s x ∈ p.ops ∨ 2 ≤ wrdOf c ws (opAt s x) then true else !(refOf c ws x % 2 == 1) && !(decide (wrdOf c ws (opAt s x) = 1) && decide (kyN s x ∈ p.opens)))) =
    ((decide ((calAt s (opAt s x)).kind = 1) && decide (zBucket (kyN s x) c.b = b) && !decide (x ∈ pre)) && (leV s (kyN s x) pre &&
    !(firV s (opAt s x) pre && ((refOf c ws x % 2 == 1 && !decide (2 ≤ wrdOf c ws (opAt s x))) || (opnV c ws s (kyN s x) pre && decide ((calAt s (opAt s x)).kind = 1 ∧ wrdOf c ws (opAt s x) = 1))))))
  have e2':leV s (kyN s x) pre = !decide (kyN s x < p.key):=by rw [e2];simp
  have e3':firV s (opAt s x) pre = !decide (opAt s x ∈ p.ops):=by rw [e3];simp
  rw [e2',e3',← e1,← e4]
  generalize (calAt s (opAt s x)).kind = kd at *
  generalize decide (zBucket (kyN s x) c.b = b) = B
  generalize wrdOf c ws (opAt s x) = wv
  generalize (refOf c ws x % 2 == 1) = mk
  by_cases h1:x ∈ p.nodes
  · simp [h1]
  · by_cases h2:kyN s x < p.key
    · simp [h1,h2]
    · by_cases h3:opAt s x ∈ p.ops
      · simp [h1,h2,h3]
      · by_cases h4:2 ≤ wv
        · have h5:¬ wv = 1:=by omega
          simp [h1,h2,h3,h4,h5]
        · by_cases h5:kd = 1
          · simp [h1,h2,h3,h4,h5,Bool.and_comm]
          · simp [h5]
theorem PsFor.pass {c:Cf} {ws:List Int} {s:St} {p:Ps} {pre:List Int} (h:PsFor c ws s p pre) {b x:Int} (hf:fitD c ws s b pre x = true):PsFor c ws s (passV p (ndOf c ws s x)) (pre ++ [x]):=by
  have hle:∀ y ∈ pre,kyN s y ≤ kyN s x:=by
    unfold fitD at hf
    simp only [Bool.and_eq_true] at hf
    have:=hf.2.1
    unfold leV at this
    intro y hy
    exact of_decide_eq_true (List.all_eq_true.1 this y hy)
  refine ⟨fun y => ?_,fun o => ?_,fun k => ?_,fun k hk => ?_⟩
  · simp only [passV,ndOf,mem_addK,h.nodes,List.mem_append,List.mem_singleton]
  · simp only [passV,ndOf,mem_addK,h.ops,List.mem_append,List.mem_singleton]
    constructor
    · rintro (⟨y,hy,e⟩ | e)
      · exact ⟨y,.inl hy,e⟩
      · exact ⟨x,.inr rfl,e.symm⟩
    · rintro ⟨y,hy | hy,e⟩
      · exact .inl ⟨y,hy,e⟩
      · exact .inr (by rw [← e,hy])
  · show (k ∈ if 2 ≤ wrdOf c ws (opAt s x) then p.opens else addK p.opens (kyN s x)) ↔ _
    by_cases h2:2 ≤ wrdOf c ws (opAt s x)
    · rw [if_pos h2,h.opens]
      constructor
      · rintro ⟨y,hy,e⟩
        exact ⟨y,List.mem_append.2 (.inl hy),e⟩
      · rintro ⟨y,hy,e,e2⟩
        rcases List.mem_append.1 hy with hy | hy
        · exact ⟨y,hy,e,e2⟩
        · rw [List.mem_singleton] at hy
          subst hy
          exact absurd h2 e2
    · rw [if_neg h2,mem_addK,h.opens]
      constructor
      · rintro (⟨y,hy,e⟩ | e)
        · exact ⟨y,List.mem_append.2 (.inl hy),e⟩
        · exact ⟨x,List.mem_append.2 (.inr (List.mem_singleton.2 rfl)),e.symm,h2⟩
      · rintro ⟨y,hy,e,e2⟩
        rcases List.mem_append.1 hy with hy | hy
        · exact .inl ⟨y,hy,e,e2⟩
        · rw [List.mem_singleton] at hy
          subst hy
          exact .inr e.symm
  · simp only [passV,ndOf]
    constructor
    · intro q
      exact ⟨x,List.mem_append.2 (.inr (List.mem_singleton.2 rfl)),q⟩
    · rintro ⟨y,hy,q⟩
      rcases List.mem_append.1 hy with hy | hy
      · exact Int.lt_of_lt_of_le q (hle y hy)
      · rw [List.mem_singleton] at hy
        subst hy
        exact q
theorem PsFor.snd {c:Cf} {ws:List Int} {s:St} {b:Int} (hk:∀ a,0 ≤ kyN s a):∀ {l:List Int} {p:Ps} {pre:List Int},PsFor c ws s p pre → sndL c ws s b p l = sndD c ws s b pre l
  | [],_,_,_ => rfl
  | x :: r,p,pre,h => by
    unfold sndL sndD
    rw [h.fit b x (hk x)]
    by_cases hf:fitD c ws s b pre x = true
    · rw [if_pos hf,if_pos hf]
      exact PsFor.snd hk (h.pass hf)
    · rw [if_neg hf,if_neg hf]
def KeyOk (s:St):Prop:=∀ x ∈ s.ops,0 ≤ x.2.key
theorem KeyOk.cal {s:St} (h:KeyOk s) (o:Int):0 ≤ (calAt s o).key:=by
  unfold calAt
  rcases hl:lookI s.ops o with _ | x
  · exact Int.le_refl _
  · unfold lookI at hl
    split at hl
    · cases hl
    · exact h _ (look_mem hl)
theorem KeyOk.begin_ {c:Cf} {s:St} (h:KeyOk s) (th:Int) {x:Cal} (hx:0 ≤ x.key):KeyOk (beginI c s th x).1:=by
  unfold beginI
  split
  · exact h
  · unfold beginS
    repeat' split
    all_goals first
      | exact h
      | (intro y hy
         simp only [List.mem_append,List.mem_singleton] at hy
         rcases hy with hy | hy
         · exact h y hy
         · subst hy
           exact hx)
theorem KeyOk.make {c:Cf} {s:St} (h:KeyOk s) (th op:Int):KeyOk (makeI c s th op).1:=by
  unfold makeI
  split
  · exact h
  · unfold makeS
    split <;> exact h
theorem lyC_key {c:Cf}:∀ (cs:List Cal) {s:St},KeyOk s → (∀ x ∈ cs,0 ≤ x.key) → KeyOk (lyC c s cs)
  | [],_,h,_ => h
  | x :: r,s,h,hx => by
    unfold lyC
    rw [List.foldl_cons]
    exact lyC_key r (h.begin_ 2 (hx x (List.mem_cons_self ..))) (fun y hy => hx y (List.mem_cons_of_mem _ hy))
theorem lyI_key {c:Cf} {L:Ly} {x:It} (h:KeyOk L.s) (hx:0 ≤ x.key):KeyOk (lyI c L x).s:=by
  unfold lyI lyB lyA
  split
  · exact h.make _ _
  · exact (h.begin_ 0 hx).make _ _
theorem layL_key {c:Cf} (xs:List It) (hx:∀ x ∈ xs,0 ≤ x.key):KeyOk (layL c xs).s:=by
  have hall:∀ (xs:List It) (L:Ly),KeyOk L.s → (∀ x ∈ xs,0 ≤ x.key) → KeyOk (xs.foldl (lyI c) L).s:=by
    intro xs
    induction xs with
    | nil => intro L h _;exact h
    | cons x r ih =>
      intro L h hx
      rw [List.foldl_cons]
      exact ih _ (lyI_key h (hx x (List.mem_cons_self ..))) (fun y hy => hx y (List.mem_cons_of_mem _ hy))
  exact hall xs _ (fun x hx => by cases hx) hx
end Go.Proofs.YtcogckjpmmjmbaaGreat
namespace Go.Proofs.YtcogckjpmmjmbaaGreat
open Go.ChangeShapes Go.WideShapes Go.ChangeAt Go.RowKit
set_option maxRecDepth 100000
set_option linter.unusedVariables false
structure RsR (w0:World) (L:List Value) (gl:Nat) (l:List Int) (W:World):Prop where
 g:Grown w0 W
 box:Box W w0.heap.size L
 cells:∀ (j:Nat) (a:Int),l[j]? = some a → W.cell? ⟨gl,j,none⟩ = some (.int .i64 a)
theorem RsR.grown {w0 W W':World} {L:List Value} {gl:Nat} {l:List Int} (h:RsR w0 L gl l W) (q:Grown W W'):RsR w0 L gl l W':=⟨gtr h.g q,h.box.grown q,fun j a e => gcell q (h.cells j a e)⟩
end Go.Proofs.YtcogckjpmmjmbaaGreat
namespace Go.Proofs.YtcogckjpmmjmbaaGreat
open Go.ChangeShapes Go.WideShapes Go.ChangeAt Go.RowKit
set_option maxRecDepth 100000
set_option linter.unusedVariables false
structure Tk where
 op:Int
 own:Bool
 phase:Int
 want:Int
 wk:Wk
 done:Bool
 won:Bool
def Tk.l (x:Tk):List Value:=[.int .i64 x.op,.bool x.own,.int .i64 x.phase,.int .u64 x.want,.int .u64 x.wk.key,.int .i64 x.wk.mode,.int .i64 x.wk.phase,.int .i64 x.wk.pred,.int .i64 x.wk.curr,.int .u64 x.wk.next,.int .i64 x.wk.seen,.int .i64 x.wk.found,.bool x.wk.stop,.bool x.wk.done,.bool x.done,.bool x.won]
structure Kt where
 ws:List Int
 n:Int
 x:Tk
def keyT (s:St) (op:Int):Int:=((lookI s.ops op).getD Cal.zero).key
def askX (s:St) (x:Tk) (v:Int):Tk :=
 if v = 0 then { x with want:=v,wk:=newK (keyT s x.op) 2,phase:=1 }
 else if v = 1 then { x with want:=v,done:=true }
 else { x with want:=v,phase:=3 }
def askT (c:Cf) (s:St) (y:Kt):Kt:=⟨y.ws,y.n + cnt y.ws (wrdI c y.x.op),askX s y.x (rd y.ws (wrdI c y.x.op))⟩
def fndX (f:Int):Int:=if f = -1 then 1 else zNaming f 2
def wkdX (x:Tk) (z:Wk):Tk:=if z.done then (if x.phase = 1 then { x with wk:=z,want:=fndX z.found,phase:=2 } else { x with wk:=z,done:=true }) else { x with wk:=z }
def wlkT (c:Cf) (s:St) (y:Kt):Kt:=⟨(stepK c s ⟨y.ws,y.n,y.x.wk⟩).ws,(stepK c s ⟨y.ws,y.n,y.x.wk⟩).n,wkdX y.x (stepK c s ⟨y.ws,y.n,y.x.wk⟩).x⟩
def setT (c:Cf) (y:Kt):Kt:=⟨sw y.ws (wrdI c y.x.op) 0 y.x.want,y.n + cnt y.ws (wrdI c y.x.op),{ y.x with phase:=0 }⟩
def outT (c:Cf) (y:Kt):Kt:=⟨sw y.ws (wrdI c (zNamed y.x.want 2)) 1 (zNaming y.x.op 3),y.n + cnt y.ws (wrdI c (zNamed y.x.want 2)),{ y.x with phase:=4 }⟩
def whoX (s:St) (x:Tk) (v:Int):Tk :=
 if zNamed v 3 = x.op then (if x.own then { x with won:=true,wk:=newK (keyT s x.op) 3,phase:=5 } else { x with won:=true,done:=true })
 else { x with won:=false,done:=true }
def whoT (c:Cf) (s:St) (y:Kt):Kt:=⟨y.ws,y.n + cnt y.ws (wrdI c (zNamed y.x.want 2)),whoX s y.x (rd y.ws (wrdI c (zNamed y.x.want 2)))⟩
def stepT (c:Cf) (s:St) (y:Kt):Kt :=
 if y.x.done then y else
 if y.x.phase = 0 then askT c s y else
 if y.x.phase = 1 ∨ y.x.phase = 5 then wlkT c s y else
 if y.x.phase = 2 then setT c y else
 if y.x.phase = 3 then outT c y else
 if y.x.phase = 4 then whoT c s y else
 { y with x:={ y.x with done:=true } }
def runT (c:Cf) (s:St) (y:Kt):Nat → Kt
 | 0 => y
 | k + 1 => stepT c s (runT c s y k)
def newT (op:Int) (own:Bool):Tk:=⟨op,own,0,0,⟨0,0,0,0,0,0,0,0,false,false⟩,false,false⟩
theorem zNaming_le (n k:Int) (k0:0 ≤ k) (k1:k ≤ 3):0 ≤ zNaming n k ∧ zNaming n k ≤ 18446744073709551615:=by
 unfold zNaming
 split <;> constructor <;> omega
def NdOk (c:Cf) (s:St):Prop:=∀ x ∈ s.nodes,x.2 < c.ops
theorem NdOk.at_ {c:Cf} {s:St} (h:NdOk c s) (a:Int):-1 ≤ opAt s a ∧ opAt s a < c.ops:=by
 unfold opAt
 rcases hl:lookI s.nodes a with _ | x
 ·simp only [carriedOf];omega
 ·have hx:x < c.ops:=by
   unfold lookI at hl
   split at hl
   ·cases hl
   ·exact h _ (look_mem hl)
  simp only [carriedOf]
  omega
theorem NdOk.begin_ {c:Cf} {s:St} (h:NdOk c s) (th:Int) (x:Cal):NdOk c (beginI c s th x).1:=by
 unfold beginI
 split
 ·exact h
 ·unfold beginS
  repeat' split
  all_goals exact h
theorem Inv.opLt {c:Cf} {s:St} (h:Inv c s) {n:Nat} {x:Cal} (hl:look s.ops n = some x):n < c.ops:=by
 obtain ⟨i,m,h1,h2,h3⟩:=h.k1 _ (look_mem hl)
 have h4:=h.b1 i h1
 simp only at h3
 have h5:i * c.k + c.k ≤ c.t * c.k:=by
  have:=Nat.mul_le_mul_right c.k (show i + 1 ≤ c.t by omega)
  rw [Nat.add_mul,Nat.one_mul] at this
  exact this
 simp only [Cf.ops]
 omega
theorem NdOk.make {c:Cf} {s:St} (h:NdOk c s) (hI:Inv c s) (th op:Int):NdOk c (makeI c s th op).1:=by
 unfold makeI
 split
 ·exact h
 ·rename_i hn
  unfold makeS
  split
  ·exact h
  ·intro y hy
   simp only [List.mem_append,List.mem_singleton] at hy
   rcases hy with hy | hy
   ·exact h y hy
   ·subst hy
    simp only
    rcases hl:lookI s.ops op with _ | x
    ·exact absurd (by rw [hl];rfl) (fun e => hn (.inr (.inr e)))
    ·unfold lookI at hl
     split at hl
     ·cases hl
     ·exact hI.opLt hl
theorem layL_nd {c:Cf} (xs:List It):NdOk c (layL c xs).s:=by
 have hall:∀ (xs:List It) (L:Ly),Inv c L.s → NdOk c L.s → NdOk c (xs.foldl (lyI c) L).s:=by
  intro xs
  induction xs with
  | nil => intro L _ h;exact h
  | cons x r ih =>
   intro L hI h
   rw [List.foldl_cons]
   refine ih _ ?_ ?_
   ·unfold lyI lyB lyA
    split
    ·exact hI.makeI _ _
    ·exact (hI.beginI _ _).makeI _ _
   ·unfold lyI lyB lyA
    split
    ·exact h.make hI _ _
    ·exact (h.begin_ _ _).make (hI.beginI _ _) _ _
 exact hall xs _ Inv.new (fun x hx => by cases hx)
theorem lyC_nd {c:Cf}:∀ (cs:List Cal) {s:St},NdOk c s → NdOk c (lyC c s cs)
 | [],_,h => h
 | x :: r,s,h => by
  unfold lyC
  rw [List.foldl_cons]
  exact lyC_nd r (h.begin_ 2 x)
theorem arr_fnd (s:St) (x:Wk) (v:Int):(arrK s x v).found = x.found:=by unfold arrK;split <;> rfl
theorem step_fnd (c:Cf) (s:St) (y:Kd):(stepK c s y).x.found = y.x.found ∨ ∃ a,(stepK c s y).x.found = opAt s a:=by
 unfold stepK
 split
 ·exact .inl rfl
 split
 ·exact .inl (arr_fnd _ _ _)
 split
 ·exact .inl rfl
 split
 ·simp only [unlK]
  split
  ·exact .inl (arr_fnd _ _ _)
  ·exact .inl rfl
 split
 ·simp only [jdgK,judK]
  split
  ·exact .inl rfl
  split
  ·exact .inl (arr_fnd _ _ _)
  split
  ·split
   ·exact .inr ⟨_,rfl⟩
   ·exact .inl rfl
  split
  ·exact .inl (arr_fnd _ _ _)
  split
  ·split
   ·exact .inl rfl
   ·exact .inl (arr_fnd _ _ _)
  ·exact .inl rfl
 split
 ·exact .inl rfl
 split
 ·simp only [askK]
  split <;> exact .inl rfl
 split
 ·exact .inl rfl
 split <;> exact .inl rfl
structure TOk (c:Cf) (y:Kt) (m:Int):Prop where
 wok:∀ i:Int,0 ≤ rd y.ws i ∧ rd y.ws i ≤ 18446744073709551615
 ok:y.x.wk.Ok
 n0:0 ≤ y.n
 n1:y.n ≤ m
 w0:0 ≤ y.x.want
 w1:y.x.want ≤ 18446744073709551615
 f0:-1 ≤ y.x.wk.found
 f1:y.x.wk.found ≤ 9223372036854775807
theorem askX_ok {s:St} {x:Tk} {v:Int} (h:x.wk.Ok):(askX s x v).wk.Ok ∧ (askX s x v).want = v ∧ ((askX s x v).wk.found = -1 ∨ (askX s x v).wk.found = x.wk.found):=by
 unfold askX
 split
 ·exact ⟨newK_ok _ _,rfl,.inl rfl⟩
 ·split <;> exact ⟨h,rfl,.inr rfl⟩
theorem whoX_ok {s:St} {x:Tk} {v:Int} (h:x.wk.Ok):(whoX s x v).wk.Ok ∧ (whoX s x v).want = x.want ∧ ((whoX s x v).wk.found = -1 ∨ (whoX s x v).wk.found = x.wk.found):=by
 unfold whoX
 split
 ·split
  ·exact ⟨newK_ok _ _,rfl,.inl rfl⟩
  ·exact ⟨h,rfl,.inr rfl⟩
 ·exact ⟨h,rfl,.inr rfl⟩
theorem fndX_le (f:Int):0 ≤ fndX f ∧ fndX f ≤ 18446744073709551615:=by
 unfold fndX
 split
 ·constructor <;> omega
 ·exact zNaming_le _ _ (by omega) (by omega)
theorem wkdX_wk (x:Tk) (z:Wk):(wkdX x z).wk = z ∧ ((wkdX x z).want = x.want ∨ (wkdX x z).want = fndX z.found):=by
 unfold wkdX
 split
 ·split
  ·exact ⟨rfl,.inr rfl⟩
  ·exact ⟨rfl,.inl rfl⟩
 ·exact ⟨rfl,.inl rfl⟩
theorem TOk.step {c:Cf} (hc:c.ops ≤ 9999) {s:St} (hN:NdOk c s) {y:Kt} {m:Int} (h:TOk c y m):TOk c (stepT c s y) (m + 1):=by
 have n0:=h.n0;have n1:=h.n1;have w0:=h.w0;have w1:=h.w1;have f0:=h.f0;have f1:=h.f1
 unfold stepT
 split
 ·exact ⟨h.wok,h.ok,n0,by omega,w0,w1,f0,f1⟩
 split
 ·have hc:=cnt_le y.ws (wrdI c y.x.op)
  obtain ⟨a,b,e⟩:=askX_ok (s:=s) (x:=y.x) (v:=rd y.ws (wrdI c y.x.op)) h.ok
  have hr:=h.wok (wrdI c y.x.op)
  refine ⟨h.wok,a,by simp only [askT];omega,by simp only [askT];omega,by simp only [askT];rw [b];exact hr.1,by simp only [askT];rw [b];exact hr.2,?_,?_⟩ <;> simp only [askT] <;> rcases e with e | e <;> rw [e] <;> omega
 split
 ·have hk:=KOk.step (c:=c) (s:=s) (y:=⟨y.ws,y.n,y.x.wk⟩) (m:=m) ⟨h.wok,h.ok,n0,n1⟩
  obtain ⟨a,b⟩:=wkdX_wk y.x (stepK c s ⟨y.ws,y.n,y.x.wk⟩).x
  have e:=step_fnd c s ⟨y.ws,y.n,y.x.wk⟩
  refine ⟨hk.wok,by simp only [wlkT];rw [a];exact hk.ok,hk.n0,hk.n1,?_,?_,?_,?_⟩ <;> simp only [wlkT]
  ·rcases b with b | b <;> rw [b]
   ·exact w0
   ·exact (fndX_le _).1
  ·rcases b with b | b <;> rw [b]
   ·exact w1
   ·exact (fndX_le _).2
  ·rw [a]
   rcases e with e | ⟨z,e⟩ <;> rw [e]
   ·exact f0
   ·exact (hN.at_ z).1
  ·rw [a]
   rcases e with e | ⟨z,e⟩ <;> rw [e]
   ·exact f1
   ·have:=(hN.at_ z).2;omega
 split
 ·have hc:=cnt_le y.ws (wrdI c y.x.op)
  exact ⟨WOk.sw h.wok _ _ _ w0 w1,h.ok,by simp only [setT];omega,by simp only [setT];omega,w0,w1,f0,f1⟩
 split
 ·have hc:=cnt_le y.ws (wrdI c (zNamed y.x.want 2))
  have hz:=zNaming_le y.x.op 3 (by omega) (by omega)
  exact ⟨WOk.sw h.wok _ _ _ hz.1 hz.2,h.ok,by simp only [outT];omega,by simp only [outT];omega,w0,w1,f0,f1⟩
 split
 ·have hc:=cnt_le y.ws (wrdI c (zNamed y.x.want 2))
  obtain ⟨a,b,e⟩:=whoX_ok (s:=s) (x:=y.x) (v:=rd y.ws (wrdI c (zNamed y.x.want 2))) h.ok
  refine ⟨h.wok,a,by simp only [whoT];omega,by simp only [whoT];omega,by simp only [whoT];rw [b];exact w0,by simp only [whoT];rw [b];exact w1,?_,?_⟩ <;> simp only [whoT] <;> rcases e with e | e <;> rw [e] <;> omega
 ·exact ⟨h.wok,h.ok,n0,by simp only;omega,w0,w1,f0,f1⟩
theorem stepT_op (c:Cf) (s:St) (y:Kt):(stepT c s y).x.op = y.x.op ∧ (stepT c s y).x.own = y.x.own:=by
 unfold stepT
 split
 ·exact ⟨rfl,rfl⟩
 split
 ·simp only [askT,askX]
  repeat' split
  all_goals exact ⟨rfl,rfl⟩
 split
 ·simp only [wlkT,wkdX]
  repeat' split
  all_goals exact ⟨rfl,rfl⟩
 split
 ·exact ⟨rfl,rfl⟩
 split
 ·exact ⟨rfl,rfl⟩
 split
 ·simp only [whoT,whoX]
  repeat' split
  all_goals exact ⟨rfl,rfl⟩
 ·exact ⟨rfl,rfl⟩
theorem runT_op (c:Cf) (s:St) (y:Kt):∀ k,(runT c s y k).x.op = y.x.op ∧ (runT c s y k).x.own = y.x.own
 | 0 => ⟨rfl,rfl⟩
 | k + 1 => by
  obtain ⟨a,b⟩:=runT_op c s y k
  obtain ⟨a',b'⟩:=stepT_op c s (runT c s y k)
  exact ⟨a'.trans a,b'.trans b⟩
theorem TOk.run {c:Cf} (hc:c.ops ≤ 9999) {s:St} (hN:NdOk c s) {y:Kt} {m:Int} (h:TOk c y m):∀ k:Nat,TOk c (runT c s y k) (m + k)
 | 0 => by simpa [runT] using h
 | k + 1 => by
  have:=(TOk.run hc hN h k).step hc hN
  rw [show m + (((k + 1:Nat)):Int) = m + k + 1 by omega]
  exact this
end Go.Proofs.YtcogckjpmmjmbaaGreat
