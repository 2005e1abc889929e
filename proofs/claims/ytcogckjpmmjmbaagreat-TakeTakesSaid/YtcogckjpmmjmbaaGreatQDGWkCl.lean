/- Behind a walk that nobody disturbs: what is left up to its key. -/
import Derived.Test.YtcogckjpmmjmbaaGreatQDWkSo
import Derived.Test.YtcogckjpmmjmbaaGreatQDMRefW
import Derived.Test.YtcogckjpmmjmbaaGreatQDMSound
import Derived.LoopTactic
import Derived.Test.YtcogckjpmmjmbaaGreatQDInsO
import Derived.Test.YtcogckjpmmjmbaaGreatQDMSorted
import Derived.Test.YtcogckjpmmjmbaaGreatQDWkRun
import Derived.Test.YtcogckjpmmjmbaaGreatQDGLaid
namespace Go.Proofs.YtcogckjpmmjmbaaGreat
set_option maxRecDepth 100000
set_option linter.unusedVariables false
theorem pasL_opens_in {c:Cf} {ws:List Int} {s:St}:∀ {l:List Int} {p:Ps} {k:Int},k ∈ p.opens ∨ (∃ a ∈ l,keyOf_ s a = k ∧ wd c ws (opAt s a) < 2) → k ∈ (pasL c ws s p l).opens
 | [],p,k,h => by rcases h with h | ⟨a,ha,-⟩;exact h;cases ha
 | i :: l,p,k,h => by
  rw [pasL_cons]
  refine pasL_opens_in ?_
  have e4:(ndOf c ws s i).word = wd c ws (opAt s i):=rfl
  rcases h with h | ⟨a,ha,h1,h2⟩
  ·left
   simp only [passV]
   split
   ·exact h
   ·rw [mem_addK];exact .inl h
  ·rcases List.mem_cons.1 ha with rfl | ha
   ·left
    simp only [passV,e4]
    rw [if_neg (by omega),mem_addK]
    exact .inr h1.symm
   ·exact .inr ⟨a,ha,h1,h2⟩
theorem one_mem {α:Type} {l:List α} (h:l.length ≤ 1) {a b:α} (ha:a ∈ l) (hb:b ∈ l):a = b:=by
 match l,h with
 | [],_ => cases ha
 | [x],_ => simp only [List.mem_singleton] at ha hb;rw [ha,hb]
structure WS (c:Cf) (s:St) (key mode:Int) (y:Kd) (pre rest:List Int):Prop where
 wi:WI c s key mode y pre rest
 sd:sndL c y.ws s 0 ps0 (pre ++ rest) = true
 uq:mode = 1 → (pre.filter fun a => decide (keyOf_ s a = key)).length ≤ 1
theorem WS.step {c:Cf} {s:St} {key mode:Int} {y:Kd} {pre rest:List Int} (h:WS c s key mode y pre rest) (hd:y.x.done = false):∃ pre' rest',WS c s key mode (stepK c s y) pre' rest' ∧ Eff c s key mode y.x.seen y.ws (stepK c s y).ws pre rest pre' rest':=by
 obtain ⟨pre',rest',h1,-,-,h4⟩:=h.wi.step hd
 refine ⟨pre',rest',⟨h1,h4.snd (List.nodup_cons.1 h.wi.nd).2 h.sd,fun hm => ?_⟩,h4⟩
 have hu:=h.uq hm
 cases h4 with
 | same _ hp _ => subst hp;exact hu
 | unl _ _ _ hp => subst hp;exact hu
 | mrk _ _ _ hp => subst hp;exact hu
 | let_ _ _ _ hp => subst hp;exact hu
 | ref _ _ _ hp => subst hp;exact hu
 | adv C r _ hr hp _ hs _ =>
  subst hr hp
  rw [List.filter_append]
  by_cases hk:keyOf_ s C = key
  ·obtain ⟨w1,w2⟩:=hs hm hk
   have hsd:=h.sd
   rw [sndL_app,sndL_cons,fit_iff] at hsd
   obtain ⟨-,⟨-,-,-,-,f5⟩,-⟩:=hsd
   have none_:∀ a ∈ pre,keyOf_ s a ≠ key:=by
    intro a ha hka
    have wa:=h.wi.pk hm a ha hka
    have hsn:y.x.seen ≠ -1:=fun e => h.wi.sn hm e a ha hka
    obtain ⟨-,a',ha',e',k'⟩:=h.wi.sa hsn
    rcases f5 with f | f | ⟨-,f⟩
    ·rw [pasL_ops] at f
     rcases f with f | ⟨b,hb,eb⟩
     ·simp [ps0] at f
     ·have kb:keyOf_ s b = key:=by rw [key_op,eb,← key_op];exact hk
      have:a' = b:=one_mem hu (List.mem_filter.2 ⟨ha',by simpa using k'⟩) (List.mem_filter.2 ⟨hb,by simpa using kb⟩)
      exact w2 (by rw [e',this,eb])
    ·omega
    ·exact f ⟨w1,pasL_opens_in (.inr ⟨a,ha,hka.trans hk.symm,by rw [wa];omega⟩)⟩
   have e0:(pre.filter fun a => decide (keyOf_ s a = key)) = []:=List.filter_eq_nil_iff.2 (fun a ha => by simpa using none_ a ha)
   rw [e0]
   simp only [List.nil_append,List.filter_cons,List.filter_nil]
   split <;> simp
  ·simp only [List.filter_cons,List.filter_nil,hk,decide_false,Bool.false_eq_true,if_false,List.append_nil]
   exact hu
theorem WS.run {c:Cf} {s:St} {key mode:Int} {y:Kd} {pre rest:List Int} (h:WS c s key mode y pre rest):∀ k,∃ pre' rest',WS c s key mode (runK c s y k) pre' rest' ∧ (pre' ++ rest').Sublist (pre ++ rest) ∧
  (foldN c (runK c s y k).ws s (pre' ++ rest') ([],[])).2.filter (fun p => decide (p.1 ≠ key)) = (foldN c y.ws s (pre ++ rest) ([],[])).2.filter (fun p => decide (p.1 ≠ key)) ∧ (mode ≠ 1 → foldN c (runK c s y k).ws s (pre' ++ rest') ([],[]) = foldN c y.ws s (pre ++ rest) ([],[]))
 | 0 => ⟨pre,rest,h,List.Sublist.refl _,rfl,fun _ => rfl⟩
 | k + 1 => by
  obtain ⟨p,r,h1,h2,h3,h4⟩:=h.run k
  by_cases hd:(runK c s y k).x.done = true
  ·have e:runK c s y (k + 1) = runK c s y k:=st_d hd
   rw [e]
   exact ⟨p,r,h1,h2,h3,h4⟩
  ·obtain ⟨p',r',h5,h6⟩:=h1.step (by simpa using hd)
   obtain ⟨q1,q2⟩:=h6.prs h1.sd
   exact ⟨p',r',h5,h6.sub.trans h2,q1.trans h3,fun hm => (q2 hm).trans (h4 hm)⟩
theorem WI.chain {c:Cf} {s:St} {key mode:Int} {y:Kd} {pre rest:List Int} (h:WI c s key mode y pre rest):chainI c y.ws 0 = pre ++ rest:=by
 have hh:vHead c.t c.b c.i c.f c.k 0 = 1:=by unfold vHead;rw [if_pos ⟨h.lay.ok.z,by omega,by have:=h.b1;omega⟩];rfl
 unfold chainI firstOf
 rw [hh]
 refine h.lk.chain _ ?_
 have:=nodup_le (pre ++ rest) ((List.range c.nodes).map fun (j:Nat) => (j:Int)) (List.nodup_cons.1 h.nd).2 (fun a ha => by
  have hsc:=h.st a ha
  have s1:=hsc.a2
  have s2:=hsc.an
  rw [List.mem_map]
  exact ⟨a.toNat,by rw [List.mem_range];omega,by omega⟩)
 simpa using this
theorem WS.sound {c:Cf} {s:St} {key mode:Int} {y:Kd} {pre rest:List Int} (h:WS c s key mode y pre rest):sndTo c y.ws s c.b = true:=by
 rw [h.wi.b1]
 simp only [sndTo,Bool.true_and,sndB]
 have:=h.wi.chain
 show sndL c y.ws s 0 ps0 (chainI c y.ws 0) = true
 rw [this];exact h.sd
theorem WI.upto {c:Cf} {s:St} {key mode:Int} {y:Kd} {pre rest:List Int} (h:WI c s key mode y pre rest) (hd:y.x.done = true) (hs:y.x.stop = false) (hp:(pre ++ rest).Pairwise fun a b => keyOf_ s a ≤ keyOf_ s b):∀ a ∈ rest,key < keyOf_ s a:=by
 have hf:Far s key rest:=by
  cases h.pos with
  | fin _ h => rcases h with h | h;rw [hs] at h;cases h;exact h.1
  | beg h => rw [hd] at h;cases h
  | at_ C r h => rw [hd] at h;cases h
 intro a ha
 cases rest with
 | nil => cases ha
 | cons C r =>
  have hC:key < keyOf_ s C:=hf C rfl
  rcases List.mem_cons.1 ha with rfl | ha
  ·exact hC
  ·rw [List.pairwise_append,List.pairwise_cons] at hp
   have:=hp.2.1.1 a ha
   omega
theorem WI.clean {c:Cf} {s:St} {key mode:Int} {y:Kd} {pre rest:List Int} (h:WI c s key mode y pre rest) (hd:y.x.done = true) (hs:y.x.stop = false) (hp:(pre ++ rest).Pairwise fun a b => keyOf_ s a ≤ keyOf_ s b) :
  ∀ a ∈ pre ++ rest,(keyOf_ s a ≤ key → wd c y.ws (opAt s a) ≤ 1 ∧ nx c y.ws a % 2 = 0) ∧ (keyOf_ s a = key → mode = 1 → wd c y.ws (opAt s a) ≠ 0):=by
 have hu:=h.upto hd hs hp
 intro a ha
 rcases List.mem_append.1 ha with ha | ha
 ·exact ⟨fun _ => ⟨h.pw a ha,h.um a (by simp [ha])⟩,fun hk hm => by rw [h.pk hm a ha hk];omega⟩
 ·have:=hu a ha
  exact ⟨fun h => by omega,fun h => by omega⟩
theorem insI_up (x:It):∀ {l:List It},l.Pairwise (fun a b => a.key ≤ b.key) → (insI l x).Pairwise (fun a b => a.key ≤ b.key)
 | [],_ => by simp [insI]
 | y :: r,h => by
  rw [List.pairwise_cons] at h
  unfold insI
  split
  ·rename_i hk
   rw [List.pairwise_cons]
   refine ⟨fun z hz => ?_,insI_up x h.2⟩
   rcases insI_mem x r z hz with rfl | hz
   ·exact hk
   ·exact h.1 z hz
  ·rename_i hk
   rw [List.pairwise_cons]
   refine ⟨fun z hz => ?_,by rw [List.pairwise_cons];exact h⟩
   rcases List.mem_cons.1 hz with rfl | hz
   ·omega
   ·have:=h.1 z hz;omega
theorem foldI_up:∀ (xs l:List It),l.Pairwise (fun a b => a.key ≤ b.key) → (xs.foldl insI l).Pairwise (fun a b => a.key ≤ b.key)
 | [],l,h => h
 | x :: r,l,h => foldI_up r _ (insI_up x h)
theorem sortedI_up (xs:List It):∀ (i j:Nat) (x y:It),i < j → (sortedI xs)[i]? = some x → (sortedI xs)[j]? = some y → x.key ≤ y.key:=by
 intro i j x y hij hx hy
 unfold sortedI at hx hy
 rw [fixTo_get] at hx hy
 cases h1:(foldI xs)[i]? with
 | none => rw [h1] at hx;cases hx
 | some a =>
  cases h2:(foldI xs)[j]? with
  | none => rw [h2] at hy;cases hy
  | some b =>
   rw [h1] at hx;rw [h2] at hy
   simp only [Option.map_some,Option.some.injEq] at hx hy
   have hk:∀ (q:Nat) (z w:It),(if q < xs.length then keptI (foldI xs) q z else z) = w → w.key = z.key:=by
    intro q z w e;rw [← e];split
    ·exact keptI_key _ _ _
    ·rfl
   rw [hk i a x hx,hk j b y hy]
   obtain ⟨p1,e1⟩:=List.getElem?_eq_some_iff.1 h1
   obtain ⟨p2,e2⟩:=List.getElem?_eq_some_iff.1 h2
   have:=List.pairwise_iff_getElem.1 (foldI_up xs [] .nil) i j p1 p2 hij
   have e1':(foldI xs)[i] = a:=e1
   have e2':(foldI xs)[j] = b:=e2
   unfold foldI at e1' e2'
   rw [e1',e2'] at this
   exact this
theorem Scn.up {c:Cf} {s:St} {ws:List Int} {xs:List It} (h:Scn c s ws (sortedI xs)):(ids (sortedI xs).length).Pairwise fun a b => keyOf_ s a ≤ keyOf_ s b:=by
 have kk:∀ (j:Nat) (y:It),(sortedI xs)[j]? = some y → keyOf_ s ((j:Int) + 2) = y.key:=by
  intro j y hy
  obtain ⟨x,x1,-,x3⟩:=h.kk j y hy
  rw [key_op]
  unfold calAt
  rw [x1]
  exact x3
 rw [List.pairwise_iff_getElem]
 intro i j hi hj hij
 simp only [ids,List.length_map,List.length_range] at hi hj
 simp only [ids,List.getElem_map,List.getElem_range]
 have h1:(sortedI xs)[i]? = some (sortedI xs)[i]:=List.getElem?_eq_getElem hi
 have h2:(sortedI xs)[j]? = some (sortedI xs)[j]:=List.getElem?_eq_getElem hj
 rw [kk i _ h1,kk j _ h2]
 exact sortedI_up xs i j _ _ hij h1 h2
end Go.Proofs.YtcogckjpmmjmbaaGreat
namespace Go.Proofs.YtcogckjpmmjmbaaGreat
open Go.ChangeShapes Go.WideShapes Go.ChangeAt Go.RowKit
set_option maxRecDepth 100000
set_option linter.unusedVariables false
def othP (key:Int) (ps:List (Int × Int)):List (Int × Int):=ps.filter fun p => decide (p.1 ≠ key)
end Go.Proofs.YtcogckjpmmjmbaaGreat
namespace Go.Proofs.YtcogckjpmmjmbaaGreat
open Go.ChangeShapes Go.WideShapes Go.ChangeAt Go.RowKit
set_option maxRecDepth 100000
set_option linter.unusedVariables false
structure RpR (w0:World) (L:List Value) (vo vt:Value) (acc:List Int × List (Int × Int)) (W:World):Prop where
 g:Grown w0 W
 box:Box W w0.heap.size L
 row:RowC W vo (flatP (sortP acc.2)) (sortP acc.2).length
 flat:FlatAt W w0.heap.size vo (flatP (sortP acc.2)) (sortP acc.2).length
 told:W.ownsRow (w0.heap.size + 1) 3 1 vt acc.1.length (ints acc.1)
 nil:0 < acc.1.length ∨ vt = .slice none 0 0
 far:∀ g m k,vo = .slice (some ⟨g,0,none⟩) m k → ¬ InRow vt g
 len:acc.1.length = acc.2.length
theorem RpR.grown {w0 W W':World} {L:List Value} {vo vt:Value} {acc:List Int × List (Int × Int)} (h:RpR w0 L vo vt acc W) (q:Grown W W'):RpR w0 L vo vt acc W' :=
 ⟨gtr h.g q,h.box.grown q,h.row.grown q,h.flat.grown q,own_grown h.told q,h.nil,h.far,h.len⟩
end Go.Proofs.YtcogckjpmmjmbaaGreat
namespace Go.Proofs.YtcogckjpmmjmbaaGreat
open Go.ChangeShapes Go.WideShapes Go.ChangeAt Go.RowKit
set_option maxRecDepth 100000
set_option linter.unusedVariables false
structure Put where
 op:Int
 thread:Int
 phase:Int
 node:Int
 linked:Bool
 wk:Wk
 done:Bool
 won:Bool
def Put.l (x:Put):List Value:=[.int .i64 x.op,.int .i64 x.thread,.int .i64 x.phase,.int .i64 x.node,.bool x.linked,.int .u64 x.wk.key,.int .i64 x.wk.mode,.int .i64 x.wk.phase,.int .i64 x.wk.pred,.int .i64 x.wk.curr,.int .u64 x.wk.next,.int .i64 x.wk.seen,.int .i64 x.wk.found,.bool x.wk.stop,.bool x.wk.done,.bool x.done,.bool x.won]
structure Ku where
 ws:List Int
 n:Int
 s:St
 x:Put
def keyC (s:St) (op:Int):Int:=((lookI s.ops op).getD Cal.zero).key
def tolU (s:St) (x:Put) (v:Int):Put :=
 if v = 0 then (if x.phase = 2 then { x with won:=false,phase:=3 } else { x with won:=false,wk:=newK (keyC s x.op) 1,phase:=1 })
 else if x.linked then { x with won:=!decide (v = 2),wk:=newK (keyC s x.op) 1,phase:=5 }
 else { x with won:=!decide (v = 2),done:=true }
def askU (c:Cf) (y:Ku):Ku:=⟨y.ws,y.n + cnt y.ws (wrdI c y.x.op),y.s,tolU y.s y.x (rd y.ws (wrdI c y.x.op))⟩
def wkdU (x:Put) (z:Wk):Put:=if z.done then (if x.phase = 1 then { x with wk:=z,phase:=2 } else { x with wk:=z,done:=true }) else { x with wk:=z }
def wlkU (c:Cf) (y:Ku):Ku:=⟨(stepK c y.s ⟨y.ws,y.n,y.x.wk⟩).ws,(stepK c y.s ⟨y.ws,y.n,y.x.wk⟩).n,y.s,wkdU y.x (stepK c y.s ⟨y.ws,y.n,y.x.wk⟩).x⟩
def setU (c:Cf) (y:Ku) (s:St) (nd:Int):Ku:=⟨wr y.ws (nxtI c nd) (zPack y.x.wk.curr false),y.n + cnt y.ws (nxtI c nd),s,{ y.x with node:=nd,phase:=4 }⟩
def layU (c:Cf) (y:Ku):Ku :=
 if y.x.node = 0 then
  (if (makeI c y.s y.x.thread y.x.op).2.2 = 0 then setU c y (makeI c y.s y.x.thread y.x.op).1 ((makeI c y.s y.x.thread y.x.op).2.1:Nat)
   else ⟨y.ws,y.n,y.s,{ y.x with done:=true }⟩)
 else setU c y y.s y.x.node
def lnkU (c:Cf) (y:Ku):Ku:=⟨sw y.ws (nxtI c y.x.wk.pred) (zPack y.x.wk.curr false) (zPack y.x.node false),y.n + cnt y.ws (nxtI c y.x.wk.pred),y.s,
 { y.x with linked:=y.x.linked || may y.ws (nxtI c y.x.wk.pred) (zPack y.x.wk.curr false),phase:=0 }⟩
def stepU (c:Cf) (y:Ku):Ku :=
 if y.x.done then y else
 if y.x.phase = 0 ∨ y.x.phase = 2 then askU c y else
 if y.x.phase = 1 ∨ y.x.phase = 5 then wlkU c y else
 if y.x.phase = 3 then layU c y else
 if y.x.phase = 4 then lnkU c y else
 { y with x:={ y.x with done:=true } }
def runU (c:Cf) (y:Ku):Nat → Ku
 | 0 => y
 | k + 1 => stepU c (runU c y k)
theorem makeI_ops (c:Cf) (s:St) (th op:Int):(makeI c s th op).1.ops = s.ops:=by
 unfold makeI makeS
 split
 ·rfl
 ·split <;> rfl
theorem makeI_few (c:Cf) (s:St) (th op:Int):(makeI c s th op).1.nodes.length ≤ s.nodes.length + 1:=by
 unfold makeI makeS
 split
 ·exact Nat.le_succ _
 ·split
  ·exact Nat.le_succ _
  ·simp
structure UOk (c:Cf) (y:Ku) (m:Int) (q:Nat):Prop where
 wok:∀ i:Int,0 ≤ rd y.ws i ∧ rd y.ws i ≤ 18446744073709551615
 ok:y.x.wk.Ok
 n0:0 ≤ y.n
 n1:y.n ≤ m
 inv:Inv c y.s
 u0:-9223372036854775808 ≤ y.x.node
 u1:y.x.node ≤ 9223372036854775807
 few:y.s.nodes.length ≤ q
 fewO:y.s.ops.length ≤ 99
theorem tolU_ok {s:St} {x:Put} {v:Int} (h:x.wk.Ok):(tolU s x v).wk.Ok ∧ (tolU s x v).node = x.node:=by
 unfold tolU
 split
 ·split
  ·exact ⟨h,rfl⟩
  ·exact ⟨newK_ok _ _,rfl⟩
 ·split
  ·exact ⟨newK_ok _ _,rfl⟩
  ·exact ⟨h,rfl⟩
theorem wkdU_wk (x:Put) (z:Wk):(wkdU x z).wk = z ∧ (wkdU x z).node = x.node:=by
 unfold wkdU
 split
 ·split <;> exact ⟨rfl,rfl⟩
 ·exact ⟨rfl,rfl⟩
theorem UOk.set {c:Cf} {y:Ku} {m:Int} {q:Nat} (h:UOk c y m q) {s:St} {nd:Int} (hI:Inv c s) (hf:s.nodes.length ≤ q + 1) (ho:s.ops = y.s.ops) (h0:-9223372036854775808 ≤ nd) (h1:nd ≤ 9223372036854775807):UOk c (setU c y s nd) (m + 1) (q + 1):=by
 have n0:=h.n0;have n1:=h.n1
 have hc:=cnt_le y.ws (nxtI c nd)
 exact ⟨WOk.wr h.wok _ _ (zPack_le _ _).1 (zPack_le _ _).2,h.ok,by simp only [setU];omega,by simp only [setU];omega,hI,h0,h1,hf,by simp only [setU];rw [ho];exact h.fewO⟩
theorem UOk.step {c:Cf} (hc:c.Ok) {y:Ku} {m:Int} {q:Nat} (h:UOk c y m q):UOk c (stepU c y) (m + 1) (q + 1):=by
 have n0:=h.n0;have n1:=h.n1;have f0:=h.few
 unfold stepU
 split
 ·exact ⟨h.wok,h.ok,n0,by omega,h.inv,h.u0,h.u1,by omega,h.fewO⟩
 split
 ·have hc:=cnt_le y.ws (wrdI c y.x.op)
  obtain ⟨a,b⟩:=tolU_ok (s:=y.s) (x:=y.x) (v:=rd y.ws (wrdI c y.x.op)) h.ok
  exact ⟨h.wok,a,by simp only [askU];omega,by simp only [askU];omega,h.inv,by simp only [askU];rw [b];exact h.u0,by simp only [askU];rw [b];exact h.u1,by simp only [askU];omega,h.fewO⟩
 split
 ·have hk:=KOk.step (c:=c) (s:=y.s) (y:=⟨y.ws,y.n,y.x.wk⟩) (m:=m) ⟨h.wok,h.ok,n0,n1⟩
  obtain ⟨a,b⟩:=wkdU_wk y.x (stepK c y.s ⟨y.ws,y.n,y.x.wk⟩).x
  exact ⟨hk.wok,by simp only [wlkU];rw [a];exact hk.ok,hk.n0,hk.n1,h.inv,by simp only [wlkU];rw [b];exact h.u0,by simp only [wlkU];rw [b];exact h.u1,by simp only [wlkU];omega,h.fewO⟩
 split
 ·unfold layU
  split
  ·split
   ·have hm:=make_le hc h.inv y.x.thread y.x.op
    exact h.set (h.inv.makeI _ _) (by have:=makeI_few c y.s y.x.thread y.x.op;omega) (makeI_ops _ _ _ _) (by omega) (by omega)
   ·exact ⟨h.wok,h.ok,n0,by simp only;omega,h.inv,h.u0,h.u1,by simp only;omega,h.fewO⟩
  ·exact h.set h.inv (by omega) rfl h.u0 h.u1
 split
 ·have hc:=cnt_le y.ws (nxtI c y.x.wk.pred)
  exact ⟨WOk.sw h.wok _ _ _ (zPack_le _ _).1 (zPack_le _ _).2,h.ok,by simp only [lnkU];omega,by simp only [lnkU];omega,h.inv,h.u0,h.u1,by simp only [lnkU];omega,h.fewO⟩
 ·exact ⟨h.wok,h.ok,n0,by simp only;omega,h.inv,h.u0,h.u1,by simp only;omega,h.fewO⟩
end Go.Proofs.YtcogckjpmmjmbaaGreat
namespace Go.Proofs.YtcogckjpmmjmbaaGreat
set_option maxRecDepth 100000
set_option linter.unusedVariables false
theorem opAt_app {s:St} {a:Int} (h:0 ≤ opAt s a) (z:Nat × Nat) (m:List Nat):opAt { s with made:=m,nodes:=s.nodes ++ [z] } a = opAt s a:=by
 unfold opAt at h ⊢
 cases e:lookI s.nodes a with
 | none => rw [e] at h;simp [carriedOf] at h
 | some o => rw [lookI_app z e]
theorem make_okT {c:Cf} {s:St} {th op:Int} (h0:0 ≤ th) (h1:th < c.t) (hm:at_ s.made th.toNat < 2 * c.k) (ho:(lookI s.ops op).isSome) :
  makeI c s th op = ({ s with made:=bump s.made th.toNat,nodes:=s.nodes ++ [(1 + c.b + th.toNat * (2 * c.k) + at_ s.made th.toNat,op.toNat)] },1 + c.b + th.toNat * (2 * c.k) + at_ s.made th.toNat,0):=by
 unfold makeI
 rw [if_neg (by rw [Option.isNone_iff_eq_none];intro h;rcases h with h | h | h;omega;omega;rw [h] at ho;cases ho)]
 unfold makeS
 rw [if_neg (by omega)]
structure PB (c:Cf) (s:St) (ws:List Int) (l:List Int):Prop where
 lay:Lay0 c ws
 wok:∀ i:Int,0 ≤ rd ws i ∧ rd ws i ≤ 18446744073709551615
 b1:c.b = 1
 lk:Lk c ws (nx c ws 1) l
 nd:(1 :: l).Nodup
 st:∀ a ∈ l,Sc c s a
 hd:nx c ws 1 % 2 = 0
 up:l.Pairwise fun a b => keyOf_ s a ≤ keyOf_ s b
theorem PB.walk {c:Cf} {s:St} {ws l:List Int} (h:PB c s ws l) (n key:Int):WI c s key 1 ⟨ws,n,newK key 1⟩ [] l :=
 ⟨h.lay,h.wok,h.b1,h.lk,h.nd,h.st,by intro a ha;simp only [List.mem_singleton] at ha;subst ha;exact h.hd,rfl,rfl,by simp,by simp,by intro q;exact absurd rfl q,by simp,.beg rfl rfl rfl⟩
theorem PB.mu (c:Cf) (s:St) (ws:List Int) (n key:Int) (l:List Int):mu c s ⟨ws,n,newK key 1⟩ l = 8 * l.length + 1:=by
 cases l with
 | nil => simp [Go.Proofs.YtcogckjpmmjmbaaGreat.mu,newK]
 | cons C r => simp [Go.Proofs.YtcogckjpmmjmbaaGreat.mu,newK]
theorem WI.pb {c:Cf} {s:St} {key mode:Int} {y:Kd} {pre rest:List Int} (h:WI c s key mode y pre rest) (hp:(pre ++ rest).Pairwise fun a b => keyOf_ s a ≤ keyOf_ s b):PB c s y.ws (pre ++ rest) :=
 ⟨h.lay,h.wok,h.b1,h.lk,h.nd,h.st,h.um 1 (by simp),hp⟩
theorem PB.chain {c:Cf} {s:St} {ws l:List Int} (h:PB c s ws l):chainI c ws 0 = l:=by
 have:=(h.walk 0 0).chain
 simpa using this
theorem PB.sound {c:Cf} {s:St} {ws l:List Int} (h:PB c s ws l):sndTo c ws s c.b = sndL c ws s 0 ps0 l:=by
 rw [h.b1]
 simp only [sndTo,Bool.true_and,sndB]
 show sndL c ws s 0 ps0 (chainI c ws 0) = _
 rw [h.chain]
theorem sndL_congr {c:Cf} {ws ws':List Int} {s s':St} {b:Int}:∀ {l:List Int} {p:Ps},(∀ a ∈ l,ndOf c ws' s' a = ndOf c ws s a) → sndL c ws' s' b p l = sndL c ws s b p l
 | [],_,_ => rfl
 | i :: l,p,h => by
  simp only [sndL]
  rw [h i (by simp),sndL_congr (fun a ha => h a (by simp [ha]))]
structure PsMore (nd ky:Int) (p p':Ps):Prop where
 nodes:∀ x ∈ p'.nodes,x ∈ p.nodes ∨ x = nd
 key:p'.key = p.key ∨ p'.key = ky
 ops:∀ x ∈ p.ops,x ∈ p'.ops
 opens:∀ x ∈ p'.opens,x ∈ p.opens ∨ x = ky
theorem sndL_more {c:Cf} {ws:List Int} {s:St} {b nd key:Int}:∀ {l:List Int} {p p':Ps},PsMore nd key p p' → (∀ x ∈ l,x ≠ nd ∧ key < keyOf_ s x) → sndL c ws s b p l = true → sndL c ws s b p' l = true
 | [],_,_,_,_,_ => rfl
 | i :: l,p,p',h,hx,hs => by
  rw [sndL_cons] at hs ⊢
  obtain ⟨hf,hs⟩:=hs
  obtain ⟨x1,x2⟩:=hx i (by simp)
  rw [fit_iff] at hf ⊢
  obtain ⟨f1,f2,f3,f4,f5⟩:=hf
  refine ⟨⟨f1,f2,fun q => (h.nodes _ q).elim f3 x1,?_,?_⟩,?_⟩
  ·rcases h.key with e | e <;> omega
  ·rcases f5 with f | f | ⟨f,g⟩
   ·exact .inl (h.ops _ f)
   ·exact .inr (.inl f)
   ·refine .inr (.inr ⟨f,?_⟩)
    rintro ⟨q1,q2⟩
    rcases h.opens _ q2 with q | q
    ·exact g ⟨q1,q⟩
    ·omega
  ·refine sndL_more (p:=passV p (ndOf c ws s i)) (nd:=nd) (key:=key) ⟨?_,.inl rfl,?_,?_⟩ (fun x q => hx x (by simp [q])) hs
   ·intro x q
    simp only [passV,mem_addK] at q ⊢
    rcases q with q | q
    ·rcases h.nodes _ q with q | q
     ·exact .inl (.inl q)
     ·exact .inr q
    ·exact .inl (.inr q)
   ·intro x q
    simp only [passV,mem_addK] at q ⊢
    rcases q with q | q
    ·exact .inl (h.ops _ q)
    ·exact .inr q
   ·intro x q
    simp only [passV] at q ⊢
    split at q
    ·rename_i hw
     rw [if_pos hw]
     exact h.opens _ q
    ·rename_i hw
     rw [if_neg hw]
     rw [mem_addK] at q ⊢
     rcases q with q | q
     ·rcases h.opens _ q with q | q
      ·exact .inl (.inl q)
      ·exact .inr q
     ·exact .inl (.inr q)
theorem pasL_nodes {c:Cf} {ws:List Int} {s:St}:∀ {l:List Int} {p:Ps} {x:Int},x ∈ (pasL c ws s p l).nodes → x ∈ p.nodes ∨ x ∈ l
 | [],p,x,h => .inl h
 | i :: l,p,x,h => by
  rw [pasL_cons] at h
  rcases pasL_nodes h with h | h
  ·simp only [passV,mem_addK] at h
   rcases h with h | h
   ·exact .inl h
   ·exact .inr (by rw [h];exact List.mem_cons_self ..)
  ·exact .inr (List.mem_cons_of_mem _ h)
theorem pasL_key {c:Cf} {ws:List Int} {s:St} {k:Int}:∀ {l:List Int} {p:Ps},p.key ≤ k → (∀ a ∈ l,keyOf_ s a ≤ k) → (pasL c ws s p l).key ≤ k
 | [],p,h,_ => h
 | i :: l,p,h,hx => by
  rw [pasL_cons]
  exact pasL_key (hx i (by simp)) (fun a ha => hx a (by simp [ha]))
theorem bucket_one {c:Cf} (hb:c.b = 1) (key:Int):zBucket key c.b = 0:=by
 have h1:=zH_lo key
 rw [hb]
 unfold zBucket
 split
 ·simp only [Int.natCast_one,Int.mul_one];omega
 ·rfl
theorem sndL_link {c:Cf} {ws ws':List Int} {s:St} {nd key:Int} {pre rest:List Int} (hb:c.b = 1) (hk:(calAt s (opAt s nd)).kind = 1) (hy:keyOf_ s nd = key) (hw0:wd c ws' (opAt s nd) = 0) (hm:nx c ws' nd % 2 = 0) (hn:nd ∉ pre ++ rest)
  (k0:0 ≤ key) (pl:∀ a ∈ pre,keyOf_ s a ≤ key) (pr:∀ a ∈ rest,key < keyOf_ s a) (hw:∀ o,wd c ws' o = wd c ws o) (hp:∀ a ∈ pre ++ rest,nx c ws' a % 2 = nx c ws a % 2)
  (hs:sndL c ws s 0 ps0 (pre ++ rest) = true):sndL c ws' s 0 ps0 (pre ++ nd :: rest) = true:=by
 have hs':sndL c ws' s 0 ps0 (pre ++ rest) = true:=sndL_rel (Rel.refl c ws' ps0) (fun x hx => .inr (.inr ⟨hw _,hp x hx⟩)) (fun x hx => by rw [hw];exact id) hs
 rw [sndL_app] at hs' ⊢
 refine ⟨hs'.1,?_⟩
 rw [sndL_cons,fit_iff]
 refine ⟨⟨hk,by rw [hy];exact bucket_one hb key,fun q => ?_,?_,.inr (.inr ⟨by omega,by rw [hw0];rintro ⟨q,-⟩;cases q⟩)⟩,?_⟩
 ·rcases pasL_nodes q with q | q
  ·cases q
  ·exact hn (List.mem_append_left _ q)
 ·rw [hy];exact pasL_key k0 pl
 ·refine sndL_more (p:=pasL c ws' s ps0 pre) (nd:=nd) (key:=key) ⟨?_,?_,?_,?_⟩ (fun x hx => ⟨fun e => hn (List.mem_append_right _ (e ▸ hx)),pr x hx⟩) hs'.2
  ·intro x q
   simp only [passV,mem_addK] at q
   exact q
  ·exact .inr hy
  ·intro x q
   simp only [passV,mem_addK]
   exact .inl q
  ·intro x q
   simp only [passV] at q
   split at q
   ·exact .inl q
   ·rw [mem_addK] at q
    rcases q with q | q
    ·exact .inl q
    ·exact .inr (q.trans hy)
theorem Lk.put {c:Cf} {ws ws':List Int} {nd:Int} (n0:nd ≠ 0):∀ {pre:List Int} {a0:Int} {rest:List Int},Lk c ws (nx c ws a0) (pre ++ rest) → (a0 :: (pre ++ rest)).Nodup → nd ∉ a0 :: (pre ++ rest) → nx c ws' (pre.getLastD a0) / 2 = nd → nx c ws' nd / 2 = rest.headD 0 →
  (∀ b ∈ a0 :: (pre ++ rest),b ≠ pre.getLastD a0 → nx c ws' b = nx c ws b) → Lk c ws' (nx c ws' a0) (pre ++ nd :: rest)
 | [],a0,rest,h,hd,hn,hP,hN,he => by
  refine ⟨hP,n0,?_⟩
  cases rest with
  | nil => exact hN
  | cons C r =>
   obtain ⟨h1,h2,h3⟩:=h
   refine ⟨hN,h2,?_⟩
   have hC:C ≠ a0:=by rintro rfl;simp at hd
   rw [he C (by simp) hC]
   exact h3.congr (fun b hb => he b (by simp [hb]) (by rintro rfl;simp [hb] at hd))
 | p :: q,a0,rest,h,hd,hn,hP,hN,he => by
  obtain ⟨h1,h2,h3⟩:=h
  have hl:(p :: q).getLastD a0 = q.getLastD p:=by cases q <;> rfl
  rw [hl] at hP he
  have hm:q.getLastD p ∈ p :: q:=List.getLastD_mem_cons
  have ha:a0 ≠ q.getLastD p:=by
   rintro e
   rw [← e] at hm
   simp only [List.cons_append,List.nodup_cons] at hd
   exact hd.1 (by simp only [List.mem_cons,List.mem_append] at hm ⊢;rcases hm with hm | hm;exact .inl hm;exact .inr (.inl hm))
  refine ⟨?_,h2,?_⟩
  ·rw [he a0 (by simp) ha];exact h1
  ·refine Lk.put n0 h3 (List.nodup_cons.1 hd).2 (fun x => hn (List.mem_cons_of_mem _ x)) hP hN (fun b hb hne => he b (List.mem_cons_of_mem _ hb) hne)
end Go.Proofs.YtcogckjpmmjmbaaGreat
namespace Go.Proofs.YtcogckjpmmjmbaaGreat
set_option maxRecDepth 100000
set_option linter.unusedVariables false
theorem wd_wrn {c:Cf} {ws:List Int} (h:Lay0 c ws) {a:Int} (h0:0 ≤ a) (h1:a < c.nodes) (v b:Int):wd c (wr ws (nxtI c a) v) b = wd c ws b:=by
 unfold wd
 rw [rd_wr2,nxt_v h.ok h0 h1]
 refine if_neg ?_
 rintro ⟨e,-,-⟩
 by_cases hb:0 ≤ b ∧ b < c.ops
 ·rw [wrd_v h.ok hb.1 hb.2] at e;omega
 ·rw [wrd_o h.ok hb] at e;omega
theorem arr_stop (s:St) (x:Wk) (v:Int):(arrK s x v).stop = x.stop:=by unfold arrK;split <;> rfl
theorem adv_stop (s:St) (x:Wk):(advK s x).stop = x.stop:=arr_stop _ _ _
theorem step_stop {c:Cf} {s:St} {y:Kd} (hm:y.x.mode = 1):(stepK c s y).x.stop = y.x.stop:=by
 obtain ⟨ws,n,x⟩:=y
 simp only at hm
 unfold stepK
 simp only
 split
 ·rfl
 split
 ·exact arr_stop _ _ _
 split
 ·rfl
 split
 ·simp only [unlK]
  split
  ·exact arr_stop _ _ _
  ·rfl
 split
 ·simp only [jdgK]
  unfold judK
  split
  ·rfl
  split
  ·exact adv_stop _ _
  split
  ·omega
  split
  ·exact adv_stop _ _
  split
  ·split
   ·rfl
   ·exact adv_stop _ _
  ·rfl
 split
 ·rfl
 split
 ·simp only [askK];split <;> rfl
 split
 ·rfl
 split <;> rfl
structure PC (c:Cf) (th op key:Int) (s:St):Prop where
 t0:0 ≤ th
 t1:th < c.t
 o0:0 ≤ op
 on:op < c.ops
 call:∃ x:Cal,lookI s.ops op = some x ∧ x.kind = 1 ∧ x.key = key
 k0:0 ≤ key
 inv:Inv c s
theorem PC.key {c:Cf} {th op key:Int} {s:St} (h:PC c th op key s):keyC s op = key:=by
 obtain ⟨x,e,-,k⟩:=h.call
 unfold keyC
 rw [e]
 exact k
theorem PC.keyAt {c:Cf} {th op key:Int} {s:St} (h:PC c th op key s) {a:Int} (e:opAt s a = op):keyOf_ s a = key:=by
 rw [key_op,e]
 exact h.key
theorem PC.kind {c:Cf} {th op key:Int} {s:St} (h:PC c th op key s):(calAt s op).kind = 1:=by
 obtain ⟨x,e,k,-⟩:=h.call
 unfold calAt
 rw [e]
 exact k
structure PW (c:Cf) (s:St) (ws:List Int) (x:Wk) (key:Int) (pre rest:List Int):Prop where
 pl:∀ a ∈ pre,keyOf_ s a ≤ key
 pr:∀ a ∈ rest,key < keyOf_ s a
 um:nx c ws (lastN pre) % 2 = 0
 pd:x.pred = lastN pre
 cu:x.curr = rest.headD 0
inductive PI (c:Cf) (th op key:Int):Ku → List Int → Nat → Prop
 | ask0 {ws:List Int} {n:Int} {s:St} {wk:Wk} {won:Bool} {l:List Int} (h:PC c th op key s) (pb:PB c s ws l) (w:wd c ws op = 0) (nc:∀ a ∈ l,opAt s a ≠ op) (rm:at_ s.made th.toNat < 2 * c.k) :
   PI c th op key ⟨ws,n,s,⟨op,th,0,0,false,wk,false,won⟩⟩ l (24 * l.length + 25)
 | walk1 {ws:List Int} {n:Int} {s:St} {wk:Wk} {won:Bool} {pre rest:List Int} (h:PC c th op key s) (wi:WI c s key 1 ⟨ws,n,wk⟩ pre rest) (up:(pre ++ rest).Pairwise fun a b => keyOf_ s a ≤ keyOf_ s b) (pl:∀ a ∈ pre,keyOf_ s a ≤ key)
   (wdn:wk.done = false) (wst:wk.stop = false) (w:wd c ws op = 0) (nc:∀ a ∈ pre ++ rest,opAt s a ≠ op) (rm:at_ s.made th.toNat < 2 * c.k) :
   PI c th op key ⟨ws,n,s,⟨op,th,1,0,false,wk,false,won⟩⟩ (pre ++ rest) (mu c s ⟨ws,n,wk⟩ rest + 16 * (pre ++ rest).length + 23)
 | ask1 {ws:List Int} {n:Int} {s:St} {wk:Wk} {won:Bool} {pre rest:List Int} (h:PC c th op key s) (pb:PB c s ws (pre ++ rest)) (pw:PW c s ws wk key pre rest) (w:wd c ws op = 0) (nc:∀ a ∈ pre ++ rest,opAt s a ≠ op) (rm:at_ s.made th.toNat < 2 * c.k) :
   PI c th op key ⟨ws,n,s,⟨op,th,2,0,false,wk,false,won⟩⟩ (pre ++ rest) (16 * (pre ++ rest).length + 23)
 | lay {ws:List Int} {n:Int} {s:St} {wk:Wk} {won:Bool} {pre rest:List Int} (h:PC c th op key s) (pb:PB c s ws (pre ++ rest)) (pw:PW c s ws wk key pre rest) (w:wd c ws op = 0) (nc:∀ a ∈ pre ++ rest,opAt s a ≠ op) (rm:at_ s.made th.toNat < 2 * c.k) :
   PI c th op key ⟨ws,n,s,⟨op,th,3,0,false,wk,false,won⟩⟩ (pre ++ rest) (16 * (pre ++ rest).length + 22)
 | link {ws:List Int} {n:Int} {s:St} {wk:Wk} {won:Bool} {pre rest:List Int} {nd:Int} (h:PC c th op key s) (pb:PB c s ws (pre ++ rest)) (pw:PW c s ws wk key pre rest) (w:wd c ws op = 0) (nc:∀ a ∈ pre ++ rest,opAt s a ≠ op)
   (sc:Sc c s nd) (hon:opAt s nd = op) (nn:nd ∉ 1 :: (pre ++ rest)) (nv:nx c ws nd = 2 * rest.headD 0) :
   PI c th op key ⟨ws,n,s,⟨op,th,4,nd,false,wk,false,won⟩⟩ (pre ++ rest) (16 * (pre ++ rest).length + 21)
 | ask2 {ws:List Int} {n:Int} {s:St} {wk:Wk} {won:Bool} {l:List Int} {nd:Int} (h:PC c th op key s) (pb:PB c s ws l) (w:wd c ws op = 0) (hm:nd ∈ l) (hon:opAt s nd = op) (um:nx c ws nd % 2 = 0) :
   PI c th op key ⟨ws,n,s,⟨op,th,0,nd,true,wk,false,won⟩⟩ l (16 * l.length + 4)
 | walk2 {ws:List Int} {n:Int} {s:St} {wk:Wk} {won:Bool} {pre rest:List Int} {nd:Int} (h:PC c th op key s) (wi:WI c s key 1 ⟨ws,n,wk⟩ pre rest) (up:(pre ++ rest).Pairwise fun a b => keyOf_ s a ≤ keyOf_ s b) (wdn:wk.done = false) (wst:wk.stop = false)
   (hon:opAt s nd = op) (j:wd c ws op ≠ 0 ∨ nd ∈ pre ++ rest ∧ nx c ws nd % 2 = 0) :
   PI c th op key ⟨ws,n,s,⟨op,th,1,nd,true,wk,false,won⟩⟩ (pre ++ rest) (mu c s ⟨ws,n,wk⟩ rest + 8 * (pre ++ rest).length + 2)
 | ask3 {ws:List Int} {n:Int} {s:St} {wk:Wk} {won:Bool} {l:List Int} {nd:Int} (h:PC c th op key s) (pb:PB c s ws l) (w:wd c ws op ≠ 0) :
   PI c th op key ⟨ws,n,s,⟨op,th,2,nd,true,wk,false,won⟩⟩ l (8 * l.length + 2)
 | walk3 {ws:List Int} {n:Int} {s:St} {wk:Wk} {won:Bool} {pre rest:List Int} {nd:Int} (h:PC c th op key s) (wi:WI c s key 1 ⟨ws,n,wk⟩ pre rest) (up:(pre ++ rest).Pairwise fun a b => keyOf_ s a ≤ keyOf_ s b) (wdn:wk.done = false) :
   PI c th op key ⟨ws,n,s,⟨op,th,5,nd,true,wk,false,won⟩⟩ (pre ++ rest) (mu c s ⟨ws,n,wk⟩ rest)
 | fin {y:Ku} {l:List Int} (dn:y.x.done = true) (pb:PB c y.s y.ws l):PI c th op key y l 0
theorem st_u1 (c:Cf) (ws:List Int) (n:Int) (s:St) (op th nd:Int) (lk:Bool) (wk:Wk) (won:Bool):stepU c ⟨ws,n,s,⟨op,th,1,nd,lk,wk,false,won⟩⟩ =
  ⟨(stepK c s ⟨ws,n,wk⟩).ws,(stepK c s ⟨ws,n,wk⟩).n,s,if (stepK c s ⟨ws,n,wk⟩).x.done then ⟨op,th,2,nd,lk,(stepK c s ⟨ws,n,wk⟩).x,false,won⟩ else ⟨op,th,1,nd,lk,(stepK c s ⟨ws,n,wk⟩).x,false,won⟩⟩:=by
 simp [stepU,wlkU,wkdU]
theorem st_u5 (c:Cf) (ws:List Int) (n:Int) (s:St) (op th nd:Int) (lk:Bool) (wk:Wk) (won:Bool):stepU c ⟨ws,n,s,⟨op,th,5,nd,lk,wk,false,won⟩⟩ =
  ⟨(stepK c s ⟨ws,n,wk⟩).ws,(stepK c s ⟨ws,n,wk⟩).n,s,if (stepK c s ⟨ws,n,wk⟩).x.done then ⟨op,th,5,nd,lk,(stepK c s ⟨ws,n,wk⟩).x,true,won⟩ else ⟨op,th,5,nd,lk,(stepK c s ⟨ws,n,wk⟩).x,false,won⟩⟩:=by
 simp [stepU,wlkU,wkdU]
theorem Eff.wdOp {c:Cf} {s:St} {key mode seen:Int} {ws ws':List Int} {pre rest pre' rest':List Int} (h:Eff c s key mode seen ws ws' pre rest pre' rest') {o:Int} (nc:∀ a ∈ pre ++ rest,opAt s a ≠ o):wd c ws' o = wd c ws o:=by
 cases h with
 | same h _ _ => rw [h]
 | adv C r h => rw [h]
 | unl C r _ _ _ _ hw => exact hw o
 | mrk C r _ _ _ _ hw => exact hw o
 | let_ C r hr _ _ _ _ _ _ _ _ hw => rw [hw];exact if_neg (fun e => nc C (by rw [hr];simp) e.symm)
 | ref C r hr _ _ _ _ _ _ hw => rw [hw];exact if_neg (fun e => nc C (by rw [hr];simp) e.symm)
theorem Eff.upto {c:Cf} {s:St} {key mode seen:Int} {ws ws':List Int} {pre rest pre' rest':List Int} (h:Eff c s key mode seen ws ws' pre rest pre' rest') (pl:∀ a ∈ pre,keyOf_ s a ≤ key):∀ a ∈ pre',keyOf_ s a ≤ key:=by
 cases h with
 | same _ hp _ => rw [hp];exact pl
 | adv C r h hr hp hr' hs hl =>
  rw [hp]
  intro a ha
  rcases List.mem_append.1 ha with ha | ha
  ·exact pl a ha
  ·rw [List.mem_singleton] at ha;rw [ha];exact hl
 | unl C r _ hp => rw [hp];exact pl
 | mrk C r _ hp => rw [hp];exact pl
 | let_ C r _ hp => rw [hp];exact pl
 | ref C r _ hp => rw [hp];exact pl
theorem Eff.judged {c:Cf} {s:St} {key seen:Int} {y:Kd} {ws':List Int} {pre rest pre' rest':List Int} (h:Eff c s key 1 seen y.ws ws' pre rest pre' rest') (wi:WI c s key 1 y pre rest) {nd op:Int} (hon:opAt s nd = op) (hk:keyOf_ s nd = key)
  (j:wd c y.ws op ≠ 0 ∨ nd ∈ pre ++ rest ∧ nx c y.ws nd % 2 = 0):wd c ws' op ≠ 0 ∨ nd ∈ pre' ++ rest' ∧ nx c ws' nd % 2 = 0:=by
 cases h with
 | same h hp hr => rw [h,hp,hr];exact j
 | adv C r h hr hp hr' hs hl => rw [h,hp,hr'];rw [hr] at j;simpa using j
 | unl C r hr hp hr' hm hw hn =>
  rcases j with j | ⟨j1,j2⟩
  ·exact .inl (by rw [hw];exact j)
  ·refine .inr ⟨?_,by rw [hn];exact j2⟩
   have hne:nd ≠ C:=by rintro rfl;omega
   rw [hp,hr']
   rw [hr] at j1
   simp only [List.mem_append,List.mem_cons] at j1 ⊢
   rcases j1 with j1 | j1 | j1
   ·exact .inl j1
   ·exact absurd j1 hne
   ·exact .inr j1
 | mrk C r hr hp hr' ho hw hn =>
  rcases j with j | ⟨j1,j2⟩
  ·exact .inl (by rw [hw];exact j)
  ·by_cases hne:nd = C
   ·subst hne
    refine .inl ?_
    rw [hw]
    rcases ho with ho | ⟨a,ha,e⟩
    ·rw [hon] at ho;omega
    ·have:=wi.pk rfl a ha (by rw [key_op,← e,← key_op];exact hk)
     rw [← e,hon] at this
     omega
   ·exact .inr ⟨by rw [hp,hr'];exact j1,by rw [hn nd hne];exact j2⟩
 | let_ C r hr hp hr' _ _ h0 _ _ hn hw =>
  rcases j with j | ⟨j1,j2⟩
  ·refine .inl ?_
   rw [hw]
   split
   ·omega
   ·exact j
  ·exact .inr ⟨by rw [hp,hr'];exact j1,by rw [hn];exact j2⟩
 | ref C r hr hp hr' _ _ h0 hn hw =>
  rcases j with j | ⟨j1,j2⟩
  ·refine .inl ?_
   rw [hw]
   split
   ·omega
   ·exact j
  ·exact .inr ⟨by rw [hp,hr'];exact j1,by rw [hn];exact j2⟩
theorem Eff.sndTo {c:Cf} {s:St} {key mode seen:Int} {y:Kd} {y':Kd} {pre rest pre' rest':List Int} (h:Eff c s key mode seen y.ws y'.ws pre rest pre' rest') (wi:WI c s key mode y pre rest) (wi':WI c s key mode y' pre' rest')
  (up:(pre ++ rest).Pairwise fun a b => keyOf_ s a ≤ keyOf_ s b) (hs:sndTo c y.ws s c.b = true):Go.Proofs.YtcogckjpmmjmbaaGreat.sndTo c y'.ws s c.b = true:=by
 rw [(wi.pb up).sound] at hs
 rw [(wi'.pb (up.sublist h.sub)).sound]
 exact h.snd (List.nodup_cons.1 wi.nd).2 hs
theorem PC.made {c:Cf} {th op key:Int} {s:St} (h:PC c th op key s) (hb:c.b = 1) (ok:c.Ok) (rm:at_ s.made th.toNat < 2 * c.k):∃ (s':St) (nd:Nat),makeI c s th op = (s',nd,0) ∧ PC c th op key s' ∧ Sc c s' nd ∧ opAt s' nd = op ∧ (∀ a,0 ≤ opAt s a → a ≠ nd ∧ opAt s' a = opAt s a) ∧ s'.ops = s.ops:=by
 obtain ⟨x,hx,hk,hy⟩:=h.call
 have e:=make_okT (c:=c) (s:=s) (th:=th) (op:=op) h.t0 h.t1 rm (by rw [hx];rfl)
 have hi:=h.inv.makeI th op
 rw [e] at hi
 have hth:th.toNat < c.t:=by have:=h.t0;have:=h.t1;omega
 have hnew:=h.inv.newNode hth rm
 have hlt:1 + c.b + th.toNat * (2 * c.k) + at_ s.made th.toNat < c.nodes:=by
  have:=row_lt hth rm
  simp only [Cf.nodes]
  have e2:c.t * (2 * c.k) = 2 * (c.t * c.k):=by rw [Nat.mul_left_comm]
  omega
 obtain ⟨nd,hnd⟩:∃ nd,1 + c.b + th.toNat * (2 * c.k) + at_ s.made th.toNat = nd:=⟨_,rfl⟩
 rw [hnd] at e hnew hlt hi
 have o0:=h.o0
 have hop:opAt { s with made:=bump s.made th.toNat,nodes:=s.nodes ++ [(nd,op.toNat)] } nd = op:=by
  unfold opAt
  simp only
  rw [lookI_nat,look_new hnew]
  simp only [carriedOf]
  omega
 refine ⟨_,nd,e,⟨h.t0,h.t1,h.o0,h.on,⟨x,hx,hk,hy⟩,h.k0,hi⟩,⟨by omega,by omega,by rw [hop];exact h.o0,by rw [hop];exact h.on⟩,hop,fun a ha => ⟨?_,opAt_app ha _ _⟩,rfl⟩
 rintro rfl
 unfold opAt at ha
 rw [lookI_nat,hnew] at ha
 simp [carriedOf] at ha
end Go.Proofs.YtcogckjpmmjmbaaGreat
namespace Go.Proofs.YtcogckjpmmjmbaaGreat
set_option maxRecDepth 100000
set_option linter.unusedVariables false
def PNext (c:Cf) (th op key:Int) (y:Ku) (b:Nat):Prop :=
 ∃ l' b',PI c th op key (stepU c y) l' b' ∧ b' < b ∧ (sndTo c y.ws y.s c.b = true → sndTo c (stepU c y).ws (stepU c y).s c.b = true)
theorem WI.at_end {c:Cf} {s:St} {key:Int} {y:Kd} {pre rest:List Int} (h:WI c s key 1 y pre rest) (hd:y.x.done = true) (hs:y.x.stop = false) (up:(pre ++ rest).Pairwise fun a b => keyOf_ s a ≤ keyOf_ s b) (pl:∀ a ∈ pre,keyOf_ s a ≤ key):PW c s y.ws y.x key pre rest:=by
 have hu:=h.upto hd hs up
 have hf:y.x.pred = lastN pre ∧ y.x.curr = rest.headD 0:=by
  cases h.pos with
  | fin _ q => rcases q with q | q;rw [hs] at q;cases q;exact q.2
  | beg q => rw [hd] at q;cases q
  | at_ C r q => rw [hd] at q;cases q
 exact ⟨pl,hu,h.lastOk.2.2,hf.1,hf.2⟩
theorem PI.s_ask0 {c:Cf} {th op key:Int} {ws:List Int} {n:Int} {s:St} {wk:Wk} {won:Bool} {l:List Int} (h:PC c th op key s) (pb:PB c s ws l) (w:wd c ws op = 0) (nc:∀ a ∈ l,opAt s a ≠ op) (rm:at_ s.made th.toNat < 2 * c.k) :
  PNext c th op key ⟨ws,n,s,⟨op,th,0,0,false,wk,false,won⟩⟩ (24 * l.length + 25):=by
 have e:stepU c ⟨ws,n,s,⟨op,th,0,0,false,wk,false,won⟩⟩ = ⟨ws,n + cnt ws (wrdI c op),s,⟨op,th,1,0,false,newK key 1,false,false⟩⟩:=by
  have hw:rd ws (wrdI c op) = 0:=w
  simp [stepU,askU,tolU,hw,h.key]
 unfold PNext
 rw [e]
 refine ⟨_,_,.walk1 (pre:=[]) (rest:=l) h (pb.walk _ _) (by simpa using pb.up) (by simp) rfl rfl w (by simpa using nc) rm,?_,id⟩
 rw [PB.mu]
 simp only [List.nil_append]
 omega
theorem PI.s_walk1 {c:Cf} {th op key:Int} {ws:List Int} {n:Int} {s:St} {wk:Wk} {won:Bool} {pre rest:List Int} (h:PC c th op key s) (wi:WI c s key 1 ⟨ws,n,wk⟩ pre rest) (up:(pre ++ rest).Pairwise fun a b => keyOf_ s a ≤ keyOf_ s b) (pl:∀ a ∈ pre,keyOf_ s a ≤ key)
  (wdn:wk.done = false) (wst:wk.stop = false) (w:wd c ws op = 0) (nc:∀ a ∈ pre ++ rest,opAt s a ≠ op) (rm:at_ s.made th.toNat < 2 * c.k) :
  PNext c th op key ⟨ws,n,s,⟨op,th,1,0,false,wk,false,won⟩⟩ (mu c s ⟨ws,n,wk⟩ rest + 16 * (pre ++ rest).length + 23):=by
 obtain ⟨pre',rest',wi',hmu,-,ef⟩:=wi.step wdn
 have hss:=step_stop (c:=c) (s:=s) (y:=⟨ws,n,wk⟩) wi.hm
 have hsn:=fun q => ef.sndTo (y:=⟨ws,n,wk⟩) (y':=stepK c s ⟨ws,n,wk⟩) wi wi' up q
 have hw':=ef.wdOp nc
 have hup:=ef.upto pl
 have hsub:=ef.sub
 unfold PNext
 rw [st_u1]
 generalize stepK c s ⟨ws,n,wk⟩ = z at *
 obtain ⟨zws,zn,zx⟩:=z
 simp only at *
 have hlen:=hsub.length_le
 have hup':=up.sublist hsub
 have hnc:∀ a ∈ pre' ++ rest',opAt s a ≠ op:=fun a ha => nc a (hsub.subset ha)
 cases hd:zx.done with
 | true =>
  simp only [if_true]
  exact ⟨_,_,.ask1 h (wi'.pb hup') (wi'.at_end hd (hss.trans wst) hup' hup) (hw'.trans w) hnc rm,by omega,hsn⟩
 | false =>
  simp only [Bool.false_eq_true,if_false]
  exact ⟨_,_,.walk1 h wi' hup' hup hd (hss.trans wst) (hw'.trans w) hnc rm,by omega,hsn⟩
theorem PI.s_ask1 {c:Cf} {th op key:Int} {ws:List Int} {n:Int} {s:St} {wk:Wk} {won:Bool} {pre rest:List Int} (h:PC c th op key s) (pb:PB c s ws (pre ++ rest)) (pw:PW c s ws wk key pre rest) (w:wd c ws op = 0) (nc:∀ a ∈ pre ++ rest,opAt s a ≠ op) (rm:at_ s.made th.toNat < 2 * c.k) :
  PNext c th op key ⟨ws,n,s,⟨op,th,2,0,false,wk,false,won⟩⟩ (16 * (pre ++ rest).length + 23):=by
 have e:stepU c ⟨ws,n,s,⟨op,th,2,0,false,wk,false,won⟩⟩ = ⟨ws,n + cnt ws (wrdI c op),s,⟨op,th,3,0,false,wk,false,false⟩⟩:=by
  have hw:rd ws (wrdI c op) = 0:=w
  simp [stepU,askU,tolU,hw]
 unfold PNext
 rw [e]
 exact ⟨_,_,.lay h pb pw w nc rm,by omega,id⟩
theorem PI.s_ask2 {c:Cf} {th op key:Int} {ws:List Int} {n:Int} {s:St} {wk:Wk} {won:Bool} {l:List Int} {nd:Int} (h:PC c th op key s) (pb:PB c s ws l) (w:wd c ws op = 0) (hm:nd ∈ l) (hon:opAt s nd = op) (um:nx c ws nd % 2 = 0) :
  PNext c th op key ⟨ws,n,s,⟨op,th,0,nd,true,wk,false,won⟩⟩ (16 * l.length + 4):=by
 have e:stepU c ⟨ws,n,s,⟨op,th,0,nd,true,wk,false,won⟩⟩ = ⟨ws,n + cnt ws (wrdI c op),s,⟨op,th,1,nd,true,newK key 1,false,false⟩⟩:=by
  have hw:rd ws (wrdI c op) = 0:=w
  simp [stepU,askU,tolU,hw,h.key]
 unfold PNext
 rw [e]
 refine ⟨_,_,.walk2 (pre:=[]) (rest:=l) h (pb.walk _ _) (by simpa using pb.up) rfl rfl hon (.inr ⟨by simpa using hm,um⟩),?_,id⟩
 rw [PB.mu]
 simp only [List.nil_append]
 omega
theorem PI.s_walk2 {c:Cf} {th op key:Int} {ws:List Int} {n:Int} {s:St} {wk:Wk} {won:Bool} {pre rest:List Int} {nd:Int} (h:PC c th op key s) (wi:WI c s key 1 ⟨ws,n,wk⟩ pre rest) (up:(pre ++ rest).Pairwise fun a b => keyOf_ s a ≤ keyOf_ s b) (wdn:wk.done = false) (wst:wk.stop = false)
  (hon:opAt s nd = op) (j:wd c ws op ≠ 0 ∨ nd ∈ pre ++ rest ∧ nx c ws nd % 2 = 0) :
  PNext c th op key ⟨ws,n,s,⟨op,th,1,nd,true,wk,false,won⟩⟩ (mu c s ⟨ws,n,wk⟩ rest + 8 * (pre ++ rest).length + 2):=by
 obtain ⟨pre',rest',wi',hmu,-,ef⟩:=wi.step wdn
 have hss:=step_stop (c:=c) (s:=s) (y:=⟨ws,n,wk⟩) wi.hm
 have hsn:=fun q => ef.sndTo (y:=⟨ws,n,wk⟩) (y':=stepK c s ⟨ws,n,wk⟩) wi wi' up q
 have hj:=Eff.judged (y:=⟨ws,n,wk⟩) ef wi hon (h.keyAt hon) j
 have hsub:=ef.sub
 unfold PNext
 rw [st_u1]
 generalize stepK c s ⟨ws,n,wk⟩ = z at *
 obtain ⟨zws,zn,zx⟩:=z
 simp only at *
 have hlen:=hsub.length_le
 have hup':=up.sublist hsub
 cases hd:zx.done with
 | true =>
  have hw:wd c zws op ≠ 0:=by
   rcases hj with hj | ⟨hj,-⟩
   ·exact hj
   ·have:=((wi'.clean hd (hss.trans wst) hup') nd hj).2 (h.keyAt hon) rfl
    rwa [hon] at this
  simp only [if_true]
  exact ⟨_,_,.ask3 h (wi'.pb hup') hw,by omega,hsn⟩
 | false =>
  simp only [Bool.false_eq_true,if_false]
  exact ⟨_,_,.walk2 h wi' hup' hd (hss.trans wst) hon hj,by omega,hsn⟩
theorem PI.s_ask3 {c:Cf} {th op key:Int} {ws:List Int} {n:Int} {s:St} {wk:Wk} {won:Bool} {l:List Int} {nd:Int} (h:PC c th op key s) (pb:PB c s ws l) (w:wd c ws op ≠ 0) :
  PNext c th op key ⟨ws,n,s,⟨op,th,2,nd,true,wk,false,won⟩⟩ (8 * l.length + 2):=by
 have e:stepU c ⟨ws,n,s,⟨op,th,2,nd,true,wk,false,won⟩⟩ = ⟨ws,n + cnt ws (wrdI c op),s,⟨op,th,5,nd,true,newK key 1,false,!decide (rd ws (wrdI c op) = 2)⟩⟩:=by
  have hw:¬ rd ws (wrdI c op) = 0:=w
  simp [stepU,askU,tolU,hw,h.key]
 unfold PNext
 rw [e]
 refine ⟨_,_,.walk3 (pre:=[]) (rest:=l) h (pb.walk _ _) (by simpa using pb.up) rfl,?_,id⟩
 rw [PB.mu]
 omega
theorem PI.s_walk3 {c:Cf} {th op key:Int} {ws:List Int} {n:Int} {s:St} {wk:Wk} {won:Bool} {pre rest:List Int} {nd:Int} (h:PC c th op key s) (wi:WI c s key 1 ⟨ws,n,wk⟩ pre rest) (up:(pre ++ rest).Pairwise fun a b => keyOf_ s a ≤ keyOf_ s b) (wdn:wk.done = false) :
  PNext c th op key ⟨ws,n,s,⟨op,th,5,nd,true,wk,false,won⟩⟩ (mu c s ⟨ws,n,wk⟩ rest):=by
 obtain ⟨pre',rest',wi',hmu,-,ef⟩:=wi.step wdn
 have hsn:=fun q => ef.sndTo (y:=⟨ws,n,wk⟩) (y':=stepK c s ⟨ws,n,wk⟩) wi wi' up q
 have hsub:=ef.sub
 unfold PNext
 rw [st_u5]
 generalize stepK c s ⟨ws,n,wk⟩ = z at *
 obtain ⟨zws,zn,zx⟩:=z
 simp only at *
 have hup':=up.sublist hsub
 cases hd:zx.done with
 | true =>
  simp only [if_true]
  exact ⟨_,_,.fin rfl (wi'.pb hup'),by omega,hsn⟩
 | false =>
  simp only [Bool.false_eq_true,if_false]
  exact ⟨_,_,.walk3 h wi' hup' hd,hmu,hsn⟩
end Go.Proofs.YtcogckjpmmjmbaaGreat
