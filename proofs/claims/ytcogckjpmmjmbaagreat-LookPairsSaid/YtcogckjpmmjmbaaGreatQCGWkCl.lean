/- Behind a walk that nobody disturbs: what is left up to its key. -/
import Derived.Test.YtcogckjpmmjmbaaGreatQCWkSo
import Derived.Test.YtcogckjpmmjmbaaGreatQCMWRef
import Derived.Test.YtcogckjpmmjmbaaGreatQCMBase
import Derived.BigQuiet
namespace Go.Proofs.YtcogckjpmmjmbaaGreat
set_option maxRecDepth 100000
set_option linter.unusedVariables false
theorem pasL_opens_in {c:Cf} {ws:List Int} {s:St}:∀ {l:List Int} {p:Ps} {k:Int},k ∈ p.opens ∨ (∃ a ∈ l,keyOf_ s a = k ∧ wd c ws (opAt s a) < 2) → k ∈ (pasL c ws s p l).opens
 | [],p,k,h => by rcases h with h | ⟨a,ha,-⟩;exact h;cases ha
 | i :: l,p,k,h => by
  rw [pasL_cons]
  refine pasL_opens_in ?_
  have e4:(ndOf c ws s i).word = wd c ws (opAt s i):=rfl
  rcases h with h | ⟨a,ha,h1,h2⟩
  ·left
   simp only [passV]
   split
   ·exact h
   ·rw [mem_addK];exact .inl h
  ·rcases List.mem_cons.1 ha with rfl | ha
   ·left
    simp only [passV,e4]
    rw [if_neg (by omega),mem_addK]
    exact .inr h1.symm
   ·exact .inr ⟨a,ha,h1,h2⟩
theorem one_mem {α:Type} {l:List α} (h:l.length ≤ 1) {a b:α} (ha:a ∈ l) (hb:b ∈ l):a = b:=by
 match l,h with
 | [],_ => cases ha
 | [x],_ => simp only [List.mem_singleton] at ha hb;rw [ha,hb]
structure WS (c:Cf) (s:St) (key mode:Int) (y:Kd) (pre rest:List Int):Prop where
 wi:WI c s key mode y pre rest
 sd:sndL c y.ws s 0 ps0 (pre ++ rest) = true
 uq:mode = 1 → (pre.filter fun a => decide (keyOf_ s a = key)).length ≤ 1
theorem WS.step {c:Cf} {s:St} {key mode:Int} {y:Kd} {pre rest:List Int} (h:WS c s key mode y pre rest) (hd:y.x.done = false):∃ pre' rest',WS c s key mode (stepK c s y) pre' rest' ∧ Eff c s key mode y.x.seen y.ws (stepK c s y).ws pre rest pre' rest':=by
 obtain ⟨pre',rest',h1,-,-,h4⟩:=h.wi.step hd
 refine ⟨pre',rest',⟨h1,h4.snd (List.nodup_cons.1 h.wi.nd).2 h.sd,fun hm => ?_⟩,h4⟩
 have hu:=h.uq hm
 cases h4 with
 | same _ hp _ => subst hp;exact hu
 | unl _ _ _ hp => subst hp;exact hu
 | mrk _ _ _ hp => subst hp;exact hu
 | let_ _ _ _ hp => subst hp;exact hu
 | ref _ _ _ hp => subst hp;exact hu
 | adv C r _ hr hp _ hs _ =>
  subst hr hp
  rw [List.filter_append]
  by_cases hk:keyOf_ s C = key
  ·obtain ⟨w1,w2⟩:=hs hm hk
   have hsd:=h.sd
   rw [sndL_app,sndL_cons,fit_iff] at hsd
   obtain ⟨-,⟨-,-,-,-,f5⟩,-⟩:=hsd
   have none_:∀ a ∈ pre,keyOf_ s a ≠ key:=by
    intro a ha hka
    have wa:=h.wi.pk hm a ha hka
    have hsn:y.x.seen ≠ -1:=fun e => h.wi.sn hm e a ha hka
    obtain ⟨-,a',ha',e',k'⟩:=h.wi.sa hsn
    rcases f5 with f | f | ⟨-,f⟩
    ·rw [pasL_ops] at f
     rcases f with f | ⟨b,hb,eb⟩
     ·simp [ps0] at f
     ·have kb:keyOf_ s b = key:=by rw [key_op,eb,← key_op];exact hk
      have:a' = b:=one_mem hu (List.mem_filter.2 ⟨ha',by simpa using k'⟩) (List.mem_filter.2 ⟨hb,by simpa using kb⟩)
      exact w2 (by rw [e',this,eb])
    ·omega
    ·exact f ⟨w1,pasL_opens_in (.inr ⟨a,ha,hka.trans hk.symm,by rw [wa];omega⟩)⟩
   have e0:(pre.filter fun a => decide (keyOf_ s a = key)) = []:=List.filter_eq_nil_iff.2 (fun a ha => by simpa using none_ a ha)
   rw [e0]
   simp only [List.nil_append,List.filter_cons,List.filter_nil]
   split <;> simp
  ·simp only [List.filter_cons,List.filter_nil,hk,decide_false,Bool.false_eq_true,if_false,List.append_nil]
   exact hu
theorem WS.run {c:Cf} {s:St} {key mode:Int} {y:Kd} {pre rest:List Int} (h:WS c s key mode y pre rest):∀ k,∃ pre' rest',WS c s key mode (runK c s y k) pre' rest' ∧ (pre' ++ rest').Sublist (pre ++ rest) ∧
  (foldN c (runK c s y k).ws s (pre' ++ rest') ([],[])).2.filter (fun p => decide (p.1 ≠ key)) = (foldN c y.ws s (pre ++ rest) ([],[])).2.filter (fun p => decide (p.1 ≠ key)) ∧ (mode ≠ 1 → foldN c (runK c s y k).ws s (pre' ++ rest') ([],[]) = foldN c y.ws s (pre ++ rest) ([],[]))
 | 0 => ⟨pre,rest,h,List.Sublist.refl _,rfl,fun _ => rfl⟩
 | k + 1 => by
  obtain ⟨p,r,h1,h2,h3,h4⟩:=h.run k
  by_cases hd:(runK c s y k).x.done = true
  ·have e:runK c s y (k + 1) = runK c s y k:=st_d hd
   rw [e]
   exact ⟨p,r,h1,h2,h3,h4⟩
  ·obtain ⟨p',r',h5,h6⟩:=h1.step (by simpa using hd)
   obtain ⟨q1,q2⟩:=h6.prs h1.sd
   exact ⟨p',r',h5,h6.sub.trans h2,q1.trans h3,fun hm => (q2 hm).trans (h4 hm)⟩
theorem WI.chain {c:Cf} {s:St} {key mode:Int} {y:Kd} {pre rest:List Int} (h:WI c s key mode y pre rest):chainI c y.ws 0 = pre ++ rest:=by
 have hh:vHead c.t c.b c.i c.f c.k 0 = 1:=by unfold vHead;rw [if_pos ⟨h.lay.ok.z,by omega,by have:=h.b1;omega⟩];rfl
 unfold chainI firstOf
 rw [hh]
 refine h.lk.chain _ ?_
 have:=nodup_le (pre ++ rest) ((List.range c.nodes).map fun (j:Nat) => (j:Int)) (List.nodup_cons.1 h.nd).2 (fun a ha => by
  have hsc:=h.st a ha
  have s1:=hsc.a2
  have s2:=hsc.an
  rw [List.mem_map]
  exact ⟨a.toNat,by rw [List.mem_range];omega,by omega⟩)
 simpa using this
theorem WS.sound {c:Cf} {s:St} {key mode:Int} {y:Kd} {pre rest:List Int} (h:WS c s key mode y pre rest):sndTo c y.ws s c.b = true:=by
 rw [h.wi.b1]
 simp only [sndTo,Bool.true_and,sndB]
 have:=h.wi.chain
 show sndL c y.ws s 0 ps0 (chainI c y.ws 0) = true
 rw [this];exact h.sd
theorem WI.upto {c:Cf} {s:St} {key mode:Int} {y:Kd} {pre rest:List Int} (h:WI c s key mode y pre rest) (hd:y.x.done = true) (hs:y.x.stop = false) (hp:(pre ++ rest).Pairwise fun a b => keyOf_ s a ≤ keyOf_ s b):∀ a ∈ rest,key < keyOf_ s a:=by
 have hf:Far s key rest:=by
  cases h.pos with
  | fin _ h => rcases h with h | h;rw [hs] at h;cases h;exact h.1
  | beg h => rw [hd] at h;cases h
  | at_ C r h => rw [hd] at h;cases h
 intro a ha
 cases rest with
 | nil => cases ha
 | cons C r =>
  have hC:key < keyOf_ s C:=hf C rfl
  rcases List.mem_cons.1 ha with rfl | ha
  ·exact hC
  ·rw [List.pairwise_append,List.pairwise_cons] at hp
   have:=hp.2.1.1 a ha
   omega
theorem WI.clean {c:Cf} {s:St} {key mode:Int} {y:Kd} {pre rest:List Int} (h:WI c s key mode y pre rest) (hd:y.x.done = true) (hs:y.x.stop = false) (hp:(pre ++ rest).Pairwise fun a b => keyOf_ s a ≤ keyOf_ s b) :
  ∀ a ∈ pre ++ rest,(keyOf_ s a ≤ key → wd c y.ws (opAt s a) ≤ 1 ∧ nx c y.ws a % 2 = 0) ∧ (keyOf_ s a = key → mode = 1 → wd c y.ws (opAt s a) ≠ 0):=by
 have hu:=h.upto hd hs hp
 intro a ha
 rcases List.mem_append.1 ha with ha | ha
 ·exact ⟨fun _ => ⟨h.pw a ha,h.um a (by simp [ha])⟩,fun hk hm => by rw [h.pk hm a ha hk];omega⟩
 ·have:=hu a ha
  exact ⟨fun h => by omega,fun h => by omega⟩
theorem insI_up (x:It):∀ {l:List It},l.Pairwise (fun a b => a.key ≤ b.key) → (insI l x).Pairwise (fun a b => a.key ≤ b.key)
 | [],_ => by simp [insI]
 | y :: r,h => by
  rw [List.pairwise_cons] at h
  unfold insI
  split
  ·rename_i hk
   rw [List.pairwise_cons]
   refine ⟨fun z hz => ?_,insI_up x h.2⟩
   rcases insI_mem x r z hz with rfl | hz
   ·exact hk
   ·exact h.1 z hz
  ·rename_i hk
   rw [List.pairwise_cons]
   refine ⟨fun z hz => ?_,by rw [List.pairwise_cons];exact h⟩
   rcases List.mem_cons.1 hz with rfl | hz
   ·omega
   ·have:=h.1 z hz;omega
theorem foldI_up:∀ (xs l:List It),l.Pairwise (fun a b => a.key ≤ b.key) → (xs.foldl insI l).Pairwise (fun a b => a.key ≤ b.key)
 | [],l,h => h
 | x :: r,l,h => foldI_up r _ (insI_up x h)
theorem sortedI_up (xs:List It):∀ (i j:Nat) (x y:It),i < j → (sortedI xs)[i]? = some x → (sortedI xs)[j]? = some y → x.key ≤ y.key:=by
 intro i j x y hij hx hy
 unfold sortedI at hx hy
 rw [fixTo_get] at hx hy
 cases h1:(foldI xs)[i]? with
 | none => rw [h1] at hx;cases hx
 | some a =>
  cases h2:(foldI xs)[j]? with
  | none => rw [h2] at hy;cases hy
  | some b =>
   rw [h1] at hx;rw [h2] at hy
   simp only [Option.map_some,Option.some.injEq] at hx hy
   have hk:∀ (q:Nat) (z w:It),(if q < xs.length then keptI (foldI xs) q z else z) = w → w.key = z.key:=by
    intro q z w e;rw [← e];split
    ·exact keptI_key _ _ _
    ·rfl
   rw [hk i a x hx,hk j b y hy]
   obtain ⟨p1,e1⟩:=List.getElem?_eq_some_iff.1 h1
   obtain ⟨p2,e2⟩:=List.getElem?_eq_some_iff.1 h2
   have:=List.pairwise_iff_getElem.1 (foldI_up xs [] .nil) i j p1 p2 hij
   have e1':(foldI xs)[i] = a:=e1
   have e2':(foldI xs)[j] = b:=e2
   unfold foldI at e1' e2'
   rw [e1',e2'] at this
   exact this
theorem Scn.up {c:Cf} {s:St} {ws:List Int} {xs:List It} (h:Scn c s ws (sortedI xs)):(ids (sortedI xs).length).Pairwise fun a b => keyOf_ s a ≤ keyOf_ s b:=by
 have kk:∀ (j:Nat) (y:It),(sortedI xs)[j]? = some y → keyOf_ s ((j:Int) + 2) = y.key:=by
  intro j y hy
  obtain ⟨x,x1,-,x3⟩:=h.kk j y hy
  rw [key_op]
  unfold calAt
  rw [x1]
  exact x3
 rw [List.pairwise_iff_getElem]
 intro i j hi hj hij
 simp only [ids,List.length_map,List.length_range] at hi hj
 simp only [ids,List.getElem_map,List.getElem_range]
 have h1:(sortedI xs)[i]? = some (sortedI xs)[i]:=List.getElem?_eq_getElem hi
 have h2:(sortedI xs)[j]? = some (sortedI xs)[j]:=List.getElem?_eq_getElem hj
 rw [kk i _ h1,kk j _ h2]
 exact sortedI_up xs i j _ _ hij h1 h2
end Go.Proofs.YtcogckjpmmjmbaaGreat
namespace Go.Proofs.YtcogckjpmmjmbaaGreat
open Go.ChangeShapes Go.WideShapes Go.ChangeAt Go.RowKit
set_option maxRecDepth 100000
set_option linter.unusedVariables false
theorem wpQuiet_load_box {P:Program} {ops:Array Oper} {C:World → Prop} {Q:Act → Prop} {rest:List Oper} {op:Oper} {a:Act} (hgd:op.guard = none) (ty:TypeId) (x:Operand) (ho:op.op = .load ty x)
  (b:Nat) (hx:a.eval x = .pointer (some ⟨b,0,none⟩)) (l:List Value) (d:TypeDesc) (hu:P.underlying ty = some d) (hd:d.isRow = true) (hi:(P.info? ty).map (·.size) = some l.length) (hB:∀ w,C w → Box w b l)
  (h:wpQuiet P ops C Q rest (a.put op.dst (.agg l.toArray))):wpQuiet P ops C Q (op :: rest) a :=
 Go.BigFrame.wpQuiet_want (by unfold Region.wanted;rw [hgd]) fun K hK => ⟨_,fun w hw => by
  unfold Oper.quietAt execOp
  simp only [ho,hx,Instr.loadAt,Instr.sureAddr,Sem.run_bind,Sem.run_pure,Result.andThen_ok,run_loadVar_mid w b 0 ty l d (hB w hw).range hu hd hi]
  exact ⟨rfl,rfl⟩,hK _ h⟩
theorem Box.grw {w0:World} {b:Nat} {l:List Value} (h:Box w0 b l):∀ w,(∃ g:GrW w0,w = g.w) → Box w b l:=by
 rintro _ ⟨g,rfl⟩
 exact h.grown g.gr
end Go.Proofs.YtcogckjpmmjmbaaGreat
namespace Go.Proofs.YtcogckjpmmjmbaaGreat
open Go.ChangeShapes Go.WideShapes Go.ChangeAt Go.RowKit
set_option maxRecDepth 100000
set_option linter.unusedVariables false
theorem wpQuiet_load_boxg {P:Program} {ops:Array Oper} {C:World → Prop} {Q:Act → Prop} {rest:List Oper} {op:Oper} {a:Act} (hgd:Region.wanted op (yielded ops a.tmps) = true) (ty:TypeId) (x:Operand) (ho:op.op = .load ty x)
  (b:Nat) (hx:a.eval x = .pointer (some ⟨b,0,none⟩)) (l:List Value) (d:TypeDesc) (hu:P.underlying ty = some d) (hd:d.isRow = true) (hi:(P.info? ty).map (·.size) = some l.length) (hB:∀ w,C w → Box w b l)
  (h:wpQuiet P ops C Q rest (a.put op.dst (.agg l.toArray))):wpQuiet P ops C Q (op :: rest) a :=
 Go.BigFrame.wpQuiet_want hgd fun K hK => ⟨_,fun w hw => by
  unfold Oper.quietAt execOp
  simp only [ho,hx,Instr.loadAt,Instr.sureAddr,Sem.run_bind,Sem.run_pure,Result.andThen_ok,run_loadVar_mid w b 0 ty l d (hB w hw).range hu hd hi]
  exact ⟨rfl,rfl⟩,hK _ h⟩
end Go.Proofs.YtcogckjpmmjmbaaGreat
