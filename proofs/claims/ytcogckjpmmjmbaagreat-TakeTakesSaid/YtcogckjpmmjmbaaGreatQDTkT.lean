/- A delete that nobody disturbs, in a sound world: what it takes, and who wins. -/
import Derived.Test.YtcogckjpmmjmbaaGreatQDTkQ
import Derived.Test.YtcogckjpmmjmbaaGreatQDGLaid
namespace Go.Proofs.YtcogckjpmmjmbaaGreat
set_option maxRecDepth 100000
set_option linter.unusedVariables false
def pairO (s:St) (o:Int):Int × Int:=((calAt s o).key,(calAt s o).val)
def foldO (c:Cf) (ws:List Int) (s:St) (l:List Int):List Int × List (Int × Int):=foldN c ws s l ([],[])
def prsL (c:Cf) (ws:List Int) (s:St) (l:List Int):List (Int × Int):=(foldO c ws s l).2
def woK (key:Int) (ps:List (Int × Int)):List (Int × Int):=ps.filter fun p => decide (p.1 ≠ key)
theorem woK_none {key:Int} {ps:List (Int × Int)} (h:∀ p ∈ ps,p.1 ≠ key):woK key ps = ps:=List.filter_eq_self.2 fun p hp => by simpa using h p hp
theorem woK_len {key:Int} {ps:List (Int × Int)} (h:∃ p ∈ ps,p.1 = key):(woK key ps).length < ps.length:=by
 obtain ⟨p,hp,hk⟩:=h
 unfold woK
 induction ps with
 | nil => cases hp
 | cons q r ih =>
  rcases List.mem_cons.1 hp with e | hp
  ·subst e
   rw [List.filter_cons_of_neg (by simpa using hk)]
   exact Nat.lt_succ_of_le (List.length_filter_le _ _)
  ·by_cases hq:q.1 = key
   ·rw [List.filter_cons_of_neg (by simpa using hq)]
    exact Nat.lt_succ_of_le (List.length_filter_le _ _)
   ·rw [List.filter_cons_of_pos (by simpa using hq),List.length_cons,List.length_cons]
    exact Nat.succ_lt_succ (ih hp)
theorem stepP_at (c:Cf) (ws:List Int) (s:St) (acc:List Int × List (Int × Int)) (a:Int):stepP c ws s acc a = if ((calAt s (opAt s a)).kind = 1 ∧ wd c ws (opAt s a) = 1) ∧ opAt s a ∉ acc.1 then (acc.1 ++ [opAt s a],acc.2 ++ [pairO s (opAt s a)]) else acc:=by
 have ew:wd c ws (opAt s a) = wrdOf c ws (opAt s a):=rfl
 rw [ew]
 unfold stepP addK
 by_cases h1:(calAt s (opAt s a)).kind = 1 ∧ wrdOf c ws (opAt s a) = 1
 ·by_cases h2:opAt s a ∈ acc.1
  ·simp [h1,h2]
  ·simp [h1,h2,pairO]
 ·rw [if_neg (fun q => h1 q.1),if_neg (fun q => h1 q.1)]
theorem fold_map {c:Cf} {ws:List Int} {s:St}:∀ {l:List Int} {acc:List Int × List (Int × Int)},acc.2 = acc.1.map (pairO s) → (foldN c ws s l acc).2 = (foldN c ws s l acc).1.map (pairO s)
 | [],_,h => h
 | i :: l,acc,h => by
  show (foldN c ws s l (stepP c ws s acc i)).2 = _
  refine fold_map (l:=l) ?_
  rw [stepP_at]
  split
  ·simp only [List.map_append,List.map_cons,List.map_nil,h]
  ·exact h
theorem fold_conv {c:Cf} {ws:List Int} {s:St}:∀ {l:List Int} {acc:List Int × List (Int × Int)} {o:Int},o ∈ (foldN c ws s l acc).1 → o ∈ acc.1 ∨ ∃ a ∈ l,opAt s a = o ∧ (calAt s o).kind = 1 ∧ wd c ws o = 1
 | [],_,_,h => .inl h
 | i :: l,acc,o,h => by
  rcases fold_conv (l:=l) (acc:=stepP c ws s acc i) h with h | ⟨a,ha,h⟩
  ·rw [stepP_at] at h
   split at h
   ·rename_i q
    simp only [List.mem_append,List.mem_singleton] at h
    rcases h with h | h
    ·exact .inl h
    ·exact .inr ⟨i,by simp,h.symm,by rw [h];exact q.1.1,by rw [h];exact q.1.2⟩
   ·exact .inl h
  ·exact .inr ⟨a,by simp [ha],h⟩
theorem fold_congr {c:Cf} {ws ws':List Int} {s:St}:∀ {l:List Int} {acc:List Int × List (Int × Int)},(∀ a ∈ l,wd c ws' (opAt s a) = wd c ws (opAt s a)) → foldN c ws' s l acc = foldN c ws s l acc
 | [],_,_ => rfl
 | i :: l,acc,h => by
  show foldN c ws' s l (stepP c ws' s acc i) = foldN c ws s l (stepP c ws s acc i)
  rw [show stepP c ws' s acc i = stepP c ws s acc i by rw [stepP_at,stepP_at,h i (by simp)]]
  exact fold_congr (fun a ha => h a (by simp [ha]))
theorem prs_key {c:Cf} {ws:List Int} {s:St} {l:List Int} {key:Int}:(∃ p ∈ prsL c ws s l,p.1 = key) ↔ ∃ a ∈ l,(calAt s (opAt s a)).kind = 1 ∧ wd c ws (opAt s a) = 1 ∧ keyOf_ s a = key:=by
 have hm:(foldO c ws s l).2 = (foldO c ws s l).1.map (pairO s):=fold_map rfl
 unfold prsL
 rw [hm]
 constructor
 ·rintro ⟨p,hp,hk⟩
  obtain ⟨o,ho,rfl⟩:=List.mem_map.1 hp
  rcases fold_conv ho with h | ⟨a,ha,h1,h2,h3⟩
  ·cases h
  ·exact ⟨a,ha,by rw [h1];exact h2,by rw [h1];exact h3,by rw [key_op,h1];exact hk⟩
 ·rintro ⟨a,ha,h1,h2,h3⟩
  exact ⟨pairO s (opAt s a),List.mem_map.2 ⟨opAt s a,fold_mem (.inr ⟨a,ha,rfl,h1,h2⟩),rfl⟩,h3⟩
theorem prs_rise {c:Cf} {ws:List Int} {s:St} {l:List Int} (h:sndL c ws s 0 ps0 l = true):(prsL c ws s l).Pairwise fun a b => a.1 < b.1 :=
 sndL_rise _ (p:=ps0) ⟨fun o ho => by simp [ps0] at ho,fun y hy => by simp at hy,.nil⟩ h
theorem map_inj_of {α:Type} {f:α → Int}:∀ {l:List α},(l.map f).Pairwise (· < ·) → ∀ {a b:α},a ∈ l → b ∈ l → f a = f b → a = b
 | [],_,_,_,h,_,_ => by cases h
 | x :: r,hp,a,b,ha,hb,e => by
  rw [List.map_cons,List.pairwise_cons] at hp
  rcases List.mem_cons.1 ha with ha | ha <;> rcases List.mem_cons.1 hb with hb | hb
  ·rw [ha,hb]
  ·have:=hp.1 _ (List.mem_map.2 ⟨b,hb,rfl⟩);rw [ha] at e;omega
  ·have:=hp.1 _ (List.mem_map.2 ⟨a,ha,rfl⟩);rw [hb] at e;omega
  ·exact map_inj_of hp.2 ha hb e
theorem in_one {c:Cf} {ws:List Int} {s:St} {l:List Int} (h:sndL c ws s 0 ps0 l = true) {a b:Int} (ha:a ∈ l) (hb:b ∈ l) (ka:(calAt s (opAt s a)).kind = 1) (kb:(calAt s (opAt s b)).kind = 1)
  (wa:wd c ws (opAt s a) = 1) (wb:wd c ws (opAt s b) = 1) (e:keyOf_ s a = keyOf_ s b):opAt s a = opAt s b:=by
 have hr:=prs_rise h
 have hm:(foldO c ws s l).2 = (foldO c ws s l).1.map (pairO s):=fold_map rfl
 unfold prsL at hr
 rw [hm,List.pairwise_map] at hr
 have hr2:((foldO c ws s l).1.map fun o => (calAt s o).key).Pairwise (· < ·):=by rw [List.pairwise_map];exact hr
 exact map_inj_of hr2 (fold_mem (.inr ⟨a,ha,rfl,ka,wa⟩)) (fold_mem (.inr ⟨b,hb,rfl,kb,wb⟩)) e
theorem snd_kind {c:Cf} {ws:List Int} {s:St}:∀ {l:List Int} {p:Ps},sndL c ws s 0 p l = true → ∀ a ∈ l,(calAt s (opAt s a)).kind = 1
 | [],_,_,_,h => by cases h
 | i :: l,p,h,a,ha => by
  rw [sndL_cons,fit_iff] at h
  rcases List.mem_cons.1 ha with ha | ha
  ·rw [ha];exact h.1.1
  ·exact snd_kind h.2 a ha
theorem prs_out {c:Cf} {ws ws':List Int} {s:St} {l:List Int} {key:Int} (h:sndL c ws s 0 ps0 l = true) {t:Int} (ht:∃ a ∈ l,opAt s a = t ∧ wd c ws t = 1 ∧ keyOf_ s a = key) (hw:∀ o,wd c ws' o = if o = t then wd c ws' t else wd c ws o) (h2:2 ≤ wd c ws' t) :
  prsL c ws' s l = woK key (prsL c ws s l):=by
 obtain ⟨a,ha,rfl,hw1,hk⟩:=ht
 have hb:=(But1.fold (c:=c) (ws:=ws) (ws':=ws') (s:=s) (k:=key) (fun o ho => by rw [hw,if_neg];rintro rfl;exact ho hk) (l:=l) (a:=([],[])) (b:=([],[])) ⟨fun _ _ => Iff.rfl,rfl⟩).prs
 have hn:∀ p ∈ prsL c ws' s l,p.1 ≠ key:=by
  intro p hp e
  obtain ⟨b,hb,b1,b2,b3⟩:=prs_key.1 ⟨p,hp,e⟩
  rw [hw] at b2
  split at b2
  ·omega
  ·rename_i hne
   exact hne (in_one h hb ha b1 (snd_kind h a ha) b2 hw1 (b3.trans hk.symm))
 rw [← woK_none hn]
 exact hb
theorem pend_no {c:Cf} {ws:List Int} {s:St} {key o:Int}:∀ {r:List Int} {p:Ps},sndL c ws s 0 p r = true → key ∈ p.opens → o ∉ p.ops → wd c ws o = 1 → ∀ b ∈ r,opAt s b = o → keyOf_ s b = key → False
 | [],_,_,_,_,_,_,h,_,_ => by cases h
 | i :: r,p,h,ho,hn,w1,b,hb,e,k => by
  rw [sndL_cons] at h
  obtain ⟨hf,h⟩:=h
  rw [fit_iff] at hf
  by_cases ei:opAt s i = o
  ·obtain ⟨-,-,-,-,f⟩:=hf
   rw [ei,w1] at f
   have ki:keyOf_ s i = key:=by rw [← k,key_op,key_op,ei,e]
   rcases f with f | f | ⟨-,f⟩
   ·exact hn f
   ·omega
   ·exact f ⟨rfl,by rw [ki];exact ho⟩
  ·refine pend_no h ?_ ?_ w1 b ?_ e k
   ·simp only [passV]
    split
    ·exact ho
    ·rw [mem_addK];exact .inl ho
   ·simp only [passV,mem_addK]
    rintro (q | q)
    ·exact hn q
    ·exact ei q.symm
   ·rcases List.mem_cons.1 hb with q | q
    ·subst q;exact absurd e ei
    ·exact q
theorem WI.seek2 {c:Cf} {s:St} {key:Int} {y:Kd} {pre rest:List Int} (h:WI c s key 2 y pre rest) (hd:y.x.done = false) (hf:y.x.found = -1) (hs:y.x.stop = false) :
  ((stepK c s y).x.found = -1 ∧ (stepK c s y).x.stop = false) ∨ (stepK c s y).ws = y.ws ∧ (stepK c s y).x.done = true ∧ ∃ C r,rest = C :: r ∧ keyOf_ s C = key ∧ (((stepK c s y).x.found = -1 ∧ wd c y.ws (opAt s C) = 0) ∨ ((stepK c s y).x.found = opAt s C ∧ wd c y.ws (opAt s C) = 1)):=by
 obtain ⟨ws,n,x⟩:=y
 simp only at hd hf hs
 have hm2:=h.hm
 have hk2:=h.hk
 simp only at hm2 hk2
 cases h.pos with
 | fin h1 _ => simp only at h1;rw [hd] at h1;cases h1
 | beg _ h0 hp =>
  left
  rw [st_0 hd h0]
  simp only [begK]
  exact ⟨(arr_found _ _ _).trans hf,(arr_stop _ _ _).trans hs⟩
 | at_ C r _ hr hc hp hk ha =>
  cases ha with
  | peek h1 => left;rw [st_1 hd h1];exact ⟨hf,hs⟩
  | unl h2 hn hm =>
   left
   rw [st_2 hd h2]
   simp only [unlK]
   split
   ·exact ⟨(arr_found _ _ _).trans hf,(arr_stop _ _ _).trans hs⟩
   ·exact ⟨hf,hs⟩
  | mrk h4 hn hm ho => left;rw [st_4 hd h4];exact ⟨hf,hs⟩
  | ask h5 hn hm h1 => cases h1
  | let_ h5 hn hm h1 => cases h1
  | ref h5 hn hm h1 => cases h1
  | jdg h3 hn hm =>
   rw [st_3 hd h3]
   have hop:opK s x = opAt s C:=by rw [opK_at];exact congrArg _ hc
   have hv:rd ws (wrdI c (opK s x)) = wd c ws (opAt s C):=by rw [hop]
   simp only [jdgK]
   rw [hv]
   have hv0:0 ≤ wd c ws (opAt s C):=(h.wok (wrdI c (opAt s C))).1
   generalize hw:wd c ws (opAt s C) = v at *
   unfold judK
   by_cases c1:2 ≤ v
   ·rw [if_pos c1];exact .inl ⟨hf,hs⟩
   rw [if_neg c1]
   have hcx:x.curr = C:=hc
   rw [hcx,hk2]
   by_cases c2:keyOf_ s C ≠ key
   ·rw [if_pos c2];exact .inl ⟨(adv_found _ _).trans hf,(adv_stop _ _).trans hs⟩
   rw [if_neg c2,if_pos hm2]
   right
   refine ⟨trivial,rfl,C,r,hr,by simpa using c2,?_⟩
   by_cases c3:v = 1
   ·rw [if_pos c3];exact .inr ⟨hop,by rw [hw];exact c3⟩
   ·rw [if_neg c3];exact .inl ⟨hf,by rw [hw];omega⟩
theorem seek_none {c:Cf} {ws:List Int} {s:St} {key:Int} {pre r:List Int} {C:Int} (h:sndL c ws s 0 ps0 (pre ++ C :: r) = true) (np:∀ a ∈ pre,keyOf_ s a ≠ key) (hk:keyOf_ s C = key) (hw:wd c ws (opAt s C) = 0):∀ p ∈ prsL c ws s (pre ++ C :: r),p.1 ≠ key:=by
 intro p hp e
 obtain ⟨b,hb,-,b2,b3⟩:=prs_key.1 ⟨p,hp,e⟩
 rw [sndL_app,sndL_cons] at h
 obtain ⟨-,-,h3⟩:=h
 rcases List.mem_append.1 hb with hb | hb
 ·exact np b hb b3
 have hbC:opAt s b ≠ opAt s C:=fun q => by rw [q,hw] at b2;cases b2
 rcases List.mem_cons.1 hb with hb | hb
 ·subst hb;exact hbC rfl
 refine pend_no h3 ?_ ?_ b2 b hb rfl b3
 ·have e4:(ndOf c ws s C).word = wd c ws (opAt s C):=rfl
  simp only [passV,e4]
  rw [if_neg (by omega),mem_addK]
  exact .inr hk.symm
 ·simp only [passV,mem_addK]
  rintro (q | q)
  ·rw [pasL_ops] at q
   rcases q with q | ⟨a,ha,q⟩
   ·simp [ps0] at q
   ·exact np a ha (by rw [key_op,q,← key_op];exact b3)
  ·exact hbC q
theorem far_none {c:Cf} {ws:List Int} {s:St} {key:Int} {pre rest:List Int} (np:∀ a ∈ pre,keyOf_ s a ≠ key) (hr:∀ a ∈ rest,key < keyOf_ s a):∀ p ∈ prsL c ws s (pre ++ rest),p.1 ≠ key:=by
 intro p hp e
 obtain ⟨b,hb,-,-,b3⟩:=prs_key.1 ⟨p,hp,e⟩
 rcases List.mem_append.1 hb with hb | hb
 ·exact np b hb b3
 ·have:=hr b hb;omega
end Go.Proofs.YtcogckjpmmjmbaaGreat
