/- A walk that nobody disturbs leaves a sound world sound. -/
import Derived.Test.YtcogckjpmmjmbaaGreatQDWkL
namespace Go.Proofs.YtcogckjpmmjmbaaGreat
set_option maxRecDepth 100000
set_option linter.unusedVariables false
def pasL (c:Cf) (ws:List Int) (s:St) (p:Ps) (l:List Int):Ps:=l.foldl (fun p i => passV p (ndOf c ws s i)) p
theorem pasL_cons (c:Cf) (ws:List Int) (s:St) (p:Ps) (i:Int) (l:List Int):pasL c ws s p (i :: l) = pasL c ws s (passV p (ndOf c ws s i)) l:=rfl
theorem sndL_app {c:Cf} {ws:List Int} {s:St} {b:Int}:∀ {l m:List Int} {p:Ps},sndL c ws s b p (l ++ m) = true ↔ sndL c ws s b p l = true ∧ sndL c ws s b (pasL c ws s p l) m = true
 | [],m,p => by simp [sndL,pasL]
 | i :: l,m,p => by
  simp only [List.cons_append,sndL]
  by_cases h:fitV c b p (ndOf c ws s i) = true
  ·rw [if_pos h,if_pos h,pasL_cons];exact sndL_app
  ·rw [if_neg h,if_neg h];simp
theorem sndL_cons {c:Cf} {ws:List Int} {s:St} {b:Int} {i:Int} {l:List Int} {p:Ps}:sndL c ws s b p (i :: l) = true ↔ fitV c b p (ndOf c ws s i) = true ∧ sndL c ws s b (passV p (ndOf c ws s i)) l = true:=by
 simp only [sndL]
 split
 ·rename_i h;simp [h]
 ·rename_i h;simp [h]
theorem fit_iff {c:Cf} {ws:List Int} {s:St} {b:Int} {p:Ps} {i:Int}:fitV c b p (ndOf c ws s i) = true ↔ (calAt s (opAt s i)).kind = 1 ∧ zBucket (keyOf_ s i) c.b = b ∧ i ∉ p.nodes ∧ p.key ≤ keyOf_ s i ∧
  (opAt s i ∈ p.ops ∨ 2 ≤ wd c ws (opAt s i) ∨ (¬ nx c ws i % 2 = 1 ∧ ¬ (wd c ws (opAt s i) = 1 ∧ keyOf_ s i ∈ p.opens))):=by
 unfold fitV bearsV
 have e1:(ndOf c ws s i).cal = calAt s (opAt s i):=rfl
 have e2:(ndOf c ws s i).num = i:=rfl
 have e3:(ndOf c ws s i).op = opAt s i:=rfl
 have e4:(ndOf c ws s i).word = wd c ws (opAt s i):=rfl
 have e5:(ndOf c ws s i).next = nx c ws i:=rfl
 rw [e1,e2,e3,e4,e5,key_op]
 by_cases h1:(calAt s (opAt s i)).kind = 1 <;> by_cases h2:zBucket (calAt s (opAt s i)).key c.b = b <;> simp only [h1,h2,decide_true,decide_false,Bool.true_and,Bool.false_and,Bool.and_false,true_and,false_and,Bool.false_eq_true]
 by_cases h3:i ∈ p.nodes ∨ (calAt s (opAt s i)).key < p.key
 ·rw [if_pos h3]
  constructor
  ·intro h;cases h
  ·rintro ⟨a,b,-⟩;rcases h3 with h3 | h3;exact absurd h3 a;omega
 ·rw [if_neg h3]
  have h3a:i ∉ p.nodes:=fun h => h3 (.inl h)
  have h3b:p.key ≤ (calAt s (opAt s i)).key:=by
   have:=fun h => h3 (.inr h);omega
  by_cases h4:opAt s i ∈ p.ops ∨ 2 ≤ wd c ws (opAt s i)
  ·rw [if_pos h4]
   exact ⟨fun _ => ⟨h3a,h3b,by rcases h4 with h | h;exact .inl h;exact .inr (.inl h)⟩,fun _ => rfl⟩
  ·rw [if_neg h4]
   simp only [Bool.and_eq_true,Bool.not_eq_true',beq_eq_false_iff_ne,ne_eq,Bool.and_eq_false_iff,decide_eq_false_iff_not]
   constructor
   ·rintro ⟨a,b⟩
    refine ⟨h3a,h3b,.inr (.inr ⟨a,?_⟩)⟩
    rintro ⟨x,y⟩;rcases b with b | b;exact b x;exact b y
   ·rintro ⟨-,-,h | h | ⟨a,b⟩⟩
    ·exact absurd (.inl h) h4
    ·exact absurd (.inr h) h4
    ·refine ⟨a,?_⟩
     by_cases x:wd c ws (opAt s i) = 1
     ·exact .inr (fun y => b ⟨x,y⟩)
     ·exact .inl x
structure Rel (c:Cf) (ws':List Int) (p p':Ps):Prop where
 nodes:∀ x ∈ p'.nodes,x ∈ p.nodes
 key:p'.key ≤ p.key
 ops:∀ o ∈ p.ops,o ∈ p'.ops ∨ 2 ≤ wd c ws' o
 opens:∀ k ∈ p'.opens,k ∈ p.opens
theorem Rel.refl (c:Cf) (ws':List Int) (p:Ps):Rel c ws' p p:=⟨fun _ h => h,Int.le_refl _,fun _ h => .inl h,fun _ h => h⟩
theorem Rel.pass {c:Cf} {ws ws':List Int} {s:St} {p p':Ps} (h:Rel c ws' p p') (i:Int) (hw:wd c ws' (opAt s i) < 2 → wd c ws (opAt s i) < 2):Rel c ws' (passV p (ndOf c ws s i)) (passV p' (ndOf c ws' s i)):=by
 have e4:(ndOf c ws s i).word = wd c ws (opAt s i):=rfl
 have e4':(ndOf c ws' s i).word = wd c ws' (opAt s i):=rfl
 refine ⟨?_,Int.le_refl _,?_,?_⟩
 ·intro x hx
  simp only [passV,mem_addK] at hx ⊢
  rcases hx with hx | hx
  ·exact .inl (h.nodes x hx)
  ·exact .inr hx
 ·intro o ho
  simp only [passV,mem_addK] at ho ⊢
  rcases ho with ho | ho
  ·rcases h.ops o ho with h | h
   ·exact .inl (.inl h)
   ·exact .inr h
  ·exact .inl (.inr ho)
 ·intro k hk
  simp only [passV,e4,e4'] at hk ⊢
  split at hk
  ·split
   ·exact h.opens k hk
   ·rw [mem_addK];exact .inl (h.opens k hk)
  ·rename_i hn
   rw [if_neg (by have:=hw (by omega);omega)]
   rw [mem_addK] at hk ⊢
   rcases hk with hk | hk
   ·exact .inl (h.opens k hk)
   ·exact .inr hk
theorem pass_ops {p:Ps} {x:Nd} {o:Int} (h:o ∈ p.ops):o ∈ (passV p x).ops:=by simp only [passV,mem_addK];exact .inl h
theorem sndL_rel {c:Cf} {ws ws':List Int} {s:St} {b:Int}:∀ {l:List Int} {p p':Ps},Rel c ws' p p' → (∀ x ∈ l,(2 ≤ wd c ws' (opAt s x) ∨ opAt s x ∈ p'.ops ∨ wd c ws' (opAt s x) = wd c ws (opAt s x) ∧ nx c ws' x % 2 = nx c ws x % 2)) →
  (∀ x ∈ l,wd c ws' (opAt s x) < 2 → wd c ws (opAt s x) < 2) → sndL c ws s b p l = true → sndL c ws' s b p' l = true
 | [],_,_,_,_,_,_ => rfl
 | i :: l,p,p',h,he,hw,hs => by
  rw [sndL_cons] at hs ⊢
  obtain ⟨hf,hs⟩:=hs
  rw [fit_iff] at hf ⊢
  obtain ⟨f1,f2,f3,f4,f5⟩:=hf
  refine ⟨⟨f1,f2,fun hx => f3 (h.nodes _ hx),Int.le_trans h.key f4,?_⟩,?_⟩
  ·rcases he i (by simp) with e | e | ⟨e1,e2⟩
   ·exact .inr (.inl e)
   ·exact .inl e
   ·rcases f5 with f | f | ⟨f,g⟩
    ·rcases h.ops _ f with k | k
     ·exact .inl k
     ·exact .inr (.inl k)
    ·exact .inr (.inl (by rw [e1];exact f))
    ·exact .inr (.inr ⟨by rw [e2];exact f,by rw [e1];rintro ⟨x,y⟩;exact g ⟨x,h.opens _ y⟩⟩)
  ·refine sndL_rel (h.pass i (hw i (by simp))) (fun x hx => ?_) (fun x hx => hw x (by simp [hx])) hs
   rcases he x (by simp [hx]) with e | e | e
   ·exact .inl e
   ·exact .inr (.inl (pass_ops e))
   ·exact .inr (.inr e)
theorem pasL_ops {c:Cf} {ws:List Int} {s:St}:∀ {l:List Int} {p:Ps} {o:Int},o ∈ (pasL c ws s p l).ops ↔ o ∈ p.ops ∨ ∃ a ∈ l,opAt s a = o
 | [],p,o => by simp [pasL]
 | i :: l,p,o => by
  rw [pasL_cons,pasL_ops]
  simp only [passV,mem_addK]
  have e3:(ndOf c ws s i).op = opAt s i:=rfl
  rw [e3]
  constructor
  ·rintro ((h | h) | ⟨a,ha,h⟩)
   ·exact .inl h
   ·exact .inr ⟨i,by simp,h.symm⟩
   ·exact .inr ⟨a,by simp [ha],h⟩
  ·rintro (h | ⟨a,ha,h⟩)
   ·exact .inl (.inl h)
   ·rcases List.mem_cons.1 ha with rfl | ha
    ·exact .inl (.inr h.symm)
    ·exact .inr ⟨a,ha,h⟩
theorem pasL_opens {c:Cf} {ws:List Int} {s:St}:∀ {l:List Int} {p:Ps} {k:Int},k ∈ (pasL c ws s p l).opens → k ∈ p.opens ∨ ∃ a ∈ l,keyOf_ s a = k
 | [],p,k,h => .inl h
 | i :: l,p,k,h => by
  rw [pasL_cons] at h
  rcases pasL_opens h with h | ⟨a,ha,h⟩
  ·simp only [passV] at h
   split at h
   ·exact .inl h
   ·rw [mem_addK] at h
    rcases h with h | h
    ·exact .inl h
    ·exact .inr ⟨i,by simp,h.symm⟩
  ·exact .inr ⟨a,by simp [ha],h⟩
theorem pasL_same {c:Cf} {ws ws':List Int} {s:St}:∀ {l:List Int} {p:Ps},(∀ x ∈ l,(2 ≤ wd c ws' (opAt s x) ↔ 2 ≤ wd c ws (opAt s x))) → pasL c ws' s p l = pasL c ws s p l
 | [],p,_ => rfl
 | i :: l,p,h => by
  rw [pasL_cons,pasL_cons]
  have e:passV p (ndOf c ws' s i) = passV p (ndOf c ws s i):=by
   unfold passV
   have e4:(ndOf c ws s i).word = wd c ws (opAt s i):=rfl
   have e4':(ndOf c ws' s i).word = wd c ws' (opAt s i):=rfl
   have hi:=h i (by simp)
   rw [e4,e4']
   by_cases k:2 ≤ wd c ws (opAt s i)
   ·rw [if_pos k,if_pos (hi.2 k)];rfl
   ·rw [if_neg k,if_neg (fun x => k (hi.1 x))];rfl
  rw [e]
  exact pasL_same (fun x hx => h x (by simp [hx]))
theorem Eff.snd {c:Cf} {s:St} {key mode seen:Int} {ws ws':List Int} {pre rest pre' rest':List Int} (h:Eff c s key mode seen ws ws' pre rest pre' rest') (nd:(pre ++ rest).Nodup) (hs:sndL c ws s 0 ps0 (pre ++ rest) = true):sndL c ws' s 0 ps0 (pre' ++ rest') = true:=by
 cases h with
 | same h hp hr => subst h hp hr;exact hs
 | adv C r h hr hp hr' _ _ => subst h hr hp hr';simpa using hs
 | unl C r hr hp hr' hm hw hn =>
  subst hr hp hr'
  rw [sndL_app,sndL_cons] at hs
  obtain ⟨h1,h2,h3⟩:=hs
  have eP:pasL c ws' s ps0 pre' = pasL c ws s ps0 pre':=pasL_same (fun x _ => by rw [hw])
  rw [sndL_app,eP]
  refine ⟨sndL_rel (Rel.refl _ _ _) (fun x _ => .inr (.inr ⟨hw _,hn _⟩)) (fun x _ k => by rw [hw] at k;exact k) h1,?_⟩
  refine sndL_rel ⟨?_,?_,?_,?_⟩ (fun x _ => .inr (.inr ⟨hw _,hn _⟩)) (fun x _ k => by rw [hw] at k;exact k) h3
  ·intro x hx;simp only [passV,mem_addK];exact .inl hx
  ·rw [fit_iff] at h2;exact h2.2.2.2.1
  ·intro o ho
   simp only [passV,mem_addK] at ho
   rcases ho with ho | ho
   ·exact .inl ho
   ·have e3:(ndOf c ws s C).op = opAt s C:=rfl
    rw [e3] at ho
    subst ho
    rw [fit_iff] at h2
    rcases h2.2.2.2.2 with k | k | ⟨k,-⟩
    ·exact .inl k
    ·exact .inr (by rw [hw];exact k)
    ·exact absurd hm k
  ·intro k hk
   simp only [passV]
   split
   ·exact hk
   ·rw [mem_addK];exact .inl hk
 | mrk C r hr hp hr' ho hw hn =>
  subst hr hp hr'
  rw [sndL_app,sndL_cons] at hs
  obtain ⟨h1,h2,h3⟩:=hs
  have eP:pasL c ws' s ps0 pre' = pasL c ws s ps0 pre':=pasL_same (fun x _ => by rw [hw])
  rw [List.nodup_append] at nd
  have nC:∀ x ∈ pre',x ≠ C:=fun x hx e => nd.2.2 x hx C (by simp) e
  have nR:∀ x ∈ r,x ≠ C:=fun x hx e => (List.nodup_cons.1 nd.2.1).1 (e ▸ hx)
  rw [sndL_app,eP,sndL_cons]
  refine ⟨sndL_rel (Rel.refl _ _ _) (fun x hx => .inr (.inr ⟨hw _,hn _ (nC x hx)⟩)) (fun x _ k => by rw [hw] at k;exact k) h1,?_,?_⟩
  ·rw [fit_iff] at h2 ⊢
   obtain ⟨f1,f2,f3,f4,-⟩:=h2
   refine ⟨f1,f2,f3,f4,?_⟩
   rcases ho with ho | ⟨a,ha,e⟩
   ·exact .inr (.inl (by rw [hw];exact ho))
   ·exact .inl (pasL_ops.2 (.inr ⟨a,ha,e.symm⟩))
  ·exact sndL_rel ((Rel.refl _ _ _).pass C (fun k => by rw [hw] at k;exact k)) (fun x hx => .inr (.inr ⟨hw _,hn _ (nR x hx)⟩)) (fun x _ k => by rw [hw] at k;exact k) h3
 | let_ C r hr hp hr' h1' hk h0 hm hf hn hw =>
  subst hr hp hr'
  rw [sndL_app,sndL_cons] at hs
  obtain ⟨h1,h2,h3⟩:=hs
  have nO:∀ x ∈ pre',opAt s x ≠ opAt s C:=by
   intro x hx e
   refine hf x hx ?_
   rw [key_op,e,← key_op];exact hk
  have sW:∀ x ∈ pre',wd c ws' (opAt s x) = wd c ws (opAt s x):=fun x hx => by rw [hw,if_neg (nO x hx)]
  have eP:pasL c ws' s ps0 pre' = pasL c ws s ps0 pre':=pasL_same (fun x hx => by rw [sW x hx])
  have wC:wd c ws' (opAt s C) = 1:=by rw [hw,if_pos rfl]
  rw [sndL_app,eP,sndL_cons]
  refine ⟨sndL_rel (Rel.refl _ _ _) (fun x hx => .inr (.inr ⟨sW x hx,by rw [hn]⟩)) (fun x hx k => by rw [sW x hx] at k;exact k) h1,?_,?_⟩
  ·rw [fit_iff] at h2 ⊢
   obtain ⟨f1,f2,f3,f4,-⟩:=h2
   refine ⟨f1,f2,f3,f4,.inr (.inr ⟨by rw [hn];omega,?_⟩)⟩
   rintro ⟨-,ho⟩
   rcases pasL_opens ho with ho | ⟨a,ha,e⟩
   ·simp [ps0] at ho
   ·exact hf a ha (e.trans hk)
  ·refine sndL_rel ((Rel.refl _ _ _).pass C (fun _ => by rw [h0];omega)) (fun x hx => ?_) (fun x hx k => ?_) h3
   ·by_cases e:opAt s x = opAt s C
    ·refine .inr (.inl ?_)
     simp only [passV,mem_addK]
     exact .inr e
    ·exact .inr (.inr ⟨by rw [hw,if_neg e],by rw [hn]⟩)
   ·by_cases e:opAt s x = opAt s C
    ·rw [e,h0];omega
    ·rw [hw,if_neg e] at k;exact k
 | ref C r hr hp hr' h1' hk h0 hn hw =>
  subst hp hr'
  refine sndL_rel (Rel.refl _ _ _) (fun x hx => ?_) (fun x hx k => ?_) hs
  ·by_cases e:opAt s x = opAt s C
   ·exact .inl (by rw [hw,if_pos e];omega)
   ·exact .inr (.inr ⟨by rw [hw,if_neg e],by rw [hn]⟩)
  ·by_cases e:opAt s x = opAt s C
   ·rw [hw,if_pos e] at k;omega
   ·rw [hw,if_neg e] at k;exact k
theorem Eff.sub {c:Cf} {s:St} {key mode seen:Int} {ws ws':List Int} {pre rest pre' rest':List Int} (h:Eff c s key mode seen ws ws' pre rest pre' rest'):(pre' ++ rest').Sublist (pre ++ rest):=by
 cases h with
 | same h hp hr => subst hp hr;exact List.Sublist.refl _
 | adv C r h hr hp hr' _ _ => subst hr hp hr';simp
 | unl C r hr hp hr' hm hw hn => subst hr hp hr';exact List.Sublist.append_left (List.sublist_cons_self _ _) _
 | mrk C r hr hp hr' ho hw hn => subst hp hr';exact List.Sublist.refl _
 | let_ C r hr hp hr' h1' hk h0 hm hf hn hw => subst hp hr';exact List.Sublist.refl _
 | ref C r hr hp hr' h1' hk h0 hn hw => subst hp hr';exact List.Sublist.refl _
theorem stepP_eq {c:Cf} {ws ws':List Int} {s:St} (h:∀ o,wd c ws' o = wd c ws o):stepP c ws' s = stepP c ws s:=by
 funext acc i
 unfold stepP
 have e:wrdOf c ws' (opAt s i) = wrdOf c ws (opAt s i):=h _
 rw [e]
theorem fold_mem {c:Cf} {ws:List Int} {s:St}:∀ {l:List Int} {acc:List Int × List (Int × Int)} {o:Int},o ∈ acc.1 ∨ (∃ a ∈ l,opAt s a = o ∧ (calAt s o).kind = 1 ∧ wd c ws o = 1) → o ∈ (foldN c ws s l acc).1
 | [],acc,o,h => by rcases h with h | ⟨a,ha,-⟩;exact h;cases ha
 | i :: l,acc,o,h => by
  show o ∈ (foldN c ws s l (stepP c ws s acc i)).1
  refine fold_mem ?_
  unfold stepP
  rcases h with h | ⟨a,ha,h1,h2,h3⟩
  ·left
   split
   ·rw [mem_addK];exact .inl h
   ·exact h
  ·rcases List.mem_cons.1 ha with rfl | ha
   ·left
    split
    ·rw [mem_addK];exact .inr h1.symm
    ·rename_i hn
     subst h1
     by_cases hm:opAt s a ∈ acc.1
     ·exact hm
     ·exact absurd ⟨⟨h2,h3⟩,hm⟩ hn
   ·exact .inr ⟨a,ha,h1,h2,h3⟩
structure But1 (s:St) (k:Int) (a b:List Int × List (Int × Int)):Prop where
 ops:∀ o,(calAt s o).key ≠ k → (o ∈ a.1 ↔ o ∈ b.1)
 prs:a.2.filter (fun p => decide (p.1 ≠ k)) = b.2.filter (fun p => decide (p.1 ≠ k))
theorem But1.fold {c:Cf} {ws ws':List Int} {s:St} {k:Int} (hw:∀ o,(calAt s o).key ≠ k → wd c ws' o = wd c ws o):∀ {l:List Int} {a b:List Int × List (Int × Int)},But1 s k a b → But1 s k (foldN c ws' s l a) (foldN c ws s l b)
 | [],a,b,h => h
 | i :: l,a,b,h => by
  show But1 s k (foldN c ws' s l (stepP c ws' s a i)) (foldN c ws s l (stepP c ws s b i))
  refine But1.fold hw ?_
  have key:∀ (w:List Int) (x:List Int × List (Int × Int)),(calAt s (opAt s i)).key = k → But1 s k (stepP c w s x i) x:=by
   intro w x hk
   unfold stepP
   split
   ·refine ⟨fun o ho => ?_,?_⟩
    ·rw [mem_addK]
     constructor
     ·rintro (h | h)
      ·exact h
      ·subst h;exact absurd hk ho
     ·exact .inl
    ·simp [List.filter_append,hk]
   ·exact ⟨fun _ _ => Iff.rfl,rfl⟩
  by_cases hk:(calAt s (opAt s i)).key = k
  ·have h1:=key ws' a hk
   have h2:=key ws b hk
   exact ⟨fun o ho => (h1.ops o ho).trans ((h.ops o ho).trans (h2.ops o ho).symm),h1.prs.trans (h.prs.trans h2.prs.symm)⟩
  ·have e:wrdOf c ws' (opAt s i) = wrdOf c ws (opAt s i):=hw _ hk
   have e2:=h.ops _ hk
   unfold stepP
   rw [e]
   by_cases q:((calAt s (opAt s i)).kind = 1 ∧ wrdOf c ws (opAt s i) = 1) ∧ opAt s i ∉ a.1
   ·rw [if_pos q,if_pos ⟨q.1,fun x => q.2 (e2.2 x)⟩]
    refine ⟨fun o ho => ?_,?_⟩
    ·rw [mem_addK,mem_addK,h.ops o ho]
    ·simp only [List.filter_append,h.prs]
   ·rw [if_neg q,if_neg (fun x => q ⟨x.1,fun y => x.2 (e2.1 y)⟩)]
    exact h
theorem Eff.prs {c:Cf} {s:St} {key mode seen:Int} {ws ws':List Int} {pre rest pre' rest':List Int} (h:Eff c s key mode seen ws ws' pre rest pre' rest') (hs:sndL c ws s 0 ps0 (pre ++ rest) = true) :
  (foldN c ws' s (pre' ++ rest') ([],[])).2.filter (fun p => decide (p.1 ≠ key)) = (foldN c ws s (pre ++ rest) ([],[])).2.filter (fun p => decide (p.1 ≠ key)) ∧ (mode ≠ 1 → foldN c ws' s (pre' ++ rest') ([],[]) = foldN c ws s (pre ++ rest) ([],[])):=by
 have key_:∀ C:Int,∀ v:Int,keyOf_ s C = key → (∀ o,wd c ws' o = if o = opAt s C then v else wd c ws o) → ∀ o,(calAt s o).key ≠ key → wd c ws' o = wd c ws o:=by
  intro C v hk hw o ho
  rw [hw,if_neg]
  rintro rfl
  exact ho hk
 cases h with
 | same h hp hr => subst h hp hr;exact ⟨rfl,fun _ => rfl⟩
 | adv C r h hr hp hr' _ _ => subst h hr hp hr';simp
 | unl C r hr hp hr' hm hw hn =>
  subst hr hp hr'
  have e:foldN c ws' s (pre' ++ rest') ([],[]) = foldN c ws s (pre' ++ C :: rest') ([],[]):=by
   unfold foldN
   rw [stepP_eq hw,List.foldl_append,List.foldl_append,List.foldl_cons]
   congr 1
   rw [sndL_app,sndL_cons] at hs
   have h2:=hs.2.1
   rw [fit_iff] at h2
   obtain ⟨f1,-,-,-,f5⟩:=h2
   symm
   show stepP c ws s (foldN c ws s pre' ([],[])) C = foldN c ws s pre' ([],[])
   unfold stepP
   rw [if_neg]
   rintro ⟨⟨g1,g2⟩,g3⟩
   have g2':wd c ws (opAt s C) = 1:=g2
   rcases f5 with f | f | ⟨f,-⟩
   ·rw [pasL_ops] at f
    rcases f with f | ⟨a,ha,e⟩
    ·simp [ps0] at f
    ·exact g3 (fold_mem (.inr ⟨a,ha,e,g1,g2'⟩))
   ·omega
   ·exact f hm
  rw [e]
  exact ⟨rfl,fun _ => rfl⟩
 | mrk C r hr hp hr' ho hw hn =>
  subst hp hr'
  have e:foldN c ws' s (pre' ++ rest') ([],[]) = foldN c ws s (pre' ++ rest') ([],[]):=by unfold foldN;rw [stepP_eq hw]
  rw [e]
  exact ⟨rfl,fun _ => rfl⟩
 | let_ C r hr hp hr' h1' hk h0 hm hf hn hw =>
  subst hp hr'
  exact ⟨(But1.fold (key_ C 1 hk hw) ⟨fun _ _ => Iff.rfl,rfl⟩).prs,fun h => absurd h1' h⟩
 | ref C r hr hp hr' h1' hk h0 hn hw =>
  subst hp hr'
  exact ⟨(But1.fold (key_ C 2 hk hw) ⟨fun _ _ => Iff.rfl,rfl⟩).prs,fun h => absurd h1' h⟩
end Go.Proofs.YtcogckjpmmjmbaaGreat
