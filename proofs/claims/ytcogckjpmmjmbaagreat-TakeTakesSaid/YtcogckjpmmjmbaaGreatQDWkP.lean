/- A walk that nobody disturbs: what holds at each step of it. -/
import Derived.Test.YtcogckjpmmjmbaaGreatQDWalkS
import Derived.Test.YtcogckjpmmjmbaaGreatQDMScene
namespace Go.Proofs.YtcogckjpmmjmbaaGreat
set_option maxRecDepth 100000
set_option linter.unusedVariables false
theorem zN {c:Cf} (h:c.Ok):zNodes c.t c.b c.i c.f c.k = c.nodes:=by unfold zNodes;rw [if_pos h.z];simp only [Cf.nodes];omega
theorem zO {c:Cf} (h:c.Ok):zOps c.t c.b c.i c.f c.k = c.ops:=by unfold zOps;rw [if_pos h.z];simp only [Cf.ops];omega
theorem nxt_v {c:Cf} (h:c.Ok) {a:Int} (h0:0 ≤ a) (h1:a < c.nodes):nxtI c a = a:=by
 unfold nxtI vNext;rw [if_pos ⟨h.z,h0,by rw [zN h];exact h1⟩]
theorem nxt_o {c:Cf} (h:c.Ok) {a:Int} (h0:¬ (0 ≤ a ∧ a < c.nodes)):nxtI c a = -1:=by
 unfold nxtI vNext;rw [if_neg];rintro ⟨-,x,y⟩;rw [zN h] at y;exact h0 ⟨x,y⟩
theorem wrd_v {c:Cf} (h:c.Ok) {a:Int} (h0:0 ≤ a) (h1:a < c.ops):wrdI c a = c.nodes + a:=by
 unfold wrdI vWord;rw [if_pos ⟨h.z,h0,by rw [zO h];exact h1⟩,zN h]
theorem wrd_o {c:Cf} (h:c.Ok) {a:Int} (h0:¬ (0 ≤ a ∧ a < c.ops)):wrdI c a = -1:=by
 unfold wrdI vWord;rw [if_neg];rintro ⟨-,x,y⟩;rw [zO h] at y;exact h0 ⟨x,y⟩
theorem rd_wr2 (ws:List Int) (i j v:Int):rd (wr ws i v) j = if j = i ∧ 0 ≤ i ∧ i < ws.length then v else rd ws j:=by
 unfold rd wr
 by_cases hi:0 ≤ i
 ·rw [if_pos hi]
  by_cases hj:0 ≤ j
  ·rw [if_pos hj,List.getD_eq_getElem?_getD,List.getElem?_set]
   by_cases e:i.toNat = j.toNat
   ·have:i = j:=by omega
    subst this
    by_cases hl:i.toNat < ws.length
    ·rw [if_pos rfl,if_pos hl,if_pos ⟨rfl,hi,by omega⟩];rfl
    ·rw [if_pos rfl,if_neg hl,if_neg (by omega),if_pos hi,List.getD_eq_getElem?_getD,List.getElem?_eq_none (by omega)]
   ·rw [if_neg e,if_neg (by omega),if_pos hj,List.getD_eq_getElem?_getD]
  ·rw [if_neg hj,if_neg (by omega),if_neg hj]
 ·have hn:¬ (j = i ∧ 0 ≤ i ∧ i < ws.length):=fun h => hi h.2.1
  rw [if_neg hn]
  simp only [if_neg hi]
theorem rd_sw2 (ws:List Int) (i o v j:Int):rd (sw ws i o v) j = if j = i ∧ 0 ≤ i ∧ i < ws.length ∧ rd ws i = o then v else rd ws j:=by
 unfold sw may
 by_cases h:0 ≤ i ∧ i < ws.length ∧ rd ws i = o
 ·rw [if_pos (decide_eq_true h),rd_wr2]
  by_cases e:j = i
  ·rw [if_pos ⟨e,h.1,h.2.1⟩,if_pos ⟨e,h⟩]
  ·rw [if_neg (fun x => e x.1),if_neg (fun x => e x.1)]
 ·rw [if_neg (by rw [decide_eq_true_iff];exact h),if_neg (fun x => h x.2)]
abbrev nx (c:Cf) (ws:List Int) (a:Int):Int:=rd ws (nxtI c a)
abbrev wd (c:Cf) (ws:List Int) (o:Int):Int:=rd ws (wrdI c o)
structure Lay0 (c:Cf) (ws:List Int):Prop where
 ok:c.Ok
 len:ws.length = c.len
theorem Lay0.sw {c:Cf} {ws:List Int} (h:Lay0 c ws) (i o v:Int):Lay0 c (sw ws i o v):=⟨h.ok,(length_sw_ _ _ _ _).trans h.len⟩
theorem nx_sw {c:Cf} {ws:List Int} (h:Lay0 c ws) {a:Int} (h0:0 ≤ a) (h1:a < c.nodes) (o v b:Int):nx c (sw ws (nxtI c a) o v) b = if b = a ∧ nx c ws a = o then v else nx c ws b:=by
 unfold nx
 rw [rd_sw2,nxt_v h.ok h0 h1]
 have hl:=h.len
 simp only [Cf.len] at hl
 by_cases hb:0 ≤ b ∧ b < c.nodes
 ·rw [nxt_v h.ok hb.1 hb.2]
  by_cases e:b = a ∧ rd ws a = o
  ·rw [if_pos ⟨e.1,h0,by omega,e.2⟩,if_pos e]
  ·rw [if_neg (fun x => e ⟨x.1,x.2.2.2⟩),if_neg e]
 ·rw [nxt_o h.ok hb,if_neg (by omega),if_neg (by rintro ⟨rfl,-⟩;exact hb ⟨h0,h1⟩)]
theorem wd_swn {c:Cf} {ws:List Int} (h:Lay0 c ws) {a:Int} (h0:0 ≤ a) (h1:a < c.nodes) (o v b:Int):wd c (sw ws (nxtI c a) o v) b = wd c ws b:=by
 unfold wd
 rw [rd_sw2,nxt_v h.ok h0 h1]
 refine if_neg ?_
 rintro ⟨e,-⟩
 by_cases hb:0 ≤ b ∧ b < c.ops
 ·rw [wrd_v h.ok hb.1 hb.2] at e;omega
 ·rw [wrd_o h.ok hb] at e;omega
theorem nx_sww {c:Cf} {ws:List Int} (h:Lay0 c ws) {a:Int} (h0:0 ≤ a) (h1:a < c.ops) (o v b:Int):nx c (sw ws (wrdI c a) o v) b = nx c ws b:=by
 unfold nx
 rw [rd_sw2,wrd_v h.ok h0 h1]
 refine if_neg ?_
 rintro ⟨e,-⟩
 by_cases hb:0 ≤ b ∧ b < c.nodes
 ·rw [nxt_v h.ok hb.1 hb.2] at e;omega
 ·rw [nxt_o h.ok hb] at e;omega
theorem wd_sw {c:Cf} {ws:List Int} (h:Lay0 c ws) {a:Int} (h0:0 ≤ a) (h1:a < c.ops) (o v b:Int):wd c (sw ws (wrdI c a) o v) b = if b = a ∧ wd c ws a = o then v else wd c ws b:=by
 unfold wd
 rw [rd_sw2,wrd_v h.ok h0 h1]
 have hl:=h.len
 simp only [Cf.len] at hl
 by_cases hb:0 ≤ b ∧ b < c.ops
 ·rw [wrd_v h.ok hb.1 hb.2]
  by_cases e:b = a ∧ rd ws (c.nodes + a) = o
  ·rw [if_pos ⟨by omega,by omega,by omega,e.2⟩,if_pos e]
  ·rw [if_neg (fun x => e ⟨by omega,x.2.2.2⟩),if_neg e]
 ·rw [wrd_o h.ok hb,if_neg (by omega),if_neg (by rintro ⟨rfl,-⟩;exact hb ⟨h0,h1⟩)]
theorem may_nx {c:Cf} {ws:List Int} (h:Lay0 c ws) {a:Int} (h0:0 ≤ a) (h1:a < c.nodes) {o:Int} (e:nx c ws a = o):may ws (nxtI c a) o = true:=by
 have hl:=h.len
 simp only [Cf.len] at hl
 unfold nx at e
 rw [nxt_v h.ok h0 h1] at e ⊢
 exact decide_eq_true ⟨h0,by omega,e⟩
theorem cnt_nx {c:Cf} {ws:List Int} (h:Lay0 c ws) {a:Int} (h0:0 ≤ a) (h1:a < c.nodes):cnt ws (nxtI c a) = 1:=by
 have hl:=h.len
 simp only [Cf.len] at hl
 rw [nxt_v h.ok h0 h1]
 exact if_pos ⟨h0,by omega⟩
theorem cnt_wd {c:Cf} {ws:List Int} (h:Lay0 c ws) {a:Int} (h0:0 ≤ a) (h1:a < c.ops):cnt ws (wrdI c a) = 1:=by
 have hl:=h.len
 simp only [Cf.len] at hl
 rw [wrd_v h.ok h0 h1]
 exact if_pos ⟨by omega,by omega⟩
def Lk (c:Cf) (ws:List Int):Int → List Int → Prop
 | v,[] => v / 2 = 0
 | v,a :: r => v / 2 = a ∧ a ≠ 0 ∧ Lk c ws (nx c ws a) r
theorem Lk.congr {c:Cf} {ws ws':List Int}:∀ {l:List Int} {v:Int},Lk c ws v l → (∀ a ∈ l,nx c ws' a = nx c ws a) → Lk c ws' v l
 | [],_,h,_ => h
 | a :: r,v,⟨h1,h2,h3⟩,he => ⟨h1,h2,by rw [he a (by simp)];exact h3.congr (fun b hb => he b (by simp [hb]))⟩
theorem Lk.half {c:Cf} {ws ws':List Int}:∀ {l:List Int} {v v':Int},Lk c ws v l → v' / 2 = v / 2 → (∀ a ∈ l,nx c ws' a / 2 = nx c ws a / 2) → Lk c ws' v' l
 | [],_,_,h,e,_ => e.trans h
 | a :: r,v,v',⟨h1,h2,h3⟩,e,he => ⟨e.trans h1,h2,h3.half (he a (by simp)) (fun b hb => he b (by simp [hb]))⟩
theorem Lk.chain {c:Cf} {ws:List Int}:∀ {l:List Int} {v:Int} (f:Nat),Lk c ws v l → l.length ≤ f → chainN c ws f v = l
 | [],v,0,_,_ => rfl
 | [],v,f + 1,h,_ => by unfold chainN;exact if_pos h
 | a :: r,v,f + 1,⟨h1,h2,h3⟩,hl => by
  unfold chainN
  rw [if_neg (by rw [h1];exact h2),h1]
  simp only [List.length_cons] at hl
  have:=h3.chain f (by omega)
  unfold refOf
  rw [this]
def lastN (pre:List Int):Int:=pre.getLastD 1
theorem lastN_app (pre:List Int) (a:Int):lastN (pre ++ [a]) = a:=by simp [lastN]
theorem Lk.cut {c:Cf} {ws:List Int}:∀ {pre rest:List Int} {v:Int} {a:Int},Lk c ws v (pre ++ [a] ++ rest) → Lk c ws (nx c ws a) rest
 | [],rest,v,a,⟨_,_,h⟩ => h
 | b :: p,rest,v,a,⟨_,_,h⟩ => Lk.cut (pre:=p) h
theorem Lk.at {c:Cf} {ws:List Int} {pre rest:List Int} (h:Lk c ws (nx c ws 1) (pre ++ rest)):Lk c ws (nx c ws (lastN pre)) rest:=by
 rcases List.eq_nil_or_concat pre with rfl | ⟨p,a,rfl⟩
 ·exact h
 ·rw [List.concat_eq_append] at h ⊢
  rw [lastN_app]
  exact h.cut
theorem Lk.skip {c:Cf} {ws ws':List Int}:∀ {pre:List Int} {a0 C:Int} {r:List Int},Lk c ws (nx c ws a0) (pre ++ C :: r) → (a0 :: (pre ++ C :: r)).Nodup → nx c ws' (pre.getLastD a0) / 2 = nx c ws C / 2 →
  (∀ b,b ≠ pre.getLastD a0 → nx c ws' b = nx c ws b) → Lk c ws' (nx c ws' a0) (pre ++ r)
 | [],a0,C,r,⟨_,_,h⟩,nd,hP,he => h.half hP (fun b hb => by
   rw [he b]
   rintro rfl
   simp only [List.nil_append,List.nodup_cons,List.mem_cons,not_or] at nd hb
   exact nd.1.2 hb)
 | a :: p,a0,C,r,⟨e1,e2,h⟩,nd,hP,he => by
  have hl:(a :: p).getLastD a0 = p.getLastD a:=List.getLastD_cons
  rw [hl] at hP he
  have hne:a0 ≠ p.getLastD a:=by
   rintro e
   rw [List.nodup_cons] at nd
   refine nd.1 ?_
   rw [e]
   refine List.mem_append_left _ ?_
   have:=List.getLastD_mem_cons (l:=p) (a:=a)
   exact this
  refine ⟨by rw [he a0 hne];exact e1,e2,?_⟩
  exact Lk.skip h (List.nodup_cons.1 nd).2 hP he
structure Sc (c:Cf) (s:St) (a:Int):Prop where
 a2:2 ≤ a
 an:a < c.nodes
 o0:0 ≤ opAt s a
 on:opAt s a < c.ops
theorem key_op (s:St) (a:Int):keyOf_ s a = (calAt s (opAt s a)).key:=rfl
theorem opK_at (s:St) (x:Wk):opK s x = opAt s x.curr:=rfl
def Far (s:St) (key:Int) (rest:List Int):Prop:=∀ a ∈ rest.head?,key < keyOf_ s a
inductive At (c:Cf) (s:St) (key mode:Int) (ws:List Int) (x:Wk) (C:Int):Prop
 | peek (h:x.phase = 1)
 | unl (h:x.phase = 2) (hn:x.next = nx c ws C) (hm:nx c ws C % 2 = 1)
 | jdg (h:x.phase = 3) (hn:x.next = nx c ws C) (hm:nx c ws C % 2 = 0)
 | mrk (h:x.phase = 4) (hn:x.next = nx c ws C) (hm:nx c ws C % 2 = 0) (ho:2 ≤ wd c ws (opAt s C) ∨ mode = 1 ∧ keyOf_ s C = key ∧ wd c ws (opAt s C) = 1 ∧ x.seen = opAt s C)
 | ask (h:x.phase = 5) (hn:x.next = nx c ws C) (hm:nx c ws C % 2 = 0) (h1:mode = 1) (hk:keyOf_ s C = key) (hw:wd c ws (opAt s C) = 0) (hs:x.seen ≠ -1)
 | let_ (h:x.phase = 6) (hn:x.next = nx c ws C) (hm:nx c ws C % 2 = 0) (h1:mode = 1) (hk:keyOf_ s C = key) (hw:wd c ws (opAt s C) = 0) (hs:x.seen = -1)
 | ref (h:x.phase = 7) (hn:x.next = nx c ws C) (hm:nx c ws C % 2 = 0) (h1:mode = 1) (hk:keyOf_ s C = key) (hw:wd c ws (opAt s C) = 0) (hs:x.seen ≠ -1)
inductive Pos (c:Cf) (s:St) (key mode:Int) (ws:List Int) (x:Wk) (pre rest:List Int):Prop
 | fin (hd:x.done = true) (h:x.stop = true ∨ Far s key rest ∧ x.pred = lastN pre ∧ x.curr = rest.headD 0)
 | beg (hd:x.done = false) (h:x.phase = 0) (hp:pre = [])
 | at_ (C:Int) (r:List Int) (hd:x.done = false) (hr:rest = C :: r) (hc:x.curr = C) (hp:x.pred = lastN pre) (hk:keyOf_ s C ≤ key) (h:At c s key mode ws x C)
structure WI (c:Cf) (s:St) (key mode:Int) (y:Kd) (pre rest:List Int):Prop where
 lay:Lay0 c y.ws
 wok:∀ i:Int,0 ≤ rd y.ws i ∧ rd y.ws i ≤ 18446744073709551615
 b1:c.b = 1
 lk:Lk c y.ws (nx c y.ws 1) (pre ++ rest)
 nd:(1 :: (pre ++ rest)).Nodup
 st:∀ a ∈ pre ++ rest,Sc c s a
 um:∀ a ∈ 1 :: pre,nx c y.ws a % 2 = 0
 hk:y.x.key = key
 hm:y.x.mode = mode
 pw:∀ a ∈ pre,wd c y.ws (opAt s a) ≤ 1
 pk:mode = 1 → ∀ a ∈ pre,keyOf_ s a = key → wd c y.ws (opAt s a) = 1
 sa:y.x.seen ≠ -1 → mode = 1 ∧ ∃ a ∈ pre,y.x.seen = opAt s a ∧ keyOf_ s a = key
 sn:mode = 1 → y.x.seen = -1 → ∀ a ∈ pre,keyOf_ s a ≠ key
 pos:Pos c s key mode y.ws y.x pre rest
def muA (c:Cf) (s:St) (ws:List Int) (x:Wk) (C:Int):Nat :=
 if x.phase = 1 then (if nx c ws C % 2 = 1 then 2 else 8) else if x.phase = 2 then 1 else if x.phase = 3 then (if wd c ws (opAt s C) = 0 then 7 else 4) else if x.phase = 4 then 3 else if x.phase = 5 then 6 else 5
def mu (c:Cf) (s:St) (y:Kd):List Int → Nat
 | [] => if y.x.done then 0 else 1
 | C :: r => if y.x.done then 0 else if y.x.phase = 0 then 8 * (r.length + 1) + 1 else 8 * r.length + muA c s y.ws y.x C
theorem muA_le (c:Cf) (s:St) (ws:List Int) (x:Wk) (C:Int):muA c s ws x C ≤ 8:=by
 unfold muA
 repeat' split
 all_goals omega
theorem muA_pos (c:Cf) (s:St) (ws:List Int) (x:Wk) (C:Int):1 ≤ muA c s ws x C:=by
 unfold muA
 repeat' split
 all_goals omega
theorem arr_pos {c:Cf} {s:St} {key mode:Int} {ws:List Int} {x:Wk} {pre rest:List Int} {v:Int} (hl:Lk c ws v rest) (hd:x.done = false) (hk:x.key = key) (hp:x.pred = lastN pre):Pos c s key mode ws (arrK s x (v / 2)) pre rest:=by
 unfold arrK
 cases rest with
 | nil =>
  have h0:v / 2 = 0:=hl
  rw [if_pos (.inl h0)]
  exact .fin rfl (.inr ⟨(by intro a ha;cases ha),hp,h0⟩)
 | cons C r =>
  obtain ⟨h1,h2,h3⟩:=hl
  rw [h1]
  by_cases h:x.key < keyOf_ s C
  ·rw [if_pos (.inr h)]
   exact .fin rfl (.inr ⟨(by intro a ha;simp only [List.head?_cons,Option.mem_some_iff] at ha;subst ha;rw [← hk];exact h),hp,rfl⟩)
  ·rw [if_neg (by rintro (h' | h');exact h2 h';exact h h')]
   exact .at_ C r hd rfl rfl hp (by rw [← hk];omega) (.peek rfl)
theorem arr_mu {c:Cf} {s:St} {ws:List Int} {n:Int} {x:Wk} {rest:List Int} {v:Int} (hd:x.done = false) (hv:∀ C r,rest = C :: r → v = C ∧ C ≠ 0) (hn:rest = [] → v = 0):mu c s ⟨ws,n,arrK s x v⟩ rest ≤ 8 * rest.length:=by
 unfold arrK
 cases rest with
 | nil => rw [if_pos (.inl (hn rfl))];simp [mu]
 | cons C r =>
  obtain ⟨rfl,h2⟩:=hv C r rfl
  split
  ·simp [mu]
  ·simp only [mu,hd]
   simp only [Bool.false_eq_true,if_false,List.length_cons,Int.reduceEq]
   exact Nat.le_trans (Nat.add_le_add_left (muA_le c s ws _ v) _) (by omega)
theorem arr_keep (s:St) (x:Wk) (v:Int):(arrK s x v).key = x.key ∧ (arrK s x v).mode = x.mode ∧ (arrK s x v).seen = x.seen:=by unfold arrK;split <;> exact ⟨rfl,rfl,rfl⟩
end Go.Proofs.YtcogckjpmmjmbaaGreat
