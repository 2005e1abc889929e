/- What is laid in a scene is a chain. -/
import Derived.Test.YtcogckjpmmjmbaaGreatQDWkQ
import Derived.Test.YtcogckjpmmjmbaaGreatQDGLaid
namespace Go.Proofs.YtcogckjpmmjmbaaGreat
set_option maxRecDepth 100000
set_option linter.unusedVariables false
theorem Lay0.wr {c:Cf} {ws:List Int} (h:Lay0 c ws) (i v:Int):Lay0 c (wr ws i v):=⟨h.ok,(length_wr _ _ _).trans h.len⟩
theorem nx_wr {c:Cf} {ws:List Int} (h:Lay0 c ws) {a:Int} (h0:0 ≤ a) (h1:a < c.nodes) (v b:Int):nx c (wr ws (nxtI c a) v) b = if b = a then v else nx c ws b:=by
 unfold nx
 rw [rd_wr2,nxt_v h.ok h0 h1]
 have hl:=h.len
 simp only [Cf.len] at hl
 by_cases hb:0 ≤ b ∧ b < c.nodes
 ·rw [nxt_v h.ok hb.1 hb.2]
  by_cases e:b = a
  ·rw [if_pos ⟨e,h0,by omega⟩,if_pos e]
  ·rw [if_neg (fun x => e x.1),if_neg e]
 ·rw [nxt_o h.ok hb,if_neg (by omega),if_neg (by rintro rfl;exact hb ⟨h0,h1⟩)]
theorem Lk.snoc {c:Cf} {ws ws':List Int} {nd:Int} (h0:nd ≠ 0) (hz:nx c ws' nd / 2 = 0):∀ {l:List Int} {a0:Int},Lk c ws (nx c ws a0) l → (a0 :: l).Nodup → nx c ws' (l.getLastD a0) / 2 = nd → (∀ b ∈ a0 :: l,b ≠ l.getLastD a0 → nx c ws' b = nx c ws b) → Lk c ws' (nx c ws' a0) (l ++ [nd])
 | [],a0,_,_,hP,_ => ⟨hP,h0,hz⟩
 | a :: p,a0,⟨e1,e2,h⟩,hn,hP,he => by
  have hl:(a :: p).getLastD a0 = p.getLastD a:=List.getLastD_cons
  rw [hl] at hP he
  have hne:a0 ≠ p.getLastD a:=by
   rintro e
   rw [List.nodup_cons] at hn
   refine hn.1 ?_
   rw [e]
   exact List.getLastD_mem_cons
  refine ⟨by rw [he a0 (by simp) hne];exact e1,e2,?_⟩
  exact Lk.snoc h0 hz h (List.nodup_cons.1 hn).2 hP (fun b hb => he b (List.mem_cons_of_mem _ hb))
def ids (k:Nat):List Int:=(List.range k).map fun (j:Nat) => (j:Int) + 2
theorem ids_succ (k:Nat):ids (k + 1) = ids k ++ [(k:Int) + 2]:=by simp [ids,List.range_succ]
theorem mem_ids {k:Nat} {a:Int}:a ∈ ids k ↔ 2 ≤ a ∧ a < (k:Int) + 2:=by
 simp only [ids,List.mem_map,List.mem_range]
 constructor
 ·rintro ⟨j,hj,rfl⟩;omega
 ·rintro ⟨h1,h2⟩;exact ⟨(a - 2).toNat,by omega,by omega⟩
theorem ids_nd:∀ k:Nat,(1 :: ids k).Nodup
 | 0 => by simp [ids]
 | k + 1 => by
  rw [ids_succ,← List.cons_append,List.nodup_append]
  refine ⟨ids_nd k,by simp,?_⟩
  intro a ha b hb e
  simp only [List.mem_singleton] at hb
  simp only [List.mem_cons,mem_ids] at ha
  omega
theorem ids_last (k:Nat):(ids k).getLastD 1 = (k:Int) + 1:=by
 cases k with
 | zero => rfl
 | succ k => rw [ids_succ];simp;omega
theorem ids_len (k:Nat):(ids k).length = k:=by simp [ids]
theorem begin_ok {c:Cf} {s:St} {x:Cal} (ht:0 < c.t) (hk:x.kind = 1) (h1:at_ s.calls 0 < c.k) (h2:at_ s.ins 0 < c.i) :
  beginI c s 0 x = ({ s with calls:=bump s.calls 0,ins:=bump s.ins 0,ops:=s.ops ++ [(at_ s.calls 0,x)] },at_ s.calls 0,0):=by
 unfold beginI
 rw [if_neg (by simp only [kindOk,hk];omega)]
 unfold beginS
 simp only [Int.toNat_zero,Nat.zero_mul,Nat.zero_add]
 rw [if_neg (by omega),if_neg (by omega)]
 simp [hk]
theorem make_ok {c:Cf} {s:St} {op:Int} (ht:0 < c.t) (h1:at_ s.made 0 < 2 * c.k) (ho:(lookI s.ops op).isSome) :
  makeI c s 0 op = ({ s with made:=bump s.made 0,nodes:=s.nodes ++ [(1 + c.b + at_ s.made 0,op.toNat)] },1 + c.b + at_ s.made 0,0):=by
 unfold makeI
 rw [if_neg (by rw [Option.isNone_iff_eq_none];intro h;rcases h with h | h | h;omega;omega;rw [h] at ho;cases ho)]
 unfold makeS
 simp only [Int.toNat_zero,Nat.zero_mul,Nat.add_zero]
 rw [if_neg (by omega)]
theorem look_new {α:Type} {l:List (Nat × α)} {n:Nat} {x:α} (h:look l n = none):look (l ++ [(n,x)]) n = some x:=by rw [look_app,h];simp
structure LI (c:Cf) (ys:List It) (L:Ly) (k m:Nat):Prop where
 att:L.at_ = (k:Int) + 1
 made:at_ L.s.made 0 = k
 calls:at_ L.s.calls 0 ≤ m
 ins:at_ L.s.ins 0 ≤ m
 inv:Inv c L.s
 lay:Lay0 c L.ws
 lk:Lk c L.ws (nx c L.ws 1) (ids k)
 last:nx c L.ws ((k:Int) + 1) / 2 = 0
 hd:nx c L.ws 1 % 2 = 0
 sc:∀ a ∈ ids k,Sc c L.s a
 kk:∀ (j:Nat) (y:It),j < k → ys[j]? = some y → ∃ x:Cal,lookI L.s.ops (opAt L.s ((j:Int) + 2)) = some x ∧ x.kind = 1 ∧ x.key = y.key
def OpOk (c:Cf) (L:Ly) (key:Int):Prop:=0 ≤ L.op ∧ L.op < c.ops ∧ ∃ x:Cal,lookI L.s.ops L.op = some x ∧ x.kind = 1 ∧ x.key = key
structure ItsOk (ys:List It):Prop where
 again:∀ (j:Nat) (x:It),ys[j]? = some x → x.again = true → 0 < j ∧ ∃ y,ys[j - 1]? = some y ∧ y.key = x.key
theorem lookI_app {α:Type} {l:List (Nat × α)} {i:Int} {x:α} (y:Nat × α) (h:lookI l i = some x):lookI (l ++ [y]) i = some x:=by
 unfold lookI at h ⊢
 split at h
 ·cases h
 ·rename_i hi
  rw [if_neg hi];exact look_stays _ _ _ _ h
theorem at_new {n j:Nat}:at_ (List.replicate n 0) j = 0:=by unfold at_;rw [List.getD_eq_getElem?_getD,List.getElem?_replicate];split <;> rfl
theorem LI.zero {c:Cf} (ok:c.Ok) (ys:List It):LI c ys (ly0 c) 0 0:=by
 have h0:∀ i,rd (List.replicate c.len 0) i = 0:=by
  intro i
  unfold rd
  split
  ·rw [List.getD_eq_getElem?_getD,List.getElem?_replicate];split <;> rfl
  ·rfl
 refine ⟨rfl,at_new,Nat.le_of_eq at_new,Nat.le_of_eq at_new,Inv.new,⟨ok,by simp [ly0]⟩,?_,?_,?_,?_,by intro j y hj;omega⟩
 ·show rd (List.replicate c.len 0) _ / 2 = 0
  rw [h0];rfl
 ·show rd (List.replicate c.len 0) _ / 2 = 0
  rw [h0];rfl
 ·show rd (List.replicate c.len 0) _ % 2 = 0
  rw [h0];rfl
 ·intro a ha;simp [ids] at ha
theorem LI.begin_ {c:Cf} {ys:List It} {L:Ly} {k m:Nat} (h:LI c ys L k m) (hc:m < c.k) (hi:m < c.i) (x:It):LI c ys (lyA c L x) k (m + 1) ∧ OpOk c (lyA c L x) x.key:=by
 have ok:=h.lay.ok
 have t1:=ok.t1
 have hcl:=h.calls
 have hb:=begin_ok (c:=c) (s:=L.s) (x:=⟨1,x.key,x.val,0⟩) (by omega) rfl (by omega) (by have:=h.ins;omega)
 have hi2:=h.inv.beginI 0 ⟨1,x.key,x.val,0⟩
 obtain ⟨n,hn⟩:∃ n,at_ L.s.calls 0 = n:=⟨_,rfl⟩
 rw [hn] at hb hcl
 have hno:(n:Int) < c.ops:=by
  have h1:c.k * 1 ≤ c.k * c.t:=Nat.mul_le_mul_left _ t1
  rw [Nat.mul_comm c.k c.t] at h1
  simp only [Cf.ops];omega
 have hnew:look L.s.ops n = none:=by
  refine look_none fun z hz => ?_
  obtain ⟨a,m',h1,h2,h3⟩:=h.inv.k1 z hz
  intro e
  have hm:=h.inv.b1 a h1
  cases a with
  | zero => rw [Nat.zero_mul] at h3;omega
  | succ a => rw [Nat.add_mul] at h3;omega
 have hs:(lyA c L x).s = { L.s with calls:=bump L.s.calls 0,ins:=bump L.s.ins 0,ops:=L.s.ops ++ [(n,⟨1,x.key,x.val,0⟩)] }:=by simp only [lyA];rw [hb]
 have ho:(lyA c L x).op = (n:Int):=by simp only [lyA];rw [hb]
 have hws:(lyA c L x).ws = sw L.ws (wrdI c (n:Int)) 0 x.word:=by simp only [lyA];rw [hb]
 have hN:∀ b,nx c (lyA c L x).ws b = nx c L.ws b:=fun b => by rw [hws];exact nx_sww h.lay (by omega) hno _ _ _
 have hat:∀ a,opAt (lyA c L x).s a = opAt L.s a:=fun a => by rw [hs];rfl
 have l1:=h.inv.l1
 have l2:=h.inv.l2
 refine ⟨⟨h.att,by rw [hs];exact h.made,?_,?_,by simp only [lyA];exact hi2,by rw [hws];exact h.lay.sw _ _ _,by rw [hN];exact h.lk.congr (fun a _ => hN a),by rw [hN];exact h.last,by rw [hN];exact h.hd,fun a ha => ?_,fun j y hj hy => ?_⟩,by rw [ho];omega,by rw [ho];exact hno,⟨1,x.key,x.val,0⟩,?_,rfl,rfl⟩
 ·rw [hs];show at_ (bump L.s.calls 0) 0 ≤ m + 1;rw [at_bump (by omega),if_pos rfl];omega
 ·rw [hs];show at_ (bump L.s.ins 0) 0 ≤ m + 1;rw [at_bump (by omega),if_pos rfl];have:=h.ins;omega
 ·have:=h.sc a ha
  exact ⟨this.a2,this.an,by rw [hat];exact this.o0,by rw [hat];exact this.on⟩
 ·rw [hat]
  obtain ⟨q,h1,h2,h3⟩:=h.kk j y hj hy
  exact ⟨q,by rw [hs];exact lookI_app _ h1,h2,h3⟩
 ·rw [ho,hs,lookI_nat];exact look_new hnew
theorem LI.make_ {c:Cf} {ys:List It} {L:Ly} {k m:Nat} (h:LI c ys L k m) (hb1:c.b = 1) (hk:k < 2 * c.k) (x:It) (ho:OpOk c L x.key) (hx:ys[k]? = some x):LI c ys (lyB c L x) (k + 1) m ∧ OpOk c (lyB c L x) x.key:=by
 have ok:=h.lay.ok
 have t1:=ok.t1
 obtain ⟨o0,o1,q,hq,q1,q2⟩:=ho
 have hmk:=make_ok (c:=c) (s:=L.s) (op:=L.op) (by omega) (by rw [h.made];exact hk) (by rw [hq];rfl)
 have hi2:=h.inv.makeI 0 L.op
 rw [h.made,hb1] at hmk
 have e2:((1 + 1 + k:Nat):Int) = (k:Int) + 2:=by omega
 have hn0:(k:Int) + 2 < c.nodes:=by
  have h1:c.k * 1 ≤ c.k * c.t:=Nat.mul_le_mul_left _ t1
  rw [Nat.mul_comm c.k c.t] at h1
  simp only [Cf.nodes];omega
 have hs:(lyB c L x).s = { L.s with made:=bump L.s.made 0,nodes:=L.s.nodes ++ [(1 + 1 + k,L.op.toNat)] }:=by simp only [lyB];rw [hmk]
 have hop:(lyB c L x).op = L.op:=rfl
 obtain ⟨p,hp⟩:∃ p,zPack ((k:Int) + 2) (rd L.ws L.at_ % 2 == 1) = p:=⟨_,rfl⟩
 obtain ⟨z,hz⟩:∃ z,zPack 0 x.mark = z:=⟨_,rfl⟩
 have hws:(lyB c L x).ws = wr (wr L.ws (nxtI c ((k:Int) + 1)) p) (nxtI c ((k:Int) + 2)) z:=by simp only [lyB,lyW];rw [hmk];simp only;rw [e2,h.att,hz,← hp,h.att]
 have hat:(lyB c L x).at_ = (k:Int) + 2:=by simp only [lyB];rw [hmk];exact e2
 have hla:Lay0 c (wr L.ws (nxtI c ((k:Int) + 1)) p):=h.lay.wr _ _
 have hN:∀ b,nx c (lyB c L x).ws b = if b = (k:Int) + 2 then z else if b = (k:Int) + 1 then p else nx c L.ws b:=fun b => by
  rw [hws,nx_wr hla (by omega) hn0,nx_wr h.lay (by omega) (by omega)]
 have hz2:z / 2 = 0:=by rw [← hz];unfold zPack;split <;> (first | (split <;> omega) | omega)
 have hk9:(k:Int) + 2 ≤ 9999:=by have:=ok.nodes_le;omega
 have hp2:p / 2 = (k:Int) + 2:=by rw [← hp];unfold zPack;rw [if_pos (by omega)];split <;> omega
 have hnew:look L.s.nodes (1 + 1 + k) = none:=by
  refine look_none fun w hw => ?_
  obtain ⟨a,m',h1,h2,h3⟩:=h.inv.k2 w hw
  intro e
  have hm:=h.made
  cases a with
  | zero => rw [Nat.zero_mul] at h3;omega
  | succ a => rw [Nat.add_mul] at h3;omega
 have hnat:opAt (lyB c L x).s ((k:Int) + 2) = L.op:=by
  unfold opAt
  rw [hs,← e2,lookI_nat]
  show carriedOf (look (L.s.nodes ++ [(1 + 1 + k,L.op.toNat)]) (1 + 1 + k)) = _
  rw [look_new hnew]
  show ((L.op.toNat:Nat):Int) = L.op
  omega
 have hold:∀ a ∈ ids k,opAt (lyB c L x).s a = opAt L.s a:=by
  intro a ha
  have h1:=(h.sc a ha).o0
  unfold opAt at h1 ⊢
  cases hl:lookI L.s.nodes a with
  | none => rw [hl] at h1;simp [carriedOf] at h1
  | some o => rw [hs];rw [lookI_app _ hl]
 refine ⟨⟨by rw [hat];omega,?_,by rw [hs];exact h.calls,by rw [hs];exact h.ins,by simp only [lyB];exact hi2,by rw [hws];exact hla.wr _ _,?_,?_,?_,?_,?_⟩,by rw [hop];exact o0,by rw [hop];exact o1,q,by rw [hop,hs];exact hq,q1,q2⟩
 ·rw [hs];show at_ (bump L.s.made 0) 0 = k + 1;rw [at_bump (by rw [h.inv.l3];omega),if_pos rfl,h.made]
 ·rw [ids_succ]
  refine Lk.snoc (by omega) (by rw [hN,if_pos rfl];exact hz2) h.lk (ids_nd k) ?_ ?_
  ·rw [ids_last,hN,if_neg (by omega),if_pos rfl];exact hp2
  ·intro b hb hne
   rw [ids_last] at hne
   rw [hN,if_neg,if_neg hne]
   simp only [List.mem_cons,mem_ids] at hb
   omega
 ·rw [hN,if_pos (by omega)];exact hz2
 ·rw [hN,if_neg (by omega)]
  split
  ·rename_i e
   have hh:=h.hd
   have hat1:=h.att
   rw [← hp,hat1,show (k:Int) + 1 = 1 by omega]
   rw [show rd L.ws 1 = nx c L.ws 1 by unfold nx;rw [nxt_v ok (by omega) (by have:=nodes_lt ok;omega)]]
   rw [show (nx c L.ws 1 % 2 == 1) = false by rw [hh];rfl]
   unfold zPack
   split
   ·simp
   ·rfl
  ·exact h.hd
 ·intro a ha
  rw [ids_succ] at ha
  simp only [List.mem_append,List.mem_singleton] at ha
  rcases ha with ha | rfl
  ·have:=h.sc a ha
   exact ⟨this.a2,this.an,by rw [hold a ha];exact this.o0,by rw [hold a ha];exact this.on⟩
  ·exact ⟨by omega,hn0,by rw [hnat];exact o0,by rw [hnat];exact o1⟩
 ·intro j y hj hy
  by_cases e:j = k
  ·subst e
   rw [hx] at hy
   cases hy
   rw [hnat]
   exact ⟨q,by rw [hs];exact hq,q1,q2⟩
  ·have hjm:(j:Int) + 2 ∈ ids k:=by rw [mem_ids];omega
   rw [hold _ hjm]
   obtain ⟨r,r1,r2,r3⟩:=h.kk j y (by omega) hy
   exact ⟨r,by rw [hs];exact r1,r2,r3⟩
theorem LI.all {c:Cf} (ok:c.Ok) (hb1:c.b = 1) {ys:List It} (hy:ItsOk ys) (h1:ys.length ≤ c.k) (h2:ys.length ≤ c.i):∀ k,k ≤ ys.length → LI c ys (layL c (ys.take k)) k k ∧ (0 < k → ∃ y,ys[k - 1]? = some y ∧ OpOk c (layL c (ys.take k)) y.key)
 | 0,_ => ⟨by simpa [layL] using LI.zero ok ys,by omega⟩
 | k + 1,hk => by
  obtain ⟨h,ho⟩:=LI.all ok hb1 hy h1 h2 k (by omega)
  have hx:ys[k]? = some ys[k]:=List.getElem?_eq_getElem (by omega)
  generalize ys[k] = x at hx
  rw [layL_step hx]
  generalize layL c (ys.take k) = L at h ho
  unfold lyI
  have fin:∀ M:Ly,LI c ys M k (k + 1) → OpOk c M x.key → LI c ys (lyB c M x) (k + 1) (k + 1) ∧ (0 < k + 1 → ∃ y,ys[k + 1 - 1]? = some y ∧ OpOk c (lyB c M x) y.key):=by
   intro M hM hO
   obtain ⟨a,b⟩:=hM.make_ hb1 (by omega) x hO hx
   exact ⟨a,fun _ => ⟨x,hx,b⟩⟩
  by_cases ha:x.again = true
  ·rw [if_pos ha]
   obtain ⟨k0,y,hy1,hy2⟩:=hy.again k x hx ha
   obtain ⟨y',hy1',hO⟩:=ho k0
   rw [hy1] at hy1'
   cases hy1'
   exact fin L ⟨h.att,h.made,Nat.le_succ_of_le h.calls,Nat.le_succ_of_le h.ins,h.inv,h.lay,h.lk,h.last,h.hd,h.sc,h.kk⟩ (hy2 ▸ hO)
  ·rw [if_neg ha]
   obtain ⟨a,b⟩:=h.begin_ (by omega) (by omega) x
   exact fin _ a b
theorem sorted_ok (xs:List It):ItsOk (sortedI xs):=⟨by
 intro j x hx ha
 unfold sortedI at hx ⊢
 rw [fixTo_get] at hx
 cases hc:(foldI xs)[j]? with
 | none => rw [hc] at hx;cases hx
 | some y =>
  rw [hc] at hx
  simp only [Option.map_some,Option.some.injEq] at hx
  have hlt:j < xs.length:=by have:=(List.getElem?_eq_some_iff.1 hc).1;rwa [foldI_len] at this
  rw [if_pos hlt] at hx
  unfold keptI at hx
  split at hx
  ·rename_i h
   obtain ⟨h0,h1⟩:=h
   subst hx
   refine ⟨h0,?_⟩
   cases hp:(foldI xs)[j - 1]? with
   | none => rw [hp] at h1;cases h1
   | some z =>
    rw [hp] at h1
    simp only [Option.map_some,Option.some.injEq] at h1
    rw [fixTo_get,hp]
    simp only [Option.map_some]
    rw [if_pos (by omega)]
    exact ⟨_,rfl,(keptI_key _ _ _).trans h1⟩
  ·subst hx
   simp [clr] at ha⟩
theorem lyC_stays (c:Cf):∀ (xs:List Cal) (s:St),Stays s (lyC c s xs)
 | [],s => Stays.refl s
 | x :: r,s => (begin_stays c s 2 x).trans (lyC_stays c r _)
theorem lyC_nodes (c:Cf):∀ (xs:List Cal) (s:St),(lyC c s xs).nodes = s.nodes
 | [],s => rfl
 | x :: r,s => by
  show (lyC c (beginI c s 2 x).1 r).nodes = s.nodes
  rw [lyC_nodes c r]
  unfold beginI
  split
  ·rfl
  ·unfold beginS;split
   ·rfl
   ·split <;> rfl
theorem lyC_opAt (c:Cf) (xs:List Cal) (s:St) (a:Int):opAt (lyC c s xs) a = opAt s a:=by unfold opAt;rw [lyC_nodes]
theorem lookI_stays {s s':St} (h:Stays s s') {i:Int} {x:Cal} (hx:lookI s.ops i = some x):lookI s'.ops i = some x:=by
 unfold lookI at hx ⊢
 split at hx
 ·cases hx
 ·rename_i hi;rw [if_neg hi];exact h.1 _ _ hx
structure Scn (c:Cf) (s:St) (ws:List Int) (ys:List It):Prop where
 lay:Lay0 c ws
 b1:c.b = 1
 lk:Lk c ws (nx c ws 1) (ids ys.length)
 hd:nx c ws 1 % 2 = 0
 sc:∀ a ∈ ids ys.length,Sc c s a
 kk:∀ (j:Nat) (y:It),ys[j]? = some y → ∃ x:Cal,lookI s.ops (opAt s ((j:Int) + 2)) = some x ∧ x.kind = 1 ∧ x.key = y.key
theorem scn_of {c:Cf} (ok:c.Ok) (hb1:c.b = 1) {xs:List It} (h1:xs.length ≤ c.k) (h2:xs.length ≤ c.i) (cs:List Cal) (L:Ly) (hL:layL c (sortedI xs) = L) (s:St) (hs:lyC c L.s cs = s):Scn c s L.ws (sortedI xs):=by
 have hl:(sortedI xs).length = xs.length:=sortedI_len xs
 obtain ⟨h,-⟩:=LI.all ok hb1 (sorted_ok xs) (by omega) (by omega) (sortedI xs).length (Nat.le_refl _)
 rw [List.take_length,hL] at h
 refine ⟨h.lay,hb1,h.lk,h.hd,fun a ha => ?_,fun j y hy => ?_⟩
 ·have:=h.sc a ha
  rw [← hs]
  exact ⟨this.a2,this.an,by rw [lyC_opAt];exact this.o0,by rw [lyC_opAt];exact this.on⟩
 ·obtain ⟨x,x1,x2,x3⟩:=h.kk j y (List.getElem?_eq_some_iff.1 hy).1 hy
  rw [← hs,lyC_opAt]
  exact ⟨x,lookI_stays (lyC_stays c cs L.s) x1,x2,x3⟩
theorem Scn.walk {c:Cf} {s:St} {ws:List Int} {ys:List It} (h:Scn c s ws ys) (hw:∀ i:Int,0 ≤ rd ws i ∧ rd ws i ≤ 18446744073709551615) (n key mode:Int):WI c s key mode ⟨ws,n,newK key mode⟩ [] (ids ys.length) :=
 ⟨h.lay,hw,h.b1,h.lk,ids_nd _,h.sc,by intro a ha;simp only [List.mem_singleton] at ha;subst ha;exact h.hd,rfl,rfl,by simp,by simp,by intro q;exact absurd rfl q,by simp,.beg rfl rfl rfl⟩
theorem Scn.mu {c:Cf} {s:St} {ws:List Int} {ys:List It} (n key mode:Int):mu c s ⟨ws,n,newK key mode⟩ (ids ys.length) ≤ 12 * ys.length + 4:=by
 have hl:=ids_len ys.length
 cases hr:ids ys.length with
 | nil => simp [Go.Proofs.YtcogckjpmmjmbaaGreat.mu,newK]
 | cons C r =>
  rw [hr] at hl
  simp only [List.length_cons] at hl
  simp only [Go.Proofs.YtcogckjpmmjmbaaGreat.mu,newK]
  simp
  omega
end Go.Proofs.YtcogckjpmmjmbaaGreat
