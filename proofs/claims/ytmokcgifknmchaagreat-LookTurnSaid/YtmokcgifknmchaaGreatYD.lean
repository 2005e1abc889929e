/- A walk that nobody disturbs: what holds at each step of it. -/
import Derived.Test.YtmokcgifknmchaaGreatYRPr
import Derived.Test.YtmokcgifknmchaaGreatWkP
import Derived.Test.YtmokcgifknmchaaGreatWalkS
import Derived.Test.YtmokcgifknmchaaGreatMScene
import Derived.Test.YtmokcgifknmchaaGreatWkQ
import Derived.Test.YtmokcgifknmchaaGreatMAwake
import Derived.Test.YtmokcgifknmchaaGreatMSound
namespace Go.Proofs.YtmokcgifknmchaaGreat
set_option maxRecDepth 100000
set_option linter.unusedVariables false
theorem Lk.chain {c:Cf} {ws:List Int}:∀ {l:List Int} {v:Int} (f:Nat),Lk c ws v l → l.length ≤ f → chainN c ws f v = l
 | [],v,0,_,_ => rfl
 | [],v,f + 1,h,_ => by unfold chainN;exact if_pos h
 | a :: r,v,f + 1,⟨h1,h2,h3⟩,hl => by
  unfold chainN
  rw [if_neg (by rw [h1];exact h2),h1]
  simp only [List.length_cons] at hl
  have:=h3.chain f (by omega)
  unfold refOf
  rw [this]
end Go.Proofs.YtmokcgifknmchaaGreat
namespace Go.Proofs.YtmokcgifknmchaaGreat
set_option maxRecDepth 100000
set_option linter.unusedVariables false
theorem Lay0.wr {c:Cf} {ws:List Int} (h:Lay0 c ws) (i v:Int):Lay0 c (wr ws i v):=⟨h.ok,(length_wr _ _ _).trans h.len⟩
theorem nx_wr {c:Cf} {ws:List Int} (h:Lay0 c ws) {a:Int} (h0:0 ≤ a) (h1:a < c.nodes) (v b:Int):nx c (wr ws (nxtI c a) v) b = if b = a then v else nx c ws b:=by
 unfold nx
 rw [rd_wr2,nxt_v h.ok h0 h1]
 have hl:=h.len
 simp only [Cf.len] at hl
 by_cases hb:0 ≤ b ∧ b < c.nodes
 ·rw [nxt_v h.ok hb.1 hb.2]
  by_cases e:b = a
  ·rw [if_pos ⟨e,h0,by omega⟩,if_pos e]
  ·rw [if_neg (fun x => e x.1),if_neg e]
 ·rw [nxt_o h.ok hb,if_neg (by omega),if_neg (by rintro rfl;exact hb ⟨h0,h1⟩)]
theorem Lk.snoc {c:Cf} {ws ws':List Int} {nd:Int} (h0:nd ≠ 0) (hz:nx c ws' nd / 2 = 0):∀ {l:List Int} {a0:Int},Lk c ws (nx c ws a0) l → (a0 :: l).Nodup → nx c ws' (l.getLastD a0) / 2 = nd → (∀ b ∈ a0 :: l,b ≠ l.getLastD a0 → nx c ws' b = nx c ws b) → Lk c ws' (nx c ws' a0) (l ++ [nd])
 | [],a0,_,_,hP,_ => ⟨hP,h0,hz⟩
 | a :: p,a0,⟨e1,e2,h⟩,hn,hP,he => by
  have hl:(a :: p).getLastD a0 = p.getLastD a:=List.getLastD_cons
  rw [hl] at hP he
  have hne:a0 ≠ p.getLastD a:=by
   rintro e
   rw [List.nodup_cons] at hn
   refine hn.1 ?_
   rw [e]
   exact List.getLastD_mem_cons
  refine ⟨by rw [he a0 (by simp) hne];exact e1,e2,?_⟩
  exact Lk.snoc h0 hz h (List.nodup_cons.1 hn).2 hP (fun b hb => he b (List.mem_cons_of_mem _ hb))
def ids (k:Nat):List Int:=(List.range k).map fun (j:Nat) => (j:Int) + 2
theorem ids_succ (k:Nat):ids (k + 1) = ids k ++ [(k:Int) + 2]:=by simp [ids,List.range_succ]
theorem mem_ids {k:Nat} {a:Int}:a ∈ ids k ↔ 2 ≤ a ∧ a < (k:Int) + 2:=by
 simp only [ids,List.mem_map,List.mem_range]
 constructor
 ·rintro ⟨j,hj,rfl⟩;omega
 ·rintro ⟨h1,h2⟩;exact ⟨(a - 2).toNat,by omega,by omega⟩
theorem ids_nd:∀ k:Nat,(1 :: ids k).Nodup
 | 0 => by simp [ids]
 | k + 1 => by
  rw [ids_succ,← List.cons_append,List.nodup_append]
  refine ⟨ids_nd k,by simp,?_⟩
  intro a ha b hb e
  simp only [List.mem_singleton] at hb
  simp only [List.mem_cons,mem_ids] at ha
  omega
theorem ids_last (k:Nat):(ids k).getLastD 1 = (k:Int) + 1:=by
 cases k with
 | zero => rfl
 | succ k => rw [ids_succ];simp;omega
theorem begin_ok {c:Cf} {s:St} {x:Cal} (ht:0 < c.t) (hk:x.kind = 1) (h1:at_ s.calls 0 < c.k) (h2:at_ s.ins 0 < c.i) :
  beginI c s 0 x = ({ s with calls:=bump s.calls 0,ins:=bump s.ins 0,ops:=s.ops ++ [(at_ s.calls 0,x)] },at_ s.calls 0,0):=by
 unfold beginI
 rw [if_neg (by simp only [kindOk,hk];omega)]
 unfold beginS
 simp only [Int.toNat_zero,Nat.zero_mul,Nat.zero_add]
 rw [if_neg (by omega),if_neg (by omega)]
 simp [hk]
theorem make_ok {c:Cf} {s:St} {op:Int} (ht:0 < c.t) (h1:at_ s.made 0 < 2 * c.k) (ho:(lookI s.ops op).isSome) :
  makeI c s 0 op = ({ s with made:=bump s.made 0,nodes:=s.nodes ++ [(1 + c.b + at_ s.made 0,op.toNat)] },1 + c.b + at_ s.made 0,0):=by
 unfold makeI
 rw [if_neg (by rw [Option.isNone_iff_eq_none];intro h;rcases h with h | h | h;omega;omega;rw [h] at ho;cases ho)]
 unfold makeS
 simp only [Int.toNat_zero,Nat.zero_mul,Nat.add_zero]
 rw [if_neg (by omega)]
theorem look_new {α:Type} {l:List (Nat × α)} {n:Nat} {x:α} (h:look l n = none):look (l ++ [(n,x)]) n = some x:=by rw [look_app,h];simp
structure LI (c:Cf) (ys:List It) (L:Ly) (k m:Nat):Prop where
 att:L.at_ = (k:Int) + 1
 made:at_ L.s.made 0 = k
 calls:at_ L.s.calls 0 ≤ m
 ins:at_ L.s.ins 0 ≤ m
 inv:Inv c L.s
 lay:Lay0 c L.ws
 lk:Lk c L.ws (nx c L.ws 1) (ids k)
 last:nx c L.ws ((k:Int) + 1) / 2 = 0
 hd:nx c L.ws 1 % 2 = 0
 sc:∀ a ∈ ids k,Sc c L.s a
 kk:∀ (j:Nat) (y:It),j < k → ys[j]? = some y → ∃ x:Cal,lookI L.s.ops (opAt L.s ((j:Int) + 2)) = some x ∧ x.kind = 1 ∧ x.key = y.key
def OpOk (c:Cf) (L:Ly) (key:Int):Prop:=0 ≤ L.op ∧ L.op < c.ops ∧ ∃ x:Cal,lookI L.s.ops L.op = some x ∧ x.kind = 1 ∧ x.key = key
structure ItsOk (ys:List It):Prop where
 again:∀ (j:Nat) (x:It),ys[j]? = some x → x.again = true → 0 < j ∧ ∃ y,ys[j - 1]? = some y ∧ y.key = x.key
theorem lookI_app {α:Type} {l:List (Nat × α)} {i:Int} {x:α} (y:Nat × α) (h:lookI l i = some x):lookI (l ++ [y]) i = some x:=by
 unfold lookI at h ⊢
 split at h
 ·cases h
 ·rename_i hi
  rw [if_neg hi];exact look_stays _ _ _ _ h
theorem at_new {n j:Nat}:at_ (List.replicate n 0) j = 0:=by unfold at_;rw [List.getD_eq_getElem?_getD,List.getElem?_replicate];split <;> rfl
theorem LI.zero {c:Cf} (ok:c.Ok) (ys:List It):LI c ys (ly0 c) 0 0:=by
 have h0:∀ i,rd (List.replicate c.len 0) i = 0:=by
  intro i
  unfold rd
  split
  ·rw [List.getD_eq_getElem?_getD,List.getElem?_replicate];split <;> rfl
  ·rfl
 refine ⟨rfl,at_new,Nat.le_of_eq at_new,Nat.le_of_eq at_new,Inv.new,⟨ok,by simp [ly0]⟩,?_,?_,?_,?_,by intro j y hj;omega⟩
 ·show rd (List.replicate c.len 0) _ / 2 = 0
  rw [h0];rfl
 ·show rd (List.replicate c.len 0) _ / 2 = 0
  rw [h0];rfl
 ·show rd (List.replicate c.len 0) _ % 2 = 0
  rw [h0];rfl
 ·intro a ha;simp [ids] at ha
theorem LI.begin_ {c:Cf} {ys:List It} {L:Ly} {k m:Nat} (h:LI c ys L k m) (hc:m < c.k) (hi:m < c.i) (x:It):LI c ys (lyA c L x) k (m + 1) ∧ OpOk c (lyA c L x) x.key:=by
 have ok:=h.lay.ok
 have t1:=ok.t1
 have hcl:=h.calls
 have hb:=begin_ok (c:=c) (s:=L.s) (x:=⟨1,x.key,x.val,0⟩) (by omega) rfl (by omega) (by have:=h.ins;omega)
 have hi2:=h.inv.beginI 0 ⟨1,x.key,x.val,0⟩
 obtain ⟨n,hn⟩:∃ n,at_ L.s.calls 0 = n:=⟨_,rfl⟩
 rw [hn] at hb hcl
 have hno:(n:Int) < c.ops:=by
  have h1:c.k * 1 ≤ c.k * c.t:=Nat.mul_le_mul_left _ t1
  rw [Nat.mul_comm c.k c.t] at h1
  simp only [Cf.ops];omega
 have hnew:look L.s.ops n = none:=by
  refine look_none fun z hz => ?_
  obtain ⟨a,m',h1,h2,h3⟩:=h.inv.k1 z hz
  intro e
  have hm:=h.inv.b1 a h1
  cases a with
  | zero => rw [Nat.zero_mul] at h3;omega
  | succ a => rw [Nat.add_mul] at h3;omega
 have hs:(lyA c L x).s = { L.s with calls:=bump L.s.calls 0,ins:=bump L.s.ins 0,ops:=L.s.ops ++ [(n,⟨1,x.key,x.val,0⟩)] }:=by simp only [lyA];rw [hb]
 have ho:(lyA c L x).op = (n:Int):=by simp only [lyA];rw [hb]
 have hws:(lyA c L x).ws = sw L.ws (wrdI c (n:Int)) 0 x.word:=by simp only [lyA];rw [hb]
 have hN:∀ b,nx c (lyA c L x).ws b = nx c L.ws b:=fun b => by rw [hws];exact nx_sww h.lay (by omega) hno _ _ _
 have hat:∀ a,opAt (lyA c L x).s a = opAt L.s a:=fun a => by rw [hs];rfl
 have l1:=h.inv.l1
 have l2:=h.inv.l2
 refine ⟨⟨h.att,by rw [hs];exact h.made,?_,?_,by simp only [lyA];exact hi2,by rw [hws];exact h.lay.sw _ _ _,by rw [hN];exact h.lk.congr (fun a _ => hN a),by rw [hN];exact h.last,by rw [hN];exact h.hd,fun a ha => ?_,fun j y hj hy => ?_⟩,by rw [ho];omega,by rw [ho];exact hno,⟨1,x.key,x.val,0⟩,?_,rfl,rfl⟩
 ·rw [hs];show at_ (bump L.s.calls 0) 0 ≤ m + 1;rw [at_bump (by omega),if_pos rfl];omega
 ·rw [hs];show at_ (bump L.s.ins 0) 0 ≤ m + 1;rw [at_bump (by omega),if_pos rfl];have:=h.ins;omega
 ·have:=h.sc a ha
  exact ⟨this.a2,this.an,by rw [hat];exact this.o0,by rw [hat];exact this.on⟩
 ·rw [hat]
  obtain ⟨q,h1,h2,h3⟩:=h.kk j y hj hy
  exact ⟨q,by rw [hs];exact lookI_app _ h1,h2,h3⟩
 ·rw [ho,hs,lookI_nat];exact look_new hnew
theorem LI.make_ {c:Cf} {ys:List It} {L:Ly} {k m:Nat} (h:LI c ys L k m) (hb1:c.b = 1) (hk:k < 2 * c.k) (x:It) (ho:OpOk c L x.key) (hx:ys[k]? = some x):LI c ys (lyB c L x) (k + 1) m ∧ OpOk c (lyB c L x) x.key:=by
 have ok:=h.lay.ok
 have t1:=ok.t1
 obtain ⟨o0,o1,q,hq,q1,q2⟩:=ho
 have hmk:=make_ok (c:=c) (s:=L.s) (op:=L.op) (by omega) (by rw [h.made];exact hk) (by rw [hq];rfl)
 have hi2:=h.inv.makeI 0 L.op
 rw [h.made,hb1] at hmk
 have e2:((1 + 1 + k:Nat):Int) = (k:Int) + 2:=by omega
 have hn0:(k:Int) + 2 < c.nodes:=by
  have h1:c.k * 1 ≤ c.k * c.t:=Nat.mul_le_mul_left _ t1
  rw [Nat.mul_comm c.k c.t] at h1
  simp only [Cf.nodes];omega
 have hs:(lyB c L x).s = { L.s with made:=bump L.s.made 0,nodes:=L.s.nodes ++ [(1 + 1 + k,L.op.toNat)] }:=by simp only [lyB];rw [hmk]
 have hop:(lyB c L x).op = L.op:=rfl
 obtain ⟨p,hp⟩:∃ p,zPack ((k:Int) + 2) (rd L.ws L.at_ % 2 == 1) = p:=⟨_,rfl⟩
 obtain ⟨z,hz⟩:∃ z,zPack 0 x.mark = z:=⟨_,rfl⟩
 have hws:(lyB c L x).ws = wr (wr L.ws (nxtI c ((k:Int) + 1)) p) (nxtI c ((k:Int) + 2)) z:=by simp only [lyB,lyW];rw [hmk];simp only;rw [e2,h.att,hz,← hp,h.att]
 have hat:(lyB c L x).at_ = (k:Int) + 2:=by simp only [lyB];rw [hmk];exact e2
 have hla:Lay0 c (wr L.ws (nxtI c ((k:Int) + 1)) p):=h.lay.wr _ _
 have hN:∀ b,nx c (lyB c L x).ws b = if b = (k:Int) + 2 then z else if b = (k:Int) + 1 then p else nx c L.ws b:=fun b => by
  rw [hws,nx_wr hla (by omega) hn0,nx_wr h.lay (by omega) (by omega)]
 have hz2:z / 2 = 0:=by rw [← hz];unfold zPack;split <;> (first | (split <;> omega) | omega)
 have hk9:(k:Int) + 2 ≤ 9999:=by have:=ok.nodes_le;omega
 have hp2:p / 2 = (k:Int) + 2:=by rw [← hp];unfold zPack;rw [if_pos (by omega)];split <;> omega
 have hnew:look L.s.nodes (1 + 1 + k) = none:=by
  refine look_none fun w hw => ?_
  obtain ⟨a,m',h1,h2,h3⟩:=h.inv.k2 w hw
  intro e
  have hm:=h.made
  cases a with
  | zero => rw [Nat.zero_mul] at h3;omega
  | succ a => rw [Nat.add_mul] at h3;omega
 have hnat:opAt (lyB c L x).s ((k:Int) + 2) = L.op:=by
  unfold opAt
  rw [hs,← e2,lookI_nat]
  show carriedOf (look (L.s.nodes ++ [(1 + 1 + k,L.op.toNat)]) (1 + 1 + k)) = _
  rw [look_new hnew]
  show ((L.op.toNat:Nat):Int) = L.op
  omega
 have hold:∀ a ∈ ids k,opAt (lyB c L x).s a = opAt L.s a:=by
  intro a ha
  have h1:=(h.sc a ha).o0
  unfold opAt at h1 ⊢
  cases hl:lookI L.s.nodes a with
  | none => rw [hl] at h1;simp [carriedOf] at h1
  | some o => rw [hs];rw [lookI_app _ hl]
 refine ⟨⟨by rw [hat];omega,?_,by rw [hs];exact h.calls,by rw [hs];exact h.ins,by simp only [lyB];exact hi2,by rw [hws];exact hla.wr _ _,?_,?_,?_,?_,?_⟩,by rw [hop];exact o0,by rw [hop];exact o1,q,by rw [hop,hs];exact hq,q1,q2⟩
 ·rw [hs];show at_ (bump L.s.made 0) 0 = k + 1;rw [at_bump (by rw [h.inv.l3];omega),if_pos rfl,h.made]
 ·rw [ids_succ]
  refine Lk.snoc (by omega) (by rw [hN,if_pos rfl];exact hz2) h.lk (ids_nd k) ?_ ?_
  ·rw [ids_last,hN,if_neg (by omega),if_pos rfl];exact hp2
  ·intro b hb hne
   rw [ids_last] at hne
   rw [hN,if_neg,if_neg hne]
   simp only [List.mem_cons,mem_ids] at hb
   omega
 ·rw [hN,if_pos (by omega)];exact hz2
 ·rw [hN,if_neg (by omega)]
  split
  ·rename_i e
   have hh:=h.hd
   have hat1:=h.att
   rw [← hp,hat1,show (k:Int) + 1 = 1 by omega]
   rw [show rd L.ws 1 = nx c L.ws 1 by unfold nx;rw [nxt_v ok (by omega) (by have:=nodes_lt ok;omega)]]
   rw [show (nx c L.ws 1 % 2 == 1) = false by rw [hh];rfl]
   unfold zPack
   split
   ·simp
   ·rfl
  ·exact h.hd
 ·intro a ha
  rw [ids_succ] at ha
  simp only [List.mem_append,List.mem_singleton] at ha
  rcases ha with ha | rfl
  ·have:=h.sc a ha
   exact ⟨this.a2,this.an,by rw [hold a ha];exact this.o0,by rw [hold a ha];exact this.on⟩
  ·exact ⟨by omega,hn0,by rw [hnat];exact o0,by rw [hnat];exact o1⟩
 ·intro j y hj hy
  by_cases e:j = k
  ·subst e
   rw [hx] at hy
   cases hy
   rw [hnat]
   exact ⟨q,by rw [hs];exact hq,q1,q2⟩
  ·have hjm:(j:Int) + 2 ∈ ids k:=by rw [mem_ids];omega
   rw [hold _ hjm]
   obtain ⟨r,r1,r2,r3⟩:=h.kk j y (by omega) hy
   exact ⟨r,by rw [hs];exact r1,r2,r3⟩
theorem LI.all {c:Cf} (ok:c.Ok) (hb1:c.b = 1) {ys:List It} (hy:ItsOk ys) (h1:ys.length ≤ c.k) (h2:ys.length ≤ c.i):∀ k,k ≤ ys.length → LI c ys (layL c (ys.take k)) k k ∧ (0 < k → ∃ y,ys[k - 1]? = some y ∧ OpOk c (layL c (ys.take k)) y.key)
 | 0,_ => ⟨by simpa [layL] using LI.zero ok ys,by omega⟩
 | k + 1,hk => by
  obtain ⟨h,ho⟩:=LI.all ok hb1 hy h1 h2 k (by omega)
  have hx:ys[k]? = some ys[k]:=List.getElem?_eq_getElem (by omega)
  generalize ys[k] = x at hx
  rw [layL_step hx]
  generalize layL c (ys.take k) = L at h ho
  unfold lyI
  have fin:∀ M:Ly,LI c ys M k (k + 1) → OpOk c M x.key → LI c ys (lyB c M x) (k + 1) (k + 1) ∧ (0 < k + 1 → ∃ y,ys[k + 1 - 1]? = some y ∧ OpOk c (lyB c M x) y.key):=by
   intro M hM hO
   obtain ⟨a,b⟩:=hM.make_ hb1 (by omega) x hO hx
   exact ⟨a,fun _ => ⟨x,hx,b⟩⟩
  by_cases ha:x.again = true
  ·rw [if_pos ha]
   obtain ⟨k0,y,hy1,hy2⟩:=hy.again k x hx ha
   obtain ⟨y',hy1',hO⟩:=ho k0
   rw [hy1] at hy1'
   cases hy1'
   exact fin L ⟨h.att,h.made,Nat.le_succ_of_le h.calls,Nat.le_succ_of_le h.ins,h.inv,h.lay,h.lk,h.last,h.hd,h.sc,h.kk⟩ (hy2 ▸ hO)
  ·rw [if_neg ha]
   obtain ⟨a,b⟩:=h.begin_ (by omega) (by omega) x
   exact fin _ a b
theorem sorted_ok (xs:List It):ItsOk (sortedI xs):=⟨by
 intro j x hx ha
 unfold sortedI at hx ⊢
 rw [fixTo_get] at hx
 cases hc:(foldI xs)[j]? with
 | none => rw [hc] at hx;cases hx
 | some y =>
  rw [hc] at hx
  simp only [Option.map_some,Option.some.injEq] at hx
  have hlt:j < xs.length:=by have:=(List.getElem?_eq_some_iff.1 hc).1;rwa [foldI_len] at this
  rw [if_pos hlt] at hx
  unfold keptI at hx
  split at hx
  ·rename_i h
   obtain ⟨h0,h1⟩:=h
   subst hx
   refine ⟨h0,?_⟩
   cases hp:(foldI xs)[j - 1]? with
   | none => rw [hp] at h1;cases h1
   | some z =>
    rw [hp] at h1
    simp only [Option.map_some,Option.some.injEq] at h1
    rw [fixTo_get,hp]
    simp only [Option.map_some]
    rw [if_pos (by omega)]
    exact ⟨_,rfl,(keptI_key _ _ _).trans h1⟩
  ·subst hx
   simp [clr] at ha⟩
theorem lyC_stays (c:Cf):∀ (xs:List Cal) (s:St),Stays s (lyC c s xs)
 | [],s => Stays.refl s
 | x :: r,s => (begin_stays c s 2 x).trans (lyC_stays c r _)
theorem lyC_nodes (c:Cf):∀ (xs:List Cal) (s:St),(lyC c s xs).nodes = s.nodes
 | [],s => rfl
 | x :: r,s => by
  show (lyC c (beginI c s 2 x).1 r).nodes = s.nodes
  rw [lyC_nodes c r]
  unfold beginI
  split
  ·rfl
  ·unfold beginS;split
   ·rfl
   ·split <;> rfl
theorem lyC_opAt (c:Cf) (xs:List Cal) (s:St) (a:Int):opAt (lyC c s xs) a = opAt s a:=by unfold opAt;rw [lyC_nodes]
theorem lookI_stays {s s':St} (h:Stays s s') {i:Int} {x:Cal} (hx:lookI s.ops i = some x):lookI s'.ops i = some x:=by
 unfold lookI at hx ⊢
 split at hx
 ·cases hx
 ·rename_i hi;rw [if_neg hi];exact h.1 _ _ hx
structure Scn (c:Cf) (s:St) (ws:List Int) (ys:List It):Prop where
 lay:Lay0 c ws
 b1:c.b = 1
 lk:Lk c ws (nx c ws 1) (ids ys.length)
 hd:nx c ws 1 % 2 = 0
 sc:∀ a ∈ ids ys.length,Sc c s a
 kk:∀ (j:Nat) (y:It),ys[j]? = some y → ∃ x:Cal,lookI s.ops (opAt s ((j:Int) + 2)) = some x ∧ x.kind = 1 ∧ x.key = y.key
theorem scn_of {c:Cf} (ok:c.Ok) (hb1:c.b = 1) {xs:List It} (h1:xs.length ≤ c.k) (h2:xs.length ≤ c.i) (cs:List Cal) (L:Ly) (hL:layL c (sortedI xs) = L) (s:St) (hs:lyC c L.s cs = s):Scn c s L.ws (sortedI xs):=by
 have hl:(sortedI xs).length = xs.length:=sortedI_len xs
 obtain ⟨h,-⟩:=LI.all ok hb1 (sorted_ok xs) (by omega) (by omega) (sortedI xs).length (Nat.le_refl _)
 rw [List.take_length,hL] at h
 refine ⟨h.lay,hb1,h.lk,h.hd,fun a ha => ?_,fun j y hy => ?_⟩
 ·have:=h.sc a ha
  rw [← hs]
  exact ⟨this.a2,this.an,by rw [lyC_opAt];exact this.o0,by rw [lyC_opAt];exact this.on⟩
 ·obtain ⟨x,x1,x2,x3⟩:=h.kk j y (List.getElem?_eq_some_iff.1 hy).1 hy
  rw [← hs,lyC_opAt]
  exact ⟨x,lookI_stays (lyC_stays c cs L.s) x1,x2,x3⟩
theorem Scn.walk {c:Cf} {s:St} {ws:List Int} {ys:List It} (h:Scn c s ws ys) (hw:∀ i:Int,0 ≤ rd ws i ∧ rd ws i ≤ 18446744073709551615) (n key mode:Int):WI c s key mode ⟨ws,n,newK key mode⟩ [] (ids ys.length) :=
 ⟨h.lay,hw,h.b1,h.lk,ids_nd _,h.sc,by intro a ha;simp only [List.mem_singleton] at ha;subst ha;exact h.hd,rfl,rfl,by simp,by simp,by intro q;exact absurd rfl q,by simp,.beg rfl rfl rfl⟩
end Go.Proofs.YtmokcgifknmchaaGreat
namespace Go.Proofs.YtmokcgifknmchaaGreat
set_option maxRecDepth 100000
set_option linter.unusedVariables false
def pasL (c:Cf) (ws:List Int) (s:St) (p:Ps) (l:List Int):Ps:=l.foldl (fun p i => passV p (ndOf c ws s i)) p
theorem pasL_cons (c:Cf) (ws:List Int) (s:St) (p:Ps) (i:Int) (l:List Int):pasL c ws s p (i :: l) = pasL c ws s (passV p (ndOf c ws s i)) l:=rfl
theorem sndL_app {c:Cf} {ws:List Int} {s:St} {b:Int}:∀ {l m:List Int} {p:Ps},sndL c ws s b p (l ++ m) = true ↔ sndL c ws s b p l = true ∧ sndL c ws s b (pasL c ws s p l) m = true
 | [],m,p => by simp [sndL,pasL]
 | i :: l,m,p => by
  simp only [List.cons_append,sndL]
  by_cases h:fitV c b p (ndOf c ws s i) = true
  ·rw [if_pos h,if_pos h,pasL_cons];exact sndL_app
  ·rw [if_neg h,if_neg h];simp
theorem sndL_cons {c:Cf} {ws:List Int} {s:St} {b:Int} {i:Int} {l:List Int} {p:Ps}:sndL c ws s b p (i :: l) = true ↔ fitV c b p (ndOf c ws s i) = true ∧ sndL c ws s b (passV p (ndOf c ws s i)) l = true:=by
 simp only [sndL]
 split
 ·rename_i h;simp [h]
 ·rename_i h;simp [h]
theorem fit_iff {c:Cf} {ws:List Int} {s:St} {b:Int} {p:Ps} {i:Int}:fitV c b p (ndOf c ws s i) = true ↔ (calAt s (opAt s i)).kind = 1 ∧ zBucket (keyOf_ s i) c.b = b ∧ i ∉ p.nodes ∧ p.key ≤ keyOf_ s i ∧
  (opAt s i ∈ p.ops ∨ 2 ≤ wd c ws (opAt s i) ∨ (¬ nx c ws i % 2 = 1 ∧ ¬ (wd c ws (opAt s i) = 1 ∧ keyOf_ s i ∈ p.opens))):=by
 unfold fitV bearsV
 have e1:(ndOf c ws s i).cal = calAt s (opAt s i):=rfl
 have e2:(ndOf c ws s i).num = i:=rfl
 have e3:(ndOf c ws s i).op = opAt s i:=rfl
 have e4:(ndOf c ws s i).word = wd c ws (opAt s i):=rfl
 have e5:(ndOf c ws s i).next = nx c ws i:=rfl
 rw [e1,e2,e3,e4,e5,key_op]
 by_cases h1:(calAt s (opAt s i)).kind = 1 <;> by_cases h2:zBucket (calAt s (opAt s i)).key c.b = b <;> simp only [h1,h2,decide_true,decide_false,Bool.true_and,Bool.false_and,Bool.and_false,true_and,false_and,Bool.false_eq_true]
 by_cases h3:i ∈ p.nodes ∨ (calAt s (opAt s i)).key < p.key
 ·rw [if_pos h3]
  constructor
  ·intro h;cases h
  ·rintro ⟨a,b,-⟩;rcases h3 with h3 | h3;exact absurd h3 a;omega
 ·rw [if_neg h3]
  have h3a:i ∉ p.nodes:=fun h => h3 (.inl h)
  have h3b:p.key ≤ (calAt s (opAt s i)).key:=by
   have:=fun h => h3 (.inr h);omega
  by_cases h4:opAt s i ∈ p.ops ∨ 2 ≤ wd c ws (opAt s i)
  ·rw [if_pos h4]
   exact ⟨fun _ => ⟨h3a,h3b,by rcases h4 with h | h;exact .inl h;exact .inr (.inl h)⟩,fun _ => rfl⟩
  ·rw [if_neg h4]
   simp only [Bool.and_eq_true,Bool.not_eq_true',beq_eq_false_iff_ne,ne_eq,Bool.and_eq_false_iff,decide_eq_false_iff_not]
   constructor
   ·rintro ⟨a,b⟩
    refine ⟨h3a,h3b,.inr (.inr ⟨a,?_⟩)⟩
    rintro ⟨x,y⟩;rcases b with b | b;exact b x;exact b y
   ·rintro ⟨-,-,h | h | ⟨a,b⟩⟩
    ·exact absurd (.inl h) h4
    ·exact absurd (.inr h) h4
    ·refine ⟨a,?_⟩
     by_cases x:wd c ws (opAt s i) = 1
     ·exact .inr (fun y => b ⟨x,y⟩)
     ·exact .inl x
structure Rel (c:Cf) (ws':List Int) (p p':Ps):Prop where
 nodes:∀ x ∈ p'.nodes,x ∈ p.nodes
 key:p'.key ≤ p.key
 ops:∀ o ∈ p.ops,o ∈ p'.ops ∨ 2 ≤ wd c ws' o
 opens:∀ k ∈ p'.opens,k ∈ p.opens
theorem Rel.refl (c:Cf) (ws':List Int) (p:Ps):Rel c ws' p p:=⟨fun _ h => h,Int.le_refl _,fun _ h => .inl h,fun _ h => h⟩
theorem Rel.pass {c:Cf} {ws ws':List Int} {s:St} {p p':Ps} (h:Rel c ws' p p') (i:Int) (hw:wd c ws' (opAt s i) < 2 → wd c ws (opAt s i) < 2):Rel c ws' (passV p (ndOf c ws s i)) (passV p' (ndOf c ws' s i)):=by
 have e4:(ndOf c ws s i).word = wd c ws (opAt s i):=rfl
 have e4':(ndOf c ws' s i).word = wd c ws' (opAt s i):=rfl
 refine ⟨?_,Int.le_refl _,?_,?_⟩
 ·intro x hx
  simp only [passV,mem_addK] at hx ⊢
  rcases hx with hx | hx
  ·exact .inl (h.nodes x hx)
  ·exact .inr hx
 ·intro o ho
  simp only [passV,mem_addK] at ho ⊢
  rcases ho with ho | ho
  ·rcases h.ops o ho with h | h
   ·exact .inl (.inl h)
   ·exact .inr h
  ·exact .inl (.inr ho)
 ·intro k hk
  simp only [passV,e4,e4'] at hk ⊢
  split at hk
  ·split
   ·exact h.opens k hk
   ·rw [mem_addK];exact .inl (h.opens k hk)
  ·rename_i hn
   rw [if_neg (by have:=hw (by omega);omega)]
   rw [mem_addK] at hk ⊢
   rcases hk with hk | hk
   ·exact .inl (h.opens k hk)
   ·exact .inr hk
theorem pass_ops {p:Ps} {x:Nd} {o:Int} (h:o ∈ p.ops):o ∈ (passV p x).ops:=by simp only [passV,mem_addK];exact .inl h
theorem sndL_rel {c:Cf} {ws ws':List Int} {s:St} {b:Int}:∀ {l:List Int} {p p':Ps},Rel c ws' p p' → (∀ x ∈ l,(2 ≤ wd c ws' (opAt s x) ∨ opAt s x ∈ p'.ops ∨ wd c ws' (opAt s x) = wd c ws (opAt s x) ∧ nx c ws' x % 2 = nx c ws x % 2)) →
  (∀ x ∈ l,wd c ws' (opAt s x) < 2 → wd c ws (opAt s x) < 2) → sndL c ws s b p l = true → sndL c ws' s b p' l = true
 | [],_,_,_,_,_,_ => rfl
 | i :: l,p,p',h,he,hw,hs => by
  rw [sndL_cons] at hs ⊢
  obtain ⟨hf,hs⟩:=hs
  rw [fit_iff] at hf ⊢
  obtain ⟨f1,f2,f3,f4,f5⟩:=hf
  refine ⟨⟨f1,f2,fun hx => f3 (h.nodes _ hx),Int.le_trans h.key f4,?_⟩,?_⟩
  ·rcases he i (by simp) with e | e | ⟨e1,e2⟩
   ·exact .inr (.inl e)
   ·exact .inl e
   ·rcases f5 with f | f | ⟨f,g⟩
    ·rcases h.ops _ f with k | k
     ·exact .inl k
     ·exact .inr (.inl k)
    ·exact .inr (.inl (by rw [e1];exact f))
    ·exact .inr (.inr ⟨by rw [e2];exact f,by rw [e1];rintro ⟨x,y⟩;exact g ⟨x,h.opens _ y⟩⟩)
  ·refine sndL_rel (h.pass i (hw i (by simp))) (fun x hx => ?_) (fun x hx => hw x (by simp [hx])) hs
   rcases he x (by simp [hx]) with e | e | e
   ·exact .inl e
   ·exact .inr (.inl (pass_ops e))
   ·exact .inr (.inr e)
theorem pasL_ops {c:Cf} {ws:List Int} {s:St}:∀ {l:List Int} {p:Ps} {o:Int},o ∈ (pasL c ws s p l).ops ↔ o ∈ p.ops ∨ ∃ a ∈ l,opAt s a = o
 | [],p,o => by simp [pasL]
 | i :: l,p,o => by
  rw [pasL_cons,pasL_ops]
  simp only [passV,mem_addK]
  have e3:(ndOf c ws s i).op = opAt s i:=rfl
  rw [e3]
  constructor
  ·rintro ((h | h) | ⟨a,ha,h⟩)
   ·exact .inl h
   ·exact .inr ⟨i,by simp,h.symm⟩
   ·exact .inr ⟨a,by simp [ha],h⟩
  ·rintro (h | ⟨a,ha,h⟩)
   ·exact .inl (.inl h)
   ·rcases List.mem_cons.1 ha with rfl | ha
    ·exact .inl (.inr h.symm)
    ·exact .inr ⟨a,ha,h⟩
theorem pasL_opens {c:Cf} {ws:List Int} {s:St}:∀ {l:List Int} {p:Ps} {k:Int},k ∈ (pasL c ws s p l).opens → k ∈ p.opens ∨ ∃ a ∈ l,keyOf_ s a = k
 | [],p,k,h => .inl h
 | i :: l,p,k,h => by
  rw [pasL_cons] at h
  rcases pasL_opens h with h | ⟨a,ha,h⟩
  ·simp only [passV] at h
   split at h
   ·exact .inl h
   ·rw [mem_addK] at h
    rcases h with h | h
    ·exact .inl h
    ·exact .inr ⟨i,by simp,h.symm⟩
  ·exact .inr ⟨a,by simp [ha],h⟩
theorem pasL_same {c:Cf} {ws ws':List Int} {s:St}:∀ {l:List Int} {p:Ps},(∀ x ∈ l,(2 ≤ wd c ws' (opAt s x) ↔ 2 ≤ wd c ws (opAt s x))) → pasL c ws' s p l = pasL c ws s p l
 | [],p,_ => rfl
 | i :: l,p,h => by
  rw [pasL_cons,pasL_cons]
  have e:passV p (ndOf c ws' s i) = passV p (ndOf c ws s i):=by
   unfold passV
   have e4:(ndOf c ws s i).word = wd c ws (opAt s i):=rfl
   have e4':(ndOf c ws' s i).word = wd c ws' (opAt s i):=rfl
   have hi:=h i (by simp)
   rw [e4,e4']
   by_cases k:2 ≤ wd c ws (opAt s i)
   ·rw [if_pos k,if_pos (hi.2 k)];rfl
   ·rw [if_neg k,if_neg (fun x => k (hi.1 x))];rfl
  rw [e]
  exact pasL_same (fun x hx => h x (by simp [hx]))
theorem Eff.snd {c:Cf} {s:St} {key mode seen:Int} {ws ws':List Int} {pre rest pre' rest':List Int} (h:Eff c s key mode seen ws ws' pre rest pre' rest') (nd:(pre ++ rest).Nodup) (hs:sndL c ws s 0 ps0 (pre ++ rest) = true):sndL c ws' s 0 ps0 (pre' ++ rest') = true:=by
 cases h with
 | same h hp hr => subst h hp hr;exact hs
 | adv C r h hr hp hr' _ _ => subst h hr hp hr';simpa using hs
 | unl C r hr hp hr' hm hw hn =>
  subst hr hp hr'
  rw [sndL_app,sndL_cons] at hs
  obtain ⟨h1,h2,h3⟩:=hs
  have eP:pasL c ws' s ps0 pre' = pasL c ws s ps0 pre':=pasL_same (fun x _ => by rw [hw])
  rw [sndL_app,eP]
  refine ⟨sndL_rel (Rel.refl _ _ _) (fun x _ => .inr (.inr ⟨hw _,hn _⟩)) (fun x _ k => by rw [hw] at k;exact k) h1,?_⟩
  refine sndL_rel ⟨?_,?_,?_,?_⟩ (fun x _ => .inr (.inr ⟨hw _,hn _⟩)) (fun x _ k => by rw [hw] at k;exact k) h3
  ·intro x hx;simp only [passV,mem_addK];exact .inl hx
  ·rw [fit_iff] at h2;exact h2.2.2.2.1
  ·intro o ho
   simp only [passV,mem_addK] at ho
   rcases ho with ho | ho
   ·exact .inl ho
   ·have e3:(ndOf c ws s C).op = opAt s C:=rfl
    rw [e3] at ho
    subst ho
    rw [fit_iff] at h2
    rcases h2.2.2.2.2 with k | k | ⟨k,-⟩
    ·exact .inl k
    ·exact .inr (by rw [hw];exact k)
    ·exact absurd hm k
  ·intro k hk
   simp only [passV]
   split
   ·exact hk
   ·rw [mem_addK];exact .inl hk
 | mrk C r hr hp hr' ho hw hn =>
  subst hr hp hr'
  rw [sndL_app,sndL_cons] at hs
  obtain ⟨h1,h2,h3⟩:=hs
  have eP:pasL c ws' s ps0 pre' = pasL c ws s ps0 pre':=pasL_same (fun x _ => by rw [hw])
  rw [List.nodup_append] at nd
  have nC:∀ x ∈ pre',x ≠ C:=fun x hx e => nd.2.2 x hx C (by simp) e
  have nR:∀ x ∈ r,x ≠ C:=fun x hx e => (List.nodup_cons.1 nd.2.1).1 (e ▸ hx)
  rw [sndL_app,eP,sndL_cons]
  refine ⟨sndL_rel (Rel.refl _ _ _) (fun x hx => .inr (.inr ⟨hw _,hn _ (nC x hx)⟩)) (fun x _ k => by rw [hw] at k;exact k) h1,?_,?_⟩
  ·rw [fit_iff] at h2 ⊢
   obtain ⟨f1,f2,f3,f4,-⟩:=h2
   refine ⟨f1,f2,f3,f4,?_⟩
   rcases ho with ho | ⟨a,ha,e⟩
   ·exact .inr (.inl (by rw [hw];exact ho))
   ·exact .inl (pasL_ops.2 (.inr ⟨a,ha,e.symm⟩))
  ·exact sndL_rel ((Rel.refl _ _ _).pass C (fun k => by rw [hw] at k;exact k)) (fun x hx => .inr (.inr ⟨hw _,hn _ (nR x hx)⟩)) (fun x _ k => by rw [hw] at k;exact k) h3
 | let_ C r hr hp hr' h1' hk h0 hm hf hn hw =>
  subst hr hp hr'
  rw [sndL_app,sndL_cons] at hs
  obtain ⟨h1,h2,h3⟩:=hs
  have nO:∀ x ∈ pre',opAt s x ≠ opAt s C:=by
   intro x hx e
   refine hf x hx ?_
   rw [key_op,e,← key_op];exact hk
  have sW:∀ x ∈ pre',wd c ws' (opAt s x) = wd c ws (opAt s x):=fun x hx => by rw [hw,if_neg (nO x hx)]
  have eP:pasL c ws' s ps0 pre' = pasL c ws s ps0 pre':=pasL_same (fun x hx => by rw [sW x hx])
  have wC:wd c ws' (opAt s C) = 1:=by rw [hw,if_pos rfl]
  rw [sndL_app,eP,sndL_cons]
  refine ⟨sndL_rel (Rel.refl _ _ _) (fun x hx => .inr (.inr ⟨sW x hx,by rw [hn]⟩)) (fun x hx k => by rw [sW x hx] at k;exact k) h1,?_,?_⟩
  ·rw [fit_iff] at h2 ⊢
   obtain ⟨f1,f2,f3,f4,-⟩:=h2
   refine ⟨f1,f2,f3,f4,.inr (.inr ⟨by rw [hn];omega,?_⟩)⟩
   rintro ⟨-,ho⟩
   rcases pasL_opens ho with ho | ⟨a,ha,e⟩
   ·simp [ps0] at ho
   ·exact hf a ha (e.trans hk)
  ·refine sndL_rel ((Rel.refl _ _ _).pass C (fun _ => by rw [h0];omega)) (fun x hx => ?_) (fun x hx k => ?_) h3
   ·by_cases e:opAt s x = opAt s C
    ·refine .inr (.inl ?_)
     simp only [passV,mem_addK]
     exact .inr e
    ·exact .inr (.inr ⟨by rw [hw,if_neg e],by rw [hn]⟩)
   ·by_cases e:opAt s x = opAt s C
    ·rw [e,h0];omega
    ·rw [hw,if_neg e] at k;exact k
 | ref C r hr hp hr' h1' hk h0 hn hw =>
  subst hp hr'
  refine sndL_rel (Rel.refl _ _ _) (fun x hx => ?_) (fun x hx k => ?_) hs
  ·by_cases e:opAt s x = opAt s C
   ·exact .inl (by rw [hw,if_pos e];omega)
   ·exact .inr (.inr ⟨by rw [hw,if_neg e],by rw [hn]⟩)
  ·by_cases e:opAt s x = opAt s C
   ·rw [hw,if_pos e] at k;omega
   ·rw [hw,if_neg e] at k;exact k
theorem Eff.sub {c:Cf} {s:St} {key mode seen:Int} {ws ws':List Int} {pre rest pre' rest':List Int} (h:Eff c s key mode seen ws ws' pre rest pre' rest'):(pre' ++ rest').Sublist (pre ++ rest):=by
 cases h with
 | same h hp hr => subst hp hr;exact List.Sublist.refl _
 | adv C r h hr hp hr' _ _ => subst hr hp hr';simp
 | unl C r hr hp hr' hm hw hn => subst hr hp hr';exact List.Sublist.append_left (List.sublist_cons_self _ _) _
 | mrk C r hr hp hr' ho hw hn => subst hp hr';exact List.Sublist.refl _
 | let_ C r hr hp hr' h1' hk h0 hm hf hn hw => subst hp hr';exact List.Sublist.refl _
 | ref C r hr hp hr' h1' hk h0 hn hw => subst hp hr';exact List.Sublist.refl _
theorem stepP_eq {c:Cf} {ws ws':List Int} {s:St} (h:∀ o,wd c ws' o = wd c ws o):stepP c ws' s = stepP c ws s:=by
 funext acc i
 unfold stepP
 have e:wrdOf c ws' (opAt s i) = wrdOf c ws (opAt s i):=h _
 rw [e]
theorem fold_mem {c:Cf} {ws:List Int} {s:St}:∀ {l:List Int} {acc:List Int × List (Int × Int)} {o:Int},o ∈ acc.1 ∨ (∃ a ∈ l,opAt s a = o ∧ (calAt s o).kind = 1 ∧ wd c ws o = 1) → o ∈ (foldN c ws s l acc).1
 | [],acc,o,h => by rcases h with h | ⟨a,ha,-⟩;exact h;cases ha
 | i :: l,acc,o,h => by
  show o ∈ (foldN c ws s l (stepP c ws s acc i)).1
  refine fold_mem ?_
  unfold stepP
  rcases h with h | ⟨a,ha,h1,h2,h3⟩
  ·left
   split
   ·rw [mem_addK];exact .inl h
   ·exact h
  ·rcases List.mem_cons.1 ha with rfl | ha
   ·left
    split
    ·rw [mem_addK];exact .inr h1.symm
    ·rename_i hn
     subst h1
     by_cases hm:opAt s a ∈ acc.1
     ·exact hm
     ·exact absurd ⟨⟨h2,h3⟩,hm⟩ hn
   ·exact .inr ⟨a,ha,h1,h2,h3⟩
structure But1 (s:St) (k:Int) (a b:List Int × List (Int × Int)):Prop where
 ops:∀ o,(calAt s o).key ≠ k → (o ∈ a.1 ↔ o ∈ b.1)
 prs:a.2.filter (fun p => decide (p.1 ≠ k)) = b.2.filter (fun p => decide (p.1 ≠ k))
theorem But1.fold {c:Cf} {ws ws':List Int} {s:St} {k:Int} (hw:∀ o,(calAt s o).key ≠ k → wd c ws' o = wd c ws o):∀ {l:List Int} {a b:List Int × List (Int × Int)},But1 s k a b → But1 s k (foldN c ws' s l a) (foldN c ws s l b)
 | [],a,b,h => h
 | i :: l,a,b,h => by
  show But1 s k (foldN c ws' s l (stepP c ws' s a i)) (foldN c ws s l (stepP c ws s b i))
  refine But1.fold hw ?_
  have key:∀ (w:List Int) (x:List Int × List (Int × Int)),(calAt s (opAt s i)).key = k → But1 s k (stepP c w s x i) x:=by
   intro w x hk
   unfold stepP
   split
   ·refine ⟨fun o ho => ?_,?_⟩
    ·rw [mem_addK]
     constructor
     ·rintro (h | h)
      ·exact h
      ·subst h;exact absurd hk ho
     ·exact .inl
    ·simp [List.filter_append,hk]
   ·exact ⟨fun _ _ => Iff.rfl,rfl⟩
  by_cases hk:(calAt s (opAt s i)).key = k
  ·have h1:=key ws' a hk
   have h2:=key ws b hk
   exact ⟨fun o ho => (h1.ops o ho).trans ((h.ops o ho).trans (h2.ops o ho).symm),h1.prs.trans (h.prs.trans h2.prs.symm)⟩
  ·have e:wrdOf c ws' (opAt s i) = wrdOf c ws (opAt s i):=hw _ hk
   have e2:=h.ops _ hk
   unfold stepP
   rw [e]
   by_cases q:((calAt s (opAt s i)).kind = 1 ∧ wrdOf c ws (opAt s i) = 1) ∧ opAt s i ∉ a.1
   ·rw [if_pos q,if_pos ⟨q.1,fun x => q.2 (e2.2 x)⟩]
    refine ⟨fun o ho => ?_,?_⟩
    ·rw [mem_addK,mem_addK,h.ops o ho]
    ·simp only [List.filter_append,h.prs]
   ·rw [if_neg q,if_neg (fun x => q ⟨x.1,fun y => x.2 (e2.1 y)⟩)]
    exact h
theorem Eff.prs {c:Cf} {s:St} {key mode seen:Int} {ws ws':List Int} {pre rest pre' rest':List Int} (h:Eff c s key mode seen ws ws' pre rest pre' rest') (hs:sndL c ws s 0 ps0 (pre ++ rest) = true) :
  (foldN c ws' s (pre' ++ rest') ([],[])).2.filter (fun p => decide (p.1 ≠ key)) = (foldN c ws s (pre ++ rest) ([],[])).2.filter (fun p => decide (p.1 ≠ key)) ∧ (mode ≠ 1 → foldN c ws' s (pre' ++ rest') ([],[]) = foldN c ws s (pre ++ rest) ([],[])):=by
 have key_:∀ C:Int,∀ v:Int,keyOf_ s C = key → (∀ o,wd c ws' o = if o = opAt s C then v else wd c ws o) → ∀ o,(calAt s o).key ≠ key → wd c ws' o = wd c ws o:=by
  intro C v hk hw o ho
  rw [hw,if_neg]
  rintro rfl
  exact ho hk
 cases h with
 | same h hp hr => subst h hp hr;exact ⟨rfl,fun _ => rfl⟩
 | adv C r h hr hp hr' _ _ => subst h hr hp hr';simp
 | unl C r hr hp hr' hm hw hn =>
  subst hr hp hr'
  have e:foldN c ws' s (pre' ++ rest') ([],[]) = foldN c ws s (pre' ++ C :: rest') ([],[]):=by
   unfold foldN
   rw [stepP_eq hw,List.foldl_append,List.foldl_append,List.foldl_cons]
   congr 1
   rw [sndL_app,sndL_cons] at hs
   have h2:=hs.2.1
   rw [fit_iff] at h2
   obtain ⟨f1,-,-,-,f5⟩:=h2
   symm
   show stepP c ws s (foldN c ws s pre' ([],[])) C = foldN c ws s pre' ([],[])
   unfold stepP
   rw [if_neg]
   rintro ⟨⟨g1,g2⟩,g3⟩
   have g2':wd c ws (opAt s C) = 1:=g2
   rcases f5 with f | f | ⟨f,-⟩
   ·rw [pasL_ops] at f
    rcases f with f | ⟨a,ha,e⟩
    ·simp [ps0] at f
    ·exact g3 (fold_mem (.inr ⟨a,ha,e,g1,g2'⟩))
   ·omega
   ·exact f hm
  rw [e]
  exact ⟨rfl,fun _ => rfl⟩
 | mrk C r hr hp hr' ho hw hn =>
  subst hp hr'
  have e:foldN c ws' s (pre' ++ rest') ([],[]) = foldN c ws s (pre' ++ rest') ([],[]):=by unfold foldN;rw [stepP_eq hw]
  rw [e]
  exact ⟨rfl,fun _ => rfl⟩
 | let_ C r hr hp hr' h1' hk h0 hm hf hn hw =>
  subst hp hr'
  exact ⟨(But1.fold (key_ C 1 hk hw) ⟨fun _ _ => Iff.rfl,rfl⟩).prs,fun h => absurd h1' h⟩
 | ref C r hr hp hr' h1' hk h0 hn hw =>
  subst hp hr'
  exact ⟨(But1.fold (key_ C 2 hk hw) ⟨fun _ _ => Iff.rfl,rfl⟩).prs,fun h => absurd h1' h⟩
end Go.Proofs.YtmokcgifknmchaaGreat
namespace Go.Proofs.YtmokcgifknmchaaGreat
set_option maxRecDepth 100000
set_option linter.unusedVariables false
theorem pasL_opens_in {c:Cf} {ws:List Int} {s:St}:∀ {l:List Int} {p:Ps} {k:Int},k ∈ p.opens ∨ (∃ a ∈ l,keyOf_ s a = k ∧ wd c ws (opAt s a) < 2) → k ∈ (pasL c ws s p l).opens
 | [],p,k,h => by rcases h with h | ⟨a,ha,-⟩;exact h;cases ha
 | i :: l,p,k,h => by
  rw [pasL_cons]
  refine pasL_opens_in ?_
  have e4:(ndOf c ws s i).word = wd c ws (opAt s i):=rfl
  rcases h with h | ⟨a,ha,h1,h2⟩
  ·left
   simp only [passV]
   split
   ·exact h
   ·rw [mem_addK];exact .inl h
  ·rcases List.mem_cons.1 ha with rfl | ha
   ·left
    simp only [passV,e4]
    rw [if_neg (by omega),mem_addK]
    exact .inr h1.symm
   ·exact .inr ⟨a,ha,h1,h2⟩
theorem one_mem {α:Type} {l:List α} (h:l.length ≤ 1) {a b:α} (ha:a ∈ l) (hb:b ∈ l):a = b:=by
 match l,h with
 | [],_ => cases ha
 | [x],_ => simp only [List.mem_singleton] at ha hb;rw [ha,hb]
structure WS (c:Cf) (s:St) (key mode:Int) (y:Kd) (pre rest:List Int):Prop where
 wi:WI c s key mode y pre rest
 sd:sndL c y.ws s 0 ps0 (pre ++ rest) = true
 uq:mode = 1 → (pre.filter fun a => decide (keyOf_ s a = key)).length ≤ 1
theorem WS.step {c:Cf} {s:St} {key mode:Int} {y:Kd} {pre rest:List Int} (h:WS c s key mode y pre rest) (hd:y.x.done = false):∃ pre' rest',WS c s key mode (stepK c s y) pre' rest' ∧ Eff c s key mode y.x.seen y.ws (stepK c s y).ws pre rest pre' rest':=by
 obtain ⟨pre',rest',h1,-,-,h4⟩:=h.wi.step hd
 refine ⟨pre',rest',⟨h1,h4.snd (List.nodup_cons.1 h.wi.nd).2 h.sd,fun hm => ?_⟩,h4⟩
 have hu:=h.uq hm
 cases h4 with
 | same _ hp _ => subst hp;exact hu
 | unl _ _ _ hp => subst hp;exact hu
 | mrk _ _ _ hp => subst hp;exact hu
 | let_ _ _ _ hp => subst hp;exact hu
 | ref _ _ _ hp => subst hp;exact hu
 | adv C r _ hr hp _ hs _ =>
  subst hr hp
  rw [List.filter_append]
  by_cases hk:keyOf_ s C = key
  ·obtain ⟨w1,w2⟩:=hs hm hk
   have hsd:=h.sd
   rw [sndL_app,sndL_cons,fit_iff] at hsd
   obtain ⟨-,⟨-,-,-,-,f5⟩,-⟩:=hsd
   have none_:∀ a ∈ pre,keyOf_ s a ≠ key:=by
    intro a ha hka
    have wa:=h.wi.pk hm a ha hka
    have hsn:y.x.seen ≠ -1:=fun e => h.wi.sn hm e a ha hka
    obtain ⟨-,a',ha',e',k'⟩:=h.wi.sa hsn
    rcases f5 with f | f | ⟨-,f⟩
    ·rw [pasL_ops] at f
     rcases f with f | ⟨b,hb,eb⟩
     ·simp [ps0] at f
     ·have kb:keyOf_ s b = key:=by rw [key_op,eb,← key_op];exact hk
      have:a' = b:=one_mem hu (List.mem_filter.2 ⟨ha',by simpa using k'⟩) (List.mem_filter.2 ⟨hb,by simpa using kb⟩)
      exact w2 (by rw [e',this,eb])
    ·omega
    ·exact f ⟨w1,pasL_opens_in (.inr ⟨a,ha,hka.trans hk.symm,by rw [wa];omega⟩)⟩
   have e0:(pre.filter fun a => decide (keyOf_ s a = key)) = []:=List.filter_eq_nil_iff.2 (fun a ha => by simpa using none_ a ha)
   rw [e0]
   simp only [List.nil_append,List.filter_cons,List.filter_nil]
   split <;> simp
  ·simp only [List.filter_cons,List.filter_nil,hk,decide_false,Bool.false_eq_true,if_false,List.append_nil]
   exact hu
theorem WS.run {c:Cf} {s:St} {key mode:Int} {y:Kd} {pre rest:List Int} (h:WS c s key mode y pre rest):∀ k,∃ pre' rest',WS c s key mode (runK c s y k) pre' rest' ∧ (pre' ++ rest').Sublist (pre ++ rest) ∧
  (foldN c (runK c s y k).ws s (pre' ++ rest') ([],[])).2.filter (fun p => decide (p.1 ≠ key)) = (foldN c y.ws s (pre ++ rest) ([],[])).2.filter (fun p => decide (p.1 ≠ key)) ∧ (mode ≠ 1 → foldN c (runK c s y k).ws s (pre' ++ rest') ([],[]) = foldN c y.ws s (pre ++ rest) ([],[]))
 | 0 => ⟨pre,rest,h,List.Sublist.refl _,rfl,fun _ => rfl⟩
 | k + 1 => by
  obtain ⟨p,r,h1,h2,h3,h4⟩:=h.run k
  by_cases hd:(runK c s y k).x.done = true
  ·have e:runK c s y (k + 1) = runK c s y k:=st_d hd
   rw [e]
   exact ⟨p,r,h1,h2,h3,h4⟩
  ·obtain ⟨p',r',h5,h6⟩:=h1.step (by simpa using hd)
   obtain ⟨q1,q2⟩:=h6.prs h1.sd
   exact ⟨p',r',h5,h6.sub.trans h2,q1.trans h3,fun hm => (q2 hm).trans (h4 hm)⟩
theorem WI.chain {c:Cf} {s:St} {key mode:Int} {y:Kd} {pre rest:List Int} (h:WI c s key mode y pre rest):chainI c y.ws 0 = pre ++ rest:=by
 have hh:vHead c.t c.b c.i c.f c.k 0 = 1:=by unfold vHead;rw [if_pos ⟨h.lay.ok.z,by omega,by have:=h.b1;omega⟩];rfl
 unfold chainI firstOf
 rw [hh]
 refine h.lk.chain _ ?_
 have:=nodup_le (pre ++ rest) ((List.range c.nodes).map fun (j:Nat) => (j:Int)) (List.nodup_cons.1 h.nd).2 (fun a ha => by
  have hsc:=h.st a ha
  have s1:=hsc.a2
  have s2:=hsc.an
  rw [List.mem_map]
  exact ⟨a.toNat,by rw [List.mem_range];omega,by omega⟩)
 simpa using this
theorem insI_up (x:It):∀ {l:List It},l.Pairwise (fun a b => a.key ≤ b.key) → (insI l x).Pairwise (fun a b => a.key ≤ b.key)
 | [],_ => by simp [insI]
 | y :: r,h => by
  rw [List.pairwise_cons] at h
  unfold insI
  split
  ·rename_i hk
   rw [List.pairwise_cons]
   refine ⟨fun z hz => ?_,insI_up x h.2⟩
   rcases insI_mem x r z hz with rfl | hz
   ·exact hk
   ·exact h.1 z hz
  ·rename_i hk
   rw [List.pairwise_cons]
   refine ⟨fun z hz => ?_,by rw [List.pairwise_cons];exact h⟩
   rcases List.mem_cons.1 hz with rfl | hz
   ·omega
   ·have:=h.1 z hz;omega
theorem foldI_up:∀ (xs l:List It),l.Pairwise (fun a b => a.key ≤ b.key) → (xs.foldl insI l).Pairwise (fun a b => a.key ≤ b.key)
 | [],l,h => h
 | x :: r,l,h => foldI_up r _ (insI_up x h)
theorem sortedI_up (xs:List It):∀ (i j:Nat) (x y:It),i < j → (sortedI xs)[i]? = some x → (sortedI xs)[j]? = some y → x.key ≤ y.key:=by
 intro i j x y hij hx hy
 unfold sortedI at hx hy
 rw [fixTo_get] at hx hy
 cases h1:(foldI xs)[i]? with
 | none => rw [h1] at hx;cases hx
 | some a =>
  cases h2:(foldI xs)[j]? with
  | none => rw [h2] at hy;cases hy
  | some b =>
   rw [h1] at hx;rw [h2] at hy
   simp only [Option.map_some,Option.some.injEq] at hx hy
   have hk:∀ (q:Nat) (z w:It),(if q < xs.length then keptI (foldI xs) q z else z) = w → w.key = z.key:=by
    intro q z w e;rw [← e];split
    ·exact keptI_key _ _ _
    ·rfl
   rw [hk i a x hx,hk j b y hy]
   obtain ⟨p1,e1⟩:=List.getElem?_eq_some_iff.1 h1
   obtain ⟨p2,e2⟩:=List.getElem?_eq_some_iff.1 h2
   have:=List.pairwise_iff_getElem.1 (foldI_up xs [] .nil) i j p1 p2 hij
   have e1':(foldI xs)[i] = a:=e1
   have e2':(foldI xs)[j] = b:=e2
   unfold foldI at e1' e2'
   rw [e1',e2'] at this
   exact this
theorem Scn.up {c:Cf} {s:St} {ws:List Int} {xs:List It} (h:Scn c s ws (sortedI xs)):(ids (sortedI xs).length).Pairwise fun a b => keyOf_ s a ≤ keyOf_ s b:=by
 have kk:∀ (j:Nat) (y:It),(sortedI xs)[j]? = some y → keyOf_ s ((j:Int) + 2) = y.key:=by
  intro j y hy
  obtain ⟨x,x1,-,x3⟩:=h.kk j y hy
  rw [key_op]
  unfold calAt
  rw [x1]
  exact x3
 rw [List.pairwise_iff_getElem]
 intro i j hi hj hij
 simp only [ids,List.length_map,List.length_range] at hi hj
 simp only [ids,List.getElem_map,List.getElem_range]
 have h1:(sortedI xs)[i]? = some (sortedI xs)[i]:=List.getElem?_eq_getElem hi
 have h2:(sortedI xs)[j]? = some (sortedI xs)[j]:=List.getElem?_eq_getElem hj
 rw [kk i _ h1,kk j _ h2]
 exact sortedI_up xs i j _ _ hij h1 h2
end Go.Proofs.YtmokcgifknmchaaGreat
namespace Go.Proofs.YtmokcgifknmchaaGreat
set_option maxRecDepth 100000
set_option linter.unusedVariables false
theorem told_mem (c:Cf) (ws:List Int) (s:St):∀ (l:List Int) (acc:List Int × List (Int × Int)),acc.1.Nodup →
  (foldN c ws s l acc).1.Nodup ∧ (∀ o,o ∈ (foldN c ws s l acc).1 ↔ o ∈ acc.1 ∨ ((∃ i ∈ l,opAt s i = o) ∧ (calAt s o).kind = 1 ∧ wrdOf c ws o = 1)) ∧ (foldN c ws s l acc).1.length + acc.2.length = (foldN c ws s l acc).2.length + acc.1.length
 | [],acc,h => ⟨h,fun o => by simp [foldN],by simp only [foldN,List.foldl_nil];omega⟩
 | x :: r,acc,h => by
  have e:foldN c ws s (x :: r) acc = foldN c ws s r (stepP c ws s acc x):=rfl
  rw [e]
  by_cases hc:((calAt s (opAt s x)).kind = 1 ∧ wrdOf c ws (opAt s x) = 1) ∧ opAt s x ∉ acc.1
  ·have hs:stepP c ws s acc x = (acc.1 ++ [opAt s x],acc.2 ++ [((calAt s (opAt s x)).key,(calAt s (opAt s x)).val)]):=by
    unfold stepP addK
    rw [if_pos hc,if_neg hc.2]
   rw [hs]
   have hn:(acc.1 ++ [opAt s x]).Nodup:=by
    rw [List.nodup_append]
    exact ⟨h,by simp,fun a ha b hb => by rw [List.mem_singleton] at hb;subst hb;exact fun e => hc.2 (e ▸ ha)⟩
   obtain ⟨h1,h2,h3⟩:=told_mem c ws s r (acc.1 ++ [opAt s x],acc.2 ++ [((calAt s (opAt s x)).key,(calAt s (opAt s x)).val)]) hn
   refine ⟨h1,fun o => ?_,?_⟩
   ·rw [h2 o]
    simp only [List.mem_append,List.mem_cons,List.not_mem_nil,or_false]
    constructor
    ·rintro ((h | h) | ⟨⟨i,hi,ho⟩,hk⟩)
     ·exact .inl h
     ·subst h;exact .inr ⟨⟨x,.inl rfl,rfl⟩,hc.1⟩
     ·exact .inr ⟨⟨i,.inr hi,ho⟩,hk⟩
    ·rintro (h | ⟨⟨i,hi | hi,ho⟩,hk⟩)
     ·exact .inl (.inl h)
     ·subst hi;exact .inl (.inr ho.symm)
     ·exact .inr ⟨⟨i,hi,ho⟩,hk⟩
   ·simp only [List.length_append,List.length_singleton] at h3
    omega
  ·have hs:stepP c ws s acc x = acc:=by unfold stepP;rw [if_neg hc]
   rw [hs]
   obtain ⟨h1,h2,h3⟩:=told_mem c ws s r acc h
   refine ⟨h1,fun o => ?_,h3⟩
   rw [h2 o]
   simp only [List.mem_cons]
   constructor
   ·rintro (h | ⟨⟨i,hi,ho⟩,hk⟩)
    ·exact .inl h
    ·exact .inr ⟨⟨i,.inr hi,ho⟩,hk⟩
   ·rintro (h | ⟨⟨i,hi | hi,ho⟩,hk⟩)
    ·exact .inl h
    ·subst hi;subst ho
     by_cases hm:opAt s i ∈ acc.1
     ·exact .inl hm
     ·exact absurd ⟨hk,hm⟩ hc
    ·exact .inr ⟨⟨i,hi,ho⟩,hk⟩
theorem one_more {a b:List Int} {x:Int} (ha:a.Nodup) (hb:b.Nodup) (hx:x ∉ b) (h:∀ y,y ∈ a ↔ y ∈ b ∨ y = x):a.length = b.length + 1:=by
 have hn:(x :: b).Nodup:=List.nodup_cons.2 ⟨hx,hb⟩
 have:=((List.perm_ext_iff_of_nodup ha hn).2 (fun y => by rw [h y,List.mem_cons];exact ⟨Or.symm,Or.symm⟩)).length_eq
 simpa using this
theorem turn_more {c:Cf} (hb:c.b = 1) {ws1 ws5:List Int} {s:St} {op:Int} (hch:chainI c ws1 0 = chainI c ws5 0) (hin:∃ i ∈ chainI c ws5 0,opAt s i = op) (hk:(calAt s op).kind = 1) (h1:wrdOf c ws1 op = 1) (h5:wrdOf c ws5 op ≠ 1)
  (ho:∀ i ∈ chainI c ws5 0,opAt s i ≠ op → wrdOf c ws1 (opAt s i) = wrdOf c ws5 (opAt s i)):(rawP c ws1 s).length = (rawP c ws5 s).length + 1:=by
 have e:∀ ws:List Int,nodesTo c ws c.b = chainI c ws 0:=fun ws => by rw [hb];simp [nodesTo]
 obtain ⟨n1,m1,l1⟩:=told_mem c ws1 s (chainI c ws1 0) ([],[]) (by simp)
 obtain ⟨n5,m5,l5⟩:=told_mem c ws5 s (chainI c ws5 0) ([],[]) (by simp)
 unfold rawP
 rw [e,e]
 simp only [List.length_nil,Nat.add_zero] at l1 l5
 rw [← l1,← l5]
 refine one_more (x:=op) n1 n5 (fun h => ?_) (fun y => ?_)
 ·have:=(m5 op).1 h
  simp only [List.not_mem_nil,false_or] at this
  exact h5 this.2.2
 ·rw [m1 y,m5 y,hch]
  simp only [List.not_mem_nil,false_or]
  constructor
  ·rintro ⟨⟨i,hi,rfl⟩,k,w⟩
   by_cases hy:opAt s i = op
   ·exact .inr hy
   ·exact .inl ⟨⟨i,hi,rfl⟩,k,by rw [← ho i hi hy];exact w⟩
  ·rintro (⟨⟨i,hi,rfl⟩,k,w⟩ | rfl)
   ·by_cases hy:opAt s i = op
    ·exact absurd (hy ▸ w) h5
    ·exact ⟨⟨i,hi,rfl⟩,k,by rw [ho i hi hy];exact w⟩
   ·exact ⟨hin,hk,h1⟩
end Go.Proofs.YtmokcgifknmchaaGreat
namespace Go.Proofs.YtmokcgifknmchaaGreat
set_option maxRecDepth 100000
set_option linter.unusedVariables false
theorem lyB_ops {c:Cf} {ys:List It} {L:Ly} {k m:Nat} (h:LI c ys L k m) (hb1:c.b = 1) (hk:k < 2 * c.k) (x:It) (ho:OpOk c L x.key) (hz:∀ z ∈ L.s.ops,(∃ a ∈ ids k,opAt L.s a = (z.1:Int)) ∨ (z.1:Int) = L.op):∀ z ∈ (lyB c L x).s.ops,∃ a ∈ ids (k + 1),opAt (lyB c L x).s a = (z.1:Int):=by
 have ok:=h.lay.ok
 have t1:=ok.t1
 obtain ⟨o0,o1,q,hq,q1,q2⟩:=ho
 have hmk:=make_ok (c:=c) (s:=L.s) (op:=L.op) (by omega) (by rw [h.made];exact hk) (by rw [hq];rfl)
 rw [h.made,hb1] at hmk
 have e2:((1 + 1 + k:Nat):Int) = (k:Int) + 2:=by omega
 have hs:(lyB c L x).s = { L.s with made:=bump L.s.made 0,nodes:=L.s.nodes ++ [(1 + 1 + k,L.op.toNat)] }:=by simp only [lyB];rw [hmk]
 have hnew:look L.s.nodes (1 + 1 + k) = none:=by
  refine look_none fun w hw => ?_
  obtain ⟨a,m',h1,h2,h3⟩:=h.inv.k2 w hw
  intro e
  have hm:=h.made
  cases a with
  | zero => rw [Nat.zero_mul] at h3;omega
  | succ a => rw [Nat.add_mul] at h3;omega
 have hnat:opAt (lyB c L x).s ((k:Int) + 2) = L.op:=by
  unfold opAt
  rw [hs,← e2,lookI_nat]
  show carriedOf (look (L.s.nodes ++ [(1 + 1 + k,L.op.toNat)]) (1 + 1 + k)) = _
  rw [look_new hnew]
  show ((L.op.toNat:Nat):Int) = L.op
  omega
 have hold:∀ a ∈ ids k,opAt (lyB c L x).s a = opAt L.s a:=by
  intro a ha
  have h1:=(h.sc a ha).o0
  unfold opAt at h1 ⊢
  cases hl:lookI L.s.nodes a with
  | none => rw [hl] at h1;simp [carriedOf] at h1
  | some o => rw [hs];rw [lookI_app _ hl]
 intro z hzz
 rw [hs] at hzz
 rcases hz z hzz with ⟨a,ha,he⟩ | he
 ·exact ⟨a,by rw [ids_succ];exact List.mem_append_left _ ha,by rw [hold a ha];exact he⟩
 ·exact ⟨(k:Int) + 2,by rw [ids_succ];simp,by rw [hnat];exact he.symm⟩
theorem layL_ops {c:Cf} (ok:c.Ok) (hb1:c.b = 1) {ys:List It} (hy:ItsOk ys) (h1:ys.length ≤ c.k) (h2:ys.length ≤ c.i):∀ k,k ≤ ys.length → ∀ z ∈ (layL c (ys.take k)).s.ops,∃ a ∈ ids k,opAt (layL c (ys.take k)).s a = (z.1:Int)
 | 0,_ => by intro z hz;simp [layL,ly0,St.new] at hz
 | k + 1,hk => by
  have ih:=layL_ops ok hb1 hy h1 h2 k (by omega)
  obtain ⟨h,ho⟩:=LI.all ok hb1 hy h1 h2 k (by omega)
  have hx:ys[k]? = some ys[k]:=List.getElem?_eq_getElem (by omega)
  generalize ys[k] = x at hx
  rw [layL_step hx]
  generalize layL c (ys.take k) = L at h ho ih
  unfold lyI
  by_cases ha:x.again = true
  ·rw [if_pos ha]
   obtain ⟨k0,y,hy1,hy2⟩:=hy.again k x hx ha
   obtain ⟨y',hy1',hO⟩:=ho k0
   rw [hy1] at hy1'
   cases hy1'
   exact lyB_ops h hb1 (by omega) x (hy2 ▸ hO) (fun z hz => .inl (ih z hz))
  ·rw [if_neg ha]
   obtain ⟨a,b⟩:=h.begin_ (by omega) (by omega) x
   have t1:=ok.t1
   have hcl:=h.calls
   have hb:=begin_ok (c:=c) (s:=L.s) (x:=⟨1,x.key,x.val,0⟩) (by omega) rfl (by omega) (by have:=h.ins;omega)
   obtain ⟨n,hn⟩:∃ n,at_ L.s.calls 0 = n:=⟨_,rfl⟩
   rw [hn] at hb
   have hs:(lyA c L x).s = { L.s with calls:=bump L.s.calls 0,ins:=bump L.s.ins 0,ops:=L.s.ops ++ [(n,⟨1,x.key,x.val,0⟩)] }:=by simp only [lyA];rw [hb]
   have hop:(lyA c L x).op = (n:Int):=by simp only [lyA];rw [hb]
   have hat:∀ i,opAt (lyA c L x).s i = opAt L.s i:=fun i => by rw [hs];rfl
   refine lyB_ops a hb1 (by omega) x b (fun z hz => ?_)
   rw [hs] at hz
   rcases List.mem_append.1 hz with hz | hz
   ·obtain ⟨i,hi,he⟩:=ih z hz
    exact .inl ⟨i,hi,by rw [hat];exact he⟩
   ·rw [List.mem_singleton] at hz
    subst hz
    exact .inr hop.symm
theorem lyC_ops (c:Cf):∀ (xs:List Cal) (s:St) (z:Nat × Cal),z ∈ (lyC c s xs).ops → z ∈ s.ops ∨ 2 * c.k ≤ z.1
 | [],s,z,h => .inl h
 | x :: r,s,z,h => by
  have h':z ∈ (lyC c (beginI c s 2 x).1 r).ops:=h
  rcases lyC_ops c r _ z h' with h | h
  ·unfold beginI at h
   split at h
   ·exact .inl h
   ·unfold beginS at h
    split at h
    ·exact .inl h
    ·split at h
     ·exact .inl h
     ·rcases List.mem_append.1 h with h | h
      ·exact .inl h
      ·rw [List.mem_singleton] at h
       subst h
       right
       show 2 * c.k ≤ (2:Int).toNat * c.k + at_ s.calls (2:Int).toNat
       have:(2:Int).toNat = 2:=rfl
       rw [this]
       omega
  ·exact .inr h
theorem ops_in {c:Cf} (ok:c.Ok) (hb1:c.b = 1) {xs:List It} (h1:xs.length ≤ c.k) (h2:xs.length ≤ c.i) (cs:List Cal) (L:Ly) (hL:layL c (sortedI xs) = L) (s:St) (hs:lyC c L.s cs = s):∀ z ∈ s.ops,z.1 < 2 * c.k → ∃ a ∈ ids (sortedI xs).length,opAt s a = (z.1:Int):=by
 intro z hz hlt
 rw [← hs] at hz ⊢
 rcases lyC_ops c cs L.s z hz with h | h
 ·have:=layL_ops ok hb1 (sorted_ok xs) (by rw [sortedI_len];exact h1) (by rw [sortedI_len];exact h2) (sortedI xs).length (Nat.le_refl _)
  rw [List.take_length,hL] at this
  obtain ⟨a,ha,he⟩:=this z h
  exact ⟨a,ha,by rw [lyC_opAt];exact he⟩
 ·omega
end Go.Proofs.YtmokcgifknmchaaGreat
namespace Go.Proofs.YtmokcgifknmchaaGreat
set_option maxRecDepth 100000
set_option linter.unusedVariables false
theorem chainN_eq {c:Cf} {ws ws':List Int} (h:∀ a,nx c ws' a = nx c ws a):∀ (f:Nat) (v:Int),chainN c ws' f v = chainN c ws f v
 | 0,_ => rfl
 | f + 1,v => by
  unfold chainN
  split
  ·rfl
  ·have e:refOf c ws' (v / 2) = refOf c ws (v / 2):=h _
   rw [e,chainN_eq h f]
theorem chainI_eq {c:Cf} {ws ws':List Int} (h:∀ a,nx c ws' a = nx c ws a) (b:Int):chainI c ws' b = chainI c ws b:=by
 unfold chainI firstOf
 have e:refOf c ws' (vHead c.t c.b c.i c.f c.k b) = refOf c ws (vHead c.t c.b c.i c.f c.k b):=h _
 rw [e,chainN_eq h]
theorem turns {c:Cf} {s:St} {ws:List Int} {ys:List It} (h:Scn c s ws ys) (hI:Inv c s) (hw:∀ i:Int,0 ≤ rd ws i ∧ rd ws i ≤ 18446744073709551615) {z:Nat × Cal} {j:Nat} (hz:s.ops[j]? = some z) (hk:z.2.kind = 1) (hlt:z.1 < c.ops) (hc:∃ a ∈ ids ys.length,opAt s a = (z.1:Int)) {ws5 ws1:List Int}
  (e5:sw ws (wrdI c z.1) (rd ws (wrdI c z.1)) 5 = ws5) (e1:sw ws5 (wrdI c z.1) 5 1 = ws1):(rawP c ws1 s).length = (rawP c ws5 s).length + 1:=by
 have z0:(0:Int) ≤ (z.1:Int):=by omega
 have z1:(z.1:Int) < c.ops:=by omega
 have h5:Lay0 c ws5:=by rw [← e5];exact h.lay.sw _ _ _
 have n5:∀ a,nx c ws5 a = nx c ws a:=fun a => by rw [← e5];exact nx_sww h.lay z0 z1 _ _ _
 have n1:∀ a,nx c ws1 a = nx c ws5 a:=fun a => by rw [← e1];exact nx_sww h5 z0 z1 _ _ _
 have w5:∀ b,wd c ws5 b = if b = (z.1:Int) then 5 else wd c ws b:=fun b => by
  rw [← e5,wd_sw h.lay z0 z1]
  by_cases hb:b = (z.1:Int)
  ·rw [if_pos ⟨hb,rfl⟩,if_pos hb]
  ·rw [if_neg (fun q => hb q.1),if_neg hb]
 have w1:∀ b,wd c ws1 b = if b = (z.1:Int) then 1 else wd c ws b:=fun b => by
  rw [← e1,wd_sw h5 z0 z1]
  by_cases hb:b = (z.1:Int)
  ·rw [if_pos ⟨hb,by rw [w5,if_pos rfl]⟩,if_pos hb]
  ·rw [if_neg (fun q => hb q.1),if_neg hb,w5,if_neg hb]
 have hch:chainI c ws 0 = ids ys.length:=by
  have:=(h.walk hw 0 0 0).chain
  simpa using this
 have hc5:chainI c ws5 0 = ids ys.length:=(chainI_eq n5 0).trans hch
 refine turn_more h.b1 (op:=(z.1:Int)) (chainI_eq n1 0) (by rw [hc5];exact hc) ?_ ?_ ?_ ?_
 ·unfold calAt
  rw [lookI_nat,look_of_nodup hI.d1 hz]
  exact hk
 ·show wd c ws1 _ = 1
  rw [w1,if_pos rfl]
 ·show wd c ws5 _ ≠ 1
  rw [w5,if_pos rfl]
  decide
 ·intro i hi hne
  show wd c ws1 _ = wd c ws5 _
  rw [w1,w5,if_neg hne,if_neg hne]
theorem wr_wr {ws:List Int} {i v:Int} (h0:0 ≤ i) (u:Int) (h:rd ws i = v) (hl:i < ws.length):wr (wr ws i u) i v = ws:=by
 unfold wr rd at *
 rw [if_pos h0] at h
 rw [if_pos h0,if_pos h0,List.set_set]
 have hn:i.toNat < ws.length:=by omega
 have e:ws[i.toNat] = v:=by rw [← h];simp [List.getD,hn]
 rw [← e]
 exact List.set_getElem_self hn
theorem sw_sw {ws:List Int} {i v u:Int} (h0:0 ≤ i) (h:rd ws i = v) (hl:i < ws.length):sw (sw ws i v u) i u v = ws:=by
 have m1:may ws i v = true:=by unfold may;exact decide_eq_true ⟨h0,hl,h⟩
 have e1:sw ws i v u = wr ws i u:=by unfold sw;rw [if_pos m1]
 rw [e1]
 have hl2:i < (wr ws i u).length:=by rw [length_wr];exact hl
 have m2:may (wr ws i u) i u = true:=by
  unfold may
  refine decide_eq_true ⟨h0,hl2,?_⟩
  rw [rd_wr2,if_pos ⟨rfl,h0,hl⟩]
 unfold sw
 rw [if_pos m2]
 exact wr_wr h0 u h hl
end Go.Proofs.YtmokcgifknmchaaGreat
