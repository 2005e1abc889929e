/- A scene: its layout, and what is laid in it (corrieref09). -/
import Derived.Test.YtcogckjpmmjmbaaGreatQDMSorted
import Derived.Test.YtcogckjpmmjmbaaGreatQDGMRoute
namespace Go.Proofs.YtcogckjpmmjmbaaGreat
open Go.ChangeShapes Go.WideShapes Go.ChangeAt Go.RowKit
set_option maxRecDepth 100000
set_option linter.unusedVariables false
def c9 (f:Nat):Cf:=⟨3,1,16,f,16⟩
theorem c9_ok {f:Nat} (h:f ≤ 255):(c9 f).Ok:=by
 refine cf_ok (zOk_spec.2 ?_)
 simp only [c9]
 refine ⟨by omega,by omega,by unfold Pow2;decide,by omega,by omega,by omega,by omega,by omega,by omega⟩
theorem Conf9_at (w:World) (f:Nat) (hf:f ≤ 255) (vi vc:Value):Calls Tryz.prog 55 #[.agg #[.int .u8 (f:Int),vi,vc]] w fun e w' => e = .returned (c9 f).v ∧ Grown w w':=by
 have hw:IntKind.i64.wrap (f:Int) = (f:Int):=by unfold IntKind.wrap;simp [IntKind.bits];omega
 go_enter Tryz.func55,Tryz.ntmps55
 have e0:=(Box.made w [.int .u8 (f:Int),vi,vc] 25).cell 0 _ rfl
 go_wp2_with fail
 exact bodyPost_ret (v:=(c9 f).v) (by simp [results,Tryz.results55,go_sem,Cf.v,c9]) rfl ⟨rfl,by go_grown⟩
def Cal.l (x:Cal):List Value:=[.int .i64 x.kind,.int .u64 x.key,.int .u64 x.val,.int .i64 x.lim]
def flatK (xs:List Cal):List Value:=xs.flatMap Cal.l
theorem flatK_0 {ps:List Cal} {j:Nat} {x:Cal} (h:ps[j]? = some x):(flatK ps)[j * 4]? = some (.int .i64 x.kind):=flat_at (k:=4) (o:=0) (fun _ => rfl) (by decide) ps j x h
theorem flatK_1 {ps:List Cal} {j:Nat} {x:Cal} (h:ps[j]? = some x):(flatK ps)[j * 4 + 1]? = some (.int .u64 x.key):=flat_at (k:=4) (o:=1) (fun _ => rfl) (by decide) ps j x h
theorem flatK_2 {ps:List Cal} {j:Nat} {x:Cal} (h:ps[j]? = some x):(flatK ps)[j * 4 + 2]? = some (.int .u64 x.val):=flat_at (k:=4) (o:=2) (fun _ => rfl) (by decide) ps j x h
theorem flatK_3 {ps:List Cal} {j:Nat} {x:Cal} (h:ps[j]? = some x):(flatK ps)[j * 4 + 3]? = some (.int .i64 x.lim):=flat_at (k:=4) (o:=3) (fun _ => rfl) (by decide) ps j x h
structure Ly where
 ws:List Int
 n:Int
 s:St
 at_:Int
 op:Int
def lyA (c:Cf) (L:Ly) (x:It):Ly :=
 { L with s:=(beginI c L.s 0 ⟨1,x.key,x.val,0⟩).1,op:=((beginI c L.s 0 ⟨1,x.key,x.val,0⟩).2.1:Nat),ws:=sw L.ws (wrdI c ((beginI c L.s 0 ⟨1,x.key,x.val,0⟩).2.1:Nat)) 0 x.word,n:=L.n + cnt L.ws (wrdI c ((beginI c L.s 0 ⟨1,x.key,x.val,0⟩).2.1:Nat)) }
def lyW (c:Cf) (L:Ly) (nd:Int):List Int:=wr L.ws (nxtI c L.at_) (zPack nd (rd L.ws L.at_ % 2 == 1))
def lyB (c:Cf) (L:Ly) (x:It):Ly :=
 ⟨wr (lyW c L ((makeI c L.s 0 L.op).2.1:Nat)) (nxtI c ((makeI c L.s 0 L.op).2.1:Nat)) (zPack 0 x.mark),L.n + cnt L.ws (nxtI c L.at_) + cnt (lyW c L ((makeI c L.s 0 L.op).2.1:Nat)) (nxtI c ((makeI c L.s 0 L.op).2.1:Nat)),(makeI c L.s 0 L.op).1,((makeI c L.s 0 L.op).2.1:Nat),L.op⟩
def lyI (c:Cf) (L:Ly) (x:It):Ly:=lyB c (if x.again = true then L else lyA c L x) x
def ly0 (c:Cf):Ly:=⟨List.replicate c.len 0,0,St.new c,1,0⟩
def layL (c:Cf) (xs:List It):Ly:=xs.foldl (lyI c) (ly0 c)
def lyC (c:Cf) (s:St) (xs:List Cal):St:=xs.foldl (fun s x => (beginI c s 2 x).1) s
theorem layL_step {c:Cf} {xs:List It} {k:Nat} {x:It} (h:xs[k]? = some x):layL c (xs.take (k + 1)) = lyI c (layL c (xs.take k)) x:=by rw [List.take_add_one,h];simp [layL]
theorem lyC_step {c:Cf} {s:St} {xs:List Cal} {k:Nat} {x:Cal} (h:xs[k]? = some x):lyC c s (xs.take (k + 1)) = (beginI c (lyC c s (xs.take k)) 2 x).1:=by rw [List.take_add_one,h];simp [lyC]
theorem cnt_le (ws:List Int) (i:Int):0 ≤ cnt ws i ∧ cnt ws i ≤ 1:=by unfold cnt;split <;> omega
theorem zPack_le (n:Int) (m:Bool):0 ≤ zPack n m ∧ zPack n m ≤ 18446744073709551615:=by
 unfold zPack
 split
 ·split <;> constructor <;> omega
 ·constructor <;> omega
theorem WOk.wr {ws:List Int} (h:WOk ws) (i v:Int) (h0:0 ≤ v) (h1:v ≤ 18446744073709551615):WOk (wr ws i v):=by
 intro j
 have hj:=h j
 unfold Go.Proofs.YtcogckjpmmjmbaaGreat.wr
 split
 ·rename_i hi
  unfold rd at hj ⊢
  split
  ·rename_i hj0
   rw [if_pos hj0] at hj
   rw [List.getD_eq_getElem?_getD,List.getElem?_set]
   split
   ·split
    ·exact ⟨h0,h1⟩
    ·simp
   ·rw [← List.getD_eq_getElem?_getD];exact hj
  ·simp
 ·exact hj
theorem WOk.sw {ws:List Int} (h:WOk ws) (i o v:Int) (h0:0 ≤ v) (h1:v ≤ 18446744073709551615):WOk (sw ws i o v):=by
 unfold Go.Proofs.YtcogckjpmmjmbaaGreat.sw;split
 ·exact h.wr i v h0 h1
 ·exact h
theorem make_le {c:Cf} (hok:c.Ok) {s:St} (h:Inv c s) (th op:Int):(makeI c s th op).2.1 ≤ 9999:=by
 unfold makeI
 split
 ·simp
 ·rename_i hc
  have ht:th.toNat < c.t:=by omega
  unfold makeS
  split
  ·simp
  ·have h1:=h.b3 th.toNat ht
   have h2:=hok.t8;have h3:=hok.b64;have h4:=hok.tk;have h5:=hok.k2
   have h6:=Nat.mul_le_mul (show th.toNat + 1 ≤ c.t by omega) (Nat.le_refl (2 * c.k))
   rw [Nat.add_mul,Nat.one_mul] at h6
   have h7:c.t * (2 * c.k) = 2 * (c.t * c.k):=Nat.mul_left_comm _ _ _
   simp only
   generalize th.toNat * (2 * c.k) = p at *
   generalize c.t * (2 * c.k) = q at *
   omega
structure LyOk (c:Cf) (L:Ly) (k:Nat):Prop where
 inv:Inv c L.s
 wok:WOk L.ws
 n0:0 ≤ L.n
 n1:L.n ≤ 3 * k
 ops:L.s.ops.length ≤ k
 nodes:L.s.nodes.length ≤ k
theorem LyOk.zero (c:Cf):LyOk c (ly0 c) 0:=⟨Inv.new,fun i => by simp only [ly0];unfold rd;split <;> simp [List.getD_eq_getElem?_getD,List.getElem?_replicate];split <;> simp,by simp [ly0],by simp [ly0],by simp [ly0,St.new],by simp [ly0,St.new]⟩
theorem LyOk.step {c:Cf} {L:Ly} {k:Nat} (h:LyOk c L k) {x:It} (h0:0 ≤ x.word) (h1:x.word ≤ 18446744073709551615):LyOk c (lyI c L x) (k + 1):=by
 have hA:Inv c (if x.again = true then L else lyA c L x).s ∧ WOk (if x.again = true then L else lyA c L x).ws ∧ 0 ≤ (if x.again = true then L else lyA c L x).n ∧ (if x.again = true then L else lyA c L x).n ≤ 3 * k + 1 ∧ (if x.again = true then L else lyA c L x).s.ops.length ≤ k + 1 ∧ (if x.again = true then L else lyA c L x).s.nodes.length ≤ k:=by
  have i0:=h.n0;have i1:=h.n1;have i2:=h.ops;have i3:=h.nodes
  split
  ·exact ⟨h.inv,h.wok,h.n0,by omega,by omega,h.nodes⟩
  ·have b1:=begin_len c L.s 0 ⟨1,x.key,x.val,0⟩
   have b2:=cnt_le L.ws (wrdI c ((beginI c L.s 0 ⟨1,x.key,x.val,0⟩).2.1:Nat))
   exact ⟨h.inv.beginI _ _,h.wok.sw _ _ _ h0 h1,by simp only [lyA];omega,by simp only [lyA];omega,by simp only [lyA];omega,by simp only [lyA];omega⟩
 unfold lyI
 generalize (if x.again = true then L else lyA c L x) = M at hA
 obtain ⟨a1,a2,a3,a4,a5,a6⟩:=hA
 have m1:=make_len c M.s 0 M.op
 have m2:=cnt_le M.ws (nxtI c M.at_)
 have m3:=cnt_le (lyW c M ((makeI c M.s 0 M.op).2.1:Nat)) (nxtI c ((makeI c M.s 0 M.op).2.1:Nat))
 refine ⟨a1.makeI _ _,(a2.wr _ _ (zPack_le _ _).1 (zPack_le _ _).2).wr _ _ (zPack_le _ _).1 (zPack_le _ _).2,by simp only [lyB];omega,by simp only [lyB];omega,by simp only [lyB];omega,by simp only [lyB];omega⟩
theorem layL_ok (c:Cf) (xs:List It) (h:∀ x ∈ xs,0 ≤ x.word ∧ x.word ≤ 18446744073709551615):∀ k,k ≤ xs.length → LyOk c (layL c (xs.take k)) k
 | 0,_ => by simpa [layL] using LyOk.zero c
 | k + 1,hk => by
  have hx:xs[k]? = some xs[k]:=List.getElem?_eq_getElem (by omega)
  rw [layL_step hx]
  have:=h _ (List.mem_of_getElem? hx)
  exact (layL_ok c xs h k (by omega)).step this.1 this.2
theorem insI_mem (x:It):∀ (l:List It) (y:It),y ∈ insI l x → y = x ∨ y ∈ l
 | [],y => by simp [insI]
 | z :: r,y => by
  unfold insI
  split
  ·intro h
   rcases List.mem_cons.1 h with h | h
   ·simp [h]
   ·rcases insI_mem x r y h with h | h <;> simp [h]
  ·intro h
   rcases List.mem_cons.1 h with h | h
   ·simp [h]
   ·simp only [List.mem_cons] at h ⊢;rcases h with h | h <;> simp [h]
theorem foldI_mem:∀ (xs l:List It) (y:It),y ∈ xs.foldl insI l → y ∈ xs ∨ y ∈ l
 | [],l,y,h => .inr h
 | x :: r,l,y,h => by
  rcases foldI_mem r _ y h with h | h
  ·simp [h]
  ·rcases insI_mem x l y h with h | h <;> simp [h]
theorem sortedI_word {xs:List It} {x:It} (h:x ∈ sortedI xs):∃ y ∈ xs,x.word = y.word:=by
 unfold sortedI at h
 obtain ⟨k,hk⟩:=List.getElem?_of_mem h
 rw [fixTo_get] at hk
 cases hc:(foldI xs)[k]? with
 | none => rw [hc] at hk;cases hk
 | some y =>
  rw [hc] at hk
  simp only [Option.map_some,Option.some.injEq] at hk
  refine ⟨y,?_,?_⟩
  ·rcases foldI_mem xs [] y (List.mem_of_getElem? hc) with h | h
   ·exact h
   ·cases h
  ·rw [← hk];split
   ·unfold keptI clr;split <;> rfl
   ·rfl
theorem sortedI_len (xs:List It):(sortedI xs).length = xs.length:=by unfold sortedI;rw [fixTo_len,foldI_len]
theorem WdAt.book' {w w':World} {c:Cf} {d:Wd} {ws:List Int} {n:Int} {s s':St} (h:WdAt w c d ws n s) (q:But (Own d.a) w w') (hb:BookAt w' c d.a s'):WdAt w' c d ws n s':=by
 have o1:=h.o1;have o2:=h.o2;have o3:=h.o3
 have nx:¬ Own d.a d.x:=fun x => by have:=x.2;omega
 have np:¬ Own d.a d.p:=fun x => by have:=x.2;omega
 have nb:¬ Own d.a d.b:=fun x => by have:=x.2;omega
 exact ⟨q.cell nx h.k0,q.cell nx h.k1,q.cell nx h.k2,q.cell nx h.k3,q.cell nx h.k4,q.cell nx h.k5,q.cell nx h.k6,
  ⟨q.cell np h.bank.words,q.cell np h.bank.steps,fun i j hij => q.frozen (h.bank.free i j hij),fun j hj => q.cell nb (h.bank.cells j hj),h.bank.apart,Nat.lt_of_lt_of_le h.bank.ltb q.2.2,h.bank.few⟩,hb,h.len,h.mine,h.o1,h.o2,h.o3⟩
end Go.Proofs.YtcogckjpmmjmbaaGreat
namespace Go.Proofs.YtcogckjpmmjmbaaGreat
open Go.ChangeShapes Go.WideShapes Go.ChangeAt Go.RowKit Go.Deep
set_option maxRecDepth 100000
set_option linter.unusedVariables false
theorem lit_u64 {n:Int} (h:(Lit.int .u64 n).wf = true):0 ≤ n ∧ n ≤ 18446744073709551615:=has_u64 (by simpa [Lit.wf,IntKind.has] using h)
def It.Wf (x:It):Prop:=(0 ≤ x.key ∧ x.key ≤ 18446744073709551615) ∧ (0 ≤ x.val ∧ x.val ≤ 18446744073709551615) ∧ 0 ≤ x.word ∧ x.word ≤ 18446744073709551615
theorem item_cells {H:Type} {enc:TypeId × Value → H} {w:World} {base:Nat} {spare:Nat → Bool} {held:Bool} {fuel:Nat} {cs:List Value} {x:DataW H × List MemPlace}
  (h:DataW.trod enc Tryz.prog w base spare held fuel 105 cs = some x):∃ a:It,cs = a.l ∧ a.Wf:=by
 obtain ⟨xs,n,-,-,hlen,hxl,hf⟩:=DataW.trod_struct Tryz.underlying105 h
 have hlen5:cs.length = 5:=hlen.trans (by kernel_rfl)
 have hx5:xs.length = 5:=hxl
 have c4:Tryz.prog.cellsOf 4 = 1:=by kernel_rfl
 have cu:Tryz.prog.cellsOf 46 = 1:=by kernel_rfl
 match cs,hlen5 with
 | [a0,a1,a2,a3,a4],_ =>
  have f0:=hf 0 _ rfl
  have f1:=hf 1 _ rfl
  have f2:=hf 2 _ rfl
  have f3:=hf 3 _ rfl
  have f4:=hf 4 _ rfl
  rw [List.getElem?_eq_getElem (by omega)] at f0 f1 f2 f3 f4
  obtain ⟨k,hk,-,wk⟩:=DataW.trod_int Tryz.underlying46 f0
  obtain ⟨v,hv,-,wv⟩:=DataW.trod_int Tryz.underlying46 f1
  obtain ⟨z,hz,-,wz⟩:=DataW.trod_int Tryz.underlying46 f2
  obtain ⟨m,hm,-⟩:=DataW.trod_bool Tryz.underlying4 f3
  obtain ⟨g,hg,-⟩:=DataW.trod_bool Tryz.underlying4 f4
  simp [c4,cu] at hk hv hz hm hg
  subst hk hv hz hm hg
  exact ⟨⟨k,v,z,m,g⟩,rfl,lit_u64 wk,lit_u64 wv,lit_u64 wz⟩
theorem open_rowO {H α:Type} {enc:TypeId × Value → H} {P:Program} {w:World} {base:Nat} {spare:Nat → Bool} {held:Bool} {t e:TypeId} {fuel k:Nat} {c:Value} {x:DataW H × List MemPlace} {f:α → List Value} {G:α → Prop}
  (ht:P.underlying t = some (.slice e)) (hk:P.cellsOf e = k) (hk0:0 < k) (hf:∀ a,(f a).length = k)
  (hopen:∀ {n:Nat} {cs:List Value} {y:DataW H × List MemPlace},DataW.trod enc P w base spare held n e cs = some y → ∃ a,cs = f a ∧ G a)
  (h:DataW.trod enc P w base spare held fuel t [c] = some x):∃ xs:List α,RowO w c (xs.flatMap f) xs.length ∧ ∀ a ∈ xs,G a:=by
 rcases open_slice ht h with ⟨hcs,_⟩ | ⟨a,len,cap,m,n,D,Pl,hcs,hb,hlc,hcm,hm,hx,hi⟩
 ·refine ⟨[],⟨none,0,0,0,by simpa using hcs,fun h => absurd h (by simp),fun j u hj => by simp at hj⟩,by simp⟩
 ·have hv:c = .slice (some a) len cap:=by simpa using hcs
  have hlm:len ≤ m:=by rw [hm];split <;> omega
  have key:∀ i,i < len → ∃ y:α,G y ∧ ∀ j u,(f y)[j]? = some u → w.cell? ((a.add (i * k)).add j) = some u:=by
   intro i hil
   obtain ⟨cs',h1,h2⟩:=hi i (by omega)
   rw [hk] at h1
   obtain ⟨y,rfl,hG⟩:=hopen h2
   obtain ⟨-,hlen,hat⟩:=World.cells?_some h1
   refine ⟨y,hG,fun j u hu => ?_⟩
   have hj:j < k:=by have:=(List.getElem?_eq_some_iff.1 hu).1;rwa [hf] at this
   rw [hat j hj];exact hu
  have hall:∀ m',m' ≤ len → ∃ xs:List α,xs.length = m' ∧ (∀ a ∈ xs,G a) ∧ ∀ i y,xs[i]? = some y → ∀ j u,(f y)[j]? = some u → w.cell? ((a.add (i * k)).add j) = some u:=by
   intro m'
   induction m' with
   | zero => exact fun _ => ⟨[],rfl,by simp,fun i y hy => by simp at hy⟩
   | succ m' ih =>
    intro hm'
    obtain ⟨xs,hl,hg,hc⟩:=ih (by omega)
    obtain ⟨y,hG,hy⟩:=key m' (by omega)
    refine ⟨xs ++ [y],by simp [hl],fun a ha => ?_,fun i z hz => ?_⟩
    ·rcases List.mem_append.1 ha with ha | ha
     ·exact hg a ha
     ·simp only [List.mem_singleton] at ha;rw [ha];exact hG
    ·by_cases him:i < m'
     ·exact hc i z (by rwa [List.getElem?_append_left (by omega)] at hz)
     ·have hlt:=(List.getElem?_eq_some_iff.1 hz).1
      simp only [List.length_append,List.length_cons,List.length_nil] at hlt
      obtain rfl:i = m':=by omega
      rw [List.getElem?_append_right (by omega),hl,Nat.sub_self] at hz
      simp only [List.getElem?_cons_zero,Option.some.injEq] at hz
      rw [← hz];exact hy
  obtain ⟨xs,hl,hG,hc⟩:=hall len (Nat.le_refl _)
  have spot:0 < len → a = ⟨a.block,a.off,none⟩:=fun hpos => by
   have hx0:xs[0]? = some (xs[0]'(by omega)):=List.getElem?_eq_getElem (by omega)
   have h0:(f (xs[0]'(by omega)))[0]? = some ((f (xs[0]'(by omega)))[0]'(by rw [hf];exact hk0)):=List.getElem?_eq_getElem (by rw [hf];exact hk0)
   have hn:=hc 0 _ hx0 0 _ h0
   obtain ⟨_,_,_,_,hsp⟩:=World.shape?_of_cell? hn
   have:a.spot = none:=by simpa [Addr.add] using hsp
   cases a;simp_all
  refine ⟨xs,⟨some a,a.block,a.off,cap,by rw [hv,hl],fun hpos => congrArg some (spot (by omega)),fun j u hj => ?_⟩,hG⟩
  have hjl:j < (xs.flatMap f).length:=(List.getElem?_eq_some_iff.1 hj).1
  have hlen:(xs.flatMap f).length = xs.length * k:=by
   clear hj hjl hc hG hl
   induction xs with
   | nil => simp
   | cons z r ih => simp only [List.flatMap_cons,List.length_append,List.length_cons,hf,ih,Nat.add_mul,Nat.one_mul];omega
  have hq:j / k < xs.length:=Nat.div_lt_of_lt_mul (by rw [Nat.mul_comm];omega)
  have hx0:xs[j / k]? = some (xs[j / k]'hq):=List.getElem?_eq_getElem hq
  have hr:j % k < (f (xs[j / k]'hq)).length:=by rw [hf];exact Nat.mod_lt _ hk0
  have he:=flat_at (k:=k) (o:=j % k) hf (Nat.mod_lt _ hk0) xs (j / k) _ hx0
  rw [Nat.mul_comm,Nat.div_add_mod] at he
  have hu:(f (xs[j / k]'hq))[j % k]? = some u:=by rw [← he];exact hj
  have hpos:0 < len:=by rw [← hl];exact Nat.lt_of_le_of_lt (Nat.zero_le _) hq
  have:=hc (j / k) _ hx0 (j % k) u hu
  rw [spot hpos,add_none,add_none,Nat.add_assoc,Nat.mul_comm,Nat.div_add_mod] at this
  exact this
end Go.Proofs.YtcogckjpmmjmbaaGreat
