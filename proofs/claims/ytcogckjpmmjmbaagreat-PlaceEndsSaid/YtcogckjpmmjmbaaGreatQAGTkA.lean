/- Package take: what is done in a phase. -/
import Derived.Test.YtcogckjpmmjmbaaGreatQAGPlR
import Derived.Test.YtcogckjpmmjmbaaGreatQAPlA
import Derived.Test.YtcogckjpmmjmbaaGreatQAGWkCl
import Derived.Test.YtcogckjpmmjmbaaGreatQAMScene
import Derived.Test.YtcogckjpmmjmbaaGreatQARLaid
import Derived.Test.YtcogckjpmmjmbaaGreatQAPlH
namespace Go.Proofs.YtcogckjpmmjmbaaGreat
open Go.ChangeShapes Go.WideShapes Go.ChangeAt Go.RowKit
set_option maxRecDepth 100000
set_option linter.unusedVariables false
theorem BookAt.otherV {w w':World} {c:Cf} {a:Ad} {s:St} {T:Nat} {v:Value} (h:BookAt w c a s) (q:But (· = T) w w') (hT:¬ (a.lo ≤ T ∧ T < a.hi)) (h1:w.cell? ⟨T,1,none⟩ = some v) (hv:∀ k,v ≠ .int .u64 k):BookAt w' c a s:=by
 have o1:=h.o1;have o2:=h.o2;have o3:=h.o3;have o4:=h.o4;have o5:=h.o5;have o6:=h.o6
 have hp:¬ a.p = T:=by omega
 refine ⟨h.ok,q.cell hp h.c0,q.cell hp h.c1,q.cell hp h.c2,q.cell hp h.c3,q.cell hp h.c4,q.cell hp h.c5,q.cell hp h.c6,q.cell hp h.c7,
  h.mw.but q (fun e => h.mw.ne h1 e.symm),h.mc.but q (fun e => h.mc.ne h1 e.symm),h.mn.but q (fun e => h.mn.ne h1 e.symm),
  fun j hj => q.cell (show ¬ a.bw + j = T by omega) (h.w0 j hj),fun j hj => q.cell (show ¬ a.bw + j = T by omega) (h.w1 j hj),fun j hj => q.cell (show ¬ a.bw + j = T by omega) (h.w2 j hj),fun j hj => q.cell (show ¬ a.bw + j = T by omega) (h.w3 j hj),
  fun j o hj => q.frozen (h.wf j o hj),fun n hn => ?_,fun n hn => q.frozen (h.sf n hn),fun n hn => ?_,fun n hn => q.frozen (h.nf n hn),o1,o2,o3,o4,o5,Nat.le_trans o6 q.2.2⟩
 ·have hb:¬ a.bc + n = T:=by omega
  have hs:=h.sc n hn
  cases e:look s.ops n with
  | none => rw [e] at hs;exact q.cell hb hs
  | some y =>
   rw [e] at hs
   obtain ⟨r,h0,h2,h3,h4,h5,h6,h7⟩:=hs
   have hr:¬ r = T:=fun e => by rw [e,h1] at h4;exact hv _ (Option.some.inj h4)
   exact ⟨r,h0,q.cell hb h2,q.cell hr h3,q.cell hr h4,q.cell hr h5,q.cell hr h6,q.shape hr h7⟩
 ·have hb:¬ a.bn + n = T:=by omega
  have hs:=h.sn n hn
  cases e:look s.nodes n with
  | none => rw [e] at hs;exact q.cell hb hs
  | some y =>
   rw [e] at hs
   obtain ⟨r,h0,h2,h3,h4⟩:=hs
   have hr:¬ r = T:=fun e => by
    subst e
    obtain ⟨e',n',hsh,hlt,-⟩:=World.shape?_of_cell? h1
    rw [h4] at hsh
    cases hsh
    simp at hlt
   exact ⟨r,h0,q.cell hb h2,q.cell hr h3,q.shape hr h4⟩
theorem WdAt.othV {w w':World} {c:Cf} {d:Wd} {ws:List Int} {n:Int} {s:St} {T:Nat} {v:Value} (h:WdAt w c d ws n s) (q:But (fun i => i = T) w w') (hT:d.a.hi ≤ T) (hm:¬ Mine d.p d.b T) (hx:¬ d.x = T)
  (h1:w.cell? ⟨T,1,none⟩ = some v) (hv:∀ k,v ≠ .int .u64 k):WdAt w' c d ws n s:=by
 have hp:¬ d.p = T:=fun e => hm (.inl e.symm)
 have hb:¬ d.b = T:=fun e => hm (.inr e.symm)
 have B:=h.bank
 exact ⟨q.cell hx h.k0,q.cell hx h.k1,q.cell hx h.k2,q.cell hx h.k3,q.cell hx h.k4,q.cell hx h.k5,q.cell hx h.k6,
  ⟨q.cell hp B.words,q.cell hp B.steps,fun i j hij => q.frozen (B.free i j hij),fun j hj => q.cell hb (B.cells j hj),B.apart,Nat.lt_of_lt_of_le B.ltb q.2.2,B.few⟩,
  h.book.otherV q (by omega) h1 hv,h.len,h.mine,h.o1,h.o2,h.o3⟩
structure TkAt (w:World) (c:Cf) (d:Wd) (s:St) (r:Nat) (y:Kt):Prop where
 wd:WdAt w c d y.ws y.n s
 box:Box w r y.x.l
 nm:¬ Ow d r
 nx:¬ d.x = r
 hr:d.a.hi ≤ r
theorem TkAt.grown {w w':World} {c:Cf} {d:Wd} {s:St} {r:Nat} {y:Kt} (h:TkAt w c d s r y) (g:Grown w w'):TkAt w' c d s r y:=⟨h.wd.grown g,h.box.grown g,h.nm,h.nx,h.hr⟩
theorem TkAt.put {w w':World} {c:Cf} {d:Wd} {s:St} {r:Nat} {y:Kt} {x:Tk} (h:TkAt w c d s r y) (hB:Box w' r x.l) (q:But (fun i => i = r) w w'):TkAt w' c d s r ⟨y.ws,y.n,x⟩ :=
 ⟨h.wd.othV q h.hr (fun m => h.nm (.inr m)) h.nx (h.box.cell 1 _ rfl) (fun _ e => by cases e),hB,h.nm,h.nx,h.hr⟩
theorem TkAt.step {w w':World} {c:Cf} {d:Wd} {s:St} {r:Nat} {y:Kt} {ws:List Int} {n:Int} (h:TkAt w c d s r y) (q:LeftW c d ws n s w w'):TkAt w' c d s r ⟨ws,n,y.x⟩ :=
 ⟨q.2,h.box.but q.1 (fun m => h.nm (.inr m)),h.nm,h.nx,h.hr⟩
end Go.Proofs.YtcogckjpmmjmbaaGreat
namespace Go.Proofs.YtcogckjpmmjmbaaGreat
set_option maxRecDepth 100000
set_option linter.unusedVariables false
theorem sortedI_key {xs:List It} {x:It} (h:x ∈ sortedI xs):∃ y ∈ xs,x.key = y.key:=by
 unfold sortedI at h
 obtain ⟨k,hk⟩:=List.getElem?_of_mem h
 rw [fixTo_get] at hk
 cases hc:(foldI xs)[k]? with
 | none => rw [hc] at hk;cases hk
 | some y =>
  rw [hc] at hk
  simp only [Option.map_some,Option.some.injEq] at hk
  refine ⟨y,?_,?_⟩
  ·rcases foldI_mem xs [] y (List.mem_of_getElem? hc) with h | h
   ·exact h
   ·cases h
  ·rw [← hk];split
   ·unfold keptI clr;split <;> rfl
   ·rfl
def opsK (k:Int) (l:List (Nat × Cal)):List Int:=(l.filter fun x => decide (32 ≤ x.1) && decide (x.2.kind = k)).map fun x => (x.1:Int)
theorem opsK_app (k:Int) (l m:List (Nat × Cal)):opsK k (l ++ m) = opsK k l ++ opsK k m:=by simp [opsK]
theorem opsK_take {k:Int} {l:List (Nat × Cal)} {j:Nat} {x:Nat × Cal} (h:l[j]? = some x):opsK k (l.take (j + 1)) = if 32 ≤ x.1 ∧ x.2.kind = k then opsK k (l.take j) ++ [(x.1:Int)] else opsK k (l.take j):=by
 rw [List.take_add_one,h,opsK_app]
 by_cases q:32 ≤ x.1 ∧ x.2.kind = k
 ·rw [if_pos q];simp [opsK,q.1,q.2]
 ·rw [if_neg q]
  have:opsK k [x] = []:=by
   unfold opsK
   rw [List.filter_cons_of_neg (by simpa using q)]
   rfl
  rw [show (some x).toList = [x] from rfl,this,List.append_nil]
theorem opsK_len (k:Int) (l:List (Nat × Cal)):(opsK k l).length ≤ l.length:=by
 unfold opsK
 rw [List.length_map]
 exact List.length_filter_le _ _
theorem look_of_mem {α:Type}:∀ {l:List (Nat × α)} {n:Nat} {x:α},(l.map (·.1)).Nodup → (n,x) ∈ l → look l n = some x
 | [],_,_,_,h => by cases h
 | (m,y) :: r,n,x,hd,h => by
  rw [List.map_cons,List.nodup_cons] at hd
  simp only [look]
  rcases List.mem_cons.1 h with h | h
  ·cases h;simp
  ·have hne:¬ m = n:=fun e => hd.1 (by subst e;exact List.mem_map.2 ⟨_,h,rfl⟩)
   rw [if_neg hne]
   exact look_of_mem hd.2 h
theorem opsK_mem {c:Cf} {s:St} (hI:Inv c s) {k op:Int} (h:op ∈ opsK k s.ops):32 ≤ op ∧ op < c.ops ∧ ∃ x:Cal,lookI s.ops op = some x ∧ x.kind = k:=by
 unfold opsK at h
 obtain ⟨⟨n,x⟩,h1,rfl⟩:=List.mem_map.1 h
 obtain ⟨h2,h3⟩:=List.mem_filter.1 h1
 simp only [Bool.and_eq_true,decide_eq_true_eq] at h3
 have hl:=look_of_mem hI.d1 h2
 obtain ⟨i,m,g1,g2,g3⟩:=hI.k1 _ h2
 have h4:=hI.b1 i g1
 simp only at g3
 have h5:i * c.k + c.k ≤ c.t * c.k:=by
  have:=Nat.mul_le_mul_right c.k (show i + 1 ≤ c.t by omega)
  rw [Nat.add_mul,Nat.one_mul] at this
  exact this
 refine ⟨by simp only;omega,by simp only [Cf.ops];omega,x,by rw [lookI_nat];exact hl,h3.2⟩
structure LW (c:Cf) (L:Ly):Prop where
 lay:Lay0 c L.ws
 inv:Inv c L.s
 low:∀ x ∈ L.s.nodes,x.2 < c.k
 o0:0 ≤ L.op
 o1:L.op < c.k
 a0:0 ≤ L.at_
 a1:L.at_ < c.nodes
 zero:∀ o:Int,c.k ≤ o → o < c.ops → wd c L.ws o = 0
 made:∀ j,at_ L.s.made j ≤ L.s.nodes.length
theorem LW.zero_ {c:Cf} (ok:c.Ok):LW c (ly0 c):=by
 have h0:∀ i,rd (List.replicate c.len 0) i = 0:=by
  intro i
  unfold rd
  split
  ·rw [List.getD_eq_getElem?_getD,List.getElem?_replicate];split <;> rfl
  ·rfl
 have k1:=ok.k1
 have b1:=nodes_lt ok
 exact ⟨⟨ok,by simp [ly0]⟩,Inv.new,(fun x hx => by cases hx),Int.le_refl _,by simp only [ly0];omega,by simp only [ly0];omega,b1,(fun o _ _ => h0 _),fun j => by rw [show (ly0 c).s.made = List.replicate c.t 0 from rfl,at_new];exact Nat.zero_le _⟩
theorem begin_low {c:Cf} {s:St} (hI:Inv c s) (ok:c.Ok) (x:Cal):(beginI c s 0 x).2.1 < c.k:=by
 have k1:=ok.k1
 unfold beginI
 split
 ·simp only;omega
 ·unfold beginS
  split
  ·simp only;omega
  split
  ·simp only;omega
  ·rename_i h1 h2
   have:=hI.b1 0 (by have:=ok.t1;omega)
   simp only [Int.toNat_zero,Nat.zero_mul,Nat.zero_add] at *
   omega
theorem begin_made (c:Cf) (s:St) (th:Int) (x:Cal):(beginI c s th x).1.made = s.made ∧ (beginI c s th x).1.nodes = s.nodes:=by
 unfold beginI
 split
 ·exact ⟨rfl,rfl⟩
 ·unfold beginS
  repeat' split
  all_goals exact ⟨rfl,rfl⟩
theorem LW.begin_ {c:Cf} {L:Ly} (h:LW c L) (x:It) (hw:0 ≤ x.word):LW c (lyA c L x):=by
 have ok:=h.lay.ok
 have hlo:=begin_low h.inv ok ⟨1,x.key,x.val,0⟩
 obtain ⟨m1,m2⟩:=begin_made c L.s 0 ⟨1,x.key,x.val,0⟩
 have hk:(c.k:Int) ≤ c.ops:=by
  have h1:c.k * 1 ≤ c.k * c.t:=Nat.mul_le_mul_left _ ok.t1
  rw [Nat.mul_comm c.k c.t] at h1
  simp only [Cf.ops];omega
 refine ⟨h.lay.sw _ _ _,h.inv.beginI _ _,?_,?_,?_,h.a0,h.a1,fun o h1 h2 => ?_,fun j => ?_⟩
 ·simp only [lyA];rw [m2];exact h.low
 ·simp only [lyA];omega
 ·simp only [lyA];omega
 ·simp only [lyA]
  rw [wd_sw h.lay (by omega) (by omega),if_neg (by omega)]
  exact h.zero o h1 h2
 ·simp only [lyA];rw [m1,m2];exact h.made j
theorem LW.make_ {c:Cf} {L:Ly} (h:LW c L) (x:It):LW c (lyB c L x):=by
 have ok:=h.lay.ok
 have hnd:(makeI c L.s 0 L.op).2.1 < c.nodes:=by
  have b1:=nodes_lt ok
  unfold makeI
  split
  ·simp only;omega
  ·unfold makeS
   split
   ·simp only;omega
   ·rename_i h1 h2
    have hm:=h.inv.b3 0 (by have:=ok.t1;omega)
    have h3:c.k * 1 ≤ c.k * c.t:=Nat.mul_le_mul_left _ ok.t1
    rw [Nat.mul_comm c.k c.t] at h3
    simp only [Int.toNat_zero,Nat.zero_mul,Nat.add_zero,Cf.nodes] at *
    omega
 have l1:Lay0 c (lyW c L ((makeI c L.s 0 L.op).2.1:Nat)):=h.lay.wr _ _
 refine ⟨l1.wr _ _,h.inv.makeI _ _,?_,h.o0,h.o1,by simp only [lyB];omega,by simp only [lyB];omega,fun o h1 h2 => ?_,fun j => ?_⟩
 ·simp only [lyB]
  unfold makeI
  split
  ·exact h.low
  ·unfold makeS
   split
   ·exact h.low
   ·intro y hy
    simp only [List.mem_append,List.mem_singleton] at hy
    rcases hy with hy | hy
    ·exact h.low y hy
    ·subst hy
     have:=h.o1;have:=h.o0
     simp only
     omega
 ·simp only [lyB]
  rw [wd_wrn l1 (by omega) (by omega)]
  unfold lyW
  rw [wd_wrn h.lay h.a0 h.a1]
  exact h.zero o h1 h2
 ·simp only [lyB]
  have hm:=h.made j
  unfold makeI
  split
  ·exact hm
  ·unfold makeS
   split
   ·exact hm
   ·simp only [List.length_append,List.length_cons,List.length_nil]
    rw [at_bump (by rw [h.inv.l3];have:=ok.t1;omega)]
    split
    ·rename_i e;rw [e] at hm;omega
    ·omega
theorem layL_lw {c:Cf} (ok:c.Ok) (xs:List It) (hx:∀ x ∈ xs,0 ≤ x.word):LW c (layL c xs):=by
 have hall:∀ (xs:List It) (L:Ly),LW c L → (∀ x ∈ xs,0 ≤ x.word) → LW c (xs.foldl (lyI c) L):=by
  intro xs
  induction xs with
  | nil => intro L h _;exact h
  | cons x r ih =>
   intro L h hx
   rw [List.foldl_cons]
   refine ih _ ?_ (fun y hy => hx y (List.mem_cons_of_mem _ hy))
   unfold lyI
   split
   ·exact h.make_ x
   ·exact (h.begin_ x (hx x (List.mem_cons_self ..))).make_ x
 exact hall xs _ (LW.zero_ ok) hx
theorem lyC_made (c:Cf):∀ (xs:List Cal) (s:St),(lyC c s xs).made = s.made
 | [],_ => rfl
 | x :: r,s => by
  unfold lyC
  rw [List.foldl_cons]
  exact (lyC_made c r _).trans (begin_made c s 2 x).1
structure Own0 (c:Cf) (s:St) (ws:List Int) (op:Int) (l:List Int):Prop where
 w:wd c ws op = 0
 nc:∀ a ∈ l,opAt s a ≠ op
 rm:∀ j,at_ s.made j < 2 * c.k
theorem own0_of {f:Nat} (hf:f ≤ 255) {xs:List It} (hl:xs.length ≤ 12) (hw:∀ x ∈ xs,0 ≤ x.word) (cs:List Cal) {L:Ly} (hL:layL (c9 f) (sortedI xs) = L) {s:St} (hs:lyC (c9 f) L.s cs = s) (hn:L.s.nodes.length ≤ 12)
  {op:Int} (h1:32 ≤ op) (h2:op < (c9 f).ops) (l:List Int):Own0 (c9 f) s L.ws op l:=by
 have h:=layL_lw (c9_ok hf) (sortedI xs) (fun x hx => by obtain ⟨y,hy,he⟩:=sortedI_word hx;rw [he];exact hw y hy)
 rw [hL] at h
 have hk:(c9 f).k = 16:=rfl
 refine ⟨h.zero op (by rw [hk];omega) h2,fun a _ => ?_,fun j => ?_⟩
 ·rw [← hs,lyC_opAt]
  unfold opAt
  rcases e:lookI L.s.nodes a with _ | x
  ·simp only [carriedOf];omega
  ·have hx:x < 16:=by
    unfold lookI at e
    split at e
    ·cases e
    ·have:=h.low _ (look_mem e)
     rw [hk] at this
     exact this
   simp only [carriedOf]
   omega
 ·rw [← hs,lyC_made,hk]
  have:=h.made j
  omega
theorem Scn.pb {c:Cf} {s:St} {ws:List Int} {xs:List It} (h:Scn c s ws (sortedI xs)) (hw:∀ i:Int,0 ≤ rd ws i ∧ rd ws i ≤ 18446744073709551615):PB c s ws (ids xs.length):=by
 have hu:=h.up
 rw [sortedI_len] at hu
 have h1:=h.lk
 have h2:=h.sc
 rw [sortedI_len] at h1 h2
 exact ⟨h.lay,hw,h.b1,h1,ids_nd _,h2,h.hd,hu⟩
end Go.Proofs.YtcogckjpmmjmbaaGreat
namespace Go.Proofs.YtcogckjpmmjmbaaGreat
open Go.ChangeShapes Go.WideShapes Go.ChangeAt Go.RowKit Go.Deep
set_option maxRecDepth 100000
set_option linter.unusedVariables false
theorem call_cellsK {H:Type} {enc:TypeId × Value → H} {w:World} {base:Nat} {spare:Nat → Bool} {held:Bool} {fuel:Nat} {cs:List Value} {x:DataW H × List MemPlace}
  (h:DataW.trod enc Tryz.prog w base spare held fuel 80 cs = some x):∃ a:Cal,cs = a.l ∧ 0 ≤ a.key:=by
 obtain ⟨xs,n,-,-,hlen,hxl,hf⟩:=DataW.trod_struct Tryz.underlying80 h
 have hlen4:cs.length = 4:=hlen.trans (by kernel_rfl)
 have hx4:xs.length = 4:=hxl
 have c3:Tryz.prog.cellsOf 3 = 1:=by kernel_rfl
 have cu:Tryz.prog.cellsOf 46 = 1:=by kernel_rfl
 match cs,hlen4 with
 | [a0,a1,a2,a3],_ =>
  have f0:=hf 0 _ rfl
  have f1:=hf 1 _ rfl
  have f2:=hf 2 _ rfl
  have f3:=hf 3 _ rfl
  rw [List.getElem?_eq_getElem (by omega)] at f0 f1 f2 f3
  obtain ⟨k,hk,-⟩:=DataW.trod_int Tryz.underlying3 f0
  obtain ⟨v,hv,-,wv⟩:=DataW.trod_int Tryz.underlying46 f1
  obtain ⟨z,hz,-⟩:=DataW.trod_int Tryz.underlying46 f2
  obtain ⟨m,hm,-⟩:=DataW.trod_int Tryz.underlying3 f3
  simp [c3,cu] at hk hv hz hm
  subst hk hv hz hm
  exact ⟨⟨k,v,z,m⟩,rfl,(lit_u64 wv).1⟩
theorem open_sceneK {H:Type} {enc:TypeId × Value → H} {w:World} {r:Reach} {b base:Nat} {spare:Nat → Bool} {held:Bool} {v:Value} {d:DataW H} {p:List MemPlace}
  (hv:Value.okWide Tryz.prog w r b 25 v) (h:DataW.Trod enc Tryz.prog w base spare held 25 v d p) :
  ∃ (f:Nat) (vi vc:Value) (xs:List It) (cs:List Cal),v = .agg #[.int .u8 (f:Int),vi,vc] ∧ f ≤ 255 ∧ RowO w vi (flatI xs) xs.length ∧ RowO w vc (flatK cs) cs.length ∧ (∀ x ∈ xs,x.Wf) ∧ ∀ x ∈ cs,0 ≤ x.key:=by
 obtain ⟨cs,rfl,hs,hc⟩:=open_flat (n:=3) (ts:=[5,22,23]) (by kernel_rfl) (by kernel_rfl) (by kernel_rfl) hv
 obtain ⟨l⟩:=cs
 simp only [List.size_toArray] at hs
 match l,hs with
 | [c0,c1,c2],_ =>
  obtain ⟨f,rfl,wf⟩:=cell_int Tryz.underlying5 (hc 0 _ 5 rfl rfl)
  obtain ⟨f0,f1⟩:=has_u8 wf
  obtain ⟨fuel,hf⟩:=h
  obtain ⟨xs,n,-,-,-,hxl,hg⟩:=DataW.trod_struct Tryz.underlying25 hf
  have hx3:xs.length = 3:=hxl
  have g1:=hg 1 _ rfl
  have g2:=hg 2 _ rfl
  rw [List.getElem?_eq_getElem (by omega)] at g1 g2
  simp only [Value.cells] at g1 g2
  obtain ⟨ys,h1,h2⟩:=open_rowO (f:=It.l) (k:=5) Tryz.underlying22 (by kernel_rfl) (by decide) (fun _ => rfl) (fun h => item_cells h) g1
  obtain ⟨zs,h3,h4⟩:=open_rowO (f:=Cal.l) (k:=4) (G:=fun x => 0 ≤ x.key) Tryz.underlying23 (by kernel_rfl) (by decide) (fun _ => rfl) (fun h => call_cellsK h) g2
  exact ⟨f.toNat,c1,c2,ys,zs,by simp;omega,by omega,h1,h3,h2,h4⟩
end Go.Proofs.YtcogckjpmmjmbaaGreat
namespace Go.Proofs.YtcogckjpmmjmbaaGreat
open Go.ChangeShapes Go.WideShapes Go.ChangeAt Go.RowKit
set_option maxRecDepth 100000
set_option linter.unusedVariables false
structure OpsR1 (w0:World) (T go:Nat) (L:List Value) (fl:List Value) (vt:Value) (xs:List Int) (W:World):Prop where
 g:Grown w0 W
 box:Box W T L
 ops:∀ j u,fl[j]? = some u → W.cell? ⟨go,j,none⟩ = some u
 told:W.ownsRow (T + 1) 3 1 vt xs.length (ints xs)
theorem OpsR1.grown {w0 W W':World} {T go:Nat} {L fl:List Value} {vt:Value} {xs:List Int} (h:OpsR1 w0 T go L fl vt xs W) (q:Grown W W'):OpsR1 w0 T go L fl vt xs W' :=
 ⟨gtr h.g q,h.box.grown q,fun j u e => gcell q (h.ops j u e),own_grown h.told q⟩
set_option maxHeartbeats 16000000 in
theorem inserts_at (w:World) (f:Nat) (hf:f ≤ 255) (vi vc:Value) (xs:List It) (cs:List Cal) (hi:RowO w vi (flatI xs) xs.length) (hc:RowO w vc (flatK cs) cs.length) (hl1:xs.length ≤ 12) (hl2:cs.length ≤ 6)
  (hw:∀ x ∈ xs,0 ≤ x.word ∧ x.word ≤ 18446744073709551615) (L:Ly) (hL:layL (c9 f) (sortedI xs) = L) (s:St) (hs:lyC (c9 f) L.s cs = s) (hso:s.ops.length < 20) :
  Calls Tryz.prog 34 #[.agg #[.int .u8 (f:Int),vi,vc]] w fun e w' => ∃ v,e = .returned v ∧ RowC w' v (ints (opsK 1 s.ops)) (opsK 1 s.ops).length ∧ Grown w w':=by
 have HRy:Hid (∀ W,Grown w W → Calls Tryz.prog 17 #[.agg #[.int .u8 (f:Int),vi,vc]] W (RLaid (c9 f) L.ws L.n s W)):=Lib.hid (fun W q => rLay_at W f hf vi vc xs cs (hi.grown q) (hc.grown q) hl1 hl2 hw L hL s hs)
 have HB:=Lib.hid (Box.made w [.int .u8 (f:Int),vi,vc] 25)
 have GB:Hid (Grown w (w.alloc (.cells #[.int .u8 (f:Int),vi,vc] 25))):=Lib.hid (by go_grown)
 have e0:=HB.out.cell 0 (.int .u8 (f:Int)) rfl
 have e1:=HB.out.cell 1 vi rfl
 have e2:=HB.out.cell 2 vc rfl
 clear hi hc hw hL hs
 go_enter Tryz.func34,Tryz.ntmps34
 go_wp2_with fail
 refine (HRy.out _ GB.out).mono ?_;rintro e w4 ⟨bk,cp,sl,rfl,hh,hlen,hrf,hlo,g4⟩
 obtain ⟨c,hcc⟩:∃ c,c9 f = c:=⟨_,rfl⟩
 rw [hcc]
 rw [hcc] at hrf
 obtain ⟨NO,hNO⟩:∃ n,s.ops.length = n:=⟨_,rfl⟩
 obtain ⟨A4,go,k4,e4,hA4,hgo,hops⟩:∃ (A4:Option Addr) (go k4:Nat),Value.slice sl.a4 sl.m4 sl.k4 = .slice A4 NO k4 ∧ (0 < NO → A4 = some ⟨go,0,none⟩) ∧ go < w4.heap.size ∧ (∀ j u,(flatC s.ops)[j]? = some u → w4.cell? ⟨go,j,none⟩ = some u):=by
  have hpos:0 < w4.heap.size:=by have:=GB.out.2.2;have:=g4.2.2;simp at *;omega
  rcases hrf.f4 with ⟨h0,hz,he⟩ | ⟨h0,g,cap,he,-,hr⟩
  ·exact ⟨none,0,0,by rw [he,← hNO,h0],fun h => by omega,hpos,fun j u hu => by rw [hz] at hu;simp at hu⟩
  ·refine ⟨_,g,cap,by rw [he,hNO],fun _ => rfl,?_,hr⟩
   have h1:0 < (flatC s.ops).length:=by rw [flatC_len];omega
   exact World.block_lt_of_cell? _ _ (hr 0 _ (List.getElem?_eq_getElem h1))
 have ga:Grown w4 (w4.alloc (.cells (RwL c bk c.len cp L.n sl).toArray 42)):=by go_grown
 have hbx:=Box.made w4 (RwL c bk c.len cp L.n sl) 42
 obtain ⟨T,hT⟩:∃ T,w4.heap.size = T:=⟨_,rfl⟩
 obtain ⟨wa,hwa⟩:∃ x,w4.alloc (.cells (RwL c bk c.len cp L.n sl).toArray 42) = x:=⟨_,rfl⟩
 rw [hwa] at ga hbx
 rw [hT] at hbx hgo
 have HG:Hid (Grown w wa):=Lib.hid (gtr GB.out (gtr g4 ga))
 obtain ⟨LT,hLT⟩:∃ l,RwL c bk c.len cp L.n sl = l:=⟨_,rfl⟩
 have HE15:Hid (LT[15]? = some (.slice A4 NO k4)):=Lib.hid (by rw [← hLT,← e4];rfl)
 rw [hLT] at hbx
 have HS:Hid (OpsR1 w T go LT (flatC s.ops) (.slice none 0 0) [] wa):=Lib.hid ⟨HG.out,hbx,fun j u hu => gcell ga (hops j u hu),own_nil _ _ _ _⟩
 have HA4:=Lib.hid hA4
 have HTw:Hid (w.heap.size ≤ T):=Lib.hid (by rw [← hT];exact Nat.le_trans GB.out.2.2 g4.2.2)
 have HWA:=Lib.hid hwa
 have HTT:=Lib.hid hT
 have HNO:=Lib.hid hNO
 have hno:NO < 20:=by omega
 clear hh hlen hrf hlo g4 ga e4 hA4 hops hbx hwa hT hLT HRy HB GB e0 e1 e2 hNO hso
 simp only [RwL] at HWA ⊢
 go_wp2_with fail
 rw [HWA.out,HTT.out]
 clear HWA HTT HG
 go_loopw [3,5] (fun s3 s5 wr => ∃ (i:Nat) (vt:Value),vt = s3 ∧ s5 = .int .i64 (i:Int) ∧ i ≤ NO ∧ OpsR1 w T go LT (flatC s.ops) vt (opsK 1 (s.ops.take i)) wr) (fun _ s5 _ => NO - (intOf s5).toNat)
 case atStart => exact ⟨0,.slice none 0 0,rfl,rfl,Nat.zero_le _,HS.out⟩
 case round =>
  clear HS
  obtain ⟨i,vt,rfl,rfl,hi2,hp⟩:=hrel
  obtain ⟨wo,hwo⟩:∃ x,x = wr:=⟨_,rfl⟩
  subst hwo
  have HP:=Lib.hid hp
  have e15:=hp.box.cell 15 _ HE15.out
  clear hp
  by_cases hiN:i < NO
  ·as_aux_lemma =>
    have hlt:(i:Int) < (NO:Int):=by omega
    obtain rfl:=HA4.out (by omega)
    obtain ⟨⟨n,⟨kd,ky,vl,lm⟩⟩,hx⟩:∃ x,s.ops[i]? = some x:=⟨_,List.getElem?_eq_getElem (by rw [HNO.out];exact hiN)⟩
    have HX:=Lib.hid hx
    have HSt:=Lib.hid (opsK_take (k:=1) hx)
    have c0:wo.cell? ⟨go,i * 5,none⟩ = some (.int .i64 (n:Int)):=HP.out.ops _ _ (by have:=flat_at (k:=5) (o:=0) (f:=fun p:Nat × Cal => [Value.int .i64 (p.1:Int),.int .i64 p.2.kind,.int .u64 p.2.key,.int .u64 p.2.val,.int .i64 p.2.lim]) (fun _ => rfl) (by decide) s.ops i _ hx;simpa [flatC] using this)
    have c1:wo.cell? ⟨go,i * 5 + 1,none⟩ = some (.int .i64 kd):=HP.out.ops _ _ (by have:=flat_at (k:=5) (o:=1) (f:=fun p:Nat × Cal => [Value.int .i64 (p.1:Int),.int .i64 p.2.kind,.int .u64 p.2.key,.int .u64 p.2.val,.int .i64 p.2.lim]) (fun _ => rfl) (by decide) s.ops i _ hx;simpa [flatC] using this)
    clear hx
    by_cases h32:32 ≤ n
    ·have d32:decide ((32:Int) ≤ (n:Int)) = true:=decide_eq_true (by omega)
     by_cases hk:kd = 1
     ·have ek:(kd == 1) = true:=by simpa using hk
      have HS2:Hid (opsK 1 (s.ops.take (i + 1)) = opsK 1 (s.ops.take i) ++ [(n:Int)]):=Lib.hid (HSt.out.trans (if_pos ⟨h32,hk⟩))
      have hln:(opsK 1 (s.ops.take i)).length ≤ 20:=Nat.le_trans (opsK_len _ _) (by rw [List.length_take];omega)
      obtain ⟨acc,hacc⟩:∃ l,opsK 1 (s.ops.take i) = l:=⟨_,rfl⟩
      rw [hacc] at HP hln HS2
      clear hk hacc HSt
      go_wp2_with (first | (at_builtin;refine pause ?_) | fail)
      unfold Pause
      have ga:Grown wo (wo.alloc (.cells #[.int .i64 (n:Int)] 3)):=by go_grown
      have hTw:=HP.out.box.lt
      refine wpList_add rfl _ _ 36 rfl (T + 1) 3 (.int .i64 0) 1 8 Tryz.underlying36 info_int rfl (by decide) vt acc.length (ints acc) (own_grown HP.out.told ga) _ 1 0 [.int .i64 (n:Int)] (.inr ⟨by decide,wo.heap.size,1,rfl,Nat.zero_le _,fun j u hj => ?news⟩) rfl (by simp [Value.oneCell']) (by omega) (by decide) (by simp;omega) rfl rfl ?_
      case news =>
       rcases j with _ | j
       ·cases hj;simp [go_sem]
       ·cases hj
      intro vt' W5 r5 fr5 q5
      have hin:∀ i,InRow vt i → T + 1 ≤ i:=fun i hi => (own_at HP.out.told hi).1
      have HN:Hid (OpsR1 w T go LT (flatC s.ops) vt' (acc ++ [(n:Int)]) W5):=Lib.hid ⟨But.fresh (gtr HP.out.g ga) q5 (fun i hi => by have h1:=hin i hi;have h2:=HTw.out;omega),(HP.out.box.grown ga).but q5 (fun hi => by have:=hin _ hi;omega),
       fun j u hu => q5.cell (fun hi => by have:=hin _ hi;omega) (gcell ga (HP.out.ops j u hu)),by simpa [ints] using r5⟩
      clear r5 fr5 q5 ga hin c0 c1 e15
      go_wp2_with fail
      exact ⟨⟨i + 1,vt',rfl,by simp,hiN,by rw [HS2.out];exact HN.out⟩,by simp [intOf];omega⟩
     ·have ek:(kd == 1) = false:=by simpa using hk
      have HS2:Hid (opsK 1 (s.ops.take (i + 1)) = opsK 1 (s.ops.take i)):=Lib.hid (HSt.out.trans (if_neg (fun h => hk h.2)))
      clear hk
      go_wp2_with fail
      exact ⟨⟨i + 1,vt,rfl,by simp,hiN,by rw [HS2.out];exact HP.out⟩,by simp [intOf];omega⟩
    ·have d32:decide ((32:Int) ≤ (n:Int)) = false:=decide_eq_false (by omega)
     have HS2:Hid (opsK 1 (s.ops.take (i + 1)) = opsK 1 (s.ops.take i)):=Lib.hid (HSt.out.trans (if_neg (fun h => h32 h.1)))
     clear h32
     go_wp2_with fail
     exact ⟨⟨i + 1,vt,rfl,by simp,hiN,by rw [HS2.out];exact HP.out⟩,by simp [intOf];omega⟩
  ·as_aux_lemma =>
    have hlt:¬ (i:Int) < (NO:Int):=by omega
    obtain rfl:i = NO:=by omega
    have HE:Hid (s.ops.take i = s.ops):=Lib.hid (by rw [← HNO.out,List.take_length])
    rw [HE.out] at HP
    go_wp2_with fail
    go_ret
    exact ⟨vt,rfl,own_rowC HP.out.told,HP.out.g⟩
end Go.Proofs.YtcogckjpmmjmbaaGreat
namespace Go.Proofs.YtcogckjpmmjmbaaGreat
open Go.ChangeShapes Go.WideShapes Go.ChangeAt Go.RowKit
set_option maxRecDepth 100000
set_option linter.unusedVariables false
structure OpsR2 (w0:World) (T go:Nat) (L:List Value) (fl:List Value) (vt:Value) (xs:List Int) (W:World):Prop where
 g:Grown w0 W
 box:Box W T L
 ops:∀ j u,fl[j]? = some u → W.cell? ⟨go,j,none⟩ = some u
 told:W.ownsRow (T + 1) 3 1 vt xs.length (ints xs)
theorem OpsR2.grown {w0 W W':World} {T go:Nat} {L fl:List Value} {vt:Value} {xs:List Int} (h:OpsR2 w0 T go L fl vt xs W) (q:Grown W W'):OpsR2 w0 T go L fl vt xs W' :=
 ⟨gtr h.g q,h.box.grown q,fun j u e => gcell q (h.ops j u e),own_grown h.told q⟩
end Go.Proofs.YtcogckjpmmjmbaaGreat
namespace Go.Proofs.YtcogckjpmmjmbaaGreat
open Go.ChangeShapes Go.WideShapes Go.ChangeAt Go.RowKit
set_option maxRecDepth 100000
set_option linter.unusedVariables false
set_option maxHeartbeats 16000000 in
theorem law_PlaceEnds (f:Nat) (vi vc:Value) (xs:List It) (cs:List Cal) (a:Int) (w:World) (hf:f ≤ 255) (hi:RowO w vi (flatI xs) xs.length) (hc:RowO w vc (flatK cs) cs.length) (hw:∀ x ∈ xs,x.Wf) (hck:∀ x ∈ cs,0 ≤ x.key) (l1:0 ≤ a) (u1:a ≤ 255) :
  Calls Tryz.prog 7 #[.agg #[.int .u8 (f:Int),vi,vc],.int .u8 a] w fun e w' => e = .returned (.bool true) ∧ Grown w w':=by
 obtain ⟨v,hv⟩:∃ v,decide (xs.length ≤ 12 ∧ cs.length ≤ 6) = v:=⟨_,rfl⟩
 obtain ⟨Ai,gi,oi,capi,rfl,hAi,hci⟩:=hi
 have hi:RowO w (.slice Ai xs.length capi) (flatI xs) xs.length:=⟨Ai,gi,oi,capi,rfl,hAi,hci⟩
 have HF:Hid (∀ W,Calls Tryz.prog 15 #[.agg #[.int .u8 (f:Int),.slice Ai xs.length capi,vc]] W fun e w' => e = .returned (.bool v) ∧ Grown W w'):=Lib.hid (fun W => by
  obtain ⟨A2,bb2,off2,cap2,rfl,-⟩:=hc
  exact Few9_at W f _ A2 _ _ _ _ v hv)
 have HV:=Lib.hid hv
 have HI:=Lib.hid hi
 have HC:=Lib.hid hc
 have HW:=Lib.hid hw
 have HCk:=Lib.hid hck
 have HOk:=Lib.hid (c9_ok hf)
 obtain ⟨m,hm⟩:∃ m,xs.length = m:=⟨_,rfl⟩
 have HM:=Lib.hid hm
 have HB:=Lib.hid (Box.made w [.int .u8 (f:Int),.slice Ai xs.length capi,vc] 25)
 have GB:Grown w (w.alloc (.cells #[.int .u8 (f:Int),.slice Ai xs.length capi,vc] 25)):=by go_grown
 rw [hm] at HF HB GB ⊢
 clear hv hi hc hw hck hAi hci hm
 go_enter Tryz.func7,Tryz.ntmps7
 go_wp2_with fail
 refine (awake11_at _).mono ?_;rintro e w1 ⟨rfl,g1⟩
 have HB1:=Lib.hid (HB.out.grown g1)
 have e0:=HB1.out.cell 0 (.int .u8 (f:Int)) rfl
 have e1:=HB1.out.cell 1 (.slice Ai m capi) rfl
 have e2:=HB1.out.cell 2 vc rfl
 have G1:=Lib.hid (gtr GB g1)
 clear GB g1 HB
 go_wp2_with fail
 refine (HF.out _).mono ?_;rintro e w2 ⟨rfl,g2⟩
 have HB2:=Lib.hid (HB1.out.grown g2)
 have G2:=Lib.hid (gtr G1.out g2)
 clear e0 e1 e2 g2 HB1 G1
 cases v
 ·go_wp2_with fail
  go_ret
  exact ⟨rfl,G2.out⟩
 ·obtain ⟨hl1,hl2⟩:=of_decide_eq_true HV.out
  obtain ⟨L,hL⟩:∃ L,layL (c9 f) (sortedI xs) = L:=⟨_,rfl⟩
  obtain ⟨s,hs⟩:∃ s,lyC (c9 f) L.s cs = s:=⟨_,rfl⟩
  have HLk:Hid (LyOk (c9 f) L xs.length):=Lib.hid (by
   have:=layL_ok (c9 f) (sortedI xs) (fun x hx => by obtain ⟨y,hy,he⟩:=sortedI_word hx;rw [he];exact (HW.out y hy).2.2) xs.length (by rw [sortedI_len];exact Nat.le_refl _)
   rwa [List.take_of_length_le (by rw [sortedI_len];exact Nat.le_refl _),hL] at this)
  have HInv:Hid (Inv (c9 f) s):=Lib.hid (by rw [← hs];exact lyC_inv _ HLk.out.inv)
  have HSc:Hid (Scn (c9 f) s L.ws (sortedI xs)):=Lib.hid (scn_of HOk.out rfl (Nat.le_trans hl1 (by simp only [c9];omega)) (Nat.le_trans hl1 (by simp only [c9];omega)) cs L hL s hs)
  have HSo:Hid (s.ops.length < 20 ∧ s.nodes.length ≤ 12):=Lib.hid (by
   have h2:=lyC_len (c9 f) cs L.s
   have h3:=HLk.out.ops
   have h4:=HLk.out.nodes
   rw [hs] at h2
   omega)
  have HLy:Hid (∀ W,Grown w W → Calls Tryz.prog 26 #[.agg #[.int .u8 (f:Int),.slice Ai m capi,vc]] W (LaidAt (c9 f) L.ws L.n s W)):=Lib.hid (fun W q => by rw [← HM.out];exact lay11_at W f hf (.slice Ai xs.length capi) vc xs cs (HI.out.grown q) (HC.out.grown q) hl1 hl2 (fun x hx => (HW.out x hx).2.2) L hL s hs)
  have HOp:Hid (∀ W,Grown w W → Calls Tryz.prog 34 #[.agg #[.int .u8 (f:Int),.slice Ai m capi,vc]] W fun e w' => ∃ v,e = .returned v ∧ RowC w' v (ints (opsK 1 s.ops)) (opsK 1 s.ops).length ∧ Grown W w'):=Lib.hid (fun W q => by rw [← HM.out];exact inserts_at W f hf (.slice Ai xs.length capi) vc xs cs (HI.out.grown q) (HC.out.grown q) hl1 hl2 (fun x hx => (HW.out x hx).2.2) L hL s hs HSo.out.1)
  have HO0:Hid (∀ op,op ∈ opsK 1 s.ops → Own0 (c9 f) s L.ws op (ids m)):=Lib.hid (fun op ho => own0_of hf hl1 (fun x hx => (HW.out x hx).2.2.1) cs hL hs (by have h4:=HLk.out.nodes;omega) (opsK_mem HInv.out ho).1 (opsK_mem HInv.out ho).2.1 _)
  have HKy:Hid (KeyOk s):=Lib.hid (by rw [← hs,← hL];exact lyC_key cs (layL_key _ (fun x hx => by obtain ⟨y,hy,he⟩:=sortedI_key hx;rw [he];exact (HW.out y hy).1.1)) HCk.out)
  have HNd:Hid (NdOk (c9 f) s):=Lib.hid (by rw [← hs,← hL];exact lyC_nd cs (layL_nd _))
  have HPb:Hid (PB (c9 f) s L.ws (ids m)):=Lib.hid (by rw [← HM.out];exact HSc.out.pb HLk.out.wok)
  have hn0:=HLk.out.n0
  have hn1:=HLk.out.n1
  have hnx:L.n ≤ 36:=by omega
  have hml:m ≤ 12:=by rw [← HM.out];exact hl1
  clear hL hs hn1
  obtain ⟨c,hcc⟩:∃ c,c9 f = c:=⟨_,rfl⟩
  have HOl:Hid (c.ops = 48):=Lib.hid (by rw [← hcc];rfl)
  have HCt:Hid (c.t = 3):=Lib.hid (by rw [← hcc];rfl)
  rw [hcc] at HLy HLk HInv HOk HSc HO0 HPb HNd
  clear hcc
  have e0:=HB2.out.cell 0 (.int .u8 (f:Int)) rfl
  have e1:=HB2.out.cell 1 (.slice Ai m capi) rfl
  have e2:=HB2.out.cell 2 vc rfl
  go_wp2_with fail
  refine (HLy.out _ G2.out).mono ?_;rintro e w3 ⟨d,rfl,g3,h3,f3⟩
  have HD:=Lib.hid h3
  have G3:=Lib.hid (gtr G2.out g3)
  have HB3:=Lib.hid (HB2.out.grown g3)
  have HFr:Hid (∀ i,Ow d i → w.heap.size < i):=Lib.hid (fun i hi => by have h1:=f3 i hi;have h2:=HB2.out.lt;omega)
  clear e0 e1 e2 g3 h3 f3 HB2 G2
  have e0:=HB3.out.cell 0 (.int .u8 (f:Int)) rfl
  have e1:=HB3.out.cell 1 (.slice Ai m capi) rfl
  have e2:=HB3.out.cell 2 vc rfl
  go_wp2_with fail
  refine (HOp.out _ G3.out).mono ?_;rintro e w4 ⟨vo,rfl,ro,g4⟩
  replace HD:=Lib.hid (HD.out.grown g4)
  replace G3:=Lib.hid (gtr G3.out g4)
  replace HB3:=Lib.hid (HB3.out.grown g4)
  clear e0 e1 e2 g4
  obtain ⟨lo,hlo⟩:∃ l,opsK 1 s.ops = l:=⟨_,rfl⟩
  rw [hlo] at ro HO0
  have HLo:=Lib.hid hlo
  clear hlo HLy HOp
  rcases lo with _ | ⟨op,lr⟩
  ·obtain ⟨Ax,capx,rfl⟩:∃ A cap,vo = .slice A 0 cap:=by
    rcases ro with ⟨rfl,-⟩ | ⟨g,cap,rfl,-⟩
    ·exact ⟨_,_,rfl⟩
    ·exact ⟨_,_,rfl⟩
   clear ro
   go_wp2_with fail
   go_ret
   exact ⟨rfl,G3.out⟩
  ·obtain ⟨go,capo,rfl,hol⟩:∃ go cap,vo = .slice (some ⟨go,0,none⟩) (lr.length + 1) cap ∧ w4.cell? ⟨go,0,none⟩ = some (.int .i64 op):=by
    rcases ro with ⟨-,h,-⟩ | ⟨g,cap,rfl,-,hc⟩
    ·simp at h
    ·exact ⟨g,cap,rfl,hc 0 _ rfl⟩
   have HMem:Hid (op ∈ opsK 1 s.ops):=Lib.hid (by rw [HLo.out];exact List.mem_cons_self ..)
   obtain ⟨o32,oL,xc,hxc,hxk⟩:=opsK_mem HInv.out HMem.out
   have HOw:=Lib.hid (HO0.out op (List.mem_cons_self ..))
   have HCal:Hid (lookI s.ops op = some xc ∧ xc.kind = 1):=Lib.hid ⟨hxc,hxk⟩
   obtain ⟨nl,hnl⟩:∃ n,lr.length + 1 = n:=⟨_,rfl⟩
   have hn1:1 ≤ nl:=by omega
   have HNl:=Lib.hid hnl
   rw [hnl]
   clear ro hnl hxc hxk HLo HO0
   have e9:((nl:Int) == 0) = false:=by simp;omega
   go_wp2_with fail
   refine (Sound_at _ c d L.ws L.n s HD.out HInv.out HLk.out.wok).mono ?_;rintro e w5 ⟨rfl,g5⟩
   obtain ⟨sd,hsd⟩:∃ b,sndTo c L.ws s c.b = b:=⟨_,rfl⟩
   rw [hsd]
   have HSd:=Lib.hid hsd
   replace HD:=Lib.hid (HD.out.grown g5)
   replace G3:=Lib.hid (gtr G3.out g5)
   replace HB3:=Lib.hid (HB3.out.grown g5)
   replace hol:=gcell g5 hol
   clear g5 hsd e9
   obtain ⟨th,hth⟩:∃ t,(a:Int).tmod 3 = t:=⟨_,rfl⟩
   have hth2:0 ≤ th ∧ th < 3:=by rw [← hth,Int.tmod_eq_emod_of_nonneg l1];omega
   have HTh:=Lib.hid hth
   go_wp2_with fail
   refine (pNew _ op th).mono ?_;rintro e w6 ⟨rfl,g6⟩
   have ga:Grown w6 (w6.alloc (.cells (newU op th).l.toArray 65)):=by go_grown
   have HB:=Box.made w6 (newU op th).l 65
   obtain ⟨T,hT⟩:∃ T,w6.heap.size = T:=⟨_,rfl⟩
   obtain ⟨wa,hwa⟩:∃ x,w6.alloc (.cells (newU op th).l.toArray 65) = x:=⟨_,rfl⟩
   rw [hwa] at HB ga
   rw [hT] at HB
   have HA0:Hid (PlAt wa c d T ⟨L.ws,L.n,s,newU op th⟩):=Lib.hid (PlAt.new HD.out (gtr g6 ga) HB (by have:=g6.2.2;omega))
   have Ga:=Lib.hid (gtr G3.out (gtr g6 ga))
   have HBa:=Lib.hid (HB3.out.grown (gtr g6 ga))
   have hwT:w.heap.size < T:=by have h1:=HB3.out.lt;have h2:=g6.2.2;omega
   have HNs:Hid (¬ So d T w.heap.size):=Lib.hid (by
    rintro (h | h)
    ·have:=HFr.out _ h;omega
    ·omega)
   have HWA:=Lib.hid hwa
   have HTT:=Lib.hid hT
   obtain ⟨y0,hy0⟩:∃ y:Ku,(⟨L.ws,L.n,s,newU op th⟩:Ku) = y:=⟨_,rfl⟩
   have HPI:Hid (PI c th op xc.key y0 (ids m) (24 * (ids m).length + 25)):=Lib.hid (by rw [← hy0];exact .ask0 ⟨hth2.1,by rw [HCt.out];exact hth2.2,by omega,oL,⟨xc,HCal.out.1,HCal.out.2,rfl⟩,by have:=HKy.out.cal op;unfold calAt at this;rw [HCal.out.1] at this;exact this,HInv.out⟩ HPb.out HOw.out.w HOw.out.nc (HOw.out.rm _))
   have HK:Hid (∀ k:Nat,UOk c (runU c y0 k) (36 + k) (12 + k)):=Lib.hid (fun k => UOk.run HOk.out (y:=y0) (by rw [← hy0];exact ⟨HLk.out.wok,⟨by simp [newU],by simp [newU],by simp [newU],by simp [newU]⟩,hn0,hnx,HInv.out,by simp [newU],by simp [newU],HSo.out.2,by have:=HSo.out.1;simp only;omega⟩) k)
   have HSnd:Hid (∀ k,sd = true → sndTo c (runU c y0 k).ws (runU c y0 k).s c.b = true):=Lib.hid (fun k h => by obtain ⟨l',b',-,-,h3⟩:=HPI.out.run k;exact h3 (by rw [← hy0];exact HSd.out.trans h))
   have HEd:Hid ((runU c y0 (40 * m + 40)).x.done = true):=Lib.hid (HPI.out.ends (by rw [ids_len];omega))
   have HXo:Hid (∀ k:Nat,(runU c y0 k).n = (runU c y0 k).n):=Lib.hid (fun _ => rfl)
   rw [hy0] at HA0
   clear g6 ga HB hwa hT G3 HD hol hy0 HB3
   simp only [newU,Put.l] at HWA ⊢
   go_wp2_with fail
   rw [HWA.out,HTT.out]
   clear HWA HTT
   go_loopw [10] (fun si wr => ∃ k:Nat,si = .int .i64 (k:Int) ∧ k ≤ 40 * m + 40 ∧ But (So d T) wa wr ∧ PlAt wr c d T (runU c y0 k)) (fun si _ => 40 * m + 40 - (intOf si).toNat)
   case atStart => exact ⟨0,rfl,Nat.zero_le _,But.refl _ _,HA0.out⟩
   case round =>
    clear HA0
    obtain ⟨k,rfl,hk,hq,hwk⟩:=hrel
    obtain ⟨wo,hwo⟩:∃ x,x = wr:=⟨_,rfl⟩
    subst hwo
    have HQ:=Lib.hid hq
    have HO:=Lib.hid (HK.out k)
    have e1:wo.cell? ⟨w.heap.size,1,none⟩ = some (.slice Ai m capi):=HQ.out.cell HNs.out (HBa.out.cell 1 _ rfl)
    by_cases hk2:k < 40 * m + 40
    ·as_aux_lemma =>
      have hlt:(k:Int) < 40 * (m:Int) + 40:=by omega
      have HS:Hid (runU c y0 (k + 1) = stepU c (runU c y0 k)):=Lib.hid rfl
      have HSn:=Lib.hid (HSnd.out (k + 1))
      have HO2:=Lib.hid (HK.out (k + 1))
      have hop:=(HXo.out k)
      rw [HS.out] at HSn HO2
      obtain ⟨y,hy⟩:∃ y,runU c y0 k = y:=⟨_,rfl⟩
      rw [hy] at hwk HO HS HSn HO2
      try rw [hy] at hop
      have HY:=Lib.hid hwk
      have HXop:=Lib.hid hop
      have m0:=HO.out.n0
      have m1:=HO.out.n1
      clear hwk hq hy hop
      go_wp2_with (first | (refine load_box rfl 65 _ rfl T rfl _ _ Tryz.underlying65 rfl (by kernel_rfl) HY.out.box ?_) | fail)
      refine (pStep _ c d y HY.out.wd HO.out.inv m0 (by omega) HO.out.wok HO.out.ok HO.out.u0 HO.out.u1 _ rfl).mono ?_;rintro e w7 ⟨rfl,q7⟩
      have H7:Hid (PlAt w7 c d T ⟨(stepU c y).ws,(stepU c y).n,(stepU c y).s,y.x⟩):=Lib.hid ⟨q7.2,HY.out.box.but q7.1 HY.out.nm,HY.out.nm,HY.out.nx,HY.out.hr⟩
      have Q7:Hid (But (So d T) wa w7):=Lib.hid (HQ.out.trans (q7.1.mono fun _ h => .inl h))
      clear q7 e1
      cases sd
      ·clear HSn
       go_wp2_with (first | (refine store_box rfl 65 _ _ rfl T _ H7.out.box _ rfl rfl rfl (by kernel_rfl) rfl ?_;intro w9 B_ q_;have H9:Hid (PlAt w9 c d T (stepU c y)):=Lib.hid (H7.out.put (x:=(stepU c y).x) B_ q_);have Q9:Hid (But (So d T) wa w9):=Lib.hid (Q7.out.trans (so_r q_));clear B_ q_) | fail)
       refine ⟨⟨k + 1,by simp,hk2,Q9.out,?_⟩,by simp [intOf];omega⟩
       rw [HS.out]
       exact H9.out
      ·have HSn1:=Lib.hid (HSn.out rfl)
       clear HSn
       go_wp2_with (first | (refine store_box rfl 65 _ _ rfl T _ H7.out.box _ rfl rfl rfl (by kernel_rfl) rfl ?_;intro w9 B_ q_;have H9:Hid (PlAt w9 c d T (stepU c y)):=Lib.hid (H7.out.put (x:=(stepU c y).x) B_ q_);have Q9:Hid (But (So d T) wa w9):=Lib.hid (Q7.out.trans (so_r q_));clear B_ q_) | fail)
       refine (Sound_at _ c d (stepU c y).ws (stepU c y).n (stepU c y).s H9.out.wd HO2.out.inv HO2.out.wok).mono ?_;rintro e w10 ⟨rfl,g10⟩
       rw [HSn1.out]
       have H10:=Lib.hid (H9.out.grown g10)
       have Q10:=Lib.hid (Q9.out.trans (But.of_grown g10))
       clear g10
       go_wp2_with fail
       refine ⟨⟨k + 1,by simp,hk2,Q10.out,?_⟩,by simp [intOf];omega⟩
       rw [HS.out]
       exact H10.out
    ·as_aux_lemma =>
      have hlt:¬ (k:Int) < 40 * (m:Int) + 40:=by omega
      obtain rfl:k = 40 * m + 40:=by omega
      have GE:Hid (Grown w wo):=Lib.hid (But.fresh Ga.out HQ.out (fun i hi => by
       rcases hi with h | h
       ·exact Nat.le_of_lt (HFr.out i h)
       ·omega))
      have cd:wo.cell? ⟨T,15,none⟩ = some (.bool true):=by rw [← HEd.out];exact hwk.box.cell 15 _ rfl
      clear hwk hq
      go_wp2_with fail
      go_ret
      exact ⟨rfl,GE.out⟩
end Go.Proofs.YtcogckjpmmjmbaaGreat
