/- Package take: what is done in a phase. -/
import Derived.Test.YtcogckjpmmjmbaaGreatQCTkP
import Derived.Test.YtcogckjpmmjmbaaGreatQCGPlP
import Derived.Test.YtcogckjpmmjmbaaGreatQCGWkCl
import Derived.Test.YtcogckjpmmjmbaaGreatQCGMapF
import Derived.Test.YtcogckjpmmjmbaaGreatQCMScene
import Derived.Test.YtcogckjpmmjmbaaGreatQCRLaid
import Derived.Test.YtcogckjpmmjmbaaGreatQCRPr
namespace Go.Proofs.YtcogckjpmmjmbaaGreat
open Go.ChangeShapes Go.WideShapes Go.ChangeAt Go.RowKit
set_option maxRecDepth 100000
set_option linter.unusedVariables false
theorem BookAt.otherV {w w':World} {c:Cf} {a:Ad} {s:St} {T:Nat} {v:Value} (h:BookAt w c a s) (q:But (· = T) w w') (hT:¬ (a.lo ≤ T ∧ T < a.hi)) (h1:w.cell? ⟨T,1,none⟩ = some v) (hv:∀ k,v ≠ .int .u64 k):BookAt w' c a s:=by
 have o1:=h.o1;have o2:=h.o2;have o3:=h.o3;have o4:=h.o4;have o5:=h.o5;have o6:=h.o6
 have hp:¬ a.p = T:=by omega
 refine ⟨h.ok,q.cell hp h.c0,q.cell hp h.c1,q.cell hp h.c2,q.cell hp h.c3,q.cell hp h.c4,q.cell hp h.c5,q.cell hp h.c6,q.cell hp h.c7,
  h.mw.but q (fun e => h.mw.ne h1 e.symm),h.mc.but q (fun e => h.mc.ne h1 e.symm),h.mn.but q (fun e => h.mn.ne h1 e.symm),
  fun j hj => q.cell (show ¬ a.bw + j = T by omega) (h.w0 j hj),fun j hj => q.cell (show ¬ a.bw + j = T by omega) (h.w1 j hj),fun j hj => q.cell (show ¬ a.bw + j = T by omega) (h.w2 j hj),fun j hj => q.cell (show ¬ a.bw + j = T by omega) (h.w3 j hj),
  fun j o hj => q.frozen (h.wf j o hj),fun n hn => ?_,fun n hn => q.frozen (h.sf n hn),fun n hn => ?_,fun n hn => q.frozen (h.nf n hn),o1,o2,o3,o4,o5,Nat.le_trans o6 q.2.2⟩
 ·have hb:¬ a.bc + n = T:=by omega
  have hs:=h.sc n hn
  cases e:look s.ops n with
  | none => rw [e] at hs;exact q.cell hb hs
  | some y =>
   rw [e] at hs
   obtain ⟨r,h0,h2,h3,h4,h5,h6,h7⟩:=hs
   have hr:¬ r = T:=fun e => by rw [e,h1] at h4;exact hv _ (Option.some.inj h4)
   exact ⟨r,h0,q.cell hb h2,q.cell hr h3,q.cell hr h4,q.cell hr h5,q.cell hr h6,q.shape hr h7⟩
 ·have hb:¬ a.bn + n = T:=by omega
  have hs:=h.sn n hn
  cases e:look s.nodes n with
  | none => rw [e] at hs;exact q.cell hb hs
  | some y =>
   rw [e] at hs
   obtain ⟨r,h0,h2,h3,h4⟩:=hs
   have hr:¬ r = T:=fun e => by
    subst e
    obtain ⟨e',n',hsh,hlt,-⟩:=World.shape?_of_cell? h1
    rw [h4] at hsh
    cases hsh
    simp at hlt
   exact ⟨r,h0,q.cell hb h2,q.cell hr h3,q.shape hr h4⟩
theorem WdAt.othV {w w':World} {c:Cf} {d:Wd} {ws:List Int} {n:Int} {s:St} {T:Nat} {v:Value} (h:WdAt w c d ws n s) (q:But (fun i => i = T) w w') (hT:d.a.hi ≤ T) (hm:¬ Mine d.p d.b T) (hx:¬ d.x = T)
  (h1:w.cell? ⟨T,1,none⟩ = some v) (hv:∀ k,v ≠ .int .u64 k):WdAt w' c d ws n s:=by
 have hp:¬ d.p = T:=fun e => hm (.inl e.symm)
 have hb:¬ d.b = T:=fun e => hm (.inr e.symm)
 have B:=h.bank
 exact ⟨q.cell hx h.k0,q.cell hx h.k1,q.cell hx h.k2,q.cell hx h.k3,q.cell hx h.k4,q.cell hx h.k5,q.cell hx h.k6,
  ⟨q.cell hp B.words,q.cell hp B.steps,fun i j hij => q.frozen (B.free i j hij),fun j hj => q.cell hb (B.cells j hj),B.apart,Nat.lt_of_lt_of_le B.ltb q.2.2,B.few⟩,
  h.book.otherV q (by omega) h1 hv,h.len,h.mine,h.o1,h.o2,h.o3⟩
structure TkAt (w:World) (c:Cf) (d:Wd) (s:St) (r:Nat) (y:Kt):Prop where
 wd:WdAt w c d y.ws y.n s
 box:Box w r y.x.l
 nm:¬ Ow d r
 nx:¬ d.x = r
 hr:d.a.hi ≤ r
theorem TkAt.grown {w w':World} {c:Cf} {d:Wd} {s:St} {r:Nat} {y:Kt} (h:TkAt w c d s r y) (g:Grown w w'):TkAt w' c d s r y:=⟨h.wd.grown g,h.box.grown g,h.nm,h.nx,h.hr⟩
theorem TkAt.put {w w':World} {c:Cf} {d:Wd} {s:St} {r:Nat} {y:Kt} {x:Tk} (h:TkAt w c d s r y) (hB:Box w' r x.l) (q:But (fun i => i = r) w w'):TkAt w' c d s r ⟨y.ws,y.n,x⟩ :=
 ⟨h.wd.othV q h.hr (fun m => h.nm (.inr m)) h.nx (h.box.cell 1 _ rfl) (fun _ e => by cases e),hB,h.nm,h.nx,h.hr⟩
theorem TkAt.step {w w':World} {c:Cf} {d:Wd} {s:St} {r:Nat} {y:Kt} {ws:List Int} {n:Int} (h:TkAt w c d s r y) (q:LeftW c d ws n s w w'):TkAt w' c d s r ⟨ws,n,y.x⟩ :=
 ⟨q.2,h.box.but q.1 (fun m => h.nm (.inr m)),h.nm,h.nx,h.hr⟩
end Go.Proofs.YtcogckjpmmjmbaaGreat
namespace Go.Proofs.YtcogckjpmmjmbaaGreat
set_option maxRecDepth 100000
set_option linter.unusedVariables false
theorem sortedI_key {xs:List It} {x:It} (h:x ∈ sortedI xs):∃ y ∈ xs,x.key = y.key:=by
 unfold sortedI at h
 obtain ⟨k,hk⟩:=List.getElem?_of_mem h
 rw [fixTo_get] at hk
 cases hc:(foldI xs)[k]? with
 | none => rw [hc] at hk;cases hk
 | some y =>
  rw [hc] at hk
  simp only [Option.map_some,Option.some.injEq] at hk
  refine ⟨y,?_,?_⟩
  ·rcases foldI_mem xs [] y (List.mem_of_getElem? hc) with h | h
   ·exact h
   ·cases h
  ·rw [← hk];split
   ·unfold keptI clr;split <;> rfl
   ·rfl
structure LW (c:Cf) (L:Ly):Prop where
 lay:Lay0 c L.ws
 inv:Inv c L.s
 low:∀ x ∈ L.s.nodes,x.2 < c.k
 o0:0 ≤ L.op
 o1:L.op < c.k
 a0:0 ≤ L.at_
 a1:L.at_ < c.nodes
 zero:∀ o:Int,c.k ≤ o → o < c.ops → wd c L.ws o = 0
 made:∀ j,at_ L.s.made j ≤ L.s.nodes.length
theorem begin_low {c:Cf} {s:St} (hI:Inv c s) (ok:c.Ok) (x:Cal):(beginI c s 0 x).2.1 < c.k:=by
 have k1:=ok.k1
 unfold beginI
 split
 ·simp only;omega
 ·unfold beginS
  split
  ·simp only;omega
  split
  ·simp only;omega
  ·rename_i h1 h2
   have:=hI.b1 0 (by have:=ok.t1;omega)
   simp only [Int.toNat_zero,Nat.zero_mul,Nat.zero_add] at *
   omega
theorem begin_made (c:Cf) (s:St) (th:Int) (x:Cal):(beginI c s th x).1.made = s.made ∧ (beginI c s th x).1.nodes = s.nodes:=by
 unfold beginI
 split
 ·exact ⟨rfl,rfl⟩
 ·unfold beginS
  repeat' split
  all_goals exact ⟨rfl,rfl⟩
theorem LW.begin_ {c:Cf} {L:Ly} (h:LW c L) (x:It) (hw:0 ≤ x.word):LW c (lyA c L x):=by
 have ok:=h.lay.ok
 have hlo:=begin_low h.inv ok ⟨1,x.key,x.val,0⟩
 obtain ⟨m1,m2⟩:=begin_made c L.s 0 ⟨1,x.key,x.val,0⟩
 have hk:(c.k:Int) ≤ c.ops:=by
  have h1:c.k * 1 ≤ c.k * c.t:=Nat.mul_le_mul_left _ ok.t1
  rw [Nat.mul_comm c.k c.t] at h1
  simp only [Cf.ops];omega
 refine ⟨h.lay.sw _ _ _,h.inv.beginI _ _,?_,?_,?_,h.a0,h.a1,fun o h1 h2 => ?_,fun j => ?_⟩
 ·simp only [lyA];rw [m2];exact h.low
 ·simp only [lyA];omega
 ·simp only [lyA];omega
 ·simp only [lyA]
  rw [wd_sw h.lay (by omega) (by omega),if_neg (by omega)]
  exact h.zero o h1 h2
 ·simp only [lyA];rw [m1,m2];exact h.made j
theorem LW.make_ {c:Cf} {L:Ly} (h:LW c L) (x:It):LW c (lyB c L x):=by
 have ok:=h.lay.ok
 have hnd:(makeI c L.s 0 L.op).2.1 < c.nodes:=by
  have b1:=nodes_lt ok
  unfold makeI
  split
  ·simp only;omega
  ·unfold makeS
   split
   ·simp only;omega
   ·rename_i h1 h2
    have hm:=h.inv.b3 0 (by have:=ok.t1;omega)
    have h3:c.k * 1 ≤ c.k * c.t:=Nat.mul_le_mul_left _ ok.t1
    rw [Nat.mul_comm c.k c.t] at h3
    simp only [Int.toNat_zero,Nat.zero_mul,Nat.add_zero,Cf.nodes] at *
    omega
 have l1:Lay0 c (lyW c L ((makeI c L.s 0 L.op).2.1:Nat)):=h.lay.wr _ _
 refine ⟨l1.wr _ _,h.inv.makeI _ _,?_,h.o0,h.o1,by simp only [lyB];omega,by simp only [lyB];omega,fun o h1 h2 => ?_,fun j => ?_⟩
 ·simp only [lyB]
  unfold makeI
  split
  ·exact h.low
  ·unfold makeS
   split
   ·exact h.low
   ·intro y hy
    simp only [List.mem_append,List.mem_singleton] at hy
    rcases hy with hy | hy
    ·exact h.low y hy
    ·subst hy
     have:=h.o1;have:=h.o0
     simp only
     omega
 ·simp only [lyB]
  rw [wd_wrn l1 (by omega) (by omega)]
  unfold lyW
  rw [wd_wrn h.lay h.a0 h.a1]
  exact h.zero o h1 h2
 ·simp only [lyB]
  have hm:=h.made j
  unfold makeI
  split
  ·exact hm
  ·unfold makeS
   split
   ·exact hm
   ·simp only [List.length_append,List.length_cons,List.length_nil]
    rw [at_bump (by rw [h.inv.l3];have:=ok.t1;omega)]
    split
    ·rename_i e;rw [e] at hm;omega
    ·omega
theorem Scn.pb {c:Cf} {s:St} {ws:List Int} {xs:List It} (h:Scn c s ws (sortedI xs)) (hw:∀ i:Int,0 ≤ rd ws i ∧ rd ws i ≤ 18446744073709551615):PB c s ws (ids xs.length):=by
 have hu:=h.up
 rw [sortedI_len] at hu
 have h1:=h.lk
 have h2:=h.sc
 rw [sortedI_len] at h1 h2
 exact ⟨h.lay,hw,h.b1,h1,ids_nd _,h2,h.hd,hu⟩
end Go.Proofs.YtcogckjpmmjmbaaGreat
namespace Go.Proofs.YtcogckjpmmjmbaaGreat
open Go.ChangeShapes Go.WideShapes Go.ChangeAt Go.RowKit Go.Deep
set_option maxRecDepth 100000
set_option linter.unusedVariables false
theorem call_cellsK {H:Type} {enc:TypeId × Value → H} {w:World} {base:Nat} {spare:Nat → Bool} {held:Bool} {fuel:Nat} {cs:List Value} {x:DataW H × List MemPlace}
  (h:DataW.trod enc Tryz.prog w base spare held fuel 80 cs = some x):∃ a:Cal,cs = a.l ∧ 0 ≤ a.key:=by
 obtain ⟨xs,n,-,-,hlen,hxl,hf⟩:=DataW.trod_struct Tryz.underlying80 h
 have hlen4:cs.length = 4:=hlen.trans (by kernel_rfl)
 have hx4:xs.length = 4:=hxl
 have c3:Tryz.prog.cellsOf 3 = 1:=by kernel_rfl
 have cu:Tryz.prog.cellsOf 46 = 1:=by kernel_rfl
 match cs,hlen4 with
 | [a0,a1,a2,a3],_ =>
  have f0:=hf 0 _ rfl
  have f1:=hf 1 _ rfl
  have f2:=hf 2 _ rfl
  have f3:=hf 3 _ rfl
  rw [List.getElem?_eq_getElem (by omega)] at f0 f1 f2 f3
  obtain ⟨k,hk,-⟩:=DataW.trod_int Tryz.underlying3 f0
  obtain ⟨v,hv,-,wv⟩:=DataW.trod_int Tryz.underlying46 f1
  obtain ⟨z,hz,-⟩:=DataW.trod_int Tryz.underlying46 f2
  obtain ⟨m,hm,-⟩:=DataW.trod_int Tryz.underlying3 f3
  simp [c3,cu] at hk hv hz hm
  subst hk hv hz hm
  exact ⟨⟨k,v,z,m⟩,rfl,(lit_u64 wv).1⟩
theorem open_sceneK {H:Type} {enc:TypeId × Value → H} {w:World} {r:Reach} {b base:Nat} {spare:Nat → Bool} {held:Bool} {v:Value} {d:DataW H} {p:List MemPlace}
  (hv:Value.okWide Tryz.prog w r b 25 v) (h:DataW.Trod enc Tryz.prog w base spare held 25 v d p) :
  ∃ (f:Nat) (vi vc:Value) (xs:List It) (cs:List Cal),v = .agg #[.int .u8 (f:Int),vi,vc] ∧ f ≤ 255 ∧ RowO w vi (flatI xs) xs.length ∧ RowO w vc (flatK cs) cs.length ∧ (∀ x ∈ xs,x.Wf) ∧ ∀ x ∈ cs,0 ≤ x.key:=by
 obtain ⟨cs,rfl,hs,hc⟩:=open_flat (n:=3) (ts:=[5,22,23]) (by kernel_rfl) (by kernel_rfl) (by kernel_rfl) hv
 obtain ⟨l⟩:=cs
 simp only [List.size_toArray] at hs
 match l,hs with
 | [c0,c1,c2],_ =>
  obtain ⟨f,rfl,wf⟩:=cell_int Tryz.underlying5 (hc 0 _ 5 rfl rfl)
  obtain ⟨f0,f1⟩:=has_u8 wf
  obtain ⟨fuel,hf⟩:=h
  obtain ⟨xs,n,-,-,-,hxl,hg⟩:=DataW.trod_struct Tryz.underlying25 hf
  have hx3:xs.length = 3:=hxl
  have g1:=hg 1 _ rfl
  have g2:=hg 2 _ rfl
  rw [List.getElem?_eq_getElem (by omega)] at g1 g2
  simp only [Value.cells] at g1 g2
  obtain ⟨ys,h1,h2⟩:=open_rowO (f:=It.l) (k:=5) Tryz.underlying22 (by kernel_rfl) (by decide) (fun _ => rfl) (fun h => item_cells h) g1
  obtain ⟨zs,h3,h4⟩:=open_rowO (f:=Cal.l) (k:=4) (G:=fun x => 0 ≤ x.key) Tryz.underlying23 (by kernel_rfl) (by decide) (fun _ => rfl) (fun h => call_cellsK h) g2
  exact ⟨f.toNat,c1,c2,ys,zs,by simp;omega,by omega,h1,h3,h2,h4⟩
end Go.Proofs.YtcogckjpmmjmbaaGreat
namespace Go.Proofs.YtcogckjpmmjmbaaGreat
open Go.ChangeShapes Go.WideShapes Go.ChangeAt Go.RowKit
set_option maxRecDepth 100000
set_option linter.unusedVariables false
structure OpsR1 (w0:World) (T go:Nat) (L:List Value) (fl:List Value) (vt:Value) (xs:List Int) (W:World):Prop where
 g:Grown w0 W
 box:Box W T L
 ops:∀ j u,fl[j]? = some u → W.cell? ⟨go,j,none⟩ = some u
 told:W.ownsRow (T + 1) 3 1 vt xs.length (ints xs)
theorem OpsR1.grown {w0 W W':World} {T go:Nat} {L fl:List Value} {vt:Value} {xs:List Int} (h:OpsR1 w0 T go L fl vt xs W) (q:Grown W W'):OpsR1 w0 T go L fl vt xs W' :=
 ⟨gtr h.g q,h.box.grown q,fun j u e => gcell q (h.ops j u e),own_grown h.told q⟩
end Go.Proofs.YtcogckjpmmjmbaaGreat
namespace Go.Proofs.YtcogckjpmmjmbaaGreat
open Go.ChangeShapes Go.WideShapes Go.ChangeAt Go.RowKit
set_option maxRecDepth 100000
set_option linter.unusedVariables false
structure OpsR2 (w0:World) (T go:Nat) (L:List Value) (fl:List Value) (vt:Value) (xs:List Int) (W:World):Prop where
 g:Grown w0 W
 box:Box W T L
 ops:∀ j u,fl[j]? = some u → W.cell? ⟨go,j,none⟩ = some u
 told:W.ownsRow (T + 1) 3 1 vt xs.length (ints xs)
theorem OpsR2.grown {w0 W W':World} {T go:Nat} {L fl:List Value} {vt:Value} {xs:List Int} (h:OpsR2 w0 T go L fl vt xs W) (q:Grown W W'):OpsR2 w0 T go L fl vt xs W' :=
 ⟨gtr h.g q,h.box.grown q,fun j u e => gcell q (h.ops j u e),own_grown h.told q⟩
end Go.Proofs.YtcogckjpmmjmbaaGreat
