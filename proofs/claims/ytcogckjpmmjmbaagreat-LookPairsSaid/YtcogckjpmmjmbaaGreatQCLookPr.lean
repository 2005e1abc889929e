/- LookPairs (corrielaw09), walked. -/
import Derived.Test.YtcogckjpmmjmbaaGreatQCMAct
import Derived.Test.YtcogckjpmmjmbaaGreatQCGMRS
import Derived.Test.YtcogckjpmmjmbaaGreatQCMScene
import Derived.Test.YtcogckjpmmjmbaaGreatQCMRefW
import Derived.Test.YtcogckjpmmjmbaaGreatQCRPr
import Derived.Test.YtcogckjpmmjmbaaGreatQCRSnd
import Derived.Test.YtcogckjpmmjmbaaGreatQCGWkCl
import Derived.Test.YtcogckjpmmjmbaaGreatQCGTkA
namespace Go.Proofs.YtcogckjpmmjmbaaGreat
open Go.ChangeShapes Go.WideShapes Go.ChangeAt Go.RowKit
set_option maxRecDepth 100000
set_option linter.unusedVariables false
set_option maxHeartbeats 16000000 in
theorem law_LookPairs (f:Nat) (vi vc:Value) (xs:List It) (cs:List Cal) (A:Option Addr) (bb off m cap:Nat) (w:World) (hf:f ≤ 255) (hi:RowO w vi (flatI xs) xs.length) (hc:RowO w vc (flatK cs) cs.length) (hw:∀ x ∈ xs,x.Wf) (hck:∀ x ∈ cs,0 ≤ x.key) (hA:0 < m → A = some ⟨bb,off,none⟩) (hN:NumsAt w bb off m [.u8,.i64,.u16,.u64,.u64]) :
  Calls Tryz.prog 3 #[.agg #[.int .u8 (f:Int),vi,vc],.slice A m cap] w fun e w' => e = .returned (.bool true) ∧ Grown w w':=by
 obtain ⟨v,hv⟩:∃ v,decide (xs.length ≤ 12 ∧ cs.length ≤ 6) = v:=⟨_,rfl⟩
 have HF:Hid (∀ W,Calls Tryz.prog 15 #[.agg #[.int .u8 (f:Int),vi,vc]] W fun e w' => e = .returned (.bool v) ∧ Grown W w'):=Lib.hid (fun W => by
  obtain ⟨A,bb,off,cap,rfl,-⟩:=hi
  obtain ⟨A2,bb2,off2,cap2,rfl,-⟩:=hc
  exact Few9_at W f A A2 _ _ _ _ v hv)
 obtain ⟨act,hact⟩:=actsX_of hN
 have HN:=Lib.hid hact
 have HAd:=Lib.hid hA
 have HV:=Lib.hid hv
 have HI:=Lib.hid hi
 have HC:=Lib.hid hc
 have HW:=Lib.hid hw
 have HCk:=Lib.hid hck
 have HOk:=Lib.hid (c9_ok hf)
 have HB:=Lib.hid (Box.made w [.int .u8 (f:Int),vi,vc] 25)
 have GB:Grown w (w.alloc (.cells #[.int .u8 (f:Int),vi,vc] 25)):=by go_grown
 clear hv hi hc hw hck hA hN hact
 go_enter Tryz.func3,Tryz.ntmps3
 go_wp2_with fail
 refine (awake_at _).mono ?_;rintro e w1 ⟨rfl,g1⟩
 have HB1:=Lib.hid (HB.out.grown g1)
 have e0:=HB1.out.cell 0 _ rfl
 have e1:=HB1.out.cell 1 _ rfl
 have e2:=HB1.out.cell 2 _ rfl
 have G1:=Lib.hid (gtr GB g1)
 clear GB g1 HB
 go_wp2_with fail
 refine (HF.out _).mono ?_;rintro e w2 ⟨rfl,g2⟩
 have HB2:=Lib.hid (HB1.out.grown g2)
 have G2:=Lib.hid (gtr G1.out g2)
 clear e0 e1 e2 g2 HB1 G1
 cases v
 ·go_wp2_with fail
  go_ret
  exact ⟨rfl,G2.out⟩
 ·by_cases hml:20 < m
  ·have hml':(20:Int) < (m:Int):=by omega
   go_wp2_with fail
   go_ret
   exact ⟨rfl,G2.out⟩
  ·have hml':¬ (20:Int) < (m:Int):=by omega
   have hm20:m ≤ 20:=by omega
   obtain ⟨hl1,hl2⟩:=of_decide_eq_true HV.out
   obtain ⟨L,hL⟩:∃ L,layL (c9 f) (sortedI xs) = L:=⟨_,rfl⟩
   obtain ⟨s,hs⟩:∃ s,lyC (c9 f) L.s cs = s:=⟨_,rfl⟩
   have HLy:Hid (∀ W,Grown w W → Calls Tryz.prog 16 #[.agg #[.int .u8 (f:Int),vi,vc]] W (LaidAt (c9 f) L.ws L.n s W)):=Lib.hid (fun W q => lay_at W f hf vi vc xs cs (HI.out.grown q) (HC.out.grown q) hl1 hl2 (fun x hx => (HW.out x hx).2.2) L hL s hs)
   have HRy:Hid (∀ W,Grown w W → Calls Tryz.prog 17 #[.agg #[.int .u8 (f:Int),vi,vc]] W (RLaid (c9 f) L.ws L.n s W)):=Lib.hid (fun W q => rLay_at W f hf vi vc xs cs (HI.out.grown q) (HC.out.grown q) hl1 hl2 (fun x hx => (HW.out x hx).2.2) L hL s hs)
   have HLk:Hid (LyOk (c9 f) L xs.length):=Lib.hid (by
    have:=layL_ok (c9 f) (sortedI xs) (fun x hx => by obtain ⟨y,hy,he⟩:=sortedI_word hx;rw [he];exact (HW.out y hy).2.2) xs.length (by rw [sortedI_len];exact Nat.le_refl _)
    rwa [List.take_of_length_le (by rw [sortedI_len];exact Nat.le_refl _),hL] at this)
   have HInv:Hid (Inv (c9 f) s):=Lib.hid (by rw [← hs];exact lyC_inv _ HLk.out.inv)
   have HFew:Hid ((rawP (c9 f) L.ws s).length < 20):=Lib.hid (by
    have h1:=raw_few (c9 f) L.ws s
    have h2:=(lyC_len (c9 f) cs L.s).1
    have h3:=HLk.out.ops
    rw [hs] at h2
    omega)
   have HSo:Hid (s.ops.length ≤ 18 ∧ s.nodes.length ≤ 12):=Lib.hid (by
    have h2:=lyC_len (c9 f) cs L.s
    have h3:=HLk.out.ops
    have h4:=HLk.out.nodes
    rw [hs] at h2
    omega)
   have hn0:=HLk.out.n0
   have hn1:=HLk.out.n1
   have HKy:Hid (KeyOk s):=Lib.hid (by rw [← hs,← hL];exact lyC_key cs (layL_key _ (fun x hx => by obtain ⟨y,hy,he⟩:=sortedI_key hx;rw [he];exact (HW.out y hy).1.1)) HCk.out)
   have hnx:L.n ≤ 36:=by omega
   clear hL hs hn1
   obtain ⟨c,hcc⟩:∃ c,c9 f = c:=⟨_,rfl⟩
   have HCl:Hid (c.len = 149):=Lib.hid (by rw [← hcc];rfl)
   rw [hcc] at HLy HRy HLk HInv HFew HOk
   have HCC:=Lib.hid hcc
   clear hcc
   have e0:=HB2.out.cell 0 _ rfl
   have e1:=HB2.out.cell 1 _ rfl
   have e2:=HB2.out.cell 2 _ rfl
   go_wp2_with fail
   refine (HLy.out _ G2.out).mono ?_;rintro e w3 ⟨d,rfl,g3,h3,f3⟩
   have HD:=Lib.hid h3
   have G3:=Lib.hid (gtr G2.out g3)
   have HB3:=Lib.hid (HB2.out.grown g3)
   have HFr:Hid (∀ i,Ow d i → w.heap.size ≤ i):=Lib.hid (fun i hi => Nat.le_trans G2.out.2.2 (f3 i hi))
   clear e0 e1 e2 g3 h3 f3 HB2 G2
   have e0:=HB3.out.cell 0 _ rfl
   have e1:=HB3.out.cell 1 _ rfl
   have e2:=HB3.out.cell 2 _ rfl
   go_wp2_with fail
   refine (HRy.out _ G3.out).mono ?_;rintro e w4 ⟨bk,cp,sl,rfl,hh,hlen,hrf,hlo,g4⟩
   obtain ⟨hi,hhi⟩:∃ x,w3.heap.size = x:=⟨_,rfl⟩
   rw [hhi] at hrf hlo
   have HNew:Hid (∀ i,hi ≤ i → ¬ Mine d.p d.b i ∧ ¬ d.x = i ∧ d.a.hi ≤ i):=Lib.hid (fun i h => ⟨HD.out.new (by omega),fun e => by have:=HD.out.xlt;omega,Nat.le_trans HD.out.book.o6 (by omega)⟩)
   have hb4:bk < w4.heap.size:=World.block_lt_of_cell? w4 _ (hh 0 (by rw [hlen,HCl.out];decide))
   have h34:=g4.2.2
   have ga:Grown w4 (w4.alloc (.cells (RwL c bk c.len cp L.n sl).toArray 42)):=by go_grown
   have HDV:Hid (DV hi c w4.heap.size L.ws L.n s bk cp sl (w4.alloc (.cells (RwL c bk c.len cp L.n sl).toArray 42))):=Lib.hid ⟨Box.made w4 _ _,hh.grown ga,hlen,hrf.grown ga,hlo,hrf.offNew HInv.out (Nat.le_refl _),by omega⟩
   have HDa:=Lib.hid ((HD.out.grown g4).grown ga)
   have Ga:=Lib.hid (gtr G3.out (gtr g4 ga))
   obtain ⟨T,hT⟩:∃ T,w4.heap.size = T:=⟨_,rfl⟩
   obtain ⟨wa,hwa⟩:∃ x,w4.alloc (.cells (RwL c bk c.len cp L.n sl).toArray 42) = x:=⟨_,rfl⟩
   have hTi:hi ≤ T:=by omega
   have hwhi:w.heap.size ≤ hi:=by rw [← hhi];exact G3.out.2.2
   rw [hwa] at HDV HDa Ga
   rw [hT] at HDV
   clear e0 e1 e2 hh hlen hrf hlo g4 ga hb4 h34 HB3 HD hhi
   simp only [RwL] at hwa ⊢
   have HWA:=Lib.hid hwa
   have HTT:=Lib.hid hT
   clear hwa hT
   go_wp2_with fail
   rw [HWA.out,HTT.out]
   clear HWA HTT
   have HRz:Hid (∀ k,k ≤ m → WOk (runX c (fun k => decide (k % 2 = 0)) act (L.ws,L.n) k).1):=Lib.hid (fun k hk => runX_ok c _ act (L.ws,L.n) HLk.out.wok m (fun j hj => (HN.out j hj).2.2.2.2.2.2) k hk)
   go_loopw [8] (fun sI wr => ∃ k:Nat,sI = .int .i64 (k:Int) ∧ k ≤ m ∧ But (fun i => Mine d.p d.b i ∨ i = T) wa wr ∧ WdAt wr c d (runX c (fun k => decide (k % 2 = 0)) act (L.ws,L.n) k).1 (runX c (fun k => decide (k % 2 = 0)) act (L.ws,L.n) k).2 s ∧ ∃ bk cp,DV hi c T (runX c (fun k => decide (k % 2 = 0)) act (L.ws,L.n) k).1 (runX c (fun k => decide (k % 2 = 0)) act (L.ws,L.n) k).2 s bk cp sl wr) (fun sI _ => m - (intOf sI).toNat)
   case atStart => exact ⟨0,rfl,Nat.zero_le _,But.refl _ _,HDa.out,bk,cp,HDV.out⟩
   case round =>
    clear HDV
    obtain ⟨k,rfl,hk,hq,hwd,bk,cp,hdv⟩:=hrel
    obtain ⟨wo,hwo⟩:∃ x,x = wr:=⟨_,rfl⟩
    subst hwo
    have HQ:=Lib.hid hq
    obtain ⟨y0,y1⟩:=runX_n c (fun k => decide (k % 2 = 0)) act (L.ws,L.n) k
    have HWk:=Lib.hid (HRz.out k hk)
    by_cases hkm:k < m
    ·as_aux_lemma =>
      have hlt:(k:Int) < (m:Int):=by omega
      obtain rfl:=HAd.out (by omega)
      have HStep:=Lib.hid (runX_step c (fun k => decide (k % 2 = 0)) act (L.ws,L.n) k)
      obtain ⟨⟨ws,n⟩,hy⟩:∃ y,runX c (fun k => decide (k % 2 = 0)) act (L.ws,L.n) k = y:=⟨_,rfl⟩
      rw [hy] at hwd hdv y0 y1 HStep
      simp only at hwd hdv y0 y1 HStep
      have HDk:=Lib.hid hwd
      have HDv:=Lib.hid hdv
      obtain ⟨⟨ak,ai,ao,aold,av⟩,hax⟩:∃ x,act k = x:=⟨_,rfl⟩
      obtain ⟨n0,n1,n2,n3,n4,n5,n6⟩:=HN.out k hkm
      rw [hax] at n0 n1 n2 n3 n4 n5 n6 HStep
      simp only at n0 n1 n2 n3 n4 n5 n6
      obtain ⟨r,hr⟩:∃ r,actX c (decide (ak % 2 = 0)) ws n ⟨ak,ai,ao,aold,av⟩ = r:=⟨_,rfl⟩
      have HStep2:Hid (runX c (fun k => decide (k % 2 = 0)) act (L.ws,L.n) (k + 1) = r):=Lib.hid (HStep.out.trans hr)
      have HR:=Lib.hid hr
      have hrl:r.1.length = ws.length:=by rw [← hr];exact actX_len _ _ _ _ _
      have hbb:bb < w.heap.size:=World.block_lt_of_cell? w _ n0
      have HNs:Hid (¬ (Mine d.p d.b bb ∨ bb = T)):=Lib.hid (by rintro (h | h);exact absurd (HFr.out _ (.inr h)) (by omega);have:=G3.out.2.2;omega)
      have nn0:0 ≤ n:=by omega
      have nn1:n < 4611686018427387904:=by omega
      have N0:=Lib.hid n0;have N1:=Lib.hid n1;have N2:=Lib.hid n2;have N3:=Lib.hid n3;have N4:=Lib.hid n4
      clear hwd hdv hy hax n0 n1 n2 n3 n4 hr hq HStep
      go_wp2_with fail
      refine wp_region_planb (fun i => Mine d.p d.b i ∨ i = T) (.one [0,2,3,4,5] 1 (.one [] 6 (.one [] 7 (.fin [])))) (by kernel_rfl) (by kernel_rfl) (by kernel_rfl) ?_
      intro w5 g5
      have HD5:=Lib.hid (HDk.out.grown g5)
      have HV5:=Lib.hid (HDv.out.grown g5)
      have Q5:=Lib.hid (HQ.out.trans (But.of_grown g5))
      have d0:∀ q:ButW (fun i => Mine d.p d.b i ∨ i = T) w5,q.w.cell? ⟨bb,off + k * 5,none⟩ = some (.int .u8 ak):=ButW.cell HNs.out (Q5.out.cell HNs.out (gcell Ga.out N0.out))
      have d1:∀ q:ButW (fun i => Mine d.p d.b i ∨ i = T) w5,q.w.cell? ⟨bb,off + k * 5 + 1,none⟩ = some (.int .i64 ai):=ButW.cell HNs.out (Q5.out.cell HNs.out (gcell Ga.out N1.out))
      have d2:∀ q:ButW (fun i => Mine d.p d.b i ∨ i = T) w5,q.w.cell? ⟨bb,off + k * 5 + 2,none⟩ = some (.int .u16 ao):=ButW.cell HNs.out (Q5.out.cell HNs.out (gcell Ga.out N2.out))
      have d3:∀ q:ButW (fun i => Mine d.p d.b i ∨ i = T) w5,q.w.cell? ⟨bb,off + k * 5 + 3,none⟩ = some (.int .u64 aold):=ButW.cell HNs.out (Q5.out.cell HNs.out (gcell Ga.out N3.out))
      have d4:∀ q:ButW (fun i => Mine d.p d.b i ∨ i = T) w5,q.w.cell? ⟨bb,off + k * 5 + 4,none⟩ = some (.int .u64 av):=ButW.cell HNs.out (Q5.out.cell HNs.out (gcell Ga.out N4.out))
      clear g5
      refine plan_one ?_
      simp only [nths,nth,List.map_cons,List.map_nil,List.getD_cons_zero,List.getD_cons_succ]
      repeat go_big_quiet_step (fail)
      clear d0 d1 d2 d3 d4
      refine wpQuiet_nil ?_
      go_wp2_with (first | (refine load_box rfl 42 _ rfl T rfl _ _ Tryz.underlying42 rfl (by kernel_rfl) HV5.out.box ?_) | fail)
      refine nxt_but (But.refl _ _) (plan_one ?_)
      simp only [nths,nth,List.map_nil,List.getD_cons_zero,List.getD_cons_succ]
      refine wpQuiet_nil ?_
      go_wp2_with fail
      refine (act09_at _ c d sl bk c.len cp ws n s HD5.out HV5.out.len HV5.out.holds (by rw [HCl.out];decide) (HNew.out _ HV5.out.lo).1 nn0 nn1 ⟨ak,ai,ao,aold,av⟩ n5 r HR.out).mono ?_;rintro e w6 ⟨b2,cp2,rfl,q6,h6,hh6,ho6⟩
      have hlo2:hi ≤ b2:=by have h1:=HV5.out.lo;have h2:=HV5.out.box.lt;omega
      have hne2:b2 ≠ T:=by have h1:=HV5.out.ne;have h2:=HV5.out.box.lt;omega
      have HV6:=Lib.hid (HV5.out.but q6 (fun i hi => (HNew.out i hi).1) (HNew.out _ hTi).1)
      have HD6:=Lib.hid h6
      have Q6:But (fun i => Mine d.p d.b i ∨ i = T) w5 w6:=q6.mono fun _ h => .inl h
      clear q6 h6 ho6
      go_wp2_with fail
      refine nxt_but Q6 (plan_one ?_)
      simp only [nths,nth,List.map_nil,List.getD_cons_zero,List.getD_cons_succ]
      refine wpQuiet_nil ?_
      go_wp2_with (first | (refine store_box rfl 42 _ _ rfl T _ HV6.out.box _ rfl rfl rfl (by kernel_rfl) rfl ?_;intro w9 B_ q_;have HV9:Hid (DV hi c T r.1 r.2 s b2 cp2 sl w9):=Lib.hid (HV6.out.words hh6 hrl hlo2 hne2 q_ B_);have HD9:Hid (WdAt w9 c d r.1 r.2 s):=Lib.hid (HD6.out.oth q_ (HNew.out _ hTi).2.2 (HNew.out _ hTi).1 (HNew.out _ hTi).2.1 (HV6.out.box.cell 1 _ rfl));have Q9:But (fun i => Mine d.p d.b i ∨ i = T) w5 w9:=Q6.trans (q_.mono fun _ h => .inr h);clear B_ q_) | fail)
      refine nxt_but Q9 (plan_fin ?_)
      simp only [nths,List.map_nil]
      refine wpQuiet_nil ?_
      go_wp2_with fail
      refine ⟨⟨k + 1,by simp,hkm,Q5.out.trans Q9,?_⟩,by simp [intOf];omega⟩
      rw [HStep2.out]
      exact ⟨HD9.out,b2,cp2,HV9.out⟩
    ·as_aux_lemma =>
      have hlt:¬ (k:Int) < (m:Int):=by omega
      obtain rfl:k = m:=by omega
      obtain ⟨⟨ws,n⟩,hy⟩:∃ y,runX c (fun k => decide (k % 2 = 0)) act (L.ws,L.n) k = y:=⟨_,rfl⟩
      rw [hy] at hwd hdv y0 y1 HWk
      simp only at hwd hdv y0 y1 HWk
      have HDk:=Lib.hid hwd
      have HDv:=Lib.hid hdv
      have nn0:0 ≤ n:=by omega
      have nn1:n < 4611686018427387904:=by omega
      have GE:Hid (Grown w wo):=Lib.hid (But.fresh Ga.out HQ.out (fun i hi => by
       rcases hi with h | h
       ·exact HFr.out i (.inr h)
       ·omega))
      clear hwd hdv hy hq
      have k5:=HDk.out.k5
      have HFw2:Hid ((rawP c ws s).length < 20):=Lib.hid (by have h1:=raw_few c ws s;have h2:=HSo.out.1;omega)
      obtain ⟨V,hV⟩:∃ V,sndTo c ws s c.b = V:=⟨_,rfl⟩
      have HVs:=Lib.hid hV
      have e8:(V == V) = true:=by simp
      have e7:(n == n) = true:=by simp
      clear hV
      go_wp2_with fail
      refine (Steps_at _ d.p d.b _ _ HDk.out.bank).mono ?_;rintro e w4 ⟨rfl,g4⟩
      have HD4:=Lib.hid (HDk.out.grown g4)
      have HV4:=Lib.hid (HDv.out.grown g4)
      have G4:=Lib.hid (gtr GE.out g4)
      clear k5 g4
      go_wp2_with fail
      refine wp_region_plang (.one [0,1,2,4] 3 (.one [] 5 (.one [] 6 (.one [7,8,9,11] 10 (.one [] 12 (.one [13,14,15,16,17,18,19,21] 20 (.fin [22,23,24]))))))) (by kernel_rfl) (by kernel_rfl) (by kernel_rfl) ?_
      intro w5 g5
      have HD5:=Lib.hid (HD4.out.grown g5)
      have HV5:=Lib.hid (HV4.out.grown g5)
      have G5:=Lib.hid (gtr G4.out g5)
      clear g5
      refine plan_one ?_
      simp only [nths,nth,List.map_cons,List.map_nil,List.getD_cons_zero,List.getD_cons_succ]
      repeat (first | (refine wpQuiet_load_boxg (by rfl) 42 _ rfl T rfl _ _ Tryz.underlying42 rfl (by kernel_rfl) (Box.grw HV5.out.box) ?_;simp only [Act.put,List.setIfInBounds_toArray,List.set_cons_succ,List.set_cons_zero]) | go_big_quiet_step (fail))
      refine wpQuiet_nil ?_
      go_wp2_with fail
      refine (Pairs_at _ c d ws n s HD5.out HInv.out HWk.out HFw2.out).mono ?_;rintro e w6 ⟨v6,rfl,fl6,g6⟩
      have HD6:=Lib.hid (HD5.out.grown g6)
      have HV6:=Lib.hid (HV5.out.grown g6)
      have G6:=Lib.hid (gtr G5.out g6)
      go_wp2_with fail
      refine nxt_grow g6 (plan_one ?_)
      clear g6
      simp only [nths,nth,List.map_nil,List.getD_cons_zero,List.getD_cons_succ]
      refine wpQuiet_nil ?_
      go_wp2_with fail
      refine (rPairs_at _ 0 c bk c.len cp ws n s sl ⟨HV6.out.holds,HV6.out.len,by rw [HCl.out];decide,RefS.mono HV6.out.refs (Nat.zero_le _),Nat.zero_le _⟩ HOk.out HWk.out (by have:=HSo.out.1;omega) (by have:=HSo.out.2;omega) nn0 nn1 HFw2.out).mono ?_;rintro e w7 ⟨v7,rfl,fl7,g7⟩
      replace fl6:=FlatAt.grown fl6 g7
      have HD7:=Lib.hid (HD6.out.grown g7)
      have HV7:=Lib.hid (HV6.out.grown g7)
      have G7:=Lib.hid (gtr G6.out g7)
      go_wp2_with fail
      refine nxt_grow g7 (plan_one ?_)
      clear g7
      simp only [nths,nth,List.map_nil,List.getD_cons_zero,List.getD_cons_succ]
      refine wpQuiet_nil ?_
      have hpl:(sortP (rawP c ws s)).length ≤ 99999:=by rw [sortP_len];have:=HFw2.out;omega
      go_wp2_with fail
      refine (sameP_at _ _ _ v6 v7 _ fl6 fl7 hpl).mono ?_;rintro e w8 ⟨rfl,g8⟩
      clear fl6 fl7 hpl
      have HD8:=Lib.hid (HD7.out.grown g8)
      have HV8:=Lib.hid (HV7.out.grown g8)
      have G8:=Lib.hid (gtr G7.out g8)
      go_wp2_with fail
      refine nxt_grow g8 (plan_one ?_)
      clear g8
      simp only [nths,nth,List.map_cons,List.map_nil,List.getD_cons_zero,List.getD_cons_succ]
      repeat (first | (refine wpQuiet_load_boxg (by rfl) 42 _ rfl T rfl _ _ Tryz.underlying42 rfl (by kernel_rfl) (Box.grw HV8.out.box) ?_;simp only [Act.put,List.setIfInBounds_toArray,List.set_cons_succ,List.set_cons_zero]) | go_big_quiet_step (fail))
      refine wpQuiet_nil ?_
      go_wp2_with fail
      refine (Sound_at _ c d ws n s HD8.out HInv.out HWk.out).mono ?_;rintro e w9 ⟨rfl,g9⟩
      rw [HVs.out]
      have HD9:=Lib.hid (HD8.out.grown g9)
      have HV9:=Lib.hid (HV8.out.grown g9)
      have G9:=Lib.hid (gtr G8.out g9)
      go_wp2_with fail
      refine nxt_grow g9 (plan_one ?_)
      clear g9
      simp only [nths,nth,List.map_nil,List.getD_cons_zero,List.getD_cons_succ]
      refine wpQuiet_nil ?_
      go_wp2_with fail
      refine (rSound_at _ 0 c bk c.len cp ws n s sl ⟨HV9.out.holds,HV9.out.len,by rw [HCl.out];decide,RefS.mono HV9.out.refs (Nat.zero_le _),Nat.zero_le _⟩ HOk.out HWk.out (by have:=HSo.out.1;omega) (by have:=HSo.out.2;omega) nn0 nn1 HKy.out.ky).mono ?_;rintro e w10 ⟨rfl,g10⟩
      rw [HVs.out]
      have HD10:=Lib.hid (HD9.out.grown g10)
      have HV10:=Lib.hid (HV9.out.grown g10)
      have G10:=Lib.hid (gtr G9.out g10)
      have q5:∀ g:GrW w10,g.w.cell? ⟨d.x,5,none⟩ = some (.pointer (some ⟨d.p,0,none⟩)):=GrW.cell HD10.out.k5
      go_wp2_with fail
      refine nxt_grow g10 (plan_one ?_)
      clear g10
      simp only [nths,nth,List.map_cons,List.map_nil,List.getD_cons_zero,List.getD_cons_succ]
      repeat go_big_quiet_step (fail)
      refine wpQuiet_nil ?_
      clear q5
      go_wp2_with fail
      refine (Steps_at _ d.p d.b _ _ HD10.out.bank).mono ?_;rintro e w11 ⟨rfl,g11⟩
      have HD11:=Lib.hid (HD10.out.grown g11)
      have HV11:=Lib.hid (HV10.out.grown g11)
      have G11:=Lib.hid (gtr G10.out g11)
      go_wp2_with fail
      refine nxt_grow g11 (plan_fin ?_)
      clear g11
      simp only [nths,nth,List.map_cons,List.map_nil,List.getD_cons_zero,List.getD_cons_succ]
      repeat go_big_quiet_step (fail)
      refine wpQuiet_nil ?_
      go_wp2_with fail
      go_ret
      exact ⟨rfl,G11.out⟩
end Go.Proofs.YtcogckjpmmjmbaaGreat
