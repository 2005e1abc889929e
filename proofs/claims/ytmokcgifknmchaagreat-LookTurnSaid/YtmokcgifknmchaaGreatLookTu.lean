/- LookTurn (corrielaw09), walked. -/
import Derived.Test.YtmokcgifknmchaaGreatYD
import Derived.Test.YtmokcgifknmchaaGreatMAct
import Derived.Test.YtmokcgifknmchaaGreatMAwake
import Derived.Test.YtmokcgifknmchaaGreatMScene
import Derived.Test.YtmokcgifknmchaaGreatWkEq
namespace Go.Proofs.YtmokcgifknmchaaGreat
open Go.ChangeShapes Go.WideShapes Go.ChangeAt Go.RowKit
set_option maxRecDepth 100000
set_option linter.unusedVariables false
theorem FlatAt.len9 {w:World} {lo n:Nat} {v:Value} {cells:List Value} (h:FlatAt w lo v cells n):∃ A k,v = .slice A n k:=by
 rcases h with ⟨h0,-,rfl⟩ | ⟨-,g,cap,rfl,-,-⟩
 ·exact ⟨none,0,by rw [h0]⟩
 ·exact ⟨_,_,rfl⟩
set_option maxHeartbeats 16000000 in
theorem law_LookTurn (f:Nat) (vi vc:Value) (xs:List It) (cs:List Cal) (nu:Int) (w:World) (hf:f ≤ 255) (hi:RowO w vi (flatI xs) xs.length) (hc:RowO w vc (flatK cs) cs.length) (hw:∀ x ∈ xs,x.Wf) (l1:0 ≤ nu) (u1:nu ≤ 255) :
  Calls Tryz.prog 4 #[.agg #[.int .u8 (f:Int),vi,vc],.int .u8 nu] w fun e w' => e = .returned (.bool true) ∧ Grown w w':=by
 obtain ⟨Ai,gi,oi,capi,rfl,hAi,hci⟩:=hi
 have hi9:RowO w (.slice Ai xs.length capi) (flatI xs) xs.length:=⟨Ai,gi,oi,capi,rfl,hAi,hci⟩
 clear hAi hci
 obtain ⟨m,hm⟩:∃ m,xs.length = m:=⟨_,rfl⟩
 have hi:RowO w (.slice Ai m capi) (flatI xs) xs.length:=by rw [← hm];exact hi9
 have HM:=Lib.hid hm
 rw [hm]
 clear hi9 hm
 obtain ⟨v,hv⟩:∃ v,decide (xs.length ≤ 12 ∧ cs.length ≤ 6) = v:=⟨_,rfl⟩
 have HF:Hid (∀ W,Calls Tryz.prog 13 #[.agg #[.int .u8 (f:Int),(.slice Ai m capi),vc]] W fun e w' => e = .returned (.bool v) ∧ Grown W w'):=Lib.hid (fun W => by
  obtain ⟨A2,bb2,off2,cap2,rfl,-⟩:=hc
  exact Few9_at W f Ai A2 _ _ _ _ v (by rw [← HM.out];exact hv))
 have HV:=Lib.hid hv
 have HI:=Lib.hid hi
 have HC:=Lib.hid hc
 have HW:=Lib.hid hw
 have HOk:=Lib.hid (c9_ok hf)
 have HB:=Lib.hid (Box.made w [.int .u8 (f:Int),(.slice Ai m capi),vc] 25)
 have HG:Hid (Grown w (w.alloc (.cells #[.int .u8 (f:Int),(.slice Ai m capi),vc] 25))):=Lib.hid (by go_grown)
 obtain ⟨u,hu⟩:∃ u,w.alloc (.cells #[.int .u8 (f:Int),(.slice Ai m capi),vc] 25) = u:=⟨_,rfl⟩
 rw [hu] at HB HG
 have HU:=Lib.hid hu
 clear hu hv hi hc hw
 go_enter Tryz.func4,Tryz.ntmps4
 go_wp2_with fail
 rw [HU.out]
 refine (awake_at _).mono ?_;rintro e w1 ⟨rfl,g1⟩
 have HB1:=Lib.hid (HB.out.grown g1)
 have e0:=HB1.out.cell 0 (.int .u8 (f:Int)) rfl
 have e1:=HB1.out.cell 1 (.slice Ai m capi) rfl
 have e2:=HB1.out.cell 2 vc rfl
 have G1:=Lib.hid (gtr HG.out g1)
 clear g1 HB
 go_wp2_with fail
 refine (HF.out _).mono ?_;rintro e w2 ⟨rfl,g2⟩
 have HB2:=Lib.hid (HB1.out.grown g2)
 have G2:=Lib.hid (gtr G1.out g2)
 clear e0 e1 e2 g2 HB1 G1
 have e1:=HB2.out.cell 1 (.slice Ai m capi) rfl
 cases v
 ·go_wp2_with fail
  go_ret
  exact ⟨rfl,G2.out⟩
 ·by_cases hm0:m = 0
  ·have hq:((m:Int) == 0) = true:=by simp [hm0]
   clear hm0
   go_wp2_with fail
   go_ret
   exact ⟨rfl,G2.out⟩
  have hq:((m:Int) == 0) = false:=by simp [hm0]
  obtain ⟨hl1,hl2⟩:=of_decide_eq_true HV.out
  obtain ⟨L,hL⟩:∃ L,layL (c9 f) (sortedI xs) = L:=⟨_,rfl⟩
  obtain ⟨s,hs⟩:∃ s,lyC (c9 f) L.s cs = s:=⟨_,rfl⟩
  have HLy:Hid (∀ W,Grown w W → Calls Tryz.prog 14 #[.agg #[.int .u8 (f:Int),(.slice Ai m capi),vc]] W (LaidAt (c9 f) L.ws L.n s W)):=Lib.hid (fun W q => lay_at W f hf (.slice Ai m capi) vc xs cs (HI.out.grown q) (HC.out.grown q) hl1 hl2 (fun x hx => (HW.out x hx).2.2) L hL s hs)
  have HRy:Hid (∀ W,Grown w W → Calls Tryz.prog 15 #[.agg #[.int .u8 (f:Int),(.slice Ai m capi),vc]] W (RLaid (c9 f) L.ws L.n s W)):=Lib.hid (fun W q => rLay_at W f hf (.slice Ai m capi) vc xs cs (HI.out.grown q) (HC.out.grown q) hl1 hl2 (fun x hx => (HW.out x hx).2.2) L hL s hs)
  have HLk:Hid (LyOk (c9 f) L xs.length):=Lib.hid (by
   have:=layL_ok (c9 f) (sortedI xs) (fun x hx => by obtain ⟨y,hy,he⟩:=sortedI_word hx;rw [he];exact (HW.out y hy).2.2) xs.length (by rw [sortedI_len];exact Nat.le_refl _)
   rwa [List.take_of_length_le (by rw [sortedI_len];exact Nat.le_refl _),hL] at this)
  have HLL:=Lib.hid hL
  have HSS:=Lib.hid hs
  have HOk9:=Lib.hid (c9_ok hf)
  have HInv:Hid (Inv (c9 f) s):=Lib.hid (by rw [← hs];exact lyC_inv _ HLk.out.inv)
  have HSo:Hid (s.ops.length ≤ 18 ∧ s.nodes.length ≤ 12):=Lib.hid (by
   have h2:=lyC_len (c9 f) cs L.s
   have h3:=HLk.out.ops
   have h4:=HLk.out.nodes
   rw [hs] at h2
   omega)
  have hn0:=HLk.out.n0
  have hn1:=HLk.out.n1
  have hnx:L.n ≤ 36:=by omega
  clear hL hs hn1
  obtain ⟨c,hcc⟩:∃ c,c9 f = c:=⟨_,rfl⟩
  have HCl:Hid (c.len = 149):=Lib.hid (by rw [← hcc];rfl)
  rw [hcc] at HLy HRy HLk HInv HOk
  have HCC:=Lib.hid hcc
  clear hcc
  have e0:=HB2.out.cell 0 (.int .u8 (f:Int)) rfl
  have e1:=HB2.out.cell 1 (.slice Ai m capi) rfl
  have e2:=HB2.out.cell 2 vc rfl
  go_wp2_with fail
  refine (HLy.out _ G2.out).mono ?_;rintro e w3 ⟨d,rfl,g3,h3,f3⟩
  have HD:=Lib.hid h3
  have G3:=Lib.hid (gtr G2.out g3)
  have HB3:=Lib.hid (HB2.out.grown g3)
  have HFr:Hid (∀ i,Ow d i → w.heap.size ≤ i):=Lib.hid (fun i hi => Nat.le_trans G2.out.2.2 (f3 i hi))
  have HFr2:Hid (∀ i,Ow d i → w2.heap.size ≤ i):=Lib.hid f3
  clear e0 e1 e2 g3 h3 f3 HB2 G2
  have e0:=HB3.out.cell 0 (.int .u8 (f:Int)) rfl
  have e1:=HB3.out.cell 1 (.slice Ai m capi) rfl
  have e2:=HB3.out.cell 2 vc rfl
  go_wp2_with fail
  refine (HRy.out _ G3.out).mono ?_;rintro e w4 ⟨bk,cp,sl,rfl,hh,hlen,hrf,hlo,g4⟩
  obtain ⟨hi,hhi⟩:∃ x,w3.heap.size = x:=⟨_,rfl⟩
  rw [hhi] at hrf hlo
  have HNew:Hid (∀ i,hi ≤ i → ¬ Mine d.p d.b i ∧ ¬ d.x = i ∧ d.a.hi ≤ i):=Lib.hid (fun i h => ⟨HD.out.new (by omega),fun e => by have:=HD.out.xlt;omega,Nat.le_trans HD.out.book.o6 (by omega)⟩)
  have hb4:bk < w4.heap.size:=World.block_lt_of_cell? w4 _ (hh 0 (by rw [hlen,HCl.out];decide))
  have h34:=g4.2.2
  have ga:Grown w4 (w4.alloc (.cells (RwL c bk c.len cp L.n sl).toArray 42)):=by go_grown
  have HDV:Hid (DV hi c w4.heap.size L.ws L.n s bk cp sl (w4.alloc (.cells (RwL c bk c.len cp L.n sl).toArray 42))):=Lib.hid ⟨Box.made w4 _ _,hh.grown ga,hlen,hrf.grown ga,hlo,hrf.offNew HInv.out (Nat.le_refl _),by omega⟩
  have HDa:=Lib.hid ((HD.out.grown g4).grown ga)
  have Ga:=Lib.hid (gtr G3.out (gtr g4 ga))
  obtain ⟨T,hT⟩:∃ T,w4.heap.size = T:=⟨_,rfl⟩
  obtain ⟨wa,hwa⟩:∃ x,w4.alloc (.cells (RwL c bk c.len cp L.n sl).toArray 42) = x:=⟨_,rfl⟩
  have hTi:hi ≤ T:=by omega
  have hwhi:w.heap.size ≤ hi:=by rw [← hhi];exact G3.out.2.2
  rw [hwa] at HDV HDa Ga
  rw [hT] at HDV
  clear e0 e1 e2 hh hlen hrf hlo g4 ga hb4 h34 HB3 HD hhi
  simp only [RwL] at hwa ⊢
  have HWA:=Lib.hid hwa
  have HTT:=Lib.hid hT
  clear hwa hT
  have HSc:Hid (Scn c s L.ws (sortedI xs)):=Lib.hid (by rw [← HCC.out];exact scn_of HOk9.out rfl (Nat.le_trans hl1 (by simp only [c9];omega)) (Nat.le_trans hl1 (by simp only [c9];omega)) cs L HLL.out s HSS.out)
  have HOps:Hid (∀ z ∈ s.ops,z.1 < 2 * c.k → ∃ a ∈ ids (sortedI xs).length,opAt s a = (z.1:Int)):=Lib.hid (by rw [← HCC.out];exact ops_in HOk9.out rfl (Nat.le_trans hl1 (by simp only [c9];omega)) (Nat.le_trans hl1 (by simp only [c9];omega)) cs L HLL.out s HSS.out)
  have HCk:Hid (c.k = 16 ∧ c.ops = 48):=Lib.hid (by rw [← HCC.out];exact ⟨rfl,rfl⟩)
  have hpos:0 < s.ops.length:=by
   have hl:=sortedI_len xs
   have hm1:=HM.out
   obtain ⟨y,hy⟩:∃ y,(sortedI xs)[0]? = some y:=⟨_,List.getElem?_eq_getElem (by omega)⟩
   obtain ⟨x,hx,-⟩:=HSc.out.kk 0 y hy
   unfold lookI at hx
   split at hx
   ·cases hx
   ·have:=look_mem hx
    exact List.length_pos_of_mem this
  obtain ⟨g,kq,e4,-,hrow⟩:=HDV.out.refs.f4.some hpos
  obtain ⟨a1,m1,k1,a2,m2,k2,a3,m3,k3,a4,m4,k4,a5,m5,k5⟩:=sl
  dsimp only at e4 HWA ⊢
  obtain ⟨q,hq⟩:∃ q,s.ops.length = q:=⟨_,rfl⟩
  rw [hq] at e4
  obtain ⟨f1,f2,f3⟩:a4 = some ⟨g,0,none⟩ ∧ m4 = q ∧ k4 = kq:=by simpa using e4
  obtain rfl:=f1
  obtain rfl:=f2.symm
  obtain rfl:=f3
  clear e4
  have hq18:q ≤ 18:=by rw [← hq];exact HSo.out.1
  have hq0:0 < q:=by omega
  obtain ⟨j,hj⟩:∃ j:Nat,(nu.toNat % q) = j:=⟨_,rfl⟩
  have hjq:j < q:=by rw [← hj];exact Nat.mod_lt _ hq0
  have ht:Int.tmod nu (q:Int) = (j:Int):=by
   obtain ⟨N,hN⟩:∃ N:Nat,nu = (N:Int):=⟨nu.toNat,by omega⟩
   rw [Int.tmod_eq_emod_of_nonneg l1,← hj,hN,Int.toNat_natCast]
   first | exact (Int.natCast_emod N q).symm | exact (Int.natCast_mod N q).symm | exact (Int.ofNat_emod N q).symm | rfl
  have hd1:((q:Int) == 0) = false:=by simp;omega
  have hd2:decide ((q:Int) = 0) = false:=by simp;omega
  have hjl:(j:Int) < (q:Int):=by omega
  obtain ⟨⟨zo,zk,zy,zv,zl⟩,hz⟩:∃ z,s.ops[j]? = some z:=⟨_,List.getElem?_eq_getElem (by omega)⟩
  have c0:=hrow _ _ (flat_at (k:=5) (o:=0) (fun _ => rfl) (by decide) s.ops j _ hz)
  have c1:=hrow _ _ (flat_at (k:=5) (o:=1) (fun _ => rfl) (by decide) s.ops j _ hz)
  simp only [Nat.add_zero] at c0
  have HZ:=Lib.hid hz
  have HQ:=Lib.hid hq
  have hzo:zo < 48:=by
   have:=HInv.out.k1 _ (List.mem_of_getElem? hz)
   obtain ⟨h,i,h1,h2,h3⟩:=this
   have h4:=HInv.out.b1 h h1
   have h5:=row_lt h1 (show i < c.k by omega)
   have h6:c.t * c.k = c.ops:=rfl
   have h7:=HCk.out.2
   simp only at h3
   omega
  rw [← HWA.out] at c0 c1
  have GaC:Hid (Grown w (w4.alloc (.cells #[.int .i64 c.t,.int .i64 c.b,.int .i64 c.i,.int .i64 c.f,.int .i64 c.k,.slice (some ⟨bk,0,none⟩) c.len cp,.int .i64 L.n,.int .i64 c.t,.int .i64 c.b,.int .i64 c.i,.int .i64 c.f,.int .i64 c.k,.slice a1 m1 k1,.slice a2 m2 k2,.slice a3 m3 k3,.slice (some ⟨g,0,none⟩) q k4,.slice a5 m5 k5] 42))):=Lib.hid (by rw [HWA.out];exact Ga.out)
  clear hrow hz hq hj
  by_cases hk:zk = 1
  ·have hka:(zk != 1) = false:=by simpa using hk
   have hkb:(zk == 1) = true:=by simpa using hk
   have HK:=Lib.hid hk
   clear hk
   by_cases h16:16 ≤ zo
   ·have hg:decide ((16:Int) ≤ (zo:Int)) = true:=decide_eq_true (by omega)
    go_wp2_with fail
    go_ret
    exact ⟨rfl,GaC.out⟩
   ·have hg:decide ((16:Int) ≤ (zo:Int)) = false:=decide_eq_false (by omega)
    have HLt:Hid (zo < 16):=Lib.hid (by omega)
    clear h16
    go_wp2_with fail
    rw [HWA.out,HTT.out]
    clear c0 c1 hg hka hkb
    obtain ⟨i0,hi0⟩:∃ y,wrdI c (zo:Int) = y:=⟨_,rfl⟩
    obtain ⟨v0,hv0⟩:∃ y,rd L.ws i0 = y:=⟨_,rfl⟩
    obtain ⟨ws5,hw5⟩:∃ y,sw L.ws i0 v0 5 = y:=⟨_,rfl⟩
    obtain ⟨ws1,hw1⟩:∃ y,sw ws5 i0 5 1 = y:=⟨_,rfl⟩
    have HI0:Hid (vWord c.t c.b c.i c.f c.k (zo:Int) = i0):=Lib.hid hi0
    have HIw:=Lib.hid hi0
    have HV0:=Lib.hid hv0
    have HW5:=Lib.hid hw5
    have HW1:=Lib.hid hw1
    have hlw:=HDV.out.len
    have hib:0 ≤ i0 ∧ i0 < L.ws.length:=by
     have h2:=HCk.out.2
     have h1:=wrd_v HOk.out (a:=(zo:Int)) (by omega) (by omega)
     have h3:=HCl.out
     rw [hi0] at h1
     have h4:c.nodes = 98:=by rw [← HCC.out];rfl
     omega
    have HMore:Hid ((rawP c ws1 s).length = (rawP c ws5 s).length + 1):=Lib.hid (turns HSc.out HInv.out HLk.out.wok HZ.out HK.out (by have:=HLt.out;have:=HCk.out;simp only;omega) (HOps.out _ (List.mem_of_getElem? HZ.out) (by have:=HLt.out;have:=HCk.out;simp only;omega)) (by simp only;rw [hi0,hv0];exact hw5) (by simp only;rw [hi0];exact hw1))
    have HSame:Hid (v0 = 1 → ws1 = L.ws):=Lib.hid (fun e => by rw [← hw1,← hw5];subst e;exact sw_sw hib.1 hv0 hib.2)
    have hv01:0 ≤ v0 ∧ v0 ≤ 18446744073709551615:=by rw [← hv0];exact HLk.out.wok i0
    have HO5:Hid (WOk ws5):=Lib.hid (by rw [← hw5];exact HLk.out.wok.sw _ _ _ (by omega) (by omega))
    have HO1:Hid (WOk ws1):=Lib.hid (by rw [← hw1];exact HO5.out.sw _ _ _ (by omega) (by omega))
    have HFe:Hid (∀ ws,(rawP c ws s).length < 20):=Lib.hid (fun ws => by have h1:=raw_few c ws s;have h2:=HSo.out.1;omega)
    clear hi0 hv0 hw5 hw1
    have k5:∀ g:GrW wa,g.w.cell? ⟨d.x,1,none⟩ = g.w.cell? ⟨d.x,1,none⟩:=fun _ => rfl
    have p5:∀ g:GrW wa,g.w.cell? ⟨d.x,5,none⟩ = some (.pointer (some ⟨d.p,0,none⟩)):=GrW.cell HDa.out.k5
    have t0:∀ g:GrW wa,g.w.cell? ⟨T,0,none⟩ = some (.int .i64 c.t):=GrW.cell (HDV.out.box.cell 0 _ rfl)
    have t1:∀ g:GrW wa,g.w.cell? ⟨T,1,none⟩ = some (.int .i64 c.b):=GrW.cell (HDV.out.box.cell 1 _ rfl)
    have t2:∀ g:GrW wa,g.w.cell? ⟨T,2,none⟩ = some (.int .i64 c.i):=GrW.cell (HDV.out.box.cell 2 _ rfl)
    have t3:∀ g:GrW wa,g.w.cell? ⟨T,3,none⟩ = some (.int .i64 c.f):=GrW.cell (HDV.out.box.cell 3 _ rfl)
    have t4:∀ g:GrW wa,g.w.cell? ⟨T,4,none⟩ = some (.int .i64 c.k):=GrW.cell (HDV.out.box.cell 4 _ rfl)
    refine wp_region_grow (by kernel_rfl) (by kernel_rfl) ?_
    repeat (go_big_quiet_step ((first | (go_at_call 24;with_reducible exact grcall (rWord_at _ _ _ _ _ _ _ _ HI0.out)) | (go_at_call 23;exact grcall (peek_v _ d.p d.b L.ws L.n i0 v0 HV0.out (HDa.out.grown (GrW.gr _)).bank)))))
    refine wpQuiet_nil ?_
    rintro w5 ⟨⟨_,g5⟩,rfl⟩
    have HD5:=Lib.hid (HDa.out.grown g5)
    have HV5:=Lib.hid (HDV.out.grown g5)
    have G5:=Lib.hid (gtr Ga.out g5)
    clear k5 p5 t0 t1 t2 t3 t4 g5
    go_wp2_with fail
    have hT:=wTurn_any w5 c d L.ws L.n s (zo:Int) v0 5 HD5.out hn0 (by omega)
    rw [HIw.out,HW5.out] at hT
    obtain ⟨n5,hn5⟩:∃ y,L.n + cnt L.ws i0 = y:=⟨_,rfl⟩
    rw [hn5] at hT
    have hn5a:0 ≤ n5 ∧ n5 ≤ 37:=by have:=cnt_le L.ws i0;omega
    refine hT.mono ?_;rintro e w6 ⟨rfl,q6,h6⟩
    have HD6:=Lib.hid h6
    have HV6:=Lib.hid (HV5.out.but q6 (fun i hi => (HNew.out i hi).1) (HNew.out _ hTi).1)
    have G6:Hid (Grown w w6):=Lib.hid (But.fresh G5.out q6 (fun i hi => HFr.out i (.inr hi)))
    clear q6 h6 hT hn5
    go_wp2_with fail
    refine (Pairs_at _ c d ws5 n5 s HD6.out HInv.out HO5.out (HFe.out _)).mono ?_;rintro e w7 ⟨v7,rfl,f7,g7⟩
    have hl7:=f7.len9
    obtain ⟨A7,k7,rfl⟩:=hl7
    have HD7:=Lib.hid (HD6.out.grown g7)
    have HV7:=Lib.hid (HV6.out.grown g7)
    have G7:=Lib.hid (gtr G6.out g7)
    clear f7 g7
    rw [sortP_len]
    obtain ⟨o5,ho5⟩:∃ y,(rawP c ws5 s).length = y:=⟨_,rfl⟩
    have ho20:o5 < 20:=by rw [← ho5];exact HFe.out _
    rw [ho5]
    have HM5:Hid ((rawP c ws1 s).length = o5 + 1):=Lib.hid (by rw [← ho5];exact HMore.out)
    clear ho5
    go_wp2_with fail
    have hT:=wTurn_any w7 c d ws5 n5 s (zo:Int) 5 1 HD7.out hn5a.1 (by omega)
    rw [HIw.out,HW1.out] at hT
    obtain ⟨n1,hn1'⟩:∃ y,n5 + cnt ws5 i0 = y:=⟨_,rfl⟩
    rw [hn1'] at hT
    refine hT.mono ?_;rintro e w8 ⟨rfl,q8,h8⟩
    have HD8:=Lib.hid h8
    have HV8:=Lib.hid (HV7.out.but q8 (fun i hi => (HNew.out i hi).1) (HNew.out _ hTi).1)
    have G8:Hid (Grown w w8):=Lib.hid (But.fresh G7.out q8 (fun i hi => HFr.out i (.inr hi)))
    clear q8 h8 hT hn1'
    go_wp2_with fail
    refine (Pairs_at _ c d ws1 n1 s HD8.out HInv.out HO1.out (HFe.out _)).mono ?_;rintro e w9 ⟨v9,rfl,f9,g9⟩
    have hl9:=f9.len9
    obtain ⟨A9,k9,rfl⟩:=hl9
    have HV9:=Lib.hid (HV8.out.grown g9)
    have G9:=Lib.hid (gtr G8.out g9)
    clear f9 g9
    rw [sortP_len,HM5.out]
    by_cases hv1:v0 = 1
    ·have HSm:Hid ((rawP c L.ws s).length = o5 + 1):=Lib.hid (by rw [← HSame.out hv1];exact HM5.out)
     have hb1:(v0 != 1) = false:=by simpa using hv1
     clear hv1
     have t0:=HV9.out.box.cell 0 (.int .i64 c.t) rfl
     have t1:=HV9.out.box.cell 1 (.int .i64 c.b) rfl
     have t2:=HV9.out.box.cell 2 (.int .i64 c.i) rfl
     have t3:=HV9.out.box.cell 3 (.int .i64 c.f) rfl
     have t4:=HV9.out.box.cell 4 (.int .i64 c.k) rfl
     have t5:=HV9.out.box.cell 5 (.slice (some ⟨bk,0,none⟩) c.len cp) rfl
     have t6:=HV9.out.box.cell 6 (.int .i64 L.n) rfl
     have t7:=HV9.out.box.cell 7 (.int .i64 c.t) rfl
     have t8:=HV9.out.box.cell 8 (.int .i64 c.b) rfl
     have t9:=HV9.out.box.cell 9 (.int .i64 c.i) rfl
     have t10:=HV9.out.box.cell 10 (.int .i64 c.f) rfl
     have t11:=HV9.out.box.cell 11 (.int .i64 c.k) rfl
     have t12:=HV9.out.box.cell 12 (.slice a1 m1 k1) rfl
     have t13:=HV9.out.box.cell 13 (.slice a2 m2 k2) rfl
     have t14:=HV9.out.box.cell 14 (.slice a3 m3 k3) rfl
     have t15:=HV9.out.box.cell 15 (.slice (some ⟨g,0,none⟩) q k4) rfl
     have t16:=HV9.out.box.cell 16 (.slice a5 m5 k5) rfl
     go_wp2_with fail
     refine (rPairs_at _ 0 c bk c.len cp L.ws L.n s ⟨a1,m1,k1,a2,m2,k2,a3,m3,k3,some ⟨g,0,none⟩,q,k4,a5,m5,k5⟩ ⟨HV9.out.holds,HV9.out.len,by rw [HCl.out];decide,RefS.mono HV9.out.refs (Nat.zero_le _),Nat.zero_le _⟩ HOk.out HLk.out.wok (by have:=HSo.out.1;omega) (by have:=HSo.out.2;omega) hn0 (by omega) (HFe.out _)).mono ?_;rintro e w10 ⟨v10,rfl,f10,g10⟩
     have hl10:=f10.len9
     obtain ⟨A10,k10,rfl⟩:=hl10
     rw [sortP_len,HSm.out]
     go_wp2_with fail
     go_ret
     exact ⟨rfl,gtr G9.out g10⟩
    ·have hb1:(v0 != 1) = true:=by simpa using hv1
     clear hv1
     go_wp2_with fail
     go_ret
     exact ⟨rfl,G9.out⟩
  ·have hka:(zk != 1) = true:=by simpa using hk
   have hkb:(zk == 1) = false:=by simpa using hk
   clear hk
   go_wp2_with fail
   go_ret
   exact ⟨rfl,GaC.out⟩
end Go.Proofs.YtmokcgifknmchaaGreat
