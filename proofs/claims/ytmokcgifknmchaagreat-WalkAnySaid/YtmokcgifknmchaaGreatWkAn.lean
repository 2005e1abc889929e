/- WalkAny (corrielaw10), walked. -/
import Derived.Test.YtmokcgifknmchaaGreatMAct
import Derived.Test.YtmokcgifknmchaaGreatMAwake
import Derived.Test.YtmokcgifknmchaaGreatMScene
import Derived.Test.YtmokcgifknmchaaGreatMRefW
import Derived.Test.YtmokcgifknmchaaGreatWkRun
import Derived.Test.YtmokcgifknmchaaGreatRWalkK
import Derived.Test.YtmokcgifknmchaaGreatWkEq
import Derived.Test.YtmokcgifknmchaaGreatWkSm
import Derived.Test.YtmokcgifknmchaaGreatVars
namespace Go.Proofs.YtmokcgifknmchaaGreat
open Go.ChangeShapes Go.WideShapes Go.ChangeAt Go.RowKit
set_option maxRecDepth 100000
set_option linter.unusedVariables false
theorem kStepNil (w:World) (x:Wk):Calls Tryz.prog 31 #[.pointer none,.agg x.l.toArray] w fun e w' => e = .returned (.agg x.l.toArray) ∧ Grown w w':=by
 obtain ⟨u,hu,hg,bX,bR⟩:=vars2 w x.l zWk.l 70 70
 have HG:=Lib.hid hg
 have e9:=bX.cell 9 (.bool x.done) rfl
 have hxc:=bX
 have hrc:=bR
 obtain ⟨LX,hLX⟩:∃ L,x.l = L:=⟨_,rfl⟩
 rw [hLX] at hu ⊢
 simp only [zWk,Wk.l] at hu
 rw [← hu] at e9 hxc hrc
 have HU:=Lib.hid hu
 have HXc:=Lib.hid hxc
 have HRc:=Lib.hid hrc
 have HL:=Lib.hid hLX
 clear hxc hrc hu hg bX bR hLX
 obtain ⟨dn,hd⟩:∃ b,x.done = b:=⟨_,rfl⟩
 rw [hd] at e9
 clear hd
 cases dn
 ·go_enter Tryz.func31,Tryz.ntmps31
  go_wp2_with (first | (refine load_box rfl 70 _ rfl w.heap.size rfl _ _ Tryz.underlying70 rfl (by kernel_rfl) HXc.out ?_) | (refine store_box rfl 70 _ _ rfl (w.heap.size + 1) _ HRc.out _ rfl rfl rfl (by kernel_rfl) rfl ?_;intro w_9 B_ q_;rw [HU.out] at q_;have HE:=Lib.hid B_;have QE:=Lib.hid q_;clear B_ q_) | fail)
  exact bodyPost_ret (v:=.agg x.l.toArray) (results_c (ty:=70) rfl rfl (load_run HE.out 70 _ Tryz.underlying70 rfl (by kernel_rfl))) rfl ⟨by rw [HL.out],But.fresh HG.out QE.out (fun i hi => by omega)⟩
 ·go_enter Tryz.func31,Tryz.ntmps31
  go_wp2_with (first | (refine load_box rfl 70 _ rfl w.heap.size rfl _ _ Tryz.underlying70 rfl (by kernel_rfl) HXc.out ?_) | (refine store_box rfl 70 _ _ rfl (w.heap.size + 1) _ HRc.out _ rfl rfl rfl (by kernel_rfl) rfl ?_;intro w_9 B_ q_;rw [HU.out] at q_;have HE:=Lib.hid B_;have QE:=Lib.hid q_;clear B_ q_) | fail)
  exact bodyPost_ret (v:=.agg x.l.toArray) (results_c (ty:=70) rfl rfl (load_run HE.out 70 _ Tryz.underlying70 rfl (by kernel_rfl))) rfl ⟨by rw [HL.out],But.fresh HG.out QE.out (fun i hi => by omega)⟩
set_option maxHeartbeats 16000000 in
theorem law_WalkAny (f:Nat) (vi vc:Value) (xs:List It) (cs:List Cal) (y0 y1 y2 y3 y4 y5 y6 y7:Int) (y8 y9:Bool) (w:World) (hf:f ≤ 255) (hi:RowO w vi (flatI xs) xs.length) (hc:RowO w vc (flatK cs) cs.length) (hw:∀ x ∈ xs,x.Wf) (l0:0 ≤ y0) (u0:y0 ≤ 18446744073709551615) (l1:-9223372036854775808 ≤ y1) (u1:y1 ≤ 9223372036854775807) (l2:-9223372036854775808 ≤ y2) (u2:y2 ≤ 9223372036854775807) (l3:-9223372036854775808 ≤ y3) (u3:y3 ≤ 9223372036854775807) (l4:-9223372036854775808 ≤ y4) (u4:y4 ≤ 9223372036854775807) (l5:0 ≤ y5) (u5:y5 ≤ 18446744073709551615) (l6:-9223372036854775808 ≤ y6) (u6:y6 ≤ 9223372036854775807) (l7:-9223372036854775808 ≤ y7) (u7:y7 ≤ 9223372036854775807) :
  Calls Tryz.prog 6 #[.agg #[.int .u8 (f:Int),vi,vc],.agg #[.int .u64 y0,.int .i64 y1,.int .i64 y2,.int .i64 y3,.int .i64 y4,.int .u64 y5,.int .i64 y6,.int .i64 y7,.bool y8,.bool y9]] w fun e w' => e = .returned (.bool true) ∧ Grown w w':=by
 obtain ⟨x,hx⟩:∃ x:Wk,(⟨y0,y1,y2,y3,y4,y5,y6,y7,y8,y9⟩:Wk) = x:=⟨_,rfl⟩
 have hxl:#[.int .u64 y0,.int .i64 y1,.int .i64 y2,.int .i64 y3,.int .i64 y4,.int .u64 y5,.int .i64 y6,.int .i64 y7,.bool y8,.bool y9] = x.l.toArray:=by rw [← hx];rfl
 rw [hxl]
 have HXk:Hid (x.Ok):=Lib.hid (by rw [← hx];exact ⟨l4,u4,l5,u5⟩)
 clear hxl hx l0 u0 l1 u1 l2 u2 l3 u3 l4 u4 l5 u5 l6 u6 l7 u7
 obtain ⟨v,hv⟩:∃ v,decide (xs.length ≤ 12 ∧ cs.length ≤ 6) = v:=⟨_,rfl⟩
 have HF:Hid (∀ W,Calls Tryz.prog 13 #[.agg #[.int .u8 (f:Int),vi,vc]] W fun e w' => e = .returned (.bool v) ∧ Grown W w'):=Lib.hid (fun W => by
  obtain ⟨A,bb,off,cap,rfl,-⟩:=hi
  obtain ⟨A2,bb2,off2,cap2,rfl,-⟩:=hc
  exact Few9_at W f A A2 _ _ _ _ v hv)
 have HV:=Lib.hid hv
 have HI:=Lib.hid hi
 have HC:=Lib.hid hc
 have HW:=Lib.hid hw
 have HOk:=Lib.hid (c9_ok hf)
 obtain ⟨u,hu,hg,bS,bX⟩:=vars2 w [.int .u8 (f:Int),vi,vc] x.l 25 70
 have HB:=Lib.hid bS
 have HX:=Lib.hid bX
 obtain ⟨LX,hLX⟩:∃ L,x.l = L:=⟨_,rfl⟩
 rw [hLX] at hu ⊢
 have HU:=Lib.hid hu
 have HG:=Lib.hid hg
 clear hu hg bS bX hLX hv hi hc hw
 go_enter Tryz.func6,Tryz.ntmps6
 go_wp2_with fail
 rw [HU.out]
 refine (awake10_at _).mono ?_;rintro e w1 ⟨rfl,g1⟩
 have HB1:=Lib.hid (HB.out.grown g1)
 have HX1:=Lib.hid (HX.out.grown g1)
 have e0:=HB1.out.cell 0 (.int .u8 (f:Int)) rfl
 have e1:=HB1.out.cell 1 vi rfl
 have e2:=HB1.out.cell 2 vc rfl
 have G1:=Lib.hid (gtr HG.out g1)
 clear g1 HB
 go_wp2_with fail
 refine (HF.out _).mono ?_;rintro e w2 ⟨rfl,g2⟩
 have HB2:=Lib.hid (HB1.out.grown g2)
 have HX2:=Lib.hid (HX1.out.grown g2)
 have G2:=Lib.hid (gtr G1.out g2)
 clear e0 e1 e2 g2 HB1 G1
 cases v
 ·go_wp2_with fail
  go_ret
  exact ⟨rfl,G2.out⟩
 ·obtain ⟨hl1,hl2⟩:=of_decide_eq_true HV.out
  obtain ⟨L,hL⟩:∃ L,layL (c9 f) (sortedI xs) = L:=⟨_,rfl⟩
  obtain ⟨s,hs⟩:∃ s,lyC (c9 f) L.s cs = s:=⟨_,rfl⟩
  have HLy:Hid (∀ W,Grown w W → Calls Tryz.prog 27 #[.agg #[.int .u8 (f:Int),vi,vc]] W (LaidAt (c9 f) L.ws L.n s W)):=Lib.hid (fun W q => lay10_at W f hf vi vc xs cs (HI.out.grown q) (HC.out.grown q) hl1 hl2 (fun x hx => (HW.out x hx).2.2) L hL s hs)
  have HRy:Hid (∀ W,Grown w W → Calls Tryz.prog 15 #[.agg #[.int .u8 (f:Int),vi,vc]] W (RLaid (c9 f) L.ws L.n s W)):=Lib.hid (fun W q => rLay_at W f hf vi vc xs cs (HI.out.grown q) (HC.out.grown q) hl1 hl2 (fun x hx => (HW.out x hx).2.2) L hL s hs)
  have HLk:Hid (LyOk (c9 f) L xs.length):=Lib.hid (by
   have:=layL_ok (c9 f) (sortedI xs) (fun x hx => by obtain ⟨y,hy,he⟩:=sortedI_word hx;rw [he];exact (HW.out y hy).2.2) xs.length (by rw [sortedI_len];exact Nat.le_refl _)
   rwa [List.take_of_length_le (by rw [sortedI_len];exact Nat.le_refl _),hL] at this)
  have HInv:Hid (Inv (c9 f) s):=Lib.hid (by rw [← hs];exact lyC_inv _ HLk.out.inv)
  have HSo:Hid (s.ops.length ≤ 18 ∧ s.nodes.length ≤ 12):=Lib.hid (by
   have h2:=lyC_len (c9 f) cs L.s
   have h3:=HLk.out.ops
   have h4:=HLk.out.nodes
   rw [hs] at h2
   omega)
  have hn0:=HLk.out.n0
  have hn1:=HLk.out.n1
  have hnx:L.n ≤ 36:=by omega
  clear hL hs hn1
  obtain ⟨c,hcc⟩:∃ c,c9 f = c:=⟨_,rfl⟩
  have HCl:Hid (c.len = 149):=Lib.hid (by rw [← hcc];rfl)
  rw [hcc] at HLy HRy HLk HInv HOk
  have HCC:=Lib.hid hcc
  clear hcc
  have e0:=HB2.out.cell 0 (.int .u8 (f:Int)) rfl
  have e1:=HB2.out.cell 1 vi rfl
  have e2:=HB2.out.cell 2 vc rfl
  go_wp2_with fail
  refine (HLy.out _ G2.out).mono ?_;rintro e w3 ⟨d,rfl,g3,h3,f3⟩
  have HD:=Lib.hid h3
  have G3:=Lib.hid (gtr G2.out g3)
  have HB3:=Lib.hid (HB2.out.grown g3)
  have HX3:=Lib.hid (HX2.out.grown g3)
  have HFr:Hid (∀ i,Ow d i → w.heap.size ≤ i):=Lib.hid (fun i hi => Nat.le_trans G2.out.2.2 (f3 i hi))
  have HFr2:Hid (∀ i,Ow d i → w2.heap.size ≤ i):=Lib.hid f3
  clear e0 e1 e2 g3 h3 f3 HB2 G2
  have e0:=HB3.out.cell 0 (.int .u8 (f:Int)) rfl
  have e1:=HB3.out.cell 1 vi rfl
  have e2:=HB3.out.cell 2 vc rfl
  go_wp2_with fail
  refine (HRy.out _ G3.out).mono ?_;rintro e w4 ⟨bk,cp,sl,rfl,hh,hlen,hrf,hlo,g4⟩
  obtain ⟨hi,hhi⟩:∃ x,w3.heap.size = x:=⟨_,rfl⟩
  rw [hhi] at hrf hlo
  have HNew:Hid (∀ i,hi ≤ i → ¬ Mine d.p d.b i ∧ ¬ d.x = i ∧ d.a.hi ≤ i):=Lib.hid (fun i h => ⟨HD.out.new (by omega),fun e => by have:=HD.out.xlt;omega,Nat.le_trans HD.out.book.o6 (by omega)⟩)
  have hb4:bk < w4.heap.size:=World.block_lt_of_cell? w4 _ (hh 0 (by rw [hlen,HCl.out];decide))
  have h34:=g4.2.2
  have ga:Grown w4 (w4.alloc (.cells (RwL c bk c.len cp L.n sl).toArray 42)):=by go_grown
  have HDV:Hid (DV hi c w4.heap.size L.ws L.n s bk cp sl (w4.alloc (.cells (RwL c bk c.len cp L.n sl).toArray 42))):=Lib.hid ⟨Box.made w4 _ _,hh.grown ga,hlen,hrf.grown ga,hlo,hrf.offNew HInv.out (Nat.le_refl _),by omega⟩
  have HDa:=Lib.hid ((HD.out.grown g4).grown ga)
  have Ga:=Lib.hid (gtr G3.out (gtr g4 ga))
  have HX9:=Lib.hid (HX3.out.grown (gtr g4 ga))
  obtain ⟨T,hT⟩:∃ T,w4.heap.size = T:=⟨_,rfl⟩
  obtain ⟨wa,hwa⟩:∃ x,w4.alloc (.cells (RwL c bk c.len cp L.n sl).toArray 42) = x:=⟨_,rfl⟩
  have hTi:hi ≤ T:=by omega
  have hwhi:w.heap.size ≤ hi:=by rw [← hhi];exact G3.out.2.2
  have hxlt:w.heap.size + 1 < hi:=by have:=HX3.out.lt;omega
  have HXN:Hid (¬ Ow d (w.heap.size + 1)):=Lib.hid (fun h => by have h1:=HFr2.out _ h;have h2:=HX2.out.lt;omega)
  rw [hwa] at HDV HDa Ga HX9
  rw [hT] at HDV
  clear e0 e1 e2 hh hlen hrf hlo g4 ga hb4 h34 HB3 HD hhi
  simp only [RwL] at hwa ⊢
  have HWA:=Lib.hid hwa
  have HTT:=Lib.hid hT
  clear hwa hT
  have HK0:Hid (KOk ⟨L.ws,L.n,x⟩ 36):=Lib.hid ⟨HLk.out.wok,HXk.out,hn0,hnx⟩
  obtain ⟨z,hz⟩:∃ z,stepK c s ⟨L.ws,L.n,x⟩ = z:=⟨_,rfl⟩
  have HZk:=Lib.hid hz
  have HZO:Hid (KOk z 37):=Lib.hid (by rw [← hz];exact HK0.out.step)
  clear hz
  have e0:=HX9.out.cell 0 _ rfl
  have e1:=HX9.out.cell 1 _ rfl
  have e2:=HX9.out.cell 2 _ rfl
  have e3:=HX9.out.cell 3 _ rfl
  have e4:=HX9.out.cell 4 _ rfl
  have e5:=HX9.out.cell 5 _ rfl
  have e6:=HX9.out.cell 6 _ rfl
  have e7:=HX9.out.cell 7 _ rfl
  have e8:=HX9.out.cell 8 _ rfl
  have e9:=HX9.out.cell 9 _ rfl
  rw [← HWA.out] at e0 e1 e2 e3 e4 e5 e6 e7 e8 e9
  have gY:Grown wa (wa.alloc (.cells #[.int .u64 x.key,.int .i64 x.mode,.int .i64 x.phase,.int .i64 x.pred,.int .i64 x.curr,.int .u64 x.next,.int .i64 x.seen,.int .i64 x.found,.bool x.stop,.bool x.done] 72)):=by go_grown
  have bY:=Box.made wa x.l 72
  have HXY:=Lib.hid (HX9.out.grown gY)
  have HDY:=Lib.hid (HDa.out.grown gY)
  have HVY:=Lib.hid (HDV.out.grown gY)
  have GY:=Lib.hid (gtr Ga.out gY)
  have hTY:wa.heap.size = T + 1:=by rw [← HWA.out,← HTT.out];simp
  obtain ⟨Y,hY⟩:∃ Y,T + 1 = Y:=⟨_,rfl⟩
  rw [hTY] at bY
  obtain ⟨wy,hwy⟩:∃ W,wa.alloc (.cells #[.int .u64 x.key,.int .i64 x.mode,.int .i64 x.phase,.int .i64 x.pred,.int .i64 x.curr,.int .u64 x.next,.int .i64 x.seen,.int .i64 x.found,.bool x.stop,.bool x.done] 72) = W:=⟨_,rfl⟩
  change Box (wa.alloc (.cells #[.int .u64 x.key,.int .i64 x.mode,.int .i64 x.phase,.int .i64 x.pred,.int .i64 x.curr,.int .u64 x.next,.int .i64 x.seen,.int .i64 x.found,.bool x.stop,.bool x.done] 72)) (T + 1) x.l at bY
  rw [hwy] at HXY HDY HVY GY bY
  rw [hY] at bY
  have HYb:=Lib.hid bY
  have hYT:T < Y:=by omega
  have hxc:=HXY.out
  rw [← hwy,← HWA.out] at hxc
  have HXc:=Lib.hid hxc
  have HWY:Hid (_ = wy):=Lib.hid hwy
  clear hxc bY gY hwy HDa HDV
  go_wp2_with (first | (refine load_box rfl 70 _ rfl (w.heap.size + 1) rfl _ _ Tryz.underlying70 rfl (by kernel_rfl) HXc.out ?_) | fail)
  rw [HWA.out,HTT.out,HWY.out,hY]
  clear e0 e1 e2 e3 e4 e5 e6 e7 e8 e9 HXc HWY HWA HTT
  refine (kStep wy c d s ⟨L.ws,L.n,x⟩ HDY.out HInv.out hn0 (by show L.n < _;omega) HLk.out.wok HXk.out z HZk.out).mono ?_;rintro e w5 ⟨rfl,q5⟩
  have HY5:=Lib.hid (HYb.out.but q5.1 (HNew.out _ (by omega)).1)
  have HX5:=Lib.hid (HXY.out.but q5.1 (fun h => HXN.out (.inr h)))
  have HV5:=Lib.hid (HVY.out.but q5.1 (fun i hi => (HNew.out i hi).1) (HNew.out _ hTi).1)
  have HD5:=Lib.hid q5.2
  have G5:Hid (Grown w w5):=Lib.hid (But.fresh GY.out q5.1 (fun i hi => HFr.out i (.inr hi)))
  clear q5 HXY HYb HVY HDY
  have hT5:=HY5.out.lt
  have gA:Grown w5 (w5.alloc (.cells z.x.l.toArray 70)):=by go_grown
  have bA:=Box.made w5 z.x.l 70
  obtain ⟨A,hA⟩:∃ Y,w5.heap.size = Y:=⟨_,rfl⟩
  obtain ⟨w6,hw6⟩:∃ W,w5.alloc (.cells z.x.l.toArray 70) = W:=⟨_,rfl⟩
  rw [hw6] at gA bA
  rw [hA] at bA
  have HA6:=Lib.hid bA
  have HY6:=Lib.hid (HY5.out.grown gA)
  have HX6:=Lib.hid (HX5.out.grown gA)
  have HV6:=Lib.hid (HV5.out.grown gA)
  have HD6:=Lib.hid (HD5.out.grown gA)
  have G6:=Lib.hid (gtr G5.out gA)
  have HW6:=Lib.hid hw6
  have hvc:=HV6.out.box
  have hyc:=HY6.out
  rw [← hw6] at hvc hyc
  simp only [Wk.l] at hvc hyc hw6 ⊢
  have HVc:=Lib.hid hvc
  have HYc:=Lib.hid hyc
  have HWx:=Lib.hid hw6
  clear gA bA hw6 hvc hyc
  go_wp2_with (first | (refine load_box rfl 42 _ rfl T rfl _ _ Tryz.underlying42 rfl (by kernel_rfl) HVc.out ?_) | (refine load_box rfl 72 _ rfl Y rfl _ _ Tryz.underlying72 rfl (by kernel_rfl) HYc.out ?_) | fail)
  rw [HWx.out]
  clear HVc HYc HWx HW6
  have hRS:=rStepK w6 0 c bk c.len cp L.ws L.n s sl ⟨HV6.out.holds,HV6.out.len,by rw [HCl.out];decide,RefS.mono HV6.out.refs (Nat.zero_le _),Nat.zero_le _⟩ HOk.out (by have:=HSo.out.1;omega) (by have:=HSo.out.2;omega) x (by rw [HCl.out];decide) hn0 (by omega) HLk.out.wok HXk.out.b0 HXk.out.b1 HXk.out.u0 HXk.out.u1 z HZk.out
  refine hRS.mono ?_;rintro e w7 ⟨b2,cp2,rfl,g7,hh7,ho7⟩
  clear hRS
  have HA7:=Lib.hid (HA6.out.grown g7)
  obtain ⟨u8,hu8,gu8,bU8,bC8⟩:=vars2 w7 zWV zWk.l 42 72
  simp only [zWV,zWk,Wk.l] at hu8
  have HS8:=Lib.hid bC8
  have hrc:=bU8
  rw [← hu8] at hrc
  simp only [zWV] at hrc
  have HRc:=Lib.hid hrc
  have HU8:=Lib.hid hu8
  have HH7:=Lib.hid hh7
  have HD7:=Lib.hid (HD6.out.grown g7)
  have HY7:=Lib.hid (HY6.out.grown g7)
  have HX7:=Lib.hid (HX6.out.grown g7)
  have G7:=Lib.hid (gtr G6.out g7)
  have GF:=Lib.hid gu8
  have h67:=g7.2.2
  clear hu8 gu8 bU8 bC8 g7 hh7 hrc
  go_wp2_with (first | (refine store_box rfl 42 _ _ rfl w7.heap.size _ HRc.out _ rfl rfl rfl (by kernel_rfl) rfl ?_;intro w_8 B_ q_;rw [HU8.out] at q_;have HU_8:=Lib.hid B_;have HC_8:=Lib.hid (HS8.out.but q_ (by omega));have Q8:=Lib.hid q_;clear B_ q_) | (refine store_box rfl 72 _ _ rfl (w7.heap.size + 1) _ HC_8.out _ rfl rfl rfl (by kernel_rfl) rfl ?_;intro w_9 B_ q_;have HC_9:=Lib.hid B_;have HU_9:=Lib.hid (HU_8.out.but q_ (by omega));have Q9:=Lib.hid q_;clear B_ q_) | fail)
  have GN:Grown w7 w_9:=But.fresh GF.out (((Q8.out.mono (fun i hi => .inl hi)).trans (Q9.out.mono (fun i hi => .inr hi)):But (fun i => i = w7.heap.size ∨ i = w7.heap.size + 1) u8 w_9)) (fun i hi => by rcases hi with h | h <;> omega)
  have HA9:=Lib.hid (HA7.out.grown GN)
  have HY9:=Lib.hid (HY7.out.grown GN)
  have HX9b:=Lib.hid (HX7.out.grown GN)
  have HD9:=Lib.hid (HD7.out.grown GN)
  have HH9:=Lib.hid (HH7.out.grown GN)
  have GE:=Lib.hid (gtr G7.out GN)
  refine wp_region_grow (by kernel_rfl) (by kernel_rfl) ?_
  go_big_quiet_step (fail)
  go_big_quiet_step (fail)
  refine wpQuiet_load_boxg rfl 70 _ rfl A rfl _ _ Tryz.underlying70 rfl (by kernel_rfl) (Box.grw HA9.out) ?_
  simp only [Act.put,List.setIfInBounds_toArray,List.set_cons_succ,List.set_cons_zero]
  refine wpQuiet_load_boxg rfl 72 _ rfl (w7.heap.size + 1) rfl _ _ Tryz.underlying72 rfl (by kernel_rfl) (Box.grw HC_9.out) ?_
  simp only [Act.put,List.setIfInBounds_toArray,List.set_cons_succ,List.set_cons_zero]
  go_big_quiet_step ((go_at_call 33;exact grcall (same10_at _ z.x)))
  go_big_quiet_step (fail)
  go_big_quiet_step (fail)
  go_big_quiet_step (fail)
  refine wpQuiet_load_boxg rfl 42 _ rfl w7.heap.size rfl _ _ Tryz.underlying42 rfl (by kernel_rfl) (Box.grw HU_9.out) ?_
  simp only [Act.put,List.setIfInBounds_toArray,List.set_cons_succ,List.set_cons_zero]
  go_big_quiet_step ((go_at_call 34;exact grcall (equal10_at _ c d z.ws z.n s b2 c.len cp2 sl (HD9.out.grown (GrW.gr _)) HD9.out.len (by rw [HCl.out];decide) (HH9.out.grown (GrW.gr _)))))
  go_big_quiet_step (fail)
  go_big_quiet_step (fail)
  refine wpQuiet_load_boxg rfl 70 _ rfl (w.heap.size + 1) rfl _ _ Tryz.underlying70 rfl (by kernel_rfl) (Box.grw HX9b.out) ?_
  simp only [Act.put,List.setIfInBounds_toArray,List.set_cons_succ,List.set_cons_zero]
  go_big_quiet_step ((go_at_call 31;exact grcall (kStepNil _ x)))
  refine wpQuiet_load_boxg rfl 72 _ rfl Y rfl _ _ Tryz.underlying72 rfl (by kernel_rfl) (Box.grw HY9.out) ?_
  simp only [Act.put,List.setIfInBounds_toArray,List.set_cons_succ,List.set_cons_zero]
  go_big_quiet_step ((go_at_call 33;exact grcall (same10_at _ x)))
  go_big_quiet_step (fail)
  go_big_quiet_step (fail)
  refine wpQuiet_nil ?_
  rintro w10 ⟨⟨_,g10⟩,rfl⟩
  go_wp2_with fail
  go_ret
  exact ⟨rfl,gtr GE.out g10⟩
end Go.Proofs.YtmokcgifknmchaaGreat
