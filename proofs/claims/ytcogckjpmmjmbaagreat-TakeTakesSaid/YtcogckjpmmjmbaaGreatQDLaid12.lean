/- The world of a scene, of the program (corrielaw12.lay). -/
import Derived.Test.YtcogckjpmmjmbaaGreatQDMScene
import Derived.Test.YtcogckjpmmjmbaaGreatQDGLaid
import Derived.Test.YtcogckjpmmjmbaaGreatQDMWorld
namespace Go.Proofs.YtcogckjpmmjmbaaGreat
open Go.ChangeShapes Go.WideShapes Go.ChangeAt Go.RowKit
set_option maxRecDepth 100000
set_option linter.unusedVariables false
set_option maxHeartbeats 8000000 in
theorem lay12_at (w:World) (f:Nat) (hf:f ≤ 255) (vi vc:Value) (xs:List It) (cs:List Cal) (hi:RowO w vi (flatI xs) xs.length) (hc:RowO w vc (flatK cs) cs.length) (hl:xs.length ≤ 12) (hl2:cs.length ≤ 6)
  (hw:∀ x ∈ xs,0 ≤ x.word ∧ x.word ≤ 18446744073709551615) (L:Ly) (hL:layL (c9 f) (sortedI xs) = L) (s:St) (hs:lyC (c9 f) L.s cs = s) :
  Calls Tryz.prog 41 #[.agg #[.int .u8 (f:Int),vi,vc]] w (LaidAt (c9 f) L.ws L.n s w):=by
 obtain ⟨ys,hys⟩:∃ ys,sortedI xs = ys:=⟨_,rfl⟩
 have HYl:Hid (ys.length = xs.length):=Lib.hid (by rw [← hys];exact sortedI_len xs)
 have HYw:Hid (∀ x ∈ ys,0 ≤ x.word ∧ x.word ≤ 18446744073709551615):=Lib.hid (by
  intro x hx
  rw [← hys] at hx
  obtain ⟨y,hy,he⟩:=sortedI_word hx
  rw [he];exact hw y hy)
 have HYS:=Lib.hid hys
 rw [hys] at hL
 obtain ⟨m,hm⟩:∃ m,xs.length = m:=⟨_,rfl⟩
 have HM:=Lib.hid hm
 obtain ⟨m2,hm2⟩:∃ m,cs.length = m:=⟨_,rfl⟩
 have HM2:=Lib.hid hm2
 have hlm:m ≤ 12:=hm ▸ hl
 have hlm2:m2 ≤ 6:=hm2 ▸ hl2
 rw [hm2] at hc
 have HL:=Lib.hid hL
 have HS:=Lib.hid hs
 have HI:=Lib.hid hi
 have HOk:=Lib.hid (c9_ok hf)
 obtain ⟨c,hcc⟩:∃ c,c9 f = c:=⟨_,rfl⟩
 have HCC:=Lib.hid hcc
 have HOkc:Hid c.Ok:=Lib.hid (hcc ▸ c9_ok hf)
 rw [hcc] at hL hs
 have HL2:=Lib.hid hL
 have HS2:=Lib.hid hs
 obtain ⟨Ac,gc,oc,capc,rfl,hAc,hcc2⟩:=hc
 rcases Nat.eq_zero_or_pos m2 with hz | hz
 ·have HZ:=Lib.hid hz
  clear hi hw hys hL hs hm hm2 hl hl2 hcc hcc2 hAc hz
  go_enter Tryz.func41,Tryz.ntmps41
  have HB:=Lib.hid (Box.made w [.int .u8 (f:Int),vi,.slice Ac m2 capc] 25)
  have GB:Grown w (w.alloc (.cells #[.int .u8 (f:Int),vi,.slice Ac m2 capc] 25)):=by go_grown
  have e0:=HB.out.cell 0 _ rfl
  have e1:=HB.out.cell 1 _ rfl
  have e2:=HB.out.cell 2 _ rfl
  go_wp2_with fail
  refine (Conf9_at _ f hf vi (.slice Ac m2 capc)).mono ?_;rintro e w1 ⟨rfl,g1⟩
  go_wp2_with fail
  refine (wNew_at _ (c9 f) HOk.out).mono ?_;rintro e w2 ⟨d,rfl,g2,h2,dp,db,dx,da⟩
  rw [HCC.out] at h2
  have G2:Grown w w2:=gtr GB (gtr g1 g2)
  have hsz1:w.heap.size + 1 ≤ w1.heap.size:=by have:=(HB.out.grown g1).lt;omega
  have HFr:Hid (∀ i,Ow d i → w.heap.size + 1 ≤ i):=Lib.hid (by
   rintro i (h | h | h)
   ·have h1:=h.1;omega
   ·omega
   ·omega)
  have HB2:=Lib.hid (HB.out.grown (gtr g1 g2))
  have H2:=Lib.hid h2
  clear e0 e1 e2 h2 g1 g2 dp db dx da HB
  have e0:=HB2.out.cell 0 _ rfl
  have e1:=HB2.out.cell 1 _ rfl
  have e2:=HB2.out.cell 2 _ rfl
  go_wp2_with fail
  refine (Sorted_at _ (f:Int) vi (.slice Ac m2 capc) xs (RowO.grown HI.out G2) (by rw [HM.out];exact hlm)).mono ?_;rintro e w3 ⟨vy,rfl,r3,f3,g3⟩
  rw [HM.out,HYS.out] at r3
  have HB3:=Lib.hid (HB2.out.grown g3)
  have H3:=Lib.hid (H2.out.grown g3)
  have G3:=Lib.hid (gtr G2 g3)
  have HF3:Hid (∀ g,InRow vy g → w2.heap.size ≤ g):=Lib.hid f3
  have hsz3:w2.heap.size ≤ w3.heap.size:=g3.2.2
  clear e0 e1 e2 f3 g3 G2 HB2
  rcases r3 with ⟨rfl,hz3,-⟩ | ⟨gy,capy,rfl,hcapy,hy⟩
  ·have HQ:Hid (But (Ow d) w3 w3):=Lib.hid (But.refl _ _)
   have hyn:ys = []:=List.eq_nil_of_length_eq_zero (by have h1:=HYl.out;have h2:=HM.out;omega)
   have hL0:ly0 c = L:=by rw [← HL2.out,hyn];rfl
   have HDL:Hid (WdAt w3 c d L.ws L.n L.s):=Lib.hid (by rw [← hL0];exact H3.out)
   have HLi:Hid (Inv c L.s):=Lib.hid (by rw [← hL0];exact Inv.new)
   clear hyn hL0
   go_wp2_with fail
   refine wp_loop_rounds 1 ?_
   rw [rounds_succ]
   have nB:¬ Ow d w.heap.size:=fun h => by have:=HFr.out _ h;omega
   have e2:w3.cell? ⟨w.heap.size,2,none⟩ = some (.slice Ac m2 capc):=HQ.out.cell nB (HB3.out.cell 2 _ rfl)
   have hz0:¬ (0:Int) < (m2:Int):=by have:=HZ.out;omega
   go_wp2_with fail
   refine wp_loop_rounds 1 ?_
   rw [rounds_succ]
   go_wp2_with fail
   go_ret
   refine ⟨d,rfl,But.fresh G3.out HQ.out (fun i hi => by have:=HFr.out i hi;omega),?_,fun i hi => by have:=HFr.out i hi;omega⟩
   have hcs:cs = []:=List.eq_nil_of_length_eq_zero (by have h1:=HM2.out;have h2:=HZ.out;omega)
   have h1:=HS2.out
   rw [hcs] at h1
   rw [HCC.out,← h1]
   exact HDL.out
  ·have HY:=Lib.hid hy
   have hgy:w2.heap.size ≤ gy:=HF3.out gy rfl
   have HNy:Hid (¬ Ow d gy):=Lib.hid (H2.out.ow_lt hgy)
   have hcapyI:(m:Int) ≤ (capy:Int):=by omega
   clear hy
   go_wp2_with fail
   go_loopw [6,7,8,9,10,11,12,13] (fun s6 s7 s8 s9 s10 s11 s12 s13 wr => ∃ (k:Nat) (at_ op:Int),s6 = .int .i64 at_ ∧ s7 = .int .i64 op ∧ s8 = .int .i64 (k:Int) ∧ k ≤ m ∧ (layL c (ys.take k)).at_ = at_ ∧ (layL c (ys.take k)).op = op ∧ But (Ow d) w3 wr ∧ WdAt wr c d (layL c (ys.take k)).ws (layL c (ys.take k)).n (layL c (ys.take k)).s) (fun s6 s7 s8 s9 s10 s11 s12 s13 _ => m - (intOf s8).toNat)
   case atStart => exact ⟨0,1,0,rfl,rfl,rfl,Nat.zero_le _,rfl,rfl,But.refl _ _,H3.out⟩
   case round =>
    obtain ⟨k,at_,op,rfl,rfl,rfl,hk,hat,hop,hq,hwd⟩:=hrel
    obtain ⟨wo,hwo⟩:∃ x,x = wr:=⟨_,rfl⟩
    subst hwo
    have HQ:=Lib.hid hq
    by_cases hkm:k < m
    ·have hlt:(k:Int) < (m:Int):=by omega
     obtain ⟨⟨xk,xv,xw,xm,xa⟩,hx⟩:∃ y,ys[k]? = some y:=⟨_,List.getElem?_eq_getElem (by rw [HYl.out,HM.out];exact hkm)⟩
     have HX:=Lib.hid hx
     have HStep:=Lib.hid (layL_step (c:=c) hx)
     have HLok:Hid (LyOk c (layL c (ys.take k)) k):=Lib.hid (layL_ok c ys HYw.out k (by rw [HYl.out,HM.out];omega))
     obtain ⟨⟨Lws,Ln,Ls,Lat,Lop⟩,hLL⟩:∃ L,layL c (ys.take k) = L:=⟨_,rfl⟩
     rw [hLL] at HStep HLok hat hop hwd
     simp only at hat hop hwd
     subst hat hop
     have HD:=Lib.hid hwd
     have n0:0 ≤ Ln:=HLok.out.n0
     have n1:Ln ≤ 3 * k:=HLok.out.n1
     have c0:=hq.cell HNy.out (HY.out (k * 5 + 4) _ (flatI_4 hx))
     simp only at c0
     clear hx hLL hq hwd
     cases xa
     ·have r0:=Lib.hid (rfl:beginI c Ls 0 ⟨1,xk,xv,0⟩ = beginI c Ls 0 ⟨1,xk,xv,0⟩)
      obtain ⟨⟨sb,nb,bb⟩,hb⟩:∃ r,beginI c Ls 0 ⟨1,xk,xv,0⟩ = r:=⟨_,rfl⟩
      have HBg:=Lib.hid hb
      have k6:=HD.out.k6
      clear hb r0
      go_wp2_with fail
      refine wp_region_planb (Ow d) (.one [0,1,2,3,4,5,6,7,8,9,10,11,12,13,14] 15 (.fin [16,17,18,19,20])) (by kernel_rfl) (by kernel_rfl) (by kernel_rfl) ?_
      intro w4 g4
      have HD4:=Lib.hid (HD.out.grown g4)
      have d1:∀ q:ButW (Ow d) w4,q.w.cell? ⟨gy,k * 5,none⟩ = some (.int .u64 xk):=ButW.cell HNy.out (gcell g4 (HQ.out.cell HNy.out (HY.out (k * 5) _ (flatI_0 HX.out))))
      have d2:∀ q:ButW (Ow d) w4,q.w.cell? ⟨gy,k * 5 + 1,none⟩ = some (.int .u64 xv):=ButW.cell HNy.out (gcell g4 (HQ.out.cell HNy.out (HY.out (k * 5 + 1) _ (flatI_1 HX.out))))
      have d3:∀ q:ButW (Ow d) w4,q.w.cell? ⟨d.x,6,none⟩ = some (.pointer (some ⟨d.a.p,0,none⟩)):=ButW.cell H2.out.ow_x HD4.out.k6
      clear k6 c0
      refine plan_one ?_
      simp only [nths,nth,List.map_cons,List.map_nil,List.getD_cons_zero,List.getD_cons_succ]
      repeat go_big_quiet_step (fail)
      refine wpQuiet_nil ?_
      clear d1 d2 d3
      go_wp2_with fail
      refine (Begin_any _ c d.a Ls HD4.out.book HLok.out.inv 0 ⟨1,xk,xv,0⟩ _ HBg.out).mono ?_;rintro e w5 ⟨rfl,q5,h5⟩
      simp only
      have HD5:Hid (WdAt w5 c d Lws Ln sb):=Lib.hid (HD4.out.book' q5 h5)
      have q5':But (Ow d) w4 w5:=q5.mono (fun i hi => .inl hi)
      go_wp2_with fail
      refine nxt_but q5' (plan_fin ?_)
      simp only [nths,nth,List.map_cons,List.map_nil,List.getD_cons_zero,List.getD_cons_succ]
      repeat go_big_quiet_step (fail)
      refine wpQuiet_nil ?_
      have HQ5:Hid (But (Ow d) w3 w5):=Lib.hid ((HQ.out.trans (But.of_grown g4)).trans q5')
      have c2:=HQ5.out.cell HNy.out (HY.out (k * 5 + 2) _ (flatI_2 HX.out))
      simp only at c2
      clear q5 h5 q5' g4
      go_wp2_with fail
      refine (wTurn_any _ c d _ _ _ (nb:Int) 0 xw HD5.out n0 (by omega)).mono ?_;rintro e w6 ⟨rfl,q6,h6⟩
      have HQ6:Hid (But (Ow d) w3 w6):=Lib.hid (HQ5.out.trans (q6.mono (fun i hi => .inr hi)))
      obtain ⟨mi,mw,mn0,mn1⟩:=HLok.out.a (x:=⟨xk,xv,xw,xm,false⟩) (HYw.out _ (List.mem_of_getElem? HX.out)).1 (HYw.out _ (List.mem_of_getElem? HX.out)).2
      have HMs:Hid (lyI c ⟨Lws,Ln,Ls,Lat,Lop⟩ ⟨xk,xv,xw,xm,false⟩ = lyB c (lyA c ⟨Lws,Ln,Ls,Lat,Lop⟩ ⟨xk,xv,xw,xm,false⟩) ⟨xk,xv,xw,xm,false⟩):=Lib.hid rfl
      have hMA:lyA c ⟨Lws,Ln,Ls,Lat,Lop⟩ ⟨xk,xv,xw,xm,false⟩ = ⟨sw Lws (wrdI c (nb:Int)) 0 xw,Ln + cnt Lws (wrdI c (nb:Int)),sb,Lat,(nb:Int)⟩:=by unfold lyA;simp only;rw [HBg.out]
      rw [hMA] at mi mw mn0 mn1
      simp only at mi mw mn0 mn1
      replace HMs:=Lib.hid (hMA ▸ HMs.out)
      have HDm:=Lib.hid h6
      obtain ⟨Mws,hMws⟩:∃ x,sw Lws (wrdI c (nb:Int)) 0 xw = x:=⟨_,rfl⟩
      obtain ⟨Mn,hMn⟩:∃ x,Ln + cnt Lws (wrdI c (nb:Int)) = x:=⟨_,rfl⟩
      rw [hMws,hMn] at HDm HMs
      rw [hMws] at mw
      rw [hMn] at mn0 mn1
      have HDm':=Lib.hid HDm.out
      clear hMA hMws hMn h6 q6 c2 HDm
      obtain ⟨⟨sm,nm,bm⟩,hmk⟩:∃ r,makeI c sb 0 (nb:Int) = r:=⟨_,rfl⟩
      have HMk:=Lib.hid hmk
      have hnm:nm ≤ 9999:=by have:=make_le HOkc.out mi 0 (nb:Int);rw [hmk] at this;exact this
      have hr0:0 ≤ rd Mws Lat:=(mw Lat).1
      have hr1:rd Mws Lat ≤ 18446744073709551615:=(mw Lat).2
      have HMi:=Lib.hid mi
      have HMw:=Lib.hid mw
      have k6:=HDm'.out.k6
      have cn:=cnt_le Mws (nxtI c Lat)
      have cn0:0 ≤ Mn + cnt Mws (nxtI c Lat):=by omega
      have cn1:Mn + cnt Mws (nxtI c Lat) < 4611686018427387904:=by omega
      clear hmk mi mw cn
      go_wp2_with fail
      refine (Make_any _ c d.a sb HDm'.out.book HMi.out 0 (nb:Int) _ HMk.out).mono ?_;rintro e w7 ⟨rfl,q7,h7⟩
      simp only
      have HD7:Hid (WdAt w7 c d Mws Mn sm):=Lib.hid (HDm'.out.book' q7 h7)
      have HQ7:Hid (But (Ow d) w3 w7):=Lib.hid (HQ6.out.trans (q7.mono (fun i hi => .inl hi)))
      have k5:=HD7.out.k5
      clear k6 q7 h7
      go_wp2_with fail
      refine (Peek_any _ d.p d.b Mws Mn Lat HD7.out.bank).mono ?_;rintro e w8 ⟨rfl,g8⟩
      clear k5
      go_wp2_with fail
      refine (refMarked_any _ _ hr0 hr1).mono ?_;rintro e w9 ⟨rfl,g9⟩
      go_wp2_with fail
      refine (refPack_any (nm:Int) _ _ (by omega) (by omega)).mono ?_;rintro e w10 ⟨rfl,g10⟩
      have HD10:=Lib.hid (HD7.out.grown (gtr g8 (gtr g9 g10)))
      have HQ10:Hid (But (Ow d) w3 w10):=Lib.hid (HQ7.out.trans (But.of_grown (gtr g8 (gtr g9 g10))))
      clear g8 g9 g10
      go_wp2_with fail
      refine (wSet_any _ c d _ _ _ Lat (zPack (nm:Int) (rd Mws Lat % 2 == 1)) HD10.out (by omega) (by omega)).mono ?_;rintro e w11 ⟨rfl,q11,h11⟩
      have HQ11:Hid (But (Ow d) w3 w11):=Lib.hid (HQ10.out.trans (q11.mono (fun i hi => .inr hi)))
      have HD11:=Lib.hid h11
      have c3:=HQ11.out.cell HNy.out (HY.out (k * 5 + 3) _ (flatI_3 HX.out))
      simp only at c3
      clear q11 h11
      go_wp2_with fail
      refine (refPack_any 0 xm _ (by omega) (by omega)).mono ?_;rintro e w12 ⟨rfl,g12⟩
      have HD12:=Lib.hid (HD11.out.grown g12)
      have HQ12:Hid (But (Ow d) w3 w12):=Lib.hid (HQ11.out.trans (But.of_grown g12))
      clear g12 c3
      go_wp2_with fail
      refine (wSet_any _ c d _ _ _ (nm:Int) (zPack 0 xm) HD12.out cn0 cn1).mono ?_;rintro e w13 ⟨rfl,q13,h13⟩
      have HQ13:Hid (But (Ow d) w3 w13):=Lib.hid (HQ12.out.trans (q13.mono (fun i hi => .inr hi)))
      have HD13:=Lib.hid h13
      have HE:Hid (layL c (ys.take (k + 1)) = ⟨wr (wr Mws (nxtI c Lat) (zPack (nm:Int) (rd Mws Lat % 2 == 1))) (nxtI c (nm:Int)) (zPack 0 xm),Mn + cnt Mws (nxtI c Lat) + cnt (wr Mws (nxtI c Lat) (zPack (nm:Int) (rd Mws Lat % 2 == 1))) (nxtI c (nm:Int)),sm,(nm:Int),(nb:Int)⟩):=Lib.hid (by
       rw [HStep.out,HMs.out]
       unfold lyB lyW
       simp only
       rw [HMk.out])
      clear q13 h13
      go_wp2_with fail
      refine ⟨⟨k + 1,(nm:Int),(nb:Int),rfl,rfl,by simp,hkm,by rw [HE.out],by rw [HE.out],HQ13.out,?_⟩,by simp [intOf];omega⟩
      rw [HE.out]
      exact HD13.out
     ·have mi:=HLok.out.inv
      have mw:=HLok.out.wok
      have HMs:Hid (lyI c ⟨Lws,Ln,Ls,Lat,Lop⟩ ⟨xk,xv,xw,xm,true⟩ = lyB c ⟨Lws,Ln,Ls,Lat,Lop⟩ ⟨xk,xv,xw,xm,true⟩):=Lib.hid rfl
      obtain ⟨⟨sm,nm,bm⟩,hmk⟩:∃ r,makeI c Ls 0 Lop = r:=⟨_,rfl⟩
      have HMk:=Lib.hid hmk
      have hnm:nm ≤ 9999:=by have:=make_le HOkc.out mi 0 Lop;rw [hmk] at this;exact this
      have hr0:0 ≤ rd Lws Lat:=(mw Lat).1
      have hr1:rd Lws Lat ≤ 18446744073709551615:=(mw Lat).2
      have HMi:=Lib.hid mi
      have HMw:=Lib.hid mw
      have k6:=HD.out.k6
      have cn:=cnt_le Lws (nxtI c Lat)
      have cn0:0 ≤ Ln + cnt Lws (nxtI c Lat):=by omega
      have cn1:Ln + cnt Lws (nxtI c Lat) < 4611686018427387904:=by omega
      clear hmk mi mw cn
      go_wp2_with fail
      refine (Make_any _ c d.a Ls HD.out.book HMi.out 0 Lop _ HMk.out).mono ?_;rintro e w7 ⟨rfl,q7,h7⟩
      simp only
      have HD7:Hid (WdAt w7 c d Lws Ln sm):=Lib.hid (HD.out.book' q7 h7)
      have HQ7:Hid (But (Ow d) w3 w7):=Lib.hid (HQ.out.trans (q7.mono (fun i hi => .inl hi)))
      have k5:=HD7.out.k5
      clear k6 q7 h7
      go_wp2_with fail
      refine (Peek_any _ d.p d.b Lws Ln Lat HD7.out.bank).mono ?_;rintro e w8 ⟨rfl,g8⟩
      clear k5
      go_wp2_with fail
      refine (refMarked_any _ _ hr0 hr1).mono ?_;rintro e w9 ⟨rfl,g9⟩
      go_wp2_with fail
      refine (refPack_any (nm:Int) _ _ (by omega) (by omega)).mono ?_;rintro e w10 ⟨rfl,g10⟩
      have HD10:=Lib.hid (HD7.out.grown (gtr g8 (gtr g9 g10)))
      have HQ10:Hid (But (Ow d) w3 w10):=Lib.hid (HQ7.out.trans (But.of_grown (gtr g8 (gtr g9 g10))))
      clear g8 g9 g10
      go_wp2_with fail
      refine (wSet_any _ c d _ _ _ Lat (zPack (nm:Int) (rd Lws Lat % 2 == 1)) HD10.out (by omega) (by omega)).mono ?_;rintro e w11 ⟨rfl,q11,h11⟩
      have HQ11:Hid (But (Ow d) w3 w11):=Lib.hid (HQ10.out.trans (q11.mono (fun i hi => .inr hi)))
      have HD11:=Lib.hid h11
      have c3:=HQ11.out.cell HNy.out (HY.out (k * 5 + 3) _ (flatI_3 HX.out))
      simp only at c3
      clear q11 h11
      go_wp2_with fail
      refine (refPack_any 0 xm _ (by omega) (by omega)).mono ?_;rintro e w12 ⟨rfl,g12⟩
      have HD12:=Lib.hid (HD11.out.grown g12)
      have HQ12:Hid (But (Ow d) w3 w12):=Lib.hid (HQ11.out.trans (But.of_grown g12))
      clear g12 c3
      go_wp2_with fail
      refine (wSet_any _ c d _ _ _ (nm:Int) (zPack 0 xm) HD12.out cn0 cn1).mono ?_;rintro e w13 ⟨rfl,q13,h13⟩
      have HQ13:Hid (But (Ow d) w3 w13):=Lib.hid (HQ12.out.trans (q13.mono (fun i hi => .inr hi)))
      have HD13:=Lib.hid h13
      have HE:Hid (layL c (ys.take (k + 1)) = ⟨wr (wr Lws (nxtI c Lat) (zPack (nm:Int) (rd Lws Lat % 2 == 1))) (nxtI c (nm:Int)) (zPack 0 xm),Ln + cnt Lws (nxtI c Lat) + cnt (wr Lws (nxtI c Lat) (zPack (nm:Int) (rd Lws Lat % 2 == 1))) (nxtI c (nm:Int)),sm,(nm:Int),Lop⟩):=Lib.hid (by
       rw [HStep.out,HMs.out]
       unfold lyB lyW
       simp only
       rw [HMk.out])
      clear q13 h13
      go_wp2_with fail
      refine ⟨⟨k + 1,(nm:Int),Lop,rfl,rfl,by simp,hkm,by rw [HE.out],by rw [HE.out],HQ13.out,?_⟩,by simp [intOf];omega⟩
      rw [HE.out]
      exact HD13.out
    ·have hlt:¬ (k:Int) < (m:Int):=by omega
     have htk:ys.take k = ys:=List.take_of_length_le (by have h1:=HYl.out;have h2:=HM.out;omega)
     rw [htk,HL2.out] at hwd hat hop
     have HDL:=Lib.hid hwd
     have HLi:Hid (Inv c L.s):=Lib.hid (by have:=(layL_ok c ys HYw.out k (by have h1:=HYl.out;have h2:=HM.out;omega)).inv;rw [htk,HL2.out] at this;exact this)
     clear hwd hq htk
     have nB:¬ Ow d w.heap.size:=fun h => by have:=HFr.out _ h;omega
     have e2:wo.cell? ⟨w.heap.size,2,none⟩ = some (.slice Ac m2 capc):=HQ.out.cell nB (HB3.out.cell 2 _ rfl)
     have hz0:¬ (0:Int) < (m2:Int):=by have:=HZ.out;omega
     go_wp2_with fail
     refine wp_loop_rounds 1 ?_
     rw [rounds_succ]
     go_wp2_with fail
     go_ret
     refine ⟨d,rfl,But.fresh G3.out HQ.out (fun i hi => by have:=HFr.out i hi;omega),?_,fun i hi => by have:=HFr.out i hi;omega⟩
     have hcs:cs = []:=List.eq_nil_of_length_eq_zero (by have h1:=HM2.out;have h2:=HZ.out;omega)
     have h1:=HS2.out
     rw [hcs] at h1
     rw [HCC.out,← h1]
     exact HDL.out
 ·obtain rfl:=hAc hz
  have HCa:=Lib.hid hcc2
  clear hi hw hys hL hs hm hm2 hl hl2 hcc hcc2 hAc
  go_enter Tryz.func41,Tryz.ntmps41
  have HB:=Lib.hid (Box.made w [.int .u8 (f:Int),vi,.slice (some ⟨gc,oc,none⟩) m2 capc] 25)
  have GB:Grown w (w.alloc (.cells #[.int .u8 (f:Int),vi,.slice (some ⟨gc,oc,none⟩) m2 capc] 25)):=by go_grown
  have e0:=HB.out.cell 0 _ rfl
  have e1:=HB.out.cell 1 _ rfl
  have e2:=HB.out.cell 2 _ rfl
  go_wp2_with fail
  refine (Conf9_at _ f hf vi (.slice (some ⟨gc,oc,none⟩) m2 capc)).mono ?_;rintro e w1 ⟨rfl,g1⟩
  go_wp2_with fail
  refine (wNew_at _ (c9 f) HOk.out).mono ?_;rintro e w2 ⟨d,rfl,g2,h2,dp,db,dx,da⟩
  rw [HCC.out] at h2
  have G2:Grown w w2:=gtr GB (gtr g1 g2)
  have hsz1:w.heap.size + 1 ≤ w1.heap.size:=by have:=(HB.out.grown g1).lt;omega
  have HFr:Hid (∀ i,Ow d i → w.heap.size + 1 ≤ i):=Lib.hid (by
   rintro i (h | h | h)
   ·have h1:=h.1;omega
   ·omega
   ·omega)
  have HB2:=Lib.hid (HB.out.grown (gtr g1 g2))
  have H2:=Lib.hid h2
  clear e0 e1 e2 h2 g1 g2 dp db dx da HB
  have e0:=HB2.out.cell 0 _ rfl
  have e1:=HB2.out.cell 1 _ rfl
  have e2:=HB2.out.cell 2 _ rfl
  go_wp2_with fail
  refine (Sorted_at _ (f:Int) vi (.slice (some ⟨gc,oc,none⟩) m2 capc) xs (RowO.grown HI.out G2) (by rw [HM.out];exact hlm)).mono ?_;rintro e w3 ⟨vy,rfl,r3,f3,g3⟩
  rw [HM.out,HYS.out] at r3
  have HB3:=Lib.hid (HB2.out.grown g3)
  have H3:=Lib.hid (H2.out.grown g3)
  have G3:=Lib.hid (gtr G2 g3)
  have HF3:Hid (∀ g,InRow vy g → w2.heap.size ≤ g):=Lib.hid f3
  have hsz3:w2.heap.size ≤ w3.heap.size:=g3.2.2
  clear e0 e1 e2 f3 g3 G2 HB2
  rcases r3 with ⟨rfl,hz3,-⟩ | ⟨gy,capy,rfl,hcapy,hy⟩
  ·have HQ:Hid (But (Ow d) w3 w3):=Lib.hid (But.refl _ _)
   have hyn:ys = []:=List.eq_nil_of_length_eq_zero (by have h1:=HYl.out;have h2:=HM.out;omega)
   have hL0:ly0 c = L:=by rw [← HL2.out,hyn];rfl
   have HDL:Hid (WdAt w3 c d L.ws L.n L.s):=Lib.hid (by rw [← hL0];exact H3.out)
   have HLi:Hid (Inv c L.s):=Lib.hid (by rw [← hL0];exact Inv.new)
   clear hyn hL0
   go_wp2_with fail
   refine wp_loop_rounds 1 ?_
   rw [rounds_succ]
   have nB:¬ Ow d w.heap.size:=fun h => by have:=HFr.out _ h;omega
   go_wp2_with fail
   go_loopw [14] (fun s14 wr => ∃ k:Nat,s14 = .int .i64 (k:Int) ∧ k ≤ m2 ∧ But (Ow d) w3 wr ∧ WdAt wr c d L.ws L.n (lyC c L.s (cs.take k))) (fun s14 _ => m2 - (intOf s14).toNat)
   case atStart => exact ⟨0,rfl,Nat.zero_le _,HQ.out,HDL.out⟩
   case round =>
    obtain ⟨k2,rfl,hk2,hq2,hwd2⟩:=hrel
    have HQ2:=Lib.hid hq2
    have HD2:=Lib.hid hwd2
    have e2:wr.cell? ⟨w.heap.size,2,none⟩ = some (.slice (some ⟨gc,oc,none⟩) m2 capc):=hq2.cell nB (HB3.out.cell 2 _ rfl)
    clear hq2 hwd2
    by_cases hk2m:k2 < m2
    ·have hlt2:(k2:Int) < (m2:Int):=by omega
     obtain ⟨⟨ck,cy,cv,cl⟩,hx2⟩:∃ y,cs[k2]? = some y:=⟨_,List.getElem?_eq_getElem (by rw [HM2.out];exact hk2m)⟩
     have HX2:=Lib.hid hx2
     have HStep2:=Lib.hid (lyC_step (c:=c) (s:=L.s) hx2)
     have nC:¬ Ow d gc:=fun h => by
      have h1:=HFr.out _ h
      have h2:=World.block_lt_of_cell? w _ (HCa.out (k2 * 4) _ (flatK_0 hx2))
      simp only at h2
      omega
     have HNc:=Lib.hid nC
     have HNb:=Lib.hid nB
     have HI2:Hid (Inv c (lyC c L.s (cs.take k2))):=Lib.hid (lyC_inv _ HLi.out)
     obtain ⟨s2,hs2⟩:∃ x,lyC c L.s (cs.take k2) = x:=⟨_,rfl⟩
     rw [hs2] at HD2 HStep2 HI2
     obtain ⟨⟨sb2,nb2,bb2⟩,hb2⟩:∃ r,beginI c s2 2 ⟨ck,cy,cv,cl⟩ = r:=⟨_,rfl⟩
     have HBg2:=Lib.hid hb2
     have HE2:Hid (lyC c L.s (cs.take (k2 + 1)) = sb2):=Lib.hid (by rw [HStep2.out,hb2])
     have HDs:=Lib.hid HD2.out
     clear hx2 nC nB hs2 hb2 HD2
     go_wp2_with fail
     clear e2
     refine wp_region_planb (Ow d) (.one [0,1,2,3,4,5,6,7,8] 9 (.fin [])) (by kernel_rfl) (by kernel_rfl) (by kernel_rfl) ?_
     intro w4 g4
     have HD4:=Lib.hid (HDs.out.grown g4)
     have HQ4:Hid (But (Ow d) w3 w4):=Lib.hid (HQ2.out.trans (But.of_grown g4))
     have d1:∀ q:ButW (Ow d) w4,q.w.cell? ⟨gc,oc + k2 * 4,none⟩ = some (.int .i64 ck):=ButW.cell HNc.out (HQ4.out.cell HNc.out (gcell G3.out (HCa.out (k2 * 4) _ (flatK_0 HX2.out))))
     have d2:∀ q:ButW (Ow d) w4,q.w.cell? ⟨gc,oc + k2 * 4 + 1,none⟩ = some (.int .u64 cy):=ButW.cell HNc.out (HQ4.out.cell HNc.out (gcell G3.out (HCa.out (k2 * 4 + 1) _ (flatK_1 HX2.out))))
     have d3:∀ q:ButW (Ow d) w4,q.w.cell? ⟨gc,oc + k2 * 4 + 2,none⟩ = some (.int .u64 cv):=ButW.cell HNc.out (HQ4.out.cell HNc.out (gcell G3.out (HCa.out (k2 * 4 + 2) _ (flatK_2 HX2.out))))
     have d4:∀ q:ButW (Ow d) w4,q.w.cell? ⟨gc,oc + k2 * 4 + 3,none⟩ = some (.int .i64 cl):=ButW.cell HNc.out (HQ4.out.cell HNc.out (gcell G3.out (HCa.out (k2 * 4 + 3) _ (flatK_3 HX2.out))))
     have d5:∀ q:ButW (Ow d) w4,q.w.cell? ⟨d.x,6,none⟩ = some (.pointer (some ⟨d.a.p,0,none⟩)):=ButW.cell H2.out.ow_x HD4.out.k6
     have d6:∀ q:ButW (Ow d) w4,q.w.cell? ⟨w.heap.size,2,none⟩ = some (.slice (some ⟨gc,oc,none⟩) m2 capc):=ButW.cell HNb.out (HQ4.out.cell HNb.out (HB3.out.cell 2 _ rfl))
     refine plan_one ?_
     simp only [nths,nth,List.map_cons,List.map_nil,List.getD_cons_zero,List.getD_cons_succ]
     repeat go_big_quiet_step (fail)
     refine wpQuiet_nil ?_
     clear d1 d2 d3 d4 d5 d6
     go_wp2_with fail
     refine (Begin_any _ c d.a s2 HD4.out.book HI2.out 2 ⟨ck,cy,cv,cl⟩ _ HBg2.out).mono ?_;rintro e w5 ⟨rfl,q5,h5⟩
     simp only
     have HD5:Hid (WdAt w5 c d L.ws L.n sb2):=Lib.hid (HD4.out.book' q5 h5)
     have q5':But (Ow d) w4 w5:=q5.mono (fun i hi => .inl hi)
     have HQ5:Hid (But (Ow d) w3 w5):=Lib.hid (HQ4.out.trans q5')
     go_wp2_with fail
     refine nxt_but q5' (plan_fin ?_)
     simp only [nths,List.map_nil]
     refine wpQuiet_nil ?_
     clear q5 h5 q5' g4
     go_wp2_with fail
     exact ⟨⟨k2 + 1,by simp,hk2m,HQ5.out,by rw [HE2.out];exact HD5.out⟩,by simp [intOf];omega⟩
    ·have hlt2:¬ (k2:Int) < (m2:Int):=by omega
     have HT:Hid (lyC c L.s (cs.take k2) = s):=Lib.hid (by rw [List.take_of_length_le (by have:=HM2.out;omega)];exact HS2.out)
     go_wp2_with fail
     go_ret
     exact ⟨d,rfl,But.fresh G3.out HQ2.out (fun i hi => by have:=HFr.out i hi;omega),by rw [HCC.out,← HT.out];exact HD2.out,fun i hi => by have:=HFr.out i hi;omega⟩
  ·have HY:=Lib.hid hy
   have hgy:w2.heap.size ≤ gy:=HF3.out gy rfl
   have HNy:Hid (¬ Ow d gy):=Lib.hid (H2.out.ow_lt hgy)
   have hcapyI:(m:Int) ≤ (capy:Int):=by omega
   clear hy
   go_wp2_with fail
   go_loopw [6,7,8,9,10,11,12,13] (fun s6 s7 s8 s9 s10 s11 s12 s13 wr => ∃ (k:Nat) (at_ op:Int),s6 = .int .i64 at_ ∧ s7 = .int .i64 op ∧ s8 = .int .i64 (k:Int) ∧ k ≤ m ∧ (layL c (ys.take k)).at_ = at_ ∧ (layL c (ys.take k)).op = op ∧ But (Ow d) w3 wr ∧ WdAt wr c d (layL c (ys.take k)).ws (layL c (ys.take k)).n (layL c (ys.take k)).s) (fun s6 s7 s8 s9 s10 s11 s12 s13 _ => m - (intOf s8).toNat)
   case atStart => exact ⟨0,1,0,rfl,rfl,rfl,Nat.zero_le _,rfl,rfl,But.refl _ _,H3.out⟩
   case round =>
    obtain ⟨k,at_,op,rfl,rfl,rfl,hk,hat,hop,hq,hwd⟩:=hrel
    obtain ⟨wo,hwo⟩:∃ x,x = wr:=⟨_,rfl⟩
    subst hwo
    have HQ:=Lib.hid hq
    by_cases hkm:k < m
    ·have hlt:(k:Int) < (m:Int):=by omega
     obtain ⟨⟨xk,xv,xw,xm,xa⟩,hx⟩:∃ y,ys[k]? = some y:=⟨_,List.getElem?_eq_getElem (by rw [HYl.out,HM.out];exact hkm)⟩
     have HX:=Lib.hid hx
     have HStep:=Lib.hid (layL_step (c:=c) hx)
     have HLok:Hid (LyOk c (layL c (ys.take k)) k):=Lib.hid (layL_ok c ys HYw.out k (by rw [HYl.out,HM.out];omega))
     obtain ⟨⟨Lws,Ln,Ls,Lat,Lop⟩,hLL⟩:∃ L,layL c (ys.take k) = L:=⟨_,rfl⟩
     rw [hLL] at HStep HLok hat hop hwd
     simp only at hat hop hwd
     subst hat hop
     have HD:=Lib.hid hwd
     have n0:0 ≤ Ln:=HLok.out.n0
     have n1:Ln ≤ 3 * k:=HLok.out.n1
     have c0:=hq.cell HNy.out (HY.out (k * 5 + 4) _ (flatI_4 hx))
     simp only at c0
     clear hx hLL hq hwd
     cases xa
     ·have r0:=Lib.hid (rfl:beginI c Ls 0 ⟨1,xk,xv,0⟩ = beginI c Ls 0 ⟨1,xk,xv,0⟩)
      obtain ⟨⟨sb,nb,bb⟩,hb⟩:∃ r,beginI c Ls 0 ⟨1,xk,xv,0⟩ = r:=⟨_,rfl⟩
      have HBg:=Lib.hid hb
      have k6:=HD.out.k6
      clear hb r0
      go_wp2_with fail
      refine wp_region_planb (Ow d) (.one [0,1,2,3,4,5,6,7,8,9,10,11,12,13,14] 15 (.fin [16,17,18,19,20])) (by kernel_rfl) (by kernel_rfl) (by kernel_rfl) ?_
      intro w4 g4
      have HD4:=Lib.hid (HD.out.grown g4)
      have d1:∀ q:ButW (Ow d) w4,q.w.cell? ⟨gy,k * 5,none⟩ = some (.int .u64 xk):=ButW.cell HNy.out (gcell g4 (HQ.out.cell HNy.out (HY.out (k * 5) _ (flatI_0 HX.out))))
      have d2:∀ q:ButW (Ow d) w4,q.w.cell? ⟨gy,k * 5 + 1,none⟩ = some (.int .u64 xv):=ButW.cell HNy.out (gcell g4 (HQ.out.cell HNy.out (HY.out (k * 5 + 1) _ (flatI_1 HX.out))))
      have d3:∀ q:ButW (Ow d) w4,q.w.cell? ⟨d.x,6,none⟩ = some (.pointer (some ⟨d.a.p,0,none⟩)):=ButW.cell H2.out.ow_x HD4.out.k6
      clear k6 c0
      refine plan_one ?_
      simp only [nths,nth,List.map_cons,List.map_nil,List.getD_cons_zero,List.getD_cons_succ]
      repeat go_big_quiet_step (fail)
      refine wpQuiet_nil ?_
      clear d1 d2 d3
      go_wp2_with fail
      refine (Begin_any _ c d.a Ls HD4.out.book HLok.out.inv 0 ⟨1,xk,xv,0⟩ _ HBg.out).mono ?_;rintro e w5 ⟨rfl,q5,h5⟩
      simp only
      have HD5:Hid (WdAt w5 c d Lws Ln sb):=Lib.hid (HD4.out.book' q5 h5)
      have q5':But (Ow d) w4 w5:=q5.mono (fun i hi => .inl hi)
      go_wp2_with fail
      refine nxt_but q5' (plan_fin ?_)
      simp only [nths,nth,List.map_cons,List.map_nil,List.getD_cons_zero,List.getD_cons_succ]
      repeat go_big_quiet_step (fail)
      refine wpQuiet_nil ?_
      have HQ5:Hid (But (Ow d) w3 w5):=Lib.hid ((HQ.out.trans (But.of_grown g4)).trans q5')
      have c2:=HQ5.out.cell HNy.out (HY.out (k * 5 + 2) _ (flatI_2 HX.out))
      simp only at c2
      clear q5 h5 q5' g4
      go_wp2_with fail
      refine (wTurn_any _ c d _ _ _ (nb:Int) 0 xw HD5.out n0 (by omega)).mono ?_;rintro e w6 ⟨rfl,q6,h6⟩
      have HQ6:Hid (But (Ow d) w3 w6):=Lib.hid (HQ5.out.trans (q6.mono (fun i hi => .inr hi)))
      obtain ⟨mi,mw,mn0,mn1⟩:=HLok.out.a (x:=⟨xk,xv,xw,xm,false⟩) (HYw.out _ (List.mem_of_getElem? HX.out)).1 (HYw.out _ (List.mem_of_getElem? HX.out)).2
      have HMs:Hid (lyI c ⟨Lws,Ln,Ls,Lat,Lop⟩ ⟨xk,xv,xw,xm,false⟩ = lyB c (lyA c ⟨Lws,Ln,Ls,Lat,Lop⟩ ⟨xk,xv,xw,xm,false⟩) ⟨xk,xv,xw,xm,false⟩):=Lib.hid rfl
      have hMA:lyA c ⟨Lws,Ln,Ls,Lat,Lop⟩ ⟨xk,xv,xw,xm,false⟩ = ⟨sw Lws (wrdI c (nb:Int)) 0 xw,Ln + cnt Lws (wrdI c (nb:Int)),sb,Lat,(nb:Int)⟩:=by unfold lyA;simp only;rw [HBg.out]
      rw [hMA] at mi mw mn0 mn1
      simp only at mi mw mn0 mn1
      replace HMs:=Lib.hid (hMA ▸ HMs.out)
      have HDm:=Lib.hid h6
      obtain ⟨Mws,hMws⟩:∃ x,sw Lws (wrdI c (nb:Int)) 0 xw = x:=⟨_,rfl⟩
      obtain ⟨Mn,hMn⟩:∃ x,Ln + cnt Lws (wrdI c (nb:Int)) = x:=⟨_,rfl⟩
      rw [hMws,hMn] at HDm HMs
      rw [hMws] at mw
      rw [hMn] at mn0 mn1
      have HDm':=Lib.hid HDm.out
      clear hMA hMws hMn h6 q6 c2 HDm
      obtain ⟨⟨sm,nm,bm⟩,hmk⟩:∃ r,makeI c sb 0 (nb:Int) = r:=⟨_,rfl⟩
      have HMk:=Lib.hid hmk
      have hnm:nm ≤ 9999:=by have:=make_le HOkc.out mi 0 (nb:Int);rw [hmk] at this;exact this
      have hr0:0 ≤ rd Mws Lat:=(mw Lat).1
      have hr1:rd Mws Lat ≤ 18446744073709551615:=(mw Lat).2
      have HMi:=Lib.hid mi
      have HMw:=Lib.hid mw
      have k6:=HDm'.out.k6
      have cn:=cnt_le Mws (nxtI c Lat)
      have cn0:0 ≤ Mn + cnt Mws (nxtI c Lat):=by omega
      have cn1:Mn + cnt Mws (nxtI c Lat) < 4611686018427387904:=by omega
      clear hmk mi mw cn
      go_wp2_with fail
      refine (Make_any _ c d.a sb HDm'.out.book HMi.out 0 (nb:Int) _ HMk.out).mono ?_;rintro e w7 ⟨rfl,q7,h7⟩
      simp only
      have HD7:Hid (WdAt w7 c d Mws Mn sm):=Lib.hid (HDm'.out.book' q7 h7)
      have HQ7:Hid (But (Ow d) w3 w7):=Lib.hid (HQ6.out.trans (q7.mono (fun i hi => .inl hi)))
      have k5:=HD7.out.k5
      clear k6 q7 h7
      go_wp2_with fail
      refine (Peek_any _ d.p d.b Mws Mn Lat HD7.out.bank).mono ?_;rintro e w8 ⟨rfl,g8⟩
      clear k5
      go_wp2_with fail
      refine (refMarked_any _ _ hr0 hr1).mono ?_;rintro e w9 ⟨rfl,g9⟩
      go_wp2_with fail
      refine (refPack_any (nm:Int) _ _ (by omega) (by omega)).mono ?_;rintro e w10 ⟨rfl,g10⟩
      have HD10:=Lib.hid (HD7.out.grown (gtr g8 (gtr g9 g10)))
      have HQ10:Hid (But (Ow d) w3 w10):=Lib.hid (HQ7.out.trans (But.of_grown (gtr g8 (gtr g9 g10))))
      clear g8 g9 g10
      go_wp2_with fail
      refine (wSet_any _ c d _ _ _ Lat (zPack (nm:Int) (rd Mws Lat % 2 == 1)) HD10.out (by omega) (by omega)).mono ?_;rintro e w11 ⟨rfl,q11,h11⟩
      have HQ11:Hid (But (Ow d) w3 w11):=Lib.hid (HQ10.out.trans (q11.mono (fun i hi => .inr hi)))
      have HD11:=Lib.hid h11
      have c3:=HQ11.out.cell HNy.out (HY.out (k * 5 + 3) _ (flatI_3 HX.out))
      simp only at c3
      clear q11 h11
      go_wp2_with fail
      refine (refPack_any 0 xm _ (by omega) (by omega)).mono ?_;rintro e w12 ⟨rfl,g12⟩
      have HD12:=Lib.hid (HD11.out.grown g12)
      have HQ12:Hid (But (Ow d) w3 w12):=Lib.hid (HQ11.out.trans (But.of_grown g12))
      clear g12 c3
      go_wp2_with fail
      refine (wSet_any _ c d _ _ _ (nm:Int) (zPack 0 xm) HD12.out cn0 cn1).mono ?_;rintro e w13 ⟨rfl,q13,h13⟩
      have HQ13:Hid (But (Ow d) w3 w13):=Lib.hid (HQ12.out.trans (q13.mono (fun i hi => .inr hi)))
      have HD13:=Lib.hid h13
      have HE:Hid (layL c (ys.take (k + 1)) = ⟨wr (wr Mws (nxtI c Lat) (zPack (nm:Int) (rd Mws Lat % 2 == 1))) (nxtI c (nm:Int)) (zPack 0 xm),Mn + cnt Mws (nxtI c Lat) + cnt (wr Mws (nxtI c Lat) (zPack (nm:Int) (rd Mws Lat % 2 == 1))) (nxtI c (nm:Int)),sm,(nm:Int),(nb:Int)⟩):=Lib.hid (by
       rw [HStep.out,HMs.out]
       unfold lyB lyW
       simp only
       rw [HMk.out])
      clear q13 h13
      go_wp2_with fail
      refine ⟨⟨k + 1,(nm:Int),(nb:Int),rfl,rfl,by simp,hkm,by rw [HE.out],by rw [HE.out],HQ13.out,?_⟩,by simp [intOf];omega⟩
      rw [HE.out]
      exact HD13.out
     ·have mi:=HLok.out.inv
      have mw:=HLok.out.wok
      have HMs:Hid (lyI c ⟨Lws,Ln,Ls,Lat,Lop⟩ ⟨xk,xv,xw,xm,true⟩ = lyB c ⟨Lws,Ln,Ls,Lat,Lop⟩ ⟨xk,xv,xw,xm,true⟩):=Lib.hid rfl
      obtain ⟨⟨sm,nm,bm⟩,hmk⟩:∃ r,makeI c Ls 0 Lop = r:=⟨_,rfl⟩
      have HMk:=Lib.hid hmk
      have hnm:nm ≤ 9999:=by have:=make_le HOkc.out mi 0 Lop;rw [hmk] at this;exact this
      have hr0:0 ≤ rd Lws Lat:=(mw Lat).1
      have hr1:rd Lws Lat ≤ 18446744073709551615:=(mw Lat).2
      have HMi:=Lib.hid mi
      have HMw:=Lib.hid mw
      have k6:=HD.out.k6
      have cn:=cnt_le Lws (nxtI c Lat)
      have cn0:0 ≤ Ln + cnt Lws (nxtI c Lat):=by omega
      have cn1:Ln + cnt Lws (nxtI c Lat) < 4611686018427387904:=by omega
      clear hmk mi mw cn
      go_wp2_with fail
      refine (Make_any _ c d.a Ls HD.out.book HMi.out 0 Lop _ HMk.out).mono ?_;rintro e w7 ⟨rfl,q7,h7⟩
      simp only
      have HD7:Hid (WdAt w7 c d Lws Ln sm):=Lib.hid (HD.out.book' q7 h7)
      have HQ7:Hid (But (Ow d) w3 w7):=Lib.hid (HQ.out.trans (q7.mono (fun i hi => .inl hi)))
      have k5:=HD7.out.k5
      clear k6 q7 h7
      go_wp2_with fail
      refine (Peek_any _ d.p d.b Lws Ln Lat HD7.out.bank).mono ?_;rintro e w8 ⟨rfl,g8⟩
      clear k5
      go_wp2_with fail
      refine (refMarked_any _ _ hr0 hr1).mono ?_;rintro e w9 ⟨rfl,g9⟩
      go_wp2_with fail
      refine (refPack_any (nm:Int) _ _ (by omega) (by omega)).mono ?_;rintro e w10 ⟨rfl,g10⟩
      have HD10:=Lib.hid (HD7.out.grown (gtr g8 (gtr g9 g10)))
      have HQ10:Hid (But (Ow d) w3 w10):=Lib.hid (HQ7.out.trans (But.of_grown (gtr g8 (gtr g9 g10))))
      clear g8 g9 g10
      go_wp2_with fail
      refine (wSet_any _ c d _ _ _ Lat (zPack (nm:Int) (rd Lws Lat % 2 == 1)) HD10.out (by omega) (by omega)).mono ?_;rintro e w11 ⟨rfl,q11,h11⟩
      have HQ11:Hid (But (Ow d) w3 w11):=Lib.hid (HQ10.out.trans (q11.mono (fun i hi => .inr hi)))
      have HD11:=Lib.hid h11
      have c3:=HQ11.out.cell HNy.out (HY.out (k * 5 + 3) _ (flatI_3 HX.out))
      simp only at c3
      clear q11 h11
      go_wp2_with fail
      refine (refPack_any 0 xm _ (by omega) (by omega)).mono ?_;rintro e w12 ⟨rfl,g12⟩
      have HD12:=Lib.hid (HD11.out.grown g12)
      have HQ12:Hid (But (Ow d) w3 w12):=Lib.hid (HQ11.out.trans (But.of_grown g12))
      clear g12 c3
      go_wp2_with fail
      refine (wSet_any _ c d _ _ _ (nm:Int) (zPack 0 xm) HD12.out cn0 cn1).mono ?_;rintro e w13 ⟨rfl,q13,h13⟩
      have HQ13:Hid (But (Ow d) w3 w13):=Lib.hid (HQ12.out.trans (q13.mono (fun i hi => .inr hi)))
      have HD13:=Lib.hid h13
      have HE:Hid (layL c (ys.take (k + 1)) = ⟨wr (wr Lws (nxtI c Lat) (zPack (nm:Int) (rd Lws Lat % 2 == 1))) (nxtI c (nm:Int)) (zPack 0 xm),Ln + cnt Lws (nxtI c Lat) + cnt (wr Lws (nxtI c Lat) (zPack (nm:Int) (rd Lws Lat % 2 == 1))) (nxtI c (nm:Int)),sm,(nm:Int),Lop⟩):=Lib.hid (by
       rw [HStep.out,HMs.out]
       unfold lyB lyW
       simp only
       rw [HMk.out])
      clear q13 h13
      go_wp2_with fail
      refine ⟨⟨k + 1,(nm:Int),Lop,rfl,rfl,by simp,hkm,by rw [HE.out],by rw [HE.out],HQ13.out,?_⟩,by simp [intOf];omega⟩
      rw [HE.out]
      exact HD13.out
    ·have hlt:¬ (k:Int) < (m:Int):=by omega
     have htk:ys.take k = ys:=List.take_of_length_le (by have h1:=HYl.out;have h2:=HM.out;omega)
     rw [htk,HL2.out] at hwd hat hop
     have HDL:=Lib.hid hwd
     have HLi:Hid (Inv c L.s):=Lib.hid (by have:=(layL_ok c ys HYw.out k (by have h1:=HYl.out;have h2:=HM.out;omega)).inv;rw [htk,HL2.out] at this;exact this)
     clear hwd hq htk
     have nB:¬ Ow d w.heap.size:=fun h => by have:=HFr.out _ h;omega
     go_wp2_with fail
     go_loopw [14] (fun s14 wr => ∃ k:Nat,s14 = .int .i64 (k:Int) ∧ k ≤ m2 ∧ But (Ow d) w3 wr ∧ WdAt wr c d L.ws L.n (lyC c L.s (cs.take k))) (fun s14 _ => m2 - (intOf s14).toNat)
     case atStart => exact ⟨0,rfl,Nat.zero_le _,HQ.out,HDL.out⟩
     case round =>
      obtain ⟨k2,rfl,hk2,hq2,hwd2⟩:=hrel
      have HQ2:=Lib.hid hq2
      have HD2:=Lib.hid hwd2
      have e2:wr.cell? ⟨w.heap.size,2,none⟩ = some (.slice (some ⟨gc,oc,none⟩) m2 capc):=hq2.cell nB (HB3.out.cell 2 _ rfl)
      clear hq2 hwd2
      by_cases hk2m:k2 < m2
      ·have hlt2:(k2:Int) < (m2:Int):=by omega
       obtain ⟨⟨ck,cy,cv,cl⟩,hx2⟩:∃ y,cs[k2]? = some y:=⟨_,List.getElem?_eq_getElem (by rw [HM2.out];exact hk2m)⟩
       have HX2:=Lib.hid hx2
       have HStep2:=Lib.hid (lyC_step (c:=c) (s:=L.s) hx2)
       have nC:¬ Ow d gc:=fun h => by
        have h1:=HFr.out _ h
        have h2:=World.block_lt_of_cell? w _ (HCa.out (k2 * 4) _ (flatK_0 hx2))
        simp only at h2
        omega
       have HNc:=Lib.hid nC
       have HNb:=Lib.hid nB
       have HI2:Hid (Inv c (lyC c L.s (cs.take k2))):=Lib.hid (lyC_inv _ HLi.out)
       obtain ⟨s2,hs2⟩:∃ x,lyC c L.s (cs.take k2) = x:=⟨_,rfl⟩
       rw [hs2] at HD2 HStep2 HI2
       obtain ⟨⟨sb2,nb2,bb2⟩,hb2⟩:∃ r,beginI c s2 2 ⟨ck,cy,cv,cl⟩ = r:=⟨_,rfl⟩
       have HBg2:=Lib.hid hb2
       have HE2:Hid (lyC c L.s (cs.take (k2 + 1)) = sb2):=Lib.hid (by rw [HStep2.out,hb2])
       have HDs:=Lib.hid HD2.out
       clear hx2 nC nB hs2 hb2 HD2
       go_wp2_with fail
       clear e2
       refine wp_region_planb (Ow d) (.one [0,1,2,3,4,5,6,7,8] 9 (.fin [])) (by kernel_rfl) (by kernel_rfl) (by kernel_rfl) ?_
       intro w4 g4
       have HD4:=Lib.hid (HDs.out.grown g4)
       have HQ4:Hid (But (Ow d) w3 w4):=Lib.hid (HQ2.out.trans (But.of_grown g4))
       have d1:∀ q:ButW (Ow d) w4,q.w.cell? ⟨gc,oc + k2 * 4,none⟩ = some (.int .i64 ck):=ButW.cell HNc.out (HQ4.out.cell HNc.out (gcell G3.out (HCa.out (k2 * 4) _ (flatK_0 HX2.out))))
       have d2:∀ q:ButW (Ow d) w4,q.w.cell? ⟨gc,oc + k2 * 4 + 1,none⟩ = some (.int .u64 cy):=ButW.cell HNc.out (HQ4.out.cell HNc.out (gcell G3.out (HCa.out (k2 * 4 + 1) _ (flatK_1 HX2.out))))
       have d3:∀ q:ButW (Ow d) w4,q.w.cell? ⟨gc,oc + k2 * 4 + 2,none⟩ = some (.int .u64 cv):=ButW.cell HNc.out (HQ4.out.cell HNc.out (gcell G3.out (HCa.out (k2 * 4 + 2) _ (flatK_2 HX2.out))))
       have d4:∀ q:ButW (Ow d) w4,q.w.cell? ⟨gc,oc + k2 * 4 + 3,none⟩ = some (.int .i64 cl):=ButW.cell HNc.out (HQ4.out.cell HNc.out (gcell G3.out (HCa.out (k2 * 4 + 3) _ (flatK_3 HX2.out))))
       have d5:∀ q:ButW (Ow d) w4,q.w.cell? ⟨d.x,6,none⟩ = some (.pointer (some ⟨d.a.p,0,none⟩)):=ButW.cell H2.out.ow_x HD4.out.k6
       have d6:∀ q:ButW (Ow d) w4,q.w.cell? ⟨w.heap.size,2,none⟩ = some (.slice (some ⟨gc,oc,none⟩) m2 capc):=ButW.cell HNb.out (HQ4.out.cell HNb.out (HB3.out.cell 2 _ rfl))
       refine plan_one ?_
       simp only [nths,nth,List.map_cons,List.map_nil,List.getD_cons_zero,List.getD_cons_succ]
       repeat go_big_quiet_step (fail)
       refine wpQuiet_nil ?_
       clear d1 d2 d3 d4 d5 d6
       go_wp2_with fail
       refine (Begin_any _ c d.a s2 HD4.out.book HI2.out 2 ⟨ck,cy,cv,cl⟩ _ HBg2.out).mono ?_;rintro e w5 ⟨rfl,q5,h5⟩
       simp only
       have HD5:Hid (WdAt w5 c d L.ws L.n sb2):=Lib.hid (HD4.out.book' q5 h5)
       have q5':But (Ow d) w4 w5:=q5.mono (fun i hi => .inl hi)
       have HQ5:Hid (But (Ow d) w3 w5):=Lib.hid (HQ4.out.trans q5')
       go_wp2_with fail
       refine nxt_but q5' (plan_fin ?_)
       simp only [nths,List.map_nil]
       refine wpQuiet_nil ?_
       clear q5 h5 q5' g4
       go_wp2_with fail
       exact ⟨⟨k2 + 1,by simp,hk2m,HQ5.out,by rw [HE2.out];exact HD5.out⟩,by simp [intOf];omega⟩
      ·have hlt2:¬ (k2:Int) < (m2:Int):=by omega
       have HT:Hid (lyC c L.s (cs.take k2) = s):=Lib.hid (by rw [List.take_of_length_le (by have:=HM2.out;omega)];exact HS2.out)
       go_wp2_with fail
       go_ret
       exact ⟨d,rfl,But.fresh G3.out HQ2.out (fun i hi => by have:=HFr.out i hi;omega),by rw [HCC.out,← HT.out];exact HD2.out,fun i hi => by have:=HFr.out i hi;omega⟩
end Go.Proofs.YtcogckjpmmjmbaaGreat
