/- The world of a scene, of the document (corrieref09.Lay). -/
import Derived.Test.YtcogckjpmmjmbaaGreatQDGLaid
import Derived.Deep.CutRange
namespace Go.Proofs.YtcogckjpmmjmbaaGreat
open Go.ChangeShapes Go.WideShapes Go.ChangeAt Go.RowKit
set_option maxRecDepth 100000
set_option linter.unusedVariables false
def RLaid (c:Cf) (ws:List Int) (n:Int) (s:St) (w:World) (e:Ending) (w':World):Prop :=
 ∃ b cap sl,e = .returned (.agg (RwL c b c.len cap n sl).toArray) ∧ Holds w' b ws ∧ ws.length = c.len ∧ RefH w' w.heap.size c s sl ∧ w.heap.size ≤ b ∧ Grown w w'
set_option maxHeartbeats 16000000 in
theorem rLay_at (w:World) (f:Nat) (hf:f ≤ 255) (vi vc:Value) (xs:List It) (cs:List Cal) (hi:RowO w vi (flatI xs) xs.length) (hc:RowO w vc (flatK cs) cs.length) (hl:xs.length ≤ 12) (hl2:cs.length ≤ 6)
  (hw:∀ x ∈ xs,0 ≤ x.word ∧ x.word ≤ 18446744073709551615) (L:Ly) (hL:layL (c9 f) (sortedI xs) = L) (s:St) (hs:lyC (c9 f) L.s cs = s) :
  Calls Tryz.prog 17 #[.agg #[.int .u8 (f:Int),vi,vc]] w (RLaid (c9 f) L.ws L.n s w):=by
 obtain ⟨ys,hys⟩:∃ ys,sortedI xs = ys:=⟨_,rfl⟩
 have HYl:Hid (ys.length = xs.length):=Lib.hid (by rw [← hys];exact sortedI_len xs)
 have HYw:Hid (∀ x ∈ ys,0 ≤ x.word ∧ x.word ≤ 18446744073709551615):=Lib.hid (by
  intro x hx
  rw [← hys] at hx
  obtain ⟨y,hy,he⟩:=sortedI_word hx
  rw [he];exact hw y hy)
 have HYS:=Lib.hid hys
 rw [hys] at hL
 obtain ⟨m,hm⟩:∃ m,xs.length = m:=⟨_,rfl⟩
 have HM:=Lib.hid hm
 obtain ⟨m2,hm2⟩:∃ m,cs.length = m:=⟨_,rfl⟩
 have HM2:=Lib.hid hm2
 have hlm:m ≤ 12:=hm ▸ hl
 have hlm2:m2 ≤ 6:=hm2 ▸ hl2
 rw [hm2] at hc
 have HI:=Lib.hid hi
 clear hi
 have HOk:=Lib.hid (c9_ok hf)
 obtain ⟨c,hcc⟩:∃ c,c9 f = c:=⟨_,rfl⟩
 have HCC:=Lib.hid hcc
 have HOkc:Hid c.Ok:=Lib.hid (hcc ▸ c9_ok hf)
 have HCl:Hid (c.len = 149):=Lib.hid (by rw [← hcc];rfl)
 have HConf:Hid (∀ W (v:Value),Calls Tryz.prog 55 #[.agg #[.int .u8 (f:Int),vi,v]] W fun e w' => e = .returned c.v ∧ Grown W w'):=Lib.hid (fun W v => by rw [← hcc];exact Conf9_at W f hf vi v)
 rw [hcc] at hL hs ⊢
 have HL2:=Lib.hid hL
 have HS2:=Lib.hid hs
 obtain ⟨Ac,gc,oc,capc,rfl,hAc,hcc2⟩:=hc
 have HAc:=Lib.hid hAc
 have HCa:=Lib.hid hcc2
 clear hw hys hL hs hm hm2 hl hl2 hcc hcc2 hAc
 go_enter Tryz.func17,Tryz.ntmps17
 have HB:=Lib.hid (Box.made w [.int .u8 (f:Int),vi,.slice Ac m2 capc] 25)
 have GB:Grown w (w.alloc (.cells #[.int .u8 (f:Int),vi,.slice Ac m2 capc] 25)):=by go_grown
 have e0:=HB.out.cell 0 _ rfl
 have e1:=HB.out.cell 1 _ rfl
 have e2:=HB.out.cell 2 _ rfl
 go_wp2_with fail
 have g0:Grown (w.alloc (.cells #[.int .u8 (f:Int),vi,.slice Ac m2 capc] 25)) ((w.alloc (.cells #[.int .u8 (f:Int),vi,.slice Ac m2 capc] 25)).alloc (.cells #[.int .i64 0,.int .i64 0,.int .i64 0,.int .i64 0,.int .i64 0,.slice none 0 0,.int .i64 0,.int .i64 0,.int .i64 0,.int .i64 0,.int .i64 0,.int .i64 0,.slice none 0 0,.slice none 0 0,.slice none 0 0,.slice none 0 0,.slice none 0 0] 42)):=by go_grown
 have hR:Box ((w.alloc (.cells #[.int .u8 (f:Int),vi,.slice Ac m2 capc] 25)).alloc (.cells #[.int .i64 0,.int .i64 0,.int .i64 0,.int .i64 0,.int .i64 0,.slice none 0 0,.int .i64 0,.int .i64 0,.int .i64 0,.int .i64 0,.int .i64 0,.int .i64 0,.slice none 0 0,.slice none 0 0,.slice none 0 0,.slice none 0 0,.slice none 0 0] 42)) (w.heap.size + 1) zWV:=by
  have:=Box.made (w.alloc (.cells #[.int .u8 (f:Int),vi,.slice Ac m2 capc] 25)) zWV 42
  rwa [show (w.alloc (.cells #[.int .u8 (f:Int),vi,.slice Ac m2 capc] 25)).heap.size = w.heap.size + 1 by simp] at this
 refine (HConf.out _ _).mono ?_;rintro e w1 ⟨rfl,g1⟩
 obtain ⟨hi,hhi⟩:∃ hi,w.heap.size + 2 = hi:=⟨_,rfl⟩
 have hR1:=hR.grown g1
 have hlt1:hi ≤ w1.heap.size:=by have:=hR1.lt;omega
 go_wp2_with fail
 refine (rWNew_at _ hi c HOkc.out hlt1).mono ?_;rintro e w2 ⟨b,s1,s2,s3,s4,s5,rfl,hh,hb,hr,g2⟩
 obtain ⟨⟨A1,y1,j1,rfl⟩,⟨A2,y2,j2,rfl⟩,⟨A3,y3,j3,rfl⟩,⟨A4,y4,j4,rfl⟩,⟨A5,y5,j5,rfl⟩⟩:=hr.slices
 obtain ⟨sl0,hsl⟩:∃ x,x = (⟨A1,y1,j1,A2,y2,j2,A3,y3,j3,A4,y4,j4,A5,y5,j5⟩:Sl):=⟨_,rfl⟩
 have HRf:Hid (RefH w2 hi c (St.new c) sl0):=Lib.hid (by rw [hsl];exact hr)
 have HH:=Lib.hid hh
 have HB2:=Lib.hid (HB.out.grown (gtr g0 (gtr g1 g2)))
 have HR2:=Lib.hid (hR1.grown g2)
 have G2:Hid (Grown w w2):=Lib.hid (gtr GB (gtr g0 (gtr g1 g2)))
 have hpos:0 < (List.replicate c.len (0:Int)).length:=by rw [HCl.out];decide
 have hbl:b < w2.heap.size:=World.block_lt_of_cell? w2 _ (hh 0 hpos)
 have hblo:hi ≤ b:=Nat.le_trans hlt1 hb
 clear e0 e1 e2 g0 g1 g2 hb hr hh HB GB hpos hR hR1 hlt1
 obtain ⟨w3,hw3⟩:∃ x,w2.alloc (.cells (RwL c b c.len c.len 0 ⟨A1,y1,j1,A2,y2,j2,A3,y3,j3,A4,y4,j4,A5,y5,j5⟩).toArray 42) = x:=⟨_,rfl⟩
 have ga:Grown w2 w3:=by rw [← hw3];go_grown
 have HBT:Hid (Box w3 w2.heap.size (RwL c b c.len c.len 0 sl0)):=Lib.hid (by rw [← hw3,hsl];exact Box.made _ _ _)
 have HB3:=Lib.hid (HB2.out.grown ga)
 have HW3:=Lib.hid hw3
 have e0:(w2.alloc (.cells (RwL c b c.len c.len 0 ⟨A1,y1,j1,A2,y2,j2,A3,y3,j3,A4,y4,j4,A5,y5,j5⟩).toArray 42)).cell? ⟨w.heap.size,0,none⟩ = some (.int .u8 (f:Int)):=by rw [hw3];exact HB3.out.cell 0 _ rfl
 have e1:(w2.alloc (.cells (RwL c b c.len c.len 0 ⟨A1,y1,j1,A2,y2,j2,A3,y3,j3,A4,y4,j4,A5,y5,j5⟩).toArray 42)).cell? ⟨w.heap.size,1,none⟩ = some vi:=by rw [hw3];exact HB3.out.cell 1 _ rfl
 have e2:(w2.alloc (.cells (RwL c b c.len c.len 0 ⟨A1,y1,j1,A2,y2,j2,A3,y3,j3,A4,y4,j4,A5,y5,j5⟩).toArray 42)).cell? ⟨w.heap.size,2,none⟩ = some (.slice Ac m2 capc):=by rw [hw3];exact HB3.out.cell 2 _ rfl
 simp only [RwL] at e0 e1 e2
 clear hw3
 simp only [WV]
 go_wp2_with fail
 refine (Sorted_at _ (f:Int) vi (.slice Ac m2 capc) xs (RowO.grown HI.out (gtr G2.out (HW3.out ▸ ga))) (by rw [HM.out];exact hlm)).mono ?_;rintro e w4 ⟨vy,rfl,r4,f4,g4⟩
 rw [HM.out,HYS.out] at r4
 have g4':Grown w3 w4:=by rw [← HW3.out];exact g4
 have f4':∀ g,InRow vy g → w3.heap.size ≤ g:=by rw [← HW3.out];exact f4
 clear g4 f4
 have hT3:w3.heap.size = w2.heap.size + 1:=by rw [← HW3.out];simp
 have HF4:Hid (∀ g,InRow vy g → w2.heap.size < g):=Lib.hid (fun g hg => by have:=f4' g hg;omega)
 obtain ⟨T,hT⟩:∃ T,w2.heap.size = T:=⟨_,rfl⟩
 have hRT:w.heap.size + 1 < T:=by have:=HR2.out.lt;omega
 rw [hT] at hbl HBT HF4
 have HB4:=Lib.hid (HB3.out.grown g4')
 have HR4:=Lib.hid ((HR2.out.grown ga).grown g4')
 have HRS4:Hid (RS hi c T w4 (List.replicate c.len 0) 0 (St.new c) b c.len sl0 w4):=Lib.hid ⟨But.refl _ _,HBT.out.grown g4',(HH.out.grown ga).grown g4',by simp,(HRf.out.grown ga).grown g4',hblo,HRf.out.offNew Inv.new (Nat.le_of_eq hT),by omega⟩
 have G4:Hid (Grown w w4):=Lib.hid (gtr G2.out (gtr ga g4'))
 have hy:∃ (Ay:Option Addr) (gy capy:Nat),vy = .slice Ay m capy ∧ m ≤ capy ∧ (0 < m → Ay = some ⟨gy,0,none⟩ ∧ T < gy ∧ RowIn w4 gy (flatI ys)):=by
  rcases r4 with ⟨rfl,hz4,-⟩ | ⟨gy,capy,rfl,hcapy,hy⟩
  ·exact ⟨none,0,0,by rw [hz4],by omega,fun h => by omega⟩
  ·exact ⟨some ⟨gy,0,none⟩,gy,capy,rfl,hcapy,fun _ => ⟨rfl,HF4.out gy rfl,hy⟩⟩
 obtain ⟨Ay,gy,capy,rfl,hcapy,hy⟩:=hy
 have HY:=Lib.hid hy
 clear hsl e0 e1 e2 ga g4' f4' HB2 HBT HB3 HRf HH HW3 hT3 HOk HF4 r4 hy HR2
 rw [hT]
 clear hT
 go_wp2_with fail
 go_loopw [6,7,8,9,10,11,12,13,14,15,16,17] (fun s6 s7 s8 s9 s10 s11 s12 s13 s14 s15 s16 s17 wr => ∃ (k:Nat) (at_ op:Int) (bk cp:Nat) (sl:Sl),s6 = .int .i64 at_ ∧ s7 = .int .i64 op ∧ s8 = .int .i64 (k:Int) ∧ k ≤ m ∧ (layL c (ys.take k)).at_ = at_ ∧ (layL c (ys.take k)).op = op ∧ RS hi c T w4 (layL c (ys.take k)).ws (layL c (ys.take k)).n (layL c (ys.take k)).s bk cp sl wr) (fun s6 s7 s8 s9 s10 s11 s12 s13 s14 s15 s16 s17 _ => m - (intOf s8).toNat)
 case atStart => exact ⟨0,1,0,b,c.len,sl0,rfl,rfl,rfl,Nat.zero_le _,rfl,rfl,HRS4.out⟩
 case round =>
  obtain ⟨k,at_,op,bk,cp,sl,rfl,rfl,rfl,hk,hat,hop,hrs⟩:=hrel
  obtain ⟨wo,hwo⟩:∃ x,x = wr:=⟨_,rfl⟩
  subst hwo
  by_cases hkm:k < m
  ·have hlt:(k:Int) < (m:Int):=by omega
   obtain ⟨rfl,hTg,hRow⟩:=HY.out (by omega)
   have HRow:=Lib.hid hRow
   have HNy:Hid (¬ gy = T):=Lib.hid (by omega)
   obtain ⟨⟨xk,xv,xw,xm,xa⟩,hx⟩:∃ y,ys[k]? = some y:=⟨_,List.getElem?_eq_getElem (by rw [HYl.out,HM.out];exact hkm)⟩
   have HX0:=Lib.hid hx
   have HStep:=Lib.hid (layL_step (c:=c) hx)
   have HLok:Hid (LyOk c (layL c (ys.take k)) k):=Lib.hid (layL_ok c ys HYw.out k (by rw [HYl.out,HM.out];omega))
   obtain ⟨⟨Lws,Ln,Ls,Lat,Lop⟩,hLL⟩:∃ L,layL c (ys.take k) = L:=⟨_,rfl⟩
   rw [hLL] at HStep HLok hat hop hrs
   simp only at hat hop hrs
   subst hat hop
   have HR:=Lib.hid hrs
   have n0:0 ≤ Ln:=HLok.out.n0
   have n1:Ln ≤ 3 * k:=HLok.out.n1
   have c0:=HR.out.q.cell HNy.out (HRow.out (k * 5 + 4) _ (flatI_4 hx))
   simp only at c0
   clear hx hLL hrs hRow
   cases xa
   ·have HI1:Hid (Inv c Ls):=Lib.hid HLok.out.inv
    obtain ⟨⟨sb,nb,bb⟩,hb⟩:∃ r,beginI c Ls 0 ⟨1,xk,xv,0⟩ = r:=⟨_,rfl⟩
    have HBg:=Lib.hid hb
    have HI2:Hid (Inv c sb):=Lib.hid (by have:=HI1.out.beginI 0 ⟨1,xk,xv,0⟩;rwa [hb] at this)
    have HOl:Hid (sb.ops.length ≤ 9999):=Lib.hid (by have:=(begin_len c Ls 0 ⟨1,xk,xv,0⟩).1;rw [hb] at this;simp only at this;have h2:=HLok.out.ops;simp only at h2;omega)
    have HNl:Hid (sb.nodes.length ≤ 9999):=Lib.hid (by have:=(begin_len c Ls 0 ⟨1,xk,xv,0⟩).2;rw [hb] at this;simp only at this;have h2:=HLok.out.nodes;simp only at h2;omega)
    have hol:Ls.ops.length ≤ 9999:=by have:=HLok.out.ops;simp only at this;omega
    clear hb
    go_wp2_with fail
    clear c0
    go_cut [9,10,11] from 30 to 104 (fun s9 s10 s11 wx => ∃ (X:Nat) (sl':Sl),s9 = .pointer (some ⟨X,0,none⟩) ∧ s10 = .int .i64 (nb:Int) ∧ s11 = .int .i64 (bb:Int) ∧ Grown wo wx ∧ Hid (Box wx X (BkL c sl') ∧ RefH wx hi c sb sl' ∧ OffS sl' T ∧ X ≠ T))
    case first =>
     as_aux_lemma =>
      refine wp_region_plang (.two [0,1,2,3,4,5,6,7,8,9,10,11,12] 13 (.one [14,15,16,17] 18 (.one [] 19 (.fin [20,21]))) 18 (.one [] 13 (.one [14,15,16,17] 19 (.fin [20,21])))) (by kernel_rfl) (by kernel_rfl) (by kernel_rfl) ?_
      intro w5 g5
      have HR5:=Lib.hid (HR.out.grown g5)
      have hT5:=HR5.out.lt
      have d1:∀ q:GrW w5,q.w.cell? ⟨gy,k * 5,none⟩ = some (.int .u64 xk):=GrW.cell (HR5.out.q.cell HNy.out (HRow.out (k * 5) _ (flatI_0 HX0.out)))
      have d2:∀ q:GrW w5,q.w.cell? ⟨gy,k * 5 + 1,none⟩ = some (.int .u64 xv):=GrW.cell (HR5.out.q.cell HNy.out (HRow.out (k * 5 + 1) _ (flatI_1 HX0.out)))
      have t7:∀ q:GrW w5,q.w.cell? ⟨T,7,none⟩ = some (.int .i64 c.t):=GrW.cell (HR5.out.box.cell 7 _ rfl)
      have t8:∀ q:GrW w5,q.w.cell? ⟨T,8,none⟩ = some (.int .i64 c.b):=GrW.cell (HR5.out.box.cell 8 _ rfl)
      have t9:∀ q:GrW w5,q.w.cell? ⟨T,9,none⟩ = some (.int .i64 c.i):=GrW.cell (HR5.out.box.cell 9 _ rfl)
      have t10:∀ q:GrW w5,q.w.cell? ⟨T,10,none⟩ = some (.int .i64 c.f):=GrW.cell (HR5.out.box.cell 10 _ rfl)
      have t11:∀ q:GrW w5,q.w.cell? ⟨T,11,none⟩ = some (.int .i64 c.k):=GrW.cell (HR5.out.box.cell 11 _ rfl)
      have t12:∀ q:GrW w5,q.w.cell? ⟨T,12,none⟩ = some (.slice sl.a1 sl.m1 sl.k1):=GrW.cell (HR5.out.box.cell 12 _ rfl)
      have t13:∀ q:GrW w5,q.w.cell? ⟨T,13,none⟩ = some (.slice sl.a2 sl.m2 sl.k2):=GrW.cell (HR5.out.box.cell 13 _ rfl)
      have t14:∀ q:GrW w5,q.w.cell? ⟨T,14,none⟩ = some (.slice sl.a3 sl.m3 sl.k3):=GrW.cell (HR5.out.box.cell 14 _ rfl)
      have t15:∀ q:GrW w5,q.w.cell? ⟨T,15,none⟩ = some (.slice sl.a4 sl.m4 sl.k4):=GrW.cell (HR5.out.box.cell 15 _ rfl)
      have t16:∀ q:GrW w5,q.w.cell? ⟨T,16,none⟩ = some (.slice sl.a5 sl.m5 sl.k5):=GrW.cell (HR5.out.box.cell 16 _ rfl)
      refine plan_two ?_
      simp only [nths,nth,List.map_cons,List.map_nil,List.getD_cons_zero,List.getD_cons_succ]
      repeat go_big_quiet_step (fail)
      clear d1 d2 t7 t8 t9 t10 t11 t12 t13 t14 t15 t16
      refine wpQuiet_nil ⟨?_,?_⟩
      ·go_wp2_with fail
       refine (rBegin_any _ hi c Ls _ _ _ _ _ HR5.out.refs HOkc.out HI1.out (by have:=HR5.out.lo;have:=World.block_lt_of_cell? w5 _ (HR5.out.holds 0 (by rw [HR5.out.len,HCl.out];decide));simp only at this;omega) hol 0 ⟨1,xk,xv,0⟩ (sb,nb,bb) HBg.out).mono ?_;rintro e w7 hrt
       obtain ⟨sl',rfl,R7,g7,O7⟩:=rtell_h hrt
       have O7T:=O7 T HR5.out.off hT5
       have hT7:T < w7.heap.size:=Nat.lt_of_lt_of_le hT5 g7.2.2
       clear hrt O7
       simp only [BkL]
       go_wp2_with fail
       refine nxt_grow g7 (plan_one ?_)
       simp only [nths,nth,List.map_cons,List.map_nil,List.getD_cons_zero,List.getD_cons_succ]
       repeat go_big_quiet_step (fail)
       refine wpQuiet_nil ?_
       go_wp2_with fail
       have g8:Grown w7 (w7.alloc (.cells #[.int .i64 0,.int .i64 0,.int .i64 0,.int .i64 0,.int .i64 0,.slice none 0 0,.slice none 0 0,.slice none 0 0,.slice none 0 0,.slice none 0 0] 40)):=by go_grown
       have BX:=Box.made w7 zBk 40
       have hsz:(w7.alloc (.cells #[.int .i64 0,.int .i64 0,.int .i64 0,.int .i64 0,.int .i64 0,.slice none 0 0,.slice none 0 0,.slice none 0 0,.slice none 0 0,.slice none 0 0] 40)).heap.size = w7.heap.size + 1:=by simp
       change Box (w7.alloc (.cells #[.int .i64 0,.int .i64 0,.int .i64 0,.int .i64 0,.int .i64 0,.slice none 0 0,.slice none 0 0,.slice none 0 0,.slice none 0 0,.slice none 0 0] 40)) w7.heap.size _ at BX
       obtain ⟨X,hX⟩:∃ X,w7.heap.size = X:=⟨_,rfl⟩
       rw [hX] at BX hsz ⊢
       replace BX:=Lib.hid BX
       generalize w7.alloc (.cells #[.int .i64 0,.int .i64 0,.int .i64 0,.int .i64 0,.int .i64 0,.slice none 0 0,.slice none 0 0,.slice none 0 0,.slice none 0 0,.slice none 0 0] 40) = v8 at *
       refine nxt_stay g8 (plan_one ?_)
       simp only [nths,nth,List.map_nil,List.getD_cons_zero,List.getD_cons_succ]
       refine wpQuiet_nil ?_
       go_wp2_with (first | (refine store_box rfl 40 _ _ rfl X _ BX.out _ rfl rfl rfl (by kernel_rfl) rfl ?_;intro w9 B_ q_;have HB9:=Lib.hid B_;have q9:=Lib.hid q_;clear B_ q_) | fail)
       have gF:Grown w7 w9:=But.fresh g8 q9.out (fun i hi => by omega)
       refine nxt_stay gF (plan_fin ?_)
       simp only [nths,nth,List.map_cons,List.map_nil,List.getD_cons_zero,List.getD_cons_succ]
       repeat go_big_quiet_step (fail)
       refine wpQuiet_nil ?_
       go_wp2_with fail
       have RF:RefH w9 hi c sb sl':=(R7.grown g8).put (R7.offNew HI2.out (Nat.le_of_eq hX)) q9.out
       have hXT:X ≠ T:=by omega
       go_meet
       case rel => exact ⟨X,sl',rfl,rfl,rfl,gtr g5 (gtr g7 gF),Lib.hid ⟨HB9.out,RF,O7T,hXT⟩⟩
      ·go_wp2_with fail
       have g8:Grown w5 (w5.alloc (.cells #[.int .i64 0,.int .i64 0,.int .i64 0,.int .i64 0,.int .i64 0,.slice none 0 0,.slice none 0 0,.slice none 0 0,.slice none 0 0,.slice none 0 0] 40)):=by go_grown
       have BX:=Box.made w5 zBk 40
       have hsz:(w5.alloc (.cells #[.int .i64 0,.int .i64 0,.int .i64 0,.int .i64 0,.int .i64 0,.slice none 0 0,.slice none 0 0,.slice none 0 0,.slice none 0 0,.slice none 0 0] 40)).heap.size = w5.heap.size + 1:=by simp
       change Box (w5.alloc (.cells #[.int .i64 0,.int .i64 0,.int .i64 0,.int .i64 0,.int .i64 0,.slice none 0 0,.slice none 0 0,.slice none 0 0,.slice none 0 0,.slice none 0 0] 40)) w5.heap.size _ at BX
       obtain ⟨X,hX⟩:∃ X,w5.heap.size = X:=⟨_,rfl⟩
       rw [hX] at BX hsz ⊢
       replace BX:=Lib.hid BX
       generalize w5.alloc (.cells #[.int .i64 0,.int .i64 0,.int .i64 0,.int .i64 0,.int .i64 0,.slice none 0 0,.slice none 0 0,.slice none 0 0,.slice none 0 0,.slice none 0 0] 40) = v6 at *
       refine nxt_stay g8 (plan_one ?_)
       simp only [nths,nth,List.map_nil,List.getD_cons_zero,List.getD_cons_succ]
       refine wpQuiet_nil ?_
       have R6:=HR5.out.refs.grown g8
       have hT6:T < v6.heap.size:=Nat.lt_of_lt_of_le hT5 g8.2.2
       have OX:OffS sl X:=HR5.out.refs.offNew HI1.out (Nat.le_of_eq hX)
       go_wp2_with fail
       refine (rBegin_any _ hi c Ls _ _ _ _ _ R6 HOkc.out HI1.out (by have:=HR5.out.lo;have:=World.block_lt_of_cell? w5 _ (HR5.out.holds 0 (by rw [HR5.out.len,HCl.out];decide));simp only at this;omega) hol 0 ⟨1,xk,xv,0⟩ (sb,nb,bb) HBg.out).mono ?_;rintro e w7 hrt
       obtain ⟨sl',rfl,R7,g7,O7⟩:=rtell_h hrt
       have O7T:=O7 T HR5.out.off hT6
       have O7X:=O7 X OX (by omega)
       clear hrt O7
       replace BX:=Lib.hid (BX.out.grown g7)
       simp only [BkL]
       go_wp2_with fail
       refine nxt_stay (gtr g8 g7) (plan_one ?_)
       simp only [nths,nth,List.map_cons,List.map_nil,List.getD_cons_zero,List.getD_cons_succ]
       repeat go_big_quiet_step (fail)
       refine wpQuiet_nil ?_
       go_wp2_with (first | (refine store_box rfl 40 _ _ rfl X _ BX.out _ rfl rfl rfl (by kernel_rfl) rfl ?_;intro w9 B_ q_;have HB9:=Lib.hid B_;have q9:=Lib.hid q_;clear B_ q_) | fail)
       have gF:Grown w5 w9:=But.fresh (gtr g8 g7) q9.out (fun i hi => by omega)
       refine nxt_stay gF (plan_fin ?_)
       simp only [nths,nth,List.map_cons,List.map_nil,List.getD_cons_zero,List.getD_cons_succ]
       repeat go_big_quiet_step (fail)
       refine wpQuiet_nil ?_
       go_wp2_with fail
       have RF:RefH w9 hi c sb sl':=R7.put O7X q9.out
       have hXT:X ≠ T:=by omega
       go_meet
       case rel => exact ⟨X,sl',rfl,rfl,rfl,gtr g5 gF,Lib.hid ⟨HB9.out,RF,O7T,hXT⟩⟩
    case rest =>
     obtain ⟨X,sl',rfl,rfl,rfl,gx,HX⟩:=hcut
     have HR8:=Lib.hid (HR.out.grown gx)
     clear gx
     have HX1:=Lib.hid HX.out.1
     go_wp2_with (first | (refine load_box rfl 40 _ rfl X rfl _ _ Tryz.underlying40 rfl (by kernel_rfl) HX1.out ?_) | (refine store_part rfl 40 _ _ rfl T 7 rfl _ rfl (RwL c bk c.len cp Ln sl) (RwL c bk c.len cp Ln sl') HR8.out.box (Nat.le_of_ble_eq_true rfl) (by kernel_rfl) rfl rfl ?_;intro w10 B_ q_;have HR10:Hid (RS hi c T w4 Lws Ln sb bk cp sl' w10):=Lib.hid (HR8.out.book HX.out.2.1 HX.out.2.2.1 q_ B_);clear B_ q_) | fail)
     obtain ⟨mi,mw,mn0,mn1⟩:=HLok.out.a (x:=⟨xk,xv,xw,xm,false⟩) (HYw.out _ (List.mem_of_getElem? HX0.out)).1 (HYw.out _ (List.mem_of_getElem? HX0.out)).2
     have HMs:Hid (lyI c ⟨Lws,Ln,Ls,Lat,Lop⟩ ⟨xk,xv,xw,xm,false⟩ = lyB c (lyA c ⟨Lws,Ln,Ls,Lat,Lop⟩ ⟨xk,xv,xw,xm,false⟩) ⟨xk,xv,xw,xm,false⟩):=Lib.hid rfl
     have hMA:lyA c ⟨Lws,Ln,Ls,Lat,Lop⟩ ⟨xk,xv,xw,xm,false⟩ = ⟨sw Lws (wrdI c (nb:Int)) 0 xw,Ln + cnt Lws (wrdI c (nb:Int)),sb,Lat,(nb:Int)⟩:=by unfold lyA;simp only;rw [HBg.out]
     rw [hMA] at mi mw mn0 mn1
     simp only at mi mw mn0 mn1
     replace HMs:=Lib.hid (hMA ▸ HMs.out)
     obtain ⟨Mws,hMws⟩:∃ x,sw Lws (wrdI c (nb:Int)) 0 xw = x:=⟨_,rfl⟩
     obtain ⟨Mn,hMn⟩:∃ x,Ln + cnt Lws (wrdI c (nb:Int)) = x:=⟨_,rfl⟩
     obtain ⟨mm,hmm⟩:∃ x,may Lws (wrdI c (nb:Int)) 0 = x:=⟨_,rfl⟩
     have hMl:Mws.length = Lws.length:=by rw [← hMws];exact length_sw _ _ _ _
     rw [hMws,hMn] at HMs
     rw [hMws] at mw
     rw [hMn] at mn0 mn1
     have HMws:=Lib.hid hMws
     have HMn:=Lib.hid hMn
     have HMm:=Lib.hid hmm
     clear hMws hMn hmm hMA HX HX1 HR8 HBg
     go_cut [12,13] from 30 to 104 (fun s12 s13 wx => ∃ (Y bk2 cp2:Nat),s12 = .pointer (some ⟨Y,0,none⟩) ∧ s13 = .bool mm ∧ Grown w10 wx ∧ Hid (Box wx Y (RwL c bk2 c.len cp2 Mn sl') ∧ Holds wx bk2 Mws ∧ hi ≤ bk2 ∧ bk2 ≠ T ∧ Y ≠ T))
     case first =>
      as_aux_lemma =>
       refine wp_region_plang (.two [0,1,2,3,4,5,6] 7 (.one [8,9,10] 11 (.one [] 12 (.fin [13]))) 11 (.one [] 7 (.one [8,9,10] 12 (.fin [13])))) (by kernel_rfl) (by kernel_rfl) (by kernel_rfl) ?_
       intro w5 g5
       have HR5:=Lib.hid (HR10.out.grown g5)
       have hT5:=HR5.out.lt
       have hbk5:bk < w5.heap.size:=World.block_lt_of_cell? w5 _ (HR5.out.holds 0 (by rw [HR5.out.len,HCl.out];decide))
       have d2:∀ q:GrW w5,q.w.cell? ⟨gy,k * 5 + 2,none⟩ = some (.int .u64 xw):=GrW.cell (HR5.out.q.cell HNy.out (HRow.out (k * 5 + 2) _ (flatI_2 HX0.out)))
       have t0:∀ q:GrW w5,q.w.cell? ⟨T,0,none⟩ = some (.int .i64 c.t):=GrW.cell (HR5.out.box.cell 0 _ rfl)
       have t1:∀ q:GrW w5,q.w.cell? ⟨T,1,none⟩ = some (.int .i64 c.b):=GrW.cell (HR5.out.box.cell 1 _ rfl)
       have t2:∀ q:GrW w5,q.w.cell? ⟨T,2,none⟩ = some (.int .i64 c.i):=GrW.cell (HR5.out.box.cell 2 _ rfl)
       have t3:∀ q:GrW w5,q.w.cell? ⟨T,3,none⟩ = some (.int .i64 c.f):=GrW.cell (HR5.out.box.cell 3 _ rfl)
       have t4:∀ q:GrW w5,q.w.cell? ⟨T,4,none⟩ = some (.int .i64 c.k):=GrW.cell (HR5.out.box.cell 4 _ rfl)
       have t5:∀ q:GrW w5,q.w.cell? ⟨T,5,none⟩ = some (.slice (some ⟨bk,0,none⟩) c.len cp):=GrW.cell (HR5.out.box.cell 5 _ rfl)
       have t6:∀ q:GrW w5,q.w.cell? ⟨T,6,none⟩ = some (.int .i64 Ln):=GrW.cell (HR5.out.box.cell 6 _ rfl)
       have t7:∀ q:GrW w5,q.w.cell? ⟨T,7,none⟩ = some (.int .i64 c.t):=GrW.cell (HR5.out.box.cell 7 _ rfl)
       have t8:∀ q:GrW w5,q.w.cell? ⟨T,8,none⟩ = some (.int .i64 c.b):=GrW.cell (HR5.out.box.cell 8 _ rfl)
       have t9:∀ q:GrW w5,q.w.cell? ⟨T,9,none⟩ = some (.int .i64 c.i):=GrW.cell (HR5.out.box.cell 9 _ rfl)
       have t10:∀ q:GrW w5,q.w.cell? ⟨T,10,none⟩ = some (.int .i64 c.f):=GrW.cell (HR5.out.box.cell 10 _ rfl)
       have t11:∀ q:GrW w5,q.w.cell? ⟨T,11,none⟩ = some (.int .i64 c.k):=GrW.cell (HR5.out.box.cell 11 _ rfl)
       have t12:∀ q:GrW w5,q.w.cell? ⟨T,12,none⟩ = some (.slice sl'.a1 sl'.m1 sl'.k1):=GrW.cell (HR5.out.box.cell 12 _ rfl)
       have t13:∀ q:GrW w5,q.w.cell? ⟨T,13,none⟩ = some (.slice sl'.a2 sl'.m2 sl'.k2):=GrW.cell (HR5.out.box.cell 13 _ rfl)
       have t14:∀ q:GrW w5,q.w.cell? ⟨T,14,none⟩ = some (.slice sl'.a3 sl'.m3 sl'.k3):=GrW.cell (HR5.out.box.cell 14 _ rfl)
       have t15:∀ q:GrW w5,q.w.cell? ⟨T,15,none⟩ = some (.slice sl'.a4 sl'.m4 sl'.k4):=GrW.cell (HR5.out.box.cell 15 _ rfl)
       have t16:∀ q:GrW w5,q.w.cell? ⟨T,16,none⟩ = some (.slice sl'.a5 sl'.m5 sl'.k5):=GrW.cell (HR5.out.box.cell 16 _ rfl)
       refine plan_two ?_
       simp only [nths,nth,List.map_cons,List.map_nil,List.getD_cons_zero,List.getD_cons_succ]
       repeat go_big_quiet_step (fail)
       clear d2 t0 t1 t2 t3 t4 t5 t6 t7 t8 t9 t10 t11 t12 t13 t14 t15 t16
       refine wpQuiet_nil ⟨?_,?_⟩
       ·go_wp2_with fail
        have hT12:=rqTurn w5 c sl' bk c.len cp Lws Ln (nb:Int) 0 xw HR5.out.len HR5.out.holds (by rw [HCl.out];decide) n0 (by omega)
        rw [HMws.out,HMn.out,HMm.out] at hT12
        refine hT12.mono ?_;rintro e w7 ⟨bk2,cp2,rfl,g7,hh7,ho7⟩
        clear hT12
        have hbk7:bk2 < w7.heap.size:=World.block_lt_of_cell? w7 _ (hh7 0 (by rw [hMl,HR5.out.len,HCl.out];decide))
        have hne:=HR5.out.ne
        have hlo:=HR5.out.lo
        have hT7:T < w7.heap.size:=Nat.lt_of_lt_of_le hT5 g7.2.2
        simp only [RwL]
        go_wp2_with fail
        refine nxt_grow g7 (plan_one ?_)
        simp only [nths,nth,List.map_cons,List.map_nil,List.getD_cons_zero,List.getD_cons_succ]
        repeat go_big_quiet_step (fail)
        refine wpQuiet_nil ?_
        go_wp2_with fail
        have g8:Grown w7 (w7.alloc (.cells #[.int .i64 0,.int .i64 0,.int .i64 0,.int .i64 0,.int .i64 0,.slice none 0 0,.int .i64 0,.int .i64 0,.int .i64 0,.int .i64 0,.int .i64 0,.int .i64 0,.slice none 0 0,.slice none 0 0,.slice none 0 0,.slice none 0 0,.slice none 0 0] 42)):=by go_grown
        have BX:=Box.made w7 zWV 42
        have hsz:(w7.alloc (.cells #[.int .i64 0,.int .i64 0,.int .i64 0,.int .i64 0,.int .i64 0,.slice none 0 0,.int .i64 0,.int .i64 0,.int .i64 0,.int .i64 0,.int .i64 0,.int .i64 0,.slice none 0 0,.slice none 0 0,.slice none 0 0,.slice none 0 0,.slice none 0 0] 42)).heap.size = w7.heap.size + 1:=by simp
        change Box (w7.alloc (.cells #[.int .i64 0,.int .i64 0,.int .i64 0,.int .i64 0,.int .i64 0,.slice none 0 0,.int .i64 0,.int .i64 0,.int .i64 0,.int .i64 0,.int .i64 0,.int .i64 0,.slice none 0 0,.slice none 0 0,.slice none 0 0,.slice none 0 0,.slice none 0 0] 42)) w7.heap.size _ at BX
        obtain ⟨Y,hX⟩:∃ X,w7.heap.size = X:=⟨_,rfl⟩
        rw [hX] at BX hsz ⊢
        replace BX:=Lib.hid BX
        generalize w7.alloc (.cells #[.int .i64 0,.int .i64 0,.int .i64 0,.int .i64 0,.int .i64 0,.slice none 0 0,.int .i64 0,.int .i64 0,.int .i64 0,.int .i64 0,.int .i64 0,.int .i64 0,.slice none 0 0,.slice none 0 0,.slice none 0 0,.slice none 0 0,.slice none 0 0] 42) = v8 at *
        refine nxt_stay g8 (plan_one ?_)
        simp only [nths,nth,List.map_nil,List.getD_cons_zero,List.getD_cons_succ]
        refine wpQuiet_nil ?_
        go_wp2_with (first | (refine store_box rfl 42 _ _ rfl Y _ BX.out _ rfl rfl rfl (by kernel_rfl) rfl ?_;intro w9 B_ q_;have HB9:=Lib.hid B_;have q9:=Lib.hid q_;clear B_ q_) | fail)
        have gF:Grown w7 w9:=But.fresh g8 q9.out (fun i hi => by omega)
        refine nxt_stay gF (plan_fin ?_)
        simp only [nths,nth,List.map_cons,List.map_nil,List.getD_cons_zero,List.getD_cons_succ]
        repeat go_big_quiet_step (fail)
        refine wpQuiet_nil ?_
        go_wp2_with fail
        have HF:Holds w9 bk2 Mws:=(hh7.grown g8).but q9.out (by omega)
        go_meet
        case rel => exact ⟨Y,bk2,cp2,rfl,rfl,gtr g5 (gtr g7 gF),Lib.hid ⟨HB9.out,HF,by omega,by omega,by omega⟩⟩
       ·go_wp2_with fail
        have g8:Grown w5 (w5.alloc (.cells #[.int .i64 0,.int .i64 0,.int .i64 0,.int .i64 0,.int .i64 0,.slice none 0 0,.int .i64 0,.int .i64 0,.int .i64 0,.int .i64 0,.int .i64 0,.int .i64 0,.slice none 0 0,.slice none 0 0,.slice none 0 0,.slice none 0 0,.slice none 0 0] 42)):=by go_grown
        have BX:=Box.made w5 zWV 42
        have hsz:(w5.alloc (.cells #[.int .i64 0,.int .i64 0,.int .i64 0,.int .i64 0,.int .i64 0,.slice none 0 0,.int .i64 0,.int .i64 0,.int .i64 0,.int .i64 0,.int .i64 0,.int .i64 0,.slice none 0 0,.slice none 0 0,.slice none 0 0,.slice none 0 0,.slice none 0 0] 42)).heap.size = w5.heap.size + 1:=by simp
        change Box (w5.alloc (.cells #[.int .i64 0,.int .i64 0,.int .i64 0,.int .i64 0,.int .i64 0,.slice none 0 0,.int .i64 0,.int .i64 0,.int .i64 0,.int .i64 0,.int .i64 0,.int .i64 0,.slice none 0 0,.slice none 0 0,.slice none 0 0,.slice none 0 0,.slice none 0 0] 42)) w5.heap.size _ at BX
        obtain ⟨Y,hX⟩:∃ X,w5.heap.size = X:=⟨_,rfl⟩
        rw [hX] at BX hsz ⊢
        replace BX:=Lib.hid BX
        generalize w5.alloc (.cells #[.int .i64 0,.int .i64 0,.int .i64 0,.int .i64 0,.int .i64 0,.slice none 0 0,.int .i64 0,.int .i64 0,.int .i64 0,.int .i64 0,.int .i64 0,.int .i64 0,.slice none 0 0,.slice none 0 0,.slice none 0 0,.slice none 0 0,.slice none 0 0] 42) = v6 at *
        refine nxt_stay g8 (plan_one ?_)
        simp only [nths,nth,List.map_nil,List.getD_cons_zero,List.getD_cons_succ]
        refine wpQuiet_nil ?_
        have H6:=HR5.out.holds.grown g8
        have hne:=HR5.out.ne
        have hlo:=HR5.out.lo
        go_wp2_with fail
        have hT12:=rqTurn v6 c sl' bk c.len cp Lws Ln (nb:Int) 0 xw HR5.out.len H6 (by rw [HCl.out];decide) n0 (by omega)
        rw [HMws.out,HMn.out,HMm.out] at hT12
        refine hT12.mono ?_;rintro e w7 ⟨bk2,cp2,rfl,g7,hh7,ho7⟩
        clear hT12
        replace BX:=Lib.hid (BX.out.grown g7)
        simp only [RwL]
        go_wp2_with fail
        refine nxt_stay (gtr g8 g7) (plan_one ?_)
        simp only [nths,nth,List.map_cons,List.map_nil,List.getD_cons_zero,List.getD_cons_succ]
        repeat go_big_quiet_step (fail)
        refine wpQuiet_nil ?_
        go_wp2_with (first | (refine store_box rfl 42 _ _ rfl Y _ BX.out _ rfl rfl rfl (by kernel_rfl) rfl ?_;intro w9 B_ q_;have HB9:=Lib.hid B_;have q9:=Lib.hid q_;clear B_ q_) | fail)
        have gF:Grown w5 w9:=But.fresh (gtr g8 g7) q9.out (fun i hi => by omega)
        refine nxt_stay gF (plan_fin ?_)
        simp only [nths,nth,List.map_cons,List.map_nil,List.getD_cons_zero,List.getD_cons_succ]
        repeat go_big_quiet_step (fail)
        refine wpQuiet_nil ?_
        go_wp2_with fail
        have HF:Holds w9 bk2 Mws:=hh7.but q9.out (by omega)
        go_meet
        case rel => exact ⟨Y,bk2,cp2,rfl,rfl,gtr g5 gF,Lib.hid ⟨HB9.out,HF,by omega,by omega,by omega⟩⟩
     case rest =>
      obtain ⟨Y,bk2,cp2,rfl,rfl,gx,HX⟩:=hcut
      have HR12:=Lib.hid (HR10.out.grown gx)
      clear gx HR10
      have HX1:=Lib.hid HX.out.1
      go_wp2_with (first | (refine load_box rfl 42 _ rfl Y rfl _ _ Tryz.underlying42 rfl (by kernel_rfl) HX1.out ?_) | (refine store_box rfl 42 _ _ rfl T _ HR12.out.box _ rfl rfl rfl (by kernel_rfl) rfl ?_;intro w13 B_ q_;have HR13:Hid (RS hi c T w4 Mws Mn sb bk2 cp2 sl' w13):=Lib.hid (HR12.out.words HX.out.2.1 hMl HX.out.2.2.1 HX.out.2.2.2.1 q_ B_);have t7:=HR13.out.box.cell 7 (.int .i64 c.t) rfl;have t8:=HR13.out.box.cell 8 (.int .i64 c.b) rfl;have t9:=HR13.out.box.cell 9 (.int .i64 c.i) rfl;have t10:=HR13.out.box.cell 10 (.int .i64 c.f) rfl;have t11:=HR13.out.box.cell 11 (.int .i64 c.k) rfl;have t12:=HR13.out.box.cell 12 (.slice sl'.a1 sl'.m1 sl'.k1) rfl;have t13:=HR13.out.box.cell 13 (.slice sl'.a2 sl'.m2 sl'.k2) rfl;have t14:=HR13.out.box.cell 14 (.slice sl'.a3 sl'.m3 sl'.k3) rfl;have t15:=HR13.out.box.cell 15 (.slice sl'.a4 sl'.m4 sl'.k4) rfl;have t16:=HR13.out.box.cell 16 (.slice sl'.a5 sl'.m5 sl'.k5) rfl;clear B_ q_) | fail)
      have HMi:=Lib.hid mi
      have HMw:=Lib.hid mw
      obtain ⟨⟨sm,nm,bm⟩,hmk⟩:∃ r,makeI c sb 0 (nb:Int) = r:=⟨_,rfl⟩
      have HMk:=Lib.hid hmk
      have hnm:nm ≤ 9999:=by have:=make_le HOkc.out HMi.out 0 (nb:Int);rw [hmk] at this;exact this
      have HI3:Hid (Inv c sm):=Lib.hid (by have:=HMi.out.makeI 0 (nb:Int);rwa [hmk] at this)
      obtain ⟨rv,hrv⟩:∃ v,rd Mws Lat = v:=⟨_,rfl⟩
      have hr0:0 ≤ rv:=by rw [← hrv];exact (HMw.out Lat).1
      have hr1:rv ≤ 18446744073709551615:=by rw [← hrv];exact (HMw.out Lat).2
      have HRv:=Lib.hid hrv
      have cn:=cnt_le Mws (nxtI c Lat)
      obtain ⟨Pn,hPn⟩:∃ x,Mn + cnt Mws (nxtI c Lat) = x:=⟨_,rfl⟩
      have p0:0 ≤ Pn:=by rw [← hPn];omega
      have p1:Pn < 4611686018427387904:=by rw [← hPn];omega
      obtain ⟨rm,hrm⟩:∃ x,(rv % 2 == 1) = x:=⟨_,rfl⟩
      obtain ⟨pk,hpk⟩:∃ x,zPack (nm:Int) rm = x:=⟨_,rfl⟩
      obtain ⟨Pws,hPws⟩:∃ x,wr Mws (nxtI c Lat) pk = x:=⟨_,rfl⟩
      have hPl:Pws.length = Mws.length:=by rw [← hPws];exact length_wr _ _ _
      obtain ⟨pk2,hpk2⟩:∃ x,zPack 0 xm = x:=⟨_,rfl⟩
      obtain ⟨Qn,hQn⟩:∃ x,Pn + cnt Pws (nxtI c (nm:Int)) = x:=⟨_,rfl⟩
      obtain ⟨Qws,hQws⟩:∃ x,wr Pws (nxtI c (nm:Int)) pk2 = x:=⟨_,rfl⟩
      have hQl:Qws.length = Pws.length:=by rw [← hQws];exact length_wr _ _ _
      have HE:Hid (layL c (ys.take (k + 1)) = ⟨Qws,Qn,sm,(nm:Int),(nb:Int)⟩):=Lib.hid (by
       rw [HStep.out,HMs.out]
       unfold lyB lyW
       simp only
       rw [HMk.out,hrv,hrm,hpk,hPws,hpk2,hQws,hPn,hQn])
      have HRm:=Lib.hid hrm
      have HPk:=Lib.hid hpk
      have HPk2:=Lib.hid hpk2
      have HPws:=Lib.hid hPws
      have HPn:=Lib.hid hPn
      have HQws:=Lib.hid hQws
      have HQn:=Lib.hid hQn
      have hol2:sb.ops.length ≤ 9999:=HOl.out
      have hnl2:sb.nodes.length ≤ 9999:=HNl.out
      clear hmk hrv cn hPn hrm hpk hPws hpk2 hQn hQws
      refine (rMake_any _ hi c sb _ _ _ _ _ HR13.out.refs HOkc.out HMi.out (by have:=HR13.out.lo;have:=World.block_lt_of_cell? w13 _ (HR13.out.holds 0 (by rw [HR13.out.len,HCl.out];decide));simp only at this;omega) hol2 hnl2 0 (nb:Int) (sm,nm,bm) HMk.out).mono ?_;rintro e w20 hrt
      obtain ⟨sm',rfl,R20,g20,O20⟩:=rtell_h hrt
      have hTl:=HR13.out.lt
      have O20T:=O20 T HR13.out.off hTl
      have HR20:=Lib.hid (HR13.out.grown g20)
      clear hrt O20 t7 t8 t9 t10 t11 t12 t13 t14 t15 t16 g20
      simp only [BkL]
      have ga:Grown w20 (w20.alloc (.cells (BkL c sm').toArray 40)):=by go_grown
      have HRa:=Lib.hid (HR20.out.grown ga)
      have HRf:=Lib.hid (R20.grown ga)
      clear ga R20
      simp only [BkL] at HRa HRf
      go_wp2_with (first | (refine store_part rfl 40 _ _ rfl T 7 rfl _ rfl (RwL c bk2 c.len cp2 Mn sl') (RwL c bk2 c.len cp2 Mn sm') HRa.out.box (Nat.le_of_ble_eq_true rfl) (by kernel_rfl) rfl rfl ?_;intro w21 B_ q_;have HR21:Hid (RS hi c T w4 Mws Mn sm bk2 cp2 sm' w21):=Lib.hid (HRa.out.book HRf.out O20T q_ B_);clear B_ q_) | (refine load_box rfl 42 _ rfl T rfl _ _ Tryz.underlying42 rfl (by kernel_rfl) HR21.out.box ?_) | fail)
      refine (rwPeek_any _ c bk2 c.len cp2 Mws Mn sm' HR21.out.len HR21.out.holds (by rw [HCl.out];decide) (by omega) (by omega) Lat rv HRv.out).mono ?_;rintro e w22 ⟨rfl,g22⟩
      have HR22:=Lib.hid (HR21.out.grown g22)
      clear g22
      go_wp2_with fail
      go_cut [] from 30 to 104 (fun wx => ∃ bk3 cp3,Hid (RS hi c T w4 Pws Pn sm bk3 cp3 sm' wx))
      case first =>
       as_aux_lemma =>
        refine wp_region_planb (· = T) (.two [1,2,3] 0 (.one [] 4 (.one [] 5 (.one [] 6 (.one [] 7 (.fin []))))) 4 (.two [] 0 (.one [] 5 (.one [] 6 (.one [] 7 (.fin [])))) 5 (.one [] 0 (.one [] 6 (.one [] 7 (.fin [])))))) (by kernel_rfl) (by kernel_rfl) (by kernel_rfl) ?_
        intro w5 g5
        have HR5:=Lib.hid (HR22.out.grown g5)
        clear g5
        refine plan_two ?_
        simp only [nths,nth,List.map_cons,List.map_nil,List.getD_cons_zero,List.getD_cons_succ]
        repeat go_big_quiet_step (fail)
        refine wpQuiet_nil ⟨?_,?_⟩
        ·go_wp2_with (first | (refine load_box rfl 42 _ rfl T rfl _ _ Tryz.underlying42 rfl (by kernel_rfl) HR5.out.box ?_) | fail)
         refine nxt_but (But.refl _ _) (plan_one ?_)
         simp only [nths,nth,List.map_nil,List.getD_cons_zero,List.getD_cons_succ]
         refine wpQuiet_nil ?_
         go_wp2_with fail
         refine (Marked_r _ HRm.out hr0 hr1).mono ?_;rintro e w6 ⟨rfl,g6⟩
         have HR6:=Lib.hid (HR5.out.grown g6)
         have Q6:But (· = T) w5 w6:=(But.refl _ _).trans (But.of_grown g6)
         clear g6
         go_wp2_with fail
         refine nxt_but (Q6) (plan_one ?_)
         simp only [nths,nth,List.map_nil,List.getD_cons_zero,List.getD_cons_succ]
         refine wpQuiet_nil ?_
         go_wp2_with fail
         refine (Pack_r _ HPk.out (by omega) (by omega)).mono ?_;rintro e w7 ⟨rfl,g7⟩
         have HR7:=Lib.hid (HR6.out.grown g7)
         have Q7:But (· = T) w5 w7:=(Q6).trans (But.of_grown g7)
         clear g7
         go_wp2_with fail
         refine nxt_but (Q7) (plan_one ?_)
         simp only [nths,nth,List.map_nil,List.getD_cons_zero,List.getD_cons_succ]
         refine wpQuiet_nil ?_
         go_wp2_with fail
         have hS:=rqSet w7 c sm' bk2 c.len cp2 Mws Mn Lat pk HR7.out.len HR7.out.holds (by rw [HCl.out];decide) (by omega) (by omega)
         rw [HPws.out,HPn.out] at hS
         refine hS.mono ?_;rintro e w8 ⟨bk3,cp3,rfl,g8,hh3,ho3⟩
         clear hS
         have hlo3:hi ≤ bk3:=by have h1:=HR7.out.lo;have h2:=HR7.out.lt;omega
         have hne3:bk3 ≠ T:=by have h1:=HR7.out.ne;have h2:=HR7.out.lt;omega
         have HR8:=Lib.hid (HR7.out.grown g8)
         have Q8:But (· = T) w5 w8:=(Q7).trans (But.of_grown g8)
         clear g8 ho3
         go_wp2_with fail
         refine nxt_but (Q8) (plan_one ?_)
         simp only [nths,nth,List.map_nil,List.getD_cons_zero,List.getD_cons_succ]
         refine wpQuiet_nil ?_
         go_wp2_with (first | (refine store_box rfl 42 _ _ rfl T _ HR8.out.box _ rfl rfl rfl (by kernel_rfl) rfl ?_;intro w9 B_ q_;have HR9:Hid (RS hi c T w4 Pws Pn sm bk3 cp3 sm' w9):=Lib.hid (HR8.out.words hh3 hPl hlo3 hne3 q_ B_);have Q9:But (· = T) w5 w9:=(Q8).trans q_;clear B_ q_) | fail)
         refine nxt_but (Q9) (plan_fin ?_)
         simp only [nths,List.map_nil]
         refine wpQuiet_nil ?_
         go_wp2_with fail
         go_meet
         case rel => exact ⟨bk3,cp3,HR9⟩
        ·go_wp2_with fail
         refine (Marked_r _ HRm.out hr0 hr1).mono ?_;rintro e w6 ⟨rfl,g6⟩
         have HR6:=Lib.hid (HR5.out.grown g6)
         have Q6:But (· = T) w5 w6:=(But.refl _ _).trans (But.of_grown g6)
         clear g6
         go_wp2_with fail
         refine nxt_but (Q6) (plan_two ?_)
         simp only [nths,nth,List.map_nil,List.getD_cons_zero,List.getD_cons_succ]
         refine wpQuiet_nil ⟨?_,?_⟩
         ·go_wp2_with (first | (refine load_box rfl 42 _ rfl T rfl _ _ Tryz.underlying42 rfl (by kernel_rfl) HR6.out.box ?_) | fail)
          refine nxt_but (Q6) (plan_one ?_)
          simp only [nths,nth,List.map_nil,List.getD_cons_zero,List.getD_cons_succ]
          refine wpQuiet_nil ?_
          go_wp2_with fail
          refine (Pack_r _ HPk.out (by omega) (by omega)).mono ?_;rintro e w7 ⟨rfl,g7⟩
          have HR7:=Lib.hid (HR6.out.grown g7)
          have Q7:But (· = T) w5 w7:=(Q6).trans (But.of_grown g7)
          clear g7
          go_wp2_with fail
          refine nxt_but (Q7) (plan_one ?_)
          simp only [nths,nth,List.map_nil,List.getD_cons_zero,List.getD_cons_succ]
          refine wpQuiet_nil ?_
          go_wp2_with fail
          have hS:=rqSet w7 c sm' bk2 c.len cp2 Mws Mn Lat pk HR7.out.len HR7.out.holds (by rw [HCl.out];decide) (by omega) (by omega)
          rw [HPws.out,HPn.out] at hS
          refine hS.mono ?_;rintro e w8 ⟨bk3,cp3,rfl,g8,hh3,ho3⟩
          clear hS
          have hlo3:hi ≤ bk3:=by have h1:=HR7.out.lo;have h2:=HR7.out.lt;omega
          have hne3:bk3 ≠ T:=by have h1:=HR7.out.ne;have h2:=HR7.out.lt;omega
          have HR8:=Lib.hid (HR7.out.grown g8)
          have Q8:But (· = T) w5 w8:=(Q7).trans (But.of_grown g8)
          clear g8 ho3
          go_wp2_with fail
          refine nxt_but (Q8) (plan_one ?_)
          simp only [nths,nth,List.map_nil,List.getD_cons_zero,List.getD_cons_succ]
          refine wpQuiet_nil ?_
          go_wp2_with (first | (refine store_box rfl 42 _ _ rfl T _ HR8.out.box _ rfl rfl rfl (by kernel_rfl) rfl ?_;intro w9 B_ q_;have HR9:Hid (RS hi c T w4 Pws Pn sm bk3 cp3 sm' w9):=Lib.hid (HR8.out.words hh3 hPl hlo3 hne3 q_ B_);have Q9:But (· = T) w5 w9:=(Q8).trans q_;clear B_ q_) | fail)
          refine nxt_but (Q9) (plan_fin ?_)
          simp only [nths,List.map_nil]
          refine wpQuiet_nil ?_
          go_wp2_with fail
          go_meet
          case rel => exact ⟨bk3,cp3,HR9⟩
         ·go_wp2_with fail
          refine (Pack_r _ HPk.out (by omega) (by omega)).mono ?_;rintro e w7 ⟨rfl,g7⟩
          have HR7:=Lib.hid (HR6.out.grown g7)
          have Q7:But (· = T) w5 w7:=(Q6).trans (But.of_grown g7)
          clear g7
          go_wp2_with fail
          refine nxt_but (Q7) (plan_one ?_)
          simp only [nths,nth,List.map_nil,List.getD_cons_zero]
          refine wpQuiet_nil ?_
          go_wp2_with (first | (refine load_box rfl 42 _ rfl T rfl _ _ Tryz.underlying42 rfl (by kernel_rfl) HR7.out.box ?_) | fail)
          refine nxt_but (Q7) (plan_one ?_)
          simp only [nths,nth,List.map_nil,List.getD_cons_zero,List.getD_cons_succ]
          refine wpQuiet_nil ?_
          go_wp2_with fail
          have hS:=rqSet w7 c sm' bk2 c.len cp2 Mws Mn Lat pk HR7.out.len HR7.out.holds (by rw [HCl.out];decide) (by omega) (by omega)
          rw [HPws.out,HPn.out] at hS
          refine hS.mono ?_;rintro e w8 ⟨bk3,cp3,rfl,g8,hh3,ho3⟩
          clear hS
          have hlo3:hi ≤ bk3:=by have h1:=HR7.out.lo;have h2:=HR7.out.lt;omega
          have hne3:bk3 ≠ T:=by have h1:=HR7.out.ne;have h2:=HR7.out.lt;omega
          have HR8:=Lib.hid (HR7.out.grown g8)
          have Q8:But (· = T) w5 w8:=(Q7).trans (But.of_grown g8)
          clear g8 ho3
          go_wp2_with fail
          refine nxt_but (Q8) (plan_one ?_)
          simp only [nths,nth,List.map_nil,List.getD_cons_zero,List.getD_cons_succ]
          refine wpQuiet_nil ?_
          go_wp2_with (first | (refine store_box rfl 42 _ _ rfl T _ HR8.out.box _ rfl rfl rfl (by kernel_rfl) rfl ?_;intro w9 B_ q_;have HR9:Hid (RS hi c T w4 Pws Pn sm bk3 cp3 sm' w9):=Lib.hid (HR8.out.words hh3 hPl hlo3 hne3 q_ B_);have Q9:But (· = T) w5 w9:=(Q8).trans q_;clear B_ q_) | fail)
          refine nxt_but (Q9) (plan_fin ?_)
          simp only [nths,List.map_nil]
          refine wpQuiet_nil ?_
          go_wp2_with fail
          go_meet
          case rel => exact ⟨bk3,cp3,HR9⟩
      case rest =>
       obtain ⟨bk3,cp3,HR23⟩:=hcut
       go_wp2_with fail
       go_cut [] from 30 to 104 (fun wx => ∃ bk3 cp3,Hid (RS hi c T w4 Qws Qn sm bk3 cp3 sm' wx))
       case first =>
        as_aux_lemma =>
         refine wp_region_planb (· = T) (.two [1,2,3,4,5,6] 0 (.one [] 7 (.one [] 8 (.one [] 9 (.fin [])))) 7 (.one [] 0 (.one [] 8 (.one [] 9 (.fin []))))) (by kernel_rfl) (by kernel_rfl) (by kernel_rfl) ?_
         intro w5 g5
         have HR5:=Lib.hid (HR23.out.grown g5)
         clear g5
         have d3:∀ q:ButW (· = T) w5,q.w.cell? ⟨gy,k * 5 + 3,none⟩ = some (.bool xm):=ButW.cell HNy.out (HR5.out.q.cell HNy.out (HRow.out (k * 5 + 3) _ (flatI_3 HX0.out)))
         refine plan_two ?_
         simp only [nths,nth,List.map_cons,List.map_nil,List.getD_cons_zero,List.getD_cons_succ]
         repeat go_big_quiet_step (fail)
         clear d3
         refine wpQuiet_nil ⟨?_,?_⟩
         ·go_wp2_with (first | (refine load_box rfl 42 _ rfl T rfl _ _ Tryz.underlying42 rfl (by kernel_rfl) HR5.out.box ?_) | fail)
          refine nxt_but (But.refl _ _) (plan_one ?_)
          simp only [nths,nth,List.map_nil,List.getD_cons_zero,List.getD_cons_succ]
          refine wpQuiet_nil ?_
          go_wp2_with fail
          refine (Pack_r _ HPk2.out (by omega) (by omega)).mono ?_;rintro e w6 ⟨rfl,g6⟩
          have HR6:=Lib.hid (HR5.out.grown g6)
          have Q6:But (· = T) w5 w6:=(But.refl _ _).trans (But.of_grown g6)
          clear g6
          go_wp2_with fail
          refine nxt_but (Q6) (plan_one ?_)
          simp only [nths,nth,List.map_nil,List.getD_cons_zero,List.getD_cons_succ]
          refine wpQuiet_nil ?_
          go_wp2_with fail
          have hS:=rqSet w6 c sm' bk3 c.len cp3 Pws Pn (nm:Int) pk2 HR6.out.len HR6.out.holds (by rw [HCl.out];decide) (by omega) (by omega)
          rw [HQws.out,HQn.out] at hS
          refine hS.mono ?_;rintro e w7 ⟨bk3,cp3,rfl,g7,hh3,ho3⟩
          clear hS
          have hlo3:hi ≤ bk3:=by have h1:=HR6.out.lo;have h2:=HR6.out.lt;omega
          have hne3:bk3 ≠ T:=by have h1:=HR6.out.ne;have h2:=HR6.out.lt;omega
          have HR7:=Lib.hid (HR6.out.grown g7)
          have Q7:But (· = T) w5 w7:=(Q6).trans (But.of_grown g7)
          clear g7 ho3
          go_wp2_with fail
          refine nxt_but (Q7) (plan_one ?_)
          simp only [nths,nth,List.map_nil,List.getD_cons_zero,List.getD_cons_succ]
          refine wpQuiet_nil ?_
          go_wp2_with (first | (refine store_box rfl 42 _ _ rfl T _ HR7.out.box _ rfl rfl rfl (by kernel_rfl) rfl ?_;intro w9 B_ q_;have HR9:Hid (RS hi c T w4 Qws Qn sm bk3 cp3 sm' w9):=Lib.hid (HR7.out.words hh3 hQl hlo3 hne3 q_ B_);have Q9:But (· = T) w5 w9:=(Q7).trans q_;clear B_ q_) | fail)
          refine nxt_but (Q9) (plan_fin ?_)
          simp only [nths,List.map_nil]
          refine wpQuiet_nil ?_
          go_wp2_with fail
          go_meet
          case rel => exact ⟨bk3,cp3,HR9⟩
         ·go_wp2_with fail
          refine (Pack_r _ HPk2.out (by omega) (by omega)).mono ?_;rintro e w6 ⟨rfl,g6⟩
          have HR6:=Lib.hid (HR5.out.grown g6)
          have Q6:But (· = T) w5 w6:=(But.refl _ _).trans (But.of_grown g6)
          clear g6
          go_wp2_with fail
          refine nxt_but (Q6) (plan_one ?_)
          simp only [nths,nth,List.map_nil,List.getD_cons_zero]
          refine wpQuiet_nil ?_
          go_wp2_with (first | (refine load_box rfl 42 _ rfl T rfl _ _ Tryz.underlying42 rfl (by kernel_rfl) HR6.out.box ?_) | fail)
          refine nxt_but (Q6) (plan_one ?_)
          simp only [nths,nth,List.map_nil,List.getD_cons_zero,List.getD_cons_succ]
          refine wpQuiet_nil ?_
          go_wp2_with fail
          have hS:=rqSet w6 c sm' bk3 c.len cp3 Pws Pn (nm:Int) pk2 HR6.out.len HR6.out.holds (by rw [HCl.out];decide) (by omega) (by omega)
          rw [HQws.out,HQn.out] at hS
          refine hS.mono ?_;rintro e w7 ⟨bk3,cp3,rfl,g7,hh3,ho3⟩
          clear hS
          have hlo3:hi ≤ bk3:=by have h1:=HR6.out.lo;have h2:=HR6.out.lt;omega
          have hne3:bk3 ≠ T:=by have h1:=HR6.out.ne;have h2:=HR6.out.lt;omega
          have HR7:=Lib.hid (HR6.out.grown g7)
          have Q7:But (· = T) w5 w7:=(Q6).trans (But.of_grown g7)
          clear g7 ho3
          go_wp2_with fail
          refine nxt_but (Q7) (plan_one ?_)
          simp only [nths,nth,List.map_nil,List.getD_cons_zero,List.getD_cons_succ]
          refine wpQuiet_nil ?_
          go_wp2_with (first | (refine store_box rfl 42 _ _ rfl T _ HR7.out.box _ rfl rfl rfl (by kernel_rfl) rfl ?_;intro w9 B_ q_;have HR9:Hid (RS hi c T w4 Qws Qn sm bk3 cp3 sm' w9):=Lib.hid (HR7.out.words hh3 hQl hlo3 hne3 q_ B_);have Q9:But (· = T) w5 w9:=(Q7).trans q_;clear B_ q_) | fail)
          refine nxt_but (Q9) (plan_fin ?_)
          simp only [nths,List.map_nil]
          refine wpQuiet_nil ?_
          go_wp2_with fail
          go_meet
          case rel => exact ⟨bk3,cp3,HR9⟩
       case rest =>
        obtain ⟨bk4,cp4,HR24⟩:=hcut
        go_wp2_with fail
        refine ⟨⟨k + 1,(nm:Int),(nb:Int),bk4,cp4,sm',rfl,rfl,by simp,hkm,by rw [HE.out],by rw [HE.out],?_⟩,by simp [intOf];omega⟩
        rw [HE.out]
        exact HR24.out
   ·as_aux_lemma =>
     have HMs:Hid (lyI c ⟨Lws,Ln,Ls,Lat,Lop⟩ ⟨xk,xv,xw,xm,true⟩ = lyB c ⟨Lws,Ln,Ls,Lat,Lop⟩ ⟨xk,xv,xw,xm,true⟩):=Lib.hid rfl
     have HOl:Hid (Ls.ops.length ≤ 9999):=Lib.hid (by have h2:=HLok.out.ops;simp only at h2;omega)
     have HNl:Hid (Ls.nodes.length ≤ 9999):=Lib.hid (by have h2:=HLok.out.nodes;simp only at h2;omega)
     have mi:=HLok.out.inv
     have mw:=HLok.out.wok
     have t7:=HR.out.box.cell 7 (.int .i64 c.t) rfl
     have t8:=HR.out.box.cell 8 (.int .i64 c.b) rfl
     have t9:=HR.out.box.cell 9 (.int .i64 c.i) rfl
     have t10:=HR.out.box.cell 10 (.int .i64 c.f) rfl
     have t11:=HR.out.box.cell 11 (.int .i64 c.k) rfl
     have t12:=HR.out.box.cell 12 (.slice sl.a1 sl.m1 sl.k1) rfl
     have t13:=HR.out.box.cell 13 (.slice sl.a2 sl.m2 sl.k2) rfl
     have t14:=HR.out.box.cell 14 (.slice sl.a3 sl.m3 sl.k3) rfl
     have t15:=HR.out.box.cell 15 (.slice sl.a4 sl.m4 sl.k4) rfl
     have t16:=HR.out.box.cell 16 (.slice sl.a5 sl.m5 sl.k5) rfl
     go_wp2_with fail
     have HMi:=Lib.hid mi
     have HMw:=Lib.hid mw
     obtain ⟨⟨sm,nm,bm⟩,hmk⟩:∃ r,makeI c Ls 0 Lop = r:=⟨_,rfl⟩
     have HMk:=Lib.hid hmk
     have hnm:nm ≤ 9999:=by have:=make_le HOkc.out HMi.out 0 Lop;rw [hmk] at this;exact this
     have HI3:Hid (Inv c sm):=Lib.hid (by have:=HMi.out.makeI 0 Lop;rwa [hmk] at this)
     obtain ⟨rv,hrv⟩:∃ v,rd Lws Lat = v:=⟨_,rfl⟩
     have hr0:0 ≤ rv:=by rw [← hrv];exact (HMw.out Lat).1
     have hr1:rv ≤ 18446744073709551615:=by rw [← hrv];exact (HMw.out Lat).2
     have HRv:=Lib.hid hrv
     have cn:=cnt_le Lws (nxtI c Lat)
     obtain ⟨Pn,hPn⟩:∃ x,Ln + cnt Lws (nxtI c Lat) = x:=⟨_,rfl⟩
     have p0:0 ≤ Pn:=by rw [← hPn];omega
     have p1:Pn < 4611686018427387904:=by rw [← hPn];omega
     obtain ⟨rm,hrm⟩:∃ x,(rv % 2 == 1) = x:=⟨_,rfl⟩
     obtain ⟨pk,hpk⟩:∃ x,zPack (nm:Int) rm = x:=⟨_,rfl⟩
     obtain ⟨Pws,hPws⟩:∃ x,wr Lws (nxtI c Lat) pk = x:=⟨_,rfl⟩
     have hPl:Pws.length = Lws.length:=by rw [← hPws];exact length_wr _ _ _
     obtain ⟨pk2,hpk2⟩:∃ x,zPack 0 xm = x:=⟨_,rfl⟩
     obtain ⟨Qn,hQn⟩:∃ x,Pn + cnt Pws (nxtI c (nm:Int)) = x:=⟨_,rfl⟩
     obtain ⟨Qws,hQws⟩:∃ x,wr Pws (nxtI c (nm:Int)) pk2 = x:=⟨_,rfl⟩
     have hQl:Qws.length = Pws.length:=by rw [← hQws];exact length_wr _ _ _
     have HE:Hid (layL c (ys.take (k + 1)) = ⟨Qws,Qn,sm,(nm:Int),Lop⟩):=Lib.hid (by
      rw [HStep.out,HMs.out]
      unfold lyB lyW
      simp only
      rw [HMk.out,hrv,hrm,hpk,hPws,hpk2,hQws,hPn,hQn])
     have HRm:=Lib.hid hrm
     have HPk:=Lib.hid hpk
     have HPk2:=Lib.hid hpk2
     have HPws:=Lib.hid hPws
     have HPn:=Lib.hid hPn
     have HQws:=Lib.hid hQws
     have HQn:=Lib.hid hQn
     have hol2:Ls.ops.length ≤ 9999:=HOl.out
     have hnl2:Ls.nodes.length ≤ 9999:=HNl.out
     clear hmk hrv cn hPn hrm hpk hPws hpk2 hQn hQws
     refine (rMake_any _ hi c Ls _ _ _ _ _ HR.out.refs HOkc.out HMi.out (by have:=HR.out.lo;have:=World.block_lt_of_cell? wo _ (HR.out.holds 0 (by rw [HR.out.len,HCl.out];decide));simp only at this;omega) hol2 hnl2 0 Lop (sm,nm,bm) HMk.out).mono ?_;rintro e w20 hrt
     obtain ⟨sm',rfl,R20,g20,O20⟩:=rtell_h hrt
     have hTl:=HR.out.lt
     have O20T:=O20 T HR.out.off hTl
     have HR20:=Lib.hid (HR.out.grown g20)
     clear hrt O20 t7 t8 t9 t10 t11 t12 t13 t14 t15 t16 g20
     simp only [BkL]
     have ga:Grown w20 (w20.alloc (.cells (BkL c sm').toArray 40)):=by go_grown
     have HRa:=Lib.hid (HR20.out.grown ga)
     have HRf:=Lib.hid (R20.grown ga)
     clear ga R20
     simp only [BkL] at HRa HRf
     go_wp2_with (first | (refine store_part rfl 40 _ _ rfl T 7 rfl _ rfl (RwL c bk c.len cp Ln sl) (RwL c bk c.len cp Ln sm') HRa.out.box (Nat.le_of_ble_eq_true rfl) (by kernel_rfl) rfl rfl ?_;intro w21 B_ q_;have HR21:Hid (RS hi c T w4 Lws Ln sm bk cp sm' w21):=Lib.hid (HRa.out.book HRf.out O20T q_ B_);clear B_ q_) | (refine load_box rfl 42 _ rfl T rfl _ _ Tryz.underlying42 rfl (by kernel_rfl) HR21.out.box ?_) | fail)
     refine (rwPeek_any _ c bk c.len cp Lws Ln sm' HR21.out.len HR21.out.holds (by rw [HCl.out];decide) (by omega) (by omega) Lat rv HRv.out).mono ?_;rintro e w22 ⟨rfl,g22⟩
     have HR22:=Lib.hid (HR21.out.grown g22)
     clear g22
     go_wp2_with fail
     go_cut [] from 30 to 104 (fun wx => ∃ bk3 cp3,Hid (RS hi c T w4 Pws Pn sm bk3 cp3 sm' wx))
     case first =>
      as_aux_lemma =>
       refine wp_region_planb (· = T) (.two [1,2,3] 0 (.one [] 4 (.one [] 5 (.one [] 6 (.one [] 7 (.fin []))))) 4 (.two [] 0 (.one [] 5 (.one [] 6 (.one [] 7 (.fin [])))) 5 (.one [] 0 (.one [] 6 (.one [] 7 (.fin [])))))) (by kernel_rfl) (by kernel_rfl) (by kernel_rfl) ?_
       intro w5 g5
       have HR5:=Lib.hid (HR22.out.grown g5)
       clear g5
       refine plan_two ?_
       simp only [nths,nth,List.map_cons,List.map_nil,List.getD_cons_zero,List.getD_cons_succ]
       repeat go_big_quiet_step (fail)
       refine wpQuiet_nil ⟨?_,?_⟩
       ·go_wp2_with (first | (refine load_box rfl 42 _ rfl T rfl _ _ Tryz.underlying42 rfl (by kernel_rfl) HR5.out.box ?_) | fail)
        refine nxt_but (But.refl _ _) (plan_one ?_)
        simp only [nths,nth,List.map_nil,List.getD_cons_zero,List.getD_cons_succ]
        refine wpQuiet_nil ?_
        go_wp2_with fail
        refine (Marked_r _ HRm.out hr0 hr1).mono ?_;rintro e w6 ⟨rfl,g6⟩
        have HR6:=Lib.hid (HR5.out.grown g6)
        have Q6:But (· = T) w5 w6:=(But.refl _ _).trans (But.of_grown g6)
        clear g6
        go_wp2_with fail
        refine nxt_but (Q6) (plan_one ?_)
        simp only [nths,nth,List.map_nil,List.getD_cons_zero,List.getD_cons_succ]
        refine wpQuiet_nil ?_
        go_wp2_with fail
        refine (Pack_r _ HPk.out (by omega) (by omega)).mono ?_;rintro e w7 ⟨rfl,g7⟩
        have HR7:=Lib.hid (HR6.out.grown g7)
        have Q7:But (· = T) w5 w7:=(Q6).trans (But.of_grown g7)
        clear g7
        go_wp2_with fail
        refine nxt_but (Q7) (plan_one ?_)
        simp only [nths,nth,List.map_nil,List.getD_cons_zero,List.getD_cons_succ]
        refine wpQuiet_nil ?_
        go_wp2_with fail
        have hS:=rqSet w7 c sm' bk c.len cp Lws Ln Lat pk HR7.out.len HR7.out.holds (by rw [HCl.out];decide) (by omega) (by omega)
        rw [HPws.out,HPn.out] at hS
        refine hS.mono ?_;rintro e w8 ⟨bk3,cp3,rfl,g8,hh3,ho3⟩
        clear hS
        have hlo3:hi ≤ bk3:=by have h1:=HR7.out.lo;have h2:=HR7.out.lt;omega
        have hne3:bk3 ≠ T:=by have h1:=HR7.out.ne;have h2:=HR7.out.lt;omega
        have HR8:=Lib.hid (HR7.out.grown g8)
        have Q8:But (· = T) w5 w8:=(Q7).trans (But.of_grown g8)
        clear g8 ho3
        go_wp2_with fail
        refine nxt_but (Q8) (plan_one ?_)
        simp only [nths,nth,List.map_nil,List.getD_cons_zero,List.getD_cons_succ]
        refine wpQuiet_nil ?_
        go_wp2_with (first | (refine store_box rfl 42 _ _ rfl T _ HR8.out.box _ rfl rfl rfl (by kernel_rfl) rfl ?_;intro w9 B_ q_;have HR9:Hid (RS hi c T w4 Pws Pn sm bk3 cp3 sm' w9):=Lib.hid (HR8.out.words hh3 hPl hlo3 hne3 q_ B_);have Q9:But (· = T) w5 w9:=(Q8).trans q_;clear B_ q_) | fail)
        refine nxt_but (Q9) (plan_fin ?_)
        simp only [nths,List.map_nil]
        refine wpQuiet_nil ?_
        go_wp2_with fail
        go_meet
        case rel => exact ⟨bk3,cp3,HR9⟩
       ·go_wp2_with fail
        refine (Marked_r _ HRm.out hr0 hr1).mono ?_;rintro e w6 ⟨rfl,g6⟩
        have HR6:=Lib.hid (HR5.out.grown g6)
        have Q6:But (· = T) w5 w6:=(But.refl _ _).trans (But.of_grown g6)
        clear g6
        go_wp2_with fail
        refine nxt_but (Q6) (plan_two ?_)
        simp only [nths,nth,List.map_nil,List.getD_cons_zero,List.getD_cons_succ]
        refine wpQuiet_nil ⟨?_,?_⟩
        ·go_wp2_with (first | (refine load_box rfl 42 _ rfl T rfl _ _ Tryz.underlying42 rfl (by kernel_rfl) HR6.out.box ?_) | fail)
         refine nxt_but (Q6) (plan_one ?_)
         simp only [nths,nth,List.map_nil,List.getD_cons_zero,List.getD_cons_succ]
         refine wpQuiet_nil ?_
         go_wp2_with fail
         refine (Pack_r _ HPk.out (by omega) (by omega)).mono ?_;rintro e w7 ⟨rfl,g7⟩
         have HR7:=Lib.hid (HR6.out.grown g7)
         have Q7:But (· = T) w5 w7:=(Q6).trans (But.of_grown g7)
         clear g7
         go_wp2_with fail
         refine nxt_but (Q7) (plan_one ?_)
         simp only [nths,nth,List.map_nil,List.getD_cons_zero,List.getD_cons_succ]
         refine wpQuiet_nil ?_
         go_wp2_with fail
         have hS:=rqSet w7 c sm' bk c.len cp Lws Ln Lat pk HR7.out.len HR7.out.holds (by rw [HCl.out];decide) (by omega) (by omega)
         rw [HPws.out,HPn.out] at hS
         refine hS.mono ?_;rintro e w8 ⟨bk3,cp3,rfl,g8,hh3,ho3⟩
         clear hS
         have hlo3:hi ≤ bk3:=by have h1:=HR7.out.lo;have h2:=HR7.out.lt;omega
         have hne3:bk3 ≠ T:=by have h1:=HR7.out.ne;have h2:=HR7.out.lt;omega
         have HR8:=Lib.hid (HR7.out.grown g8)
         have Q8:But (· = T) w5 w8:=(Q7).trans (But.of_grown g8)
         clear g8 ho3
         go_wp2_with fail
         refine nxt_but (Q8) (plan_one ?_)
         simp only [nths,nth,List.map_nil,List.getD_cons_zero,List.getD_cons_succ]
         refine wpQuiet_nil ?_
         go_wp2_with (first | (refine store_box rfl 42 _ _ rfl T _ HR8.out.box _ rfl rfl rfl (by kernel_rfl) rfl ?_;intro w9 B_ q_;have HR9:Hid (RS hi c T w4 Pws Pn sm bk3 cp3 sm' w9):=Lib.hid (HR8.out.words hh3 hPl hlo3 hne3 q_ B_);have Q9:But (· = T) w5 w9:=(Q8).trans q_;clear B_ q_) | fail)
         refine nxt_but (Q9) (plan_fin ?_)
         simp only [nths,List.map_nil]
         refine wpQuiet_nil ?_
         go_wp2_with fail
         go_meet
         case rel => exact ⟨bk3,cp3,HR9⟩
        ·go_wp2_with fail
         refine (Pack_r _ HPk.out (by omega) (by omega)).mono ?_;rintro e w7 ⟨rfl,g7⟩
         have HR7:=Lib.hid (HR6.out.grown g7)
         have Q7:But (· = T) w5 w7:=(Q6).trans (But.of_grown g7)
         clear g7
         go_wp2_with fail
         refine nxt_but (Q7) (plan_one ?_)
         simp only [nths,nth,List.map_nil,List.getD_cons_zero]
         refine wpQuiet_nil ?_
         go_wp2_with (first | (refine load_box rfl 42 _ rfl T rfl _ _ Tryz.underlying42 rfl (by kernel_rfl) HR7.out.box ?_) | fail)
         refine nxt_but (Q7) (plan_one ?_)
         simp only [nths,nth,List.map_nil,List.getD_cons_zero,List.getD_cons_succ]
         refine wpQuiet_nil ?_
         go_wp2_with fail
         have hS:=rqSet w7 c sm' bk c.len cp Lws Ln Lat pk HR7.out.len HR7.out.holds (by rw [HCl.out];decide) (by omega) (by omega)
         rw [HPws.out,HPn.out] at hS
         refine hS.mono ?_;rintro e w8 ⟨bk3,cp3,rfl,g8,hh3,ho3⟩
         clear hS
         have hlo3:hi ≤ bk3:=by have h1:=HR7.out.lo;have h2:=HR7.out.lt;omega
         have hne3:bk3 ≠ T:=by have h1:=HR7.out.ne;have h2:=HR7.out.lt;omega
         have HR8:=Lib.hid (HR7.out.grown g8)
         have Q8:But (· = T) w5 w8:=(Q7).trans (But.of_grown g8)
         clear g8 ho3
         go_wp2_with fail
         refine nxt_but (Q8) (plan_one ?_)
         simp only [nths,nth,List.map_nil,List.getD_cons_zero,List.getD_cons_succ]
         refine wpQuiet_nil ?_
         go_wp2_with (first | (refine store_box rfl 42 _ _ rfl T _ HR8.out.box _ rfl rfl rfl (by kernel_rfl) rfl ?_;intro w9 B_ q_;have HR9:Hid (RS hi c T w4 Pws Pn sm bk3 cp3 sm' w9):=Lib.hid (HR8.out.words hh3 hPl hlo3 hne3 q_ B_);have Q9:But (· = T) w5 w9:=(Q8).trans q_;clear B_ q_) | fail)
         refine nxt_but (Q9) (plan_fin ?_)
         simp only [nths,List.map_nil]
         refine wpQuiet_nil ?_
         go_wp2_with fail
         go_meet
         case rel => exact ⟨bk3,cp3,HR9⟩
     case rest =>
      obtain ⟨bk3,cp3,HR23⟩:=hcut
      go_wp2_with fail
      go_cut [] from 30 to 104 (fun wx => ∃ bk3 cp3,Hid (RS hi c T w4 Qws Qn sm bk3 cp3 sm' wx))
      case first =>
       as_aux_lemma =>
        refine wp_region_planb (· = T) (.two [1,2,3,4,5,6] 0 (.one [] 7 (.one [] 8 (.one [] 9 (.fin [])))) 7 (.one [] 0 (.one [] 8 (.one [] 9 (.fin []))))) (by kernel_rfl) (by kernel_rfl) (by kernel_rfl) ?_
        intro w5 g5
        have HR5:=Lib.hid (HR23.out.grown g5)
        clear g5
        have d3:∀ q:ButW (· = T) w5,q.w.cell? ⟨gy,k * 5 + 3,none⟩ = some (.bool xm):=ButW.cell HNy.out (HR5.out.q.cell HNy.out (HRow.out (k * 5 + 3) _ (flatI_3 HX0.out)))
        refine plan_two ?_
        simp only [nths,nth,List.map_cons,List.map_nil,List.getD_cons_zero,List.getD_cons_succ]
        repeat go_big_quiet_step (fail)
        clear d3
        refine wpQuiet_nil ⟨?_,?_⟩
        ·go_wp2_with (first | (refine load_box rfl 42 _ rfl T rfl _ _ Tryz.underlying42 rfl (by kernel_rfl) HR5.out.box ?_) | fail)
         refine nxt_but (But.refl _ _) (plan_one ?_)
         simp only [nths,nth,List.map_nil,List.getD_cons_zero,List.getD_cons_succ]
         refine wpQuiet_nil ?_
         go_wp2_with fail
         refine (Pack_r _ HPk2.out (by omega) (by omega)).mono ?_;rintro e w6 ⟨rfl,g6⟩
         have HR6:=Lib.hid (HR5.out.grown g6)
         have Q6:But (· = T) w5 w6:=(But.refl _ _).trans (But.of_grown g6)
         clear g6
         go_wp2_with fail
         refine nxt_but (Q6) (plan_one ?_)
         simp only [nths,nth,List.map_nil,List.getD_cons_zero,List.getD_cons_succ]
         refine wpQuiet_nil ?_
         go_wp2_with fail
         have hS:=rqSet w6 c sm' bk3 c.len cp3 Pws Pn (nm:Int) pk2 HR6.out.len HR6.out.holds (by rw [HCl.out];decide) (by omega) (by omega)
         rw [HQws.out,HQn.out] at hS
         refine hS.mono ?_;rintro e w7 ⟨bk3,cp3,rfl,g7,hh3,ho3⟩
         clear hS
         have hlo3:hi ≤ bk3:=by have h1:=HR6.out.lo;have h2:=HR6.out.lt;omega
         have hne3:bk3 ≠ T:=by have h1:=HR6.out.ne;have h2:=HR6.out.lt;omega
         have HR7:=Lib.hid (HR6.out.grown g7)
         have Q7:But (· = T) w5 w7:=(Q6).trans (But.of_grown g7)
         clear g7 ho3
         go_wp2_with fail
         refine nxt_but (Q7) (plan_one ?_)
         simp only [nths,nth,List.map_nil,List.getD_cons_zero,List.getD_cons_succ]
         refine wpQuiet_nil ?_
         go_wp2_with (first | (refine store_box rfl 42 _ _ rfl T _ HR7.out.box _ rfl rfl rfl (by kernel_rfl) rfl ?_;intro w9 B_ q_;have HR9:Hid (RS hi c T w4 Qws Qn sm bk3 cp3 sm' w9):=Lib.hid (HR7.out.words hh3 hQl hlo3 hne3 q_ B_);have Q9:But (· = T) w5 w9:=(Q7).trans q_;clear B_ q_) | fail)
         refine nxt_but (Q9) (plan_fin ?_)
         simp only [nths,List.map_nil]
         refine wpQuiet_nil ?_
         go_wp2_with fail
         go_meet
         case rel => exact ⟨bk3,cp3,HR9⟩
        ·go_wp2_with fail
         refine (Pack_r _ HPk2.out (by omega) (by omega)).mono ?_;rintro e w6 ⟨rfl,g6⟩
         have HR6:=Lib.hid (HR5.out.grown g6)
         have Q6:But (· = T) w5 w6:=(But.refl _ _).trans (But.of_grown g6)
         clear g6
         go_wp2_with fail
         refine nxt_but (Q6) (plan_one ?_)
         simp only [nths,nth,List.map_nil,List.getD_cons_zero]
         refine wpQuiet_nil ?_
         go_wp2_with (first | (refine load_box rfl 42 _ rfl T rfl _ _ Tryz.underlying42 rfl (by kernel_rfl) HR6.out.box ?_) | fail)
         refine nxt_but (Q6) (plan_one ?_)
         simp only [nths,nth,List.map_nil,List.getD_cons_zero,List.getD_cons_succ]
         refine wpQuiet_nil ?_
         go_wp2_with fail
         have hS:=rqSet w6 c sm' bk3 c.len cp3 Pws Pn (nm:Int) pk2 HR6.out.len HR6.out.holds (by rw [HCl.out];decide) (by omega) (by omega)
         rw [HQws.out,HQn.out] at hS
         refine hS.mono ?_;rintro e w7 ⟨bk3,cp3,rfl,g7,hh3,ho3⟩
         clear hS
         have hlo3:hi ≤ bk3:=by have h1:=HR6.out.lo;have h2:=HR6.out.lt;omega
         have hne3:bk3 ≠ T:=by have h1:=HR6.out.ne;have h2:=HR6.out.lt;omega
         have HR7:=Lib.hid (HR6.out.grown g7)
         have Q7:But (· = T) w5 w7:=(Q6).trans (But.of_grown g7)
         clear g7 ho3
         go_wp2_with fail
         refine nxt_but (Q7) (plan_one ?_)
         simp only [nths,nth,List.map_nil,List.getD_cons_zero,List.getD_cons_succ]
         refine wpQuiet_nil ?_
         go_wp2_with (first | (refine store_box rfl 42 _ _ rfl T _ HR7.out.box _ rfl rfl rfl (by kernel_rfl) rfl ?_;intro w9 B_ q_;have HR9:Hid (RS hi c T w4 Qws Qn sm bk3 cp3 sm' w9):=Lib.hid (HR7.out.words hh3 hQl hlo3 hne3 q_ B_);have Q9:But (· = T) w5 w9:=(Q7).trans q_;clear B_ q_) | fail)
         refine nxt_but (Q9) (plan_fin ?_)
         simp only [nths,List.map_nil]
         refine wpQuiet_nil ?_
         go_wp2_with fail
         go_meet
         case rel => exact ⟨bk3,cp3,HR9⟩
      case rest =>
       obtain ⟨bk4,cp4,HR24⟩:=hcut
       go_wp2_with fail
       refine ⟨⟨k + 1,(nm:Int),Lop,bk4,cp4,sm',rfl,rfl,by simp,hkm,by rw [HE.out],by rw [HE.out],?_⟩,by simp [intOf];omega⟩
       rw [HE.out]
       exact HR24.out
  ·have hlt:¬ (k:Int) < (m:Int):=by omega
   have htk:ys.take k = ys:=List.take_of_length_le (by have h1:=HYl.out;have h2:=HM.out;omega)
   rw [htk,HL2.out] at hrs hat hop
   have HLi:Hid (Inv c L.s):=Lib.hid (by have:=(layL_ok c ys HYw.out k (by have h1:=HYl.out;have h2:=HM.out;omega)).inv;rw [htk,HL2.out] at this;exact this)
   have HLol:Hid (L.s.ops.length ≤ 12):=Lib.hid (by have:=(layL_ok c ys HYw.out k (by have h1:=HYl.out;have h2:=HM.out;omega)).ops;rw [htk,HL2.out] at this;omega)
   have HRL:=Lib.hid hrs
   clear hrs htk hat hop
   have e2:wo.cell? ⟨w.heap.size,2,none⟩ = some (.slice Ac m2 capc):=HRL.out.q.cell (show ¬ w.heap.size = T by omega) (HB4.out.cell 2 _ rfl)
   go_wp2_with fail
   go_loopw [18,19,20,21] (fun s18 s19 s20 s21 wr2 => ∃ (k2 bk cp:Nat) (sl:Sl),s18 = .int .i64 (k2:Int) ∧ k2 ≤ m2 ∧ RS hi c T w4 L.ws L.n (lyC c L.s (cs.take k2)) bk cp sl wr2) (fun s18 s19 s20 s21 _ => m2 - (intOf s18).toNat)
   case atStart => exact ⟨0,bk,cp,sl,rfl,Nat.zero_le _,HRL.out⟩
   case round =>
    clear e2
    obtain ⟨k2,bk,cp,sl,rfl,hk2,hrs⟩:=hrel
    obtain ⟨wo2,hwo2⟩:∃ x,x = wr:=⟨_,rfl⟩
    subst hwo2
    have HR:=Lib.hid hrs
    have e2:wo2.cell? ⟨w.heap.size,2,none⟩ = some (.slice Ac m2 capc):=HR.out.q.cell (show ¬ w.heap.size = T by omega) (HB4.out.cell 2 _ rfl)
    clear hrs
    by_cases hk2m:k2 < m2
    ·as_aux_lemma =>
      have hlt2:(k2:Int) < (m2:Int):=by omega
      obtain rfl:=HAc.out (by omega)
      obtain ⟨⟨ck,cy,cv,cl⟩,hx2⟩:∃ y,cs[k2]? = some y:=⟨_,List.getElem?_eq_getElem (by rw [HM2.out];exact hk2m)⟩
      have HX2:=Lib.hid hx2
      have HStep2:=Lib.hid (lyC_step (c:=c) (s:=L.s) hx2)
      have HNc:Hid (¬ gc = T):=Lib.hid (fun h => by
       have h2:=World.block_lt_of_cell? w _ (HCa.out (k2 * 4) _ (flatK_0 hx2))
       simp only at h2
       omega)
      have HI1:Hid (Inv c (lyC c L.s (cs.take k2))):=Lib.hid (lyC_inv _ HLi.out)
      have hol:(lyC c L.s (cs.take k2)).ops.length ≤ 9999:=by
       have:=(lyC_len c (cs.take k2) L.s).1
       have h3:=HLol.out
       have h4:(cs.take k2).length ≤ m2:=by rw [List.length_take];omega
       omega
      obtain ⟨s2,hs2⟩:∃ x,lyC c L.s (cs.take k2) = x:=⟨_,rfl⟩
      rw [hs2] at HR HStep2 HI1 hol
      obtain ⟨⟨sb,nb,bb⟩,hb2⟩:∃ r,beginI c s2 2 ⟨ck,cy,cv,cl⟩ = r:=⟨_,rfl⟩
      have HBg:=Lib.hid hb2
      have HI2:Hid (Inv c sb):=Lib.hid (by have:=HI1.out.beginI 2 ⟨ck,cy,cv,cl⟩;rwa [hb2] at this)
      have HE2:Hid (lyC c L.s (cs.take (k2 + 1)) = sb):=Lib.hid (by rw [HStep2.out,hb2])
      clear hx2 hs2 hb2
      go_wp2_with fail
      clear e2
      go_cut [19,20,21] from 105 to 125 (fun s19 s20 s21 wx => ∃ (X:Nat) (sl':Sl),s19 = .pointer (some ⟨X,0,none⟩) ∧ s20 = .int .i64 (nb:Int) ∧ s21 = .int .i64 (bb:Int) ∧ Grown wo2 wx ∧ Hid (Box wx X (BkL c sl') ∧ RefH wx hi c sb sl' ∧ OffS sl' T ∧ X ≠ T))
      case first =>
       as_aux_lemma =>
        refine wp_region_plang (.two [0,1,2,3,4,5,6] 7 (.one [8,9,10,11] 12 (.one [] 13 (.fin [14,15]))) 12 (.one [] 7 (.one [8,9,10,11] 13 (.fin [14,15])))) (by kernel_rfl) (by kernel_rfl) (by kernel_rfl) ?_
        intro w5 g5
        have HR5:=Lib.hid (HR.out.grown g5)
        have hT5:=HR5.out.lt
        have e2:∀ q:GrW w5,q.w.cell? ⟨w.heap.size,2,none⟩ = some (.slice (some ⟨gc,oc,none⟩) m2 capc):=GrW.cell (HR5.out.q.cell (show ¬ w.heap.size = T by omega) (HB4.out.cell 2 _ rfl))
        have d0:∀ q:GrW w5,q.w.cell? ⟨gc,oc + k2 * 4,none⟩ = some (.int .i64 ck):=GrW.cell (HR5.out.q.cell HNc.out (gcell G4.out (HCa.out (k2 * 4) _ (flatK_0 HX2.out))))
        have d1:∀ q:GrW w5,q.w.cell? ⟨gc,oc + k2 * 4 + 1,none⟩ = some (.int .u64 cy):=GrW.cell (HR5.out.q.cell HNc.out (gcell G4.out (HCa.out (k2 * 4 + 1) _ (flatK_1 HX2.out))))
        have d2:∀ q:GrW w5,q.w.cell? ⟨gc,oc + k2 * 4 + 2,none⟩ = some (.int .u64 cv):=GrW.cell (HR5.out.q.cell HNc.out (gcell G4.out (HCa.out (k2 * 4 + 2) _ (flatK_2 HX2.out))))
        have d3:∀ q:GrW w5,q.w.cell? ⟨gc,oc + k2 * 4 + 3,none⟩ = some (.int .i64 cl):=GrW.cell (HR5.out.q.cell HNc.out (gcell G4.out (HCa.out (k2 * 4 + 3) _ (flatK_3 HX2.out))))
        have t7:∀ q:GrW w5,q.w.cell? ⟨T,7,none⟩ = some (.int .i64 c.t):=GrW.cell (HR5.out.box.cell 7 _ rfl)
        have t8:∀ q:GrW w5,q.w.cell? ⟨T,8,none⟩ = some (.int .i64 c.b):=GrW.cell (HR5.out.box.cell 8 _ rfl)
        have t9:∀ q:GrW w5,q.w.cell? ⟨T,9,none⟩ = some (.int .i64 c.i):=GrW.cell (HR5.out.box.cell 9 _ rfl)
        have t10:∀ q:GrW w5,q.w.cell? ⟨T,10,none⟩ = some (.int .i64 c.f):=GrW.cell (HR5.out.box.cell 10 _ rfl)
        have t11:∀ q:GrW w5,q.w.cell? ⟨T,11,none⟩ = some (.int .i64 c.k):=GrW.cell (HR5.out.box.cell 11 _ rfl)
        have t12:∀ q:GrW w5,q.w.cell? ⟨T,12,none⟩ = some (.slice sl.a1 sl.m1 sl.k1):=GrW.cell (HR5.out.box.cell 12 _ rfl)
        have t13:∀ q:GrW w5,q.w.cell? ⟨T,13,none⟩ = some (.slice sl.a2 sl.m2 sl.k2):=GrW.cell (HR5.out.box.cell 13 _ rfl)
        have t14:∀ q:GrW w5,q.w.cell? ⟨T,14,none⟩ = some (.slice sl.a3 sl.m3 sl.k3):=GrW.cell (HR5.out.box.cell 14 _ rfl)
        have t15:∀ q:GrW w5,q.w.cell? ⟨T,15,none⟩ = some (.slice sl.a4 sl.m4 sl.k4):=GrW.cell (HR5.out.box.cell 15 _ rfl)
        have t16:∀ q:GrW w5,q.w.cell? ⟨T,16,none⟩ = some (.slice sl.a5 sl.m5 sl.k5):=GrW.cell (HR5.out.box.cell 16 _ rfl)
        refine plan_two ?_
        simp only [nths,nth,List.map_cons,List.map_nil,List.getD_cons_zero,List.getD_cons_succ]
        repeat go_big_quiet_step (fail)
        clear e2 d0 d1 d2 d3 t7 t8 t9 t10 t11 t12 t13 t14 t15 t16
        refine wpQuiet_nil ⟨?_,?_⟩
        ·go_wp2_with fail
         refine (rBegin_any _ hi c s2 _ _ _ _ _ HR5.out.refs HOkc.out HI1.out (by have:=HR5.out.lo;have:=World.block_lt_of_cell? w5 _ (HR5.out.holds 0 (by rw [HR5.out.len,HCl.out];decide));simp only at this;omega) hol 2 ⟨ck,cy,cv,cl⟩ (sb,nb,bb) HBg.out).mono ?_;rintro e w7 hrt
         obtain ⟨sl',rfl,R7,g7,O7⟩:=rtell_h hrt
         have O7T:=O7 T HR5.out.off hT5
         have hT7:T < w7.heap.size:=Nat.lt_of_lt_of_le hT5 g7.2.2
         clear hrt O7
         simp only [BkL]
         go_wp2_with fail
         refine nxt_grow g7 (plan_one ?_)
         simp only [nths,nth,List.map_cons,List.map_nil,List.getD_cons_zero,List.getD_cons_succ]
         repeat go_big_quiet_step (fail)
         refine wpQuiet_nil ?_
         go_wp2_with fail
         have g8:Grown w7 (w7.alloc (.cells #[.int .i64 0,.int .i64 0,.int .i64 0,.int .i64 0,.int .i64 0,.slice none 0 0,.slice none 0 0,.slice none 0 0,.slice none 0 0,.slice none 0 0] 40)):=by go_grown
         have BX:=Box.made w7 zBk 40
         have hsz:(w7.alloc (.cells #[.int .i64 0,.int .i64 0,.int .i64 0,.int .i64 0,.int .i64 0,.slice none 0 0,.slice none 0 0,.slice none 0 0,.slice none 0 0,.slice none 0 0] 40)).heap.size = w7.heap.size + 1:=by simp
         change Box (w7.alloc (.cells #[.int .i64 0,.int .i64 0,.int .i64 0,.int .i64 0,.int .i64 0,.slice none 0 0,.slice none 0 0,.slice none 0 0,.slice none 0 0,.slice none 0 0] 40)) w7.heap.size _ at BX
         obtain ⟨X,hX⟩:∃ X,w7.heap.size = X:=⟨_,rfl⟩
         rw [hX] at BX hsz ⊢
         replace BX:=Lib.hid BX
         generalize w7.alloc (.cells #[.int .i64 0,.int .i64 0,.int .i64 0,.int .i64 0,.int .i64 0,.slice none 0 0,.slice none 0 0,.slice none 0 0,.slice none 0 0,.slice none 0 0] 40) = v8 at *
         refine nxt_stay g8 (plan_one ?_)
         simp only [nths,nth,List.map_nil,List.getD_cons_zero,List.getD_cons_succ]
         refine wpQuiet_nil ?_
         go_wp2_with (first | (refine store_box rfl 40 _ _ rfl X _ BX.out _ rfl rfl rfl (by kernel_rfl) rfl ?_;intro w9 B_ q_;have HB9:=Lib.hid B_;have q9:=Lib.hid q_;clear B_ q_) | fail)
         have gF:Grown w7 w9:=But.fresh g8 q9.out (fun i hi => by omega)
         refine nxt_stay gF (plan_fin ?_)
         simp only [nths,nth,List.map_cons,List.map_nil,List.getD_cons_zero,List.getD_cons_succ]
         repeat go_big_quiet_step (fail)
         refine wpQuiet_nil ?_
         go_wp2_with fail
         have RF:RefH w9 hi c sb sl':=(R7.grown g8).put (R7.offNew HI2.out (Nat.le_of_eq hX)) q9.out
         have hXT:X ≠ T:=by omega
         go_meet
         case rel => exact ⟨X,sl',rfl,rfl,rfl,gtr g5 (gtr g7 gF),Lib.hid ⟨HB9.out,RF,O7T,hXT⟩⟩
        ·go_wp2_with fail
         have g8:Grown w5 (w5.alloc (.cells #[.int .i64 0,.int .i64 0,.int .i64 0,.int .i64 0,.int .i64 0,.slice none 0 0,.slice none 0 0,.slice none 0 0,.slice none 0 0,.slice none 0 0] 40)):=by go_grown
         have BX:=Box.made w5 zBk 40
         have hsz:(w5.alloc (.cells #[.int .i64 0,.int .i64 0,.int .i64 0,.int .i64 0,.int .i64 0,.slice none 0 0,.slice none 0 0,.slice none 0 0,.slice none 0 0,.slice none 0 0] 40)).heap.size = w5.heap.size + 1:=by simp
         change Box (w5.alloc (.cells #[.int .i64 0,.int .i64 0,.int .i64 0,.int .i64 0,.int .i64 0,.slice none 0 0,.slice none 0 0,.slice none 0 0,.slice none 0 0,.slice none 0 0] 40)) w5.heap.size _ at BX
         obtain ⟨X,hX⟩:∃ X,w5.heap.size = X:=⟨_,rfl⟩
         rw [hX] at BX hsz ⊢
         replace BX:=Lib.hid BX
         generalize w5.alloc (.cells #[.int .i64 0,.int .i64 0,.int .i64 0,.int .i64 0,.int .i64 0,.slice none 0 0,.slice none 0 0,.slice none 0 0,.slice none 0 0,.slice none 0 0] 40) = v6 at *
         refine nxt_stay g8 (plan_one ?_)
         simp only [nths,nth,List.map_nil,List.getD_cons_zero,List.getD_cons_succ]
         refine wpQuiet_nil ?_
         have R6:=HR5.out.refs.grown g8
         have hT6:T < v6.heap.size:=Nat.lt_of_lt_of_le hT5 g8.2.2
         have OX:OffS sl X:=HR5.out.refs.offNew HI1.out (Nat.le_of_eq hX)
         go_wp2_with fail
         refine (rBegin_any _ hi c s2 _ _ _ _ _ R6 HOkc.out HI1.out (by have:=HR5.out.lo;have:=World.block_lt_of_cell? w5 _ (HR5.out.holds 0 (by rw [HR5.out.len,HCl.out];decide));simp only at this;omega) hol 2 ⟨ck,cy,cv,cl⟩ (sb,nb,bb) HBg.out).mono ?_;rintro e w7 hrt
         obtain ⟨sl',rfl,R7,g7,O7⟩:=rtell_h hrt
         have O7T:=O7 T HR5.out.off hT6
         have O7X:=O7 X OX (by omega)
         clear hrt O7
         replace BX:=Lib.hid (BX.out.grown g7)
         simp only [BkL]
         go_wp2_with fail
         refine nxt_stay (gtr g8 g7) (plan_one ?_)
         simp only [nths,nth,List.map_cons,List.map_nil,List.getD_cons_zero,List.getD_cons_succ]
         repeat go_big_quiet_step (fail)
         refine wpQuiet_nil ?_
         go_wp2_with (first | (refine store_box rfl 40 _ _ rfl X _ BX.out _ rfl rfl rfl (by kernel_rfl) rfl ?_;intro w9 B_ q_;have HB9:=Lib.hid B_;have q9:=Lib.hid q_;clear B_ q_) | fail)
         have gF:Grown w5 w9:=But.fresh (gtr g8 g7) q9.out (fun i hi => by omega)
         refine nxt_stay gF (plan_fin ?_)
         simp only [nths,nth,List.map_cons,List.map_nil,List.getD_cons_zero,List.getD_cons_succ]
         repeat go_big_quiet_step (fail)
         refine wpQuiet_nil ?_
         go_wp2_with fail
         have RF:RefH w9 hi c sb sl':=R7.put O7X q9.out
         have hXT:X ≠ T:=by omega
         go_meet
         case rel => exact ⟨X,sl',rfl,rfl,rfl,gtr g5 gF,Lib.hid ⟨HB9.out,RF,O7T,hXT⟩⟩
      case rest =>
       obtain ⟨X,sl',rfl,rfl,rfl,gx,HX⟩:=hcut
       have HR8:=Lib.hid (HR.out.grown gx)
       clear gx
       have HX1:=Lib.hid HX.out.1
       go_wp2_with (first | (refine load_box rfl 40 _ rfl X rfl _ _ Tryz.underlying40 rfl (by kernel_rfl) HX1.out ?_) | (refine store_part rfl 40 _ _ rfl T 7 rfl _ rfl (RwL c bk c.len cp L.n sl) (RwL c bk c.len cp L.n sl') HR8.out.box (Nat.le_of_ble_eq_true rfl) (by kernel_rfl) rfl rfl ?_;intro w10 B_ q_;have HR10:Hid (RS hi c T w4 L.ws L.n sb bk cp sl' w10):=Lib.hid (HR8.out.book HX.out.2.1 HX.out.2.2.1 q_ B_);clear B_ q_) | fail)
       refine ⟨⟨k2 + 1,bk,cp,sl',by simp,hk2m,?_⟩,by simp [intOf];omega⟩
       rw [HE2.out]
       exact HR10.out
    ·have hlt2:¬ (k2:Int) < (m2:Int):=by omega
     have htk:cs.take k2 = cs:=List.take_of_length_le (by have h2:=HM2.out;omega)
     rw [htk,HS2.out] at HR
     have HRr:=Lib.hid (HR4.out.but HR.out.q (show ¬ w.heap.size + 1 = T by omega))
     clear htk
     go_wp2_with (first | (refine load_box rfl 42 _ rfl T rfl _ _ Tryz.underlying42 rfl (by kernel_rfl) HR.out.box ?_) | (refine store_box rfl 42 _ _ rfl (w.heap.size + 1) _ HRr.out _ rfl rfl rfl (by kernel_rfl) rfl ?_;intro w9 B_ q_;have HB9:=Lib.hid B_;have q9:=Lib.hid q_;clear B_ q_) | fail)
     have gE:Grown w wo2:=But.fresh G4.out HR.out.q (fun i hi => by omega)
     have gF:Grown w w9:=But.fresh gE q9.out (fun i hi => by omega)
     have hb1:=HR.out.lo
     have OR:OffS sl (w.heap.size + 1):=HR.out.refs.offOld (by omega)
     have RF:RefH w9 w.heap.size c s sl:=RefS.mono (RefH.put HR.out.refs OR q9.out) (by omega)
     exact bodyPost_ret (v:=.agg (RwL c bk c.len cp L.n sl).toArray) (results_c (ty:=42) rfl rfl (load_run HB9.out 42 _ Tryz.underlying42 rfl (by kernel_rfl))) rfl ⟨bk,cp,sl,rfl,HR.out.holds.but q9.out (by omega),HR.out.len,RF,by omega,gF⟩
end Go.Proofs.YtcogckjpmmjmbaaGreat
