/- Walks in laws: their numbers stay in bounds; awake (corrielaw10). -/
import Derived.Test.YtmokcgifknmchaaGreatWkQ
import Derived.Test.YtmokcgifknmchaaGreatLaid10
import Derived.Test.YtmokcgifknmchaaGreatMSound
import Derived.Test.YtmokcgifknmchaaGreatMAwake
namespace Go.Proofs.YtmokcgifknmchaaGreat
open Go.ChangeShapes Go.WideShapes Go.ChangeAt Go.RowKit
set_option maxRecDepth 100000
set_option linter.unusedVariables false
structure KOk (y:Kd) (m:Int):Prop where
 wok:∀ i:Int,0 ≤ rd y.ws i ∧ rd y.ws i ≤ 18446744073709551615
 ok:y.x.Ok
 n0:0 ≤ y.n
 n1:y.n ≤ m
theorem arr_ok (s:St) {x:Wk} {v:Int} (h:x.Ok) (h0:0 ≤ v) (h1:v ≤ 9223372036854775807):(arrK s x v).Ok:=by
 unfold arrK
 split
 ·exact ⟨by simp only;omega,by simp only;omega,h.b0,h.b1⟩
 ·exact ⟨by simp only;omega,by simp only;omega,h.b0,h.b1⟩
theorem adv_ok (s:St) {x:Wk} (h:x.Ok):(advK s x).Ok:=by
 have h0:=h.b0;have h1:=h.b1
 exact arr_ok s (x:={ x with pred:=x.curr }) ⟨h.u0,h.u1,h.b0,h.b1⟩ (by omega) (by omega)
theorem KOk.step {c:Cf} {s:St} {y:Kd} {m:Int} (h:KOk y m):KOk (stepK c s y) (m + 1):=by
 obtain ⟨ws,n,x⟩:=y
 have w:=h.wok
 have ok:=h.ok
 have n0:=h.n0
 have n1:=h.n1
 simp only at w ok n0 n1
 have cn:∀ i,0 ≤ n + cnt ws i ∧ n + cnt ws i ≤ m + 1:=fun i => by have:=cnt_le ws i;omega
 have zb:=zPack_le
 unfold stepK
 simp only
 split
 ·exact ⟨w,ok,n0,by simp only;omega⟩
 split
 ·have hr:=w (nxtI c (headI c x.key))
  exact ⟨w,arr_ok s ⟨ok.u0,ok.u1,ok.b0,ok.b1⟩ (by dsimp only;omega) (by dsimp only;omega),(cn _).1,(cn _).2⟩
 split
 ·have hr:=w (nxtI c x.curr)
  exact ⟨w,⟨ok.u0,ok.u1,hr.1,hr.2⟩,(cn _).1,(cn _).2⟩
 split
 ·refine ⟨WOk.sw w _ _ _ (zb _ _).1 (zb _ _).2,?_,(cn _).1,(cn _).2⟩
  have h0:=ok.b0;have h1:=ok.b1
  simp only [unlK]
  split
  ·exact arr_ok s ok (by omega) (by omega)
  ·exact ⟨ok.u0,ok.u1,ok.b0,ok.b1⟩
 split
 ·refine ⟨w,?_,(cn _).1,(cn _).2⟩
  simp only [jdgK]
  unfold judK
  repeat' split
  all_goals first | exact adv_ok s ok | exact adv_ok s (x:={ x with seen:=opK s x }) ⟨ok.u0,ok.u1,ok.b0,ok.b1⟩ | exact ⟨ok.u0,ok.u1,ok.b0,ok.b1⟩
 split
 ·have h0:=ok.b0;have h1:=ok.b1
  exact ⟨WOk.sw w _ _ _ (by dsimp only;omega) (by dsimp only;omega),⟨ok.u0,ok.u1,ok.b0,ok.b1⟩,(cn _).1,(cn _).2⟩
 split
 ·refine ⟨w,?_,(cn _).1,(cn _).2⟩
  simp only [askK]
  split <;> exact ⟨ok.u0,ok.u1,ok.b0,ok.b1⟩
 split
 ·exact ⟨WOk.sw w _ _ _ (by omega) (by omega),⟨ok.u0,ok.u1,ok.b0,ok.b1⟩,(cn _).1,(cn _).2⟩
 split
 ·exact ⟨WOk.sw w _ _ _ (by omega) (by omega),⟨ok.u0,ok.u1,ok.b0,ok.b1⟩,(cn _).1,(cn _).2⟩
 ·exact ⟨w,⟨ok.u0,ok.u1,ok.b0,ok.b1⟩,n0,by simp only;omega⟩
theorem KOk.run {c:Cf} {s:St} {y:Kd} {m:Int} (h:KOk y m):∀ k:Nat,KOk (runK c s y k) (m + k)
 | 0 => by simpa [runK] using h
 | k + 1 => by
  have:=(KOk.run (c:=c) (s:=s) h k).step (c:=c) (s:=s)
  rw [show m + (((k + 1:Nat)):Int) = m + k + 1 by omega]
  exact this
theorem newK_ok (key mode:Int):(newK key mode).Ok:=⟨by simp [newK],by simp [newK],by simp [newK],by simp [newK]⟩
theorem WkAt.new {w w':World} {c:Cf} {d:Wd} {s:St} {ws:List Int} {n:Int} {x:Wk} {T:Nat} (h:WdAt w c d ws n s) (g:Grown w w') (hB:Box w' T x.l) (hT:w.heap.size ≤ T):WkAt w' c d s T ⟨ws,n,x⟩ :=
 ⟨h.grown g,hB,h.new hT,fun e => by have:=h.xlt;omega⟩
def xs10:List It:=[⟨1,0,2,false,false⟩,⟨3,0,0,false,false⟩]
def aw10:Ly:=layL (c9 0) (sortedI xs10)
def ak10:Kd:=⟨aw10.ws,aw10.n,newK 3 1⟩
def ae10:Kd:=runK (c9 0) aw10.s ak10 20
theorem ae10_x:(ae10.x.done,ae10.x.stop,ae10.x.curr,ae10.x.seen) = (true,false,0,1):=by decide +kernel
theorem ae10_n:ae10.n = 16:=by decide +kernel
theorem ae10_w:rd ae10.ws (wrdI (c9 0) 1) = 1:=by decide +kernel
theorem ae10_c:cnt ae10.ws (wrdI (c9 0) 1) = 1:=by decide +kernel
theorem ae10_l:(chainI (c9 0) ae10.ws 0).length = 1:=by decide +kernel
set_option maxHeartbeats 8000000 in
theorem awake10_at (w:World):Calls Tryz.prog 26 #[] w fun e w' => e = .returned (.bool true) ∧ Grown w w':=by
 have HW:Hid (∀ x ∈ xs10,0 ≤ x.word ∧ x.word ≤ 18446744073709551615):=Lib.hid (by unfold xs10;simp)
 have HLk:Hid (LyOk (c9 0) aw10 2):=Lib.hid (by
  have:=layL_ok (c9 0) (sortedI xs10) (fun x hx => by obtain ⟨y,hy,he⟩:=sortedI_word hx;rw [he];exact HW.out y hy) 2 (by decide +kernel)
  rwa [List.take_of_length_le (by decide +kernel)] at this)
 have HK:Hid (∀ k:Nat,KOk (runK (c9 0) aw10.s ak10 k) (6 + k)):=Lib.hid (fun k => KOk.run (y:=ak10) ⟨HLk.out.wok,newK_ok 3 1,HLk.out.n0,HLk.out.n1⟩ k)
 go_enter Tryz.func26,Tryz.ntmps26
 go_wp2_with fail
 have hgr:Grown w (w.alloc (.cells (flatI xs10).toArray 103)):=by go_grown
 have hlay:=lay10_at (w.alloc (.cells (flatI xs10).toArray 103)) 0 (by omega) (.slice (some ⟨w.heap.size,0,none⟩) 2 2) (.slice none 0 0) xs10 [] ⟨some ⟨w.heap.size,0,none⟩,w.heap.size,0,2,rfl,fun _ => rfl,fun j u hj => by rw [Nat.zero_add,World.cell?_alloc_new];simpa using hj⟩ ⟨none,0,0,0,rfl,fun h => absurd h (by decide),fun j u hj => by cases hj⟩ (by decide) (by decide) HW.out aw10 rfl aw10.s rfl
 change Calls _ _ #[.agg #[.int .u8 0,_,_]] _ _ at hlay
 have HLay:=Lib.hid hlay
 clear hlay
 refine HLay.out.mono ?_;rintro e w1 ⟨d,rfl,g1,h1,f1⟩
 have HD:=Lib.hid h1
 have G1:=Lib.hid (gtr hgr g1)
 have HInv:Hid (Inv (c9 0) aw10.s):=Lib.hid HLk.out.inv
 have HFr:Hid (∀ i,Mine d.p d.b i → w.heap.size ≤ i):=Lib.hid (fun i hi => Nat.le_trans hgr.2.2 (f1 i (.inr hi)))
 obtain ⟨c,hc⟩:∃ c,c9 0 = c:=⟨_,rfl⟩
 obtain ⟨s,hs⟩:∃ s,aw10.s = s:=⟨_,rfl⟩
 obtain ⟨y0,hy0⟩:∃ y,ak10 = y:=⟨_,rfl⟩
 have HD0:Hid (WdAt w1 c d y0.ws y0.n s):=Lib.hid (by rw [← hy0,← hc,← hs];exact HD.out)
 have HX0:Hid (y0.x = newK 3 1):=Lib.hid (by rw [← hy0];rfl)
 have HE:Hid (runK c s y0 20 = ae10):=Lib.hid (by rw [← hc,← hs,← hy0];rfl)
 have HCC:=Lib.hid hc
 rw [hc,hs,hy0] at HK
 rw [hc,hs] at HInv
 clear HLay h1 f1 g1 hgr HD hc hs hy0 HLk HW
 go_wp2_with fail
 refine (kNew _ 3 1).mono ?_;rintro e w2 ⟨rfl,g2⟩
 have ga:Grown w2 (w2.alloc (.cells (newK 3 1).l.toArray 70)):=by go_grown
 have HB:=Box.made w2 (newK 3 1).l 70
 obtain ⟨T,hT⟩:∃ T,w2.heap.size = T:=⟨_,rfl⟩
 obtain ⟨wa,hwa⟩:∃ x,w2.alloc (.cells (newK 3 1).l.toArray 70) = x:=⟨_,rfl⟩
 rw [hwa] at HB ga
 rw [hT] at HB
 have HA:Hid (WkAt wa c d s T y0):=Lib.hid (WkAt.new (x:=y0.x) HD0.out (gtr g2 ga) (by rw [HX0.out];exact HB) (by have:=g2.2.2;omega))
 have Ga:=Lib.hid (gtr G1.out (gtr g2 ga))
 have hwT:w.heap.size ≤ T:=by have h1:=G1.out.2.2;have h2:=g2.2.2;omega
 have HWA:=Lib.hid hwa
 have HTT:=Lib.hid hT
 clear g2 ga HB hwa hT G1 HD0
 simp only [newK,Wk.l] at HWA ⊢
 go_wp2_with fail
 rw [HWA.out,HTT.out]
 clear HWA HTT
 go_loopw [3] (fun s3 wr => ∃ k:Nat,s3 = .int .i64 (k:Int) ∧ k ≤ 20 ∧ But (Sk d T) wa wr ∧ WkAt wr c d s T (runK c s y0 k)) (fun s3 _ => 20 - (intOf s3).toNat)
 case atStart => exact ⟨0,rfl,Nat.zero_le _,But.refl _ _,HA.out⟩
 case round =>
  obtain ⟨k,rfl,hk,hq,hwk⟩:=hrel
  obtain ⟨wo,hwo⟩:∃ x,x = wr:=⟨_,rfl⟩
  subst hwo
  have HQ:=Lib.hid hq
  have HO:=Lib.hid (HK.out k)
  by_cases hk2:k < 20
  ·have hlt:(k:Int) < 20:=by omega
   have HS:Hid (runK c s y0 (k + 1) = stepK c s (runK c s y0 k)):=Lib.hid rfl
   obtain ⟨y,hy⟩:∃ y,runK c s y0 k = y:=⟨_,rfl⟩
   rw [hy] at hwk HO HS
   have HY:=Lib.hid hwk
   have m0:=HO.out.n0
   have m1:=HO.out.n1
   clear hwk hq hy
   go_wp2_with (first | (refine load_box rfl 70 _ rfl T rfl _ _ Tryz.underlying70 rfl (by kernel_rfl) HY.out.box ?_) | fail)
   refine (kStep _ c d s y HY.out.wd HInv.out m0 (by omega) HO.out.wok HO.out.ok _ rfl).mono ?_;rintro e w4 ⟨rfl,q4⟩
   have H4:=Lib.hid (HY.out.step q4)
   have Q4:Hid (But (Sk d T) wa w4):=Lib.hid (HQ.out.trans (but_m q4.1))
   clear q4
   go_wp2_with (first | (refine store_box rfl 70 _ _ rfl T _ H4.out.box _ rfl rfl rfl (by kernel_rfl) rfl ?_;intro w9 B_ q_;have H9:Hid (WkAt w9 c d s T (stepK c s y)):=Lib.hid (H4.out.put (x:=(stepK c s y).x) B_ q_);have Q9:Hid (But (Sk d T) wa w9):=Lib.hid (Q4.out.trans (but_r q_));clear B_ q_) | fail)
   refine ⟨⟨k + 1,by simp,hk2,Q9.out,?_⟩,by simp [intOf];omega⟩
   rw [HS.out]
   exact H9.out
  ·have hlt:¬ (k:Int) < 20:=by omega
   obtain rfl:k = 20:=by omega
   rw [HE.out] at hwk HO
   have HY:=Lib.hid hwk
   have GE:Hid (Grown w wo):=Lib.hid (But.fresh Ga.out HQ.out (fun i hi => by
    rcases hi with h | h
    ·exact HFr.out i h
    ·omega))
   obtain ⟨x1,x2,x3,x4⟩:ae10.x.done = true ∧ ae10.x.stop = false ∧ ae10.x.curr = 0 ∧ ae10.x.seen = 1:=by
    have:=ae10_x
    simp only [Prod.mk.injEq] at this
    exact this
   have c9:wo.cell? ⟨T,9,none⟩ = some (.bool true):=by rw [← x1];exact HY.out.box.cell 9 _ rfl
   have c8:wo.cell? ⟨T,8,none⟩ = some (.bool false):=by rw [← x2];exact HY.out.box.cell 8 _ rfl
   have c4:wo.cell? ⟨T,4,none⟩ = some (.int .i64 0):=by rw [← x3];exact HY.out.box.cell 4 _ rfl
   have c6:wo.cell? ⟨T,6,none⟩ = some (.int .i64 1):=by rw [← x4];exact HY.out.box.cell 6 _ rfl
   have HN:=Lib.hid ae10_n
   have HWd:Hid (rd ae10.ws (wrdI c 1) = 1):=Lib.hid (by rw [← HCC.out];exact ae10_w)
   have HCn:Hid (cnt ae10.ws (wrdI c 1) = 1):=Lib.hid (by rw [← HCC.out];exact ae10_c)
   have HLn:Hid ((chainI c ae10.ws 0).length = 1):=Lib.hid (by rw [← HCC.out];exact ae10_l)
   have HOk:Hid c.Ok:=Lib.hid (by rw [← HCC.out];exact c9_ok (by omega))
   clear hwk hq x1 x2 x3 x4
   go_wp2_with fail
   refine (wWord_any _ c d ae10.ws ae10.n s 1 HY.out.wd (by rw [HN.out];decide) (by rw [HN.out];decide)).mono ?_;rintro e w4 ⟨rfl,q4,h4⟩
   rw [HWd.out]
   rw [HCn.out,HN.out] at h4
   have H4:=Lib.hid h4
   have G4:Hid (Grown w w4):=Lib.hid (But.fresh GE.out q4 (fun i hi => HFr.out i hi))
   clear q4 h4 c9 c8 c4 c6
   go_wp2_with fail
   refine (Chain_at _ c d ae10.ws _ s H4.out HInv.out HO.out.wok 0).mono ?_;rintro e w5 ⟨v,rfl,fl,-,g5⟩
   rw [HLn.out] at fl
   have H5:=Lib.hid (H4.out.grown g5)
   have G5:=Lib.hid (gtr G4.out g5)
   clear g5
   rcases fl with ⟨h0,-⟩ | ⟨-,gl,cl,rfl,-,kl⟩
   ·cases h0
   have k5:=H5.out.k5
   clear kl
   go_wp2_with fail
   refine (Steps_at _ d.p d.b _ _ H5.out.bank).mono ?_;rintro e w6 ⟨rfl,g6⟩
   clear k5
   go_wp2_with fail
   go_ret
   exact ⟨rfl,gtr G5.out g6⟩
end Go.Proofs.YtmokcgifknmchaaGreat
