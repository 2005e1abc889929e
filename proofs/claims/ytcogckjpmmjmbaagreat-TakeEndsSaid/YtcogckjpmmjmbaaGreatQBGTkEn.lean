/- TakeEnds (corrielaw12), walked. -/
import Derived.Test.YtcogckjpmmjmbaaGreatQBGTkF
import Derived.Test.YtcogckjpmmjmbaaGreatQBTkS
import Derived.Test.YtcogckjpmmjmbaaGreatQBTkQ
import Derived.Test.YtcogckjpmmjmbaaGreatQBMScene
import Derived.Test.YtcogckjpmmjmbaaGreatQBMBase
import Derived.Test.YtcogckjpmmjmbaaGreatQBGPlH
import Derived.ProofKit
import Derived.OpenShut
namespace Go.Proofs.YtcogckjpmmjmbaaGreat
open Go.ChangeShapes Go.WideShapes Go.ChangeAt Go.RowKit
set_option maxRecDepth 100000
set_option linter.unusedVariables false
set_option maxHeartbeats 16000000 in
theorem law_TakeEnds (f:Nat) (vi vc:Value) (xs:List It) (cs:List Cal) (a:Bool) (w:World) (hf:f ≤ 255) (hi:RowO w vi (flatI xs) xs.length) (hc:RowO w vc (flatK cs) cs.length) (hw:∀ x ∈ xs,x.Wf) (hck:∀ x ∈ cs,0 ≤ x.key) :
  Calls Tryz.prog 12 #[.agg #[.int .u8 (f:Int),vi,vc],.bool a] w fun e w' => e = .returned (.bool true) ∧ Grown w w':=by
 obtain ⟨v,hv⟩:∃ v,decide (xs.length ≤ 12 ∧ cs.length ≤ 6) = v:=⟨_,rfl⟩
 obtain ⟨Ai,gi,oi,capi,rfl,hAi,hci⟩:=hi
 have hi:RowO w (.slice Ai xs.length capi) (flatI xs) xs.length:=⟨Ai,gi,oi,capi,rfl,hAi,hci⟩
 have HF:Hid (∀ W,Calls Tryz.prog 15 #[.agg #[.int .u8 (f:Int),.slice Ai xs.length capi,vc]] W fun e w' => e = .returned (.bool v) ∧ Grown W w'):=Lib.hid (fun W => by
  obtain ⟨A2,bb2,off2,cap2,rfl,-⟩:=hc
  exact Few9_at W f _ A2 _ _ _ _ v hv)
 have HV:=Lib.hid hv
 have HI:=Lib.hid hi
 have HC:=Lib.hid hc
 have HW:=Lib.hid hw
 have HCk:=Lib.hid hck
 have HOk:=Lib.hid (c9_ok hf)
 obtain ⟨m,hm⟩:∃ m,xs.length = m:=⟨_,rfl⟩
 have HM:=Lib.hid hm
 have HB:=Lib.hid (Box.made w [.int .u8 (f:Int),.slice Ai xs.length capi,vc] 25)
 have GB:Grown w (w.alloc (.cells #[.int .u8 (f:Int),.slice Ai xs.length capi,vc] 25)):=by go_grown
 rw [hm] at HF HB GB ⊢
 clear hv hi hc hw hck hAi hci hm
 go_enter Tryz.func12,Tryz.ntmps12
 go_wp2_with fail
 refine (awake12_at _).mono ?_;rintro e w1 ⟨rfl,g1⟩
 have HB1:=Lib.hid (HB.out.grown g1)
 have e0:=HB1.out.cell 0 (.int .u8 (f:Int)) rfl
 have e1:=HB1.out.cell 1 (.slice Ai m capi) rfl
 have e2:=HB1.out.cell 2 vc rfl
 have G1:=Lib.hid (gtr GB g1)
 clear GB g1 HB
 go_wp2_with fail
 refine (HF.out _).mono ?_;rintro e w2 ⟨rfl,g2⟩
 have HB2:=Lib.hid (HB1.out.grown g2)
 have G2:=Lib.hid (gtr G1.out g2)
 clear e0 e1 e2 g2 HB1 G1
 cases v
 ·go_wp2_with fail
  go_ret
  exact ⟨rfl,G2.out⟩
 ·obtain ⟨hl1,hl2⟩:=of_decide_eq_true HV.out
  obtain ⟨L,hL⟩:∃ L,layL (c9 f) (sortedI xs) = L:=⟨_,rfl⟩
  obtain ⟨s,hs⟩:∃ s,lyC (c9 f) L.s cs = s:=⟨_,rfl⟩
  have HLk:Hid (LyOk (c9 f) L xs.length):=Lib.hid (by
   have:=layL_ok (c9 f) (sortedI xs) (fun x hx => by obtain ⟨y,hy,he⟩:=sortedI_word hx;rw [he];exact (HW.out y hy).2.2) xs.length (by rw [sortedI_len];exact Nat.le_refl _)
   rwa [List.take_of_length_le (by rw [sortedI_len];exact Nat.le_refl _),hL] at this)
  have HInv:Hid (Inv (c9 f) s):=Lib.hid (by rw [← hs];exact lyC_inv _ HLk.out.inv)
  have HSc:Hid (Scn (c9 f) s L.ws (sortedI xs)):=Lib.hid (scn_of HOk.out rfl (Nat.le_trans hl1 (by simp only [c9];omega)) (Nat.le_trans hl1 (by simp only [c9];omega)) cs L hL s hs)
  have HSo:Hid (s.ops.length < 20 ∧ s.nodes.length ≤ 12):=Lib.hid (by
   have h2:=lyC_len (c9 f) cs L.s
   have h3:=HLk.out.ops
   have h4:=HLk.out.nodes
   rw [hs] at h2
   omega)
  have HLy:Hid (∀ W,Grown w W → Calls Tryz.prog 41 #[.agg #[.int .u8 (f:Int),.slice Ai m capi,vc]] W (LaidAt (c9 f) L.ws L.n s W)):=Lib.hid (fun W q => by rw [← HM.out];exact lay12_at W f hf (.slice Ai xs.length capi) vc xs cs (HI.out.grown q) (HC.out.grown q) hl1 hl2 (fun x hx => (HW.out x hx).2.2) L hL s hs)
  have HOp:Hid (∀ W,Grown w W → Calls Tryz.prog 49 #[.agg #[.int .u8 (f:Int),.slice Ai m capi,vc]] W fun e w' => ∃ v,e = .returned v ∧ RowC w' v (ints (opsK 2 s.ops)) (opsK 2 s.ops).length ∧ Grown W w'):=Lib.hid (fun W q => by rw [← HM.out];exact deletes_at W f hf (.slice Ai xs.length capi) vc xs cs (HI.out.grown q) (HC.out.grown q) hl1 hl2 (fun x hx => (HW.out x hx).2.2) L hL s hs HSo.out.1)
  have HO0:Hid (∀ op,op ∈ opsK 2 s.ops → Own0 (c9 f) s L.ws op (ids m)):=Lib.hid (fun op ho => own0_of hf hl1 (fun x hx => (HW.out x hx).2.2.1) cs hL hs (by have h4:=HLk.out.nodes;omega) (opsK_mem HInv.out ho).1 (opsK_mem HInv.out ho).2.1 _)
  have HKy:Hid (KeyOk s):=Lib.hid (by rw [← hs,← hL];exact lyC_key cs (layL_key _ (fun x hx => by obtain ⟨y,hy,he⟩:=sortedI_key hx;rw [he];exact (HW.out y hy).1.1)) HCk.out)
  have HNd:Hid (NdOk (c9 f) s):=Lib.hid (by rw [← hs,← hL];exact lyC_nd cs (layL_nd _))
  have HPb:Hid (PB (c9 f) s L.ws (ids m)):=Lib.hid (by rw [← HM.out];exact HSc.out.pb HLk.out.wok)
  have hn0:=HLk.out.n0
  have hn1:=HLk.out.n1
  have hnx:L.n ≤ 36:=by omega
  have hml:m ≤ 12:=by rw [← HM.out];exact hl1
  clear hL hs hn1
  obtain ⟨c,hcc⟩:∃ c,c9 f = c:=⟨_,rfl⟩
  have HOl:Hid (c.ops = 48):=Lib.hid (by rw [← hcc];rfl)
  have HCt:Hid (c.t = 3):=Lib.hid (by rw [← hcc];rfl)
  rw [hcc] at HLy HLk HInv HOk HSc HO0 HPb HNd
  clear hcc
  have e0:=HB2.out.cell 0 (.int .u8 (f:Int)) rfl
  have e1:=HB2.out.cell 1 (.slice Ai m capi) rfl
  have e2:=HB2.out.cell 2 vc rfl
  go_wp2_with fail
  refine (HLy.out _ G2.out).mono ?_;rintro e w3 ⟨d,rfl,g3,h3,f3⟩
  have HD:=Lib.hid h3
  have G3:=Lib.hid (gtr G2.out g3)
  have HB3:=Lib.hid (HB2.out.grown g3)
  have HFr:Hid (∀ i,Ow d i → w.heap.size < i):=Lib.hid (fun i hi => by have h1:=f3 i hi;have h2:=HB2.out.lt;omega)
  clear e0 e1 e2 g3 h3 f3 HB2 G2
  have e0:=HB3.out.cell 0 (.int .u8 (f:Int)) rfl
  have e1:=HB3.out.cell 1 (.slice Ai m capi) rfl
  have e2:=HB3.out.cell 2 vc rfl
  go_wp2_with fail
  refine (HOp.out _ G3.out).mono ?_;rintro e w4 ⟨vo,rfl,ro,g4⟩
  replace HD:=Lib.hid (HD.out.grown g4)
  replace G3:=Lib.hid (gtr G3.out g4)
  replace HB3:=Lib.hid (HB3.out.grown g4)
  clear e0 e1 e2 g4
  obtain ⟨lo,hlo⟩:∃ l,opsK 2 s.ops = l:=⟨_,rfl⟩
  rw [hlo] at ro HO0
  have HLo:=Lib.hid hlo
  clear hlo HLy HOp
  rcases lo with _ | ⟨op,lr⟩
  ·obtain ⟨Ax,capx,rfl⟩:∃ A cap,vo = .slice A 0 cap:=by
    rcases ro with ⟨rfl,-⟩ | ⟨g,cap,rfl,-⟩
    ·exact ⟨_,_,rfl⟩
    ·exact ⟨_,_,rfl⟩
   clear ro
   go_wp2_with fail
   go_ret
   exact ⟨rfl,G3.out⟩
  ·obtain ⟨go,capo,rfl,hol⟩:∃ go cap,vo = .slice (some ⟨go,0,none⟩) (lr.length + 1) cap ∧ w4.cell? ⟨go,0,none⟩ = some (.int .i64 op):=by
    rcases ro with ⟨-,h,-⟩ | ⟨g,cap,rfl,-,hc⟩
    ·simp at h
    ·exact ⟨g,cap,rfl,hc 0 _ rfl⟩
   have HMem:Hid (op ∈ opsK 2 s.ops):=Lib.hid (by rw [HLo.out];exact List.mem_cons_self ..)
   obtain ⟨o32,oL,xc,hxc,hxk⟩:=opsK_mem HInv.out HMem.out
   have HOw:=Lib.hid (HO0.out op (List.mem_cons_self ..))
   have HCal:Hid (lookI s.ops op = some xc ∧ xc.kind = 2):=Lib.hid ⟨hxc,hxk⟩
   obtain ⟨nl,hnl⟩:∃ n,lr.length + 1 = n:=⟨_,rfl⟩
   have hn1:1 ≤ nl:=by omega
   have HNl:=Lib.hid hnl
   rw [hnl]
   clear ro hnl hxc hxk HLo HO0
   have e9:((nl:Int) == 0) = false:=by simp;omega
   go_wp2_with fail
   refine (Sound_at _ c d L.ws L.n s HD.out HInv.out HLk.out.wok).mono ?_;rintro e w5 ⟨rfl,g5⟩
   obtain ⟨sd,hsd⟩:∃ b,sndTo c L.ws s c.b = b:=⟨_,rfl⟩
   rw [hsd]
   have HSd:=Lib.hid hsd
   replace HD:=Lib.hid (HD.out.grown g5)
   replace G3:=Lib.hid (gtr G3.out g5)
   replace HB3:=Lib.hid (HB3.out.grown g5)
   replace hol:=gcell g5 hol
   clear g5 hsd e9
   go_wp2_with fail
   refine (tNew _ op a).mono ?_;rintro e w6 ⟨rfl,g6⟩
   have ga:Grown w6 (w6.alloc (.cells (newT op a).l.toArray 90)):=by go_grown
   have HB:=Box.made w6 (newT op a).l 90
   obtain ⟨T,hT⟩:∃ T,w6.heap.size = T:=⟨_,rfl⟩
   obtain ⟨wa,hwa⟩:∃ x,w6.alloc (.cells (newT op a).l.toArray 90) = x:=⟨_,rfl⟩
   rw [hwa] at HB ga
   rw [hT] at HB
   have HA0:Hid (TkAt wa c d s T ⟨L.ws,L.n,newT op a⟩):=Lib.hid (⟨HD.out.grown (gtr g6 ga),HB,HD.out.ow_lt (by have:=g6.2.2;omega),fun e => by have:=HD.out.xlt;have:=g6.2.2;omega,by have:=HD.out.book.o6;have:=g6.2.2;omega⟩)
   have Ga:=Lib.hid (gtr G3.out (gtr g6 ga))
   have HBa:=Lib.hid (HB3.out.grown (gtr g6 ga))
   have hwT:w.heap.size < T:=by have h1:=HB3.out.lt;have h2:=g6.2.2;omega
   have HNs:Hid (¬ So d T w.heap.size):=Lib.hid (by
    rintro (h | h)
    ·have:=HFr.out _ h;omega
    ·omega)
   have HWA:=Lib.hid hwa
   have HTT:=Lib.hid hT
   obtain ⟨y0,hy0⟩:∃ y:Kt,(⟨L.ws,L.n,newT op a⟩:Kt) = y:=⟨_,rfl⟩
   have HDC:Hid (DC c s op xc.key):=Lib.hid ⟨HOk.out,by omega,oL,by rw [HOl.out];omega,by unfold keyT;rw [HCal.out.1];rfl⟩
   have HPI:Hid (TI c s op xc.key y0 (ids m) (16 * (ids m).length + 10)):=Lib.hid (by rw [← hy0];exact .ask0 HPb.out HOw.out.w HOw.out.nc)
   have HK:Hid (∀ k:Nat,TOk c (runT c s y0 k) (36 + k)):=Lib.hid (fun k => TOk.run (by rw [HOl.out];omega) HNd.out (y:=y0) (by rw [← hy0];exact ⟨HLk.out.wok,⟨by simp [newT],by simp [newT],by simp [newT],by simp [newT]⟩,hn0,hnx,by simp [newT],by simp [newT],by simp [newT],by simp [newT]⟩) k)
   have HSnd:Hid (∀ k,sd = true → sndTo c (runT c s y0 k).ws s c.b = true):=Lib.hid (fun k h => by obtain ⟨l',b',-,-,h3⟩:=HPI.out.run HDC.out k;exact h3 (by rw [← hy0];exact HSd.out.trans h))
   have HEd:Hid ((runT c s y0 (40 * m + 40)).x.done = true):=Lib.hid (HPI.out.ends HDC.out (by rw [ids_len];omega))
   have HXo:Hid (∀ k:Nat,(runT c s y0 k).x.op = op):=Lib.hid (fun k => by rw [(runT_op c s y0 k).1,← hy0];rfl)
   rw [hy0] at HA0
   clear g6 ga HB hwa hT G3 HD hol hy0 HB3
   simp only [newT,Tk.l] at HWA ⊢
   go_wp2_with fail
   rw [HWA.out,HTT.out]
   clear HWA HTT
   go_loopw [10] (fun si wr => ∃ k:Nat,si = .int .i64 (k:Int) ∧ k ≤ 40 * m + 40 ∧ But (So d T) wa wr ∧ TkAt wr c d s T (runT c s y0 k)) (fun si _ => 40 * m + 40 - (intOf si).toNat)
   case atStart => exact ⟨0,rfl,Nat.zero_le _,But.refl _ _,HA0.out⟩
   case round =>
    clear HA0
    obtain ⟨k,rfl,hk,hq,hwk⟩:=hrel
    obtain ⟨wo,hwo⟩:∃ x,x = wr:=⟨_,rfl⟩
    subst hwo
    have HQ:=Lib.hid hq
    have HO:=Lib.hid (HK.out k)
    have e1:wo.cell? ⟨w.heap.size,1,none⟩ = some (.slice Ai m capi):=HQ.out.cell HNs.out (HBa.out.cell 1 _ rfl)
    by_cases hk2:k < 40 * m + 40
    ·as_aux_lemma =>
      have hlt:(k:Int) < 40 * (m:Int) + 40:=by omega
      have HS:Hid (runT c s y0 (k + 1) = stepT c s (runT c s y0 k)):=Lib.hid rfl
      have HSn:=Lib.hid (HSnd.out (k + 1))
      have HO2:=Lib.hid (HK.out (k + 1))
      have hop:=(HXo.out k)
      rw [HS.out] at HSn HO2
      obtain ⟨y,hy⟩:∃ y,runT c s y0 k = y:=⟨_,rfl⟩
      rw [hy] at hwk HO HS HSn HO2
      try rw [hy] at hop
      have HY:=Lib.hid hwk
      have HXop:=Lib.hid hop
      have m0:=HO.out.n0
      have m1:=HO.out.n1
      clear hwk hq hy hop
      go_wp2_with (first | (refine load_box rfl 90 _ rfl T rfl _ _ Tryz.underlying90 rfl (by kernel_rfl) HY.out.box ?_) | fail)
      refine (tStep _ c d s y HY.out.wd HInv.out HNd.out (by rw [HOl.out];omega) m0 (by omega) HO.out.wok HO.out.ok HO.out.w0 HO.out.w1 HO.out.f0 HO.out.f1 (by rw [HXop.out];omega) (by rw [HXop.out];have:=HOl.out;omega) _ rfl).mono ?_;rintro e w7 ⟨rfl,q7⟩
      have H7:Hid (TkAt w7 c d s T ⟨(stepT c s y).ws,(stepT c s y).n,y.x⟩):=Lib.hid ⟨q7.2,HY.out.box.but q7.1 HY.out.nm,HY.out.nm,HY.out.nx,HY.out.hr⟩
      have Q7:Hid (But (So d T) wa w7):=Lib.hid (HQ.out.trans (q7.1.mono fun _ h => .inl h))
      clear q7 e1
      cases sd
      ·clear HSn
       go_wp2_with (first | (refine store_box rfl 90 _ _ rfl T _ H7.out.box _ rfl rfl rfl (by kernel_rfl) rfl ?_;intro w9 B_ q_;have H9:Hid (TkAt w9 c d s T (stepT c s y)):=Lib.hid (H7.out.put (x:=(stepT c s y).x) B_ q_);have Q9:Hid (But (So d T) wa w9):=Lib.hid (Q7.out.trans (so_r q_));clear B_ q_) | fail)
       refine ⟨⟨k + 1,by simp,hk2,Q9.out,?_⟩,by simp [intOf];omega⟩
       rw [HS.out]
       exact H9.out
      ·have HSn1:=Lib.hid (HSn.out rfl)
       clear HSn
       go_wp2_with (first | (refine store_box rfl 90 _ _ rfl T _ H7.out.box _ rfl rfl rfl (by kernel_rfl) rfl ?_;intro w9 B_ q_;have H9:Hid (TkAt w9 c d s T (stepT c s y)):=Lib.hid (H7.out.put (x:=(stepT c s y).x) B_ q_);have Q9:Hid (But (So d T) wa w9):=Lib.hid (Q7.out.trans (so_r q_));clear B_ q_) | fail)
       refine (Sound_at _ c d (stepT c s y).ws (stepT c s y).n s H9.out.wd HInv.out HO2.out.wok).mono ?_;rintro e w10 ⟨rfl,g10⟩
       rw [HSn1.out]
       have H10:=Lib.hid (H9.out.grown g10)
       have Q10:=Lib.hid (Q9.out.trans (But.of_grown g10))
       clear g10
       go_wp2_with fail
       refine ⟨⟨k + 1,by simp,hk2,Q10.out,?_⟩,by simp [intOf];omega⟩
       rw [HS.out]
       exact H10.out
    ·as_aux_lemma =>
      have hlt:¬ (k:Int) < 40 * (m:Int) + 40:=by omega
      obtain rfl:k = 40 * m + 40:=by omega
      have GE:Hid (Grown w wo):=Lib.hid (But.fresh Ga.out HQ.out (fun i hi => by
       rcases hi with h | h
       ·exact Nat.le_of_lt (HFr.out i h)
       ·omega))
      have cd:wo.cell? ⟨T,14,none⟩ = some (.bool true):=by rw [← HEd.out];exact hwk.box.cell 14 _ rfl
      clear hwk hq
      go_wp2_with fail
      go_ret
      exact ⟨rfl,GE.out⟩
end Go.Proofs.YtcogckjpmmjmbaaGreat
namespace Go.Proofs.YtcogckjpmmjmbaaGreat
open Go.ChangeShapes Go.WideShapes Go.ChangeAt Go.RowKit
set_option linter.unusedVariables false
theorem own:ownKnob Tryz.prog.godebug = none:=by kernel_rfl
end Go.Proofs.YtcogckjpmmjmbaaGreat
