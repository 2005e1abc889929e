/- TakeTakes (corrielaw12), walked. -/
import Derived.Test.YtcogckjpmmjmbaaGreatQDGTkF
import Derived.Test.YtcogckjpmmjmbaaGreatQDGTkU
import Derived.Test.YtcogckjpmmjmbaaGreatQDMScene
namespace Go.Proofs.YtcogckjpmmjmbaaGreat
open Go.ChangeShapes Go.WideShapes Go.ChangeAt Go.RowKit
set_option maxRecDepth 100000
set_option linter.unusedVariables false
set_option maxHeartbeats 16000000 in
theorem law_TakeTakes (f:Nat) (vi vc:Value) (xs:List It) (cs:List Cal) (a:Bool) (w:World) (hf:f ≤ 255) (hi:RowO w vi (flatI xs) xs.length) (hc:RowO w vc (flatK cs) cs.length) (hw:∀ x ∈ xs,x.Wf) (hck:∀ x ∈ cs,0 ≤ x.key) :
  Calls Tryz.prog 11 #[.agg #[.int .u8 (f:Int),vi,vc],.bool a] w fun e w' => e = .returned (.bool true) ∧ Grown w w':=by
 obtain ⟨v,hv⟩:∃ v,decide (xs.length ≤ 12 ∧ cs.length ≤ 6) = v:=⟨_,rfl⟩
 obtain ⟨Ai,gi,oi,capi,rfl,hAi,hci⟩:=hi
 have hi:RowO w (.slice Ai xs.length capi) (flatI xs) xs.length:=⟨Ai,gi,oi,capi,rfl,hAi,hci⟩
 have HF:Hid (∀ W,Calls Tryz.prog 15 #[.agg #[.int .u8 (f:Int),.slice Ai xs.length capi,vc]] W fun e w' => e = .returned (.bool v) ∧ Grown W w'):=Lib.hid (fun W => by
  obtain ⟨A2,bb2,off2,cap2,rfl,-⟩:=hc
  exact Few9_at W f _ A2 _ _ _ _ v hv)
 have HV:=Lib.hid hv
 have HI:=Lib.hid hi
 have HCi:=Lib.hid hci
 have HAi:=Lib.hid hAi
 have HC:=Lib.hid hc
 have HW:=Lib.hid hw
 have HCk:=Lib.hid hck
 have HOk:=Lib.hid (c9_ok hf)
 obtain ⟨m,hm⟩:∃ m,xs.length = m:=⟨_,rfl⟩
 have HM:=Lib.hid hm
 have HB:=Lib.hid (Box.made w [.int .u8 (f:Int),.slice Ai xs.length capi,vc] 25)
 have GB:Grown w (w.alloc (.cells #[.int .u8 (f:Int),.slice Ai xs.length capi,vc] 25)):=by go_grown
 rw [hm] at HF HB GB HAi ⊢
 clear hv hi hc hw hck hAi hci hm
 go_enter Tryz.func11,Tryz.ntmps11
 go_wp2_with fail
 refine (awake12_at _).mono ?_;rintro e w1 ⟨rfl,g1⟩
 have HB1:=Lib.hid (HB.out.grown g1)
 have e0:=HB1.out.cell 0 (.int .u8 (f:Int)) rfl
 have e1:=HB1.out.cell 1 (.slice Ai m capi) rfl
 have e2:=HB1.out.cell 2 vc rfl
 have G1:=Lib.hid (gtr GB g1)
 clear GB g1 HB
 go_wp2_with fail
 refine (HF.out _).mono ?_;rintro e w2 ⟨rfl,g2⟩
 have HB2:=Lib.hid (HB1.out.grown g2)
 have G2:=Lib.hid (gtr G1.out g2)
 clear e0 e1 e2 g2 HB1 G1
 cases v
 ·go_wp2_with fail
  go_ret
  exact ⟨rfl,G2.out⟩
 ·obtain ⟨hl1,hl2⟩:=of_decide_eq_true HV.out
  obtain ⟨L,hL⟩:∃ L,layL (c9 f) (sortedI xs) = L:=⟨_,rfl⟩
  obtain ⟨s,hs⟩:∃ s,lyC (c9 f) L.s cs = s:=⟨_,rfl⟩
  have HLk:Hid (LyOk (c9 f) L xs.length):=Lib.hid (by
   have:=layL_ok (c9 f) (sortedI xs) (fun x hx => by obtain ⟨y,hy,he⟩:=sortedI_word hx;rw [he];exact (HW.out y hy).2.2) xs.length (by rw [sortedI_len];exact Nat.le_refl _)
   rwa [List.take_of_length_le (by rw [sortedI_len];exact Nat.le_refl _),hL] at this)
  have HInv:Hid (Inv (c9 f) s):=Lib.hid (by rw [← hs];exact lyC_inv _ HLk.out.inv)
  have HSc:Hid (Scn (c9 f) s L.ws (sortedI xs)):=Lib.hid (scn_of HOk.out rfl (Nat.le_trans hl1 (by simp only [c9];omega)) (Nat.le_trans hl1 (by simp only [c9];omega)) cs L hL s hs)
  have HSo:Hid (s.ops.length < 20 ∧ s.nodes.length ≤ 12):=Lib.hid (by
   have h2:=lyC_len (c9 f) cs L.s
   have h3:=HLk.out.ops
   have h4:=HLk.out.nodes
   rw [hs] at h2
   omega)
  have HLy:Hid (∀ W,Grown w W → Calls Tryz.prog 41 #[.agg #[.int .u8 (f:Int),.slice Ai m capi,vc]] W (LaidAt (c9 f) L.ws L.n s W)):=Lib.hid (fun W q => by rw [← HM.out];exact lay12_at W f hf (.slice Ai xs.length capi) vc xs cs (HI.out.grown q) (HC.out.grown q) hl1 hl2 (fun x hx => (HW.out x hx).2.2) L hL s hs)
  have HOp:Hid (∀ W,Grown w W → Calls Tryz.prog 49 #[.agg #[.int .u8 (f:Int),.slice Ai m capi,vc]] W fun e w' => ∃ v,e = .returned v ∧ RowC w' v (ints (opsK 2 s.ops)) (opsK 2 s.ops).length ∧ Grown W w' ∧ ∀ g,InRow v g → W.heap.size ≤ g):=Lib.hid (fun W q => by rw [← HM.out];exact deletes_at2 W f hf (.slice Ai xs.length capi) vc xs cs (HI.out.grown q) (HC.out.grown q) hl1 hl2 (fun x hx => (HW.out x hx).2.2) L hL s hs HSo.out.1)
  have HO0:Hid (∀ op,op ∈ opsK 2 s.ops → Own0 (c9 f) s L.ws op (ids m)):=Lib.hid (fun op ho => own0_of hf hl1 (fun x hx => (HW.out x hx).2.2.1) cs hL hs (by have h4:=HLk.out.nodes;omega) (opsK_mem HInv.out ho).1 (opsK_mem HInv.out ho).2.1 _)
  have HNc0:Hid (∀ op,op ∈ opsK 2 s.ops → ∀ a,opAt s a ≠ op):=Lib.hid (fun op ho a => (own0_of hf hl1 (fun x hx => (HW.out x hx).2.2.1) cs hL hs (by have h4:=HLk.out.nodes;omega) (opsK_mem HInv.out ho).1 (opsK_mem HInv.out ho).2.1 [a]).nc a (by simp))
  have HKy:Hid (KeyOk s):=Lib.hid (by rw [← hs,← hL];exact lyC_key cs (layL_key _ (fun x hx => by obtain ⟨y,hy,he⟩:=sortedI_key hx;rw [he];exact (HW.out y hy).1.1)) HCk.out)
  have HNd:Hid (NdOk (c9 f) s):=Lib.hid (by rw [← hs,← hL];exact lyC_nd cs (layL_nd _))
  have HPb:Hid (PB (c9 f) s L.ws (ids m)):=Lib.hid (by rw [← HM.out];exact HSc.out.pb HLk.out.wok)
  have hn0:=HLk.out.n0
  have hn1:=HLk.out.n1
  have hnx:L.n ≤ 36:=by omega
  have hml:m ≤ 12:=by rw [← HM.out];exact hl1
  clear hL hs hn1
  obtain ⟨c,hcc⟩:∃ c,c9 f = c:=⟨_,rfl⟩
  have HOl:Hid (c.ops = 48):=Lib.hid (by rw [← hcc];rfl)
  have HCt:Hid (c.t = 3):=Lib.hid (by rw [← hcc];rfl)
  rw [hcc] at HLy HLk HInv HOk HSc HO0 HPb HNd
  clear hcc
  have e0:=HB2.out.cell 0 (.int .u8 (f:Int)) rfl
  have e1:=HB2.out.cell 1 (.slice Ai m capi) rfl
  have e2:=HB2.out.cell 2 vc rfl
  go_wp2_with fail
  refine (HLy.out _ G2.out).mono ?_;rintro e w3 ⟨d,rfl,g3,h3,f3⟩
  have HD:=Lib.hid h3
  have G3:=Lib.hid (gtr G2.out g3)
  have HB3:=Lib.hid (HB2.out.grown g3)
  have HFr:Hid (∀ i,Ow d i → w.heap.size < i):=Lib.hid (fun i hi => by have h1:=f3 i hi;have h2:=HB2.out.lt;omega)
  clear e0 e1 e2 g3 h3 f3 HB2 G2
  have e0:=HB3.out.cell 0 (.int .u8 (f:Int)) rfl
  have e1:=HB3.out.cell 1 (.slice Ai m capi) rfl
  have e2:=HB3.out.cell 2 vc rfl
  go_wp2_with fail
  refine (HOp.out _ G3.out).mono ?_;rintro e w4 ⟨vo,rfl,ro,g4,nv⟩
  have HNv:Hid (∀ g,InRow vo g → ¬ Ow d g):=Lib.hid (fun g h => HD.out.ow_lt (nv g h))
  clear nv
  replace HD:=Lib.hid (HD.out.grown g4)
  replace G3:=Lib.hid (gtr G3.out g4)
  replace HB3:=Lib.hid (HB3.out.grown g4)
  clear e0 e1 e2 g4
  obtain ⟨lo,hlo⟩:∃ l,opsK 2 s.ops = l:=⟨_,rfl⟩
  rw [hlo] at ro HO0
  have HLo:=Lib.hid hlo
  clear hlo HLy HOp
  rcases lo with _ | ⟨op,lr⟩
  ·obtain ⟨Ax,capx,rfl⟩:∃ A cap,vo = .slice A 0 cap:=by
    rcases ro with ⟨rfl,-⟩ | ⟨g,cap,rfl,-⟩
    ·exact ⟨_,_,rfl⟩
    ·exact ⟨_,_,rfl⟩
   clear ro
   go_wp2_with fail
   go_ret
   exact ⟨rfl,G3.out⟩
  ·obtain ⟨go,capo,rfl,hol,hro⟩:∃ go cap,vo = .slice (some ⟨go,0,none⟩) (lr.length + 1) cap ∧ w4.cell? ⟨go,0,none⟩ = some (.int .i64 op) ∧ ∀ (j:Nat) (a:Int),(op :: lr)[j]? = some a → w4.cell? ⟨go,j,none⟩ = some (.int .i64 a):=by
    rcases ro with ⟨-,h,-⟩ | ⟨g,cap,rfl,-,hc⟩
    ·simp at h
    ·exact ⟨g,cap,rfl,hc 0 _ rfl,fun j a ha => hc j _ (by simp only [ints,List.getElem?_map,ha];rfl)⟩
   have HMem:Hid (op ∈ opsK 2 s.ops):=Lib.hid (by rw [HLo.out];exact List.mem_cons_self ..)
   obtain ⟨o32,oL,xc,hxc,hxk⟩:=opsK_mem HInv.out HMem.out
   have HOw:=Lib.hid (HO0.out op (List.mem_cons_self ..))
   have HCal:Hid (lookI s.ops op = some xc ∧ xc.kind = 2):=Lib.hid ⟨hxc,hxk⟩
   obtain ⟨nl,hnl⟩:∃ n,lr.length + 1 = n:=⟨_,rfl⟩
   have hn1:1 ≤ nl:=by omega
   have HNl:=Lib.hid hnl
   rw [hnl]
   have HRo:=Lib.hid hro
   have HNgo:Hid (¬ Ow d go):=Lib.hid (HNv.out go rfl)
   have HNc:=Lib.hid (HNc0.out op HMem.out)
   clear ro hro hnl hxc hxk HO0
   have e9:((nl:Int) == 0) = false:=by simp;omega
   have e90:=e9
   go_wp2_with fail
   refine (Sound_at _ c d L.ws L.n s HD.out HInv.out HLk.out.wok).mono ?_;rintro e w5 ⟨rfl,g5⟩
   obtain ⟨sd,hsd⟩:∃ b,sndTo c L.ws s c.b = b:=⟨_,rfl⟩
   rw [hsd]
   have HSd:=Lib.hid hsd
   have HRo2:Hid (∀ (j:Nat) (a:Int),(op :: lr)[j]? = some a → w5.cell? ⟨go,j,none⟩ = some (.int .i64 a)):=Lib.hid (fun j a h => gcell g5 (HRo.out j a h))
   clear hsd e90
   replace HD:=Lib.hid (HD.out.grown g5)
   replace G3:=Lib.hid (gtr G3.out g5)
   replace HB3:=Lib.hid (HB3.out.grown g5)
   replace hol:=gcell g5 hol
   clear g5
   cases sd
   ·as_aux_lemma =>
     go_wp2_with fail
     go_ret
     exact ⟨rfl,G3.out⟩
   ·as_aux_lemma =>
     have e0:=HB3.out.cell 0 (.int .u8 (f:Int)) rfl
     have e1:=HB3.out.cell 1 (.slice Ai m capi) rfl
     have e2:=HB3.out.cell 2 vc rfl
     go_wp2_with fail
     refine (taken_at _ f Ai gi oi m capi vc xs HM.out HAi.out (fun j u hu => gcell G3.out (HCi.out j u hu)) go nl capo (op :: lr) HNl.out HRo2.out (fun a ha => by have:=opsK_mem HInv.out (by rw [HLo.out];exact ha:a ∈ opsK 2 s.ops);have:=HOl.out;omega) hml (by have:=HNl.out;have h1:=opsK_len 2 s.ops;rw [HLo.out] at h1;simp only [List.length_cons] at h1;have:=HSo.out.1;omega)).mono ?_;rintro e w6 ⟨⟨tb,rfl⟩,g6⟩
     clear e0 e1 e2 HRo2 HRo
     replace HD:=Lib.hid (HD.out.grown g6)
     replace G3:=Lib.hid (gtr G3.out g6)
     replace HB3:=Lib.hid (HB3.out.grown g6)
     replace hol:=gcell g6 hol
     clear g6
     cases tb
     ·as_aux_lemma =>
       obtain ⟨oo,ho⟩:∃ o,lookI s.ops op = o:=⟨_,rfl⟩
       obtain ⟨⟨ck,cy,cv,cl⟩,hc⟩:∃ x,oo.getD Cal.zero = x:=⟨_,rfl⟩
       have HO:=Lib.hid ho
       have HC9:=Lib.hid hc
       have HKt:Hid (keyT s op = cy):=Lib.hid (by unfold keyT;rw [ho,hc])
       clear ho hc
       go_wp2_with fail
       go_cut [8,9] from 46 to 121 (fun s8 s9 wx => ∃ X:Nat,s8 = .pointer (some ⟨X,0,none⟩) ∧ s9 = .int .i64 (errOf oo) ∧ Grown w6 wx ∧ Hid (Box wx X [.int .i64 ck,.int .u64 cy,.int .u64 cv,.int .i64 cl]))
       case first =>
        as_aux_lemma =>
         refine wp_region_plang (.two [0,1,2,3,4,5,6] 7 (.one [8,9,10] 11 (.one [] 12 (.fin [13]))) 11 (.one [] 7 (.one [8,9,10] 12 (.fin [13])))) (by kernel_rfl) (by kernel_rfl) (by kernel_rfl) ?_
         intro w2 g2
         have H2:=Lib.hid (HD.out.grown g2)
         have d6:∀ g:GrW w2,g.w.cell? ⟨d.x,6,none⟩ = some (.pointer (some ⟨d.a.p,0,none⟩)):=GrW.cell H2.out.k6
         have d0:∀ g:GrW w2,g.w.cell? ⟨go,0,none⟩ = some (.int .i64 op):=GrW.cell (gcell g2 hol)
         refine plan_two ?_
         simp only [nths,nth,List.map_cons,List.map_nil,List.getD_cons_zero,List.getD_cons_succ]
         repeat go_big_quiet_step (fail)
         clear d6 d0
         refine wpQuiet_nil ⟨?_,?_⟩
         ·go_wp2_with fail
          have hC:=Call_at w2 c d.a s (H2.out.book) HInv.out op _ HO.out
          rw [HC9.out] at hC
          simp only [Cal.v] at hC
          refine hC.mono ?_;rintro e w3 ⟨rfl,g3⟩
          clear hC
          go_wp2_with fail
          refine nxt_stay g3 (plan_one ?_)
          simp only [nths,nth,List.map_cons,List.map_nil,List.getD_cons_zero,List.getD_cons_succ]
          repeat go_big_quiet_step (fail)
          refine wpQuiet_nil ?_
          go_wp2_with fail
          have g8:Grown w3 (w3.alloc (.cells #[.int .i64 0,.int .u64 0,.int .u64 0,.int .i64 0] 80)):=by go_grown
          have BX:=Box.made w3 [.int .i64 0,.int .u64 0,.int .u64 0,.int .i64 0] 80
          have hsz:(w3.alloc (.cells #[.int .i64 0,.int .u64 0,.int .u64 0,.int .i64 0] 80)).heap.size = w3.heap.size + 1:=by simp
          change Box (w3.alloc (.cells #[.int .i64 0,.int .u64 0,.int .u64 0,.int .i64 0] 80)) w3.heap.size _ at BX
          obtain ⟨X,hX⟩:∃ X,w3.heap.size = X:=⟨_,rfl⟩
          rw [hX] at BX hsz ⊢
          replace BX:=Lib.hid BX
          generalize w3.alloc (.cells #[.int .i64 0,.int .u64 0,.int .u64 0,.int .i64 0] 80) = v4 at *
          refine nxt_stay (gtr g3 g8) (plan_one ?_)
          simp only [nths,nth,List.map_nil,List.getD_cons_zero,List.getD_cons_succ]
          refine wpQuiet_nil ?_
          go_wp2_with (first | (refine store_box rfl 80 _ _ rfl X _ BX.out _ rfl rfl rfl (by kernel_rfl) rfl ?_;intro v9 B_ q_;have HB9:=Lib.hid B_;have q9:=Lib.hid q_;clear B_ q_) | fail)
          have gF:Grown w2 v9:=But.fresh (gtr g3 g8) q9.out (fun i hi => by have:=g3.2.2;omega)
          refine nxt_stay gF (plan_fin ?_)
          simp only [nths,nth,List.map_cons,List.map_nil,List.getD_cons_zero,List.getD_cons_succ]
          repeat go_big_quiet_step (fail)
          refine wpQuiet_nil ?_
          go_wp2_with fail
          go_meet
          case rel => exact ⟨X,rfl,rfl,gtr g2 gF,Lib.hid HB9.out⟩
         ·go_wp2_with fail
          have g8:Grown w2 (w2.alloc (.cells #[.int .i64 0,.int .u64 0,.int .u64 0,.int .i64 0] 80)):=by go_grown
          have BX:=Box.made w2 [.int .i64 0,.int .u64 0,.int .u64 0,.int .i64 0] 80
          have hsz:(w2.alloc (.cells #[.int .i64 0,.int .u64 0,.int .u64 0,.int .i64 0] 80)).heap.size = w2.heap.size + 1:=by simp
          change Box (w2.alloc (.cells #[.int .i64 0,.int .u64 0,.int .u64 0,.int .i64 0] 80)) w2.heap.size _ at BX
          obtain ⟨X,hX⟩:∃ X,w2.heap.size = X:=⟨_,rfl⟩
          rw [hX] at BX hsz ⊢
          replace BX:=Lib.hid BX
          generalize w2.alloc (.cells #[.int .i64 0,.int .u64 0,.int .u64 0,.int .i64 0] 80) = v4 at *
          refine nxt_stay g8 (plan_one ?_)
          simp only [nths,nth,List.map_nil,List.getD_cons_zero,List.getD_cons_succ]
          refine wpQuiet_nil ?_
          go_wp2_with fail
          have hC:=Call_at v4 c d.a s (H2.out.book.grown g8) HInv.out op _ HO.out
          rw [HC9.out] at hC
          simp only [Cal.v] at hC
          refine hC.mono ?_;rintro e w5 ⟨rfl,g5⟩
          clear hC
          go_wp2_with fail
          replace BX:=Lib.hid (BX.out.grown g5)
          refine nxt_stay (gtr g8 g5) (plan_one ?_)
          simp only [nths,nth,List.map_cons,List.map_nil,List.getD_cons_zero,List.getD_cons_succ]
          repeat go_big_quiet_step (fail)
          refine wpQuiet_nil ?_
          go_wp2_with (first | (refine store_box rfl 80 _ _ rfl X _ BX.out _ rfl rfl rfl (by kernel_rfl) rfl ?_;intro v9 B_ q_;have HB9:=Lib.hid B_;have q9:=Lib.hid q_;clear B_ q_) | fail)
          have gF:Grown w2 v9:=But.fresh (gtr g8 g5) q9.out (fun i hi => by omega)
          refine nxt_stay gF (plan_fin ?_)
          simp only [nths,nth,List.map_cons,List.map_nil,List.getD_cons_zero,List.getD_cons_succ]
          repeat go_big_quiet_step (fail)
          refine wpQuiet_nil ?_
          go_wp2_with fail
          go_meet
          case rel => exact ⟨X,rfl,rfl,gtr g2 gF,Lib.hid HB9.out⟩
       case rest =>
        as_aux_lemma =>
         obtain ⟨X,rfl,rfl,gx,HX⟩:=hcut
         obtain ⟨w7,hw7⟩:∃ x,x = wc:=⟨_,rfl⟩
         subst hw7
         replace HD:=Lib.hid (HD.out.grown gx)
         replace G3:=Lib.hid (gtr G3.out gx)
         replace hol:=gcell gx hol
         have c1:=HX.out.cell 1 (.int .u64 cy) rfl
         have HNew:Hid (∀ i,w7.heap.size ≤ i → ¬ Ow d i):=Lib.hid (fun i hi => HD.out.ow_lt hi)
         obtain ⟨was,hwas⟩:∃ l,prsL c L.ws s (ids m) = l:=⟨_,rfl⟩
         have hs0:sndL c L.ws s 0 ps0 (ids m) = true:=by rw [← HPb.out.sound];exact HSd.out
         have HP0:Hid (sortP (rawP c L.ws s) = was):=Lib.hid (by rw [← hwas];exact (raw_prs HPb.out hs0).2)
         have HFw:Hid (∀ ws:List Int,(rawP c ws s).length < 20):=Lib.hid (fun ws => Nat.lt_of_le_of_lt (raw_few c ws s) HSo.out.1)
         have HWl:Hid (was.length ≤ 9999):=Lib.hid (by rw [← HP0.out,sortP_len];have:=HFw.out L.ws;omega)
         obtain ⟨y0,hy0⟩:∃ y:Kt,(⟨L.ws,L.n,newT op a⟩:Kt) = y:=⟨_,rfl⟩
         obtain ⟨y1,hy1⟩:∃ y:Kt,runT c s y0 600 = y:=⟨_,rfl⟩
         obtain ⟨y2,hy2⟩:∃ y:Kt,(⟨y1.ws,y1.n,newT op (!a)⟩:Kt) = y:=⟨_,rfl⟩
         obtain ⟨y3,hy3⟩:∃ y:Kt,runT c s y2 600 = y:=⟨_,rfl⟩
         have HDC:Hid (DC c s op cy):=Lib.hid ⟨HOk.out,by omega,oL,by rw [HOl.out];omega,HKt.out⟩
         have HT:Hid (Twice c s cy was y1 y3):=Lib.hid (by rw [← hy3,← hwas];exact TJ.twice HDC.out HPb.out hs0 HOw.out.w HNc.out (by rw [ids_len];exact hml) (n:=L.n) (own:=a) (by rw [hy0];exact hy1) hy2)
         have HK1:Hid (∀ k:Nat,TOk c (runT c s y0 k) (36 + k)):=Lib.hid (fun k => TOk.run (by rw [HOl.out];omega) HNd.out (y:=y0) (by rw [← hy0];exact ⟨HLk.out.wok,⟨by simp [newT],by simp [newT],by simp [newT],by simp [newT]⟩,hn0,hnx,by simp [newT],by simp [newT],by simp [newT],by simp [newT]⟩) k)
         have HO1:Hid (TOk c y1 636):=Lib.hid (by have:=HK1.out 600;rw [hy1] at this;exact this)
         have HK2:Hid (∀ k:Nat,TOk c (runT c s y2 k) (636 + k)):=Lib.hid (fun k => TOk.run (by rw [HOl.out];omega) HNd.out (y:=y2) (by rw [← hy2];exact ⟨HO1.out.wok,⟨by simp [newT],by simp [newT],by simp [newT],by simp [newT]⟩,HO1.out.n0,HO1.out.n1,by simp [newT],by simp [newT],by simp [newT],by simp [newT]⟩) k)
         have HO3:Hid (TOk c y3 1236):=Lib.hid (by have:=HK2.out 600;rw [hy3] at this;exact this)
         have HX0:Hid (y0.x = newT op a ∧ y0.ws = L.ws ∧ y0.n = L.n):=Lib.hid (by rw [← hy0];exact ⟨rfl,rfl,rfl⟩)
         have HX2:Hid (y2.x = newT op (!a) ∧ y2.ws = y1.ws ∧ y2.n = y1.n):=Lib.hid (by rw [← hy2];exact ⟨rfl,rfl,rfl⟩)
         have HR1:=Lib.hid hy1
         have HR3:=Lib.hid hy3
         have HU:Hid (-9223372036854775808 ≤ op ∧ op ≤ 9223372036854775807):=Lib.hid (by have:=HOl.out;omega)
         have HCo:Hid (c.ops ≤ 9999):=Lib.hid (by rw [HOl.out];omega)
         clear gx hwas hs0 hy0 hy1 hy2 hy3
         -- Pairs,without
         go_wp2_with fail
         refine (Pairs_at _ c d _ _ _ HD.out HInv.out HLk.out.wok (HFw.out _)).mono ?_;rintro e w8 ⟨v10,rfl,f10,g8⟩
         rw [HP0.out] at f10
         have HF10:=Lib.hid f10
         have HL10:Hid (w7.heap.size ≤ w7.heap.size):=Lib.hid (Nat.le_refl _)
         have HL11:Hid (w7.heap.size ≤ w8.heap.size):=Lib.hid g8.2.2
         replace HD:=Lib.hid (HD.out.grown g8)
         replace G3:=Lib.hid (gtr G3.out g8)
         replace hol:=gcell g8 hol
         replace c1:=gcell g8 c1
         clear g8 f10
         go_wp2_with fail
         refine (without_at _ _ v10 was cy HF10.out HWl.out).mono ?_;rintro e w9 ⟨v11,rfl,f11,g9⟩
         have HF11:Hid (FlatAt w9 w8.heap.size v11 (flatP (woK cy was)) (woK cy was).length):=Lib.hid f11
         replace HD:=Lib.hid (HD.out.grown g9)
         replace G3:=Lib.hid (gtr G3.out g9)
         replace hol:=gcell g9 hol
         replace HF10:=Lib.hid (HF10.out.grown g9)
         have HZ9:Hid (w7.heap.size ≤ w9.heap.size):=Lib.hid (Nat.le_trans HL11.out g9.2.2)
         clear g9 f11 c1
         go_wp2_with fail
         refine (tNew _ op a).mono ?_;rintro e p1 ⟨rfl,r1⟩
         rw [← HX0.out.1]
         have HDn:Hid (WdAt p1 c d y0.ws y0.n s):=Lib.hid (by rw [HX0.out.2.1,HX0.out.2.2];exact HD.out.grown r1)
         replace G3:=Lib.hid (gtr G3.out r1)
         replace HF10:=Lib.hid (HF10.out.grown r1)
         replace HF11:=Lib.hid (HF11.out.grown r1)
         replace hol:=gcell r1 hol
         have hr1:=r1.2.2
         clear r1 HD
         go_wp2_with fail
         refine (tFinish _ c d s y0 36 (by omega) HDn.out HInv.out HNd.out HCo.out HK1.out (by rw [HX0.out.1];exact HU.out.1) (by rw [HX0.out.1];exact HU.out.2)).mono ?_;rintro e q1 ⟨rfl,k1,h1⟩
         rw [HR1.out] at h1 ⊢
         have HDa:=Lib.hid h1
         replace G3:Hid (Grown w q1):=Lib.hid (But.fresh G3.out k1 (fun i hi => Nat.le_of_lt (HFr.out i hi)))
         replace HF10:=Lib.hid (FlatAt.but HF10.out k1 (fun i hi => HNew.out i (Nat.le_trans HL10.out hi)))
         replace HF11:=Lib.hid (FlatAt.but HF11.out k1 (fun i hi => HNew.out i (Nat.le_trans HL11.out hi)))
         replace hol:=k1.cell HNgo.out hol
         have ga:Grown q1 (q1.alloc (.cells y1.x.l.toArray 90)):=by go_grown
         have hB:=Box.made q1 y1.x.l 90
         obtain ⟨T1,hT⟩:∃ T,q1.heap.size = T:=⟨_,rfl⟩
         obtain ⟨z1,hz⟩:∃ x,q1.alloc (.cells y1.x.l.toArray 90) = x:=⟨_,rfl⟩
         rw [hz] at hB ga
         rw [hT] at hB
         have HBT1:=Lib.hid hB
         have HNT1:Hid (¬ Ow d T1):=Lib.hid (HDa.out.ow_lt (by omega))
         have HD:=Lib.hid (HDa.out.grown ga)
         replace G3:=Lib.hid (gtr G3.out ga)
         replace HF10:=Lib.hid (HF10.out.grown ga)
         replace HF11:=Lib.hid (HF11.out.grown ga)
         replace hol:=gcell ga hol
         have HWA:=Lib.hid hz
         have HTT:=Lib.hid hT
         have HZ1:Hid (w7.heap.size ≤ z1.heap.size):=Lib.hid (Nat.le_trans HZ9.out (Nat.le_trans hr1 (Nat.le_trans k1.2.2 ga.2.2)))
         clear k1 h1 ga hB hz hT HDa HDn hr1
         simp only [Tk.l] at HWA ⊢
         go_wp2_with fail
         rw [HWA.out,HTT.out]
         clear HWA HTT
         refine (Pairs_at _ c d _ _ _ HD.out HInv.out HO1.out.wok (HFw.out _)).mono ?_;rintro e w12 ⟨v13,rfl,f13,g12⟩
         rw [HT.out.p1] at f13
         have HF13:=Lib.hid f13
         have HL13:Hid (w7.heap.size ≤ z1.heap.size):=Lib.hid HZ1.out
         replace HD:=Lib.hid (HD.out.grown g12)
         replace G3:=Lib.hid (gtr G3.out g12)
         replace hol:=gcell g12 hol
         replace HF10:=Lib.hid (HF10.out.grown g12)
         replace HF11:=Lib.hid (HF11.out.grown g12)
         replace HBT1:=Lib.hid (HBT1.out.grown g12)
         clear g12 f13
         go_wp2_with fail
         refine (tNew _ op (!a)).mono ?_;rintro e p2 ⟨rfl,r2⟩
         rw [← HX2.out.1]
         have HDn:Hid (WdAt p2 c d y2.ws y2.n s):=Lib.hid (by rw [HX2.out.2.1,HX2.out.2.2];exact HD.out.grown r2)
         replace G3:=Lib.hid (gtr G3.out r2)
         replace HF10:=Lib.hid (HF10.out.grown r2)
         replace HF11:=Lib.hid (HF11.out.grown r2)
         replace HF13:=Lib.hid (HF13.out.grown r2)
         replace HBT1:=Lib.hid (HBT1.out.grown r2)
         replace hol:=gcell r2 hol
         clear r2 HD
         go_wp2_with fail
         refine (tFinish _ c d s y2 636 (by omega) HDn.out HInv.out HNd.out HCo.out HK2.out (by rw [HX2.out.1];exact HU.out.1) (by rw [HX2.out.1];exact HU.out.2)).mono ?_;rintro e q2 ⟨rfl,k2,h2⟩
         rw [HR3.out] at h2 ⊢
         have HDa:=Lib.hid h2
         replace G3:Hid (Grown w q2):=Lib.hid (But.fresh G3.out k2 (fun i hi => Nat.le_of_lt (HFr.out i hi)))
         replace HF10:=Lib.hid (FlatAt.but HF10.out k2 (fun i hi => HNew.out i (Nat.le_trans HL10.out hi)))
         replace HF11:=Lib.hid (FlatAt.but HF11.out k2 (fun i hi => HNew.out i (Nat.le_trans HL11.out hi)))
         replace HF13:=Lib.hid (FlatAt.but HF13.out k2 (fun i hi => HNew.out i (Nat.le_trans HL13.out hi)))
         replace HBT1:=Lib.hid (HBT1.out.but k2 HNT1.out)
         replace hol:=k2.cell HNgo.out hol
         have ga:Grown q2 (q2.alloc (.cells y3.x.l.toArray 90)):=by go_grown
         have hB:=Box.made q2 y3.x.l 90
         obtain ⟨T2,hT⟩:∃ T,q2.heap.size = T:=⟨_,rfl⟩
         obtain ⟨z2,hz⟩:∃ x,q2.alloc (.cells y3.x.l.toArray 90) = x:=⟨_,rfl⟩
         rw [hz] at hB ga
         rw [hT] at hB
         have HBT2:=Lib.hid hB
         have HNT2:Hid (¬ Ow d T2):=Lib.hid (HDa.out.ow_lt (by omega))
         have HD:=Lib.hid (HDa.out.grown ga)
         replace G3:=Lib.hid (gtr G3.out ga)
         replace HF10:=Lib.hid (HF10.out.grown ga)
         replace HF11:=Lib.hid (HF11.out.grown ga)
         replace HF13:=Lib.hid (HF13.out.grown ga)
         replace HBT1:=Lib.hid (HBT1.out.grown ga)
         replace hol:=gcell ga hol
         have HWA:=Lib.hid hz
         have HTT:=Lib.hid hT
         clear k2 h2 ga hB hz hT HDa HDn
         simp only [Tk.l] at HWA ⊢
         have x14:z2.cell? ⟨T1,14,none⟩ = some (.bool true):=by rw [← HT.out.d1];exact HBT1.out.cell 14 _ rfl
         have x15:z2.cell? ⟨T1,15,none⟩ = some (.bool (decide ((woK cy was).length < was.length))):=by rw [← HT.out.won];exact HBT1.out.cell 15 _ rfl
         have y14:z2.cell? ⟨T2,14,none⟩ = some (.bool true):=by rw [← HT.out.d3];exact HBT2.out.cell 14 _ rfl
         have y15:z2.cell? ⟨T2,15,none⟩ = some (.bool (decide ((woK cy was).length < was.length))):=by rw [← HT.out.won,← HT.out.same];exact HBT2.out.cell 15 _ rfl
         obtain ⟨A10,c10,h10⟩:∃ A cap,v10 = .slice A was.length cap:=by
          rcases HF10.out with ⟨h0,-,h⟩ | ⟨-,g,cap,h,-⟩
          ·exact ⟨none,0,by rw [h,h0]⟩
          ·exact ⟨_,_,h⟩
         obtain ⟨A11,c11,h11⟩:∃ A cap,v11 = .slice A (woK cy was).length cap:=by
          rcases HF11.out with ⟨h0,-,h⟩ | ⟨-,g,cap,h,-⟩
          ·exact ⟨none,0,by rw [h,h0]⟩
          ·exact ⟨_,_,h⟩
         have HWl2:Hid ((woK cy was).length ≤ 9999):=Lib.hid (Nat.le_trans (List.length_filter_le _ _) HWl.out)
         obtain ⟨lw,hlw⟩:∃ n,was.length = n:=⟨_,rfl⟩
         obtain ⟨lk,hlk⟩:∃ n,(woK cy was).length = n:=⟨_,rfl⟩
         rw [hlw] at h10
         rw [hlk] at h11
         rw [hlw,hlk] at x15 y15
         have HLw:=Lib.hid hlw
         have HLk2:=Lib.hid hlk
         have ed:decide ((lk:Int) < (lw:Int)) = decide (lk < lw):=by simp
         obtain ⟨dw,hdw⟩:∃ b,decide (lk < lw) = b:=⟨_,rfl⟩
         rw [hdw] at x15 y15 ed
         have ed2:=hdw
         have e8:(dw == dw) = true:=by simp
         subst h10 h11
         clear hlw hlk hdw hol
         have HF11b:Hid (FlatAt z2 w8.heap.size (.slice A11 lk c11) (flatP (woK cy was)) (woK cy was).length):=Lib.hid HF11.out
         clear HF10 HF11
         rw [← HWA.out] at x14 x15 y14 y15
         rw [← HTT.out] at y14 y15
         go_wp2_with fail
         rw [HWA.out]
         clear x14 x15 y14 y15 HWA HTT
         refine (sameP_at _ _ _ v13 (.slice A11 lk c11) _ HF13.out HF11b.out (by have:=HWl2.out;omega)).mono ?_;rintro e w15 ⟨rfl,g15⟩
         replace HD:=Lib.hid (HD.out.grown g15)
         replace G3:=Lib.hid (gtr G3.out g15)
         replace HF11b:=Lib.hid (HF11b.out.grown g15)
         clear g15
         go_wp2_with fail
         refine (Pairs_at _ c d _ _ _ HD.out HInv.out HO3.out.wok (HFw.out _)).mono ?_;rintro e w16 ⟨v16,rfl,f16,g16⟩
         rw [HT.out.p3] at f16
         have HF16:=Lib.hid f16
         replace HD:=Lib.hid (HD.out.grown g16)
         replace G3:=Lib.hid (gtr G3.out g16)
         replace HF11b:=Lib.hid (HF11b.out.grown g16)
         clear g16 f16
         go_wp2_with fail
         refine (sameP_at _ _ _ v16 (.slice A11 lk c11) _ HF16.out HF11b.out (by have:=HWl2.out;omega)).mono ?_;rintro e w17 ⟨rfl,g17⟩
         replace HD:=Lib.hid (HD.out.grown g17)
         replace G3:=Lib.hid (gtr G3.out g17)
         clear g17
         go_wp2_with fail
         refine (Sound_at _ c d y3.ws y3.n s HD.out HInv.out HO3.out.wok).mono ?_;rintro e w18 ⟨rfl,g18⟩
         rw [HT.out.snd]
         go_wp2_with fail
         go_ret
         exact ⟨rfl,gtr G3.out g18⟩
     ·as_aux_lemma =>
       go_wp2_with fail
       go_ret
       exact ⟨rfl,G3.out⟩
end Go.Proofs.YtcogckjpmmjmbaaGreat
