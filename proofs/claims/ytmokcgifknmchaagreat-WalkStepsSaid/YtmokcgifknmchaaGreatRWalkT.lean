/- The document's walk (corrieref10): Step. -/
import Derived.Test.YtmokcgifknmchaaGreatRWalkL
namespace Go.Proofs.YtmokcgifknmchaaGreat
open Go.ChangeShapes Go.WideShapes Go.ChangeAt Go.RowKit
set_option maxRecDepth 100000
set_option linter.unusedVariables false
set_option maxHeartbeats 8000000 in
theorem rStep4 (w:World) (hi:Nat) (c:Cf) (b q cap:Nat) (ws:List Int) (n:Int) (s:St) (sl:Sl) (h:RwAt w hi c b q ws s sl) (hok:c.Ok) (hl:s.ops.length ≤ 99999) (hl5:s.nodes.length ≤ 99999) (x:Wk) (q0:0 < q) (n0:0 ≤ n) (n1:n < 4611686018427387904) (hw:∀ i:Int,0 ≤ rd ws i ∧ rd ws i ≤ 18446744073709551615) (b0:0 ≤ x.next) (b1:x.next ≤ 18446744073709551615) (u0:-9223372036854775808 ≤ x.curr) (u1:x.curr ≤ 9223372036854775807) (hd:x.done = false) (hp:x.phase = 4) (z:Kd) (hz:stepK c s ⟨ws,n,x⟩ = z) :
  Calls Tryz.prog 32 #[.agg (RwL c b q cap n sl).toArray,.agg x.l.toArray] w fun e w' => RK c sl b q z w e w':=by
 obtain ⟨ov,hov⟩:∃ y,opK s x = y:=⟨_,rfl⟩
 have HO:Hid (carriedOf (lookI s.nodes x.curr) = ov):=Lib.hid hov
 obtain ⟨m,hm⟩:∃ m,may ws (nxtI c x.curr) x.next = m:=⟨_,rfl⟩
 obtain ⟨ws2,hws⟩:∃ y,sw ws (nxtI c x.curr) x.next (2 * (x.next / 2) + 1) = y:=⟨_,rfl⟩
 obtain ⟨n2,hn2⟩:∃ y,n + cnt ws (nxtI c x.curr) = y:=⟨_,rfl⟩
 have hzk:(⟨ws2,n2,{ x with phase:=1 }⟩:Kd) = z:=by rw [← hz,← hws,← hn2];unfold stepK;simp [hd,hp,mrkK]
 have HM:=Lib.hid hm
 have HWS:=Lib.hid hws
 have HN2:=Lib.hid hn2
 have hln:ws2.length = q:=by rw [← hws,length_sw];exact h.len
 have HZ:=Lib.hid hzk
 clear hz hzk hov hm hws hn2
 obtain ⟨u,hu,hg,b0,b1,b2,b3⟩:=vars4 w (RwL c b q cap n sl) x.l zWV zWk.l 42 72 42 72
 have HW_0:=Lib.hid b0
 have HX_0:=Lib.hid b1
 have HR0_0:=Lib.hid b2
 have HR1_0:=Lib.hid b3
 have HG_0:=Lib.hid hg
 have HH:=Lib.hid h
 have HOK:=Lib.hid hok
 obtain ⟨LW,hLW⟩:∃ L,RwL c b q cap n sl = L:=⟨_,rfl⟩
 obtain ⟨LX,hLX⟩:∃ L,x.l = L:=⟨_,rfl⟩
 rw [hLW,hLX] at hu ⊢
 simp only [zWk,Wk.l,zWV] at hu
 have HU:=Lib.hid hu
 have HLW:=Lib.hid hLW
 have HLX:=Lib.hid hLX
 clear hu hg b0 b1 b2 b3 h hok hLW hLX
 have hbl:b < w.heap.size:=World.block_lt_of_cell? w _ (HH.out.holds 0 (by rw [HH.out.len];exact q0))
 have t7:=HW_0.out.cell 7 _ rfl
 rw [← HU.out] at t7
 have t8:=HW_0.out.cell 8 _ rfl
 rw [← HU.out] at t8
 have t9:=HW_0.out.cell 9 _ rfl
 rw [← HU.out] at t9
 have t10:=HW_0.out.cell 10 _ rfl
 rw [← HU.out] at t10
 have t11:=HW_0.out.cell 11 _ rfl
 rw [← HU.out] at t11
 have t12:=HW_0.out.cell 12 _ rfl
 rw [← HU.out] at t12
 have t13:=HW_0.out.cell 13 _ rfl
 rw [← HU.out] at t13
 have t14:=HW_0.out.cell 14 _ rfl
 rw [← HU.out] at t14
 have t15:=HW_0.out.cell 15 _ rfl
 rw [← HU.out] at t15
 have t16:=HW_0.out.cell 16 _ rfl
 rw [← HU.out] at t16
 have x4:=HX_0.out.cell 4 _ rfl
 rw [← HU.out] at x4
 have x9:=HX_0.out.cell 9 _ rfl
 rw [← HU.out] at x9
 rw [hd] at x9
 clear hd
 go_enter Tryz.func32,Tryz.ntmps32
 go_wp2_with fail
 rw [HU.out]
 refine (rCarried_at _ hi c s _ _ _ _ _ (HH.out.grown HG_0.out).refs HOK.out hl5 x.curr ov HO.out).mono ?_;rintro e w_1 ⟨rfl,g_1⟩
 clear t7 t8 t9 t10 t11 t12 t13 t14 t15 t16 x4 x9
 have HW_1:=Lib.hid (HW_0.out.grown g_1)
 have HX_1:=Lib.hid (HX_0.out.grown g_1)
 have HR0_1:=Lib.hid (HR0_0.out.grown g_1)
 have HR1_1:=Lib.hid (HR1_0.out.grown g_1)
 have HG_1:=Lib.hid (gtr HG_0.out g_1)
 clear g_1
 have x2:=HX_1.out.cell 2 (.int .i64 x.phase) rfl
 rw [hp] at x2
 have HP:=Lib.hid hp
 clear hp
 go_wp2_with fail
 clear x2
 go_cut [7,8] from 9 to 99 (fun s7 s8 wx => ∃ (Y b2 cp2:Nat),s7 = .pointer (some ⟨Y,0,none⟩) ∧ s8 = .bool m ∧ Grown w_1 wx ∧ Hid (Box wx Y (RwL c b2 q cp2 n2 sl) ∧ Holds wx b2 ws2 ∧ (b2 = b ∨ w.heap.size + 4 ≤ b2) ∧ w.heap.size + 4 ≤ Y ∧ b2 ≠ Y))
 case first =>
  as_aux_lemma =>
   refine wp_region_plang (.two [0,1,2,3,4,5,6] 7 (.two [] 8 (.one [9,10,11] 12 (.one [] 13 (.fin [14]))) 12 (.one [] 8 (.one [9,10,11] 13 (.fin [14])))) 12 (.one [] 7 (.one [] 8 (.one [9,10,11] 13 (.fin [14]))))) (by kernel_rfl) (by kernel_rfl) (by kernel_rfl) ?_
   intro w_2 g_2
   have HW_2:=Lib.hid (HW_1.out.grown g_2)
   have HX_2:=Lib.hid (HX_1.out.grown g_2)
   have HR0_2:=Lib.hid (HR0_1.out.grown g_2)
   have HR1_2:=Lib.hid (HR1_1.out.grown g_2)
   have HG_2:=Lib.hid (gtr HG_1.out g_2)
   have hs0:w.heap.size + 4 ≤ w_2.heap.size:=by have:=HR1_2.out.lt;omega
   have HH9_2:=Lib.hid (HH.out.grown HG_2.out).holds
   have x4:∀ g:GrW w_2,g.w.cell? ⟨(w.heap.size + 1),4,none⟩ = some (.int .i64 x.curr):=GrW.cell (HX_2.out.cell 4 _ rfl)
   have x5:∀ g:GrW w_2,g.w.cell? ⟨(w.heap.size + 1),5,none⟩ = some (.int .u64 x.next):=GrW.cell (HX_2.out.cell 5 _ rfl)
   refine plan_two ?_
   try simp only [Act.put]
   simp only [nths,nth,List.map_cons,List.map_nil,List.getD_cons_zero,List.getD_cons_succ]
   refine wpQuiet_load_box rfl 42 _ rfl w.heap.size rfl _ _ Tryz.underlying42 rfl (by kernel_rfl) (Box.grw HW_2.out) ?_
   simp only [Act.put,List.setIfInBounds_toArray,List.set_cons_succ,List.set_cons_zero]
   repeat go_big_quiet_step (fail)
   clear  x4 x5
   refine wpQuiet_nil ⟨?_,?_⟩
   ·go_wp2_with fail
    refine (refMark_any _ _ b0 b1).mono ?_;rintro e v_0 ⟨rfl,g_v_0⟩
    have gc_0:Grown w_2 v_0:=g_v_0
    have hs_0:w_2.heap.size ≤ v_0.heap.size:=g_v_0.2.2
    go_wp2_with fail
    refine nxt_stay gc_0 (plan_two ?_)
    simp only [nths,nth,List.map_nil,List.getD_cons_zero,List.getD_cons_succ]
    refine wpQuiet_nil ⟨?_,?_⟩
    ·go_wp2_with fail
     have hQ:=rqLink _ c sl b q cap ws n x.curr x.next (2 * (x.next / 2) + 1) HH.out.len (HH9_2.out.grown gc_0) HH.out.few n0 n1
     rw [HWS.out,HN2.out,HM.out] at hQ
     refine hQ.mono ?_;rintro e v_1 ⟨b2,cp2,rfl,g_v_1,hh2,ho2⟩
     clear hQ
     have hb2:b2 < v_1.heap.size:=World.block_lt_of_cell? v_1 _ (hh2 0 (by rw [hln];exact q0))
     replace hh2:=Lib.hid hh2
     have gc_1:Grown w_2 v_1:=gtr gc_0 g_v_1
     have hs_1:v_0.heap.size ≤ v_1.heap.size:=g_v_1.2.2
     simp only [RwL]
     go_wp2_with fail
     refine nxt_stay gc_1 (plan_one ?_)
     simp only [nths,nth,List.map_cons,List.map_nil,List.getD_cons_zero,List.getD_cons_succ]
     repeat go_big_quiet_step (fail)
     refine wpQuiet_nil ?_
     go_wp2_with fail
     have g8:Grown v_1 (v_1.alloc (.cells #[.int .i64 0,.int .i64 0,.int .i64 0,.int .i64 0,.int .i64 0,.slice none 0 0,.int .i64 0,.int .i64 0,.int .i64 0,.int .i64 0,.int .i64 0,.int .i64 0,.slice none 0 0,.slice none 0 0,.slice none 0 0,.slice none 0 0,.slice none 0 0] 42)):=by go_grown
     have BX:=Box.made v_1 zWV 42
     have hsz:(v_1.alloc (.cells #[.int .i64 0,.int .i64 0,.int .i64 0,.int .i64 0,.int .i64 0,.slice none 0 0,.int .i64 0,.int .i64 0,.int .i64 0,.int .i64 0,.int .i64 0,.int .i64 0,.slice none 0 0,.slice none 0 0,.slice none 0 0,.slice none 0 0,.slice none 0 0] 42)).heap.size = v_1.heap.size + 1:=by simp
     change Box (v_1.alloc (.cells #[.int .i64 0,.int .i64 0,.int .i64 0,.int .i64 0,.int .i64 0,.slice none 0 0,.int .i64 0,.int .i64 0,.int .i64 0,.int .i64 0,.int .i64 0,.int .i64 0,.slice none 0 0,.slice none 0 0,.slice none 0 0,.slice none 0 0,.slice none 0 0] 42)) v_1.heap.size _ at BX
     obtain ⟨Y,hY⟩:∃ X,v_1.heap.size = X:=⟨_,rfl⟩
     rw [hY] at BX hsz ⊢
     replace BX:=Lib.hid BX
     generalize v_1.alloc (.cells #[.int .i64 0,.int .i64 0,.int .i64 0,.int .i64 0,.int .i64 0,.slice none 0 0,.int .i64 0,.int .i64 0,.int .i64 0,.int .i64 0,.int .i64 0,.int .i64 0,.slice none 0 0,.slice none 0 0,.slice none 0 0,.slice none 0 0,.slice none 0 0] 42) = v_2 at *
     have gc_2:Grown w_2 v_2:=gtr gc_1 g8
     replace hh2:=Lib.hid (hh2.out.grown g8)
     refine nxt_stay gc_2 (plan_one ?_)
     simp only [nths,nth,List.map_nil,List.getD_cons_zero,List.getD_cons_succ]
     refine wpQuiet_nil ?_
     go_wp2_with (first | (refine store_box rfl 42 _ _ rfl Y _ BX.out _ rfl rfl rfl (by kernel_rfl) rfl ?_;intro v_9 B_ q_;have HB9:=Lib.hid B_;have q9:=Lib.hid q_;clear B_ q_) | fail)
     have gF:Grown w_2 v_9:=But.fresh gc_2 q9.out (fun i hi => by omega)
     refine nxt_stay gF (plan_fin ?_)
     simp only [nths,nth,List.map_cons,List.map_nil,List.getD_cons_zero,List.getD_cons_succ]
     repeat go_big_quiet_step (fail)
     refine wpQuiet_nil ?_
     go_wp2_with fail
     go_meet
     case rel => exact ⟨Y,b2,cp2,rfl,rfl,gtr g_2 gF,Lib.hid ⟨HB9.out,hh2.out.but q9.out (by omega),by omega,by omega,by omega⟩⟩
    ·go_wp2_with fail
     have g8:Grown v_0 (v_0.alloc (.cells #[.int .i64 0,.int .i64 0,.int .i64 0,.int .i64 0,.int .i64 0,.slice none 0 0,.int .i64 0,.int .i64 0,.int .i64 0,.int .i64 0,.int .i64 0,.int .i64 0,.slice none 0 0,.slice none 0 0,.slice none 0 0,.slice none 0 0,.slice none 0 0] 42)):=by go_grown
     have BX:=Box.made v_0 zWV 42
     have hsz:(v_0.alloc (.cells #[.int .i64 0,.int .i64 0,.int .i64 0,.int .i64 0,.int .i64 0,.slice none 0 0,.int .i64 0,.int .i64 0,.int .i64 0,.int .i64 0,.int .i64 0,.int .i64 0,.slice none 0 0,.slice none 0 0,.slice none 0 0,.slice none 0 0,.slice none 0 0] 42)).heap.size = v_0.heap.size + 1:=by simp
     change Box (v_0.alloc (.cells #[.int .i64 0,.int .i64 0,.int .i64 0,.int .i64 0,.int .i64 0,.slice none 0 0,.int .i64 0,.int .i64 0,.int .i64 0,.int .i64 0,.int .i64 0,.int .i64 0,.slice none 0 0,.slice none 0 0,.slice none 0 0,.slice none 0 0,.slice none 0 0] 42)) v_0.heap.size _ at BX
     obtain ⟨Y,hY⟩:∃ X,v_0.heap.size = X:=⟨_,rfl⟩
     rw [hY] at BX hsz ⊢
     replace BX:=Lib.hid BX
     generalize v_0.alloc (.cells #[.int .i64 0,.int .i64 0,.int .i64 0,.int .i64 0,.int .i64 0,.slice none 0 0,.int .i64 0,.int .i64 0,.int .i64 0,.int .i64 0,.int .i64 0,.int .i64 0,.slice none 0 0,.slice none 0 0,.slice none 0 0,.slice none 0 0,.slice none 0 0] 42) = v_1 at *
     have gc_1:Grown w_2 v_1:=gtr gc_0 g8
     refine nxt_stay gc_1 (plan_one ?_)
     simp only [nths,nth,List.map_nil,List.getD_cons_zero,List.getD_cons_succ]
     refine wpQuiet_nil ?_
     go_wp2_with fail
     have hQ:=rqLink _ c sl b q cap ws n x.curr x.next (2 * (x.next / 2) + 1) HH.out.len (HH9_2.out.grown gc_1) HH.out.few n0 n1
     rw [HWS.out,HN2.out,HM.out] at hQ
     refine hQ.mono ?_;rintro e v_2 ⟨b2,cp2,rfl,g_v_2,hh2,ho2⟩
     clear hQ
     have hb2:b2 < v_2.heap.size:=World.block_lt_of_cell? v_2 _ (hh2 0 (by rw [hln];exact q0))
     replace hh2:=Lib.hid hh2
     have gc_2:Grown w_2 v_2:=gtr gc_1 g_v_2
     have hs_2:v_1.heap.size ≤ v_2.heap.size:=g_v_2.2.2
     replace BX:=Lib.hid (BX.out.grown g_v_2)
     simp only [RwL]
     go_wp2_with fail
     refine nxt_stay gc_2 (plan_one ?_)
     simp only [nths,nth,List.map_cons,List.map_nil,List.getD_cons_zero,List.getD_cons_succ]
     repeat go_big_quiet_step (fail)
     refine wpQuiet_nil ?_
     go_wp2_with (first | (refine store_box rfl 42 _ _ rfl Y _ BX.out _ rfl rfl rfl (by kernel_rfl) rfl ?_;intro v_9 B_ q_;have HB9:=Lib.hid B_;have q9:=Lib.hid q_;clear B_ q_) | fail)
     have gF:Grown w_2 v_9:=But.fresh gc_2 q9.out (fun i hi => by omega)
     refine nxt_stay gF (plan_fin ?_)
     simp only [nths,nth,List.map_cons,List.map_nil,List.getD_cons_zero,List.getD_cons_succ]
     repeat go_big_quiet_step (fail)
     refine wpQuiet_nil ?_
     go_wp2_with fail
     go_meet
     case rel => exact ⟨Y,b2,cp2,rfl,rfl,gtr g_2 gF,Lib.hid ⟨HB9.out,hh2.out.but q9.out (by omega),by omega,by omega,by omega⟩⟩
   ·go_wp2_with fail
    have g8:Grown w_2 (w_2.alloc (.cells #[.int .i64 0,.int .i64 0,.int .i64 0,.int .i64 0,.int .i64 0,.slice none 0 0,.int .i64 0,.int .i64 0,.int .i64 0,.int .i64 0,.int .i64 0,.int .i64 0,.slice none 0 0,.slice none 0 0,.slice none 0 0,.slice none 0 0,.slice none 0 0] 42)):=by go_grown
    have BX:=Box.made w_2 zWV 42
    have hsz:(w_2.alloc (.cells #[.int .i64 0,.int .i64 0,.int .i64 0,.int .i64 0,.int .i64 0,.slice none 0 0,.int .i64 0,.int .i64 0,.int .i64 0,.int .i64 0,.int .i64 0,.int .i64 0,.slice none 0 0,.slice none 0 0,.slice none 0 0,.slice none 0 0,.slice none 0 0] 42)).heap.size = w_2.heap.size + 1:=by simp
    change Box (w_2.alloc (.cells #[.int .i64 0,.int .i64 0,.int .i64 0,.int .i64 0,.int .i64 0,.slice none 0 0,.int .i64 0,.int .i64 0,.int .i64 0,.int .i64 0,.int .i64 0,.int .i64 0,.slice none 0 0,.slice none 0 0,.slice none 0 0,.slice none 0 0,.slice none 0 0] 42)) w_2.heap.size _ at BX
    obtain ⟨Y,hY⟩:∃ X,w_2.heap.size = X:=⟨_,rfl⟩
    rw [hY] at BX hsz ⊢
    replace BX:=Lib.hid BX
    generalize w_2.alloc (.cells #[.int .i64 0,.int .i64 0,.int .i64 0,.int .i64 0,.int .i64 0,.slice none 0 0,.int .i64 0,.int .i64 0,.int .i64 0,.int .i64 0,.int .i64 0,.int .i64 0,.slice none 0 0,.slice none 0 0,.slice none 0 0,.slice none 0 0,.slice none 0 0] 42) = v_0 at *
    have gc_0:Grown w_2 v_0:=g8
    refine nxt_stay gc_0 (plan_one ?_)
    simp only [nths,nth,List.map_nil,List.getD_cons_zero,List.getD_cons_succ]
    refine wpQuiet_nil ?_
    go_wp2_with fail
    refine (refMark_any _ _ b0 b1).mono ?_;rintro e v_1 ⟨rfl,g_v_1⟩
    have gc_1:Grown w_2 v_1:=gtr gc_0 g_v_1
    have hs_1:v_0.heap.size ≤ v_1.heap.size:=g_v_1.2.2
    replace BX:=Lib.hid (BX.out.grown g_v_1)
    go_wp2_with fail
    refine nxt_stay gc_1 (plan_one ?_)
    simp only [nths,nth,List.map_nil,List.getD_cons_zero,List.getD_cons_succ]
    refine wpQuiet_nil ?_
    go_wp2_with fail
    have hQ:=rqLink _ c sl b q cap ws n x.curr x.next (2 * (x.next / 2) + 1) HH.out.len (HH9_2.out.grown gc_1) HH.out.few n0 n1
    rw [HWS.out,HN2.out,HM.out] at hQ
    refine hQ.mono ?_;rintro e v_2 ⟨b2,cp2,rfl,g_v_2,hh2,ho2⟩
    clear hQ
    have hb2:b2 < v_2.heap.size:=World.block_lt_of_cell? v_2 _ (hh2 0 (by rw [hln];exact q0))
    replace hh2:=Lib.hid hh2
    have gc_2:Grown w_2 v_2:=gtr gc_1 g_v_2
    have hs_2:v_1.heap.size ≤ v_2.heap.size:=g_v_2.2.2
    replace BX:=Lib.hid (BX.out.grown g_v_2)
    simp only [RwL]
    go_wp2_with fail
    refine nxt_stay gc_2 (plan_one ?_)
    simp only [nths,nth,List.map_cons,List.map_nil,List.getD_cons_zero,List.getD_cons_succ]
    repeat go_big_quiet_step (fail)
    refine wpQuiet_nil ?_
    go_wp2_with (first | (refine store_box rfl 42 _ _ rfl Y _ BX.out _ rfl rfl rfl (by kernel_rfl) rfl ?_;intro v_9 B_ q_;have HB9:=Lib.hid B_;have q9:=Lib.hid q_;clear B_ q_) | fail)
    have gF:Grown w_2 v_9:=But.fresh gc_2 q9.out (fun i hi => by omega)
    refine nxt_stay gF (plan_fin ?_)
    simp only [nths,nth,List.map_cons,List.map_nil,List.getD_cons_zero,List.getD_cons_succ]
    repeat go_big_quiet_step (fail)
    refine wpQuiet_nil ?_
    go_wp2_with fail
    go_meet
    case rel => exact ⟨Y,b2,cp2,rfl,rfl,gtr g_2 gF,Lib.hid ⟨HB9.out,hh2.out.but q9.out (by omega),by omega,by omega,by omega⟩⟩
 case rest =>
 obtain ⟨Y,b2,cp2,rfl,rfl,gx,HC⟩:=hcut
 obtain ⟨w_9,hw9⟩:∃ x,x = wc:=⟨_,rfl⟩
 subst hw9
 have ho:=HC.out.2.2.1
 have hY:=HC.out.2.2.2.1
 have hbY:=HC.out.2.2.2.2
 have hYl:=HC.out.1.lt
 have HA_9:=Lib.hid HC.out.1
 have HQ_9:=Lib.hid HC.out.2.1
 have HW_9:=Lib.hid (HW_1.out.grown gx)
 have HX_9:=Lib.hid (HX_1.out.grown gx)
 have HR0_9:=Lib.hid (HR0_1.out.grown gx)
 have HR1_9:=Lib.hid (HR1_1.out.grown gx)
 have HG_9:=Lib.hid (gtr HG_1.out gx)
 clear gx HC
 go_wp2_with (first | (refine store_cell rfl 3 _ _ rfl (w.heap.size + 1) 2 rfl (.int .i64 1) rfl rfl (x:Wk).l ({ x with phase:=1 }:Wk).l HX_9.out (Nat.le_of_ble_eq_true rfl) (by kernel_rfl) rfl ?_;intro w_10 B_ q_;have HX_10:=Lib.hid B_;have HW_10:=Lib.hid (HW_9.out.but q_ (by omega));have HR0_10:=Lib.hid (HR0_9.out.but q_ (by omega));have HR1_10:=Lib.hid (HR1_9.out.but q_ (by omega));have HA_10:=Lib.hid (HA_9.out.but q_ (by omega));have HG_10:Hid (Grown w w_10):=Lib.hid (But.fresh HG_9.out q_ (fun i hi => by omega));have HQ_10:=Lib.hid (HQ_9.out.but q_ (by omega));clear B_ q_) | fail)
 refine wp_region_planb (fun i => i = (w.heap.size + 1 + 1) ∨ i = (w.heap.size + 1 + 1 + 1)) (.one [0,1] 2 (.one [] 3 (.fin []))) (by kernel_rfl) (by kernel_rfl) (by kernel_rfl) ?_
 intro w_11 g_11
 have HQ_11:=Lib.hid (HQ_10.out.grown g_11)
 have HW_11:=Lib.hid (HW_10.out.grown g_11)
 have HX_11:=Lib.hid (HX_10.out.grown g_11)
 have HR0_11:=Lib.hid (HR0_10.out.grown g_11)
 have HR1_11:=Lib.hid (HR1_10.out.grown g_11)
 have HA_11:=Lib.hid (HA_10.out.grown g_11)
 have HG_11:=Lib.hid (gtr HG_10.out g_11)
 refine plan_one ?_
 try simp only [Act.put]
 simp only [nths,nth,List.map_cons,List.map_nil,List.getD_cons_zero,List.getD_cons_succ]
 refine wpQuiet_load_box rfl 42 _ rfl Y rfl _ _ Tryz.underlying42 rfl (by kernel_rfl) (Box.butw HA_11.out (by rintro (h | h) <;> omega)) ?_
 simp only [Act.put,List.setIfInBounds_toArray,List.set_cons_succ,List.set_cons_zero]
 refine wpQuiet_load_box rfl 72 _ rfl (w.heap.size + 1) rfl _ _ Tryz.underlying72 rfl (by kernel_rfl) (Box.butw HX_11.out (by rintro (h | h) <;> omega)) ?_
 simp only [Act.put,List.setIfInBounds_toArray,List.set_cons_succ,List.set_cons_zero]
 refine wpQuiet_nil ?_
 go_wp2_with (first | (refine store_box rfl 42 _ _ rfl (w.heap.size + 1 + 1) _ HR0_11.out _ rfl rfl rfl (by kernel_rfl) rfl ?_;intro w_12 B_ q_;have HE0:=Lib.hid B_;have QE0:=Lib.hid q_;have HR1_12:=Lib.hid (HR1_11.out.but q_ (by omega));clear B_ q_) | fail)
 refine nxt_but (QE0.out.mono fun i hi => .inl hi) (plan_one ?_)
 simp only [nths,nth,List.map_nil,List.getD_cons_zero,List.getD_cons_succ]
 refine wpQuiet_nil ?_
 go_wp2_with (first | (refine store_box rfl 72 _ _ rfl (w.heap.size + 1 + 1 + 1) _ HR1_12.out _ rfl rfl rfl (by kernel_rfl) rfl ?_;intro w_13 B_ q_;have HE1:=Lib.hid B_;have QE1:=Lib.hid q_;have HE0_13:=Lib.hid (HE0.out.but q_ (by omega));clear B_ q_) | fail)
 have QE:But (fun i => i = (w.heap.size + 1 + 1) ∨ i = (w.heap.size + 1 + 1 + 1)) w_11 w_13:=(QE0.out.mono fun i hi => .inl hi).trans (QE1.out.mono fun i hi => .inr hi)
 refine nxt_but QE (plan_fin ?_)
 simp only [nths,List.map_nil]
 refine wpQuiet_nil ?_
 go_wp2_with fail
 exact bodyPost_ret (v:=.tuple #[.agg (RwL c b2 q cp2 (n2) sl).toArray,.agg (({ x with phase:=1 }:Wk)).l.toArray]) (results_cc (ty:=42) (ty':=72) rfl rfl (load_run HE0_13.out 42 _ Tryz.underlying42 rfl (by kernel_rfl)) rfl (load_run HE1.out 72 _ Tryz.underlying72 rfl (by kernel_rfl))) rfl ⟨b2,cp2,by rw [← HZ.out],But.fresh HG_11.out QE (fun i hi => by rcases hi with h | h <;> omega),by rw [← HZ.out];exact HQ_11.out.but QE (by rintro (h | h) <;> omega),by omega⟩
set_option maxHeartbeats 8000000 in
theorem rStep5 (w:World) (hi:Nat) (c:Cf) (b q cap:Nat) (ws:List Int) (n:Int) (s:St) (sl:Sl) (h:RwAt w hi c b q ws s sl) (hok:c.Ok) (hl:s.ops.length ≤ 99999) (hl5:s.nodes.length ≤ 99999) (x:Wk) (q0:0 < q) (n0:0 ≤ n) (n1:n < 4611686018427387904) (hw:∀ i:Int,0 ≤ rd ws i ∧ rd ws i ≤ 18446744073709551615) (b0:0 ≤ x.next) (b1:x.next ≤ 18446744073709551615) (u0:-9223372036854775808 ≤ x.curr) (u1:x.curr ≤ 9223372036854775807) (hd:x.done = false) (hp:x.phase = 5) (z:Kd) (hz:stepK c s ⟨ws,n,x⟩ = z) :
  Calls Tryz.prog 32 #[.agg (RwL c b q cap n sl).toArray,.agg x.l.toArray] w fun e w' => RK c sl b q z w e w':=by
 have hln:ws.length = q:=h.len
 obtain ⟨ov,hov⟩:∃ y,opK s x = y:=⟨_,rfl⟩
 have HO:Hid (carriedOf (lookI s.nodes x.curr) = ov):=Lib.hid hov
 obtain ⟨r,hr⟩:∃ y,rd ws (wrdI c x.seen) = y:=⟨_,rfl⟩
 obtain ⟨n2,hn2⟩:∃ y,n + cnt ws (wrdI c x.seen) = y:=⟨_,rfl⟩
 have hzk:(⟨ws,n2,if r = 1 then { x with phase:=7 } else { x with seen:=-1,phase:=6 }⟩:Kd) = z:=by rw [← hz,← hn2,← hr];unfold stepK;simp [hd,hp,askK]
 have HRr:=Lib.hid hr
 have HN2:=Lib.hid hn2
 clear hz hov hr hn2
 by_cases hr1:r = 1
 ·rw [if_pos hr1] at hzk
  have HZ:=Lib.hid hzk
  clear hzk
  have hr11:(r == 1) = true:=by simpa using hr1
  have hr12:decide (r = 1) = true:=by simpa using hr1
  have hr13:(r != 1) = false:=by simpa using hr1
  clear hr1
  obtain ⟨u,hu,hg,b0,b1,b2,b3⟩:=vars4 w (RwL c b q cap n sl) x.l zWV zWk.l 42 72 42 72
  have HW_0:=Lib.hid b0
  have HX_0:=Lib.hid b1
  have HR0_0:=Lib.hid b2
  have HR1_0:=Lib.hid b3
  have HG_0:=Lib.hid hg
  have HH:=Lib.hid h
  have HOK:=Lib.hid hok
  obtain ⟨LW,hLW⟩:∃ L,RwL c b q cap n sl = L:=⟨_,rfl⟩
  obtain ⟨LX,hLX⟩:∃ L,x.l = L:=⟨_,rfl⟩
  rw [hLW,hLX] at hu ⊢
  simp only [zWk,Wk.l,zWV] at hu
  have HU:=Lib.hid hu
  have HLW:=Lib.hid hLW
  have HLX:=Lib.hid hLX
  clear hu hg b0 b1 b2 b3 h hok hLW hLX
  have hbl:b < w.heap.size:=World.block_lt_of_cell? w _ (HH.out.holds 0 (by rw [HH.out.len];exact q0))
  have t7:=HW_0.out.cell 7 _ rfl
  rw [← HU.out] at t7
  have t8:=HW_0.out.cell 8 _ rfl
  rw [← HU.out] at t8
  have t9:=HW_0.out.cell 9 _ rfl
  rw [← HU.out] at t9
  have t10:=HW_0.out.cell 10 _ rfl
  rw [← HU.out] at t10
  have t11:=HW_0.out.cell 11 _ rfl
  rw [← HU.out] at t11
  have t12:=HW_0.out.cell 12 _ rfl
  rw [← HU.out] at t12
  have t13:=HW_0.out.cell 13 _ rfl
  rw [← HU.out] at t13
  have t14:=HW_0.out.cell 14 _ rfl
  rw [← HU.out] at t14
  have t15:=HW_0.out.cell 15 _ rfl
  rw [← HU.out] at t15
  have t16:=HW_0.out.cell 16 _ rfl
  rw [← HU.out] at t16
  have x4:=HX_0.out.cell 4 _ rfl
  rw [← HU.out] at x4
  have x9:=HX_0.out.cell 9 _ rfl
  rw [← HU.out] at x9
  rw [hd] at x9
  clear hd
  go_enter Tryz.func32,Tryz.ntmps32
  go_wp2_with fail
  rw [HU.out]
  refine (rCarried_at _ hi c s _ _ _ _ _ (HH.out.grown HG_0.out).refs HOK.out hl5 x.curr ov HO.out).mono ?_;rintro e w_1 ⟨rfl,g_1⟩
  clear t7 t8 t9 t10 t11 t12 t13 t14 t15 t16 x4 x9
  have HW_1:=Lib.hid (HW_0.out.grown g_1)
  have HX_1:=Lib.hid (HX_0.out.grown g_1)
  have HR0_1:=Lib.hid (HR0_0.out.grown g_1)
  have HR1_1:=Lib.hid (HR1_0.out.grown g_1)
  have HG_1:=Lib.hid (gtr HG_0.out g_1)
  clear g_1
  have x2:=HX_1.out.cell 2 (.int .i64 x.phase) rfl
  rw [hp] at x2
  have HP:=Lib.hid hp
  clear hp
  have x6:=HX_1.out.cell 6 (.int .i64 x.seen) rfl
  go_wp2_with (first | (refine load_box rfl 42 _ rfl w.heap.size rfl _ _ Tryz.underlying42 rfl (by kernel_rfl) HW_1.out ?_) | fail)
  have hQ:=rqWord _ c sl b q cap ws n x.seen HH.out.len (HH.out.grown HG_1.out).holds HH.out.few n0 n1
  rw [HRr.out,HN2.out] at hQ
  refine hQ.mono ?_;rintro e w_2 ⟨b2,cp2,rfl,g_2,hh2,ho2⟩
  clear hQ
  have hb2:b2 < w_2.heap.size:=World.block_lt_of_cell? w_2 _ (hh2 0 (by rw [hln];exact q0))
  clear x2 x6
  have hlt9:=HR1_1.out.lt
  have hlt8:=(HR1_1.out.grown g_2).lt
  have ga:Grown w_2 (w_2.alloc (.cells (RwL c b2 q cp2 n2 sl).toArray 42)):=by go_grown
  have hBA:=Box.made w_2 (RwL c b2 q cp2 n2 sl) 42
  obtain ⟨w_3,hw9⟩:∃ x,w_2.alloc (.cells (RwL c b2 q cp2 n2 sl).toArray 42) = x:=⟨_,rfl⟩
  obtain ⟨Y,hY9⟩:∃ x,w_2.heap.size = x:=⟨_,rfl⟩
  rw [hw9] at ga hBA
  rw [hY9] at hBA
  have hY:w.heap.size + 4 ≤ Y:=by omega
  have hbY:b2 ≠ Y:=by omega
  have ho:b2 = b ∨ w.heap.size + 4 ≤ b2:=by omega
  have HW_3:=Lib.hid (HW_1.out.grown (gtr g_2 ga))
  have HX_3:=Lib.hid (HX_1.out.grown (gtr g_2 ga))
  have HR0_3:=Lib.hid (HR0_1.out.grown (gtr g_2 ga))
  have HR1_3:=Lib.hid (HR1_1.out.grown (gtr g_2 ga))
  have HG_3:=Lib.hid (gtr HG_1.out (gtr g_2 ga))
  have HA_3:=Lib.hid hBA
  have HQ_3:=Lib.hid (hh2.grown ga)
  have hYl:=hBA.lt
  clear g_2 ga hBA hh2 ho2 hb2 hlt9 hlt8
  simp only [RwL] at hw9 ⊢
  have HW9:=Lib.hid hw9
  have HY9:=Lib.hid hY9
  clear hw9 hY9
  have hxc:=HX_3.out
  rw [← HW9.out] at hxc
  have HXc:=Lib.hid hxc
  clear hxc
  go_wp2_with (first | (refine store_cell rfl 3 _ _ rfl (w.heap.size + 1) 2 rfl (.int .i64 7) rfl rfl (x:Wk).l ({ x with phase:=7 }:Wk).l HXc.out (Nat.le_of_ble_eq_true rfl) (by kernel_rfl) rfl ?_;intro w_4 B_ q_;rw [HW9.out] at q_;have HX_4:=Lib.hid B_;have HW_4:=Lib.hid (HW_3.out.but q_ (by omega));have HR0_4:=Lib.hid (HR0_3.out.but q_ (by omega));have HR1_4:=Lib.hid (HR1_3.out.but q_ (by omega));have HA_4:=Lib.hid (HA_3.out.but q_ (by omega));have HG_4:Hid (Grown w w_4):=Lib.hid (But.fresh HG_3.out q_ (fun i hi => by omega));have HQ_4:=Lib.hid (HQ_3.out.but q_ (by omega));clear B_ q_) | fail)
  rw [HY9.out]
  clear HW9 HY9
  refine wp_region_planb (fun i => i = (w.heap.size + 1 + 1) ∨ i = (w.heap.size + 1 + 1 + 1)) (.one [0,1] 2 (.one [] 3 (.fin []))) (by kernel_rfl) (by kernel_rfl) (by kernel_rfl) ?_
  intro w_11 g_11
  have HQ_11:=Lib.hid (HQ_4.out.grown g_11)
  have HW_11:=Lib.hid (HW_4.out.grown g_11)
  have HX_11:=Lib.hid (HX_4.out.grown g_11)
  have HR0_11:=Lib.hid (HR0_4.out.grown g_11)
  have HR1_11:=Lib.hid (HR1_4.out.grown g_11)
  have HA_11:=Lib.hid (HA_4.out.grown g_11)
  have HG_11:=Lib.hid (gtr HG_4.out g_11)
  refine plan_one ?_
  try simp only [Act.put]
  simp only [nths,nth,List.map_cons,List.map_nil,List.getD_cons_zero,List.getD_cons_succ]
  refine wpQuiet_load_box rfl 42 _ rfl Y rfl _ _ Tryz.underlying42 rfl (by kernel_rfl) (Box.butw HA_11.out (by rintro (h | h) <;> omega)) ?_
  simp only [Act.put,List.setIfInBounds_toArray,List.set_cons_succ,List.set_cons_zero]
  refine wpQuiet_load_box rfl 72 _ rfl (w.heap.size + 1) rfl _ _ Tryz.underlying72 rfl (by kernel_rfl) (Box.butw HX_11.out (by rintro (h | h) <;> omega)) ?_
  simp only [Act.put,List.setIfInBounds_toArray,List.set_cons_succ,List.set_cons_zero]
  refine wpQuiet_nil ?_
  go_wp2_with (first | (refine store_box rfl 42 _ _ rfl (w.heap.size + 1 + 1) _ HR0_11.out _ rfl rfl rfl (by kernel_rfl) rfl ?_;intro w_12 B_ q_;have HE0:=Lib.hid B_;have QE0:=Lib.hid q_;have HR1_12:=Lib.hid (HR1_11.out.but q_ (by omega));clear B_ q_) | fail)
  refine nxt_but (QE0.out.mono fun i hi => .inl hi) (plan_one ?_)
  simp only [nths,nth,List.map_nil,List.getD_cons_zero,List.getD_cons_succ]
  refine wpQuiet_nil ?_
  go_wp2_with (first | (refine store_box rfl 72 _ _ rfl (w.heap.size + 1 + 1 + 1) _ HR1_12.out _ rfl rfl rfl (by kernel_rfl) rfl ?_;intro w_13 B_ q_;have HE1:=Lib.hid B_;have QE1:=Lib.hid q_;have HE0_13:=Lib.hid (HE0.out.but q_ (by omega));clear B_ q_) | fail)
  have QE:But (fun i => i = (w.heap.size + 1 + 1) ∨ i = (w.heap.size + 1 + 1 + 1)) w_11 w_13:=(QE0.out.mono fun i hi => .inl hi).trans (QE1.out.mono fun i hi => .inr hi)
  refine nxt_but QE (plan_fin ?_)
  simp only [nths,List.map_nil]
  refine wpQuiet_nil ?_
  go_wp2_with fail
  exact bodyPost_ret (v:=.tuple #[.agg (RwL c b2 q cp2 (n2) sl).toArray,.agg (({ x with phase:=7 }:Wk)).l.toArray]) (results_cc (ty:=42) (ty':=72) rfl rfl (load_run HE0_13.out 42 _ Tryz.underlying42 rfl (by kernel_rfl)) rfl (load_run HE1.out 72 _ Tryz.underlying72 rfl (by kernel_rfl))) rfl ⟨b2,cp2,by rw [← HZ.out],But.fresh HG_11.out QE (fun i hi => by rcases hi with h | h <;> omega),by rw [← HZ.out];exact HQ_11.out.but QE (by rintro (h | h) <;> omega),by omega⟩
 ·rw [if_neg hr1] at hzk
  have HZ:=Lib.hid hzk
  clear hzk
  have hr11:(r == 1) = false:=by simpa using hr1
  have hr12:decide (r = 1) = false:=by simpa using hr1
  have hr13:(r != 1) = true:=by simpa using hr1
  clear hr1
  obtain ⟨u,hu,hg,b0,b1,b2,b3⟩:=vars4 w (RwL c b q cap n sl) x.l zWV zWk.l 42 72 42 72
  have HW_0:=Lib.hid b0
  have HX_0:=Lib.hid b1
  have HR0_0:=Lib.hid b2
  have HR1_0:=Lib.hid b3
  have HG_0:=Lib.hid hg
  have HH:=Lib.hid h
  have HOK:=Lib.hid hok
  obtain ⟨LW,hLW⟩:∃ L,RwL c b q cap n sl = L:=⟨_,rfl⟩
  obtain ⟨LX,hLX⟩:∃ L,x.l = L:=⟨_,rfl⟩
  rw [hLW,hLX] at hu ⊢
  simp only [zWk,Wk.l,zWV] at hu
  have HU:=Lib.hid hu
  have HLW:=Lib.hid hLW
  have HLX:=Lib.hid hLX
  clear hu hg b0 b1 b2 b3 h hok hLW hLX
  have hbl:b < w.heap.size:=World.block_lt_of_cell? w _ (HH.out.holds 0 (by rw [HH.out.len];exact q0))
  have t7:=HW_0.out.cell 7 _ rfl
  rw [← HU.out] at t7
  have t8:=HW_0.out.cell 8 _ rfl
  rw [← HU.out] at t8
  have t9:=HW_0.out.cell 9 _ rfl
  rw [← HU.out] at t9
  have t10:=HW_0.out.cell 10 _ rfl
  rw [← HU.out] at t10
  have t11:=HW_0.out.cell 11 _ rfl
  rw [← HU.out] at t11
  have t12:=HW_0.out.cell 12 _ rfl
  rw [← HU.out] at t12
  have t13:=HW_0.out.cell 13 _ rfl
  rw [← HU.out] at t13
  have t14:=HW_0.out.cell 14 _ rfl
  rw [← HU.out] at t14
  have t15:=HW_0.out.cell 15 _ rfl
  rw [← HU.out] at t15
  have t16:=HW_0.out.cell 16 _ rfl
  rw [← HU.out] at t16
  have x4:=HX_0.out.cell 4 _ rfl
  rw [← HU.out] at x4
  have x9:=HX_0.out.cell 9 _ rfl
  rw [← HU.out] at x9
  rw [hd] at x9
  clear hd
  go_enter Tryz.func32,Tryz.ntmps32
  go_wp2_with fail
  rw [HU.out]
  refine (rCarried_at _ hi c s _ _ _ _ _ (HH.out.grown HG_0.out).refs HOK.out hl5 x.curr ov HO.out).mono ?_;rintro e w_1 ⟨rfl,g_1⟩
  clear t7 t8 t9 t10 t11 t12 t13 t14 t15 t16 x4 x9
  have HW_1:=Lib.hid (HW_0.out.grown g_1)
  have HX_1:=Lib.hid (HX_0.out.grown g_1)
  have HR0_1:=Lib.hid (HR0_0.out.grown g_1)
  have HR1_1:=Lib.hid (HR1_0.out.grown g_1)
  have HG_1:=Lib.hid (gtr HG_0.out g_1)
  clear g_1
  have x2:=HX_1.out.cell 2 (.int .i64 x.phase) rfl
  rw [hp] at x2
  have HP:=Lib.hid hp
  clear hp
  have x6:=HX_1.out.cell 6 (.int .i64 x.seen) rfl
  go_wp2_with (first | (refine load_box rfl 42 _ rfl w.heap.size rfl _ _ Tryz.underlying42 rfl (by kernel_rfl) HW_1.out ?_) | fail)
  have hQ:=rqWord _ c sl b q cap ws n x.seen HH.out.len (HH.out.grown HG_1.out).holds HH.out.few n0 n1
  rw [HRr.out,HN2.out] at hQ
  refine hQ.mono ?_;rintro e w_2 ⟨b2,cp2,rfl,g_2,hh2,ho2⟩
  clear hQ
  have hb2:b2 < w_2.heap.size:=World.block_lt_of_cell? w_2 _ (hh2 0 (by rw [hln];exact q0))
  clear x2 x6
  have hlt9:=HR1_1.out.lt
  have hlt8:=(HR1_1.out.grown g_2).lt
  have ga:Grown w_2 (w_2.alloc (.cells (RwL c b2 q cp2 n2 sl).toArray 42)):=by go_grown
  have hBA:=Box.made w_2 (RwL c b2 q cp2 n2 sl) 42
  obtain ⟨w_3,hw9⟩:∃ x,w_2.alloc (.cells (RwL c b2 q cp2 n2 sl).toArray 42) = x:=⟨_,rfl⟩
  obtain ⟨Y,hY9⟩:∃ x,w_2.heap.size = x:=⟨_,rfl⟩
  rw [hw9] at ga hBA
  rw [hY9] at hBA
  have hY:w.heap.size + 4 ≤ Y:=by omega
  have hbY:b2 ≠ Y:=by omega
  have ho:b2 = b ∨ w.heap.size + 4 ≤ b2:=by omega
  have HW_3:=Lib.hid (HW_1.out.grown (gtr g_2 ga))
  have HX_3:=Lib.hid (HX_1.out.grown (gtr g_2 ga))
  have HR0_3:=Lib.hid (HR0_1.out.grown (gtr g_2 ga))
  have HR1_3:=Lib.hid (HR1_1.out.grown (gtr g_2 ga))
  have HG_3:=Lib.hid (gtr HG_1.out (gtr g_2 ga))
  have HA_3:=Lib.hid hBA
  have HQ_3:=Lib.hid (hh2.grown ga)
  have hYl:=hBA.lt
  clear g_2 ga hBA hh2 ho2 hb2 hlt9 hlt8
  simp only [RwL] at hw9 ⊢
  have HW9:=Lib.hid hw9
  have HY9:=Lib.hid hY9
  clear hw9 hY9
  have hxc:=HX_3.out
  rw [← HW9.out] at hxc
  have HXc:=Lib.hid hxc
  clear hxc
  go_wp2_with (first | (refine store_cell rfl 3 _ _ rfl (w.heap.size + 1) 2 rfl (.int .i64 7) rfl rfl (x:Wk).l ({ x with phase:=7 }:Wk).l HXc.out (Nat.le_of_ble_eq_true rfl) (by kernel_rfl) rfl ?_;intro w_4 B_ q_;rw [HW9.out] at q_;have HX_4:=Lib.hid B_;have HW_4:=Lib.hid (HW_3.out.but q_ (by omega));have HR0_4:=Lib.hid (HR0_3.out.but q_ (by omega));have HR1_4:=Lib.hid (HR1_3.out.but q_ (by omega));have HA_4:=Lib.hid (HA_3.out.but q_ (by omega));have HG_4:Hid (Grown w w_4):=Lib.hid (But.fresh HG_3.out q_ (fun i hi => by omega));have HQ_4:=Lib.hid (HQ_3.out.but q_ (by omega));clear B_ q_) | (refine store_cell rfl 3 _ _ rfl (w.heap.size + 1) 6 rfl (.int .i64 (-1)) rfl rfl ({ x with phase:=7 }:Wk).l ({ x with phase:=7,seen:=-1 }:Wk).l HX_4.out (Nat.le_of_ble_eq_true rfl) (by kernel_rfl) rfl ?_;intro w_5 B_ q_;have HX_5:=Lib.hid B_;have HW_5:=Lib.hid (HW_4.out.but q_ (by omega));have HR0_5:=Lib.hid (HR0_4.out.but q_ (by omega));have HR1_5:=Lib.hid (HR1_4.out.but q_ (by omega));have HA_5:=Lib.hid (HA_4.out.but q_ (by omega));have HG_5:Hid (Grown w w_5):=Lib.hid (But.fresh HG_4.out q_ (fun i hi => by omega));have HQ_5:=Lib.hid (HQ_4.out.but q_ (by omega));clear B_ q_) | (refine store_cell rfl 3 _ _ rfl (w.heap.size + 1) 2 rfl (.int .i64 6) rfl rfl ({ x with phase:=7,seen:=-1 }:Wk).l ({ x with phase:=6,seen:=-1 }:Wk).l HX_5.out (Nat.le_of_ble_eq_true rfl) (by kernel_rfl) rfl ?_;intro w_6 B_ q_;have HX_6:=Lib.hid B_;have HW_6:=Lib.hid (HW_5.out.but q_ (by omega));have HR0_6:=Lib.hid (HR0_5.out.but q_ (by omega));have HR1_6:=Lib.hid (HR1_5.out.but q_ (by omega));have HA_6:=Lib.hid (HA_5.out.but q_ (by omega));have HG_6:Hid (Grown w w_6):=Lib.hid (But.fresh HG_5.out q_ (fun i hi => by omega));have HQ_6:=Lib.hid (HQ_5.out.but q_ (by omega));clear B_ q_) | fail)
  rw [HY9.out]
  clear HW9 HY9
  refine wp_region_planb (fun i => i = (w.heap.size + 1 + 1) ∨ i = (w.heap.size + 1 + 1 + 1)) (.one [0,1] 2 (.one [] 3 (.fin []))) (by kernel_rfl) (by kernel_rfl) (by kernel_rfl) ?_
  intro w_11 g_11
  have HQ_11:=Lib.hid (HQ_6.out.grown g_11)
  have HW_11:=Lib.hid (HW_6.out.grown g_11)
  have HX_11:=Lib.hid (HX_6.out.grown g_11)
  have HR0_11:=Lib.hid (HR0_6.out.grown g_11)
  have HR1_11:=Lib.hid (HR1_6.out.grown g_11)
  have HA_11:=Lib.hid (HA_6.out.grown g_11)
  have HG_11:=Lib.hid (gtr HG_6.out g_11)
  refine plan_one ?_
  try simp only [Act.put]
  simp only [nths,nth,List.map_cons,List.map_nil,List.getD_cons_zero,List.getD_cons_succ]
  refine wpQuiet_load_box rfl 42 _ rfl Y rfl _ _ Tryz.underlying42 rfl (by kernel_rfl) (Box.butw HA_11.out (by rintro (h | h) <;> omega)) ?_
  simp only [Act.put,List.setIfInBounds_toArray,List.set_cons_succ,List.set_cons_zero]
  refine wpQuiet_load_box rfl 72 _ rfl (w.heap.size + 1) rfl _ _ Tryz.underlying72 rfl (by kernel_rfl) (Box.butw HX_11.out (by rintro (h | h) <;> omega)) ?_
  simp only [Act.put,List.setIfInBounds_toArray,List.set_cons_succ,List.set_cons_zero]
  refine wpQuiet_nil ?_
  go_wp2_with (first | (refine store_box rfl 42 _ _ rfl (w.heap.size + 1 + 1) _ HR0_11.out _ rfl rfl rfl (by kernel_rfl) rfl ?_;intro w_12 B_ q_;have HE0:=Lib.hid B_;have QE0:=Lib.hid q_;have HR1_12:=Lib.hid (HR1_11.out.but q_ (by omega));clear B_ q_) | fail)
  refine nxt_but (QE0.out.mono fun i hi => .inl hi) (plan_one ?_)
  simp only [nths,nth,List.map_nil,List.getD_cons_zero,List.getD_cons_succ]
  refine wpQuiet_nil ?_
  go_wp2_with (first | (refine store_box rfl 72 _ _ rfl (w.heap.size + 1 + 1 + 1) _ HR1_12.out _ rfl rfl rfl (by kernel_rfl) rfl ?_;intro w_13 B_ q_;have HE1:=Lib.hid B_;have QE1:=Lib.hid q_;have HE0_13:=Lib.hid (HE0.out.but q_ (by omega));clear B_ q_) | fail)
  have QE:But (fun i => i = (w.heap.size + 1 + 1) ∨ i = (w.heap.size + 1 + 1 + 1)) w_11 w_13:=(QE0.out.mono fun i hi => .inl hi).trans (QE1.out.mono fun i hi => .inr hi)
  refine nxt_but QE (plan_fin ?_)
  simp only [nths,List.map_nil]
  refine wpQuiet_nil ?_
  go_wp2_with fail
  exact bodyPost_ret (v:=.tuple #[.agg (RwL c b2 q cp2 (n2) sl).toArray,.agg (({ x with phase:=6,seen:=-1 }:Wk)).l.toArray]) (results_cc (ty:=42) (ty':=72) rfl rfl (load_run HE0_13.out 42 _ Tryz.underlying42 rfl (by kernel_rfl)) rfl (load_run HE1.out 72 _ Tryz.underlying72 rfl (by kernel_rfl))) rfl ⟨b2,cp2,by rw [← HZ.out],But.fresh HG_11.out QE (fun i hi => by rcases hi with h | h <;> omega),by rw [← HZ.out];exact HQ_11.out.but QE (by rintro (h | h) <;> omega),by omega⟩
set_option maxHeartbeats 8000000 in
theorem rStep6 (w:World) (hi:Nat) (c:Cf) (b q cap:Nat) (ws:List Int) (n:Int) (s:St) (sl:Sl) (h:RwAt w hi c b q ws s sl) (hok:c.Ok) (hl:s.ops.length ≤ 99999) (hl5:s.nodes.length ≤ 99999) (x:Wk) (q0:0 < q) (n0:0 ≤ n) (n1:n < 4611686018427387904) (hw:∀ i:Int,0 ≤ rd ws i ∧ rd ws i ≤ 18446744073709551615) (b0:0 ≤ x.next) (b1:x.next ≤ 18446744073709551615) (u0:-9223372036854775808 ≤ x.curr) (u1:x.curr ≤ 9223372036854775807) (hd:x.done = false) (hp:x.phase = 6) (z:Kd) (hz:stepK c s ⟨ws,n,x⟩ = z) :
  Calls Tryz.prog 32 #[.agg (RwL c b q cap n sl).toArray,.agg x.l.toArray] w fun e w' => RK c sl b q z w e w':=by
 obtain ⟨ov,hov⟩:∃ y,opK s x = y:=⟨_,rfl⟩
 have HO:Hid (carriedOf (lookI s.nodes x.curr) = ov):=Lib.hid hov
 obtain ⟨m,hm⟩:∃ m,may ws (wrdI c ov) 0 = m:=⟨_,rfl⟩
 obtain ⟨ws2,hws⟩:∃ y,sw ws (wrdI c ov) 0 1 = y:=⟨_,rfl⟩
 obtain ⟨n2,hn2⟩:∃ y,n + cnt ws (wrdI c ov) = y:=⟨_,rfl⟩
 have hzk:(⟨ws2,n2,{ x with phase:=3 }⟩:Kd) = z:=by rw [← hz,← hws,← hn2,← hov];unfold stepK;simp [hd,hp,setK]
 have HM:=Lib.hid hm
 have HWS:=Lib.hid hws
 have HN2:=Lib.hid hn2
 have hln:ws2.length = q:=by rw [← hws,length_sw];exact h.len
 have HZ:=Lib.hid hzk
 clear hz hzk hov hm hws hn2
 obtain ⟨u,hu,hg,b0,b1,b2,b3⟩:=vars4 w (RwL c b q cap n sl) x.l zWV zWk.l 42 72 42 72
 have HW_0:=Lib.hid b0
 have HX_0:=Lib.hid b1
 have HR0_0:=Lib.hid b2
 have HR1_0:=Lib.hid b3
 have HG_0:=Lib.hid hg
 have HH:=Lib.hid h
 have HOK:=Lib.hid hok
 obtain ⟨LW,hLW⟩:∃ L,RwL c b q cap n sl = L:=⟨_,rfl⟩
 obtain ⟨LX,hLX⟩:∃ L,x.l = L:=⟨_,rfl⟩
 rw [hLW,hLX] at hu ⊢
 simp only [zWk,Wk.l,zWV] at hu
 have HU:=Lib.hid hu
 have HLW:=Lib.hid hLW
 have HLX:=Lib.hid hLX
 clear hu hg b0 b1 b2 b3 h hok hLW hLX
 have hbl:b < w.heap.size:=World.block_lt_of_cell? w _ (HH.out.holds 0 (by rw [HH.out.len];exact q0))
 have t7:=HW_0.out.cell 7 _ rfl
 rw [← HU.out] at t7
 have t8:=HW_0.out.cell 8 _ rfl
 rw [← HU.out] at t8
 have t9:=HW_0.out.cell 9 _ rfl
 rw [← HU.out] at t9
 have t10:=HW_0.out.cell 10 _ rfl
 rw [← HU.out] at t10
 have t11:=HW_0.out.cell 11 _ rfl
 rw [← HU.out] at t11
 have t12:=HW_0.out.cell 12 _ rfl
 rw [← HU.out] at t12
 have t13:=HW_0.out.cell 13 _ rfl
 rw [← HU.out] at t13
 have t14:=HW_0.out.cell 14 _ rfl
 rw [← HU.out] at t14
 have t15:=HW_0.out.cell 15 _ rfl
 rw [← HU.out] at t15
 have t16:=HW_0.out.cell 16 _ rfl
 rw [← HU.out] at t16
 have x4:=HX_0.out.cell 4 _ rfl
 rw [← HU.out] at x4
 have x9:=HX_0.out.cell 9 _ rfl
 rw [← HU.out] at x9
 rw [hd] at x9
 clear hd
 go_enter Tryz.func32,Tryz.ntmps32
 go_wp2_with fail
 rw [HU.out]
 refine (rCarried_at _ hi c s _ _ _ _ _ (HH.out.grown HG_0.out).refs HOK.out hl5 x.curr ov HO.out).mono ?_;rintro e w_1 ⟨rfl,g_1⟩
 clear t7 t8 t9 t10 t11 t12 t13 t14 t15 t16 x4 x9
 have HW_1:=Lib.hid (HW_0.out.grown g_1)
 have HX_1:=Lib.hid (HX_0.out.grown g_1)
 have HR0_1:=Lib.hid (HR0_0.out.grown g_1)
 have HR1_1:=Lib.hid (HR1_0.out.grown g_1)
 have HG_1:=Lib.hid (gtr HG_0.out g_1)
 clear g_1
 have x2:=HX_1.out.cell 2 (.int .i64 x.phase) rfl
 rw [hp] at x2
 have HP:=Lib.hid hp
 clear hp
 go_wp2_with (first | (refine load_box rfl 42 _ rfl w.heap.size rfl _ _ Tryz.underlying42 rfl (by kernel_rfl) HW_1.out ?_) | fail)
 have hQ:=rqTurn _ c sl b q cap ws n ov 0 1 HH.out.len (HH.out.grown HG_1.out).holds HH.out.few n0 n1
 rw [HWS.out,HN2.out,HM.out] at hQ
 refine hQ.mono ?_;rintro e w_2 ⟨b2,cp2,rfl,g_2,hh2,ho2⟩
 clear hQ
 have hb2:b2 < w_2.heap.size:=World.block_lt_of_cell? w_2 _ (hh2 0 (by rw [hln];exact q0))
 clear x2
 have hlt9:=HR1_1.out.lt
 have hlt8:=(HR1_1.out.grown g_2).lt
 have ga:Grown w_2 (w_2.alloc (.cells (RwL c b2 q cp2 n2 sl).toArray 42)):=by go_grown
 have hBA:=Box.made w_2 (RwL c b2 q cp2 n2 sl) 42
 obtain ⟨w_3,hw9⟩:∃ x,w_2.alloc (.cells (RwL c b2 q cp2 n2 sl).toArray 42) = x:=⟨_,rfl⟩
 obtain ⟨Y,hY9⟩:∃ x,w_2.heap.size = x:=⟨_,rfl⟩
 rw [hw9] at ga hBA
 rw [hY9] at hBA
 have hY:w.heap.size + 4 ≤ Y:=by omega
 have hbY:b2 ≠ Y:=by omega
 have ho:b2 = b ∨ w.heap.size + 4 ≤ b2:=by omega
 have HW_3:=Lib.hid (HW_1.out.grown (gtr g_2 ga))
 have HX_3:=Lib.hid (HX_1.out.grown (gtr g_2 ga))
 have HR0_3:=Lib.hid (HR0_1.out.grown (gtr g_2 ga))
 have HR1_3:=Lib.hid (HR1_1.out.grown (gtr g_2 ga))
 have HG_3:=Lib.hid (gtr HG_1.out (gtr g_2 ga))
 have HA_3:=Lib.hid hBA
 have HQ_3:=Lib.hid (hh2.grown ga)
 have hYl:=hBA.lt
 clear g_2 ga hBA hh2 ho2 hb2 hlt9 hlt8
 simp only [RwL] at hw9 ⊢
 have HW9:=Lib.hid hw9
 have HY9:=Lib.hid hY9
 clear hw9 hY9
 have hxc:=HX_3.out
 rw [← HW9.out] at hxc
 have HXc:=Lib.hid hxc
 clear hxc
 go_wp2_with (first | (refine store_cell rfl 3 _ _ rfl (w.heap.size + 1) 2 rfl (.int .i64 3) rfl rfl (x:Wk).l ({ x with phase:=3 }:Wk).l HXc.out (Nat.le_of_ble_eq_true rfl) (by kernel_rfl) rfl ?_;intro w_4 B_ q_;rw [HW9.out] at q_;have HX_4:=Lib.hid B_;have HW_4:=Lib.hid (HW_3.out.but q_ (by omega));have HR0_4:=Lib.hid (HR0_3.out.but q_ (by omega));have HR1_4:=Lib.hid (HR1_3.out.but q_ (by omega));have HA_4:=Lib.hid (HA_3.out.but q_ (by omega));have HG_4:Hid (Grown w w_4):=Lib.hid (But.fresh HG_3.out q_ (fun i hi => by omega));have HQ_4:=Lib.hid (HQ_3.out.but q_ (by omega));clear B_ q_) | fail)
 rw [HY9.out]
 clear HW9 HY9
 refine wp_region_planb (fun i => i = (w.heap.size + 1 + 1) ∨ i = (w.heap.size + 1 + 1 + 1)) (.one [0,1] 2 (.one [] 3 (.fin []))) (by kernel_rfl) (by kernel_rfl) (by kernel_rfl) ?_
 intro w_11 g_11
 have HQ_11:=Lib.hid (HQ_4.out.grown g_11)
 have HW_11:=Lib.hid (HW_4.out.grown g_11)
 have HX_11:=Lib.hid (HX_4.out.grown g_11)
 have HR0_11:=Lib.hid (HR0_4.out.grown g_11)
 have HR1_11:=Lib.hid (HR1_4.out.grown g_11)
 have HA_11:=Lib.hid (HA_4.out.grown g_11)
 have HG_11:=Lib.hid (gtr HG_4.out g_11)
 refine plan_one ?_
 try simp only [Act.put]
 simp only [nths,nth,List.map_cons,List.map_nil,List.getD_cons_zero,List.getD_cons_succ]
 refine wpQuiet_load_box rfl 42 _ rfl Y rfl _ _ Tryz.underlying42 rfl (by kernel_rfl) (Box.butw HA_11.out (by rintro (h | h) <;> omega)) ?_
 simp only [Act.put,List.setIfInBounds_toArray,List.set_cons_succ,List.set_cons_zero]
 refine wpQuiet_load_box rfl 72 _ rfl (w.heap.size + 1) rfl _ _ Tryz.underlying72 rfl (by kernel_rfl) (Box.butw HX_11.out (by rintro (h | h) <;> omega)) ?_
 simp only [Act.put,List.setIfInBounds_toArray,List.set_cons_succ,List.set_cons_zero]
 refine wpQuiet_nil ?_
 go_wp2_with (first | (refine store_box rfl 42 _ _ rfl (w.heap.size + 1 + 1) _ HR0_11.out _ rfl rfl rfl (by kernel_rfl) rfl ?_;intro w_12 B_ q_;have HE0:=Lib.hid B_;have QE0:=Lib.hid q_;have HR1_12:=Lib.hid (HR1_11.out.but q_ (by omega));clear B_ q_) | fail)
 refine nxt_but (QE0.out.mono fun i hi => .inl hi) (plan_one ?_)
 simp only [nths,nth,List.map_nil,List.getD_cons_zero,List.getD_cons_succ]
 refine wpQuiet_nil ?_
 go_wp2_with (first | (refine store_box rfl 72 _ _ rfl (w.heap.size + 1 + 1 + 1) _ HR1_12.out _ rfl rfl rfl (by kernel_rfl) rfl ?_;intro w_13 B_ q_;have HE1:=Lib.hid B_;have QE1:=Lib.hid q_;have HE0_13:=Lib.hid (HE0.out.but q_ (by omega));clear B_ q_) | fail)
 have QE:But (fun i => i = (w.heap.size + 1 + 1) ∨ i = (w.heap.size + 1 + 1 + 1)) w_11 w_13:=(QE0.out.mono fun i hi => .inl hi).trans (QE1.out.mono fun i hi => .inr hi)
 refine nxt_but QE (plan_fin ?_)
 simp only [nths,List.map_nil]
 refine wpQuiet_nil ?_
 go_wp2_with fail
 exact bodyPost_ret (v:=.tuple #[.agg (RwL c b2 q cp2 (n2) sl).toArray,.agg (({ x with phase:=3 }:Wk)).l.toArray]) (results_cc (ty:=42) (ty':=72) rfl rfl (load_run HE0_13.out 42 _ Tryz.underlying42 rfl (by kernel_rfl)) rfl (load_run HE1.out 72 _ Tryz.underlying72 rfl (by kernel_rfl))) rfl ⟨b2,cp2,by rw [← HZ.out],But.fresh HG_11.out QE (fun i hi => by rcases hi with h | h <;> omega),by rw [← HZ.out];exact HQ_11.out.but QE (by rintro (h | h) <;> omega),by omega⟩
set_option maxHeartbeats 8000000 in
theorem rStep7 (w:World) (hi:Nat) (c:Cf) (b q cap:Nat) (ws:List Int) (n:Int) (s:St) (sl:Sl) (h:RwAt w hi c b q ws s sl) (hok:c.Ok) (hl:s.ops.length ≤ 99999) (hl5:s.nodes.length ≤ 99999) (x:Wk) (q0:0 < q) (n0:0 ≤ n) (n1:n < 4611686018427387904) (hw:∀ i:Int,0 ≤ rd ws i ∧ rd ws i ≤ 18446744073709551615) (b0:0 ≤ x.next) (b1:x.next ≤ 18446744073709551615) (u0:-9223372036854775808 ≤ x.curr) (u1:x.curr ≤ 9223372036854775807) (hd:x.done = false) (hp:x.phase = 7) (z:Kd) (hz:stepK c s ⟨ws,n,x⟩ = z) :
  Calls Tryz.prog 32 #[.agg (RwL c b q cap n sl).toArray,.agg x.l.toArray] w fun e w' => RK c sl b q z w e w':=by
 obtain ⟨ov,hov⟩:∃ y,opK s x = y:=⟨_,rfl⟩
 have HO:Hid (carriedOf (lookI s.nodes x.curr) = ov):=Lib.hid hov
 obtain ⟨m,hm⟩:∃ m,may ws (wrdI c ov) 0 = m:=⟨_,rfl⟩
 obtain ⟨ws2,hws⟩:∃ y,sw ws (wrdI c ov) 0 2 = y:=⟨_,rfl⟩
 obtain ⟨n2,hn2⟩:∃ y,n + cnt ws (wrdI c ov) = y:=⟨_,rfl⟩
 have hzk:(⟨ws2,n2,{ x with phase:=3 }⟩:Kd) = z:=by rw [← hz,← hws,← hn2,← hov];unfold stepK;simp [hd,hp,setK]
 have HM:=Lib.hid hm
 have HWS:=Lib.hid hws
 have HN2:=Lib.hid hn2
 have hln:ws2.length = q:=by rw [← hws,length_sw];exact h.len
 have HZ:=Lib.hid hzk
 clear hz hzk hov hm hws hn2
 obtain ⟨u,hu,hg,b0,b1,b2,b3⟩:=vars4 w (RwL c b q cap n sl) x.l zWV zWk.l 42 72 42 72
 have HW_0:=Lib.hid b0
 have HX_0:=Lib.hid b1
 have HR0_0:=Lib.hid b2
 have HR1_0:=Lib.hid b3
 have HG_0:=Lib.hid hg
 have HH:=Lib.hid h
 have HOK:=Lib.hid hok
 obtain ⟨LW,hLW⟩:∃ L,RwL c b q cap n sl = L:=⟨_,rfl⟩
 obtain ⟨LX,hLX⟩:∃ L,x.l = L:=⟨_,rfl⟩
 rw [hLW,hLX] at hu ⊢
 simp only [zWk,Wk.l,zWV] at hu
 have HU:=Lib.hid hu
 have HLW:=Lib.hid hLW
 have HLX:=Lib.hid hLX
 clear hu hg b0 b1 b2 b3 h hok hLW hLX
 have hbl:b < w.heap.size:=World.block_lt_of_cell? w _ (HH.out.holds 0 (by rw [HH.out.len];exact q0))
 have t7:=HW_0.out.cell 7 _ rfl
 rw [← HU.out] at t7
 have t8:=HW_0.out.cell 8 _ rfl
 rw [← HU.out] at t8
 have t9:=HW_0.out.cell 9 _ rfl
 rw [← HU.out] at t9
 have t10:=HW_0.out.cell 10 _ rfl
 rw [← HU.out] at t10
 have t11:=HW_0.out.cell 11 _ rfl
 rw [← HU.out] at t11
 have t12:=HW_0.out.cell 12 _ rfl
 rw [← HU.out] at t12
 have t13:=HW_0.out.cell 13 _ rfl
 rw [← HU.out] at t13
 have t14:=HW_0.out.cell 14 _ rfl
 rw [← HU.out] at t14
 have t15:=HW_0.out.cell 15 _ rfl
 rw [← HU.out] at t15
 have t16:=HW_0.out.cell 16 _ rfl
 rw [← HU.out] at t16
 have x4:=HX_0.out.cell 4 _ rfl
 rw [← HU.out] at x4
 have x9:=HX_0.out.cell 9 _ rfl
 rw [← HU.out] at x9
 rw [hd] at x9
 clear hd
 go_enter Tryz.func32,Tryz.ntmps32
 go_wp2_with fail
 rw [HU.out]
 refine (rCarried_at _ hi c s _ _ _ _ _ (HH.out.grown HG_0.out).refs HOK.out hl5 x.curr ov HO.out).mono ?_;rintro e w_1 ⟨rfl,g_1⟩
 clear t7 t8 t9 t10 t11 t12 t13 t14 t15 t16 x4 x9
 have HW_1:=Lib.hid (HW_0.out.grown g_1)
 have HX_1:=Lib.hid (HX_0.out.grown g_1)
 have HR0_1:=Lib.hid (HR0_0.out.grown g_1)
 have HR1_1:=Lib.hid (HR1_0.out.grown g_1)
 have HG_1:=Lib.hid (gtr HG_0.out g_1)
 clear g_1
 have x2:=HX_1.out.cell 2 (.int .i64 x.phase) rfl
 rw [hp] at x2
 have HP:=Lib.hid hp
 clear hp
 go_wp2_with (first | (refine load_box rfl 42 _ rfl w.heap.size rfl _ _ Tryz.underlying42 rfl (by kernel_rfl) HW_1.out ?_) | fail)
 have hQ:=rqTurn _ c sl b q cap ws n ov 0 2 HH.out.len (HH.out.grown HG_1.out).holds HH.out.few n0 n1
 rw [HWS.out,HN2.out,HM.out] at hQ
 refine hQ.mono ?_;rintro e w_2 ⟨b2,cp2,rfl,g_2,hh2,ho2⟩
 clear hQ
 have hb2:b2 < w_2.heap.size:=World.block_lt_of_cell? w_2 _ (hh2 0 (by rw [hln];exact q0))
 clear x2
 have hlt9:=HR1_1.out.lt
 have hlt8:=(HR1_1.out.grown g_2).lt
 have ga:Grown w_2 (w_2.alloc (.cells (RwL c b2 q cp2 n2 sl).toArray 42)):=by go_grown
 have hBA:=Box.made w_2 (RwL c b2 q cp2 n2 sl) 42
 obtain ⟨w_3,hw9⟩:∃ x,w_2.alloc (.cells (RwL c b2 q cp2 n2 sl).toArray 42) = x:=⟨_,rfl⟩
 obtain ⟨Y,hY9⟩:∃ x,w_2.heap.size = x:=⟨_,rfl⟩
 rw [hw9] at ga hBA
 rw [hY9] at hBA
 have hY:w.heap.size + 4 ≤ Y:=by omega
 have hbY:b2 ≠ Y:=by omega
 have ho:b2 = b ∨ w.heap.size + 4 ≤ b2:=by omega
 have HW_3:=Lib.hid (HW_1.out.grown (gtr g_2 ga))
 have HX_3:=Lib.hid (HX_1.out.grown (gtr g_2 ga))
 have HR0_3:=Lib.hid (HR0_1.out.grown (gtr g_2 ga))
 have HR1_3:=Lib.hid (HR1_1.out.grown (gtr g_2 ga))
 have HG_3:=Lib.hid (gtr HG_1.out (gtr g_2 ga))
 have HA_3:=Lib.hid hBA
 have HQ_3:=Lib.hid (hh2.grown ga)
 have hYl:=hBA.lt
 clear g_2 ga hBA hh2 ho2 hb2 hlt9 hlt8
 simp only [RwL] at hw9 ⊢
 have HW9:=Lib.hid hw9
 have HY9:=Lib.hid hY9
 clear hw9 hY9
 have hxc:=HX_3.out
 rw [← HW9.out] at hxc
 have HXc:=Lib.hid hxc
 clear hxc
 go_wp2_with (first | (refine store_cell rfl 3 _ _ rfl (w.heap.size + 1) 2 rfl (.int .i64 3) rfl rfl (x:Wk).l ({ x with phase:=3 }:Wk).l HXc.out (Nat.le_of_ble_eq_true rfl) (by kernel_rfl) rfl ?_;intro w_4 B_ q_;rw [HW9.out] at q_;have HX_4:=Lib.hid B_;have HW_4:=Lib.hid (HW_3.out.but q_ (by omega));have HR0_4:=Lib.hid (HR0_3.out.but q_ (by omega));have HR1_4:=Lib.hid (HR1_3.out.but q_ (by omega));have HA_4:=Lib.hid (HA_3.out.but q_ (by omega));have HG_4:Hid (Grown w w_4):=Lib.hid (But.fresh HG_3.out q_ (fun i hi => by omega));have HQ_4:=Lib.hid (HQ_3.out.but q_ (by omega));clear B_ q_) | fail)
 rw [HY9.out]
 clear HW9 HY9
 refine wp_region_planb (fun i => i = (w.heap.size + 1 + 1) ∨ i = (w.heap.size + 1 + 1 + 1)) (.one [0,1] 2 (.one [] 3 (.fin []))) (by kernel_rfl) (by kernel_rfl) (by kernel_rfl) ?_
 intro w_11 g_11
 have HQ_11:=Lib.hid (HQ_4.out.grown g_11)
 have HW_11:=Lib.hid (HW_4.out.grown g_11)
 have HX_11:=Lib.hid (HX_4.out.grown g_11)
 have HR0_11:=Lib.hid (HR0_4.out.grown g_11)
 have HR1_11:=Lib.hid (HR1_4.out.grown g_11)
 have HA_11:=Lib.hid (HA_4.out.grown g_11)
 have HG_11:=Lib.hid (gtr HG_4.out g_11)
 refine plan_one ?_
 try simp only [Act.put]
 simp only [nths,nth,List.map_cons,List.map_nil,List.getD_cons_zero,List.getD_cons_succ]
 refine wpQuiet_load_box rfl 42 _ rfl Y rfl _ _ Tryz.underlying42 rfl (by kernel_rfl) (Box.butw HA_11.out (by rintro (h | h) <;> omega)) ?_
 simp only [Act.put,List.setIfInBounds_toArray,List.set_cons_succ,List.set_cons_zero]
 refine wpQuiet_load_box rfl 72 _ rfl (w.heap.size + 1) rfl _ _ Tryz.underlying72 rfl (by kernel_rfl) (Box.butw HX_11.out (by rintro (h | h) <;> omega)) ?_
 simp only [Act.put,List.setIfInBounds_toArray,List.set_cons_succ,List.set_cons_zero]
 refine wpQuiet_nil ?_
 go_wp2_with (first | (refine store_box rfl 42 _ _ rfl (w.heap.size + 1 + 1) _ HR0_11.out _ rfl rfl rfl (by kernel_rfl) rfl ?_;intro w_12 B_ q_;have HE0:=Lib.hid B_;have QE0:=Lib.hid q_;have HR1_12:=Lib.hid (HR1_11.out.but q_ (by omega));clear B_ q_) | fail)
 refine nxt_but (QE0.out.mono fun i hi => .inl hi) (plan_one ?_)
 simp only [nths,nth,List.map_nil,List.getD_cons_zero,List.getD_cons_succ]
 refine wpQuiet_nil ?_
 go_wp2_with (first | (refine store_box rfl 72 _ _ rfl (w.heap.size + 1 + 1 + 1) _ HR1_12.out _ rfl rfl rfl (by kernel_rfl) rfl ?_;intro w_13 B_ q_;have HE1:=Lib.hid B_;have QE1:=Lib.hid q_;have HE0_13:=Lib.hid (HE0.out.but q_ (by omega));clear B_ q_) | fail)
 have QE:But (fun i => i = (w.heap.size + 1 + 1) ∨ i = (w.heap.size + 1 + 1 + 1)) w_11 w_13:=(QE0.out.mono fun i hi => .inl hi).trans (QE1.out.mono fun i hi => .inr hi)
 refine nxt_but QE (plan_fin ?_)
 simp only [nths,List.map_nil]
 refine wpQuiet_nil ?_
 go_wp2_with fail
 exact bodyPost_ret (v:=.tuple #[.agg (RwL c b2 q cp2 (n2) sl).toArray,.agg (({ x with phase:=3 }:Wk)).l.toArray]) (results_cc (ty:=42) (ty':=72) rfl rfl (load_run HE0_13.out 42 _ Tryz.underlying42 rfl (by kernel_rfl)) rfl (load_run HE1.out 72 _ Tryz.underlying72 rfl (by kernel_rfl))) rfl ⟨b2,cp2,by rw [← HZ.out],But.fresh HG_11.out QE (fun i hi => by rcases hi with h | h <;> omega),by rw [← HZ.out];exact HQ_11.out.but QE (by rintro (h | h) <;> omega),by omega⟩
set_option maxHeartbeats 8000000 in
theorem rStepB (w:World) (hi:Nat) (c:Cf) (b q cap:Nat) (ws:List Int) (n:Int) (s:St) (sl:Sl) (h:RwAt w hi c b q ws s sl) (hok:c.Ok) (hl:s.ops.length ≤ 99999) (hl5:s.nodes.length ≤ 99999) (x:Wk) (q0:0 < q) (n0:0 ≤ n) (n1:n < 4611686018427387904) (hw:∀ i:Int,0 ≤ rd ws i ∧ rd ws i ≤ 18446744073709551615) (b0:0 ≤ x.next) (b1:x.next ≤ 18446744073709551615) (u0:-9223372036854775808 ≤ x.curr) (u1:x.curr ≤ 9223372036854775807) (hd:x.done = false) (hp:x.phase < 0 ∨ 8 ≤ x.phase) (z:Kd) (hz:stepK c s ⟨ws,n,x⟩ = z) :
  Calls Tryz.prog 32 #[.agg (RwL c b q cap n sl).toArray,.agg x.l.toArray] w fun e w' => RK c sl b q z w e w':=by
 obtain ⟨ov,hov⟩:∃ y,opK s x = y:=⟨_,rfl⟩
 have HO:Hid (carriedOf (lookI s.nodes x.curr) = ov):=Lib.hid hov
 have i0:¬ x.phase = 0:=by omega
 have i01:(x.phase == 0) = false:=by simpa using i0
 have i02:decide (x.phase = 0) = false:=by simpa using i0
 have i03:(x.phase != 0) = true:=by simpa using i0
 have i1:¬ x.phase = 1:=by omega
 have i11:(x.phase == 1) = false:=by simpa using i1
 have i12:decide (x.phase = 1) = false:=by simpa using i1
 have i13:(x.phase != 1) = true:=by simpa using i1
 have i2:¬ x.phase = 2:=by omega
 have i21:(x.phase == 2) = false:=by simpa using i2
 have i22:decide (x.phase = 2) = false:=by simpa using i2
 have i23:(x.phase != 2) = true:=by simpa using i2
 have i3:¬ x.phase = 3:=by omega
 have i31:(x.phase == 3) = false:=by simpa using i3
 have i32:decide (x.phase = 3) = false:=by simpa using i3
 have i33:(x.phase != 3) = true:=by simpa using i3
 have i4:¬ x.phase = 4:=by omega
 have i41:(x.phase == 4) = false:=by simpa using i4
 have i42:decide (x.phase = 4) = false:=by simpa using i4
 have i43:(x.phase != 4) = true:=by simpa using i4
 have i5:¬ x.phase = 5:=by omega
 have i51:(x.phase == 5) = false:=by simpa using i5
 have i52:decide (x.phase = 5) = false:=by simpa using i5
 have i53:(x.phase != 5) = true:=by simpa using i5
 have i6:¬ x.phase = 6:=by omega
 have i61:(x.phase == 6) = false:=by simpa using i6
 have i62:decide (x.phase = 6) = false:=by simpa using i6
 have i63:(x.phase != 6) = true:=by simpa using i6
 have i7:¬ x.phase = 7:=by omega
 have i71:(x.phase == 7) = false:=by simpa using i7
 have i72:decide (x.phase = 7) = false:=by simpa using i7
 have i73:(x.phase != 7) = true:=by simpa using i7
 have hzk:(⟨ws,n,{ x with done:=true }⟩:Kd) = z:=by rw [← hz];unfold stepK;simp [hd,i0,i1,i2,i3,i4,i5,i6,i7]
 have HZ:=Lib.hid hzk
 clear hz hzk hov hp i0 i1 i2 i3 i4 i5 i6 i7
 obtain ⟨u,hu,hg,b0,b1,b2,b3⟩:=vars4 w (RwL c b q cap n sl) x.l zWV zWk.l 42 72 42 72
 have HW_0:=Lib.hid b0
 have HX_0:=Lib.hid b1
 have HR0_0:=Lib.hid b2
 have HR1_0:=Lib.hid b3
 have HG_0:=Lib.hid hg
 have HH:=Lib.hid h
 have HOK:=Lib.hid hok
 obtain ⟨LW,hLW⟩:∃ L,RwL c b q cap n sl = L:=⟨_,rfl⟩
 obtain ⟨LX,hLX⟩:∃ L,x.l = L:=⟨_,rfl⟩
 rw [hLW,hLX] at hu ⊢
 simp only [zWk,Wk.l,zWV] at hu
 have HU:=Lib.hid hu
 have HLW:=Lib.hid hLW
 have HLX:=Lib.hid hLX
 clear hu hg b0 b1 b2 b3 h hok hLW hLX
 have hbl:b < w.heap.size:=World.block_lt_of_cell? w _ (HH.out.holds 0 (by rw [HH.out.len];exact q0))
 have t7:=HW_0.out.cell 7 _ rfl
 rw [← HU.out] at t7
 have t8:=HW_0.out.cell 8 _ rfl
 rw [← HU.out] at t8
 have t9:=HW_0.out.cell 9 _ rfl
 rw [← HU.out] at t9
 have t10:=HW_0.out.cell 10 _ rfl
 rw [← HU.out] at t10
 have t11:=HW_0.out.cell 11 _ rfl
 rw [← HU.out] at t11
 have t12:=HW_0.out.cell 12 _ rfl
 rw [← HU.out] at t12
 have t13:=HW_0.out.cell 13 _ rfl
 rw [← HU.out] at t13
 have t14:=HW_0.out.cell 14 _ rfl
 rw [← HU.out] at t14
 have t15:=HW_0.out.cell 15 _ rfl
 rw [← HU.out] at t15
 have t16:=HW_0.out.cell 16 _ rfl
 rw [← HU.out] at t16
 have x4:=HX_0.out.cell 4 _ rfl
 rw [← HU.out] at x4
 have x9:=HX_0.out.cell 9 _ rfl
 rw [← HU.out] at x9
 rw [hd] at x9
 clear hd
 go_enter Tryz.func32,Tryz.ntmps32
 go_wp2_with fail
 rw [HU.out]
 refine (rCarried_at _ hi c s _ _ _ _ _ (HH.out.grown HG_0.out).refs HOK.out hl5 x.curr ov HO.out).mono ?_;rintro e w_1 ⟨rfl,g_1⟩
 clear t7 t8 t9 t10 t11 t12 t13 t14 t15 t16 x4 x9
 have HW_1:=Lib.hid (HW_0.out.grown g_1)
 have HX_1:=Lib.hid (HX_0.out.grown g_1)
 have HR0_1:=Lib.hid (HR0_0.out.grown g_1)
 have HR1_1:=Lib.hid (HR1_0.out.grown g_1)
 have HG_1:=Lib.hid (gtr HG_0.out g_1)
 clear g_1
 have x2:=HX_1.out.cell 2 (.int .i64 x.phase) rfl
 go_wp2_with (first | (refine store_cell rfl 4 _ _ rfl (w.heap.size + 1) 9 rfl (.bool true) rfl rfl (x:Wk).l ({ x with done:=true }:Wk).l HX_1.out (Nat.le_of_ble_eq_true rfl) (by kernel_rfl) rfl ?_;intro w_2 B_ q_;have HX_2:=Lib.hid B_;have HW_2:=Lib.hid (HW_1.out.but q_ (by omega));have HR0_2:=Lib.hid (HR0_1.out.but q_ (by omega));have HR1_2:=Lib.hid (HR1_1.out.but q_ (by omega));have HG_2:Hid (Grown w w_2):=Lib.hid (But.fresh HG_1.out q_ (fun i hi => by omega));clear B_ q_) | fail)
 clear x2
 have HA_2:=HW_2
 have HQ_2:=Lib.hid ((HH.out.grown HG_2.out).holds)
 refine wp_region_planb (fun i => i = (w.heap.size + 1 + 1) ∨ i = (w.heap.size + 1 + 1 + 1)) (.one [0,1] 2 (.one [] 3 (.fin []))) (by kernel_rfl) (by kernel_rfl) (by kernel_rfl) ?_
 intro w_11 g_11
 have HQ_11:=Lib.hid (HQ_2.out.grown g_11)
 have HW_11:=Lib.hid (HW_2.out.grown g_11)
 have HX_11:=Lib.hid (HX_2.out.grown g_11)
 have HR0_11:=Lib.hid (HR0_2.out.grown g_11)
 have HR1_11:=Lib.hid (HR1_2.out.grown g_11)
 have HA_11:=Lib.hid (HA_2.out.grown g_11)
 have HG_11:=Lib.hid (gtr HG_2.out g_11)
 refine plan_one ?_
 try simp only [Act.put]
 simp only [nths,nth,List.map_cons,List.map_nil,List.getD_cons_zero,List.getD_cons_succ]
 refine wpQuiet_load_box rfl 42 _ rfl w.heap.size rfl _ _ Tryz.underlying42 rfl (by kernel_rfl) (Box.butw HA_11.out (by rintro (h | h) <;> omega)) ?_
 simp only [Act.put,List.setIfInBounds_toArray,List.set_cons_succ,List.set_cons_zero]
 refine wpQuiet_load_box rfl 72 _ rfl (w.heap.size + 1) rfl _ _ Tryz.underlying72 rfl (by kernel_rfl) (Box.butw HX_11.out (by rintro (h | h) <;> omega)) ?_
 simp only [Act.put,List.setIfInBounds_toArray,List.set_cons_succ,List.set_cons_zero]
 refine wpQuiet_nil ?_
 go_wp2_with (first | (refine store_box rfl 42 _ _ rfl (w.heap.size + 1 + 1) _ HR0_11.out _ rfl rfl rfl (by kernel_rfl) rfl ?_;intro w_12 B_ q_;have HE0:=Lib.hid B_;have QE0:=Lib.hid q_;have HR1_12:=Lib.hid (HR1_11.out.but q_ (by omega));clear B_ q_) | fail)
 refine nxt_but (QE0.out.mono fun i hi => .inl hi) (plan_one ?_)
 simp only [nths,nth,List.map_nil,List.getD_cons_zero,List.getD_cons_succ]
 refine wpQuiet_nil ?_
 go_wp2_with (first | (refine store_box rfl 72 _ _ rfl (w.heap.size + 1 + 1 + 1) _ HR1_12.out _ rfl rfl rfl (by kernel_rfl) rfl ?_;intro w_13 B_ q_;have HE1:=Lib.hid B_;have QE1:=Lib.hid q_;have HE0_13:=Lib.hid (HE0.out.but q_ (by omega));clear B_ q_) | fail)
 have QE:But (fun i => i = (w.heap.size + 1 + 1) ∨ i = (w.heap.size + 1 + 1 + 1)) w_11 w_13:=(QE0.out.mono fun i hi => .inl hi).trans (QE1.out.mono fun i hi => .inr hi)
 refine nxt_but QE (plan_fin ?_)
 simp only [nths,List.map_nil]
 refine wpQuiet_nil ?_
 go_wp2_with fail
 exact bodyPost_ret (v:=.tuple #[.agg (RwL c b q cap (n) sl).toArray,.agg (({ x with done:=true }:Wk)).l.toArray]) (results_cc (ty:=42) (ty':=72) rfl rfl (load_run HE0_13.out 42 _ Tryz.underlying42 rfl (by kernel_rfl)) rfl (load_run HE1.out 72 _ Tryz.underlying72 rfl (by kernel_rfl))) rfl ⟨b,cap,by rw [← HZ.out],But.fresh HG_11.out QE (fun i hi => by rcases hi with h | h <;> omega),by rw [← HZ.out];exact HQ_11.out.but QE (by rintro (h | h) <;> omega),by omega⟩
end Go.Proofs.YtmokcgifknmchaaGreat
