/- The document's walk (corrieref10): unlink, look. -/
import Derived.Test.YtmokcgifknmchaaGreatRWalkJ
namespace Go.Proofs.YtmokcgifknmchaaGreat
open Go.ChangeShapes Go.WideShapes Go.ChangeAt Go.RowKit
set_option maxRecDepth 100000
set_option linter.unusedVariables false
def RK (c:Cf) (sl:Sl) (b0 q:Nat) (z:Kd) (w:World) (e:Ending) (w':World):Prop :=
 ∃ b cap,e = .returned (.tuple #[.agg (RwL c b q cap z.n sl).toArray,.agg z.x.l.toArray]) ∧ Grown w w' ∧ Holds w' b z.ws ∧ (b = b0 ∨ w.heap.size ≤ b)
set_option maxHeartbeats 16000000 in
theorem rUnlink (w:World) (hi:Nat) (c:Cf) (b q cap:Nat) (ws:List Int) (n:Int) (s:St) (sl:Sl) (h:RwAt w hi c b q ws s sl) (hok:c.Ok) (hl:s.ops.length ≤ 99999) (hl5:s.nodes.length ≤ 99999) (x:Wk) (q0:0 < q) (n0:0 ≤ n) (n1:n < 4611686018427387904) (hw:∀ i:Int,0 ≤ rd ws i ∧ rd ws i ≤ 18446744073709551615) (b0:0 ≤ x.next) (b1:x.next ≤ 18446744073709551615) (u0:-9223372036854775808 ≤ x.curr) (u1:x.curr ≤ 9223372036854775807) (z:Kd) (hz:unlK c s ⟨ws,n,x⟩ = z) :
  Calls Tryz.prog 93 #[.agg (RwL c b q cap n sl).toArray,.agg x.l.toArray] w fun e w' => RK c sl b q z w e w':=by
 obtain ⟨v,hv⟩:∃ v,zPack x.curr false = v:=⟨_,rfl⟩
 obtain ⟨t,ht⟩:∃ t,x.next / 2 = t:=⟨_,rfl⟩
 obtain ⟨uu,hu2⟩:∃ v,zPack t false = v:=⟨_,rfl⟩
 obtain ⟨m,hm⟩:∃ m,may ws (nxtI c x.pred) v = m:=⟨_,rfl⟩
 obtain ⟨ws2,hws⟩:∃ y,sw ws (nxtI c x.pred) v uu = y:=⟨_,rfl⟩
 obtain ⟨n2,hn2⟩:∃ y,n + cnt ws (nxtI c x.pred) = y:=⟨_,rfl⟩
 have HV:=Lib.hid hv
 have HT:=Lib.hid ht
 have HU2:=Lib.hid hu2
 have HM:=Lib.hid hm
 have HWS:=Lib.hid hws
 have HN2:=Lib.hid hn2
 have hz':(⟨ws2,n2,if m then arrK s x t else { x with phase:=0 }⟩:Kd) = z:=by rw [← hz,← hws,← hn2,← hm,← hu2,← ht,← hv];rfl
 have hln:ws2.length = q:=by rw [← hws,length_sw];exact h.len
 have t0:-9223372036854775808 ≤ t:=by omega
 have t1:t ≤ 9223372036854775807:=by omega
 clear hz hv ht hu2 hm hws hn2
 cases m
 ·have HZ:Hid ((⟨ws2,n2,{ x with phase:=0 }⟩:Kd) = z):=Lib.hid hz'
  clear hz'
  obtain ⟨u,hu,hg,b0,b1,b2,b3⟩:=vars4 w (RwL c b q cap n sl) x.l zWV zWk.l 42 72 42 72
  have HW_0:=Lib.hid b0
  have HX_0:=Lib.hid b1
  have HR0_0:=Lib.hid b2
  have HR1_0:=Lib.hid b3
  have HG_0:=Lib.hid hg
  have HH:=Lib.hid h
  have HOK:=Lib.hid hok
  obtain ⟨LW,hLW⟩:∃ L,RwL c b q cap n sl = L:=⟨_,rfl⟩
  obtain ⟨LX,hLX⟩:∃ L,x.l = L:=⟨_,rfl⟩
  rw [hLW,hLX] at hu ⊢
  simp only [zWk,Wk.l,zWV] at hu
  have HU:=Lib.hid hu
  have HLW:=Lib.hid hLW
  have HLX:=Lib.hid hLX
  clear hu hg b0 b1 b2 b3 h hok hLW hLX
  have hbl:b < w.heap.size:=World.block_lt_of_cell? w _ (HH.out.holds 0 (by rw [HH.out.len];exact q0))
  have x5:=HX_0.out.cell 5 _ rfl
  rw [← HU.out] at x5
  go_enter Tryz.func93,Tryz.ntmps93
  go_wp2_with fail
  rw [HU.out]
  refine (refIndex_any _ _ b0 b1).mono ?_;rintro e w_1 ⟨rfl,g_1⟩
  rw [HT.out]
  clear x5
  have HW_1:=Lib.hid (HW_0.out.grown g_1)
  have HX_1:=Lib.hid (HX_0.out.grown g_1)
  have HR0_1:=Lib.hid (HR0_0.out.grown g_1)
  have HR1_1:=Lib.hid (HR1_0.out.grown g_1)
  have HG_1:=Lib.hid (gtr HG_0.out g_1)
  clear g_1
  go_wp2_with fail
  go_cut [7,8] from 9 to 34 (fun s7 s8 wx => ∃ (Y b2 cp2:Nat),s7 = .pointer (some ⟨Y,0,none⟩) ∧ s8 = .bool false ∧ Grown w_1 wx ∧ Hid (Box wx Y (RwL c b2 q cp2 n2 sl) ∧ Holds wx b2 ws2 ∧ (b2 = b ∨ w.heap.size + 4 ≤ b2) ∧ w.heap.size + 4 ≤ Y ∧ b2 ≠ Y))
  case first =>
   as_aux_lemma =>
    refine wp_region_plang (.two [0,1,2,3,4,6] 5 (.two [] 7 (.two [] 8 (.one [9,10,11] 12 (.one [] 13 (.fin [14]))) 12 (.one [] 8 (.one [9,10,11] 13 (.fin [14])))) 12 (.one [] 7 (.one [] 8 (.one [9,10,11] 13 (.fin [14]))))) 12 (.one [] 5 (.one [] 7 (.one [] 8 (.one [9,10,11] 13 (.fin [14])))))) (by kernel_rfl) (by kernel_rfl) (by kernel_rfl) ?_
    intro w_2 g_2
    have HW_2:=Lib.hid (HW_1.out.grown g_2)
    have HX_2:=Lib.hid (HX_1.out.grown g_2)
    have HR0_2:=Lib.hid (HR0_1.out.grown g_2)
    have HR1_2:=Lib.hid (HR1_1.out.grown g_2)
    have HG_2:=Lib.hid (gtr HG_1.out g_2)
    have hs0:w.heap.size + 4 ≤ w_2.heap.size:=by have:=HR1_2.out.lt;omega
    have HH9_2:=Lib.hid (HH.out.grown HG_2.out).holds
    have x3:∀ g:GrW w_2,g.w.cell? ⟨(w.heap.size + 1),3,none⟩ = some (.int .i64 x.pred):=GrW.cell (HX_2.out.cell 3 _ rfl)
    have x4:∀ g:GrW w_2,g.w.cell? ⟨(w.heap.size + 1),4,none⟩ = some (.int .i64 x.curr):=GrW.cell (HX_2.out.cell 4 _ rfl)
    refine plan_two ?_
    try simp only [Act.put]
    simp only [nths,nth,List.map_cons,List.map_nil,List.getD_cons_zero,List.getD_cons_succ]
    refine wpQuiet_load_box rfl 42 _ rfl w.heap.size rfl _ _ Tryz.underlying42 rfl (by kernel_rfl) (Box.grw HW_2.out) ?_
    simp only [Act.put,List.setIfInBounds_toArray,List.set_cons_succ,List.set_cons_zero]
    repeat go_big_quiet_step (fail)
    clear  x3 x4
    refine wpQuiet_nil ⟨?_,?_⟩
    ·go_wp2_with fail
     refine (Pack_r _ HV.out u0 u1).mono ?_;rintro e v_0 ⟨rfl,g_v_0⟩
     have gc_0:Grown w_2 v_0:=g_v_0
     have hs_0:w_2.heap.size ≤ v_0.heap.size:=g_v_0.2.2
     go_wp2_with fail
     refine nxt_stay gc_0 (plan_two ?_)
     simp only [nths,nth,List.map_nil,List.getD_cons_zero,List.getD_cons_succ]
     refine wpQuiet_nil ⟨?_,?_⟩
     ·go_wp2_with fail
      refine (Pack_r _ HU2.out t0 t1).mono ?_;rintro e v_1 ⟨rfl,g_v_1⟩
      have gc_1:Grown w_2 v_1:=gtr gc_0 g_v_1
      have hs_1:v_0.heap.size ≤ v_1.heap.size:=g_v_1.2.2
      go_wp2_with fail
      refine nxt_stay gc_1 (plan_two ?_)
      simp only [nths,nth,List.map_nil,List.getD_cons_zero,List.getD_cons_succ]
      refine wpQuiet_nil ⟨?_,?_⟩
      ·go_wp2_with fail
       have hQ:=rqLink _ c sl b q cap ws n x.pred v uu HH.out.len (HH9_2.out.grown gc_1) HH.out.few n0 n1
       rw [HWS.out,HN2.out,HM.out] at hQ
       refine hQ.mono ?_;rintro e v_2 ⟨b2,cp2,rfl,g_v_2,hh2,ho2⟩
       clear hQ
       have hb2:b2 < v_2.heap.size:=World.block_lt_of_cell? v_2 _ (hh2 0 (by rw [hln];exact q0))
       replace hh2:=Lib.hid hh2
       have gc_2:Grown w_2 v_2:=gtr gc_1 g_v_2
       have hs_2:v_1.heap.size ≤ v_2.heap.size:=g_v_2.2.2
       simp only [RwL]
       go_wp2_with fail
       refine nxt_stay gc_2 (plan_one ?_)
       simp only [nths,nth,List.map_cons,List.map_nil,List.getD_cons_zero,List.getD_cons_succ]
       repeat go_big_quiet_step (fail)
       refine wpQuiet_nil ?_
       go_wp2_with fail
       have g8:Grown v_2 (v_2.alloc (.cells #[.int .i64 0,.int .i64 0,.int .i64 0,.int .i64 0,.int .i64 0,.slice none 0 0,.int .i64 0,.int .i64 0,.int .i64 0,.int .i64 0,.int .i64 0,.int .i64 0,.slice none 0 0,.slice none 0 0,.slice none 0 0,.slice none 0 0,.slice none 0 0] 42)):=by go_grown
       have BX:=Box.made v_2 zWV 42
       have hsz:(v_2.alloc (.cells #[.int .i64 0,.int .i64 0,.int .i64 0,.int .i64 0,.int .i64 0,.slice none 0 0,.int .i64 0,.int .i64 0,.int .i64 0,.int .i64 0,.int .i64 0,.int .i64 0,.slice none 0 0,.slice none 0 0,.slice none 0 0,.slice none 0 0,.slice none 0 0] 42)).heap.size = v_2.heap.size + 1:=by simp
       change Box (v_2.alloc (.cells #[.int .i64 0,.int .i64 0,.int .i64 0,.int .i64 0,.int .i64 0,.slice none 0 0,.int .i64 0,.int .i64 0,.int .i64 0,.int .i64 0,.int .i64 0,.int .i64 0,.slice none 0 0,.slice none 0 0,.slice none 0 0,.slice none 0 0,.slice none 0 0] 42)) v_2.heap.size _ at BX
       obtain ⟨Y,hY⟩:∃ X,v_2.heap.size = X:=⟨_,rfl⟩
       rw [hY] at BX hsz ⊢
       replace BX:=Lib.hid BX
       generalize v_2.alloc (.cells #[.int .i64 0,.int .i64 0,.int .i64 0,.int .i64 0,.int .i64 0,.slice none 0 0,.int .i64 0,.int .i64 0,.int .i64 0,.int .i64 0,.int .i64 0,.int .i64 0,.slice none 0 0,.slice none 0 0,.slice none 0 0,.slice none 0 0,.slice none 0 0] 42) = v_3 at *
       have gc_3:Grown w_2 v_3:=gtr gc_2 g8
       replace hh2:=Lib.hid (hh2.out.grown g8)
       refine nxt_stay gc_3 (plan_one ?_)
       simp only [nths,nth,List.map_nil,List.getD_cons_zero,List.getD_cons_succ]
       refine wpQuiet_nil ?_
       go_wp2_with (first | (refine store_box rfl 42 _ _ rfl Y _ BX.out _ rfl rfl rfl (by kernel_rfl) rfl ?_;intro v_9 B_ q_;have HB9:=Lib.hid B_;have q9:=Lib.hid q_;clear B_ q_) | fail)
       have gF:Grown w_2 v_9:=But.fresh gc_3 q9.out (fun i hi => by omega)
       refine nxt_stay gF (plan_fin ?_)
       simp only [nths,nth,List.map_cons,List.map_nil,List.getD_cons_zero,List.getD_cons_succ]
       repeat go_big_quiet_step (fail)
       refine wpQuiet_nil ?_
       go_wp2_with fail
       go_meet
       case rel => exact ⟨Y,b2,cp2,rfl,rfl,gtr g_2 gF,Lib.hid ⟨HB9.out,hh2.out.but q9.out (by omega),by omega,by omega,by omega⟩⟩
      ·go_wp2_with fail
       have g8:Grown v_1 (v_1.alloc (.cells #[.int .i64 0,.int .i64 0,.int .i64 0,.int .i64 0,.int .i64 0,.slice none 0 0,.int .i64 0,.int .i64 0,.int .i64 0,.int .i64 0,.int .i64 0,.int .i64 0,.slice none 0 0,.slice none 0 0,.slice none 0 0,.slice none 0 0,.slice none 0 0] 42)):=by go_grown
       have BX:=Box.made v_1 zWV 42
       have hsz:(v_1.alloc (.cells #[.int .i64 0,.int .i64 0,.int .i64 0,.int .i64 0,.int .i64 0,.slice none 0 0,.int .i64 0,.int .i64 0,.int .i64 0,.int .i64 0,.int .i64 0,.int .i64 0,.slice none 0 0,.slice none 0 0,.slice none 0 0,.slice none 0 0,.slice none 0 0] 42)).heap.size = v_1.heap.size + 1:=by simp
       change Box (v_1.alloc (.cells #[.int .i64 0,.int .i64 0,.int .i64 0,.int .i64 0,.int .i64 0,.slice none 0 0,.int .i64 0,.int .i64 0,.int .i64 0,.int .i64 0,.int .i64 0,.int .i64 0,.slice none 0 0,.slice none 0 0,.slice none 0 0,.slice none 0 0,.slice none 0 0] 42)) v_1.heap.size _ at BX
       obtain ⟨Y,hY⟩:∃ X,v_1.heap.size = X:=⟨_,rfl⟩
       rw [hY] at BX hsz ⊢
       replace BX:=Lib.hid BX
       generalize v_1.alloc (.cells #[.int .i64 0,.int .i64 0,.int .i64 0,.int .i64 0,.int .i64 0,.slice none 0 0,.int .i64 0,.int .i64 0,.int .i64 0,.int .i64 0,.int .i64 0,.int .i64 0,.slice none 0 0,.slice none 0 0,.slice none 0 0,.slice none 0 0,.slice none 0 0] 42) = v_2 at *
       have gc_2:Grown w_2 v_2:=gtr gc_1 g8
       refine nxt_stay gc_2 (plan_one ?_)
       simp only [nths,nth,List.map_nil,List.getD_cons_zero,List.getD_cons_succ]
       refine wpQuiet_nil ?_
       go_wp2_with fail
       have hQ:=rqLink _ c sl b q cap ws n x.pred v uu HH.out.len (HH9_2.out.grown gc_2) HH.out.few n0 n1
       rw [HWS.out,HN2.out,HM.out] at hQ
       refine hQ.mono ?_;rintro e v_3 ⟨b2,cp2,rfl,g_v_3,hh2,ho2⟩
       clear hQ
       have hb2:b2 < v_3.heap.size:=World.block_lt_of_cell? v_3 _ (hh2 0 (by rw [hln];exact q0))
       replace hh2:=Lib.hid hh2
       have gc_3:Grown w_2 v_3:=gtr gc_2 g_v_3
       have hs_3:v_2.heap.size ≤ v_3.heap.size:=g_v_3.2.2
       replace BX:=Lib.hid (BX.out.grown g_v_3)
       simp only [RwL]
       go_wp2_with fail
       refine nxt_stay gc_3 (plan_one ?_)
       simp only [nths,nth,List.map_cons,List.map_nil,List.getD_cons_zero,List.getD_cons_succ]
       repeat go_big_quiet_step (fail)
       refine wpQuiet_nil ?_
       go_wp2_with (first | (refine store_box rfl 42 _ _ rfl Y _ BX.out _ rfl rfl rfl (by kernel_rfl) rfl ?_;intro v_9 B_ q_;have HB9:=Lib.hid B_;have q9:=Lib.hid q_;clear B_ q_) | fail)
       have gF:Grown w_2 v_9:=But.fresh gc_3 q9.out (fun i hi => by omega)
       refine nxt_stay gF (plan_fin ?_)
       simp only [nths,nth,List.map_cons,List.map_nil,List.getD_cons_zero,List.getD_cons_succ]
       repeat go_big_quiet_step (fail)
       refine wpQuiet_nil ?_
       go_wp2_with fail
       go_meet
       case rel => exact ⟨Y,b2,cp2,rfl,rfl,gtr g_2 gF,Lib.hid ⟨HB9.out,hh2.out.but q9.out (by omega),by omega,by omega,by omega⟩⟩
     ·go_wp2_with fail
      have g8:Grown v_0 (v_0.alloc (.cells #[.int .i64 0,.int .i64 0,.int .i64 0,.int .i64 0,.int .i64 0,.slice none 0 0,.int .i64 0,.int .i64 0,.int .i64 0,.int .i64 0,.int .i64 0,.int .i64 0,.slice none 0 0,.slice none 0 0,.slice none 0 0,.slice none 0 0,.slice none 0 0] 42)):=by go_grown
      have BX:=Box.made v_0 zWV 42
      have hsz:(v_0.alloc (.cells #[.int .i64 0,.int .i64 0,.int .i64 0,.int .i64 0,.int .i64 0,.slice none 0 0,.int .i64 0,.int .i64 0,.int .i64 0,.int .i64 0,.int .i64 0,.int .i64 0,.slice none 0 0,.slice none 0 0,.slice none 0 0,.slice none 0 0,.slice none 0 0] 42)).heap.size = v_0.heap.size + 1:=by simp
      change Box (v_0.alloc (.cells #[.int .i64 0,.int .i64 0,.int .i64 0,.int .i64 0,.int .i64 0,.slice none 0 0,.int .i64 0,.int .i64 0,.int .i64 0,.int .i64 0,.int .i64 0,.int .i64 0,.slice none 0 0,.slice none 0 0,.slice none 0 0,.slice none 0 0,.slice none 0 0] 42)) v_0.heap.size _ at BX
      obtain ⟨Y,hY⟩:∃ X,v_0.heap.size = X:=⟨_,rfl⟩
      rw [hY] at BX hsz ⊢
      replace BX:=Lib.hid BX
      generalize v_0.alloc (.cells #[.int .i64 0,.int .i64 0,.int .i64 0,.int .i64 0,.int .i64 0,.slice none 0 0,.int .i64 0,.int .i64 0,.int .i64 0,.int .i64 0,.int .i64 0,.int .i64 0,.slice none 0 0,.slice none 0 0,.slice none 0 0,.slice none 0 0,.slice none 0 0] 42) = v_1 at *
      have gc_1:Grown w_2 v_1:=gtr gc_0 g8
      refine nxt_stay gc_1 (plan_one ?_)
      simp only [nths,nth,List.map_nil,List.getD_cons_zero,List.getD_cons_succ]
      refine wpQuiet_nil ?_
      go_wp2_with fail
      refine (Pack_r _ HU2.out t0 t1).mono ?_;rintro e v_2 ⟨rfl,g_v_2⟩
      have gc_2:Grown w_2 v_2:=gtr gc_1 g_v_2
      have hs_2:v_1.heap.size ≤ v_2.heap.size:=g_v_2.2.2
      replace BX:=Lib.hid (BX.out.grown g_v_2)
      go_wp2_with fail
      refine nxt_stay gc_2 (plan_one ?_)
      simp only [nths,nth,List.map_nil,List.getD_cons_zero,List.getD_cons_succ]
      refine wpQuiet_nil ?_
      go_wp2_with fail
      have hQ:=rqLink _ c sl b q cap ws n x.pred v uu HH.out.len (HH9_2.out.grown gc_2) HH.out.few n0 n1
      rw [HWS.out,HN2.out,HM.out] at hQ
      refine hQ.mono ?_;rintro e v_3 ⟨b2,cp2,rfl,g_v_3,hh2,ho2⟩
      clear hQ
      have hb2:b2 < v_3.heap.size:=World.block_lt_of_cell? v_3 _ (hh2 0 (by rw [hln];exact q0))
      replace hh2:=Lib.hid hh2
      have gc_3:Grown w_2 v_3:=gtr gc_2 g_v_3
      have hs_3:v_2.heap.size ≤ v_3.heap.size:=g_v_3.2.2
      replace BX:=Lib.hid (BX.out.grown g_v_3)
      simp only [RwL]
      go_wp2_with fail
      refine nxt_stay gc_3 (plan_one ?_)
      simp only [nths,nth,List.map_cons,List.map_nil,List.getD_cons_zero,List.getD_cons_succ]
      repeat go_big_quiet_step (fail)
      refine wpQuiet_nil ?_
      go_wp2_with (first | (refine store_box rfl 42 _ _ rfl Y _ BX.out _ rfl rfl rfl (by kernel_rfl) rfl ?_;intro v_9 B_ q_;have HB9:=Lib.hid B_;have q9:=Lib.hid q_;clear B_ q_) | fail)
      have gF:Grown w_2 v_9:=But.fresh gc_3 q9.out (fun i hi => by omega)
      refine nxt_stay gF (plan_fin ?_)
      simp only [nths,nth,List.map_cons,List.map_nil,List.getD_cons_zero,List.getD_cons_succ]
      repeat go_big_quiet_step (fail)
      refine wpQuiet_nil ?_
      go_wp2_with fail
      go_meet
      case rel => exact ⟨Y,b2,cp2,rfl,rfl,gtr g_2 gF,Lib.hid ⟨HB9.out,hh2.out.but q9.out (by omega),by omega,by omega,by omega⟩⟩
    ·go_wp2_with fail
     have g8:Grown w_2 (w_2.alloc (.cells #[.int .i64 0,.int .i64 0,.int .i64 0,.int .i64 0,.int .i64 0,.slice none 0 0,.int .i64 0,.int .i64 0,.int .i64 0,.int .i64 0,.int .i64 0,.int .i64 0,.slice none 0 0,.slice none 0 0,.slice none 0 0,.slice none 0 0,.slice none 0 0] 42)):=by go_grown
     have BX:=Box.made w_2 zWV 42
     have hsz:(w_2.alloc (.cells #[.int .i64 0,.int .i64 0,.int .i64 0,.int .i64 0,.int .i64 0,.slice none 0 0,.int .i64 0,.int .i64 0,.int .i64 0,.int .i64 0,.int .i64 0,.int .i64 0,.slice none 0 0,.slice none 0 0,.slice none 0 0,.slice none 0 0,.slice none 0 0] 42)).heap.size = w_2.heap.size + 1:=by simp
     change Box (w_2.alloc (.cells #[.int .i64 0,.int .i64 0,.int .i64 0,.int .i64 0,.int .i64 0,.slice none 0 0,.int .i64 0,.int .i64 0,.int .i64 0,.int .i64 0,.int .i64 0,.int .i64 0,.slice none 0 0,.slice none 0 0,.slice none 0 0,.slice none 0 0,.slice none 0 0] 42)) w_2.heap.size _ at BX
     obtain ⟨Y,hY⟩:∃ X,w_2.heap.size = X:=⟨_,rfl⟩
     rw [hY] at BX hsz ⊢
     replace BX:=Lib.hid BX
     generalize w_2.alloc (.cells #[.int .i64 0,.int .i64 0,.int .i64 0,.int .i64 0,.int .i64 0,.slice none 0 0,.int .i64 0,.int .i64 0,.int .i64 0,.int .i64 0,.int .i64 0,.int .i64 0,.slice none 0 0,.slice none 0 0,.slice none 0 0,.slice none 0 0,.slice none 0 0] 42) = v_0 at *
     have gc_0:Grown w_2 v_0:=g8
     refine nxt_stay gc_0 (plan_one ?_)
     simp only [nths,nth,List.map_nil,List.getD_cons_zero,List.getD_cons_succ]
     refine wpQuiet_nil ?_
     go_wp2_with fail
     refine (Pack_r _ HV.out u0 u1).mono ?_;rintro e v_1 ⟨rfl,g_v_1⟩
     have gc_1:Grown w_2 v_1:=gtr gc_0 g_v_1
     have hs_1:v_0.heap.size ≤ v_1.heap.size:=g_v_1.2.2
     replace BX:=Lib.hid (BX.out.grown g_v_1)
     go_wp2_with fail
     refine nxt_stay gc_1 (plan_one ?_)
     simp only [nths,nth,List.map_nil,List.getD_cons_zero,List.getD_cons_succ]
     refine wpQuiet_nil ?_
     go_wp2_with fail
     refine (Pack_r _ HU2.out t0 t1).mono ?_;rintro e v_2 ⟨rfl,g_v_2⟩
     have gc_2:Grown w_2 v_2:=gtr gc_1 g_v_2
     have hs_2:v_1.heap.size ≤ v_2.heap.size:=g_v_2.2.2
     replace BX:=Lib.hid (BX.out.grown g_v_2)
     go_wp2_with fail
     refine nxt_stay gc_2 (plan_one ?_)
     simp only [nths,nth,List.map_nil,List.getD_cons_zero,List.getD_cons_succ]
     refine wpQuiet_nil ?_
     go_wp2_with fail
     have hQ:=rqLink _ c sl b q cap ws n x.pred v uu HH.out.len (HH9_2.out.grown gc_2) HH.out.few n0 n1
     rw [HWS.out,HN2.out,HM.out] at hQ
     refine hQ.mono ?_;rintro e v_3 ⟨b2,cp2,rfl,g_v_3,hh2,ho2⟩
     clear hQ
     have hb2:b2 < v_3.heap.size:=World.block_lt_of_cell? v_3 _ (hh2 0 (by rw [hln];exact q0))
     replace hh2:=Lib.hid hh2
     have gc_3:Grown w_2 v_3:=gtr gc_2 g_v_3
     have hs_3:v_2.heap.size ≤ v_3.heap.size:=g_v_3.2.2
     replace BX:=Lib.hid (BX.out.grown g_v_3)
     simp only [RwL]
     go_wp2_with fail
     refine nxt_stay gc_3 (plan_one ?_)
     simp only [nths,nth,List.map_cons,List.map_nil,List.getD_cons_zero,List.getD_cons_succ]
     repeat go_big_quiet_step (fail)
     refine wpQuiet_nil ?_
     go_wp2_with (first | (refine store_box rfl 42 _ _ rfl Y _ BX.out _ rfl rfl rfl (by kernel_rfl) rfl ?_;intro v_9 B_ q_;have HB9:=Lib.hid B_;have q9:=Lib.hid q_;clear B_ q_) | fail)
     have gF:Grown w_2 v_9:=But.fresh gc_3 q9.out (fun i hi => by omega)
     refine nxt_stay gF (plan_fin ?_)
     simp only [nths,nth,List.map_cons,List.map_nil,List.getD_cons_zero,List.getD_cons_succ]
     repeat go_big_quiet_step (fail)
     refine wpQuiet_nil ?_
     go_wp2_with fail
     go_meet
     case rel => exact ⟨Y,b2,cp2,rfl,rfl,gtr g_2 gF,Lib.hid ⟨HB9.out,hh2.out.but q9.out (by omega),by omega,by omega,by omega⟩⟩
  case rest =>
  obtain ⟨Y,b2,cp2,rfl,rfl,gx,HC⟩:=hcut
  obtain ⟨w_9,hw9⟩:∃ x,x = wc:=⟨_,rfl⟩
  subst hw9
  have ho:=HC.out.2.2.1
  have hY:=HC.out.2.2.2.1
  have hbY:=HC.out.2.2.2.2
  have hYl:=HC.out.1.lt
  have HA_9:=Lib.hid HC.out.1
  have HQ_9:=Lib.hid HC.out.2.1
  have HW_9:=Lib.hid (HW_1.out.grown gx)
  have HX_9:=Lib.hid (HX_1.out.grown gx)
  have HR0_9:=Lib.hid (HR0_1.out.grown gx)
  have HR1_9:=Lib.hid (HR1_1.out.grown gx)
  have HG_9:=Lib.hid (gtr HG_1.out gx)
  clear gx HC
  go_wp2_with (first | (refine store_cell rfl 3 _ _ rfl (w.heap.size + 1) 2 rfl (.int .i64 0) rfl rfl (x:Wk).l ({ x with phase:=0 }:Wk).l HX_9.out (Nat.le_of_ble_eq_true rfl) (by kernel_rfl) rfl ?_;intro w_10 B_ q_;have HX_10:=Lib.hid B_;have HW_10:=Lib.hid (HW_9.out.but q_ (by omega));have HR0_10:=Lib.hid (HR0_9.out.but q_ (by omega));have HR1_10:=Lib.hid (HR1_9.out.but q_ (by omega));have HA_10:=Lib.hid (HA_9.out.but q_ (by omega));have HG_10:Hid (Grown w w_10):=Lib.hid (But.fresh HG_9.out q_ (fun i hi => by omega));have HQ_10:=Lib.hid (HQ_9.out.but q_ (by omega));clear B_ q_) | fail)
  refine wp_region_planb (fun i => i = (w.heap.size + 1 + 1) ∨ i = (w.heap.size + 1 + 1 + 1)) (.one [0,1] 2 (.one [] 3 (.fin []))) (by kernel_rfl) (by kernel_rfl) (by kernel_rfl) ?_
  intro w_11 g_11
  have HQ_11:=Lib.hid (HQ_10.out.grown g_11)
  have HW_11:=Lib.hid (HW_10.out.grown g_11)
  have HX_11:=Lib.hid (HX_10.out.grown g_11)
  have HR0_11:=Lib.hid (HR0_10.out.grown g_11)
  have HR1_11:=Lib.hid (HR1_10.out.grown g_11)
  have HA_11:=Lib.hid (HA_10.out.grown g_11)
  have HG_11:=Lib.hid (gtr HG_10.out g_11)
  refine plan_one ?_
  try simp only [Act.put]
  simp only [nths,nth,List.map_cons,List.map_nil,List.getD_cons_zero,List.getD_cons_succ]
  refine wpQuiet_load_box rfl 42 _ rfl Y rfl _ _ Tryz.underlying42 rfl (by kernel_rfl) (Box.butw HA_11.out (by rintro (h | h) <;> omega)) ?_
  simp only [Act.put,List.setIfInBounds_toArray,List.set_cons_succ,List.set_cons_zero]
  refine wpQuiet_load_box rfl 72 _ rfl (w.heap.size + 1) rfl _ _ Tryz.underlying72 rfl (by kernel_rfl) (Box.butw HX_11.out (by rintro (h | h) <;> omega)) ?_
  simp only [Act.put,List.setIfInBounds_toArray,List.set_cons_succ,List.set_cons_zero]
  refine wpQuiet_nil ?_
  go_wp2_with (first | (refine store_box rfl 42 _ _ rfl (w.heap.size + 1 + 1) _ HR0_11.out _ rfl rfl rfl (by kernel_rfl) rfl ?_;intro w_12 B_ q_;have HE0:=Lib.hid B_;have QE0:=Lib.hid q_;have HR1_12:=Lib.hid (HR1_11.out.but q_ (by omega));clear B_ q_) | fail)
  refine nxt_but (QE0.out.mono fun i hi => .inl hi) (plan_one ?_)
  simp only [nths,nth,List.map_nil,List.getD_cons_zero,List.getD_cons_succ]
  refine wpQuiet_nil ?_
  go_wp2_with (first | (refine store_box rfl 72 _ _ rfl (w.heap.size + 1 + 1 + 1) _ HR1_12.out _ rfl rfl rfl (by kernel_rfl) rfl ?_;intro w_13 B_ q_;have HE1:=Lib.hid B_;have QE1:=Lib.hid q_;have HE0_13:=Lib.hid (HE0.out.but q_ (by omega));clear B_ q_) | fail)
  have QE:But (fun i => i = (w.heap.size + 1 + 1) ∨ i = (w.heap.size + 1 + 1 + 1)) w_11 w_13:=(QE0.out.mono fun i hi => .inl hi).trans (QE1.out.mono fun i hi => .inr hi)
  refine nxt_but QE (plan_fin ?_)
  simp only [nths,List.map_nil]
  refine wpQuiet_nil ?_
  go_wp2_with fail
  exact bodyPost_ret (v:=.tuple #[.agg (RwL c b2 q cp2 (n2) sl).toArray,.agg (({ x with phase:=0 }:Wk)).l.toArray]) (results_cc (ty:=42) (ty':=72) rfl rfl (load_run HE0_13.out 42 _ Tryz.underlying42 rfl (by kernel_rfl)) rfl (load_run HE1.out 72 _ Tryz.underlying72 rfl (by kernel_rfl))) rfl ⟨b2,cp2,by rw [← HZ.out],But.fresh HG_11.out QE (fun i hi => by rcases hi with h | h <;> omega),by rw [← HZ.out];exact HQ_11.out.but QE (by rintro (h | h) <;> omega),by omega⟩
 ·have HZ:Hid ((⟨ws2,n2,arrA s { x with curr:=t }⟩:Kd) = z):=Lib.hid hz'
  clear hz'
  obtain ⟨u,hu,hg,b0,b1,b2,b3⟩:=vars4 w (RwL c b q cap n sl) x.l zWV zWk.l 42 72 42 72
  have HW_0:=Lib.hid b0
  have HX_0:=Lib.hid b1
  have HR0_0:=Lib.hid b2
  have HR1_0:=Lib.hid b3
  have HG_0:=Lib.hid hg
  have HH:=Lib.hid h
  have HOK:=Lib.hid hok
  obtain ⟨LW,hLW⟩:∃ L,RwL c b q cap n sl = L:=⟨_,rfl⟩
  obtain ⟨LX,hLX⟩:∃ L,x.l = L:=⟨_,rfl⟩
  rw [hLW,hLX] at hu ⊢
  simp only [zWk,Wk.l,zWV] at hu
  have HU:=Lib.hid hu
  have HLW:=Lib.hid hLW
  have HLX:=Lib.hid hLX
  clear hu hg b0 b1 b2 b3 h hok hLW hLX
  have hbl:b < w.heap.size:=World.block_lt_of_cell? w _ (HH.out.holds 0 (by rw [HH.out.len];exact q0))
  have x5:=HX_0.out.cell 5 _ rfl
  rw [← HU.out] at x5
  go_enter Tryz.func93,Tryz.ntmps93
  go_wp2_with fail
  rw [HU.out]
  refine (refIndex_any _ _ b0 b1).mono ?_;rintro e w_1 ⟨rfl,g_1⟩
  rw [HT.out]
  clear x5
  have HW_1:=Lib.hid (HW_0.out.grown g_1)
  have HX_1:=Lib.hid (HX_0.out.grown g_1)
  have HR0_1:=Lib.hid (HR0_0.out.grown g_1)
  have HR1_1:=Lib.hid (HR1_0.out.grown g_1)
  have HG_1:=Lib.hid (gtr HG_0.out g_1)
  clear g_1
  go_wp2_with fail
  go_cut [7,8] from 9 to 34 (fun s7 s8 wx => ∃ (Y b2 cp2:Nat),s7 = .pointer (some ⟨Y,0,none⟩) ∧ s8 = .bool true ∧ Grown w_1 wx ∧ Hid (Box wx Y (RwL c b2 q cp2 n2 sl) ∧ Holds wx b2 ws2 ∧ (b2 = b ∨ w.heap.size + 4 ≤ b2) ∧ w.heap.size + 4 ≤ Y ∧ b2 ≠ Y))
  case first =>
   as_aux_lemma =>
    refine wp_region_plang (.two [0,1,2,3,4,6] 5 (.two [] 7 (.two [] 8 (.one [9,10,11] 12 (.one [] 13 (.fin [14]))) 12 (.one [] 8 (.one [9,10,11] 13 (.fin [14])))) 12 (.one [] 7 (.one [] 8 (.one [9,10,11] 13 (.fin [14]))))) 12 (.one [] 5 (.one [] 7 (.one [] 8 (.one [9,10,11] 13 (.fin [14])))))) (by kernel_rfl) (by kernel_rfl) (by kernel_rfl) ?_
    intro w_2 g_2
    have HW_2:=Lib.hid (HW_1.out.grown g_2)
    have HX_2:=Lib.hid (HX_1.out.grown g_2)
    have HR0_2:=Lib.hid (HR0_1.out.grown g_2)
    have HR1_2:=Lib.hid (HR1_1.out.grown g_2)
    have HG_2:=Lib.hid (gtr HG_1.out g_2)
    have hs0:w.heap.size + 4 ≤ w_2.heap.size:=by have:=HR1_2.out.lt;omega
    have HH9_2:=Lib.hid (HH.out.grown HG_2.out).holds
    have x3:∀ g:GrW w_2,g.w.cell? ⟨(w.heap.size + 1),3,none⟩ = some (.int .i64 x.pred):=GrW.cell (HX_2.out.cell 3 _ rfl)
    have x4:∀ g:GrW w_2,g.w.cell? ⟨(w.heap.size + 1),4,none⟩ = some (.int .i64 x.curr):=GrW.cell (HX_2.out.cell 4 _ rfl)
    refine plan_two ?_
    try simp only [Act.put]
    simp only [nths,nth,List.map_cons,List.map_nil,List.getD_cons_zero,List.getD_cons_succ]
    refine wpQuiet_load_box rfl 42 _ rfl w.heap.size rfl _ _ Tryz.underlying42 rfl (by kernel_rfl) (Box.grw HW_2.out) ?_
    simp only [Act.put,List.setIfInBounds_toArray,List.set_cons_succ,List.set_cons_zero]
    repeat go_big_quiet_step (fail)
    clear  x3 x4
    refine wpQuiet_nil ⟨?_,?_⟩
    ·go_wp2_with fail
     refine (Pack_r _ HV.out u0 u1).mono ?_;rintro e v_0 ⟨rfl,g_v_0⟩
     have gc_0:Grown w_2 v_0:=g_v_0
     have hs_0:w_2.heap.size ≤ v_0.heap.size:=g_v_0.2.2
     go_wp2_with fail
     refine nxt_stay gc_0 (plan_two ?_)
     simp only [nths,nth,List.map_nil,List.getD_cons_zero,List.getD_cons_succ]
     refine wpQuiet_nil ⟨?_,?_⟩
     ·go_wp2_with fail
      refine (Pack_r _ HU2.out t0 t1).mono ?_;rintro e v_1 ⟨rfl,g_v_1⟩
      have gc_1:Grown w_2 v_1:=gtr gc_0 g_v_1
      have hs_1:v_0.heap.size ≤ v_1.heap.size:=g_v_1.2.2
      go_wp2_with fail
      refine nxt_stay gc_1 (plan_two ?_)
      simp only [nths,nth,List.map_nil,List.getD_cons_zero,List.getD_cons_succ]
      refine wpQuiet_nil ⟨?_,?_⟩
      ·go_wp2_with fail
       have hQ:=rqLink _ c sl b q cap ws n x.pred v uu HH.out.len (HH9_2.out.grown gc_1) HH.out.few n0 n1
       rw [HWS.out,HN2.out,HM.out] at hQ
       refine hQ.mono ?_;rintro e v_2 ⟨b2,cp2,rfl,g_v_2,hh2,ho2⟩
       clear hQ
       have hb2:b2 < v_2.heap.size:=World.block_lt_of_cell? v_2 _ (hh2 0 (by rw [hln];exact q0))
       replace hh2:=Lib.hid hh2
       have gc_2:Grown w_2 v_2:=gtr gc_1 g_v_2
       have hs_2:v_1.heap.size ≤ v_2.heap.size:=g_v_2.2.2
       simp only [RwL]
       go_wp2_with fail
       refine nxt_stay gc_2 (plan_one ?_)
       simp only [nths,nth,List.map_cons,List.map_nil,List.getD_cons_zero,List.getD_cons_succ]
       repeat go_big_quiet_step (fail)
       refine wpQuiet_nil ?_
       go_wp2_with fail
       have g8:Grown v_2 (v_2.alloc (.cells #[.int .i64 0,.int .i64 0,.int .i64 0,.int .i64 0,.int .i64 0,.slice none 0 0,.int .i64 0,.int .i64 0,.int .i64 0,.int .i64 0,.int .i64 0,.int .i64 0,.slice none 0 0,.slice none 0 0,.slice none 0 0,.slice none 0 0,.slice none 0 0] 42)):=by go_grown
       have BX:=Box.made v_2 zWV 42
       have hsz:(v_2.alloc (.cells #[.int .i64 0,.int .i64 0,.int .i64 0,.int .i64 0,.int .i64 0,.slice none 0 0,.int .i64 0,.int .i64 0,.int .i64 0,.int .i64 0,.int .i64 0,.int .i64 0,.slice none 0 0,.slice none 0 0,.slice none 0 0,.slice none 0 0,.slice none 0 0] 42)).heap.size = v_2.heap.size + 1:=by simp
       change Box (v_2.alloc (.cells #[.int .i64 0,.int .i64 0,.int .i64 0,.int .i64 0,.int .i64 0,.slice none 0 0,.int .i64 0,.int .i64 0,.int .i64 0,.int .i64 0,.int .i64 0,.int .i64 0,.slice none 0 0,.slice none 0 0,.slice none 0 0,.slice none 0 0,.slice none 0 0] 42)) v_2.heap.size _ at BX
       obtain ⟨Y,hY⟩:∃ X,v_2.heap.size = X:=⟨_,rfl⟩
       rw [hY] at BX hsz ⊢
       replace BX:=Lib.hid BX
       generalize v_2.alloc (.cells #[.int .i64 0,.int .i64 0,.int .i64 0,.int .i64 0,.int .i64 0,.slice none 0 0,.int .i64 0,.int .i64 0,.int .i64 0,.int .i64 0,.int .i64 0,.int .i64 0,.slice none 0 0,.slice none 0 0,.slice none 0 0,.slice none 0 0,.slice none 0 0] 42) = v_3 at *
       have gc_3:Grown w_2 v_3:=gtr gc_2 g8
       replace hh2:=Lib.hid (hh2.out.grown g8)
       refine nxt_stay gc_3 (plan_one ?_)
       simp only [nths,nth,List.map_nil,List.getD_cons_zero,List.getD_cons_succ]
       refine wpQuiet_nil ?_
       go_wp2_with (first | (refine store_box rfl 42 _ _ rfl Y _ BX.out _ rfl rfl rfl (by kernel_rfl) rfl ?_;intro v_9 B_ q_;have HB9:=Lib.hid B_;have q9:=Lib.hid q_;clear B_ q_) | fail)
       have gF:Grown w_2 v_9:=But.fresh gc_3 q9.out (fun i hi => by omega)
       refine nxt_stay gF (plan_fin ?_)
       simp only [nths,nth,List.map_cons,List.map_nil,List.getD_cons_zero,List.getD_cons_succ]
       repeat go_big_quiet_step (fail)
       refine wpQuiet_nil ?_
       go_wp2_with fail
       go_meet
       case rel => exact ⟨Y,b2,cp2,rfl,rfl,gtr g_2 gF,Lib.hid ⟨HB9.out,hh2.out.but q9.out (by omega),by omega,by omega,by omega⟩⟩
      ·go_wp2_with fail
       have g8:Grown v_1 (v_1.alloc (.cells #[.int .i64 0,.int .i64 0,.int .i64 0,.int .i64 0,.int .i64 0,.slice none 0 0,.int .i64 0,.int .i64 0,.int .i64 0,.int .i64 0,.int .i64 0,.int .i64 0,.slice none 0 0,.slice none 0 0,.slice none 0 0,.slice none 0 0,.slice none 0 0] 42)):=by go_grown
       have BX:=Box.made v_1 zWV 42
       have hsz:(v_1.alloc (.cells #[.int .i64 0,.int .i64 0,.int .i64 0,.int .i64 0,.int .i64 0,.slice none 0 0,.int .i64 0,.int .i64 0,.int .i64 0,.int .i64 0,.int .i64 0,.int .i64 0,.slice none 0 0,.slice none 0 0,.slice none 0 0,.slice none 0 0,.slice none 0 0] 42)).heap.size = v_1.heap.size + 1:=by simp
       change Box (v_1.alloc (.cells #[.int .i64 0,.int .i64 0,.int .i64 0,.int .i64 0,.int .i64 0,.slice none 0 0,.int .i64 0,.int .i64 0,.int .i64 0,.int .i64 0,.int .i64 0,.int .i64 0,.slice none 0 0,.slice none 0 0,.slice none 0 0,.slice none 0 0,.slice none 0 0] 42)) v_1.heap.size _ at BX
       obtain ⟨Y,hY⟩:∃ X,v_1.heap.size = X:=⟨_,rfl⟩
       rw [hY] at BX hsz ⊢
       replace BX:=Lib.hid BX
       generalize v_1.alloc (.cells #[.int .i64 0,.int .i64 0,.int .i64 0,.int .i64 0,.int .i64 0,.slice none 0 0,.int .i64 0,.int .i64 0,.int .i64 0,.int .i64 0,.int .i64 0,.int .i64 0,.slice none 0 0,.slice none 0 0,.slice none 0 0,.slice none 0 0,.slice none 0 0] 42) = v_2 at *
       have gc_2:Grown w_2 v_2:=gtr gc_1 g8
       refine nxt_stay gc_2 (plan_one ?_)
       simp only [nths,nth,List.map_nil,List.getD_cons_zero,List.getD_cons_succ]
       refine wpQuiet_nil ?_
       go_wp2_with fail
       have hQ:=rqLink _ c sl b q cap ws n x.pred v uu HH.out.len (HH9_2.out.grown gc_2) HH.out.few n0 n1
       rw [HWS.out,HN2.out,HM.out] at hQ
       refine hQ.mono ?_;rintro e v_3 ⟨b2,cp2,rfl,g_v_3,hh2,ho2⟩
       clear hQ
       have hb2:b2 < v_3.heap.size:=World.block_lt_of_cell? v_3 _ (hh2 0 (by rw [hln];exact q0))
       replace hh2:=Lib.hid hh2
       have gc_3:Grown w_2 v_3:=gtr gc_2 g_v_3
       have hs_3:v_2.heap.size ≤ v_3.heap.size:=g_v_3.2.2
       replace BX:=Lib.hid (BX.out.grown g_v_3)
       simp only [RwL]
       go_wp2_with fail
       refine nxt_stay gc_3 (plan_one ?_)
       simp only [nths,nth,List.map_cons,List.map_nil,List.getD_cons_zero,List.getD_cons_succ]
       repeat go_big_quiet_step (fail)
       refine wpQuiet_nil ?_
       go_wp2_with (first | (refine store_box rfl 42 _ _ rfl Y _ BX.out _ rfl rfl rfl (by kernel_rfl) rfl ?_;intro v_9 B_ q_;have HB9:=Lib.hid B_;have q9:=Lib.hid q_;clear B_ q_) | fail)
       have gF:Grown w_2 v_9:=But.fresh gc_3 q9.out (fun i hi => by omega)
       refine nxt_stay gF (plan_fin ?_)
       simp only [nths,nth,List.map_cons,List.map_nil,List.getD_cons_zero,List.getD_cons_succ]
       repeat go_big_quiet_step (fail)
       refine wpQuiet_nil ?_
       go_wp2_with fail
       go_meet
       case rel => exact ⟨Y,b2,cp2,rfl,rfl,gtr g_2 gF,Lib.hid ⟨HB9.out,hh2.out.but q9.out (by omega),by omega,by omega,by omega⟩⟩
     ·go_wp2_with fail
      have g8:Grown v_0 (v_0.alloc (.cells #[.int .i64 0,.int .i64 0,.int .i64 0,.int .i64 0,.int .i64 0,.slice none 0 0,.int .i64 0,.int .i64 0,.int .i64 0,.int .i64 0,.int .i64 0,.int .i64 0,.slice none 0 0,.slice none 0 0,.slice none 0 0,.slice none 0 0,.slice none 0 0] 42)):=by go_grown
      have BX:=Box.made v_0 zWV 42
      have hsz:(v_0.alloc (.cells #[.int .i64 0,.int .i64 0,.int .i64 0,.int .i64 0,.int .i64 0,.slice none 0 0,.int .i64 0,.int .i64 0,.int .i64 0,.int .i64 0,.int .i64 0,.int .i64 0,.slice none 0 0,.slice none 0 0,.slice none 0 0,.slice none 0 0,.slice none 0 0] 42)).heap.size = v_0.heap.size + 1:=by simp
      change Box (v_0.alloc (.cells #[.int .i64 0,.int .i64 0,.int .i64 0,.int .i64 0,.int .i64 0,.slice none 0 0,.int .i64 0,.int .i64 0,.int .i64 0,.int .i64 0,.int .i64 0,.int .i64 0,.slice none 0 0,.slice none 0 0,.slice none 0 0,.slice none 0 0,.slice none 0 0] 42)) v_0.heap.size _ at BX
      obtain ⟨Y,hY⟩:∃ X,v_0.heap.size = X:=⟨_,rfl⟩
      rw [hY] at BX hsz ⊢
      replace BX:=Lib.hid BX
      generalize v_0.alloc (.cells #[.int .i64 0,.int .i64 0,.int .i64 0,.int .i64 0,.int .i64 0,.slice none 0 0,.int .i64 0,.int .i64 0,.int .i64 0,.int .i64 0,.int .i64 0,.int .i64 0,.slice none 0 0,.slice none 0 0,.slice none 0 0,.slice none 0 0,.slice none 0 0] 42) = v_1 at *
      have gc_1:Grown w_2 v_1:=gtr gc_0 g8
      refine nxt_stay gc_1 (plan_one ?_)
      simp only [nths,nth,List.map_nil,List.getD_cons_zero,List.getD_cons_succ]
      refine wpQuiet_nil ?_
      go_wp2_with fail
      refine (Pack_r _ HU2.out t0 t1).mono ?_;rintro e v_2 ⟨rfl,g_v_2⟩
      have gc_2:Grown w_2 v_2:=gtr gc_1 g_v_2
      have hs_2:v_1.heap.size ≤ v_2.heap.size:=g_v_2.2.2
      replace BX:=Lib.hid (BX.out.grown g_v_2)
      go_wp2_with fail
      refine nxt_stay gc_2 (plan_one ?_)
      simp only [nths,nth,List.map_nil,List.getD_cons_zero,List.getD_cons_succ]
      refine wpQuiet_nil ?_
      go_wp2_with fail
      have hQ:=rqLink _ c sl b q cap ws n x.pred v uu HH.out.len (HH9_2.out.grown gc_2) HH.out.few n0 n1
      rw [HWS.out,HN2.out,HM.out] at hQ
      refine hQ.mono ?_;rintro e v_3 ⟨b2,cp2,rfl,g_v_3,hh2,ho2⟩
      clear hQ
      have hb2:b2 < v_3.heap.size:=World.block_lt_of_cell? v_3 _ (hh2 0 (by rw [hln];exact q0))
      replace hh2:=Lib.hid hh2
      have gc_3:Grown w_2 v_3:=gtr gc_2 g_v_3
      have hs_3:v_2.heap.size ≤ v_3.heap.size:=g_v_3.2.2
      replace BX:=Lib.hid (BX.out.grown g_v_3)
      simp only [RwL]
      go_wp2_with fail
      refine nxt_stay gc_3 (plan_one ?_)
      simp only [nths,nth,List.map_cons,List.map_nil,List.getD_cons_zero,List.getD_cons_succ]
      repeat go_big_quiet_step (fail)
      refine wpQuiet_nil ?_
      go_wp2_with (first | (refine store_box rfl 42 _ _ rfl Y _ BX.out _ rfl rfl rfl (by kernel_rfl) rfl ?_;intro v_9 B_ q_;have HB9:=Lib.hid B_;have q9:=Lib.hid q_;clear B_ q_) | fail)
      have gF:Grown w_2 v_9:=But.fresh gc_3 q9.out (fun i hi => by omega)
      refine nxt_stay gF (plan_fin ?_)
      simp only [nths,nth,List.map_cons,List.map_nil,List.getD_cons_zero,List.getD_cons_succ]
      repeat go_big_quiet_step (fail)
      refine wpQuiet_nil ?_
      go_wp2_with fail
      go_meet
      case rel => exact ⟨Y,b2,cp2,rfl,rfl,gtr g_2 gF,Lib.hid ⟨HB9.out,hh2.out.but q9.out (by omega),by omega,by omega,by omega⟩⟩
    ·go_wp2_with fail
     have g8:Grown w_2 (w_2.alloc (.cells #[.int .i64 0,.int .i64 0,.int .i64 0,.int .i64 0,.int .i64 0,.slice none 0 0,.int .i64 0,.int .i64 0,.int .i64 0,.int .i64 0,.int .i64 0,.int .i64 0,.slice none 0 0,.slice none 0 0,.slice none 0 0,.slice none 0 0,.slice none 0 0] 42)):=by go_grown
     have BX:=Box.made w_2 zWV 42
     have hsz:(w_2.alloc (.cells #[.int .i64 0,.int .i64 0,.int .i64 0,.int .i64 0,.int .i64 0,.slice none 0 0,.int .i64 0,.int .i64 0,.int .i64 0,.int .i64 0,.int .i64 0,.int .i64 0,.slice none 0 0,.slice none 0 0,.slice none 0 0,.slice none 0 0,.slice none 0 0] 42)).heap.size = w_2.heap.size + 1:=by simp
     change Box (w_2.alloc (.cells #[.int .i64 0,.int .i64 0,.int .i64 0,.int .i64 0,.int .i64 0,.slice none 0 0,.int .i64 0,.int .i64 0,.int .i64 0,.int .i64 0,.int .i64 0,.int .i64 0,.slice none 0 0,.slice none 0 0,.slice none 0 0,.slice none 0 0,.slice none 0 0] 42)) w_2.heap.size _ at BX
     obtain ⟨Y,hY⟩:∃ X,w_2.heap.size = X:=⟨_,rfl⟩
     rw [hY] at BX hsz ⊢
     replace BX:=Lib.hid BX
     generalize w_2.alloc (.cells #[.int .i64 0,.int .i64 0,.int .i64 0,.int .i64 0,.int .i64 0,.slice none 0 0,.int .i64 0,.int .i64 0,.int .i64 0,.int .i64 0,.int .i64 0,.int .i64 0,.slice none 0 0,.slice none 0 0,.slice none 0 0,.slice none 0 0,.slice none 0 0] 42) = v_0 at *
     have gc_0:Grown w_2 v_0:=g8
     refine nxt_stay gc_0 (plan_one ?_)
     simp only [nths,nth,List.map_nil,List.getD_cons_zero,List.getD_cons_succ]
     refine wpQuiet_nil ?_
     go_wp2_with fail
     refine (Pack_r _ HV.out u0 u1).mono ?_;rintro e v_1 ⟨rfl,g_v_1⟩
     have gc_1:Grown w_2 v_1:=gtr gc_0 g_v_1
     have hs_1:v_0.heap.size ≤ v_1.heap.size:=g_v_1.2.2
     replace BX:=Lib.hid (BX.out.grown g_v_1)
     go_wp2_with fail
     refine nxt_stay gc_1 (plan_one ?_)
     simp only [nths,nth,List.map_nil,List.getD_cons_zero,List.getD_cons_succ]
     refine wpQuiet_nil ?_
     go_wp2_with fail
     refine (Pack_r _ HU2.out t0 t1).mono ?_;rintro e v_2 ⟨rfl,g_v_2⟩
     have gc_2:Grown w_2 v_2:=gtr gc_1 g_v_2
     have hs_2:v_1.heap.size ≤ v_2.heap.size:=g_v_2.2.2
     replace BX:=Lib.hid (BX.out.grown g_v_2)
     go_wp2_with fail
     refine nxt_stay gc_2 (plan_one ?_)
     simp only [nths,nth,List.map_nil,List.getD_cons_zero,List.getD_cons_succ]
     refine wpQuiet_nil ?_
     go_wp2_with fail
     have hQ:=rqLink _ c sl b q cap ws n x.pred v uu HH.out.len (HH9_2.out.grown gc_2) HH.out.few n0 n1
     rw [HWS.out,HN2.out,HM.out] at hQ
     refine hQ.mono ?_;rintro e v_3 ⟨b2,cp2,rfl,g_v_3,hh2,ho2⟩
     clear hQ
     have hb2:b2 < v_3.heap.size:=World.block_lt_of_cell? v_3 _ (hh2 0 (by rw [hln];exact q0))
     replace hh2:=Lib.hid hh2
     have gc_3:Grown w_2 v_3:=gtr gc_2 g_v_3
     have hs_3:v_2.heap.size ≤ v_3.heap.size:=g_v_3.2.2
     replace BX:=Lib.hid (BX.out.grown g_v_3)
     simp only [RwL]
     go_wp2_with fail
     refine nxt_stay gc_3 (plan_one ?_)
     simp only [nths,nth,List.map_cons,List.map_nil,List.getD_cons_zero,List.getD_cons_succ]
     repeat go_big_quiet_step (fail)
     refine wpQuiet_nil ?_
     go_wp2_with (first | (refine store_box rfl 42 _ _ rfl Y _ BX.out _ rfl rfl rfl (by kernel_rfl) rfl ?_;intro v_9 B_ q_;have HB9:=Lib.hid B_;have q9:=Lib.hid q_;clear B_ q_) | fail)
     have gF:Grown w_2 v_9:=But.fresh gc_3 q9.out (fun i hi => by omega)
     refine nxt_stay gF (plan_fin ?_)
     simp only [nths,nth,List.map_cons,List.map_nil,List.getD_cons_zero,List.getD_cons_succ]
     repeat go_big_quiet_step (fail)
     refine wpQuiet_nil ?_
     go_wp2_with fail
     go_meet
     case rel => exact ⟨Y,b2,cp2,rfl,rfl,gtr g_2 gF,Lib.hid ⟨HB9.out,hh2.out.but q9.out (by omega),by omega,by omega,by omega⟩⟩
  case rest =>
  obtain ⟨Y,b2,cp2,rfl,rfl,gx,HC⟩:=hcut
  obtain ⟨w_9,hw9⟩:∃ x,x = wc:=⟨_,rfl⟩
  subst hw9
  have ho:=HC.out.2.2.1
  have hY:=HC.out.2.2.2.1
  have hbY:=HC.out.2.2.2.2
  have hYl:=HC.out.1.lt
  have HA_9:=Lib.hid HC.out.1
  have HQ_9:=Lib.hid HC.out.2.1
  have HW_9:=Lib.hid (HW_1.out.grown gx)
  have HX_9:=Lib.hid (HX_1.out.grown gx)
  have HR0_9:=Lib.hid (HR0_1.out.grown gx)
  have HR1_9:=Lib.hid (HR1_1.out.grown gx)
  have HG_9:=Lib.hid (gtr HG_1.out gx)
  clear gx HC
  go_wp2_with (first | (refine store_cell rfl 3 _ _ rfl (w.heap.size + 1) 4 rfl (.int .i64 t) rfl rfl (x:Wk).l ({ x with curr:=t }:Wk).l HX_9.out (Nat.le_of_ble_eq_true rfl) (by kernel_rfl) rfl ?_;intro w_10 B_ q_;have HX_10:=Lib.hid B_;have HW_10:=Lib.hid (HW_9.out.but q_ (by omega));have HR0_10:=Lib.hid (HR0_9.out.but q_ (by omega));have HR1_10:=Lib.hid (HR1_9.out.but q_ (by omega));have HA_10:=Lib.hid (HA_9.out.but q_ (by omega));have HG_10:Hid (Grown w w_10):=Lib.hid (But.fresh HG_9.out q_ (fun i hi => by omega));have HQ_10:=Lib.hid (HQ_9.out.but q_ (by omega));clear B_ q_) | fail)
  refine wp_region_planb (fun i => i = (w.heap.size + 1 + 1) ∨ i = (w.heap.size + 1 + 1 + 1)) (.one [0,1,2] 3 (.one [] 4 (.one [] 5 (.fin [])))) (by kernel_rfl) (by kernel_rfl) (by kernel_rfl) ?_
  intro w_11 g_11
  have HQ_11:=Lib.hid (HQ_10.out.grown g_11)
  have HW_11:=Lib.hid (HW_10.out.grown g_11)
  have HX_11:=Lib.hid (HX_10.out.grown g_11)
  have HR0_11:=Lib.hid (HR0_10.out.grown g_11)
  have HR1_11:=Lib.hid (HR1_10.out.grown g_11)
  have HA_11:=Lib.hid (HA_10.out.grown g_11)
  have HG_11:=Lib.hid (gtr HG_10.out g_11)
  refine plan_one ?_
  try simp only [Act.put]
  simp only [nths,nth,List.map_cons,List.map_nil,List.getD_cons_zero,List.getD_cons_succ]
  refine wpQuiet_load_box rfl 42 _ rfl Y rfl _ _ Tryz.underlying42 rfl (by kernel_rfl) (Box.butw HA_11.out (by rintro (h | h) <;> omega)) ?_
  simp only [Act.put,List.setIfInBounds_toArray,List.set_cons_succ,List.set_cons_zero]
  refine wpQuiet_load_box rfl 42 _ rfl Y rfl _ _ Tryz.underlying42 rfl (by kernel_rfl) (Box.butw HA_11.out (by rintro (h | h) <;> omega)) ?_
  simp only [Act.put,List.setIfInBounds_toArray,List.set_cons_succ,List.set_cons_zero]
  refine wpQuiet_load_box rfl 72 _ rfl (w.heap.size + 1) rfl _ _ Tryz.underlying72 rfl (by kernel_rfl) (Box.butw HX_11.out (by rintro (h | h) <;> omega)) ?_
  simp only [Act.put,List.setIfInBounds_toArray,List.set_cons_succ,List.set_cons_zero]
  refine wpQuiet_nil ?_
  go_wp2_with fail
  refine (rArrive _ hi c b2 q cp2 ws2 n2 s sl ⟨HQ_11.out,hln,HH.out.few,(HH.out.grown HG_11.out).refs,by have:=HH.out.lo;omega⟩ HOK.out hl hl5 { x with curr:=t } _ rfl).mono ?_;rintro e w_12 ⟨rfl,g_12⟩
  have HQ_12:=Lib.hid (HQ_11.out.grown g_12)
  have HR0_12:=Lib.hid (HR0_11.out.grown g_12)
  have HR1_12:=Lib.hid (HR1_11.out.grown g_12)
  have HG_12:=Lib.hid (gtr HG_11.out g_12)
  have GC:=Lib.hid g_12
  clear g_12
  go_wp2_with fail
  refine nxt_but (But.of_grown GC.out) (plan_one ?_)
  simp only [nths,nth,List.map_nil,List.getD_cons_zero,List.getD_cons_succ]
  refine wpQuiet_nil ?_
  go_wp2_with (first | (refine store_box rfl 42 _ _ rfl (w.heap.size + 1 + 1) _ HR0_12.out _ rfl rfl rfl (by kernel_rfl) rfl ?_;intro w_13 B_ q_;have HE0:=Lib.hid B_;have QE0:=Lib.hid q_;have HR1_13:=Lib.hid (HR1_12.out.but q_ (by omega));clear B_ q_) | fail)
  refine nxt_but ((But.of_grown GC.out).trans (QE0.out.mono fun i hi => .inl hi)) (plan_one ?_)
  simp only [nths,nth,List.map_nil,List.getD_cons_zero,List.getD_cons_succ]
  refine wpQuiet_nil ?_
  go_wp2_with (first | (refine store_box rfl 72 _ _ rfl (w.heap.size + 1 + 1 + 1) _ HR1_13.out _ rfl rfl rfl (by kernel_rfl) rfl ?_;intro w_14 B_ q_;have HE1:=Lib.hid B_;have QE1:=Lib.hid q_;have HE0_14:=Lib.hid (HE0.out.but q_ (by omega));clear B_ q_) | fail)
  have QE:But (fun i => i = (w.heap.size + 1 + 1) ∨ i = (w.heap.size + 1 + 1 + 1)) w_12 w_14:=(QE0.out.mono fun i hi => .inl hi).trans (QE1.out.mono fun i hi => .inr hi)
  refine nxt_but ((But.of_grown GC.out).trans QE) (plan_fin ?_)
  simp only [nths,List.map_nil]
  refine wpQuiet_nil ?_
  go_wp2_with fail
  exact bodyPost_ret (v:=.tuple #[.agg (RwL c b2 q cp2 (n2) sl).toArray,.agg (arrA s { x with curr:=t }).l.toArray]) (results_cc (ty:=42) (ty':=72) rfl rfl (load_run HE0_14.out 42 _ Tryz.underlying42 rfl (by kernel_rfl)) rfl (load_run HE1.out 72 _ Tryz.underlying72 rfl (by kernel_rfl))) rfl ⟨b2,cp2,by rw [← HZ.out],But.fresh HG_12.out QE (fun i hi => by rcases hi with h | h <;> omega),by rw [← HZ.out];exact HQ_12.out.but QE (by rintro (h | h) <;> omega),by omega⟩
end Go.Proofs.YtmokcgifknmchaaGreat
