/- Package place: what is done in a phase: lay, setOut, ask. -/
import Derived.Test.YtcogckjpmmjmbaaGreatQAPlA
namespace Go.Proofs.YtcogckjpmmjmbaaGreat
open Go.ChangeShapes Go.WideShapes Go.ChangeAt Go.RowKit
set_option maxRecDepth 100000
set_option linter.unusedVariables false
set_option maxHeartbeats 8000000 in
theorem pLay (w:World) (c:Cf) (d:Wd) (r:Nat) (y:Ku) (h:PlAt w c d r y) (n0:0 ≤ y.n) (n1:y.n < 4611686018427387904) (hI:Inv c y.s) (u2:-9223372036854775808 ≤ y.x.wk.curr) (u3:y.x.wk.curr ≤ 9223372036854775807) (z:Ku) (hz:layU c y = z) :
  Calls Tryz.prog 159 #[.pointer (some ⟨r,0,none⟩),.pointer (some ⟨d.x,0,none⟩)] w fun e w' => e = .returned (.tuple #[]) ∧ LeftP c d r z w w':=by
 obtain ⟨v,hv⟩:∃ v,zPack y.x.wk.curr false = v:=⟨_,rfl⟩
 have H:=Lib.hid h
 have HV:=Lib.hid hv
 have HI:=Lib.hid hI
 have c3:w.cell? ⟨r,3,none⟩ = some (.int .i64 y.x.node):=h.box.cell 3 _ rfl
 by_cases hn:y.x.node = 0
 ·obtain ⟨⟨s',nb,eb⟩,hmk⟩:∃ r,makeI c y.s y.x.thread y.x.op = r:=⟨_,rfl⟩
  have HMk:=Lib.hid hmk
  have hz':(if eb = 0 then (⟨wr y.ws (nxtI c (nb:Int)) v,y.n + cnt y.ws (nxtI c (nb:Int)),s',{ y.x with node:=(nb:Int),phase:=4 }⟩:Ku) else ⟨y.ws,y.n,y.s,{ y.x with done:=true }⟩) = z:=by
   rw [← hz,← hv];unfold layU;rw [if_pos hn,hmk];rfl
  have HSe:Hid (¬ eb = 0 → s' = y.s):=Lib.hid (fun q => by have:=makeI_err (c:=c) (s:=y.s) (th:=y.x.thread) (op:=y.x.op) (by rw [hmk];exact q);rw [hmk] at this;exact this)
  have hn1:(y.x.node == 0) = true:=by simpa using hn
  have hn2:decide (y.x.node = 0) = true:=by simpa using hn
  have hn3:(y.x.node != 0) = false:=by simpa using hn
  clear hz hv h hI hn hmk
  by_cases he:eb = 0
  ·rw [if_pos he] at hz'
   have HZ:=Lib.hid hz'
   have hi:(eb:Int) = 0:=by omega
   have hi1:((eb:Int) == 0) = true:=by simpa using hi
   have hi2:decide ((eb:Int) = 0) = true:=by simpa using hi
   have hi3:((eb:Int) != 0) = false:=by simpa using hi
   clear hz' he hi HSe
   go_enter Tryz.func159,Tryz.ntmps159
   go_wp2_with fail
   clear c3
   refine wp_region_planb (Own d.a) (.one [0,1,2,3,4,5,6,7,8,9,10,11] 12 (.fin [13,14,15,16,17])) (by kernel_rfl) (by kernel_rfl) (by kernel_rfl) ?_
   intro w2 g2
   have H2:=Lib.hid (H.out.grown g2)
   have d6:∀ g:ButW (Own d.a) w2,g.w.cell? ⟨d.x,6,none⟩ = some (.pointer (some ⟨d.a.p,0,none⟩)):=ButW.cell (fun m => H2.out.wd.ow_x (.inl m)) H2.out.wd.k6
   have d0:∀ g:ButW (Own d.a) w2,g.w.cell? ⟨r,0,none⟩ = some (.int .i64 y.x.op):=ButW.cell (fun m => H2.out.nm (.inl m)) (H2.out.box.cell 0 _ rfl)
   have d1:∀ g:ButW (Own d.a) w2,g.w.cell? ⟨r,1,none⟩ = some (.int .i64 y.x.thread):=ButW.cell (fun m => H2.out.nm (.inl m)) (H2.out.box.cell 1 _ rfl)
   refine plan_one ?_
   simp only [nths,nth,List.map_cons,List.map_nil,List.getD_cons_zero,List.getD_cons_succ]
   repeat go_big_quiet_step (fail)
   clear d6 d0 d1
   refine wpQuiet_nil ?_
   go_wp2_with fail
   refine (Make_any _ c d.a y.s H2.out.wd.book HI.out y.x.thread y.x.op _ HMk.out).mono ?_;rintro e w3 ⟨rfl,q3,h3⟩
   simp only
   have H3:=Lib.hid (H2.out.bookP q3 h3)
   have Q3:Hid (But (So d r) w w3):=Lib.hid ((But.of_grown g2).trans (so_o q3))
   go_wp2_with fail
   refine nxt_but q3 (plan_fin ?_)
   clear g2 q3 h3
   simp only [nths,nth,List.map_cons,List.map_nil,List.getD_cons_zero,List.getD_cons_succ]
   repeat go_big_quiet_step (fail)
   refine wpQuiet_nil ?_
   go_wp2_with (first | (refine store_cell rfl 3 _ _ rfl r 3 rfl (.int .i64 (nb:Int)) rfl rfl (y.x).l ({ y.x with node:=(nb:Int) }:Put).l H3.out.box (Nat.le_of_ble_eq_true rfl) (by kernel_rfl) rfl ?_;intro w4 B_ q_;have H4:=Lib.hid (H3.out.put (x:={ y.x with node:=(nb:Int) }) B_ q_);have Q4:Hid (But (So d r) w w4):=Lib.hid (Q3.out.trans (so_r q_));clear B_ q_) | fail)
   refine wp_region_planb (Mine d.p d.b) (.one [0,1,2,3,4,5,6,7,8,9] 10 (.one [] 11 (.fin []))) (by kernel_rfl) (by kernel_rfl) (by kernel_rfl) ?_
   intro w5 g5
   have H5:=Lib.hid (H4.out.grown g5)
   have Q5:Hid (But (So d r) w w5):=Lib.hid (Q4.out.trans (But.of_grown g5))
   have d3:∀ g:ButW (Mine d.p d.b) w5,g.w.cell? ⟨r,3,none⟩ = some (.int .i64 (nb:Int)):=ButW.cell (fun m => H5.out.nm (.inr m)) (H5.out.box.cell 3 _ rfl)
   have d9:∀ g:ButW (Mine d.p d.b) w5,g.w.cell? ⟨r,9,none⟩ = some (.int .i64 y.x.wk.curr):=ButW.cell (fun m => H5.out.nm (.inr m)) (H5.out.box.cell 9 _ rfl)
   refine plan_one ?_
   simp only [nths,nth,List.map_cons,List.map_nil,List.getD_cons_zero,List.getD_cons_succ]
   repeat go_big_quiet_step (fail)
   clear d3 d9 g5
   refine wpQuiet_nil ?_
   go_wp2_with fail
   refine (Pack_at _ HV.out u2 u3).mono ?_;rintro e w6 ⟨rfl,g6⟩
   have H6:=Lib.hid (H5.out.grown g6)
   go_wp2_with fail
   refine nxt_but (But.of_grown g6) (plan_one ?_)
   simp only [nths,nth,List.map_nil,List.getD_cons_zero,List.getD_cons_succ]
   refine wpQuiet_nil ?_
   go_wp2_with fail
   refine (wSet_any _ c d _ _ _ _ _ H6.out.wd n0 n1).mono ?_;rintro e w7 ⟨rfl,q7,h7⟩
   have H7:=Lib.hid (H6.out.step ⟨q7,h7⟩)
   have q9:But (Mine d.p d.b) w5 w7:=(But.of_grown g6).trans q7
   have Q7:=Lib.hid (Q5.out.trans (so_m q9))
   clear q7 h7
   go_wp2_with fail
   refine nxt_but q9 (plan_fin ?_)
   simp only [nths,List.map_nil]
   refine wpQuiet_nil ?_
   go_wp2_with (first | (refine store_cell rfl 3 _ _ rfl r 2 rfl (.int .i64 4) rfl rfl (({ y.x with node:=(nb:Int) }:Put)).l ({ y.x with node:=(nb:Int),phase:=4 }:Put).l H7.out.box (Nat.le_of_ble_eq_true rfl) (by kernel_rfl) rfl ?_;intro w8 B_ q_;have H8:=Lib.hid (H7.out.put (x:={ y.x with node:=(nb:Int),phase:=4 }) B_ q_);have Q8:Hid (But (So d r) w w8):=Lib.hid (Q7.out.trans (so_r q_));clear B_ q_) | fail)
   go_end0
   refine ⟨rfl,Q8.out,?_⟩
   rw [← HZ.out]
   exact H8.out
  ·rw [if_neg he] at hz'
   have hs:=HSe.out he
   subst hs
   have HZ:=Lib.hid hz'
   have hi:¬ (eb:Int) = 0:=by omega
   have hi1:((eb:Int) == 0) = false:=by simpa using hi
   have hi2:decide ((eb:Int) = 0) = false:=by simpa using hi
   have hi3:((eb:Int) != 0) = true:=by simpa using hi
   clear hz' he hi HSe
   go_enter Tryz.func159,Tryz.ntmps159
   go_wp2_with fail
   clear c3
   refine wp_region_planb (Own d.a) (.one [0,1,2,3,4,5,6,7,8,9,10,11] 12 (.fin [13,14,15,16,17])) (by kernel_rfl) (by kernel_rfl) (by kernel_rfl) ?_
   intro w2 g2
   have H2:=Lib.hid (H.out.grown g2)
   have d6:∀ g:ButW (Own d.a) w2,g.w.cell? ⟨d.x,6,none⟩ = some (.pointer (some ⟨d.a.p,0,none⟩)):=ButW.cell (fun m => H2.out.wd.ow_x (.inl m)) H2.out.wd.k6
   have d0:∀ g:ButW (Own d.a) w2,g.w.cell? ⟨r,0,none⟩ = some (.int .i64 y.x.op):=ButW.cell (fun m => H2.out.nm (.inl m)) (H2.out.box.cell 0 _ rfl)
   have d1:∀ g:ButW (Own d.a) w2,g.w.cell? ⟨r,1,none⟩ = some (.int .i64 y.x.thread):=ButW.cell (fun m => H2.out.nm (.inl m)) (H2.out.box.cell 1 _ rfl)
   refine plan_one ?_
   simp only [nths,nth,List.map_cons,List.map_nil,List.getD_cons_zero,List.getD_cons_succ]
   repeat go_big_quiet_step (fail)
   clear d6 d0 d1
   refine wpQuiet_nil ?_
   go_wp2_with fail
   refine (Make_any _ c d.a y.s H2.out.wd.book HI.out y.x.thread y.x.op _ HMk.out).mono ?_;rintro e w3 ⟨rfl,q3,h3⟩
   simp only
   have H3:=Lib.hid (H2.out.bookP q3 h3)
   have Q3:Hid (But (So d r) w w3):=Lib.hid ((But.of_grown g2).trans (so_o q3))
   go_wp2_with fail
   refine nxt_but q3 (plan_fin ?_)
   clear g2 q3 h3
   simp only [nths,nth,List.map_cons,List.map_nil,List.getD_cons_zero,List.getD_cons_succ]
   repeat go_big_quiet_step (fail)
   refine wpQuiet_nil ?_
   go_wp2_with (first | (refine store_cell rfl 4 _ _ rfl r 15 rfl (.bool true) rfl rfl (y.x).l ({ y.x with done:=true }:Put).l H3.out.box (Nat.le_of_ble_eq_true rfl) (by kernel_rfl) rfl ?_;intro w4 B_ q_;have H4:=Lib.hid (H3.out.put (x:={ y.x with done:=true }) B_ q_);have Q4:Hid (But (So d r) w w4):=Lib.hid (Q3.out.trans (so_r q_));clear B_ q_) | fail)
   refine bodyPost_ret (results_none rfl _ _ _) rfl ?_
   refine ⟨rfl,Q4.out,?_⟩
   rw [← HZ.out]
   exact H4.out
 ·have HZ:Hid ((⟨wr y.ws (nxtI c y.x.node) v,y.n + cnt y.ws (nxtI c y.x.node),y.s,{ y.x with phase:=4 }⟩:Ku) = z):=Lib.hid (by rw [← hz,← hv];unfold layU;rw [if_neg hn];rfl)
  have hn1:(y.x.node == 0) = false:=by simpa using hn
  have hn2:decide (y.x.node = 0) = false:=by simpa using hn
  have hn3:(y.x.node != 0) = true:=by simpa using hn
  clear hz hv h hI hn
  go_enter Tryz.func159,Tryz.ntmps159
  go_wp2_with fail
  clear c3
  refine wp_region_planb (Mine d.p d.b) (.one [0,1,2,3,4,5,6,7,8,9] 10 (.one [] 11 (.fin []))) (by kernel_rfl) (by kernel_rfl) (by kernel_rfl) ?_
  intro w2 g2
  have H2:=Lib.hid (H.out.grown g2)
  have Q2:Hid (But (So d r) w w2):=Lib.hid (But.of_grown g2)
  have d3:∀ g:ButW (Mine d.p d.b) w2,g.w.cell? ⟨r,3,none⟩ = some (.int .i64 y.x.node):=ButW.cell (fun m => H2.out.nm (.inr m)) (H2.out.box.cell 3 _ rfl)
  have d9:∀ g:ButW (Mine d.p d.b) w2,g.w.cell? ⟨r,9,none⟩ = some (.int .i64 y.x.wk.curr):=ButW.cell (fun m => H2.out.nm (.inr m)) (H2.out.box.cell 9 _ rfl)
  refine plan_one ?_
  simp only [nths,nth,List.map_cons,List.map_nil,List.getD_cons_zero,List.getD_cons_succ]
  repeat go_big_quiet_step (fail)
  clear d3 d9 g2
  refine wpQuiet_nil ?_
  go_wp2_with fail
  refine (Pack_at _ HV.out u2 u3).mono ?_;rintro e w3 ⟨rfl,g3⟩
  have H3:=Lib.hid (H2.out.grown g3)
  go_wp2_with fail
  refine nxt_but (But.of_grown g3) (plan_one ?_)
  simp only [nths,nth,List.map_nil,List.getD_cons_zero,List.getD_cons_succ]
  refine wpQuiet_nil ?_
  go_wp2_with fail
  refine (wSet_any _ c d _ _ _ _ _ H3.out.wd n0 n1).mono ?_;rintro e w4 ⟨rfl,q4,h4⟩
  have H4:=Lib.hid (H3.out.step ⟨q4,h4⟩)
  have q9:But (Mine d.p d.b) w2 w4:=(But.of_grown g3).trans q4
  have Q4:=Lib.hid (Q2.out.trans (so_m q9))
  clear q4 h4
  go_wp2_with fail
  refine nxt_but q9 (plan_fin ?_)
  simp only [nths,List.map_nil]
  refine wpQuiet_nil ?_
  go_wp2_with (first | (refine store_cell rfl 3 _ _ rfl r 2 rfl (.int .i64 4) rfl rfl (y.x).l ({ y.x with phase:=4 }:Put).l H4.out.box (Nat.le_of_ble_eq_true rfl) (by kernel_rfl) rfl ?_;intro w5 B_ q_;have H5:=Lib.hid (H4.out.put (x:={ y.x with phase:=4 }) B_ q_);have Q5:Hid (But (So d r) w w5):=Lib.hid (Q4.out.trans (so_r q_));clear B_ q_) | fail)
  go_end0
  refine ⟨rfl,Q5.out,?_⟩
  rw [← HZ.out]
  exact H5.out
set_option maxHeartbeats 4000000 in
theorem pSetOut (w:World) (c:Cf) (d:Wd) (r:Nat) (y:Ku) (h:PlAt w c d r y) (hI:Inv c y.s) (ph:Int) (z:Ku) (hz:(⟨y.ws,y.n,y.s,{ y.x with wk:=newK (keyC y.s y.x.op) 1,phase:=ph }⟩:Ku) = z) :
  Calls Tryz.prog 213 #[.pointer (some ⟨r,0,none⟩),.pointer (some ⟨d.x,0,none⟩),.int .i64 ph] w fun e w' => e = .returned (.tuple #[]) ∧ LeftP c d r z w w':=by
 obtain ⟨oo,ho⟩:∃ o,lookI y.s.ops y.x.op = o:=⟨_,rfl⟩
 obtain ⟨⟨ck,cy,cv,cl⟩,hc⟩:∃ x,oo.getD Cal.zero = x:=⟨_,rfl⟩
 have HZ:Hid ((⟨y.ws,y.n,y.s,{ y.x with wk:=newK cy 1,phase:=ph }⟩:Ku) = z):=Lib.hid (by rw [← hz];unfold keyC;rw [ho,hc])
 have H:=Lib.hid h
 have HI:=Lib.hid hI
 have HO:=Lib.hid ho
 have HC:=Lib.hid hc
 clear h hI hz ho hc
 go_enter Tryz.func213,Tryz.ntmps213
 go_wp2_with fail
 go_cut [6,7] from 8 to 29 (fun s6 s7 wx => ∃ X:Nat,s6 = .pointer (some ⟨X,0,none⟩) ∧ s7 = .int .i64 (errOf oo) ∧ Grown w wx ∧ Hid (Box wx X [.int .i64 ck,.int .u64 cy,.int .u64 cv,.int .i64 cl]))
 case first =>
  as_aux_lemma =>
   refine wp_region_plang (.two [0,1,2,3,4,5,6,7] 8 (.one [9,10,11] 12 (.one [] 13 (.fin [14]))) 12 (.one [] 8 (.one [9,10,11] 13 (.fin [14])))) (by kernel_rfl) (by kernel_rfl) (by kernel_rfl) ?_
   intro w2 g2
   have H2:=Lib.hid (H.out.grown g2)
   have d6:∀ g:GrW w2,g.w.cell? ⟨d.x,6,none⟩ = some (.pointer (some ⟨d.a.p,0,none⟩)):=GrW.cell H2.out.wd.k6
   have d0:∀ g:GrW w2,g.w.cell? ⟨r,0,none⟩ = some (.int .i64 y.x.op):=GrW.cell (H2.out.box.cell 0 _ rfl)
   refine plan_two ?_
   simp only [nths,nth,List.map_cons,List.map_nil,List.getD_cons_zero,List.getD_cons_succ]
   repeat go_big_quiet_step (fail)
   clear d6 d0
   refine wpQuiet_nil ⟨?_,?_⟩
   ·go_wp2_with fail
    have hC:=Call_at w2 c d.a y.s (H2.out.wd.book) HI.out y.x.op _ HO.out
    rw [HC.out] at hC
    simp only [Cal.v] at hC
    refine hC.mono ?_;rintro e w3 ⟨rfl,g3⟩
    clear hC
    go_wp2_with fail
    refine nxt_stay g3 (plan_one ?_)
    simp only [nths,nth,List.map_cons,List.map_nil,List.getD_cons_zero,List.getD_cons_succ]
    repeat go_big_quiet_step (fail)
    refine wpQuiet_nil ?_
    go_wp2_with fail
    have g8:Grown w3 (w3.alloc (.cells #[.int .i64 0,.int .u64 0,.int .u64 0,.int .i64 0] 80)):=by go_grown
    have BX:=Box.made w3 [.int .i64 0,.int .u64 0,.int .u64 0,.int .i64 0] 80
    have hsz:(w3.alloc (.cells #[.int .i64 0,.int .u64 0,.int .u64 0,.int .i64 0] 80)).heap.size = w3.heap.size + 1:=by simp
    change Box (w3.alloc (.cells #[.int .i64 0,.int .u64 0,.int .u64 0,.int .i64 0] 80)) w3.heap.size _ at BX
    obtain ⟨X,hX⟩:∃ X,w3.heap.size = X:=⟨_,rfl⟩
    rw [hX] at BX hsz ⊢
    replace BX:=Lib.hid BX
    generalize w3.alloc (.cells #[.int .i64 0,.int .u64 0,.int .u64 0,.int .i64 0] 80) = v4 at *
    refine nxt_stay (gtr g3 g8) (plan_one ?_)
    simp only [nths,nth,List.map_nil,List.getD_cons_zero,List.getD_cons_succ]
    refine wpQuiet_nil ?_
    go_wp2_with (first | (refine store_box rfl 80 _ _ rfl X _ BX.out _ rfl rfl rfl (by kernel_rfl) rfl ?_;intro v9 B_ q_;have HB9:=Lib.hid B_;have q9:=Lib.hid q_;clear B_ q_) | fail)
    have gF:Grown w2 v9:=But.fresh (gtr g3 g8) q9.out (fun i hi => by have:=g3.2.2;omega)
    refine nxt_stay gF (plan_fin ?_)
    simp only [nths,nth,List.map_cons,List.map_nil,List.getD_cons_zero,List.getD_cons_succ]
    repeat go_big_quiet_step (fail)
    refine wpQuiet_nil ?_
    go_wp2_with fail
    go_meet
    case rel => exact ⟨X,rfl,rfl,gtr g2 gF,Lib.hid HB9.out⟩
   ·go_wp2_with fail
    have g8:Grown w2 (w2.alloc (.cells #[.int .i64 0,.int .u64 0,.int .u64 0,.int .i64 0] 80)):=by go_grown
    have BX:=Box.made w2 [.int .i64 0,.int .u64 0,.int .u64 0,.int .i64 0] 80
    have hsz:(w2.alloc (.cells #[.int .i64 0,.int .u64 0,.int .u64 0,.int .i64 0] 80)).heap.size = w2.heap.size + 1:=by simp
    change Box (w2.alloc (.cells #[.int .i64 0,.int .u64 0,.int .u64 0,.int .i64 0] 80)) w2.heap.size _ at BX
    obtain ⟨X,hX⟩:∃ X,w2.heap.size = X:=⟨_,rfl⟩
    rw [hX] at BX hsz ⊢
    replace BX:=Lib.hid BX
    generalize w2.alloc (.cells #[.int .i64 0,.int .u64 0,.int .u64 0,.int .i64 0] 80) = v4 at *
    refine nxt_stay g8 (plan_one ?_)
    simp only [nths,nth,List.map_nil,List.getD_cons_zero,List.getD_cons_succ]
    refine wpQuiet_nil ?_
    go_wp2_with fail
    have hC:=Call_at v4 c d.a y.s (H2.out.wd.book.grown g8) HI.out y.x.op _ HO.out
    rw [HC.out] at hC
    simp only [Cal.v] at hC
    refine hC.mono ?_;rintro e w5 ⟨rfl,g5⟩
    clear hC
    go_wp2_with fail
    replace BX:=Lib.hid (BX.out.grown g5)
    refine nxt_stay (gtr g8 g5) (plan_one ?_)
    simp only [nths,nth,List.map_cons,List.map_nil,List.getD_cons_zero,List.getD_cons_succ]
    repeat go_big_quiet_step (fail)
    refine wpQuiet_nil ?_
    go_wp2_with (first | (refine store_box rfl 80 _ _ rfl X _ BX.out _ rfl rfl rfl (by kernel_rfl) rfl ?_;intro v9 B_ q_;have HB9:=Lib.hid B_;have q9:=Lib.hid q_;clear B_ q_) | fail)
    have gF:Grown w2 v9:=But.fresh (gtr g8 g5) q9.out (fun i hi => by omega)
    refine nxt_stay gF (plan_fin ?_)
    simp only [nths,nth,List.map_cons,List.map_nil,List.getD_cons_zero,List.getD_cons_succ]
    repeat go_big_quiet_step (fail)
    refine wpQuiet_nil ?_
    go_wp2_with fail
    go_meet
    case rel => exact ⟨X,rfl,rfl,gtr g2 gF,Lib.hid HB9.out⟩
 case rest =>
  obtain ⟨X,rfl,rfl,gx,HX⟩:=hcut
  obtain ⟨w3,hw9⟩:∃ x,x = wc:=⟨_,rfl⟩
  subst hw9
  have H3:=Lib.hid (H.out.grown gx)
  have Q3:Hid (But (So d r) w w3):=Lib.hid (But.of_grown gx)
  have c1:=HX.out.cell 1 (.int .u64 cy) rfl
  clear gx
  go_wp2_with fail
  refine (kNew _ cy 1).mono ?_;rintro e w4 ⟨rfl,g4⟩
  have H4:=Lib.hid (H3.out.grown g4)
  have Q4:Hid (But (So d r) w w4):=Lib.hid (Q3.out.trans (But.of_grown g4))
  clear g4 c1
  go_wp2_with (first | (refine store_part rfl 63 _ _ rfl r 5 rfl _ rfl y.x.l ({ y.x with wk:=newK cy 1 }:Put).l H4.out.box (Nat.le_of_ble_eq_true rfl) (by kernel_rfl) rfl rfl ?_;intro w5 B_ q_;have H5:=Lib.hid (H4.out.put (x:={ y.x with wk:=newK cy 1 }) B_ q_);have Q5:Hid (But (So d r) w w5):=Lib.hid (Q4.out.trans (so_r q_));clear B_ q_) | (refine store_cell rfl 3 _ _ rfl r 2 rfl (.int .i64 ph) rfl rfl (({ y.x with wk:=newK cy 1 }:Put)).l ({ y.x with wk:=newK cy 1,phase:=ph }:Put).l H5.out.box (Nat.le_of_ble_eq_true rfl) (by kernel_rfl) rfl ?_;intro w6 B_ q_;have H6:=Lib.hid (H5.out.put (x:={ y.x with wk:=newK cy 1,phase:=ph }) B_ q_);have Q6:Hid (But (So d r) w w6):=Lib.hid (Q5.out.trans (so_r q_));clear B_ q_) | fail)
  go_end0
  refine ⟨rfl,Q6.out,?_⟩
  rw [← HZ.out]
  exact H6.out
set_option maxHeartbeats 8000000 in
theorem pAsk (w:World) (c:Cf) (d:Wd) (r:Nat) (y:Ku) (h:PlAt w c d r y) (n0:0 ≤ y.n) (n1:y.n < 4611686018427387904) (hI:Inv c y.s) (hph:y.x.phase = 0 ∨ y.x.phase = 2) (z:Ku) (hz:askU c y = z) :
  Calls Tryz.prog 157 #[.pointer (some ⟨r,0,none⟩),.pointer (some ⟨d.x,0,none⟩)] w fun e w' => e = .returned (.tuple #[]) ∧ LeftP c d r z w w':=by
 obtain ⟨v,hv⟩:∃ v,rd y.ws (wrdI c y.x.op) = v:=⟨_,rfl⟩
 obtain ⟨n2,hn2⟩:∃ x,y.n + cnt y.ws (wrdI c y.x.op) = x:=⟨_,rfl⟩
 have hz':(⟨y.ws,n2,y.s,tolU y.s y.x v⟩:Ku) = z:=by rw [← hz,← hn2,← hv];rfl
 have H:=Lib.hid h
 have HV:=Lib.hid hv
 have HN:=Lib.hid hn2
 have HI:=Lib.hid hI
 have c0:w.cell? ⟨r,0,none⟩ = some (.int .i64 y.x.op):=h.box.cell 0 _ rfl
 unfold tolU at hz'
 clear h hI hz hv hn2
 by_cases hv0:v = 0
 ·rw [if_pos hv0] at hz'
  have hv01:(v == 0) = true:=by simpa using hv0
  have hv02:decide (v = 0) = true:=by simpa using hv0
  have hv03:(v != 0) = false:=by simpa using hv0
  clear hv0
  by_cases hp2:y.x.phase = 2
  ·rw [if_pos hp2] at hz'
   have HZ:=Lib.hid hz'
   have HP:=Lib.hid hp2
   clear hz' hp2 hph
   go_enter Tryz.func157,Tryz.ntmps157
   go_wp2_with fail
   refine (wWord_any _ c d y.ws y.n y.s y.x.op H.out.wd n0 n1).mono ?_;rintro e w1 ⟨rfl,q1,h1⟩
   rw [HV.out]
   rw [HN.out] at h1
   have H1:=Lib.hid (H.out.step ⟨q1,h1⟩)
   have Q1:Hid (But (So d r) w w1):=Lib.hid (so_m q1)
   clear c0 q1 h1
   go_wp2_with (first | (refine store_cell rfl 4 _ _ rfl r 16 rfl (.bool false) rfl rfl (y.x).l ({ y.x with won:=false }:Put).l H1.out.box (Nat.le_of_ble_eq_true rfl) (by kernel_rfl) rfl ?_;intro w2 B_ q_;have H2:=Lib.hid (H1.out.put (x:={ y.x with won:=false }) B_ q_);have Q2:Hid (But (So d r) w w2):=Lib.hid (Q1.out.trans (so_r q_));have c2:=H2.out.box.cell 2 (.int .i64 y.x.phase) rfl;have c4:=H2.out.box.cell 4 (.bool y.x.linked) rfl;rw [HP.out] at c2;clear B_ q_) | (refine store_cell rfl 3 _ _ rfl r 2 rfl (.int .i64 3) rfl rfl (({ y.x with won:=false }:Put)).l ({ y.x with won:=false,phase:=3 }:Put).l H2.out.box (Nat.le_of_ble_eq_true rfl) (by kernel_rfl) rfl ?_;intro w3 B_ q_;have H3:=Lib.hid (H2.out.put (x:={ y.x with won:=false,phase:=3 }) B_ q_);have Q3:Hid (But (So d r) w w3):=Lib.hid (Q2.out.trans (so_r q_));clear B_ q_) | fail)
   go_end0
   refine ⟨rfl,Q3.out,?_⟩
   rw [← HZ.out]
   exact H3.out
  ·rw [if_neg hp2] at hz'
   have HZ:=Lib.hid hz'
   have HP:Hid (y.x.phase = 0):=Lib.hid (by omega)
   clear hz' hp2 hph
   go_enter Tryz.func157,Tryz.ntmps157
   go_wp2_with fail
   refine (wWord_any _ c d y.ws y.n y.s y.x.op H.out.wd n0 n1).mono ?_;rintro e w1 ⟨rfl,q1,h1⟩
   rw [HV.out]
   rw [HN.out] at h1
   have H1:=Lib.hid (H.out.step ⟨q1,h1⟩)
   have Q1:Hid (But (So d r) w w1):=Lib.hid (so_m q1)
   clear c0 q1 h1
   go_wp2_with (first | (refine store_cell rfl 4 _ _ rfl r 16 rfl (.bool false) rfl rfl (y.x).l ({ y.x with won:=false }:Put).l H1.out.box (Nat.le_of_ble_eq_true rfl) (by kernel_rfl) rfl ?_;intro w2 B_ q_;have H2:=Lib.hid (H1.out.put (x:={ y.x with won:=false }) B_ q_);have Q2:Hid (But (So d r) w w2):=Lib.hid (Q1.out.trans (so_r q_));have c2:=H2.out.box.cell 2 (.int .i64 y.x.phase) rfl;have c4:=H2.out.box.cell 4 (.bool y.x.linked) rfl;rw [HP.out] at c2;clear B_ q_) | fail)
   refine (pSetOut _ c d r ⟨y.ws,n2,y.s,{ y.x with won:=false }⟩ H2.out HI.out 1 _ HZ.out).mono ?_;rintro e w3 ⟨rfl,q3,h3⟩
   have Q3:=Lib.hid (Q2.out.trans q3)
   have H3:=Lib.hid h3
   clear q3 h3
   go_wp2_with fail
   go_end0
   exact ⟨rfl,Q3.out,H3.out⟩
 ·rw [if_neg hv0] at hz'
  have hv01:(v == 0) = false:=by simpa using hv0
  have hv02:decide (v = 0) = false:=by simpa using hv0
  have hv03:(v != 0) = true:=by simpa using hv0
  clear hv0
  obtain ⟨wv,hwv⟩:∃ b,(v != 2) = b:=⟨_,rfl⟩
  have hwd:(!decide (v = 2)) = wv:=by rw [← hwv];rfl
  rw [hwd] at hz'
  clear hwd
  clear hph
  by_cases hlk:y.x.linked = true
  ·rw [if_pos hlk] at hz'
   have HZ:=Lib.hid hz'
   have HL:=Lib.hid hlk
   clear hz' hlk
   go_enter Tryz.func157,Tryz.ntmps157
   go_wp2_with fail
   refine (wWord_any _ c d y.ws y.n y.s y.x.op H.out.wd n0 n1).mono ?_;rintro e w1 ⟨rfl,q1,h1⟩
   rw [HV.out]
   rw [HN.out] at h1
   have H1:=Lib.hid (H.out.step ⟨q1,h1⟩)
   have Q1:Hid (But (So d r) w w1):=Lib.hid (so_m q1)
   clear c0 q1 h1
   go_wp2_with (first | (refine store_cell rfl 4 _ _ rfl r 16 rfl (.bool wv) rfl rfl (y.x).l ({ y.x with won:=wv }:Put).l H1.out.box (Nat.le_of_ble_eq_true rfl) (by kernel_rfl) rfl ?_;intro w2 B_ q_;have H2:=Lib.hid (H1.out.put (x:={ y.x with won:=wv }) B_ q_);have Q2:Hid (But (So d r) w w2):=Lib.hid (Q1.out.trans (so_r q_));have c2:=H2.out.box.cell 2 (.int .i64 y.x.phase) rfl;have c4:=H2.out.box.cell 4 (.bool y.x.linked) rfl;rw [HL.out] at c4;clear B_ q_) | fail)
   refine (pSetOut _ c d r ⟨y.ws,n2,y.s,{ y.x with won:=wv }⟩ H2.out HI.out 5 _ HZ.out).mono ?_;rintro e w3 ⟨rfl,q3,h3⟩
   have Q3:=Lib.hid (Q2.out.trans q3)
   have H3:=Lib.hid h3
   clear q3 h3
   go_wp2_with fail
   go_end0
   exact ⟨rfl,Q3.out,H3.out⟩
  ·rw [if_neg hlk] at hz'
   have HZ:=Lib.hid hz'
   have HL:Hid (y.x.linked = false):=Lib.hid (by simpa using hlk)
   clear hz' hlk
   go_enter Tryz.func157,Tryz.ntmps157
   go_wp2_with fail
   refine (wWord_any _ c d y.ws y.n y.s y.x.op H.out.wd n0 n1).mono ?_;rintro e w1 ⟨rfl,q1,h1⟩
   rw [HV.out]
   rw [HN.out] at h1
   have H1:=Lib.hid (H.out.step ⟨q1,h1⟩)
   have Q1:Hid (But (So d r) w w1):=Lib.hid (so_m q1)
   clear c0 q1 h1
   go_wp2_with (first | (refine store_cell rfl 4 _ _ rfl r 16 rfl (.bool wv) rfl rfl (y.x).l ({ y.x with won:=wv }:Put).l H1.out.box (Nat.le_of_ble_eq_true rfl) (by kernel_rfl) rfl ?_;intro w2 B_ q_;have H2:=Lib.hid (H1.out.put (x:={ y.x with won:=wv }) B_ q_);have Q2:Hid (But (So d r) w w2):=Lib.hid (Q1.out.trans (so_r q_));have c2:=H2.out.box.cell 2 (.int .i64 y.x.phase) rfl;have c4:=H2.out.box.cell 4 (.bool y.x.linked) rfl;rw [HL.out] at c4;clear B_ q_) | (refine store_cell rfl 4 _ _ rfl r 15 rfl (.bool true) rfl rfl (({ y.x with won:=wv }:Put)).l ({ y.x with won:=wv,done:=true }:Put).l H2.out.box (Nat.le_of_ble_eq_true rfl) (by kernel_rfl) rfl ?_;intro w3 B_ q_;have H3:=Lib.hid (H2.out.put (x:={ y.x with won:=wv,done:=true }) B_ q_);have Q3:Hid (But (So d r) w w3):=Lib.hid (Q2.out.trans (so_r q_));clear B_ q_) | fail)
   go_end0
   refine ⟨rfl,Q3.out,?_⟩
   rw [← HZ.out]
   exact H3.out
end Go.Proofs.YtcogckjpmmjmbaaGreat
