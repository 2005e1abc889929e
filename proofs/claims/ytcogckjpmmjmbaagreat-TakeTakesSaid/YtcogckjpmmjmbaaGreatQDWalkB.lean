/- Package walk: what is done in a phase. -/
import Derived.Test.YtcogckjpmmjmbaaGreatQDWalk
import Derived.Test.YtcogckjpmmjmbaaGreatQDMBase
namespace Go.Proofs.YtcogckjpmmjmbaaGreat
open Go.ChangeShapes Go.WideShapes Go.ChangeAt Go.RowKit
set_option maxRecDepth 100000
set_option linter.unusedVariables false
set_option maxHeartbeats 4000000 in
theorem kAdvance (w:World) (c:Cf) (d:Wd) (s:St) (r:Nat) (y:Kd) (h:WkAt w c d s r y) (hI:Inv c s) (b0:0 ≤ y.x.next) (b1:y.x.next ≤ 18446744073709551615) (z:Wk) (hz:advK s y.x = z) :
  Calls Tryz.prog 260 #[.pointer (some ⟨r,0,none⟩),.pointer (some ⟨d.x,0,none⟩)] w fun e w' => e = .returned (.tuple #[]) ∧ LeftK c d s r ⟨y.ws,y.n,z⟩ w w':=by
 obtain ⟨ws,n,x⟩:=y
 have H:=Lib.hid h
 have HI:=Lib.hid hI
 have HZ:=Lib.hid hz
 have c4:w.cell? ⟨r,4,none⟩ = some (.int .i64 x.curr):=h.box.cell 4 _ rfl
 clear h hI hz
 simp only at b0 b1
 go_enter Tryz.func260,Tryz.ntmps260
 go_wp2_with (first | (refine store_cell rfl 3 _ _ rfl r 3 rfl (.int .i64 x.curr) rfl rfl (x:Wk).l ({ x with pred:=x.curr }:Wk).l H.out.box (Nat.le_of_ble_eq_true rfl) (by kernel_rfl) rfl ?_;intro w1 B_ q_;have H1:=Lib.hid (H.out.put (x:={ x with pred:=x.curr }) B_ q_);have Q1:Hid (But (Sk d r) w w1):=Lib.hid (but_r q_);have c5:w1.cell? ⟨r,5,none⟩ = some (.int .u64 x.next):=H1.out.box.cell 5 _ rfl;clear c4;clear B_ q_) | fail)
 refine (Index_any _ _ b0 b1).mono ?_;rintro e w2 ⟨rfl,g2⟩
 have H2:=Lib.hid (H1.out.grown g2)
 have Q2:=Lib.hid (Q1.out.trans (But.of_grown g2))
 clear c5 g2
 go_wp2_with fail
 refine (kArrive _ c d s r _ H2.out HI.out _ z HZ.out).mono ?_;rintro e w3 ⟨rfl,q3,h3⟩
 have H3:=Lib.hid h3
 have Q3:=Lib.hid (Q2.out.trans q3)
 clear q3 h3
 go_wp2
 go_end0
 exact ⟨rfl,Q3.out,H3.out⟩
set_option maxHeartbeats 4000000 in
theorem kBegin (w:World) (c:Cf) (d:Wd) (s:St) (r:Nat) (y:Kd) (h:WkAt w c d s r y) (hI:Inv c s) (n0:0 ≤ y.n) (n1:y.n < 4611686018427387904) (hw:∀ i:Int,0 ≤ rd y.ws i ∧ rd y.ws i ≤ 18446744073709551615) (z:Kd) (hz:begK c s y = z) :
  Calls Tryz.prog 222 #[.pointer (some ⟨r,0,none⟩),.pointer (some ⟨d.x,0,none⟩)] w fun e w' => e = .returned (.tuple #[]) ∧ LeftK c d s r z w w':=by
 obtain ⟨ws,n,x⟩:=y
 have H:=Lib.hid h
 have HI:=Lib.hid hI
 have HZ:=Lib.hid hz
 have c0:w.cell? ⟨r,0,none⟩ = some (.int .u64 x.key):=h.box.cell 0 _ rfl
 have b0:=(hw (nxtI c (headI c x.key))).1
 have b1:=(hw (nxtI c (headI c x.key))).2
 clear h hI hz hw
 simp only at n0 n1 b0 b1
 go_enter Tryz.func222,Tryz.ntmps222
 go_wp2_with fail
 refine (wHead_any _ c d ws n s x.key H.out.wd).mono ?_;rintro e w1 ⟨rfl,g1⟩
 have H1:=Lib.hid (H.out.grown g1)
 have Q1:Hid (But (Sk d r) w w1):=Lib.hid (But.of_grown g1)
 clear c0 g1
 go_wp2_with (first | (refine store_cell rfl 3 _ _ rfl r 3 rfl (.int .i64 (headI c x.key)) rfl rfl (x:Wk).l ({ x with pred:=headI c x.key }:Wk).l H1.out.box (Nat.le_of_ble_eq_true rfl) (by kernel_rfl) rfl ?_;intro w2 B_ q_;have H2:=Lib.hid (H1.out.put (x:={ x with pred:=headI c x.key }) B_ q_);have Q2:Hid (But (Sk d r) w w2):=Lib.hid (Q1.out.trans (but_r q_));clear B_ q_) | (refine store_cell rfl 3 _ _ rfl r 6 rfl (.int .i64 (-1)) rfl rfl ({ x with pred:=headI c x.key }:Wk).l ({ x with pred:=headI c x.key,seen:=-1 }:Wk).l H2.out.box (Nat.le_of_ble_eq_true rfl) (by kernel_rfl) rfl ?_;intro w3 B_ q_;have H3:=Lib.hid (H2.out.put (x:={ x with pred:=headI c x.key,seen:=-1 }) B_ q_);have Q3:Hid (But (Sk d r) w w3):=Lib.hid (Q2.out.trans (but_r q_));have c3:w3.cell? ⟨r,3,none⟩ = some (.int .i64 (headI c x.key)):=H3.out.box.cell 3 _ rfl;clear B_ q_) | fail)
 refine (wNext_any _ c d ws n s _ H3.out.wd n0 n1).mono ?_;rintro e w4 ⟨rfl,q4,h4⟩
 have H4:=Lib.hid (H3.out.step ⟨q4,h4⟩)
 have Q4:=Lib.hid (Q3.out.trans (but_m q4))
 clear c3 q4 h4
 go_wp2_with fail
 refine (Index_any _ _ b0 b1).mono ?_;rintro e w5 ⟨rfl,g5⟩
 have H5:=Lib.hid (H4.out.grown g5)
 have Q5:=Lib.hid (Q4.out.trans (But.of_grown g5))
 clear g5
 go_wp2_with fail
 refine (kArrive _ c d s r _ H5.out HI.out _ _ rfl).mono ?_;rintro e w6 ⟨rfl,q6,h6⟩
 have H6:=Lib.hid h6
 have Q6:=Lib.hid (Q5.out.trans q6)
 clear q6 h6
 go_wp2
 go_end0
 refine ⟨rfl,Q6.out,?_⟩
 rw [← HZ.out]
 exact H6.out
set_option maxHeartbeats 4000000 in
theorem kPeek (w:World) (c:Cf) (d:Wd) (s:St) (r:Nat) (y:Kd) (h:WkAt w c d s r y) (hI:Inv c s) (n0:0 ≤ y.n) (n1:y.n < 4611686018427387904) (hw:∀ i:Int,0 ≤ rd y.ws i ∧ rd y.ws i ≤ 18446744073709551615) (z:Kd) (hz:peeK c y = z) :
  Calls Tryz.prog 223 #[.pointer (some ⟨r,0,none⟩),.pointer (some ⟨d.x,0,none⟩)] w fun e w' => e = .returned (.tuple #[]) ∧ LeftK c d s r z w w':=by
 obtain ⟨ws,n,x⟩:=y
 obtain ⟨v,hv⟩:∃ v,rd ws (nxtI c x.curr) = v:=⟨_,rfl⟩
 obtain ⟨b,hb⟩:∃ b,(v % 2 == 1) = b:=⟨_,rfl⟩
 have HZ:Hid ((⟨ws,n + cnt ws (nxtI c x.curr),{ x with next:=v,phase:=if b then 2 else 3 }⟩:Kd) = z):=Lib.hid (by rw [← hz,← hb,← hv];rfl)
 have H:=Lib.hid h
 have HV:=Lib.hid hv
 have HB:=Lib.hid hb
 have c4:w.cell? ⟨r,4,none⟩ = some (.int .i64 x.curr):=h.box.cell 4 _ rfl
 have b0:=(hw (nxtI c x.curr)).1
 have b1:=(hw (nxtI c x.curr)).2
 simp only at n0 n1 b0 b1
 rw [hv] at b0 b1
 clear h hI hz hw hv hb
 cases b
 ·go_enter Tryz.func223,Tryz.ntmps223
  go_wp2_with fail
  refine (wNext_any _ c d ws n s _ H.out.wd n0 n1).mono ?_;rintro e w1 ⟨rfl,q1,h1⟩
  rw [HV.out]
  have H1:=Lib.hid (H.out.step ⟨q1,h1⟩)
  have Q1:Hid (But (Sk d r) w w1):=Lib.hid (but_m q1)
  clear c4 q1 h1
  go_wp2_with (first | (refine store_cell rfl 46 _ _ rfl r 5 rfl (.int .u64 v) rfl rfl (x:Wk).l ({ x with next:=v }:Wk).l H1.out.box (Nat.le_of_ble_eq_true rfl) (by kernel_rfl) rfl ?_;intro w2 B_ q_;have H2:=Lib.hid (H1.out.put (x:={ x with next:=v }) B_ q_);have Q2:Hid (But (Sk d r) w w2):=Lib.hid (Q1.out.trans (but_r q_));clear B_ q_) | (refine store_cell rfl 3 _ _ rfl r 2 rfl (.int .i64 3) rfl rfl ({ x with next:=v }:Wk).l ({ x with next:=v,phase:=3 }:Wk).l H2.out.box (Nat.le_of_ble_eq_true rfl) (by kernel_rfl) rfl ?_;intro w3 B_ q_;have H3:=Lib.hid (H2.out.put (x:={ x with next:=v,phase:=3 }) B_ q_);have Q3:Hid (But (Sk d r) w w3):=Lib.hid (Q2.out.trans (but_r q_));have c5:w3.cell? ⟨r,5,none⟩ = some (.int .u64 v):=H3.out.box.cell 5 _ rfl;clear B_ q_) | fail)
  refine (Marked_at _ HB.out b0 b1).mono ?_;rintro e w4 ⟨rfl,g4⟩
  have H4:=Lib.hid (H3.out.grown g4)
  have Q4:=Lib.hid (Q3.out.trans (But.of_grown g4))
  clear c5 g4
  go_wp2
  go_end0
  refine ⟨rfl,Q4.out,?_⟩
  rw [← HZ.out]
  exact H4.out
 ·go_enter Tryz.func223,Tryz.ntmps223
  go_wp2_with fail
  refine (wNext_any _ c d ws n s _ H.out.wd n0 n1).mono ?_;rintro e w1 ⟨rfl,q1,h1⟩
  rw [HV.out]
  have H1:=Lib.hid (H.out.step ⟨q1,h1⟩)
  have Q1:Hid (But (Sk d r) w w1):=Lib.hid (but_m q1)
  clear c4 q1 h1
  go_wp2_with (first | (refine store_cell rfl 46 _ _ rfl r 5 rfl (.int .u64 v) rfl rfl (x:Wk).l ({ x with next:=v }:Wk).l H1.out.box (Nat.le_of_ble_eq_true rfl) (by kernel_rfl) rfl ?_;intro w2 B_ q_;have H2:=Lib.hid (H1.out.put (x:={ x with next:=v }) B_ q_);have Q2:Hid (But (Sk d r) w w2):=Lib.hid (Q1.out.trans (but_r q_));clear B_ q_) | (refine store_cell rfl 3 _ _ rfl r 2 rfl (.int .i64 3) rfl rfl ({ x with next:=v }:Wk).l ({ x with next:=v,phase:=3 }:Wk).l H2.out.box (Nat.le_of_ble_eq_true rfl) (by kernel_rfl) rfl ?_;intro w3 B_ q_;have H3:=Lib.hid (H2.out.put (x:={ x with next:=v,phase:=3 }) B_ q_);have Q3:Hid (But (Sk d r) w w3):=Lib.hid (Q2.out.trans (but_r q_));have c5:w3.cell? ⟨r,5,none⟩ = some (.int .u64 v):=H3.out.box.cell 5 _ rfl;clear B_ q_) | fail)
  refine (Marked_at _ HB.out b0 b1).mono ?_;rintro e w4 ⟨rfl,g4⟩
  have H4:=Lib.hid (H3.out.grown g4)
  have Q4:=Lib.hid (Q3.out.trans (But.of_grown g4))
  clear c5 g4
  go_wp2_with (first | (refine store_cell rfl 3 _ _ rfl r 2 rfl (.int .i64 2) rfl rfl ({ x with next:=v,phase:=3 }:Wk).l ({ x with next:=v,phase:=2 }:Wk).l H4.out.box (Nat.le_of_ble_eq_true rfl) (by kernel_rfl) rfl ?_;intro w5 B_ q_;have H5:=Lib.hid (H4.out.put (x:={ x with next:=v,phase:=2 }) B_ q_);have Q5:Hid (But (Sk d r) w w5):=Lib.hid (Q4.out.trans (but_r q_));clear B_ q_) | fail)
  go_end0
  refine ⟨rfl,Q5.out,?_⟩
  rw [← HZ.out]
  exact H5.out
set_option maxHeartbeats 4000000 in
theorem kUnlink (w:World) (c:Cf) (d:Wd) (s:St) (r:Nat) (y:Kd) (h:WkAt w c d s r y) (hI:Inv c s) (n0:0 ≤ y.n) (n1:y.n < 4611686018427387904) (b0:0 ≤ y.x.next) (b1:y.x.next ≤ 18446744073709551615) (u0:-9223372036854775808 ≤ y.x.curr) (u1:y.x.curr ≤ 9223372036854775807) (z:Kd) (hz:unlK c s y = z) :
  Calls Tryz.prog 224 #[.pointer (some ⟨r,0,none⟩),.pointer (some ⟨d.x,0,none⟩)] w fun e w' => e = .returned (.tuple #[]) ∧ LeftK c d s r z w w':=by
 obtain ⟨ws,n,x⟩:=y
 simp only at n0 n1 b0 b1 u0 u1
 obtain ⟨v,hv⟩:∃ v,zPack x.curr false = v:=⟨_,rfl⟩
 obtain ⟨t,ht⟩:∃ t,x.next / 2 = t:=⟨_,rfl⟩
 obtain ⟨u,hu⟩:∃ v,zPack t false = v:=⟨_,rfl⟩
 obtain ⟨m,hm⟩:∃ m,may ws (nxtI c x.pred) v = m:=⟨_,rfl⟩
 have HZ:Hid ((⟨sw ws (nxtI c x.pred) v u,n + cnt ws (nxtI c x.pred),if m then arrK s x t else { x with phase:=0 }⟩:Kd) = z):=Lib.hid (by rw [← hz,← hm,← hu,← ht,← hv];rfl)
 have H:=Lib.hid h
 have HI:=Lib.hid hI
 have HV:=Lib.hid hv
 have HU:=Lib.hid hu
 have HT:=Lib.hid ht
 have HM:=Lib.hid hm
 have t0:-9223372036854775808 ≤ t:=by omega
 have t1:t ≤ 9223372036854775807:=by omega
 have c5:w.cell? ⟨r,5,none⟩ = some (.int .u64 x.next):=h.box.cell 5 _ rfl
 clear h hI hz hv hu hm ht
 cases m
 ·go_enter Tryz.func224,Tryz.ntmps224
  go_wp2_with fail
  refine (Index_any _ _ b0 b1).mono ?_;rintro e w1 ⟨rfl,g1⟩
  rw [HT.out]
  have H1:=Lib.hid (H.out.grown g1)
  have Q1:Hid (But (Sk d r) w w1):=Lib.hid (But.of_grown g1)
  clear c5 g1
  go_wp2_with fail
  refine wp_region_planb (Mine d.p d.b) (.one [0,1,2,3,4,5,6,7,8,10] 9 (.one [] 11 (.one [] 12 (.fin [13])))) (by kernel_rfl) (by kernel_rfl) (by kernel_rfl) ?_
  intro w2 g2
  have H2:=Lib.hid (H1.out.grown g2)
  have Q2:Hid (But (Sk d r) w w2):=Lib.hid (Q1.out.trans (But.of_grown g2))
  have d3:∀ g:ButW (Mine d.p d.b) w2,g.w.cell? ⟨r,3,none⟩ = some (.int .i64 x.pred):=ButW.cell H2.out.nm (H2.out.box.cell 3 _ rfl)
  have d4:∀ g:ButW (Mine d.p d.b) w2,g.w.cell? ⟨r,4,none⟩ = some (.int .i64 x.curr):=ButW.cell H2.out.nm (H2.out.box.cell 4 _ rfl)
  refine plan_one ?_
  simp only [nths,nth,List.map_cons,List.map_nil,List.getD_cons_zero,List.getD_cons_succ]
  repeat go_big_quiet_step (fail)
  clear d3 d4 g2
  refine wpQuiet_nil ?_
  go_wp2_with fail
  refine (Pack_at _ HV.out u0 u1).mono ?_;rintro e w3 ⟨rfl,g3⟩
  have H3:=Lib.hid (H2.out.grown g3)
  go_wp2_with fail
  refine nxt_but (But.of_grown g3) (plan_one ?_)
  simp only [nths,nth,List.map_nil,List.getD_cons_zero,List.getD_cons_succ]
  refine wpQuiet_nil ?_
  go_wp2_with fail
  refine (Pack_at _ HU.out t0 t1).mono ?_;rintro e w4 ⟨rfl,g4⟩
  have H4:=Lib.hid (H3.out.grown g4)
  have G4:=Lib.hid (gtr g3 g4)
  clear g3 g4
  go_wp2_with fail
  refine nxt_but (But.of_grown G4.out) (plan_one ?_)
  simp only [nths,nth,List.map_nil,List.getD_cons_zero,List.getD_cons_succ]
  refine wpQuiet_nil ?_
  go_wp2_with fail
  refine (wLink_any _ c d ws n s _ _ _ H4.out.wd n0 n1).mono ?_;rintro e w5 ⟨rfl,q5,h5⟩
  rw [HM.out]
  have H5:=Lib.hid (H4.out.step ⟨q5,h5⟩)
  have q25:But (Mine d.p d.b) w2 w5:=(But.of_grown G4.out).trans q5
  have Q5:=Lib.hid (Q2.out.trans (but_m q25))
  clear q5 h5
  go_wp2_with fail
  refine nxt_but q25 (plan_fin ?_)
  simp only [nths,nth,List.map_cons,List.map_nil,List.getD_cons_zero,List.getD_cons_succ]
  repeat go_big_quiet_step (fail)
  refine wpQuiet_nil ?_
  go_wp2_with (first | (refine store_cell rfl 3 _ _ rfl r 2 rfl (.int .i64 0) rfl rfl (x:Wk).l ({ x with phase:=0 }:Wk).l H5.out.box (Nat.le_of_ble_eq_true rfl) (by kernel_rfl) rfl ?_;intro w6 B_ q_;have H6:=Lib.hid (H5.out.put (x:={ x with phase:=0 }) B_ q_);have Q6:Hid (But (Sk d r) w w6):=Lib.hid (Q5.out.trans (but_r q_));clear B_ q_) | fail)
  refine bodyPost_ret (results_none rfl _ _ _) rfl ?_
  refine ⟨rfl,Q6.out,?_⟩
  rw [← HZ.out]
  exact H6.out
 ·go_enter Tryz.func224,Tryz.ntmps224
  go_wp2_with fail
  refine (Index_any _ _ b0 b1).mono ?_;rintro e w1 ⟨rfl,g1⟩
  rw [HT.out]
  have H1:=Lib.hid (H.out.grown g1)
  have Q1:Hid (But (Sk d r) w w1):=Lib.hid (But.of_grown g1)
  clear c5 g1
  go_wp2_with fail
  refine wp_region_planb (Mine d.p d.b) (.one [0,1,2,3,4,5,6,7,8,10] 9 (.one [] 11 (.one [] 12 (.fin [13])))) (by kernel_rfl) (by kernel_rfl) (by kernel_rfl) ?_
  intro w2 g2
  have H2:=Lib.hid (H1.out.grown g2)
  have Q2:Hid (But (Sk d r) w w2):=Lib.hid (Q1.out.trans (But.of_grown g2))
  have d3:∀ g:ButW (Mine d.p d.b) w2,g.w.cell? ⟨r,3,none⟩ = some (.int .i64 x.pred):=ButW.cell H2.out.nm (H2.out.box.cell 3 _ rfl)
  have d4:∀ g:ButW (Mine d.p d.b) w2,g.w.cell? ⟨r,4,none⟩ = some (.int .i64 x.curr):=ButW.cell H2.out.nm (H2.out.box.cell 4 _ rfl)
  refine plan_one ?_
  simp only [nths,nth,List.map_cons,List.map_nil,List.getD_cons_zero,List.getD_cons_succ]
  repeat go_big_quiet_step (fail)
  clear d3 d4 g2
  refine wpQuiet_nil ?_
  go_wp2_with fail
  refine (Pack_at _ HV.out u0 u1).mono ?_;rintro e w3 ⟨rfl,g3⟩
  have H3:=Lib.hid (H2.out.grown g3)
  go_wp2_with fail
  refine nxt_but (But.of_grown g3) (plan_one ?_)
  simp only [nths,nth,List.map_nil,List.getD_cons_zero,List.getD_cons_succ]
  refine wpQuiet_nil ?_
  go_wp2_with fail
  refine (Pack_at _ HU.out t0 t1).mono ?_;rintro e w4 ⟨rfl,g4⟩
  have H4:=Lib.hid (H3.out.grown g4)
  have G4:=Lib.hid (gtr g3 g4)
  clear g3 g4
  go_wp2_with fail
  refine nxt_but (But.of_grown G4.out) (plan_one ?_)
  simp only [nths,nth,List.map_nil,List.getD_cons_zero,List.getD_cons_succ]
  refine wpQuiet_nil ?_
  go_wp2_with fail
  refine (wLink_any _ c d ws n s _ _ _ H4.out.wd n0 n1).mono ?_;rintro e w5 ⟨rfl,q5,h5⟩
  rw [HM.out]
  have H5:=Lib.hid (H4.out.step ⟨q5,h5⟩)
  have q25:But (Mine d.p d.b) w2 w5:=(But.of_grown G4.out).trans q5
  have Q5:=Lib.hid (Q2.out.trans (but_m q25))
  clear q5 h5
  go_wp2_with fail
  refine nxt_but q25 (plan_fin ?_)
  simp only [nths,nth,List.map_cons,List.map_nil,List.getD_cons_zero,List.getD_cons_succ]
  repeat go_big_quiet_step (fail)
  refine wpQuiet_nil ?_
  go_wp2_with fail
  refine (kArrive _ c d s r _ H5.out HI.out t _ rfl).mono ?_;rintro e w6 ⟨rfl,q6,h6⟩
  have H6:=Lib.hid h6
  have Q6:=Lib.hid (Q5.out.trans q6)
  clear q6 h6
  go_wp2
  go_end0
  refine ⟨rfl,Q6.out,?_⟩
  rw [← HZ.out]
  exact H6.out
set_option maxHeartbeats 4000000 in
theorem kMark (w:World) (c:Cf) (d:Wd) (s:St) (r:Nat) (y:Kd) (h:WkAt w c d s r y) (hI:Inv c s) (n0:0 ≤ y.n) (n1:y.n < 4611686018427387904) (b0:0 ≤ y.x.next) (b1:y.x.next ≤ 18446744073709551615) (z:Kd) (hz:mrkK c y = z) :
  Calls Tryz.prog 226 #[.pointer (some ⟨r,0,none⟩),.pointer (some ⟨d.x,0,none⟩)] w fun e w' => e = .returned (.tuple #[]) ∧ LeftK c d s r z w w':=by
 obtain ⟨ws,n,x⟩:=y
 simp only at n0 n1 b0 b1
 obtain ⟨v,hv⟩:∃ v,2 * (x.next / 2) + 1 = v:=⟨_,rfl⟩
 have HZ:Hid ((⟨sw ws (nxtI c x.curr) x.next v,n + cnt ws (nxtI c x.curr),{ x with phase:=1 }⟩:Kd) = z):=Lib.hid (by rw [← hz,← hv];rfl)
 have H:=Lib.hid h
 have HV:=Lib.hid hv
 clear h hI hz hv
 go_enter Tryz.func226,Tryz.ntmps226
 go_wp2_with fail
 refine wp_region_planb (Mine d.p d.b) (.one [0,1,2,3,4,5,6,7,8,9,10,11,12] 13 (.one [] 14 (.fin []))) (by kernel_rfl) (by kernel_rfl) (by kernel_rfl) ?_
 intro w2 g2
 have H2:=Lib.hid (H.out.grown g2)
 have Q2:Hid (But (Sk d r) w w2):=Lib.hid (But.of_grown g2)
 have d4:∀ g:ButW (Mine d.p d.b) w2,g.w.cell? ⟨r,4,none⟩ = some (.int .i64 x.curr):=ButW.cell H2.out.nm (H2.out.box.cell 4 _ rfl)
 have d5:∀ g:ButW (Mine d.p d.b) w2,g.w.cell? ⟨r,5,none⟩ = some (.int .u64 x.next):=ButW.cell H2.out.nm (H2.out.box.cell 5 _ rfl)
 refine plan_one ?_
 simp only [nths,nth,List.map_cons,List.map_nil,List.getD_cons_zero,List.getD_cons_succ]
 repeat go_big_quiet_step (fail)
 clear d4 d5 g2
 refine wpQuiet_nil ?_
 go_wp2_with fail
 refine (Mark_at _ HV.out b0 b1).mono ?_;rintro e w3 ⟨rfl,g3⟩
 have H3:=Lib.hid (H2.out.grown g3)
 go_wp2_with fail
 refine nxt_but (But.of_grown g3) (plan_one ?_)
 simp only [nths,nth,List.map_nil,List.getD_cons_zero,List.getD_cons_succ]
 refine wpQuiet_nil ?_
 go_wp2_with fail
 refine (wLink_any _ c d ws n s _ _ _ H3.out.wd n0 n1).mono ?_;rintro e w5 ⟨rfl,q5,h5⟩
 have H5:=Lib.hid (H3.out.step ⟨q5,h5⟩)
 have q25:But (Mine d.p d.b) w2 w5:=(But.of_grown g3).trans q5
 have Q5:=Lib.hid (Q2.out.trans (but_m q25))
 clear q5 h5 g3
 go_wp2_with fail
 refine nxt_but q25 (plan_fin ?_)
 simp only [nths,List.map_nil]
 refine wpQuiet_nil ?_
 go_wp2_with (first | (refine store_cell rfl 3 _ _ rfl r 2 rfl (.int .i64 1) rfl rfl (x:Wk).l ({ x with phase:=1 }:Wk).l H5.out.box (Nat.le_of_ble_eq_true rfl) (by kernel_rfl) rfl ?_;intro w6 B_ q_;have H6:=Lib.hid (H5.out.put (x:={ x with phase:=1 }) B_ q_);have Q6:Hid (But (Sk d r) w w6):=Lib.hid (Q5.out.trans (but_r q_));clear B_ q_) | fail)
 go_end0
 refine ⟨rfl,Q6.out,?_⟩
 rw [← HZ.out]
 exact H6.out
set_option maxHeartbeats 4000000 in
theorem kAsk (w:World) (c:Cf) (d:Wd) (s:St) (r:Nat) (y:Kd) (h:WkAt w c d s r y) (hI:Inv c s) (n0:0 ≤ y.n) (n1:y.n < 4611686018427387904) (z:Kd) (hz:askK c y = z) :
  Calls Tryz.prog 227 #[.pointer (some ⟨r,0,none⟩),.pointer (some ⟨d.x,0,none⟩)] w fun e w' => e = .returned (.tuple #[]) ∧ LeftK c d s r z w w':=by
 obtain ⟨ws,n,x⟩:=y
 simp only at n0 n1
 obtain ⟨v,hv⟩:∃ v,rd ws (wrdI c x.seen) = v:=⟨_,rfl⟩
 have HZ:Hid ((⟨ws,n + cnt ws (wrdI c x.seen),if v = 1 then { x with phase:=7 } else { x with seen:=-1,phase:=6 }⟩:Kd) = z):=Lib.hid (by rw [← hz,← hv];rfl)
 have H:=Lib.hid h
 have HV:=Lib.hid hv
 have c6:w.cell? ⟨r,6,none⟩ = some (.int .i64 x.seen):=h.box.cell 6 _ rfl
 clear h hI hz hv
 by_cases h1:v = 1
 ·have hd:decide (v = 1) = true:=by simpa using h1
  have HZ1:Hid ((⟨ws,n + cnt ws (wrdI c x.seen),{ x with phase:=7 }⟩:Kd) = z):=Lib.hid (by rw [← HZ.out,if_pos h1])
  go_enter Tryz.func227,Tryz.ntmps227
  go_wp2_with fail
  refine (wWord_any _ c d ws n s _ H.out.wd n0 n1).mono ?_;rintro e w1 ⟨rfl,q1,h1'⟩
  rw [HV.out]
  have H1:=Lib.hid (H.out.step ⟨q1,h1'⟩)
  have Q1:Hid (But (Sk d r) w w1):=Lib.hid (but_m q1)
  clear c6 q1 h1'
  go_wp2_with (first | (refine store_cell rfl 3 _ _ rfl r 2 rfl (.int .i64 7) rfl rfl (x:Wk).l ({ x with phase:=7 }:Wk).l H1.out.box (Nat.le_of_ble_eq_true rfl) (by kernel_rfl) rfl ?_;intro w2 B_ q_;have H2:=Lib.hid (H1.out.put (x:={ x with phase:=7 }) B_ q_);have Q2:Hid (But (Sk d r) w w2):=Lib.hid (Q1.out.trans (but_r q_));clear B_ q_) | fail)
  refine bodyPost_ret (results_none rfl _ _ _) rfl ?_
  refine ⟨rfl,Q2.out,?_⟩
  rw [← HZ1.out]
  exact H2.out
 ·have hd:decide (v = 1) = false:=by simpa using h1
  have HZ1:Hid ((⟨ws,n + cnt ws (wrdI c x.seen),{ x with seen:=-1,phase:=6 }⟩:Kd) = z):=Lib.hid (by rw [← HZ.out,if_neg h1])
  go_enter Tryz.func227,Tryz.ntmps227
  go_wp2_with fail
  refine (wWord_any _ c d ws n s _ H.out.wd n0 n1).mono ?_;rintro e w1 ⟨rfl,q1,h1'⟩
  rw [HV.out]
  have H1:=Lib.hid (H.out.step ⟨q1,h1'⟩)
  have Q1:Hid (But (Sk d r) w w1):=Lib.hid (but_m q1)
  clear c6 q1 h1'
  go_wp2_with (first | (refine store_cell rfl 3 _ _ rfl r 6 rfl (.int .i64 (-1)) rfl rfl (x:Wk).l ({ x with seen:=-1 }:Wk).l H1.out.box (Nat.le_of_ble_eq_true rfl) (by kernel_rfl) rfl ?_;intro w2 B_ q_;have H2:=Lib.hid (H1.out.put (x:={ x with seen:=-1 }) B_ q_);have Q2:Hid (But (Sk d r) w w2):=Lib.hid (Q1.out.trans (but_r q_));clear B_ q_) | (refine store_cell rfl 3 _ _ rfl r 2 rfl (.int .i64 6) rfl rfl ({ x with seen:=-1 }:Wk).l ({ x with seen:=-1,phase:=6 }:Wk).l H2.out.box (Nat.le_of_ble_eq_true rfl) (by kernel_rfl) rfl ?_;intro w3 B_ q_;have H3:=Lib.hid (H2.out.put (x:={ x with seen:=-1,phase:=6 }) B_ q_);have Q3:Hid (But (Sk d r) w w3):=Lib.hid (Q2.out.trans (but_r q_));clear B_ q_) | fail)
  go_end0
  refine ⟨rfl,Q3.out,?_⟩
  rw [← HZ1.out]
  exact H3.out
set_option maxHeartbeats 4000000 in
theorem kSettle (w:World) (c:Cf) (d:Wd) (s:St) (r:Nat) (y:Kd) (h:WkAt w c d s r y) (hI:Inv c s) (n0:0 ≤ y.n) (n1:y.n < 4611686018427387904) (v:Int) (z:Kd) (hz:setK c s y v = z) :
  Calls Tryz.prog 262 #[.pointer (some ⟨r,0,none⟩),.pointer (some ⟨d.x,0,none⟩),.int .u64 v] w fun e w' => e = .returned (.tuple #[]) ∧ LeftK c d s r z w w':=by
 obtain ⟨ws,n,x⟩:=y
 simp only at n0 n1
 obtain ⟨op,hop⟩:∃ v,opK s x = v:=⟨_,rfl⟩
 have HZ:Hid ((⟨sw ws (wrdI c op) 0 v,n + cnt ws (wrdI c op),{ x with phase:=3 }⟩:Kd) = z):=Lib.hid (by rw [← hz,← hop];rfl)
 have H:=Lib.hid h
 have HI:=Lib.hid hI
 obtain ⟨oo,hoo⟩:∃ o,lookI s.nodes x.curr = o:=⟨_,rfl⟩
 have hcr:carriedOf oo = op:=by rw [← hop,← hoo];rfl
 have HOO:=Lib.hid hoo
 have HCR:=Lib.hid hcr
 clear h hI hz hop hoo hcr
 go_enter Tryz.func262,Tryz.ntmps262
 go_wp2_with fail
 refine wp_region_planb (Mine d.p d.b) (.one [0,1,2,3,4,5,6,7,8,10] 9 (.one [] 11 (.fin []))) (by kernel_rfl) (by kernel_rfl) (by kernel_rfl) ?_
 intro w2 g2
 have H2:=Lib.hid (H.out.grown g2)
 have Q2:Hid (But (Sk d r) w w2):=Lib.hid (But.of_grown g2)
 have d4:∀ g:ButW (Mine d.p d.b) w2,g.w.cell? ⟨r,4,none⟩ = some (.int .i64 x.curr):=ButW.cell H2.out.nm (H2.out.box.cell 4 _ rfl)
 have d6:∀ g:ButW (Mine d.p d.b) w2,g.w.cell? ⟨d.x,6,none⟩ = some (.pointer (some ⟨d.a.p,0,none⟩)):=ButW.cell H2.out.wd.mine (H2.out.wd.k6)
 refine plan_one ?_
 simp only [nths,nth,List.map_cons,List.map_nil,List.getD_cons_zero,List.getD_cons_succ]
 repeat go_big_quiet_step (fail)
 clear d4 d6 g2
 refine wpQuiet_nil ?_
 go_wp2_with fail
 refine (Carried_at _ c d.a s H2.out.wd.book HI.out x.curr oo HOO.out).mono ?_;rintro e w3 ⟨rfl,g3⟩
 rw [HCR.out]
 have H3:=Lib.hid (H2.out.grown g3)
 go_wp2_with fail
 refine nxt_but (But.of_grown g3) (plan_one ?_)
 simp only [nths,nth,List.map_nil,List.getD_cons_zero,List.getD_cons_succ]
 refine wpQuiet_nil ?_
 go_wp2_with fail
 refine (wTurn_any _ c d ws n s _ _ _ H3.out.wd n0 n1).mono ?_;rintro e w5 ⟨rfl,q5,h5⟩
 have H5:=Lib.hid (H3.out.step ⟨q5,h5⟩)
 have q25:But (Mine d.p d.b) w2 w5:=(But.of_grown g3).trans q5
 have Q5:=Lib.hid (Q2.out.trans (but_m q25))
 clear q5 h5 g3
 go_wp2_with fail
 refine nxt_but q25 (plan_fin ?_)
 simp only [nths,List.map_nil]
 refine wpQuiet_nil ?_
 go_wp2_with (first | (refine store_cell rfl 3 _ _ rfl r 2 rfl (.int .i64 3) rfl rfl (x:Wk).l ({ x with phase:=3 }:Wk).l H5.out.box (Nat.le_of_ble_eq_true rfl) (by kernel_rfl) rfl ?_;intro w6 B_ q_;have H6:=Lib.hid (H5.out.put (x:={ x with phase:=3 }) B_ q_);have Q6:Hid (But (Sk d r) w w6):=Lib.hid (Q5.out.trans (but_r q_));clear B_ q_) | fail)
 go_end0
 refine ⟨rfl,Q6.out,?_⟩
 rw [← HZ.out]
 exact H6.out
set_option maxHeartbeats 4000000 in
theorem kLetIn (w:World) (c:Cf) (d:Wd) (s:St) (r:Nat) (y:Kd) (h:WkAt w c d s r y) (hI:Inv c s) (n0:0 ≤ y.n) (n1:y.n < 4611686018427387904) (z:Kd) (hz:setK c s y 1 = z) :
  Calls Tryz.prog 228 #[.pointer (some ⟨r,0,none⟩),.pointer (some ⟨d.x,0,none⟩)] w fun e w' => e = .returned (.tuple #[]) ∧ LeftK c d s r z w w':=by
 have H:=Lib.hid h
 have HI:=Lib.hid hI
 have HZ:=Lib.hid hz
 clear h hI hz
 go_enter Tryz.func228,Tryz.ntmps228
 go_wp2_with fail
 refine (kSettle _ c d s r y H.out HI.out n0 n1 1 z HZ.out).mono ?_;rintro e w1 ⟨rfl,q1,h1⟩
 have H1:=Lib.hid h1
 have Q1:=Lib.hid q1
 clear h1 q1
 go_wp2
 go_end0
 exact ⟨rfl,Q1.out,H1.out⟩
set_option maxHeartbeats 4000000 in
theorem kRefuse (w:World) (c:Cf) (d:Wd) (s:St) (r:Nat) (y:Kd) (h:WkAt w c d s r y) (hI:Inv c s) (n0:0 ≤ y.n) (n1:y.n < 4611686018427387904) (z:Kd) (hz:setK c s y 2 = z) :
  Calls Tryz.prog 229 #[.pointer (some ⟨r,0,none⟩),.pointer (some ⟨d.x,0,none⟩)] w fun e w' => e = .returned (.tuple #[]) ∧ LeftK c d s r z w w':=by
 have H:=Lib.hid h
 have HI:=Lib.hid hI
 have HZ:=Lib.hid hz
 clear h hI hz
 go_enter Tryz.func229,Tryz.ntmps229
 go_wp2_with fail
 refine (kSettle _ c d s r y H.out HI.out n0 n1 2 z HZ.out).mono ?_;rintro e w1 ⟨rfl,q1,h1⟩
 have H1:=Lib.hid h1
 have Q1:=Lib.hid q1
 clear h1 q1
 go_wp2
 go_end0
 exact ⟨rfl,Q1.out,H1.out⟩
end Go.Proofs.YtcogckjpmmjmbaaGreat
