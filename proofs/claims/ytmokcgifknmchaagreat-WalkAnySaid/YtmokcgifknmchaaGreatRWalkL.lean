/- The document's walk (corrieref10): look. -/
import Derived.Test.YtmokcgifknmchaaGreatRWalkU
namespace Go.Proofs.YtmokcgifknmchaaGreat
open Go.ChangeShapes Go.WideShapes Go.ChangeAt Go.RowKit
set_option maxRecDepth 100000
set_option linter.unusedVariables false
theorem rqHead (w:World) (c:Cf) (sl:Sl) (b q cap:Nat) (n key:Int):Calls Tryz.prog 162 #[.agg (RwL c b q cap n sl).toArray,.int .u64 key] w fun e w' => e = .returned (.int .i64 (headI c key)) ∧ Grown w w' :=
 rWHead_at w c key n _ _ _ _ _ _ _ _ _ _ _ _ _ _ _ _ _ _
set_option maxHeartbeats 8000000 in
theorem rLook0 (w:World) (hi:Nat) (c:Cf) (b q cap:Nat) (ws:List Int) (n:Int) (s:St) (sl:Sl) (h:RwAt w hi c b q ws s sl) (hok:c.Ok) (hl:s.ops.length ≤ 99999) (hl5:s.nodes.length ≤ 99999) (x:Wk) (q0:0 < q) (n0:0 ≤ n) (n1:n < 4611686018427387904) (hw:∀ i:Int,0 ≤ rd ws i ∧ rd ws i ≤ 18446744073709551615) (b0:0 ≤ x.next) (b1:x.next ≤ 18446744073709551615) (hp:x.phase = 0) (z:Kd) (hz:begK c s ⟨ws,n,x⟩ = z) :
  Calls Tryz.prog 92 #[.agg (RwL c b q cap n sl).toArray,.agg x.l.toArray] w fun e w' => RK c sl b q z w e w':=by
 have hln:ws.length = q:=h.len
 have hp1:(x.phase == 0) = true:=by simpa using hp
 have hp2:decide (x.phase = 0) = true:=by simpa using hp
 have hp3:(x.phase != 0) = false:=by simpa using hp
 clear hp
 obtain ⟨hd,hhd⟩:∃ y,headI c x.key = y:=⟨_,rfl⟩
 obtain ⟨r,hr⟩:∃ y,rd ws (nxtI c hd) = y:=⟨_,rfl⟩
 obtain ⟨n2,hn2⟩:∃ y,n + cnt ws (nxtI c hd) = y:=⟨_,rfl⟩
 have HZ:Hid ((⟨ws,n2,arrA s { x with pred:=hd,curr:=r / 2,seen:=-1 }⟩:Kd) = z):=Lib.hid (by rw [← hz,← hn2,← hr,← hhd];rfl)
 have HHd:=Lib.hid hhd
 have HRr:=Lib.hid hr
 have HN2:=Lib.hid hn2
 obtain ⟨r0,r1⟩:=hw (nxtI c hd)
 rw [hr] at r0 r1
 clear hz hhd hr hn2 hw
 obtain ⟨u,hu,hg,b0,b1,b2,b3⟩:=vars4 w (RwL c b q cap n sl) x.l zWV zWk.l 42 72 42 72
 have HW_0:=Lib.hid b0
 have HX_0:=Lib.hid b1
 have HR0_0:=Lib.hid b2
 have HR1_0:=Lib.hid b3
 have HG_0:=Lib.hid hg
 have HH:=Lib.hid h
 have HOK:=Lib.hid hok
 obtain ⟨LW,hLW⟩:∃ L,RwL c b q cap n sl = L:=⟨_,rfl⟩
 obtain ⟨LX,hLX⟩:∃ L,x.l = L:=⟨_,rfl⟩
 rw [hLW,hLX] at hu ⊢
 simp only [zWk,Wk.l,zWV] at hu
 have HU:=Lib.hid hu
 have HLW:=Lib.hid hLW
 have HLX:=Lib.hid hLX
 clear hu hg b0 b1 b2 b3 h hok hLW hLX
 have hbl:b < w.heap.size:=World.block_lt_of_cell? w _ (HH.out.holds 0 (by rw [HH.out.len];exact q0))
 have x0:=HX_0.out.cell 0 _ rfl
 rw [← HU.out] at x0
 have x2:=HX_0.out.cell 2 _ rfl
 rw [← HU.out] at x2
 have hwc:=HW_0.out
 rw [← HU.out] at hwc
 have HWc:=Lib.hid hwc
 clear hwc
 go_enter Tryz.func92,Tryz.ntmps92
 go_wp2_with (first | (refine load_box rfl 42 _ rfl w.heap.size rfl _ _ Tryz.underlying42 rfl (by kernel_rfl) HWc.out ?_) | fail)
 rw [HU.out]
 refine (rqHead _ c sl b q cap n x.key).mono ?_;rintro e w_1 ⟨rfl,g_1⟩
 rw [HHd.out]
 clear x0 x2 HWc
 have HW_1:=Lib.hid (HW_0.out.grown g_1)
 have HX_1:=Lib.hid (HX_0.out.grown g_1)
 have HR0_1:=Lib.hid (HR0_0.out.grown g_1)
 have HR1_1:=Lib.hid (HR1_0.out.grown g_1)
 have HG_1:=Lib.hid (gtr HG_0.out g_1)
 clear g_1
 go_wp2_with (first | (refine store_cell rfl 3 _ _ rfl (w.heap.size + 1) 3 rfl (.int .i64 hd) rfl rfl (x:Wk).l ({ x with pred:=hd }:Wk).l HX_1.out (Nat.le_of_ble_eq_true rfl) (by kernel_rfl) rfl ?_;intro w_2 B_ q_;have HX_2:=Lib.hid B_;have HW_2:=Lib.hid (HW_1.out.but q_ (by omega));have HR0_2:=Lib.hid (HR0_1.out.but q_ (by omega));have HR1_2:=Lib.hid (HR1_1.out.but q_ (by omega));have HG_2:Hid (Grown w w_2):=Lib.hid (But.fresh HG_1.out q_ (fun i hi => by omega));have x3:=HX_2.out.cell 3 (.int .i64 hd) rfl;clear B_ q_) | (refine load_box rfl 42 _ rfl w.heap.size rfl _ _ Tryz.underlying42 rfl (by kernel_rfl) HW_2.out ?_) | fail)
 have hQ:=rqNext _ c sl b q cap ws n hd HH.out.len (HH.out.grown HG_2.out).holds HH.out.few n0 n1
 rw [HRr.out,HN2.out] at hQ
 refine hQ.mono ?_;rintro e w_3 ⟨b2,cp2,rfl,g_3,hh2,ho2⟩
 clear hQ
 have hb2:b2 < w_3.heap.size:=World.block_lt_of_cell? w_3 _ (hh2 0 (by rw [hln];exact q0))
 clear x3
 have hlt9:=HR1_2.out.lt
 have hlt8:=(HR1_2.out.grown g_3).lt
 have ga:Grown w_3 (w_3.alloc (.cells (RwL c b2 q cp2 n2 sl).toArray 42)):=by go_grown
 have hBA:=Box.made w_3 (RwL c b2 q cp2 n2 sl) 42
 obtain ⟨w_4,hw9⟩:∃ x,w_3.alloc (.cells (RwL c b2 q cp2 n2 sl).toArray 42) = x:=⟨_,rfl⟩
 obtain ⟨Y,hY9⟩:∃ x,w_3.heap.size = x:=⟨_,rfl⟩
 rw [hw9] at ga hBA
 rw [hY9] at hBA
 have hY:w.heap.size + 4 ≤ Y:=by omega
 have hbY:b2 ≠ Y:=by omega
 have ho:b2 = b ∨ w.heap.size + 4 ≤ b2:=by omega
 have HW_4:=Lib.hid (HW_2.out.grown (gtr g_3 ga))
 have HX_4:=Lib.hid (HX_2.out.grown (gtr g_3 ga))
 have HR0_4:=Lib.hid (HR0_2.out.grown (gtr g_3 ga))
 have HR1_4:=Lib.hid (HR1_2.out.grown (gtr g_3 ga))
 have HG_4:=Lib.hid (gtr HG_2.out (gtr g_3 ga))
 have HA_4:=Lib.hid hBA
 have HQ_4:=Lib.hid (hh2.grown ga)
 have hYl:=hBA.lt
 clear g_3 ga hBA hh2 ho2 hb2 hlt9 hlt8
 simp only [RwL] at hw9 ⊢
 have HW9:=Lib.hid hw9
 have HY9:=Lib.hid hY9
 clear hw9 hY9
 go_wp2_with fail
 rw [HW9.out,HY9.out]
 clear HW9 HY9
 refine (refIndex_any _ _ r0 r1).mono ?_;rintro e w_5 ⟨rfl,g_5⟩
 have HQ_5:=Lib.hid (HQ_4.out.grown g_5)
 have HW_5:=Lib.hid (HW_4.out.grown g_5)
 have HX_5:=Lib.hid (HX_4.out.grown g_5)
 have HR0_5:=Lib.hid (HR0_4.out.grown g_5)
 have HR1_5:=Lib.hid (HR1_4.out.grown g_5)
 have HA_5:=Lib.hid (HA_4.out.grown g_5)
 have HG_5:=Lib.hid (gtr HG_4.out g_5)
 clear g_5
 go_wp2_with (first | (refine store_cell rfl 3 _ _ rfl (w.heap.size + 1) 4 rfl (.int .i64 (r / 2)) rfl rfl ({ x with pred:=hd }:Wk).l ({ x with pred:=hd,curr:=r / 2 }:Wk).l HX_5.out (Nat.le_of_ble_eq_true rfl) (by kernel_rfl) rfl ?_;intro w_6 B_ q_;have HX_6:=Lib.hid B_;have HW_6:=Lib.hid (HW_5.out.but q_ (by omega));have HR0_6:=Lib.hid (HR0_5.out.but q_ (by omega));have HR1_6:=Lib.hid (HR1_5.out.but q_ (by omega));have HA_6:=Lib.hid (HA_5.out.but q_ (by omega));have HG_6:Hid (Grown w w_6):=Lib.hid (But.fresh HG_5.out q_ (fun i hi => by omega));have HQ_6:=Lib.hid (HQ_5.out.but q_ (by omega));clear B_ q_) | (refine store_cell rfl 3 _ _ rfl (w.heap.size + 1) 6 rfl (.int .i64 (-1)) rfl rfl ({ x with pred:=hd,curr:=r / 2 }:Wk).l ({ x with pred:=hd,curr:=r / 2,seen:=-1 }:Wk).l HX_6.out (Nat.le_of_ble_eq_true rfl) (by kernel_rfl) rfl ?_;intro w_7 B_ q_;have HX_7:=Lib.hid B_;have HW_7:=Lib.hid (HW_6.out.but q_ (by omega));have HR0_7:=Lib.hid (HR0_6.out.but q_ (by omega));have HR1_7:=Lib.hid (HR1_6.out.but q_ (by omega));have HA_7:=Lib.hid (HA_6.out.but q_ (by omega));have HG_7:Hid (Grown w w_7):=Lib.hid (But.fresh HG_6.out q_ (fun i hi => by omega));have HQ_7:=Lib.hid (HQ_6.out.but q_ (by omega));clear B_ q_) | fail)
 refine wp_region_planb (fun i => i = (w.heap.size + 1 + 1) ∨ i = (w.heap.size + 1 + 1 + 1)) (.one [0,1,2] 3 (.one [] 4 (.one [] 5 (.fin [])))) (by kernel_rfl) (by kernel_rfl) (by kernel_rfl) ?_
 intro w_11 g_11
 have HQ_11:=Lib.hid (HQ_7.out.grown g_11)
 have HW_11:=Lib.hid (HW_7.out.grown g_11)
 have HX_11:=Lib.hid (HX_7.out.grown g_11)
 have HR0_11:=Lib.hid (HR0_7.out.grown g_11)
 have HR1_11:=Lib.hid (HR1_7.out.grown g_11)
 have HA_11:=Lib.hid (HA_7.out.grown g_11)
 have HG_11:=Lib.hid (gtr HG_7.out g_11)
 refine plan_one ?_
 try simp only [Act.put]
 simp only [nths,nth,List.map_cons,List.map_nil,List.getD_cons_zero,List.getD_cons_succ]
 refine wpQuiet_load_box rfl 42 _ rfl Y rfl _ _ Tryz.underlying42 rfl (by kernel_rfl) (Box.butw HA_11.out (by rintro (h | h) <;> omega)) ?_
 simp only [Act.put,List.setIfInBounds_toArray,List.set_cons_succ,List.set_cons_zero]
 refine wpQuiet_load_box rfl 42 _ rfl Y rfl _ _ Tryz.underlying42 rfl (by kernel_rfl) (Box.butw HA_11.out (by rintro (h | h) <;> omega)) ?_
 simp only [Act.put,List.setIfInBounds_toArray,List.set_cons_succ,List.set_cons_zero]
 refine wpQuiet_load_box rfl 72 _ rfl (w.heap.size + 1) rfl _ _ Tryz.underlying72 rfl (by kernel_rfl) (Box.butw HX_11.out (by rintro (h | h) <;> omega)) ?_
 simp only [Act.put,List.setIfInBounds_toArray,List.set_cons_succ,List.set_cons_zero]
 refine wpQuiet_nil ?_
 go_wp2_with fail
 refine (rArrive _ hi c b2 q cp2 ws n2 s sl ⟨HQ_11.out,hln,HH.out.few,(HH.out.grown HG_11.out).refs,by have:=HH.out.lo;omega⟩ HOK.out hl hl5 { x with pred:=hd,curr:=r / 2,seen:=-1 } _ rfl).mono ?_;rintro e w_12 ⟨rfl,g_12⟩
 have HQ_12:=Lib.hid (HQ_11.out.grown g_12)
 have HR0_12:=Lib.hid (HR0_11.out.grown g_12)
 have HR1_12:=Lib.hid (HR1_11.out.grown g_12)
 have HG_12:=Lib.hid (gtr HG_11.out g_12)
 have GC:=Lib.hid g_12
 clear g_12
 go_wp2_with fail
 refine nxt_but (But.of_grown GC.out) (plan_one ?_)
 simp only [nths,nth,List.map_nil,List.getD_cons_zero,List.getD_cons_succ]
 refine wpQuiet_nil ?_
 go_wp2_with (first | (refine store_box rfl 42 _ _ rfl (w.heap.size + 1 + 1) _ HR0_12.out _ rfl rfl rfl (by kernel_rfl) rfl ?_;intro w_13 B_ q_;have HE0:=Lib.hid B_;have QE0:=Lib.hid q_;have HR1_13:=Lib.hid (HR1_12.out.but q_ (by omega));clear B_ q_) | fail)
 refine nxt_but ((But.of_grown GC.out).trans (QE0.out.mono fun i hi => .inl hi)) (plan_one ?_)
 simp only [nths,nth,List.map_nil,List.getD_cons_zero,List.getD_cons_succ]
 refine wpQuiet_nil ?_
 go_wp2_with (first | (refine store_box rfl 72 _ _ rfl (w.heap.size + 1 + 1 + 1) _ HR1_13.out _ rfl rfl rfl (by kernel_rfl) rfl ?_;intro w_14 B_ q_;have HE1:=Lib.hid B_;have QE1:=Lib.hid q_;have HE0_14:=Lib.hid (HE0.out.but q_ (by omega));clear B_ q_) | fail)
 have QE:But (fun i => i = (w.heap.size + 1 + 1) ∨ i = (w.heap.size + 1 + 1 + 1)) w_12 w_14:=(QE0.out.mono fun i hi => .inl hi).trans (QE1.out.mono fun i hi => .inr hi)
 refine nxt_but ((But.of_grown GC.out).trans QE) (plan_fin ?_)
 simp only [nths,List.map_nil]
 refine wpQuiet_nil ?_
 go_wp2_with fail
 exact bodyPost_ret (v:=.tuple #[.agg (RwL c b2 q cp2 (n2) sl).toArray,.agg (arrA s { x with pred:=hd,curr:=r / 2,seen:=-1 }).l.toArray]) (results_cc (ty:=42) (ty':=72) rfl rfl (load_run HE0_14.out 42 _ Tryz.underlying42 rfl (by kernel_rfl)) rfl (load_run HE1.out 72 _ Tryz.underlying72 rfl (by kernel_rfl))) rfl ⟨b2,cp2,by rw [← HZ.out],But.fresh HG_12.out QE (fun i hi => by rcases hi with h | h <;> omega),by rw [← HZ.out];exact HQ_12.out.but QE (by rintro (h | h) <;> omega),by omega⟩
set_option maxHeartbeats 8000000 in
theorem rLook1 (w:World) (hi:Nat) (c:Cf) (b q cap:Nat) (ws:List Int) (n:Int) (s:St) (sl:Sl) (h:RwAt w hi c b q ws s sl) (hok:c.Ok) (hl:s.ops.length ≤ 99999) (hl5:s.nodes.length ≤ 99999) (x:Wk) (q0:0 < q) (n0:0 ≤ n) (n1:n < 4611686018427387904) (hw:∀ i:Int,0 ≤ rd ws i ∧ rd ws i ≤ 18446744073709551615) (b0:0 ≤ x.next) (b1:x.next ≤ 18446744073709551615) (hp:x.phase = 1) (z:Kd) (hz:peeK c ⟨ws,n,x⟩ = z) :
  Calls Tryz.prog 92 #[.agg (RwL c b q cap n sl).toArray,.agg x.l.toArray] w fun e w' => RK c sl b q z w e w':=by
 have hln:ws.length = q:=h.len
 have hp0:¬ x.phase = 0:=by omega
 have hp01:(x.phase == 0) = false:=by simpa using hp0
 have hp02:decide (x.phase = 0) = false:=by simpa using hp0
 have hp03:(x.phase != 0) = true:=by simpa using hp0
 have hp1:(x.phase == 1) = true:=by simpa using hp
 have hp2:decide (x.phase = 1) = true:=by simpa using hp
 have hp3:(x.phase != 1) = false:=by simpa using hp
 clear hp hp0
 obtain ⟨r,hr⟩:∃ y,rd ws (nxtI c x.curr) = y:=⟨_,rfl⟩
 obtain ⟨n2,hn2⟩:∃ y,n + cnt ws (nxtI c x.curr) = y:=⟨_,rfl⟩
 obtain ⟨mk,hb⟩:∃ b,(r % 2 == 1) = b:=⟨_,rfl⟩
 have hz':(⟨ws,n2,{ x with next:=r,phase:=if mk then 2 else 3 }⟩:Kd) = z:=by rw [← hz,← hn2,← hb,← hr];rfl
 have HRr:=Lib.hid hr
 have HN2:=Lib.hid hn2
 have HB:=Lib.hid hb
 obtain ⟨r0,r1⟩:=hw (nxtI c x.curr)
 rw [hr] at r0 r1
 clear hz hr hn2 hw hb
 cases mk
 ·have HZ:Hid ((⟨ws,n2,{ x with next:=r,phase:=3 }⟩:Kd) = z):=Lib.hid hz'
  clear hz'
  obtain ⟨u,hu,hg,b0,b1,b2,b3⟩:=vars4 w (RwL c b q cap n sl) x.l zWV zWk.l 42 72 42 72
  have HW_0:=Lib.hid b0
  have HX_0:=Lib.hid b1
  have HR0_0:=Lib.hid b2
  have HR1_0:=Lib.hid b3
  have HG_0:=Lib.hid hg
  have HH:=Lib.hid h
  have HOK:=Lib.hid hok
  obtain ⟨LW,hLW⟩:∃ L,RwL c b q cap n sl = L:=⟨_,rfl⟩
  obtain ⟨LX,hLX⟩:∃ L,x.l = L:=⟨_,rfl⟩
  rw [hLW,hLX] at hu ⊢
  simp only [zWk,Wk.l,zWV] at hu
  have HU:=Lib.hid hu
  have HLW:=Lib.hid hLW
  have HLX:=Lib.hid hLX
  clear hu hg b0 b1 b2 b3 h hok hLW hLX
  have hbl:b < w.heap.size:=World.block_lt_of_cell? w _ (HH.out.holds 0 (by rw [HH.out.len];exact q0))
  have x2:=HX_0.out.cell 2 _ rfl
  rw [← HU.out] at x2
  have x4:=HX_0.out.cell 4 _ rfl
  rw [← HU.out] at x4
  have hwc:=HW_0.out
  rw [← HU.out] at hwc
  have HWc:=Lib.hid hwc
  clear hwc
  go_enter Tryz.func92,Tryz.ntmps92
  go_wp2_with (first | (refine load_box rfl 42 _ rfl w.heap.size rfl _ _ Tryz.underlying42 rfl (by kernel_rfl) HWc.out ?_) | fail)
  rw [HU.out]
  have hQ:=rqNext _ c sl b q cap ws n x.curr HH.out.len (HH.out.grown HG_0.out).holds HH.out.few n0 n1
  rw [HRr.out,HN2.out] at hQ
  refine hQ.mono ?_;rintro e w_1 ⟨b2,cp2,rfl,g_1,hh2,ho2⟩
  clear hQ
  have hb2:b2 < w_1.heap.size:=World.block_lt_of_cell? w_1 _ (hh2 0 (by rw [hln];exact q0))
  clear x2 x4 HWc
  have hlt9:=HR1_0.out.lt
  have hlt8:=(HR1_0.out.grown g_1).lt
  have ga:Grown w_1 (w_1.alloc (.cells (RwL c b2 q cp2 n2 sl).toArray 42)):=by go_grown
  have hBA:=Box.made w_1 (RwL c b2 q cp2 n2 sl) 42
  obtain ⟨w_2,hw9⟩:∃ x,w_1.alloc (.cells (RwL c b2 q cp2 n2 sl).toArray 42) = x:=⟨_,rfl⟩
  obtain ⟨Y,hY9⟩:∃ x,w_1.heap.size = x:=⟨_,rfl⟩
  rw [hw9] at ga hBA
  rw [hY9] at hBA
  have hY:w.heap.size + 4 ≤ Y:=by omega
  have hbY:b2 ≠ Y:=by omega
  have ho:b2 = b ∨ w.heap.size + 4 ≤ b2:=by omega
  have HW_2:=Lib.hid (HW_0.out.grown (gtr g_1 ga))
  have HX_2:=Lib.hid (HX_0.out.grown (gtr g_1 ga))
  have HR0_2:=Lib.hid (HR0_0.out.grown (gtr g_1 ga))
  have HR1_2:=Lib.hid (HR1_0.out.grown (gtr g_1 ga))
  have HG_2:=Lib.hid (gtr HG_0.out (gtr g_1 ga))
  have HA_2:=Lib.hid hBA
  have HQ_2:=Lib.hid (hh2.grown ga)
  have hYl:=hBA.lt
  clear g_1 ga hBA hh2 ho2 hb2 hlt9 hlt8
  simp only [RwL] at hw9 ⊢
  have HW9:=Lib.hid hw9
  have HY9:=Lib.hid hY9
  clear hw9 hY9
  have hxc:=HX_2.out
  rw [← HW9.out] at hxc
  have HXc:=Lib.hid hxc
  clear hxc
  go_wp2_with (first | (refine store_cell rfl 46 _ _ rfl (w.heap.size + 1) 5 rfl (.int .u64 r) rfl rfl (x:Wk).l ({ x with next:=r }:Wk).l HXc.out (Nat.le_of_ble_eq_true rfl) (by kernel_rfl) rfl ?_;intro w_3 B_ q_;rw [HW9.out] at q_;have HX_3:=Lib.hid B_;have HW_3:=Lib.hid (HW_2.out.but q_ (by omega));have HR0_3:=Lib.hid (HR0_2.out.but q_ (by omega));have HR1_3:=Lib.hid (HR1_2.out.but q_ (by omega));have HA_3:=Lib.hid (HA_2.out.but q_ (by omega));have HG_3:Hid (Grown w w_3):=Lib.hid (But.fresh HG_2.out q_ (fun i hi => by omega));have HQ_3:=Lib.hid (HQ_2.out.but q_ (by omega));clear B_ q_) | (refine store_cell rfl 3 _ _ rfl (w.heap.size + 1) 2 rfl (.int .i64 3) rfl rfl ({ x with next:=r }:Wk).l ({ x with next:=r,phase:=3 }:Wk).l HX_3.out (Nat.le_of_ble_eq_true rfl) (by kernel_rfl) rfl ?_;intro w_4 B_ q_;have HX_4:=Lib.hid B_;have HW_4:=Lib.hid (HW_3.out.but q_ (by omega));have HR0_4:=Lib.hid (HR0_3.out.but q_ (by omega));have HR1_4:=Lib.hid (HR1_3.out.but q_ (by omega));have HA_4:=Lib.hid (HA_3.out.but q_ (by omega));have HG_4:Hid (Grown w w_4):=Lib.hid (But.fresh HG_3.out q_ (fun i hi => by omega));have HQ_4:=Lib.hid (HQ_3.out.but q_ (by omega));clear B_ q_) | fail)
  rw [HY9.out]
  clear HW9 HY9
  refine (Marked_r _ HB.out r0 r1).mono ?_;rintro e w_5 ⟨rfl,g_5⟩
  have HQ_5:=Lib.hid (HQ_4.out.grown g_5)
  have HW_5:=Lib.hid (HW_4.out.grown g_5)
  have HX_5:=Lib.hid (HX_4.out.grown g_5)
  have HR0_5:=Lib.hid (HR0_4.out.grown g_5)
  have HR1_5:=Lib.hid (HR1_4.out.grown g_5)
  have HA_5:=Lib.hid (HA_4.out.grown g_5)
  have HG_5:=Lib.hid (gtr HG_4.out g_5)
  clear g_5
  go_wp2_with fail
  refine wp_region_planb (fun i => i = (w.heap.size + 1 + 1) ∨ i = (w.heap.size + 1 + 1 + 1)) (.one [0,1] 2 (.one [] 3 (.fin []))) (by kernel_rfl) (by kernel_rfl) (by kernel_rfl) ?_
  intro w_11 g_11
  have HQ_11:=Lib.hid (HQ_5.out.grown g_11)
  have HW_11:=Lib.hid (HW_5.out.grown g_11)
  have HX_11:=Lib.hid (HX_5.out.grown g_11)
  have HR0_11:=Lib.hid (HR0_5.out.grown g_11)
  have HR1_11:=Lib.hid (HR1_5.out.grown g_11)
  have HA_11:=Lib.hid (HA_5.out.grown g_11)
  have HG_11:=Lib.hid (gtr HG_5.out g_11)
  refine plan_one ?_
  try simp only [Act.put]
  simp only [nths,nth,List.map_cons,List.map_nil,List.getD_cons_zero,List.getD_cons_succ]
  refine wpQuiet_load_box rfl 42 _ rfl Y rfl _ _ Tryz.underlying42 rfl (by kernel_rfl) (Box.butw HA_11.out (by rintro (h | h) <;> omega)) ?_
  simp only [Act.put,List.setIfInBounds_toArray,List.set_cons_succ,List.set_cons_zero]
  refine wpQuiet_load_box rfl 72 _ rfl (w.heap.size + 1) rfl _ _ Tryz.underlying72 rfl (by kernel_rfl) (Box.butw HX_11.out (by rintro (h | h) <;> omega)) ?_
  simp only [Act.put,List.setIfInBounds_toArray,List.set_cons_succ,List.set_cons_zero]
  refine wpQuiet_nil ?_
  go_wp2_with (first | (refine store_box rfl 42 _ _ rfl (w.heap.size + 1 + 1) _ HR0_11.out _ rfl rfl rfl (by kernel_rfl) rfl ?_;intro w_12 B_ q_;have HE0:=Lib.hid B_;have QE0:=Lib.hid q_;have HR1_12:=Lib.hid (HR1_11.out.but q_ (by omega));clear B_ q_) | fail)
  refine nxt_but (QE0.out.mono fun i hi => .inl hi) (plan_one ?_)
  simp only [nths,nth,List.map_nil,List.getD_cons_zero,List.getD_cons_succ]
  refine wpQuiet_nil ?_
  go_wp2_with (first | (refine store_box rfl 72 _ _ rfl (w.heap.size + 1 + 1 + 1) _ HR1_12.out _ rfl rfl rfl (by kernel_rfl) rfl ?_;intro w_13 B_ q_;have HE1:=Lib.hid B_;have QE1:=Lib.hid q_;have HE0_13:=Lib.hid (HE0.out.but q_ (by omega));clear B_ q_) | fail)
  have QE:But (fun i => i = (w.heap.size + 1 + 1) ∨ i = (w.heap.size + 1 + 1 + 1)) w_11 w_13:=(QE0.out.mono fun i hi => .inl hi).trans (QE1.out.mono fun i hi => .inr hi)
  refine nxt_but QE (plan_fin ?_)
  simp only [nths,List.map_nil]
  refine wpQuiet_nil ?_
  go_wp2_with fail
  exact bodyPost_ret (v:=.tuple #[.agg (RwL c b2 q cp2 (n2) sl).toArray,.agg (({ x with next:=r,phase:=3 }:Wk)).l.toArray]) (results_cc (ty:=42) (ty':=72) rfl rfl (load_run HE0_13.out 42 _ Tryz.underlying42 rfl (by kernel_rfl)) rfl (load_run HE1.out 72 _ Tryz.underlying72 rfl (by kernel_rfl))) rfl ⟨b2,cp2,by rw [← HZ.out],But.fresh HG_11.out QE (fun i hi => by rcases hi with h | h <;> omega),by rw [← HZ.out];exact HQ_11.out.but QE (by rintro (h | h) <;> omega),by omega⟩
 ·have HZ:Hid ((⟨ws,n2,{ x with next:=r,phase:=2 }⟩:Kd) = z):=Lib.hid hz'
  clear hz'
  obtain ⟨u,hu,hg,b0,b1,b2,b3⟩:=vars4 w (RwL c b q cap n sl) x.l zWV zWk.l 42 72 42 72
  have HW_0:=Lib.hid b0
  have HX_0:=Lib.hid b1
  have HR0_0:=Lib.hid b2
  have HR1_0:=Lib.hid b3
  have HG_0:=Lib.hid hg
  have HH:=Lib.hid h
  have HOK:=Lib.hid hok
  obtain ⟨LW,hLW⟩:∃ L,RwL c b q cap n sl = L:=⟨_,rfl⟩
  obtain ⟨LX,hLX⟩:∃ L,x.l = L:=⟨_,rfl⟩
  rw [hLW,hLX] at hu ⊢
  simp only [zWk,Wk.l,zWV] at hu
  have HU:=Lib.hid hu
  have HLW:=Lib.hid hLW
  have HLX:=Lib.hid hLX
  clear hu hg b0 b1 b2 b3 h hok hLW hLX
  have hbl:b < w.heap.size:=World.block_lt_of_cell? w _ (HH.out.holds 0 (by rw [HH.out.len];exact q0))
  have x2:=HX_0.out.cell 2 _ rfl
  rw [← HU.out] at x2
  have x4:=HX_0.out.cell 4 _ rfl
  rw [← HU.out] at x4
  have hwc:=HW_0.out
  rw [← HU.out] at hwc
  have HWc:=Lib.hid hwc
  clear hwc
  go_enter Tryz.func92,Tryz.ntmps92
  go_wp2_with (first | (refine load_box rfl 42 _ rfl w.heap.size rfl _ _ Tryz.underlying42 rfl (by kernel_rfl) HWc.out ?_) | fail)
  rw [HU.out]
  have hQ:=rqNext _ c sl b q cap ws n x.curr HH.out.len (HH.out.grown HG_0.out).holds HH.out.few n0 n1
  rw [HRr.out,HN2.out] at hQ
  refine hQ.mono ?_;rintro e w_1 ⟨b2,cp2,rfl,g_1,hh2,ho2⟩
  clear hQ
  have hb2:b2 < w_1.heap.size:=World.block_lt_of_cell? w_1 _ (hh2 0 (by rw [hln];exact q0))
  clear x2 x4 HWc
  have hlt9:=HR1_0.out.lt
  have hlt8:=(HR1_0.out.grown g_1).lt
  have ga:Grown w_1 (w_1.alloc (.cells (RwL c b2 q cp2 n2 sl).toArray 42)):=by go_grown
  have hBA:=Box.made w_1 (RwL c b2 q cp2 n2 sl) 42
  obtain ⟨w_2,hw9⟩:∃ x,w_1.alloc (.cells (RwL c b2 q cp2 n2 sl).toArray 42) = x:=⟨_,rfl⟩
  obtain ⟨Y,hY9⟩:∃ x,w_1.heap.size = x:=⟨_,rfl⟩
  rw [hw9] at ga hBA
  rw [hY9] at hBA
  have hY:w.heap.size + 4 ≤ Y:=by omega
  have hbY:b2 ≠ Y:=by omega
  have ho:b2 = b ∨ w.heap.size + 4 ≤ b2:=by omega
  have HW_2:=Lib.hid (HW_0.out.grown (gtr g_1 ga))
  have HX_2:=Lib.hid (HX_0.out.grown (gtr g_1 ga))
  have HR0_2:=Lib.hid (HR0_0.out.grown (gtr g_1 ga))
  have HR1_2:=Lib.hid (HR1_0.out.grown (gtr g_1 ga))
  have HG_2:=Lib.hid (gtr HG_0.out (gtr g_1 ga))
  have HA_2:=Lib.hid hBA
  have HQ_2:=Lib.hid (hh2.grown ga)
  have hYl:=hBA.lt
  clear g_1 ga hBA hh2 ho2 hb2 hlt9 hlt8
  simp only [RwL] at hw9 ⊢
  have HW9:=Lib.hid hw9
  have HY9:=Lib.hid hY9
  clear hw9 hY9
  have hxc:=HX_2.out
  rw [← HW9.out] at hxc
  have HXc:=Lib.hid hxc
  clear hxc
  go_wp2_with (first | (refine store_cell rfl 46 _ _ rfl (w.heap.size + 1) 5 rfl (.int .u64 r) rfl rfl (x:Wk).l ({ x with next:=r }:Wk).l HXc.out (Nat.le_of_ble_eq_true rfl) (by kernel_rfl) rfl ?_;intro w_3 B_ q_;rw [HW9.out] at q_;have HX_3:=Lib.hid B_;have HW_3:=Lib.hid (HW_2.out.but q_ (by omega));have HR0_3:=Lib.hid (HR0_2.out.but q_ (by omega));have HR1_3:=Lib.hid (HR1_2.out.but q_ (by omega));have HA_3:=Lib.hid (HA_2.out.but q_ (by omega));have HG_3:Hid (Grown w w_3):=Lib.hid (But.fresh HG_2.out q_ (fun i hi => by omega));have HQ_3:=Lib.hid (HQ_2.out.but q_ (by omega));clear B_ q_) | (refine store_cell rfl 3 _ _ rfl (w.heap.size + 1) 2 rfl (.int .i64 3) rfl rfl ({ x with next:=r }:Wk).l ({ x with next:=r,phase:=3 }:Wk).l HX_3.out (Nat.le_of_ble_eq_true rfl) (by kernel_rfl) rfl ?_;intro w_4 B_ q_;have HX_4:=Lib.hid B_;have HW_4:=Lib.hid (HW_3.out.but q_ (by omega));have HR0_4:=Lib.hid (HR0_3.out.but q_ (by omega));have HR1_4:=Lib.hid (HR1_3.out.but q_ (by omega));have HA_4:=Lib.hid (HA_3.out.but q_ (by omega));have HG_4:Hid (Grown w w_4):=Lib.hid (But.fresh HG_3.out q_ (fun i hi => by omega));have HQ_4:=Lib.hid (HQ_3.out.but q_ (by omega));clear B_ q_) | fail)
  rw [HY9.out]
  clear HW9 HY9
  refine (Marked_r _ HB.out r0 r1).mono ?_;rintro e w_5 ⟨rfl,g_5⟩
  have HQ_5:=Lib.hid (HQ_4.out.grown g_5)
  have HW_5:=Lib.hid (HW_4.out.grown g_5)
  have HX_5:=Lib.hid (HX_4.out.grown g_5)
  have HR0_5:=Lib.hid (HR0_4.out.grown g_5)
  have HR1_5:=Lib.hid (HR1_4.out.grown g_5)
  have HA_5:=Lib.hid (HA_4.out.grown g_5)
  have HG_5:=Lib.hid (gtr HG_4.out g_5)
  clear g_5
  go_wp2_with (first | (refine store_cell rfl 3 _ _ rfl (w.heap.size + 1) 2 rfl (.int .i64 2) rfl rfl ({ x with next:=r,phase:=3 }:Wk).l ({ x with next:=r,phase:=2 }:Wk).l HX_5.out (Nat.le_of_ble_eq_true rfl) (by kernel_rfl) rfl ?_;intro w_6 B_ q_;have HX_6:=Lib.hid B_;have HW_6:=Lib.hid (HW_5.out.but q_ (by omega));have HR0_6:=Lib.hid (HR0_5.out.but q_ (by omega));have HR1_6:=Lib.hid (HR1_5.out.but q_ (by omega));have HA_6:=Lib.hid (HA_5.out.but q_ (by omega));have HG_6:Hid (Grown w w_6):=Lib.hid (But.fresh HG_5.out q_ (fun i hi => by omega));have HQ_6:=Lib.hid (HQ_5.out.but q_ (by omega));clear B_ q_) | fail)
  refine wp_region_planb (fun i => i = (w.heap.size + 1 + 1) ∨ i = (w.heap.size + 1 + 1 + 1)) (.one [0,1] 2 (.one [] 3 (.fin []))) (by kernel_rfl) (by kernel_rfl) (by kernel_rfl) ?_
  intro w_11 g_11
  have HQ_11:=Lib.hid (HQ_6.out.grown g_11)
  have HW_11:=Lib.hid (HW_6.out.grown g_11)
  have HX_11:=Lib.hid (HX_6.out.grown g_11)
  have HR0_11:=Lib.hid (HR0_6.out.grown g_11)
  have HR1_11:=Lib.hid (HR1_6.out.grown g_11)
  have HA_11:=Lib.hid (HA_6.out.grown g_11)
  have HG_11:=Lib.hid (gtr HG_6.out g_11)
  refine plan_one ?_
  try simp only [Act.put]
  simp only [nths,nth,List.map_cons,List.map_nil,List.getD_cons_zero,List.getD_cons_succ]
  refine wpQuiet_load_box rfl 42 _ rfl Y rfl _ _ Tryz.underlying42 rfl (by kernel_rfl) (Box.butw HA_11.out (by rintro (h | h) <;> omega)) ?_
  simp only [Act.put,List.setIfInBounds_toArray,List.set_cons_succ,List.set_cons_zero]
  refine wpQuiet_load_box rfl 72 _ rfl (w.heap.size + 1) rfl _ _ Tryz.underlying72 rfl (by kernel_rfl) (Box.butw HX_11.out (by rintro (h | h) <;> omega)) ?_
  simp only [Act.put,List.setIfInBounds_toArray,List.set_cons_succ,List.set_cons_zero]
  refine wpQuiet_nil ?_
  go_wp2_with (first | (refine store_box rfl 42 _ _ rfl (w.heap.size + 1 + 1) _ HR0_11.out _ rfl rfl rfl (by kernel_rfl) rfl ?_;intro w_12 B_ q_;have HE0:=Lib.hid B_;have QE0:=Lib.hid q_;have HR1_12:=Lib.hid (HR1_11.out.but q_ (by omega));clear B_ q_) | fail)
  refine nxt_but (QE0.out.mono fun i hi => .inl hi) (plan_one ?_)
  simp only [nths,nth,List.map_nil,List.getD_cons_zero,List.getD_cons_succ]
  refine wpQuiet_nil ?_
  go_wp2_with (first | (refine store_box rfl 72 _ _ rfl (w.heap.size + 1 + 1 + 1) _ HR1_12.out _ rfl rfl rfl (by kernel_rfl) rfl ?_;intro w_13 B_ q_;have HE1:=Lib.hid B_;have QE1:=Lib.hid q_;have HE0_13:=Lib.hid (HE0.out.but q_ (by omega));clear B_ q_) | fail)
  have QE:But (fun i => i = (w.heap.size + 1 + 1) ∨ i = (w.heap.size + 1 + 1 + 1)) w_11 w_13:=(QE0.out.mono fun i hi => .inl hi).trans (QE1.out.mono fun i hi => .inr hi)
  refine nxt_but QE (plan_fin ?_)
  simp only [nths,List.map_nil]
  refine wpQuiet_nil ?_
  go_wp2_with fail
  exact bodyPost_ret (v:=.tuple #[.agg (RwL c b2 q cp2 (n2) sl).toArray,.agg (({ x with next:=r,phase:=2 }:Wk)).l.toArray]) (results_cc (ty:=42) (ty':=72) rfl rfl (load_run HE0_13.out 42 _ Tryz.underlying42 rfl (by kernel_rfl)) rfl (load_run HE1.out 72 _ Tryz.underlying72 rfl (by kernel_rfl))) rfl ⟨b2,cp2,by rw [← HZ.out],But.fresh HG_11.out QE (fun i hi => by rcases hi with h | h <;> omega),by rw [← HZ.out];exact HQ_11.out.but QE (by rintro (h | h) <;> omega),by omega⟩
set_option maxHeartbeats 8000000 in
theorem rLook3 (w:World) (hi:Nat) (c:Cf) (b q cap:Nat) (ws:List Int) (n:Int) (s:St) (sl:Sl) (h:RwAt w hi c b q ws s sl) (hok:c.Ok) (hl:s.ops.length ≤ 99999) (hl5:s.nodes.length ≤ 99999) (x:Wk) (q0:0 < q) (n0:0 ≤ n) (n1:n < 4611686018427387904) (hw:∀ i:Int,0 ≤ rd ws i ∧ rd ws i ≤ 18446744073709551615) (b0:0 ≤ x.next) (b1:x.next ≤ 18446744073709551615) (hp:x.phase = 3) (z:Kd) (hz:jdgK c s ⟨ws,n,x⟩ = z) :
  Calls Tryz.prog 92 #[.agg (RwL c b q cap n sl).toArray,.agg x.l.toArray] w fun e w' => RK c sl b q z w e w':=by
 have hln:ws.length = q:=h.len
 have hp0:¬ x.phase = 0:=by omega
 have hp1:¬ x.phase = 1:=by omega
 have hp01:(x.phase == 0) = false:=by simpa using hp0
 have hp02:decide (x.phase = 0) = false:=by simpa using hp0
 have hp03:(x.phase != 0) = true:=by simpa using hp0
 have hp11:(x.phase == 1) = false:=by simpa using hp1
 have hp12:decide (x.phase = 1) = false:=by simpa using hp1
 have hp13:(x.phase != 1) = true:=by simpa using hp1
 clear hp hp0 hp1
 obtain ⟨ov,hov⟩:∃ y,opK s x = y:=⟨_,rfl⟩
 obtain ⟨r,hr⟩:∃ y,rd ws (wrdI c ov) = y:=⟨_,rfl⟩
 obtain ⟨n2,hn2⟩:∃ y,n + cnt ws (wrdI c ov) = y:=⟨_,rfl⟩
 have HZ:Hid ((⟨ws,n2,judK s x r⟩:Kd) = z):=Lib.hid (by rw [← hz,← hn2,← hr,← hov];rfl)
 have HO:Hid (carriedOf (lookI s.nodes x.curr) = ov):=Lib.hid hov
 have HRr:=Lib.hid hr
 have HN2:=Lib.hid hn2
 obtain ⟨r0,r1⟩:=hw (wrdI c ov)
 rw [hr] at r0 r1
 clear hz hr hn2 hw hov
 obtain ⟨u,hu,hg,b0,b1,b2,b3⟩:=vars4 w (RwL c b q cap n sl) x.l zWV zWk.l 42 72 42 72
 have HW_0:=Lib.hid b0
 have HX_0:=Lib.hid b1
 have HR0_0:=Lib.hid b2
 have HR1_0:=Lib.hid b3
 have HG_0:=Lib.hid hg
 have HH:=Lib.hid h
 have HOK:=Lib.hid hok
 obtain ⟨LW,hLW⟩:∃ L,RwL c b q cap n sl = L:=⟨_,rfl⟩
 obtain ⟨LX,hLX⟩:∃ L,x.l = L:=⟨_,rfl⟩
 rw [hLW,hLX] at hu ⊢
 simp only [zWk,Wk.l,zWV] at hu
 have HU:=Lib.hid hu
 have HLW:=Lib.hid hLW
 have HLX:=Lib.hid hLX
 clear hu hg b0 b1 b2 b3 h hok hLW hLX
 have hbl:b < w.heap.size:=World.block_lt_of_cell? w _ (HH.out.holds 0 (by rw [HH.out.len];exact q0))
 have x2:=HX_0.out.cell 2 _ rfl
 rw [← HU.out] at x2
 go_enter Tryz.func92,Tryz.ntmps92
 go_wp2_with fail
 rw [HU.out]
 clear x2
 go_cut [10,11] from 12 to 67 (fun s10 s11 wx => ∃ (Y b2 cp2:Nat),s10 = .pointer (some ⟨Y,0,none⟩) ∧ s11 = .int .u64 r ∧ Grown u wx ∧ Hid (Box wx Y (RwL c b2 q cp2 n2 sl) ∧ Holds wx b2 ws ∧ (b2 = b ∨ w.heap.size + 4 ≤ b2) ∧ w.heap.size + 4 ≤ Y ∧ b2 ≠ Y))
 case first =>
  as_aux_lemma =>
   refine wp_region_plang (.two [0,1,2,3,4] 5 (.two [] 6 (.one [7,8,9] 10 (.one [] 11 (.fin [12]))) 10 (.one [] 6 (.one [7,8,9] 11 (.fin [12])))) 10 (.one [] 5 (.one [] 6 (.one [7,8,9] 11 (.fin [12]))))) (by kernel_rfl) (by kernel_rfl) (by kernel_rfl) ?_
   intro w_2 g_2
   have HW_2:=Lib.hid (HW_0.out.grown g_2)
   have HX_2:=Lib.hid (HX_0.out.grown g_2)
   have HR0_2:=Lib.hid (HR0_0.out.grown g_2)
   have HR1_2:=Lib.hid (HR1_0.out.grown g_2)
   have HG_2:=Lib.hid (gtr HG_0.out g_2)
   have hs0:w.heap.size + 4 ≤ w_2.heap.size:=by have:=HR1_2.out.lt;omega
   have HH9_2:=Lib.hid (HH.out.grown HG_2.out).holds
   have t7:∀ g:GrW w_2,g.w.cell? ⟨w.heap.size,7,none⟩ = some (.int .i64 c.t):=GrW.cell (HW_2.out.cell 7 _ rfl)
   have t8:∀ g:GrW w_2,g.w.cell? ⟨w.heap.size,8,none⟩ = some (.int .i64 c.b):=GrW.cell (HW_2.out.cell 8 _ rfl)
   have t9:∀ g:GrW w_2,g.w.cell? ⟨w.heap.size,9,none⟩ = some (.int .i64 c.i):=GrW.cell (HW_2.out.cell 9 _ rfl)
   have t10:∀ g:GrW w_2,g.w.cell? ⟨w.heap.size,10,none⟩ = some (.int .i64 c.f):=GrW.cell (HW_2.out.cell 10 _ rfl)
   have t11:∀ g:GrW w_2,g.w.cell? ⟨w.heap.size,11,none⟩ = some (.int .i64 c.k):=GrW.cell (HW_2.out.cell 11 _ rfl)
   have t12:∀ g:GrW w_2,g.w.cell? ⟨w.heap.size,12,none⟩ = some (.slice sl.a1 sl.m1 sl.k1):=GrW.cell (HW_2.out.cell 12 _ rfl)
   have t13:∀ g:GrW w_2,g.w.cell? ⟨w.heap.size,13,none⟩ = some (.slice sl.a2 sl.m2 sl.k2):=GrW.cell (HW_2.out.cell 13 _ rfl)
   have t14:∀ g:GrW w_2,g.w.cell? ⟨w.heap.size,14,none⟩ = some (.slice sl.a3 sl.m3 sl.k3):=GrW.cell (HW_2.out.cell 14 _ rfl)
   have t15:∀ g:GrW w_2,g.w.cell? ⟨w.heap.size,15,none⟩ = some (.slice sl.a4 sl.m4 sl.k4):=GrW.cell (HW_2.out.cell 15 _ rfl)
   have t16:∀ g:GrW w_2,g.w.cell? ⟨w.heap.size,16,none⟩ = some (.slice sl.a5 sl.m5 sl.k5):=GrW.cell (HW_2.out.cell 16 _ rfl)
   have x4:∀ g:GrW w_2,g.w.cell? ⟨(w.heap.size + 1),4,none⟩ = some (.int .i64 x.curr):=GrW.cell (HX_2.out.cell 4 _ rfl)
   refine plan_two ?_
   try simp only [Act.put]
   simp only [nths,nth,List.map_cons,List.map_nil,List.getD_cons_zero,List.getD_cons_succ]
   refine wpQuiet_load_box rfl 42 _ rfl w.heap.size rfl _ _ Tryz.underlying42 rfl (by kernel_rfl) (Box.grw HW_2.out) ?_
   simp only [Act.put,List.setIfInBounds_toArray,List.set_cons_succ,List.set_cons_zero]
   repeat go_big_quiet_step (fail)
   clear t7 t8 t9 t10 t11 t12 t13 t14 t15 t16 x4
   refine wpQuiet_nil ⟨?_,?_⟩
   ·go_wp2_with fail
    refine (rCarried_at _ hi c s _ _ _ _ _ (HH.out.grown HG_2.out).refs HOK.out hl5 x.curr ov HO.out).mono ?_;rintro e v_0 ⟨rfl,g_v_0⟩
    have gc_0:Grown w_2 v_0:=g_v_0
    have hs_0:w_2.heap.size ≤ v_0.heap.size:=g_v_0.2.2
    go_wp2_with fail
    refine nxt_stay gc_0 (plan_two ?_)
    simp only [nths,nth,List.map_nil,List.getD_cons_zero,List.getD_cons_succ]
    refine wpQuiet_nil ⟨?_,?_⟩
    ·go_wp2_with fail
     have hQ:=rqWord _ c sl b q cap ws n ov HH.out.len (HH9_2.out.grown gc_0) HH.out.few n0 n1
     rw [HRr.out,HN2.out] at hQ
     refine hQ.mono ?_;rintro e v_1 ⟨b2,cp2,rfl,g_v_1,hh2,ho2⟩
     clear hQ
     have hb2:b2 < v_1.heap.size:=World.block_lt_of_cell? v_1 _ (hh2 0 (by rw [hln];exact q0))
     replace hh2:=Lib.hid hh2
     have gc_1:Grown w_2 v_1:=gtr gc_0 g_v_1
     have hs_1:v_0.heap.size ≤ v_1.heap.size:=g_v_1.2.2
     simp only [RwL]
     go_wp2_with fail
     refine nxt_stay gc_1 (plan_one ?_)
     simp only [nths,nth,List.map_cons,List.map_nil,List.getD_cons_zero,List.getD_cons_succ]
     repeat go_big_quiet_step (fail)
     refine wpQuiet_nil ?_
     go_wp2_with fail
     have g8:Grown v_1 (v_1.alloc (.cells #[.int .i64 0,.int .i64 0,.int .i64 0,.int .i64 0,.int .i64 0,.slice none 0 0,.int .i64 0,.int .i64 0,.int .i64 0,.int .i64 0,.int .i64 0,.int .i64 0,.slice none 0 0,.slice none 0 0,.slice none 0 0,.slice none 0 0,.slice none 0 0] 42)):=by go_grown
     have BX:=Box.made v_1 zWV 42
     have hsz:(v_1.alloc (.cells #[.int .i64 0,.int .i64 0,.int .i64 0,.int .i64 0,.int .i64 0,.slice none 0 0,.int .i64 0,.int .i64 0,.int .i64 0,.int .i64 0,.int .i64 0,.int .i64 0,.slice none 0 0,.slice none 0 0,.slice none 0 0,.slice none 0 0,.slice none 0 0] 42)).heap.size = v_1.heap.size + 1:=by simp
     change Box (v_1.alloc (.cells #[.int .i64 0,.int .i64 0,.int .i64 0,.int .i64 0,.int .i64 0,.slice none 0 0,.int .i64 0,.int .i64 0,.int .i64 0,.int .i64 0,.int .i64 0,.int .i64 0,.slice none 0 0,.slice none 0 0,.slice none 0 0,.slice none 0 0,.slice none 0 0] 42)) v_1.heap.size _ at BX
     obtain ⟨Y,hY⟩:∃ X,v_1.heap.size = X:=⟨_,rfl⟩
     rw [hY] at BX hsz ⊢
     replace BX:=Lib.hid BX
     generalize v_1.alloc (.cells #[.int .i64 0,.int .i64 0,.int .i64 0,.int .i64 0,.int .i64 0,.slice none 0 0,.int .i64 0,.int .i64 0,.int .i64 0,.int .i64 0,.int .i64 0,.int .i64 0,.slice none 0 0,.slice none 0 0,.slice none 0 0,.slice none 0 0,.slice none 0 0] 42) = v_2 at *
     have gc_2:Grown w_2 v_2:=gtr gc_1 g8
     replace hh2:=Lib.hid (hh2.out.grown g8)
     refine nxt_stay gc_2 (plan_one ?_)
     simp only [nths,nth,List.map_nil,List.getD_cons_zero,List.getD_cons_succ]
     refine wpQuiet_nil ?_
     go_wp2_with (first | (refine store_box rfl 42 _ _ rfl Y _ BX.out _ rfl rfl rfl (by kernel_rfl) rfl ?_;intro v_9 B_ q_;have HB9:=Lib.hid B_;have q9:=Lib.hid q_;clear B_ q_) | fail)
     have gF:Grown w_2 v_9:=But.fresh gc_2 q9.out (fun i hi => by omega)
     refine nxt_stay gF (plan_fin ?_)
     simp only [nths,nth,List.map_cons,List.map_nil,List.getD_cons_zero,List.getD_cons_succ]
     repeat go_big_quiet_step (fail)
     refine wpQuiet_nil ?_
     go_wp2_with fail
     go_meet
     case rel => exact ⟨Y,b2,cp2,rfl,rfl,gtr g_2 gF,Lib.hid ⟨HB9.out,hh2.out.but q9.out (by omega),by omega,by omega,by omega⟩⟩
    ·go_wp2_with fail
     have g8:Grown v_0 (v_0.alloc (.cells #[.int .i64 0,.int .i64 0,.int .i64 0,.int .i64 0,.int .i64 0,.slice none 0 0,.int .i64 0,.int .i64 0,.int .i64 0,.int .i64 0,.int .i64 0,.int .i64 0,.slice none 0 0,.slice none 0 0,.slice none 0 0,.slice none 0 0,.slice none 0 0] 42)):=by go_grown
     have BX:=Box.made v_0 zWV 42
     have hsz:(v_0.alloc (.cells #[.int .i64 0,.int .i64 0,.int .i64 0,.int .i64 0,.int .i64 0,.slice none 0 0,.int .i64 0,.int .i64 0,.int .i64 0,.int .i64 0,.int .i64 0,.int .i64 0,.slice none 0 0,.slice none 0 0,.slice none 0 0,.slice none 0 0,.slice none 0 0] 42)).heap.size = v_0.heap.size + 1:=by simp
     change Box (v_0.alloc (.cells #[.int .i64 0,.int .i64 0,.int .i64 0,.int .i64 0,.int .i64 0,.slice none 0 0,.int .i64 0,.int .i64 0,.int .i64 0,.int .i64 0,.int .i64 0,.int .i64 0,.slice none 0 0,.slice none 0 0,.slice none 0 0,.slice none 0 0,.slice none 0 0] 42)) v_0.heap.size _ at BX
     obtain ⟨Y,hY⟩:∃ X,v_0.heap.size = X:=⟨_,rfl⟩
     rw [hY] at BX hsz ⊢
     replace BX:=Lib.hid BX
     generalize v_0.alloc (.cells #[.int .i64 0,.int .i64 0,.int .i64 0,.int .i64 0,.int .i64 0,.slice none 0 0,.int .i64 0,.int .i64 0,.int .i64 0,.int .i64 0,.int .i64 0,.int .i64 0,.slice none 0 0,.slice none 0 0,.slice none 0 0,.slice none 0 0,.slice none 0 0] 42) = v_1 at *
     have gc_1:Grown w_2 v_1:=gtr gc_0 g8
     refine nxt_stay gc_1 (plan_one ?_)
     simp only [nths,nth,List.map_nil,List.getD_cons_zero,List.getD_cons_succ]
     refine wpQuiet_nil ?_
     go_wp2_with fail
     have hQ:=rqWord _ c sl b q cap ws n ov HH.out.len (HH9_2.out.grown gc_1) HH.out.few n0 n1
     rw [HRr.out,HN2.out] at hQ
     refine hQ.mono ?_;rintro e v_2 ⟨b2,cp2,rfl,g_v_2,hh2,ho2⟩
     clear hQ
     have hb2:b2 < v_2.heap.size:=World.block_lt_of_cell? v_2 _ (hh2 0 (by rw [hln];exact q0))
     replace hh2:=Lib.hid hh2
     have gc_2:Grown w_2 v_2:=gtr gc_1 g_v_2
     have hs_2:v_1.heap.size ≤ v_2.heap.size:=g_v_2.2.2
     replace BX:=Lib.hid (BX.out.grown g_v_2)
     simp only [RwL]
     go_wp2_with fail
     refine nxt_stay gc_2 (plan_one ?_)
     simp only [nths,nth,List.map_cons,List.map_nil,List.getD_cons_zero,List.getD_cons_succ]
     repeat go_big_quiet_step (fail)
     refine wpQuiet_nil ?_
     go_wp2_with (first | (refine store_box rfl 42 _ _ rfl Y _ BX.out _ rfl rfl rfl (by kernel_rfl) rfl ?_;intro v_9 B_ q_;have HB9:=Lib.hid B_;have q9:=Lib.hid q_;clear B_ q_) | fail)
     have gF:Grown w_2 v_9:=But.fresh gc_2 q9.out (fun i hi => by omega)
     refine nxt_stay gF (plan_fin ?_)
     simp only [nths,nth,List.map_cons,List.map_nil,List.getD_cons_zero,List.getD_cons_succ]
     repeat go_big_quiet_step (fail)
     refine wpQuiet_nil ?_
     go_wp2_with fail
     go_meet
     case rel => exact ⟨Y,b2,cp2,rfl,rfl,gtr g_2 gF,Lib.hid ⟨HB9.out,hh2.out.but q9.out (by omega),by omega,by omega,by omega⟩⟩
   ·go_wp2_with fail
    have g8:Grown w_2 (w_2.alloc (.cells #[.int .i64 0,.int .i64 0,.int .i64 0,.int .i64 0,.int .i64 0,.slice none 0 0,.int .i64 0,.int .i64 0,.int .i64 0,.int .i64 0,.int .i64 0,.int .i64 0,.slice none 0 0,.slice none 0 0,.slice none 0 0,.slice none 0 0,.slice none 0 0] 42)):=by go_grown
    have BX:=Box.made w_2 zWV 42
    have hsz:(w_2.alloc (.cells #[.int .i64 0,.int .i64 0,.int .i64 0,.int .i64 0,.int .i64 0,.slice none 0 0,.int .i64 0,.int .i64 0,.int .i64 0,.int .i64 0,.int .i64 0,.int .i64 0,.slice none 0 0,.slice none 0 0,.slice none 0 0,.slice none 0 0,.slice none 0 0] 42)).heap.size = w_2.heap.size + 1:=by simp
    change Box (w_2.alloc (.cells #[.int .i64 0,.int .i64 0,.int .i64 0,.int .i64 0,.int .i64 0,.slice none 0 0,.int .i64 0,.int .i64 0,.int .i64 0,.int .i64 0,.int .i64 0,.int .i64 0,.slice none 0 0,.slice none 0 0,.slice none 0 0,.slice none 0 0,.slice none 0 0] 42)) w_2.heap.size _ at BX
    obtain ⟨Y,hY⟩:∃ X,w_2.heap.size = X:=⟨_,rfl⟩
    rw [hY] at BX hsz ⊢
    replace BX:=Lib.hid BX
    generalize w_2.alloc (.cells #[.int .i64 0,.int .i64 0,.int .i64 0,.int .i64 0,.int .i64 0,.slice none 0 0,.int .i64 0,.int .i64 0,.int .i64 0,.int .i64 0,.int .i64 0,.int .i64 0,.slice none 0 0,.slice none 0 0,.slice none 0 0,.slice none 0 0,.slice none 0 0] 42) = v_0 at *
    have gc_0:Grown w_2 v_0:=g8
    refine nxt_stay gc_0 (plan_one ?_)
    simp only [nths,nth,List.map_nil,List.getD_cons_zero,List.getD_cons_succ]
    refine wpQuiet_nil ?_
    go_wp2_with fail
    refine (rCarried_at _ hi c s _ _ _ _ _ (HH.out.grown (gtr HG_2.out gc_0)).refs HOK.out hl5 x.curr ov HO.out).mono ?_;rintro e v_1 ⟨rfl,g_v_1⟩
    have gc_1:Grown w_2 v_1:=gtr gc_0 g_v_1
    have hs_1:v_0.heap.size ≤ v_1.heap.size:=g_v_1.2.2
    replace BX:=Lib.hid (BX.out.grown g_v_1)
    go_wp2_with fail
    refine nxt_stay gc_1 (plan_one ?_)
    simp only [nths,nth,List.map_nil,List.getD_cons_zero,List.getD_cons_succ]
    refine wpQuiet_nil ?_
    go_wp2_with fail
    have hQ:=rqWord _ c sl b q cap ws n ov HH.out.len (HH9_2.out.grown gc_1) HH.out.few n0 n1
    rw [HRr.out,HN2.out] at hQ
    refine hQ.mono ?_;rintro e v_2 ⟨b2,cp2,rfl,g_v_2,hh2,ho2⟩
    clear hQ
    have hb2:b2 < v_2.heap.size:=World.block_lt_of_cell? v_2 _ (hh2 0 (by rw [hln];exact q0))
    replace hh2:=Lib.hid hh2
    have gc_2:Grown w_2 v_2:=gtr gc_1 g_v_2
    have hs_2:v_1.heap.size ≤ v_2.heap.size:=g_v_2.2.2
    replace BX:=Lib.hid (BX.out.grown g_v_2)
    simp only [RwL]
    go_wp2_with fail
    refine nxt_stay gc_2 (plan_one ?_)
    simp only [nths,nth,List.map_cons,List.map_nil,List.getD_cons_zero,List.getD_cons_succ]
    repeat go_big_quiet_step (fail)
    refine wpQuiet_nil ?_
    go_wp2_with (first | (refine store_box rfl 42 _ _ rfl Y _ BX.out _ rfl rfl rfl (by kernel_rfl) rfl ?_;intro v_9 B_ q_;have HB9:=Lib.hid B_;have q9:=Lib.hid q_;clear B_ q_) | fail)
    have gF:Grown w_2 v_9:=But.fresh gc_2 q9.out (fun i hi => by omega)
    refine nxt_stay gF (plan_fin ?_)
    simp only [nths,nth,List.map_cons,List.map_nil,List.getD_cons_zero,List.getD_cons_succ]
    repeat go_big_quiet_step (fail)
    refine wpQuiet_nil ?_
    go_wp2_with fail
    go_meet
    case rel => exact ⟨Y,b2,cp2,rfl,rfl,gtr g_2 gF,Lib.hid ⟨HB9.out,hh2.out.but q9.out (by omega),by omega,by omega,by omega⟩⟩
 case rest =>
 obtain ⟨Y,b2,cp2,rfl,rfl,gx,HC⟩:=hcut
 obtain ⟨w_9,hw9⟩:∃ x,x = wc:=⟨_,rfl⟩
 subst hw9
 have ho:=HC.out.2.2.1
 have hY:=HC.out.2.2.2.1
 have hbY:=HC.out.2.2.2.2
 have hYl:=HC.out.1.lt
 have HA_9:=Lib.hid HC.out.1
 have HQ_9:=Lib.hid HC.out.2.1
 have HW_9:=Lib.hid (HW_0.out.grown gx)
 have HX_9:=Lib.hid (HX_0.out.grown gx)
 have HR0_9:=Lib.hid (HR0_0.out.grown gx)
 have HR1_9:=Lib.hid (HR1_0.out.grown gx)
 have HG_9:=Lib.hid (gtr HG_0.out gx)
 clear gx HC
 go_wp2_with fail
 refine wp_region_planb (fun i => i = (w.heap.size + 1 + 1) ∨ i = (w.heap.size + 1 + 1 + 1)) (.one [0,1,2,3] 4 (.one [] 5 (.one [] 6 (.fin [])))) (by kernel_rfl) (by kernel_rfl) (by kernel_rfl) ?_
 intro w_11 g_11
 have HQ_11:=Lib.hid (HQ_9.out.grown g_11)
 have HW_11:=Lib.hid (HW_9.out.grown g_11)
 have HX_11:=Lib.hid (HX_9.out.grown g_11)
 have HR0_11:=Lib.hid (HR0_9.out.grown g_11)
 have HR1_11:=Lib.hid (HR1_9.out.grown g_11)
 have HA_11:=Lib.hid (HA_9.out.grown g_11)
 have HG_11:=Lib.hid (gtr HG_9.out g_11)
 refine plan_one ?_
 try simp only [Act.put]
 simp only [nths,nth,List.map_cons,List.map_nil,List.getD_cons_zero,List.getD_cons_succ]
 refine wpQuiet_load_box rfl 42 _ rfl Y rfl _ _ Tryz.underlying42 rfl (by kernel_rfl) (Box.butw HA_11.out (by rintro (h | h) <;> omega)) ?_
 simp only [Act.put,List.setIfInBounds_toArray,List.set_cons_succ,List.set_cons_zero]
 refine wpQuiet_load_box rfl 42 _ rfl Y rfl _ _ Tryz.underlying42 rfl (by kernel_rfl) (Box.butw HA_11.out (by rintro (h | h) <;> omega)) ?_
 simp only [Act.put,List.setIfInBounds_toArray,List.set_cons_succ,List.set_cons_zero]
 refine wpQuiet_load_box rfl 72 _ rfl (w.heap.size + 1) rfl _ _ Tryz.underlying72 rfl (by kernel_rfl) (Box.butw HX_11.out (by rintro (h | h) <;> omega)) ?_
 simp only [Act.put,List.setIfInBounds_toArray,List.set_cons_succ,List.set_cons_zero]
 repeat go_big_quiet_step (fail)
 refine wpQuiet_nil ?_
 go_wp2_with fail
 refine (rJudge _ hi c b2 q cp2 ws n2 s sl ⟨HQ_11.out,hln,HH.out.few,(HH.out.grown HG_11.out).refs,by have:=HH.out.lo;omega⟩ HOK.out hl hl5 x r r0 b0 b1 _ rfl).mono ?_;rintro e w_12 ⟨rfl,g_12⟩
 have HQ_12:=Lib.hid (HQ_11.out.grown g_12)
 have HR0_12:=Lib.hid (HR0_11.out.grown g_12)
 have HR1_12:=Lib.hid (HR1_11.out.grown g_12)
 have HG_12:=Lib.hid (gtr HG_11.out g_12)
 have GC:=Lib.hid g_12
 clear g_12
 go_wp2_with fail
 refine nxt_but (But.of_grown GC.out) (plan_one ?_)
 simp only [nths,nth,List.map_nil,List.getD_cons_zero,List.getD_cons_succ]
 refine wpQuiet_nil ?_
 go_wp2_with (first | (refine store_box rfl 42 _ _ rfl (w.heap.size + 1 + 1) _ HR0_12.out _ rfl rfl rfl (by kernel_rfl) rfl ?_;intro w_13 B_ q_;have HE0:=Lib.hid B_;have QE0:=Lib.hid q_;have HR1_13:=Lib.hid (HR1_12.out.but q_ (by omega));clear B_ q_) | fail)
 refine nxt_but ((But.of_grown GC.out).trans (QE0.out.mono fun i hi => .inl hi)) (plan_one ?_)
 simp only [nths,nth,List.map_nil,List.getD_cons_zero,List.getD_cons_succ]
 refine wpQuiet_nil ?_
 go_wp2_with (first | (refine store_box rfl 72 _ _ rfl (w.heap.size + 1 + 1 + 1) _ HR1_13.out _ rfl rfl rfl (by kernel_rfl) rfl ?_;intro w_14 B_ q_;have HE1:=Lib.hid B_;have QE1:=Lib.hid q_;have HE0_14:=Lib.hid (HE0.out.but q_ (by omega));clear B_ q_) | fail)
 have QE:But (fun i => i = (w.heap.size + 1 + 1) ∨ i = (w.heap.size + 1 + 1 + 1)) w_12 w_14:=(QE0.out.mono fun i hi => .inl hi).trans (QE1.out.mono fun i hi => .inr hi)
 refine nxt_but ((But.of_grown GC.out).trans QE) (plan_fin ?_)
 simp only [nths,List.map_nil]
 refine wpQuiet_nil ?_
 go_wp2_with fail
 exact bodyPost_ret (v:=.tuple #[.agg (RwL c b2 q cp2 (n2) sl).toArray,.agg (judK s x r).l.toArray]) (results_cc (ty:=42) (ty':=72) rfl rfl (load_run HE0_14.out 42 _ Tryz.underlying42 rfl (by kernel_rfl)) rfl (load_run HE1.out 72 _ Tryz.underlying72 rfl (by kernel_rfl))) rfl ⟨b2,cp2,by rw [← HZ.out],But.fresh HG_12.out QE (fun i hi => by rcases hi with h | h <;> omega),by rw [← HZ.out];exact HQ_12.out.but QE (by rintro (h | h) <;> omega),by omega⟩
end Go.Proofs.YtmokcgifknmchaaGreat
