/- The document's walk (corrieref10): judge. -/
import Derived.Test.YtmokcgifknmchaaGreatRWalk
namespace Go.Proofs.YtmokcgifknmchaaGreat
open Go.ChangeShapes Go.WideShapes Go.ChangeAt Go.RowKit
set_option maxRecDepth 100000
set_option linter.unusedVariables false
set_option maxHeartbeats 16000000 in
theorem rJudge (w:World) (hi:Nat) (c:Cf) (b q cap:Nat) (ws:List Int) (n:Int) (s:St) (sl:Sl) (h:RwAt w hi c b q ws s sl) (hok:c.Ok) (hl:s.ops.length ≤ 99999) (hl5:s.nodes.length ≤ 99999) (x:Wk) (v:Int) (v0:0 ≤ v) (b0:0 ≤ x.next) (b1:x.next ≤ 18446744073709551615) (z:Wk) (hz:judK s x v = z) :
  Calls Tryz.prog 165 #[.agg (RwL c b q cap n sl).toArray,.agg x.l.toArray,.int .u64 v] w fun e w' => e = .returned (.agg z.l.toArray) ∧ Grown w w':=by
 obtain ⟨kv,hk⟩:∃ k,keyOf_ s x.curr = k:=⟨_,rfl⟩
 obtain ⟨ov,ho⟩:∃ o,opK s x = o:=⟨_,rfl⟩
 have HK:=Lib.hid hk
 have HO:Hid (carriedOf (lookI s.nodes x.curr) = ov):=Lib.hid ho
 have hz':(if 2 ≤ v then { x with phase:=4 }
  else if kv ≠ x.key then advK s x
  else if x.mode = 2 then { x with done:=true,stop:=true,found:=if v = 1 then ov else x.found }
  else if x.mode ≠ 1 then advK s x
  else if v = 1 then (if x.seen = ov then { x with phase:=4 } else advK s { x with seen:=ov })
  else { x with phase:=if x.seen = -1 then 6 else 5 }:Wk) = z:=by rw [← hz,← hk,← ho];rfl
 clear hz hk ho
 obtain ⟨u,hu,hg,b0,b1,b2⟩:=vars3 w (RwL c b q cap n sl) x.l zWk.l 42 72 72
 have HW_0:=Lib.hid b0
 have HX_0:=Lib.hid b1
 have HR0_0:=Lib.hid b2
 have HG_0:=Lib.hid hg
 have HH:=Lib.hid h
 have HOK:=Lib.hid hok
 obtain ⟨LW,hLW⟩:∃ L,RwL c b q cap n sl = L:=⟨_,rfl⟩
 obtain ⟨LX,hLX⟩:∃ L,x.l = L:=⟨_,rfl⟩
 rw [hLW,hLX] at hu ⊢
 simp only [zWk,Wk.l] at hu
 have HU:=Lib.hid hu
 have HLW:=Lib.hid hLW
 have HLX:=Lib.hid hLX
 clear hu hg b0 b1 b2 h hok hLW hLX
 by_cases hv2:2 ≤ v
 ·have HZ:Hid (({ x with phase:=4 }:Wk) = z):=Lib.hid (by rw [← hz',if_pos hv2])
  have hd2:decide (2 ≤ v) = true:=decide_eq_true hv2
  clear hz'
  have t7:=HW_0.out.cell 7 _ rfl
  rw [← HU.out] at t7
  have t8:=HW_0.out.cell 8 _ rfl
  rw [← HU.out] at t8
  have t9:=HW_0.out.cell 9 _ rfl
  rw [← HU.out] at t9
  have t10:=HW_0.out.cell 10 _ rfl
  rw [← HU.out] at t10
  have t11:=HW_0.out.cell 11 _ rfl
  rw [← HU.out] at t11
  have t12:=HW_0.out.cell 12 _ rfl
  rw [← HU.out] at t12
  have t13:=HW_0.out.cell 13 _ rfl
  rw [← HU.out] at t13
  have t14:=HW_0.out.cell 14 _ rfl
  rw [← HU.out] at t14
  have t15:=HW_0.out.cell 15 _ rfl
  rw [← HU.out] at t15
  have t16:=HW_0.out.cell 16 _ rfl
  rw [← HU.out] at t16
  have x4:=HX_0.out.cell 4 _ rfl
  rw [← HU.out] at x4
  go_enter Tryz.func165,Tryz.ntmps165
  go_wp2_with fail
  rw [HU.out]
  refine (rCarried_at _ hi c s _ _ _ _ _ (HH.out.grown HG_0.out).refs HOK.out hl5 x.curr ov HO.out).mono ?_;rintro e w_1 ⟨rfl,g_1⟩
  clear t7 t8 t9 t10 t11 t12 t13 t14 t15 t16 x4
  have HW_1:=Lib.hid (HW_0.out.grown g_1)
  have HX_1:=Lib.hid (HX_0.out.grown g_1)
  have HR0_1:=Lib.hid (HR0_0.out.grown g_1)
  have HG_1:=Lib.hid (gtr HG_0.out g_1)
  clear g_1
  go_wp2_with fail
  refine (refOver_any _ _).mono ?_;rintro e w_2 ⟨rfl,g_2⟩
  have HW_2:=Lib.hid (HW_1.out.grown g_2)
  have HX_2:=Lib.hid (HX_1.out.grown g_2)
  have HR0_2:=Lib.hid (HR0_1.out.grown g_2)
  have HG_2:=Lib.hid (gtr HG_1.out g_2)
  clear g_2
  go_wp2_with (first | (refine store_cell rfl 3 _ _ rfl (w.heap.size + 1) 2 rfl (.int .i64 4) rfl rfl (x:Wk).l ({ x with phase:=4 }:Wk).l HX_2.out (Nat.le_of_ble_eq_true rfl) (by kernel_rfl) rfl ?_;intro w_3 B_ q_;have HX_3:=Lib.hid B_;have HW_3:=Lib.hid (HW_2.out.but q_ (by omega));have HR0_3:=Lib.hid (HR0_2.out.but q_ (by omega));have HG_3:Hid (Grown w w_3):=Lib.hid (But.fresh HG_2.out q_ (fun i hi => by omega));clear B_ q_) | (refine load_box rfl 72 _ rfl (w.heap.size + 1) rfl _ _ Tryz.underlying72 rfl (by kernel_rfl) HX_3.out ?_) | (refine store_box rfl 72 _ _ rfl (w.heap.size + 1 + 1) _ HR0_3.out _ rfl rfl rfl (by kernel_rfl) rfl ?_;intro w_9 B_ q_;have HE:=Lib.hid B_;have QE:=Lib.hid q_;clear B_ q_) | fail)
  exact bodyPost_ret (v:=.agg ({ x with phase:=4 }:Wk).l.toArray) (results_c (ty:=72) rfl rfl (load_run HE.out 72 _ Tryz.underlying72 rfl (by kernel_rfl))) rfl ⟨by rw [← HZ.out],But.fresh HG_3.out QE.out (fun i hi => by omega)⟩
 rw [if_neg hv2] at hz'
 have hd2:decide (2 ≤ v) = false:=decide_eq_false hv2
 by_cases hk:kv ≠ x.key
 ·have HZ:Hid (advK s x = z):=Lib.hid (by rw [← hz',if_pos hk])
  have hn:(kv != x.key) = true:=by simpa using hk
  have hn2:(kv == x.key) = false:=by simpa using hk
  have hn3:decide (kv = x.key) = false:=by simpa using hk
  clear hz' hk
  have t7:=HW_0.out.cell 7 _ rfl
  rw [← HU.out] at t7
  have t8:=HW_0.out.cell 8 _ rfl
  rw [← HU.out] at t8
  have t9:=HW_0.out.cell 9 _ rfl
  rw [← HU.out] at t9
  have t10:=HW_0.out.cell 10 _ rfl
  rw [← HU.out] at t10
  have t11:=HW_0.out.cell 11 _ rfl
  rw [← HU.out] at t11
  have t12:=HW_0.out.cell 12 _ rfl
  rw [← HU.out] at t12
  have t13:=HW_0.out.cell 13 _ rfl
  rw [← HU.out] at t13
  have t14:=HW_0.out.cell 14 _ rfl
  rw [← HU.out] at t14
  have t15:=HW_0.out.cell 15 _ rfl
  rw [← HU.out] at t15
  have t16:=HW_0.out.cell 16 _ rfl
  rw [← HU.out] at t16
  have x4:=HX_0.out.cell 4 _ rfl
  rw [← HU.out] at x4
  go_enter Tryz.func165,Tryz.ntmps165
  go_wp2_with fail
  rw [HU.out]
  refine (rCarried_at _ hi c s _ _ _ _ _ (HH.out.grown HG_0.out).refs HOK.out hl5 x.curr ov HO.out).mono ?_;rintro e w_1 ⟨rfl,g_1⟩
  clear t7 t8 t9 t10 t11 t12 t13 t14 t15 t16 x4
  have HW_1:=Lib.hid (HW_0.out.grown g_1)
  have HX_1:=Lib.hid (HX_0.out.grown g_1)
  have HR0_1:=Lib.hid (HR0_0.out.grown g_1)
  have HG_1:=Lib.hid (gtr HG_0.out g_1)
  clear g_1
  go_wp2_with fail
  refine (refOver_any _ _).mono ?_;rintro e w_2 ⟨rfl,g_2⟩
  have HW_2:=Lib.hid (HW_1.out.grown g_2)
  have HX_2:=Lib.hid (HX_1.out.grown g_2)
  have HR0_2:=Lib.hid (HR0_1.out.grown g_2)
  have HG_2:=Lib.hid (gtr HG_1.out g_2)
  clear g_2
  go_wp2_with fail
  have t7:∀ g:GrW w_2,g.w.cell? ⟨w.heap.size,7,none⟩ = some (.int .i64 c.t):=GrW.cell (HW_2.out.cell 7 _ rfl)
  have t8:∀ g:GrW w_2,g.w.cell? ⟨w.heap.size,8,none⟩ = some (.int .i64 c.b):=GrW.cell (HW_2.out.cell 8 _ rfl)
  have t9:∀ g:GrW w_2,g.w.cell? ⟨w.heap.size,9,none⟩ = some (.int .i64 c.i):=GrW.cell (HW_2.out.cell 9 _ rfl)
  have t10:∀ g:GrW w_2,g.w.cell? ⟨w.heap.size,10,none⟩ = some (.int .i64 c.f):=GrW.cell (HW_2.out.cell 10 _ rfl)
  have t11:∀ g:GrW w_2,g.w.cell? ⟨w.heap.size,11,none⟩ = some (.int .i64 c.k):=GrW.cell (HW_2.out.cell 11 _ rfl)
  have t12:∀ g:GrW w_2,g.w.cell? ⟨w.heap.size,12,none⟩ = some (.slice sl.a1 sl.m1 sl.k1):=GrW.cell (HW_2.out.cell 12 _ rfl)
  have t13:∀ g:GrW w_2,g.w.cell? ⟨w.heap.size,13,none⟩ = some (.slice sl.a2 sl.m2 sl.k2):=GrW.cell (HW_2.out.cell 13 _ rfl)
  have t14:∀ g:GrW w_2,g.w.cell? ⟨w.heap.size,14,none⟩ = some (.slice sl.a3 sl.m3 sl.k3):=GrW.cell (HW_2.out.cell 14 _ rfl)
  have t15:∀ g:GrW w_2,g.w.cell? ⟨w.heap.size,15,none⟩ = some (.slice sl.a4 sl.m4 sl.k4):=GrW.cell (HW_2.out.cell 15 _ rfl)
  have t16:∀ g:GrW w_2,g.w.cell? ⟨w.heap.size,16,none⟩ = some (.slice sl.a5 sl.m5 sl.k5):=GrW.cell (HW_2.out.cell 16 _ rfl)
  have x0:∀ g:GrW w_2,g.w.cell? ⟨(w.heap.size + 1),0,none⟩ = some (.int .u64 x.key):=GrW.cell (HX_2.out.cell 0 _ rfl)
  have x4:∀ g:GrW w_2,g.w.cell? ⟨(w.heap.size + 1),4,none⟩ = some (.int .i64 x.curr):=GrW.cell (HX_2.out.cell 4 _ rfl)
  refine wp_region_grow (by kernel_rfl) (by kernel_rfl) ?_
  repeat (go_big_quiet_step ((go_at_call 214;exact grcall (rKey_at _ hi c s _ _ _ _ _ (HH.out.grown (gtr HG_2.out (GrW.gr _))).refs HOK.out hl hl5 x.curr kv HK.out))))
  refine wpQuiet_nil ?_
  rintro w_3 ⟨⟨_,g_3⟩,rfl⟩
  clear t7 t8 t9 t10 t11 t12 t13 t14 t15 t16 x0 x4
  have HW_3:=Lib.hid (HW_2.out.grown g_3)
  have HX_3:=Lib.hid (HX_2.out.grown g_3)
  have HR0_3:=Lib.hid (HR0_2.out.grown g_3)
  have HG_3:=Lib.hid (gtr HG_2.out g_3)
  clear g_3
  go_wp2_with (first | (refine load_box rfl 42 _ rfl w.heap.size rfl _ _ Tryz.underlying42 rfl (by kernel_rfl) HW_3.out ?_) | (refine load_box rfl 72 _ rfl (w.heap.size + 1) rfl _ _ Tryz.underlying72 rfl (by kernel_rfl) HX_3.out ?_) | fail)
  refine (rAdvance _ hi c b q cap ws n s sl (HH.out.grown HG_3.out) HOK.out hl hl5 x b0 b1 z HZ.out).mono ?_;rintro e w_4 ⟨rfl,g_4⟩
  have HR0_4:=Lib.hid (HR0_3.out.grown g_4)
  have HG_4:=Lib.hid (gtr HG_3.out g_4)
  clear g_4
  go_wp2_with (first | (refine store_box rfl 72 _ _ rfl (w.heap.size + 1 + 1) _ HR0_4.out _ rfl rfl rfl (by kernel_rfl) rfl ?_;intro w_5 B_ q_;have HE:=Lib.hid B_;have QE:=Lib.hid q_;clear B_ q_) | fail)
  exact bodyPost_ret (v:=.agg (z:Wk).l.toArray) (results_c (ty:=72) rfl rfl (load_run HE.out 72 _ Tryz.underlying72 rfl (by kernel_rfl))) rfl ⟨by rw [← HZ.out],But.fresh HG_4.out QE.out (fun i hi => by omega)⟩
 rw [if_neg hk] at hz'
 have hn:(kv != x.key) = false:=by simpa using hk
 have hn2:(kv == x.key) = true:=by simpa using hk
 have hn3:decide (kv = x.key) = true:=by simpa using hk
 clear hk
 have hvb:v = 0 ∨ v = 1:=by omega
 by_cases hm:x.mode = 2
 ·rw [if_pos hm] at hz'
  have hm1:(x.mode == 2) = true:=by simpa using hm
  have hm2:decide (x.mode = 2) = true:=by simpa using hm
  have hm3:(x.mode != 2) = false:=by simpa using hm
  clear hm
  by_cases hv:v = 1
  ·have HZ:Hid (({ x with done:=true,stop:=true,found:=ov }:Wk) = z):=Lib.hid (by rw [← hz',if_pos hv])
   have hv1:(v == 1) = true:=by simpa using hv
   have hv2:decide (v = 1) = true:=by simpa using hv
   have hv3:(v != 1) = false:=by simpa using hv
   clear hz' hv hvb hv2
   have t7:=HW_0.out.cell 7 _ rfl
   rw [← HU.out] at t7
   have t8:=HW_0.out.cell 8 _ rfl
   rw [← HU.out] at t8
   have t9:=HW_0.out.cell 9 _ rfl
   rw [← HU.out] at t9
   have t10:=HW_0.out.cell 10 _ rfl
   rw [← HU.out] at t10
   have t11:=HW_0.out.cell 11 _ rfl
   rw [← HU.out] at t11
   have t12:=HW_0.out.cell 12 _ rfl
   rw [← HU.out] at t12
   have t13:=HW_0.out.cell 13 _ rfl
   rw [← HU.out] at t13
   have t14:=HW_0.out.cell 14 _ rfl
   rw [← HU.out] at t14
   have t15:=HW_0.out.cell 15 _ rfl
   rw [← HU.out] at t15
   have t16:=HW_0.out.cell 16 _ rfl
   rw [← HU.out] at t16
   have x4:=HX_0.out.cell 4 _ rfl
   rw [← HU.out] at x4
   go_enter Tryz.func165,Tryz.ntmps165
   go_wp2_with fail
   rw [HU.out]
   refine (rCarried_at _ hi c s _ _ _ _ _ (HH.out.grown HG_0.out).refs HOK.out hl5 x.curr ov HO.out).mono ?_;rintro e w_1 ⟨rfl,g_1⟩
   clear t7 t8 t9 t10 t11 t12 t13 t14 t15 t16 x4
   have HW_1:=Lib.hid (HW_0.out.grown g_1)
   have HX_1:=Lib.hid (HX_0.out.grown g_1)
   have HR0_1:=Lib.hid (HR0_0.out.grown g_1)
   have HG_1:=Lib.hid (gtr HG_0.out g_1)
   clear g_1
   go_wp2_with fail
   refine (refOver_any _ _).mono ?_;rintro e w_2 ⟨rfl,g_2⟩
   have HW_2:=Lib.hid (HW_1.out.grown g_2)
   have HX_2:=Lib.hid (HX_1.out.grown g_2)
   have HR0_2:=Lib.hid (HR0_1.out.grown g_2)
   have HG_2:=Lib.hid (gtr HG_1.out g_2)
   clear g_2
   go_wp2_with fail
   have t7:∀ g:GrW w_2,g.w.cell? ⟨w.heap.size,7,none⟩ = some (.int .i64 c.t):=GrW.cell (HW_2.out.cell 7 _ rfl)
   have t8:∀ g:GrW w_2,g.w.cell? ⟨w.heap.size,8,none⟩ = some (.int .i64 c.b):=GrW.cell (HW_2.out.cell 8 _ rfl)
   have t9:∀ g:GrW w_2,g.w.cell? ⟨w.heap.size,9,none⟩ = some (.int .i64 c.i):=GrW.cell (HW_2.out.cell 9 _ rfl)
   have t10:∀ g:GrW w_2,g.w.cell? ⟨w.heap.size,10,none⟩ = some (.int .i64 c.f):=GrW.cell (HW_2.out.cell 10 _ rfl)
   have t11:∀ g:GrW w_2,g.w.cell? ⟨w.heap.size,11,none⟩ = some (.int .i64 c.k):=GrW.cell (HW_2.out.cell 11 _ rfl)
   have t12:∀ g:GrW w_2,g.w.cell? ⟨w.heap.size,12,none⟩ = some (.slice sl.a1 sl.m1 sl.k1):=GrW.cell (HW_2.out.cell 12 _ rfl)
   have t13:∀ g:GrW w_2,g.w.cell? ⟨w.heap.size,13,none⟩ = some (.slice sl.a2 sl.m2 sl.k2):=GrW.cell (HW_2.out.cell 13 _ rfl)
   have t14:∀ g:GrW w_2,g.w.cell? ⟨w.heap.size,14,none⟩ = some (.slice sl.a3 sl.m3 sl.k3):=GrW.cell (HW_2.out.cell 14 _ rfl)
   have t15:∀ g:GrW w_2,g.w.cell? ⟨w.heap.size,15,none⟩ = some (.slice sl.a4 sl.m4 sl.k4):=GrW.cell (HW_2.out.cell 15 _ rfl)
   have t16:∀ g:GrW w_2,g.w.cell? ⟨w.heap.size,16,none⟩ = some (.slice sl.a5 sl.m5 sl.k5):=GrW.cell (HW_2.out.cell 16 _ rfl)
   have x0:∀ g:GrW w_2,g.w.cell? ⟨(w.heap.size + 1),0,none⟩ = some (.int .u64 x.key):=GrW.cell (HX_2.out.cell 0 _ rfl)
   have x4:∀ g:GrW w_2,g.w.cell? ⟨(w.heap.size + 1),4,none⟩ = some (.int .i64 x.curr):=GrW.cell (HX_2.out.cell 4 _ rfl)
   refine wp_region_grow (by kernel_rfl) (by kernel_rfl) ?_
   repeat (go_big_quiet_step ((go_at_call 214;exact grcall (rKey_at _ hi c s _ _ _ _ _ (HH.out.grown (gtr HG_2.out (GrW.gr _))).refs HOK.out hl hl5 x.curr kv HK.out))))
   refine wpQuiet_nil ?_
   rintro w_3 ⟨⟨_,g_3⟩,rfl⟩
   clear t7 t8 t9 t10 t11 t12 t13 t14 t15 t16 x0 x4
   have HW_3:=Lib.hid (HW_2.out.grown g_3)
   have HX_3:=Lib.hid (HX_2.out.grown g_3)
   have HR0_3:=Lib.hid (HR0_2.out.grown g_3)
   have HG_3:=Lib.hid (gtr HG_2.out g_3)
   clear g_3
   have x1:=HX_3.out.cell 1 _ rfl
   go_wp2_with (first | (refine store_cell rfl 4 _ _ rfl (w.heap.size + 1) 9 rfl (.bool true) rfl rfl (x:Wk).l ({ x with done:=true }:Wk).l HX_3.out (Nat.le_of_ble_eq_true rfl) (by kernel_rfl) rfl ?_;intro w_4 B_ q_;have HX_4:=Lib.hid B_;have HW_4:=Lib.hid (HW_3.out.but q_ (by omega));have HR0_4:=Lib.hid (HR0_3.out.but q_ (by omega));have HG_4:Hid (Grown w w_4):=Lib.hid (But.fresh HG_3.out q_ (fun i hi => by omega));clear B_ q_) | (refine store_cell rfl 4 _ _ rfl (w.heap.size + 1) 8 rfl (.bool true) rfl rfl ({ x with done:=true }:Wk).l ({ x with done:=true,stop:=true }:Wk).l HX_4.out (Nat.le_of_ble_eq_true rfl) (by kernel_rfl) rfl ?_;intro w_5 B_ q_;have HX_5:=Lib.hid B_;have HW_5:=Lib.hid (HW_4.out.but q_ (by omega));have HR0_5:=Lib.hid (HR0_4.out.but q_ (by omega));have HG_5:Hid (Grown w w_5):=Lib.hid (But.fresh HG_4.out q_ (fun i hi => by omega));clear B_ q_) | (refine store_cell rfl 3 _ _ rfl (w.heap.size + 1) 7 rfl (.int .i64 ov) rfl rfl ({ x with done:=true,stop:=true }:Wk).l ({ x with done:=true,stop:=true,found:=ov }:Wk).l HX_5.out (Nat.le_of_ble_eq_true rfl) (by kernel_rfl) rfl ?_;intro w_6 B_ q_;have HX_6:=Lib.hid B_;have HW_6:=Lib.hid (HW_5.out.but q_ (by omega));have HR0_6:=Lib.hid (HR0_5.out.but q_ (by omega));have HG_6:Hid (Grown w w_6):=Lib.hid (But.fresh HG_5.out q_ (fun i hi => by omega));clear B_ q_) | (refine load_box rfl 72 _ rfl (w.heap.size + 1) rfl _ _ Tryz.underlying72 rfl (by kernel_rfl) HX_6.out ?_) | (refine store_box rfl 72 _ _ rfl (w.heap.size + 1 + 1) _ HR0_6.out _ rfl rfl rfl (by kernel_rfl) rfl ?_;intro w_9 B_ q_;have HE:=Lib.hid B_;have QE:=Lib.hid q_;clear B_ q_) | fail)
   exact bodyPost_ret (v:=.agg ({ x with done:=true,stop:=true,found:=ov }:Wk).l.toArray) (results_c (ty:=72) rfl rfl (load_run HE.out 72 _ Tryz.underlying72 rfl (by kernel_rfl))) rfl ⟨by rw [← HZ.out],But.fresh HG_6.out QE.out (fun i hi => by omega)⟩
  ·have HZ:Hid (({ x with done:=true,stop:=true }:Wk) = z):=Lib.hid (by rw [← hz',if_neg hv])
   have hv1:(v == 1) = false:=by simpa using hv
   have hv2:decide (v = 1) = false:=by simpa using hv
   have hv3:(v != 1) = true:=by simpa using hv
   clear hz' hv hvb hv2
   have t7:=HW_0.out.cell 7 _ rfl
   rw [← HU.out] at t7
   have t8:=HW_0.out.cell 8 _ rfl
   rw [← HU.out] at t8
   have t9:=HW_0.out.cell 9 _ rfl
   rw [← HU.out] at t9
   have t10:=HW_0.out.cell 10 _ rfl
   rw [← HU.out] at t10
   have t11:=HW_0.out.cell 11 _ rfl
   rw [← HU.out] at t11
   have t12:=HW_0.out.cell 12 _ rfl
   rw [← HU.out] at t12
   have t13:=HW_0.out.cell 13 _ rfl
   rw [← HU.out] at t13
   have t14:=HW_0.out.cell 14 _ rfl
   rw [← HU.out] at t14
   have t15:=HW_0.out.cell 15 _ rfl
   rw [← HU.out] at t15
   have t16:=HW_0.out.cell 16 _ rfl
   rw [← HU.out] at t16
   have x4:=HX_0.out.cell 4 _ rfl
   rw [← HU.out] at x4
   go_enter Tryz.func165,Tryz.ntmps165
   go_wp2_with fail
   rw [HU.out]
   refine (rCarried_at _ hi c s _ _ _ _ _ (HH.out.grown HG_0.out).refs HOK.out hl5 x.curr ov HO.out).mono ?_;rintro e w_1 ⟨rfl,g_1⟩
   clear t7 t8 t9 t10 t11 t12 t13 t14 t15 t16 x4
   have HW_1:=Lib.hid (HW_0.out.grown g_1)
   have HX_1:=Lib.hid (HX_0.out.grown g_1)
   have HR0_1:=Lib.hid (HR0_0.out.grown g_1)
   have HG_1:=Lib.hid (gtr HG_0.out g_1)
   clear g_1
   go_wp2_with fail
   refine (refOver_any _ _).mono ?_;rintro e w_2 ⟨rfl,g_2⟩
   have HW_2:=Lib.hid (HW_1.out.grown g_2)
   have HX_2:=Lib.hid (HX_1.out.grown g_2)
   have HR0_2:=Lib.hid (HR0_1.out.grown g_2)
   have HG_2:=Lib.hid (gtr HG_1.out g_2)
   clear g_2
   go_wp2_with fail
   have t7:∀ g:GrW w_2,g.w.cell? ⟨w.heap.size,7,none⟩ = some (.int .i64 c.t):=GrW.cell (HW_2.out.cell 7 _ rfl)
   have t8:∀ g:GrW w_2,g.w.cell? ⟨w.heap.size,8,none⟩ = some (.int .i64 c.b):=GrW.cell (HW_2.out.cell 8 _ rfl)
   have t9:∀ g:GrW w_2,g.w.cell? ⟨w.heap.size,9,none⟩ = some (.int .i64 c.i):=GrW.cell (HW_2.out.cell 9 _ rfl)
   have t10:∀ g:GrW w_2,g.w.cell? ⟨w.heap.size,10,none⟩ = some (.int .i64 c.f):=GrW.cell (HW_2.out.cell 10 _ rfl)
   have t11:∀ g:GrW w_2,g.w.cell? ⟨w.heap.size,11,none⟩ = some (.int .i64 c.k):=GrW.cell (HW_2.out.cell 11 _ rfl)
   have t12:∀ g:GrW w_2,g.w.cell? ⟨w.heap.size,12,none⟩ = some (.slice sl.a1 sl.m1 sl.k1):=GrW.cell (HW_2.out.cell 12 _ rfl)
   have t13:∀ g:GrW w_2,g.w.cell? ⟨w.heap.size,13,none⟩ = some (.slice sl.a2 sl.m2 sl.k2):=GrW.cell (HW_2.out.cell 13 _ rfl)
   have t14:∀ g:GrW w_2,g.w.cell? ⟨w.heap.size,14,none⟩ = some (.slice sl.a3 sl.m3 sl.k3):=GrW.cell (HW_2.out.cell 14 _ rfl)
   have t15:∀ g:GrW w_2,g.w.cell? ⟨w.heap.size,15,none⟩ = some (.slice sl.a4 sl.m4 sl.k4):=GrW.cell (HW_2.out.cell 15 _ rfl)
   have t16:∀ g:GrW w_2,g.w.cell? ⟨w.heap.size,16,none⟩ = some (.slice sl.a5 sl.m5 sl.k5):=GrW.cell (HW_2.out.cell 16 _ rfl)
   have x0:∀ g:GrW w_2,g.w.cell? ⟨(w.heap.size + 1),0,none⟩ = some (.int .u64 x.key):=GrW.cell (HX_2.out.cell 0 _ rfl)
   have x4:∀ g:GrW w_2,g.w.cell? ⟨(w.heap.size + 1),4,none⟩ = some (.int .i64 x.curr):=GrW.cell (HX_2.out.cell 4 _ rfl)
   refine wp_region_grow (by kernel_rfl) (by kernel_rfl) ?_
   repeat (go_big_quiet_step ((go_at_call 214;exact grcall (rKey_at _ hi c s _ _ _ _ _ (HH.out.grown (gtr HG_2.out (GrW.gr _))).refs HOK.out hl hl5 x.curr kv HK.out))))
   refine wpQuiet_nil ?_
   rintro w_3 ⟨⟨_,g_3⟩,rfl⟩
   clear t7 t8 t9 t10 t11 t12 t13 t14 t15 t16 x0 x4
   have HW_3:=Lib.hid (HW_2.out.grown g_3)
   have HX_3:=Lib.hid (HX_2.out.grown g_3)
   have HR0_3:=Lib.hid (HR0_2.out.grown g_3)
   have HG_3:=Lib.hid (gtr HG_2.out g_3)
   clear g_3
   have x1:=HX_3.out.cell 1 _ rfl
   go_wp2_with (first | (refine store_cell rfl 4 _ _ rfl (w.heap.size + 1) 9 rfl (.bool true) rfl rfl (x:Wk).l ({ x with done:=true }:Wk).l HX_3.out (Nat.le_of_ble_eq_true rfl) (by kernel_rfl) rfl ?_;intro w_4 B_ q_;have HX_4:=Lib.hid B_;have HW_4:=Lib.hid (HW_3.out.but q_ (by omega));have HR0_4:=Lib.hid (HR0_3.out.but q_ (by omega));have HG_4:Hid (Grown w w_4):=Lib.hid (But.fresh HG_3.out q_ (fun i hi => by omega));clear B_ q_) | (refine store_cell rfl 4 _ _ rfl (w.heap.size + 1) 8 rfl (.bool true) rfl rfl ({ x with done:=true }:Wk).l ({ x with done:=true,stop:=true }:Wk).l HX_4.out (Nat.le_of_ble_eq_true rfl) (by kernel_rfl) rfl ?_;intro w_5 B_ q_;have HX_5:=Lib.hid B_;have HW_5:=Lib.hid (HW_4.out.but q_ (by omega));have HR0_5:=Lib.hid (HR0_4.out.but q_ (by omega));have HG_5:Hid (Grown w w_5):=Lib.hid (But.fresh HG_4.out q_ (fun i hi => by omega));clear B_ q_) | (refine load_box rfl 72 _ rfl (w.heap.size + 1) rfl _ _ Tryz.underlying72 rfl (by kernel_rfl) HX_5.out ?_) | (refine store_box rfl 72 _ _ rfl (w.heap.size + 1 + 1) _ HR0_5.out _ rfl rfl rfl (by kernel_rfl) rfl ?_;intro w_9 B_ q_;have HE:=Lib.hid B_;have QE:=Lib.hid q_;clear B_ q_) | fail)
   exact bodyPost_ret (v:=.agg ({ x with done:=true,stop:=true }:Wk).l.toArray) (results_c (ty:=72) rfl rfl (load_run HE.out 72 _ Tryz.underlying72 rfl (by kernel_rfl))) rfl ⟨by rw [← HZ.out],But.fresh HG_5.out QE.out (fun i hi => by omega)⟩
 rw [if_neg hm] at hz'
 have hm1:(x.mode == 2) = false:=by simpa using hm
 have hm2:decide (x.mode = 2) = false:=by simpa using hm
 have hm3:(x.mode != 2) = true:=by simpa using hm
 clear hm
 by_cases hp:x.mode ≠ 1
 ·have HZ:Hid (advK s x = z):=Lib.hid (by rw [← hz',if_pos hp])
  have hp1:(x.mode == 1) = false:=by simpa using hp
  have hp2:decide (x.mode = 1) = false:=by simpa using hp
  have hp3:(x.mode != 1) = true:=by simpa using hp
  clear hz' hp hvb
  have t7:=HW_0.out.cell 7 _ rfl
  rw [← HU.out] at t7
  have t8:=HW_0.out.cell 8 _ rfl
  rw [← HU.out] at t8
  have t9:=HW_0.out.cell 9 _ rfl
  rw [← HU.out] at t9
  have t10:=HW_0.out.cell 10 _ rfl
  rw [← HU.out] at t10
  have t11:=HW_0.out.cell 11 _ rfl
  rw [← HU.out] at t11
  have t12:=HW_0.out.cell 12 _ rfl
  rw [← HU.out] at t12
  have t13:=HW_0.out.cell 13 _ rfl
  rw [← HU.out] at t13
  have t14:=HW_0.out.cell 14 _ rfl
  rw [← HU.out] at t14
  have t15:=HW_0.out.cell 15 _ rfl
  rw [← HU.out] at t15
  have t16:=HW_0.out.cell 16 _ rfl
  rw [← HU.out] at t16
  have x4:=HX_0.out.cell 4 _ rfl
  rw [← HU.out] at x4
  go_enter Tryz.func165,Tryz.ntmps165
  go_wp2_with fail
  rw [HU.out]
  refine (rCarried_at _ hi c s _ _ _ _ _ (HH.out.grown HG_0.out).refs HOK.out hl5 x.curr ov HO.out).mono ?_;rintro e w_1 ⟨rfl,g_1⟩
  clear t7 t8 t9 t10 t11 t12 t13 t14 t15 t16 x4
  have HW_1:=Lib.hid (HW_0.out.grown g_1)
  have HX_1:=Lib.hid (HX_0.out.grown g_1)
  have HR0_1:=Lib.hid (HR0_0.out.grown g_1)
  have HG_1:=Lib.hid (gtr HG_0.out g_1)
  clear g_1
  go_wp2_with fail
  refine (refOver_any _ _).mono ?_;rintro e w_2 ⟨rfl,g_2⟩
  have HW_2:=Lib.hid (HW_1.out.grown g_2)
  have HX_2:=Lib.hid (HX_1.out.grown g_2)
  have HR0_2:=Lib.hid (HR0_1.out.grown g_2)
  have HG_2:=Lib.hid (gtr HG_1.out g_2)
  clear g_2
  go_wp2_with fail
  have t7:∀ g:GrW w_2,g.w.cell? ⟨w.heap.size,7,none⟩ = some (.int .i64 c.t):=GrW.cell (HW_2.out.cell 7 _ rfl)
  have t8:∀ g:GrW w_2,g.w.cell? ⟨w.heap.size,8,none⟩ = some (.int .i64 c.b):=GrW.cell (HW_2.out.cell 8 _ rfl)
  have t9:∀ g:GrW w_2,g.w.cell? ⟨w.heap.size,9,none⟩ = some (.int .i64 c.i):=GrW.cell (HW_2.out.cell 9 _ rfl)
  have t10:∀ g:GrW w_2,g.w.cell? ⟨w.heap.size,10,none⟩ = some (.int .i64 c.f):=GrW.cell (HW_2.out.cell 10 _ rfl)
  have t11:∀ g:GrW w_2,g.w.cell? ⟨w.heap.size,11,none⟩ = some (.int .i64 c.k):=GrW.cell (HW_2.out.cell 11 _ rfl)
  have t12:∀ g:GrW w_2,g.w.cell? ⟨w.heap.size,12,none⟩ = some (.slice sl.a1 sl.m1 sl.k1):=GrW.cell (HW_2.out.cell 12 _ rfl)
  have t13:∀ g:GrW w_2,g.w.cell? ⟨w.heap.size,13,none⟩ = some (.slice sl.a2 sl.m2 sl.k2):=GrW.cell (HW_2.out.cell 13 _ rfl)
  have t14:∀ g:GrW w_2,g.w.cell? ⟨w.heap.size,14,none⟩ = some (.slice sl.a3 sl.m3 sl.k3):=GrW.cell (HW_2.out.cell 14 _ rfl)
  have t15:∀ g:GrW w_2,g.w.cell? ⟨w.heap.size,15,none⟩ = some (.slice sl.a4 sl.m4 sl.k4):=GrW.cell (HW_2.out.cell 15 _ rfl)
  have t16:∀ g:GrW w_2,g.w.cell? ⟨w.heap.size,16,none⟩ = some (.slice sl.a5 sl.m5 sl.k5):=GrW.cell (HW_2.out.cell 16 _ rfl)
  have x0:∀ g:GrW w_2,g.w.cell? ⟨(w.heap.size + 1),0,none⟩ = some (.int .u64 x.key):=GrW.cell (HX_2.out.cell 0 _ rfl)
  have x4:∀ g:GrW w_2,g.w.cell? ⟨(w.heap.size + 1),4,none⟩ = some (.int .i64 x.curr):=GrW.cell (HX_2.out.cell 4 _ rfl)
  refine wp_region_grow (by kernel_rfl) (by kernel_rfl) ?_
  repeat (go_big_quiet_step ((go_at_call 214;exact grcall (rKey_at _ hi c s _ _ _ _ _ (HH.out.grown (gtr HG_2.out (GrW.gr _))).refs HOK.out hl hl5 x.curr kv HK.out))))
  refine wpQuiet_nil ?_
  rintro w_3 ⟨⟨_,g_3⟩,rfl⟩
  clear t7 t8 t9 t10 t11 t12 t13 t14 t15 t16 x0 x4
  have HW_3:=Lib.hid (HW_2.out.grown g_3)
  have HX_3:=Lib.hid (HX_2.out.grown g_3)
  have HR0_3:=Lib.hid (HR0_2.out.grown g_3)
  have HG_3:=Lib.hid (gtr HG_2.out g_3)
  clear g_3
  have x1:=HX_3.out.cell 1 _ rfl
  go_wp2_with (first | (refine load_box rfl 42 _ rfl w.heap.size rfl _ _ Tryz.underlying42 rfl (by kernel_rfl) HW_3.out ?_) | (refine load_box rfl 72 _ rfl (w.heap.size + 1) rfl _ _ Tryz.underlying72 rfl (by kernel_rfl) HX_3.out ?_) | fail)
  refine (rAdvance _ hi c b q cap ws n s sl (HH.out.grown HG_3.out) HOK.out hl hl5 x b0 b1 z HZ.out).mono ?_;rintro e w_4 ⟨rfl,g_4⟩
  have HR0_4:=Lib.hid (HR0_3.out.grown g_4)
  have HG_4:=Lib.hid (gtr HG_3.out g_4)
  clear g_4
  go_wp2_with (first | (refine store_box rfl 72 _ _ rfl (w.heap.size + 1 + 1) _ HR0_4.out _ rfl rfl rfl (by kernel_rfl) rfl ?_;intro w_5 B_ q_;have HE:=Lib.hid B_;have QE:=Lib.hid q_;clear B_ q_) | fail)
  exact bodyPost_ret (v:=.agg (z:Wk).l.toArray) (results_c (ty:=72) rfl rfl (load_run HE.out 72 _ Tryz.underlying72 rfl (by kernel_rfl))) rfl ⟨by rw [← HZ.out],But.fresh HG_4.out QE.out (fun i hi => by omega)⟩
 rw [if_neg hp] at hz'
 have hp:x.mode = 1:=by omega
 have hp1:(x.mode == 1) = true:=by simpa using hp
 have hp2:decide (x.mode = 1) = true:=by simpa using hp
 have hp3:(x.mode != 1) = false:=by simpa using hp
 clear hp
 by_cases hv:v = 1
 ·rw [if_pos hv] at hz'
  have hv1:(v == 1) = true:=by simpa using hv
  have hv2:decide (v = 1) = true:=by simpa using hv
  have hv3:(v != 1) = false:=by simpa using hv
  clear hv hvb hv2
  by_cases hs:x.seen = ov
  ·have HZ:Hid (({ x with phase:=4 }:Wk) = z):=Lib.hid (by rw [← hz',if_pos hs])
   have hs1:(x.seen == ov) = true:=by simpa using hs
   have hs2:decide (x.seen = ov) = true:=by simpa using hs
   have hs3:(x.seen != ov) = false:=by simpa using hs
   clear hz' hs
   have t7:=HW_0.out.cell 7 _ rfl
   rw [← HU.out] at t7
   have t8:=HW_0.out.cell 8 _ rfl
   rw [← HU.out] at t8
   have t9:=HW_0.out.cell 9 _ rfl
   rw [← HU.out] at t9
   have t10:=HW_0.out.cell 10 _ rfl
   rw [← HU.out] at t10
   have t11:=HW_0.out.cell 11 _ rfl
   rw [← HU.out] at t11
   have t12:=HW_0.out.cell 12 _ rfl
   rw [← HU.out] at t12
   have t13:=HW_0.out.cell 13 _ rfl
   rw [← HU.out] at t13
   have t14:=HW_0.out.cell 14 _ rfl
   rw [← HU.out] at t14
   have t15:=HW_0.out.cell 15 _ rfl
   rw [← HU.out] at t15
   have t16:=HW_0.out.cell 16 _ rfl
   rw [← HU.out] at t16
   have x4:=HX_0.out.cell 4 _ rfl
   rw [← HU.out] at x4
   go_enter Tryz.func165,Tryz.ntmps165
   go_wp2_with fail
   rw [HU.out]
   refine (rCarried_at _ hi c s _ _ _ _ _ (HH.out.grown HG_0.out).refs HOK.out hl5 x.curr ov HO.out).mono ?_;rintro e w_1 ⟨rfl,g_1⟩
   clear t7 t8 t9 t10 t11 t12 t13 t14 t15 t16 x4
   have HW_1:=Lib.hid (HW_0.out.grown g_1)
   have HX_1:=Lib.hid (HX_0.out.grown g_1)
   have HR0_1:=Lib.hid (HR0_0.out.grown g_1)
   have HG_1:=Lib.hid (gtr HG_0.out g_1)
   clear g_1
   go_wp2_with fail
   refine (refOver_any _ _).mono ?_;rintro e w_2 ⟨rfl,g_2⟩
   have HW_2:=Lib.hid (HW_1.out.grown g_2)
   have HX_2:=Lib.hid (HX_1.out.grown g_2)
   have HR0_2:=Lib.hid (HR0_1.out.grown g_2)
   have HG_2:=Lib.hid (gtr HG_1.out g_2)
   clear g_2
   go_wp2_with fail
   have t7:∀ g:GrW w_2,g.w.cell? ⟨w.heap.size,7,none⟩ = some (.int .i64 c.t):=GrW.cell (HW_2.out.cell 7 _ rfl)
   have t8:∀ g:GrW w_2,g.w.cell? ⟨w.heap.size,8,none⟩ = some (.int .i64 c.b):=GrW.cell (HW_2.out.cell 8 _ rfl)
   have t9:∀ g:GrW w_2,g.w.cell? ⟨w.heap.size,9,none⟩ = some (.int .i64 c.i):=GrW.cell (HW_2.out.cell 9 _ rfl)
   have t10:∀ g:GrW w_2,g.w.cell? ⟨w.heap.size,10,none⟩ = some (.int .i64 c.f):=GrW.cell (HW_2.out.cell 10 _ rfl)
   have t11:∀ g:GrW w_2,g.w.cell? ⟨w.heap.size,11,none⟩ = some (.int .i64 c.k):=GrW.cell (HW_2.out.cell 11 _ rfl)
   have t12:∀ g:GrW w_2,g.w.cell? ⟨w.heap.size,12,none⟩ = some (.slice sl.a1 sl.m1 sl.k1):=GrW.cell (HW_2.out.cell 12 _ rfl)
   have t13:∀ g:GrW w_2,g.w.cell? ⟨w.heap.size,13,none⟩ = some (.slice sl.a2 sl.m2 sl.k2):=GrW.cell (HW_2.out.cell 13 _ rfl)
   have t14:∀ g:GrW w_2,g.w.cell? ⟨w.heap.size,14,none⟩ = some (.slice sl.a3 sl.m3 sl.k3):=GrW.cell (HW_2.out.cell 14 _ rfl)
   have t15:∀ g:GrW w_2,g.w.cell? ⟨w.heap.size,15,none⟩ = some (.slice sl.a4 sl.m4 sl.k4):=GrW.cell (HW_2.out.cell 15 _ rfl)
   have t16:∀ g:GrW w_2,g.w.cell? ⟨w.heap.size,16,none⟩ = some (.slice sl.a5 sl.m5 sl.k5):=GrW.cell (HW_2.out.cell 16 _ rfl)
   have x0:∀ g:GrW w_2,g.w.cell? ⟨(w.heap.size + 1),0,none⟩ = some (.int .u64 x.key):=GrW.cell (HX_2.out.cell 0 _ rfl)
   have x4:∀ g:GrW w_2,g.w.cell? ⟨(w.heap.size + 1),4,none⟩ = some (.int .i64 x.curr):=GrW.cell (HX_2.out.cell 4 _ rfl)
   refine wp_region_grow (by kernel_rfl) (by kernel_rfl) ?_
   repeat (go_big_quiet_step ((go_at_call 214;exact grcall (rKey_at _ hi c s _ _ _ _ _ (HH.out.grown (gtr HG_2.out (GrW.gr _))).refs HOK.out hl hl5 x.curr kv HK.out))))
   refine wpQuiet_nil ?_
   rintro w_3 ⟨⟨_,g_3⟩,rfl⟩
   clear t7 t8 t9 t10 t11 t12 t13 t14 t15 t16 x0 x4
   have HW_3:=Lib.hid (HW_2.out.grown g_3)
   have HX_3:=Lib.hid (HX_2.out.grown g_3)
   have HR0_3:=Lib.hid (HR0_2.out.grown g_3)
   have HG_3:=Lib.hid (gtr HG_2.out g_3)
   clear g_3
   have x1:=HX_3.out.cell 1 _ rfl
   have x6:=HX_3.out.cell 6 _ rfl
   go_wp2_with (first | (refine store_cell rfl 3 _ _ rfl (w.heap.size + 1) 2 rfl (.int .i64 4) rfl rfl (x:Wk).l ({ x with phase:=4 }:Wk).l HX_3.out (Nat.le_of_ble_eq_true rfl) (by kernel_rfl) rfl ?_;intro w_4 B_ q_;have HX_4:=Lib.hid B_;have HW_4:=Lib.hid (HW_3.out.but q_ (by omega));have HR0_4:=Lib.hid (HR0_3.out.but q_ (by omega));have HG_4:Hid (Grown w w_4):=Lib.hid (But.fresh HG_3.out q_ (fun i hi => by omega));clear B_ q_) | (refine load_box rfl 72 _ rfl (w.heap.size + 1) rfl _ _ Tryz.underlying72 rfl (by kernel_rfl) HX_4.out ?_) | (refine store_box rfl 72 _ _ rfl (w.heap.size + 1 + 1) _ HR0_4.out _ rfl rfl rfl (by kernel_rfl) rfl ?_;intro w_9 B_ q_;have HE:=Lib.hid B_;have QE:=Lib.hid q_;clear B_ q_) | fail)
   exact bodyPost_ret (v:=.agg ({ x with phase:=4 }:Wk).l.toArray) (results_c (ty:=72) rfl rfl (load_run HE.out 72 _ Tryz.underlying72 rfl (by kernel_rfl))) rfl ⟨by rw [← HZ.out],But.fresh HG_4.out QE.out (fun i hi => by omega)⟩
  ·have HZ:Hid (advK s { x with seen:=ov } = z):=Lib.hid (by rw [← hz',if_neg hs])
   have hs1:(x.seen == ov) = false:=by simpa using hs
   have hs2:decide (x.seen = ov) = false:=by simpa using hs
   have hs3:(x.seen != ov) = true:=by simpa using hs
   clear hz' hs
   have t7:=HW_0.out.cell 7 _ rfl
   rw [← HU.out] at t7
   have t8:=HW_0.out.cell 8 _ rfl
   rw [← HU.out] at t8
   have t9:=HW_0.out.cell 9 _ rfl
   rw [← HU.out] at t9
   have t10:=HW_0.out.cell 10 _ rfl
   rw [← HU.out] at t10
   have t11:=HW_0.out.cell 11 _ rfl
   rw [← HU.out] at t11
   have t12:=HW_0.out.cell 12 _ rfl
   rw [← HU.out] at t12
   have t13:=HW_0.out.cell 13 _ rfl
   rw [← HU.out] at t13
   have t14:=HW_0.out.cell 14 _ rfl
   rw [← HU.out] at t14
   have t15:=HW_0.out.cell 15 _ rfl
   rw [← HU.out] at t15
   have t16:=HW_0.out.cell 16 _ rfl
   rw [← HU.out] at t16
   have x4:=HX_0.out.cell 4 _ rfl
   rw [← HU.out] at x4
   go_enter Tryz.func165,Tryz.ntmps165
   go_wp2_with fail
   rw [HU.out]
   refine (rCarried_at _ hi c s _ _ _ _ _ (HH.out.grown HG_0.out).refs HOK.out hl5 x.curr ov HO.out).mono ?_;rintro e w_1 ⟨rfl,g_1⟩
   clear t7 t8 t9 t10 t11 t12 t13 t14 t15 t16 x4
   have HW_1:=Lib.hid (HW_0.out.grown g_1)
   have HX_1:=Lib.hid (HX_0.out.grown g_1)
   have HR0_1:=Lib.hid (HR0_0.out.grown g_1)
   have HG_1:=Lib.hid (gtr HG_0.out g_1)
   clear g_1
   go_wp2_with fail
   refine (refOver_any _ _).mono ?_;rintro e w_2 ⟨rfl,g_2⟩
   have HW_2:=Lib.hid (HW_1.out.grown g_2)
   have HX_2:=Lib.hid (HX_1.out.grown g_2)
   have HR0_2:=Lib.hid (HR0_1.out.grown g_2)
   have HG_2:=Lib.hid (gtr HG_1.out g_2)
   clear g_2
   go_wp2_with fail
   have t7:∀ g:GrW w_2,g.w.cell? ⟨w.heap.size,7,none⟩ = some (.int .i64 c.t):=GrW.cell (HW_2.out.cell 7 _ rfl)
   have t8:∀ g:GrW w_2,g.w.cell? ⟨w.heap.size,8,none⟩ = some (.int .i64 c.b):=GrW.cell (HW_2.out.cell 8 _ rfl)
   have t9:∀ g:GrW w_2,g.w.cell? ⟨w.heap.size,9,none⟩ = some (.int .i64 c.i):=GrW.cell (HW_2.out.cell 9 _ rfl)
   have t10:∀ g:GrW w_2,g.w.cell? ⟨w.heap.size,10,none⟩ = some (.int .i64 c.f):=GrW.cell (HW_2.out.cell 10 _ rfl)
   have t11:∀ g:GrW w_2,g.w.cell? ⟨w.heap.size,11,none⟩ = some (.int .i64 c.k):=GrW.cell (HW_2.out.cell 11 _ rfl)
   have t12:∀ g:GrW w_2,g.w.cell? ⟨w.heap.size,12,none⟩ = some (.slice sl.a1 sl.m1 sl.k1):=GrW.cell (HW_2.out.cell 12 _ rfl)
   have t13:∀ g:GrW w_2,g.w.cell? ⟨w.heap.size,13,none⟩ = some (.slice sl.a2 sl.m2 sl.k2):=GrW.cell (HW_2.out.cell 13 _ rfl)
   have t14:∀ g:GrW w_2,g.w.cell? ⟨w.heap.size,14,none⟩ = some (.slice sl.a3 sl.m3 sl.k3):=GrW.cell (HW_2.out.cell 14 _ rfl)
   have t15:∀ g:GrW w_2,g.w.cell? ⟨w.heap.size,15,none⟩ = some (.slice sl.a4 sl.m4 sl.k4):=GrW.cell (HW_2.out.cell 15 _ rfl)
   have t16:∀ g:GrW w_2,g.w.cell? ⟨w.heap.size,16,none⟩ = some (.slice sl.a5 sl.m5 sl.k5):=GrW.cell (HW_2.out.cell 16 _ rfl)
   have x0:∀ g:GrW w_2,g.w.cell? ⟨(w.heap.size + 1),0,none⟩ = some (.int .u64 x.key):=GrW.cell (HX_2.out.cell 0 _ rfl)
   have x4:∀ g:GrW w_2,g.w.cell? ⟨(w.heap.size + 1),4,none⟩ = some (.int .i64 x.curr):=GrW.cell (HX_2.out.cell 4 _ rfl)
   refine wp_region_grow (by kernel_rfl) (by kernel_rfl) ?_
   repeat (go_big_quiet_step ((go_at_call 214;exact grcall (rKey_at _ hi c s _ _ _ _ _ (HH.out.grown (gtr HG_2.out (GrW.gr _))).refs HOK.out hl hl5 x.curr kv HK.out))))
   refine wpQuiet_nil ?_
   rintro w_3 ⟨⟨_,g_3⟩,rfl⟩
   clear t7 t8 t9 t10 t11 t12 t13 t14 t15 t16 x0 x4
   have HW_3:=Lib.hid (HW_2.out.grown g_3)
   have HX_3:=Lib.hid (HX_2.out.grown g_3)
   have HR0_3:=Lib.hid (HR0_2.out.grown g_3)
   have HG_3:=Lib.hid (gtr HG_2.out g_3)
   clear g_3
   have x1:=HX_3.out.cell 1 _ rfl
   have x6:=HX_3.out.cell 6 _ rfl
   go_wp2_with (first | (refine store_cell rfl 3 _ _ rfl (w.heap.size + 1) 6 rfl (.int .i64 ov) rfl rfl (x:Wk).l ({ x with seen:=ov }:Wk).l HX_3.out (Nat.le_of_ble_eq_true rfl) (by kernel_rfl) rfl ?_;intro w_4 B_ q_;have HX_4:=Lib.hid B_;have HW_4:=Lib.hid (HW_3.out.but q_ (by omega));have HR0_4:=Lib.hid (HR0_3.out.but q_ (by omega));have HG_4:Hid (Grown w w_4):=Lib.hid (But.fresh HG_3.out q_ (fun i hi => by omega));clear B_ q_) | (refine load_box rfl 42 _ rfl w.heap.size rfl _ _ Tryz.underlying42 rfl (by kernel_rfl) HW_4.out ?_) | (refine load_box rfl 72 _ rfl (w.heap.size + 1) rfl _ _ Tryz.underlying72 rfl (by kernel_rfl) HX_4.out ?_) | fail)
   refine (rAdvance _ hi c b q cap ws n s sl (HH.out.grown HG_4.out) HOK.out hl hl5 { x with seen:=ov } b0 b1 z HZ.out).mono ?_;rintro e w_5 ⟨rfl,g_5⟩
   have HR0_5:=Lib.hid (HR0_4.out.grown g_5)
   have HG_5:=Lib.hid (gtr HG_4.out g_5)
   clear g_5
   go_wp2_with (first | (refine store_box rfl 72 _ _ rfl (w.heap.size + 1 + 1) _ HR0_5.out _ rfl rfl rfl (by kernel_rfl) rfl ?_;intro w_6 B_ q_;have HE:=Lib.hid B_;have QE:=Lib.hid q_;clear B_ q_) | fail)
   exact bodyPost_ret (v:=.agg (z:Wk).l.toArray) (results_c (ty:=72) rfl rfl (load_run HE.out 72 _ Tryz.underlying72 rfl (by kernel_rfl))) rfl ⟨by rw [← HZ.out],But.fresh HG_5.out QE.out (fun i hi => by omega)⟩
 ·rw [if_neg hv] at hz'
  have hv1:(v == 1) = false:=by simpa using hv
  have hv2:decide (v = 1) = false:=by simpa using hv
  have hv3:(v != 1) = true:=by simpa using hv
  clear hv hvb hv2
  by_cases hs:x.seen = -1
  ·have HZ:Hid (({ x with phase:=6 }:Wk) = z):=Lib.hid (by rw [← hz',if_pos hs])
   have hs1:(x.seen == (-1)) = true:=by simpa using hs
   have hs2:decide (x.seen = (-1)) = true:=by simpa using hs
   have hs3:(x.seen != (-1)) = false:=by simpa using hs
   clear hz' hs
   have t7:=HW_0.out.cell 7 _ rfl
   rw [← HU.out] at t7
   have t8:=HW_0.out.cell 8 _ rfl
   rw [← HU.out] at t8
   have t9:=HW_0.out.cell 9 _ rfl
   rw [← HU.out] at t9
   have t10:=HW_0.out.cell 10 _ rfl
   rw [← HU.out] at t10
   have t11:=HW_0.out.cell 11 _ rfl
   rw [← HU.out] at t11
   have t12:=HW_0.out.cell 12 _ rfl
   rw [← HU.out] at t12
   have t13:=HW_0.out.cell 13 _ rfl
   rw [← HU.out] at t13
   have t14:=HW_0.out.cell 14 _ rfl
   rw [← HU.out] at t14
   have t15:=HW_0.out.cell 15 _ rfl
   rw [← HU.out] at t15
   have t16:=HW_0.out.cell 16 _ rfl
   rw [← HU.out] at t16
   have x4:=HX_0.out.cell 4 _ rfl
   rw [← HU.out] at x4
   go_enter Tryz.func165,Tryz.ntmps165
   go_wp2_with fail
   rw [HU.out]
   refine (rCarried_at _ hi c s _ _ _ _ _ (HH.out.grown HG_0.out).refs HOK.out hl5 x.curr ov HO.out).mono ?_;rintro e w_1 ⟨rfl,g_1⟩
   clear t7 t8 t9 t10 t11 t12 t13 t14 t15 t16 x4
   have HW_1:=Lib.hid (HW_0.out.grown g_1)
   have HX_1:=Lib.hid (HX_0.out.grown g_1)
   have HR0_1:=Lib.hid (HR0_0.out.grown g_1)
   have HG_1:=Lib.hid (gtr HG_0.out g_1)
   clear g_1
   go_wp2_with fail
   refine (refOver_any _ _).mono ?_;rintro e w_2 ⟨rfl,g_2⟩
   have HW_2:=Lib.hid (HW_1.out.grown g_2)
   have HX_2:=Lib.hid (HX_1.out.grown g_2)
   have HR0_2:=Lib.hid (HR0_1.out.grown g_2)
   have HG_2:=Lib.hid (gtr HG_1.out g_2)
   clear g_2
   go_wp2_with fail
   have t7:∀ g:GrW w_2,g.w.cell? ⟨w.heap.size,7,none⟩ = some (.int .i64 c.t):=GrW.cell (HW_2.out.cell 7 _ rfl)
   have t8:∀ g:GrW w_2,g.w.cell? ⟨w.heap.size,8,none⟩ = some (.int .i64 c.b):=GrW.cell (HW_2.out.cell 8 _ rfl)
   have t9:∀ g:GrW w_2,g.w.cell? ⟨w.heap.size,9,none⟩ = some (.int .i64 c.i):=GrW.cell (HW_2.out.cell 9 _ rfl)
   have t10:∀ g:GrW w_2,g.w.cell? ⟨w.heap.size,10,none⟩ = some (.int .i64 c.f):=GrW.cell (HW_2.out.cell 10 _ rfl)
   have t11:∀ g:GrW w_2,g.w.cell? ⟨w.heap.size,11,none⟩ = some (.int .i64 c.k):=GrW.cell (HW_2.out.cell 11 _ rfl)
   have t12:∀ g:GrW w_2,g.w.cell? ⟨w.heap.size,12,none⟩ = some (.slice sl.a1 sl.m1 sl.k1):=GrW.cell (HW_2.out.cell 12 _ rfl)
   have t13:∀ g:GrW w_2,g.w.cell? ⟨w.heap.size,13,none⟩ = some (.slice sl.a2 sl.m2 sl.k2):=GrW.cell (HW_2.out.cell 13 _ rfl)
   have t14:∀ g:GrW w_2,g.w.cell? ⟨w.heap.size,14,none⟩ = some (.slice sl.a3 sl.m3 sl.k3):=GrW.cell (HW_2.out.cell 14 _ rfl)
   have t15:∀ g:GrW w_2,g.w.cell? ⟨w.heap.size,15,none⟩ = some (.slice sl.a4 sl.m4 sl.k4):=GrW.cell (HW_2.out.cell 15 _ rfl)
   have t16:∀ g:GrW w_2,g.w.cell? ⟨w.heap.size,16,none⟩ = some (.slice sl.a5 sl.m5 sl.k5):=GrW.cell (HW_2.out.cell 16 _ rfl)
   have x0:∀ g:GrW w_2,g.w.cell? ⟨(w.heap.size + 1),0,none⟩ = some (.int .u64 x.key):=GrW.cell (HX_2.out.cell 0 _ rfl)
   have x4:∀ g:GrW w_2,g.w.cell? ⟨(w.heap.size + 1),4,none⟩ = some (.int .i64 x.curr):=GrW.cell (HX_2.out.cell 4 _ rfl)
   refine wp_region_grow (by kernel_rfl) (by kernel_rfl) ?_
   repeat (go_big_quiet_step ((go_at_call 214;exact grcall (rKey_at _ hi c s _ _ _ _ _ (HH.out.grown (gtr HG_2.out (GrW.gr _))).refs HOK.out hl hl5 x.curr kv HK.out))))
   refine wpQuiet_nil ?_
   rintro w_3 ⟨⟨_,g_3⟩,rfl⟩
   clear t7 t8 t9 t10 t11 t12 t13 t14 t15 t16 x0 x4
   have HW_3:=Lib.hid (HW_2.out.grown g_3)
   have HX_3:=Lib.hid (HX_2.out.grown g_3)
   have HR0_3:=Lib.hid (HR0_2.out.grown g_3)
   have HG_3:=Lib.hid (gtr HG_2.out g_3)
   clear g_3
   have x1:=HX_3.out.cell 1 _ rfl
   have x6:=HX_3.out.cell 6 _ rfl
   go_wp2_with (first | (refine store_cell rfl 3 _ _ rfl (w.heap.size + 1) 2 rfl (.int .i64 6) rfl rfl (x:Wk).l ({ x with phase:=6 }:Wk).l HX_3.out (Nat.le_of_ble_eq_true rfl) (by kernel_rfl) rfl ?_;intro w_4 B_ q_;have HX_4:=Lib.hid B_;have HW_4:=Lib.hid (HW_3.out.but q_ (by omega));have HR0_4:=Lib.hid (HR0_3.out.but q_ (by omega));have HG_4:Hid (Grown w w_4):=Lib.hid (But.fresh HG_3.out q_ (fun i hi => by omega));have y6:=HX_4.out.cell 6 (.int .i64 x.seen) rfl;clear B_ q_) | (refine load_box rfl 72 _ rfl (w.heap.size + 1) rfl _ _ Tryz.underlying72 rfl (by kernel_rfl) HX_4.out ?_) | (refine store_box rfl 72 _ _ rfl (w.heap.size + 1 + 1) _ HR0_4.out _ rfl rfl rfl (by kernel_rfl) rfl ?_;intro w_9 B_ q_;have HE:=Lib.hid B_;have QE:=Lib.hid q_;clear B_ q_) | fail)
   exact bodyPost_ret (v:=.agg ({ x with phase:=6 }:Wk).l.toArray) (results_c (ty:=72) rfl rfl (load_run HE.out 72 _ Tryz.underlying72 rfl (by kernel_rfl))) rfl ⟨by rw [← HZ.out],But.fresh HG_4.out QE.out (fun i hi => by omega)⟩
  ·have HZ:Hid (({ x with phase:=5 }:Wk) = z):=Lib.hid (by rw [← hz',if_neg hs])
   have hs1:(x.seen == (-1)) = false:=by simpa using hs
   have hs2:decide (x.seen = (-1)) = false:=by simpa using hs
   have hs3:(x.seen != (-1)) = true:=by simpa using hs
   clear hz' hs
   have t7:=HW_0.out.cell 7 _ rfl
   rw [← HU.out] at t7
   have t8:=HW_0.out.cell 8 _ rfl
   rw [← HU.out] at t8
   have t9:=HW_0.out.cell 9 _ rfl
   rw [← HU.out] at t9
   have t10:=HW_0.out.cell 10 _ rfl
   rw [← HU.out] at t10
   have t11:=HW_0.out.cell 11 _ rfl
   rw [← HU.out] at t11
   have t12:=HW_0.out.cell 12 _ rfl
   rw [← HU.out] at t12
   have t13:=HW_0.out.cell 13 _ rfl
   rw [← HU.out] at t13
   have t14:=HW_0.out.cell 14 _ rfl
   rw [← HU.out] at t14
   have t15:=HW_0.out.cell 15 _ rfl
   rw [← HU.out] at t15
   have t16:=HW_0.out.cell 16 _ rfl
   rw [← HU.out] at t16
   have x4:=HX_0.out.cell 4 _ rfl
   rw [← HU.out] at x4
   go_enter Tryz.func165,Tryz.ntmps165
   go_wp2_with fail
   rw [HU.out]
   refine (rCarried_at _ hi c s _ _ _ _ _ (HH.out.grown HG_0.out).refs HOK.out hl5 x.curr ov HO.out).mono ?_;rintro e w_1 ⟨rfl,g_1⟩
   clear t7 t8 t9 t10 t11 t12 t13 t14 t15 t16 x4
   have HW_1:=Lib.hid (HW_0.out.grown g_1)
   have HX_1:=Lib.hid (HX_0.out.grown g_1)
   have HR0_1:=Lib.hid (HR0_0.out.grown g_1)
   have HG_1:=Lib.hid (gtr HG_0.out g_1)
   clear g_1
   go_wp2_with fail
   refine (refOver_any _ _).mono ?_;rintro e w_2 ⟨rfl,g_2⟩
   have HW_2:=Lib.hid (HW_1.out.grown g_2)
   have HX_2:=Lib.hid (HX_1.out.grown g_2)
   have HR0_2:=Lib.hid (HR0_1.out.grown g_2)
   have HG_2:=Lib.hid (gtr HG_1.out g_2)
   clear g_2
   go_wp2_with fail
   have t7:∀ g:GrW w_2,g.w.cell? ⟨w.heap.size,7,none⟩ = some (.int .i64 c.t):=GrW.cell (HW_2.out.cell 7 _ rfl)
   have t8:∀ g:GrW w_2,g.w.cell? ⟨w.heap.size,8,none⟩ = some (.int .i64 c.b):=GrW.cell (HW_2.out.cell 8 _ rfl)
   have t9:∀ g:GrW w_2,g.w.cell? ⟨w.heap.size,9,none⟩ = some (.int .i64 c.i):=GrW.cell (HW_2.out.cell 9 _ rfl)
   have t10:∀ g:GrW w_2,g.w.cell? ⟨w.heap.size,10,none⟩ = some (.int .i64 c.f):=GrW.cell (HW_2.out.cell 10 _ rfl)
   have t11:∀ g:GrW w_2,g.w.cell? ⟨w.heap.size,11,none⟩ = some (.int .i64 c.k):=GrW.cell (HW_2.out.cell 11 _ rfl)
   have t12:∀ g:GrW w_2,g.w.cell? ⟨w.heap.size,12,none⟩ = some (.slice sl.a1 sl.m1 sl.k1):=GrW.cell (HW_2.out.cell 12 _ rfl)
   have t13:∀ g:GrW w_2,g.w.cell? ⟨w.heap.size,13,none⟩ = some (.slice sl.a2 sl.m2 sl.k2):=GrW.cell (HW_2.out.cell 13 _ rfl)
   have t14:∀ g:GrW w_2,g.w.cell? ⟨w.heap.size,14,none⟩ = some (.slice sl.a3 sl.m3 sl.k3):=GrW.cell (HW_2.out.cell 14 _ rfl)
   have t15:∀ g:GrW w_2,g.w.cell? ⟨w.heap.size,15,none⟩ = some (.slice sl.a4 sl.m4 sl.k4):=GrW.cell (HW_2.out.cell 15 _ rfl)
   have t16:∀ g:GrW w_2,g.w.cell? ⟨w.heap.size,16,none⟩ = some (.slice sl.a5 sl.m5 sl.k5):=GrW.cell (HW_2.out.cell 16 _ rfl)
   have x0:∀ g:GrW w_2,g.w.cell? ⟨(w.heap.size + 1),0,none⟩ = some (.int .u64 x.key):=GrW.cell (HX_2.out.cell 0 _ rfl)
   have x4:∀ g:GrW w_2,g.w.cell? ⟨(w.heap.size + 1),4,none⟩ = some (.int .i64 x.curr):=GrW.cell (HX_2.out.cell 4 _ rfl)
   refine wp_region_grow (by kernel_rfl) (by kernel_rfl) ?_
   repeat (go_big_quiet_step ((go_at_call 214;exact grcall (rKey_at _ hi c s _ _ _ _ _ (HH.out.grown (gtr HG_2.out (GrW.gr _))).refs HOK.out hl hl5 x.curr kv HK.out))))
   refine wpQuiet_nil ?_
   rintro w_3 ⟨⟨_,g_3⟩,rfl⟩
   clear t7 t8 t9 t10 t11 t12 t13 t14 t15 t16 x0 x4
   have HW_3:=Lib.hid (HW_2.out.grown g_3)
   have HX_3:=Lib.hid (HX_2.out.grown g_3)
   have HR0_3:=Lib.hid (HR0_2.out.grown g_3)
   have HG_3:=Lib.hid (gtr HG_2.out g_3)
   clear g_3
   have x1:=HX_3.out.cell 1 _ rfl
   have x6:=HX_3.out.cell 6 _ rfl
   go_wp2_with (first | (refine store_cell rfl 3 _ _ rfl (w.heap.size + 1) 2 rfl (.int .i64 6) rfl rfl (x:Wk).l ({ x with phase:=6 }:Wk).l HX_3.out (Nat.le_of_ble_eq_true rfl) (by kernel_rfl) rfl ?_;intro w_4 B_ q_;have HX_4:=Lib.hid B_;have HW_4:=Lib.hid (HW_3.out.but q_ (by omega));have HR0_4:=Lib.hid (HR0_3.out.but q_ (by omega));have HG_4:Hid (Grown w w_4):=Lib.hid (But.fresh HG_3.out q_ (fun i hi => by omega));have y6:=HX_4.out.cell 6 (.int .i64 x.seen) rfl;clear B_ q_) | (refine store_cell rfl 3 _ _ rfl (w.heap.size + 1) 2 rfl (.int .i64 5) rfl rfl ({ x with phase:=6 }:Wk).l ({ x with phase:=5 }:Wk).l HX_4.out (Nat.le_of_ble_eq_true rfl) (by kernel_rfl) rfl ?_;intro w_5 B_ q_;have HX_5:=Lib.hid B_;have HW_5:=Lib.hid (HW_4.out.but q_ (by omega));have HR0_5:=Lib.hid (HR0_4.out.but q_ (by omega));have HG_5:Hid (Grown w w_5):=Lib.hid (But.fresh HG_4.out q_ (fun i hi => by omega));clear B_ q_) | (refine load_box rfl 72 _ rfl (w.heap.size + 1) rfl _ _ Tryz.underlying72 rfl (by kernel_rfl) HX_5.out ?_) | (refine store_box rfl 72 _ _ rfl (w.heap.size + 1 + 1) _ HR0_5.out _ rfl rfl rfl (by kernel_rfl) rfl ?_;intro w_9 B_ q_;have HE:=Lib.hid B_;have QE:=Lib.hid q_;clear B_ q_) | fail)
   exact bodyPost_ret (v:=.agg ({ x with phase:=5 }:Wk).l.toArray) (results_c (ty:=72) rfl rfl (load_run HE.out 72 _ Tryz.underlying72 rfl (by kernel_rfl))) rfl ⟨by rw [← HZ.out],But.fresh HG_5.out QE.out (fun i hi => by omega)⟩
end Go.Proofs.YtmokcgifknmchaaGreat
