/- The document's walk (corrieref10): Step. -/
import Derived.Test.YtmokcgifknmchaaGreatRWalkL
namespace Go.Proofs.YtmokcgifknmchaaGreat
open Go.ChangeShapes Go.WideShapes Go.ChangeAt Go.RowKit
set_option maxRecDepth 100000
set_option linter.unusedVariables false
set_option maxHeartbeats 8000000 in
theorem rStepD (w:World) (hi:Nat) (c:Cf) (b q cap:Nat) (ws:List Int) (n:Int) (s:St) (sl:Sl) (h:RwAt w hi c b q ws s sl) (hok:c.Ok) (hl:s.ops.length ≤ 99999) (hl5:s.nodes.length ≤ 99999) (x:Wk) (q0:0 < q) (n0:0 ≤ n) (n1:n < 4611686018427387904) (hw:∀ i:Int,0 ≤ rd ws i ∧ rd ws i ≤ 18446744073709551615) (hd:x.done = true) (z:Kd) (hz:stepK c s ⟨ws,n,x⟩ = z) :
  Calls Tryz.prog 32 #[.agg (RwL c b q cap n sl).toArray,.agg x.l.toArray] w fun e w' => RK c sl b q z w e w':=by
 have HZ:Hid ((⟨ws,n,x⟩:Kd) = z):=Lib.hid (by rw [← hz];unfold stepK;simp [hd])
 clear hz
 obtain ⟨u,hu,hg,b0,b1,b2,b3⟩:=vars4 w (RwL c b q cap n sl) x.l zWV zWk.l 42 72 42 72
 have HW_0:=Lib.hid b0
 have HX_0:=Lib.hid b1
 have HR0_0:=Lib.hid b2
 have HR1_0:=Lib.hid b3
 have HG_0:=Lib.hid hg
 have HH:=Lib.hid h
 have HOK:=Lib.hid hok
 obtain ⟨LW,hLW⟩:∃ L,RwL c b q cap n sl = L:=⟨_,rfl⟩
 obtain ⟨LX,hLX⟩:∃ L,x.l = L:=⟨_,rfl⟩
 rw [hLW,hLX] at hu ⊢
 simp only [zWk,Wk.l,zWV] at hu
 have HU:=Lib.hid hu
 have HLW:=Lib.hid hLW
 have HLX:=Lib.hid hLX
 clear hu hg b0 b1 b2 b3 h hok hLW hLX
 have hbl:b < w.heap.size:=World.block_lt_of_cell? w _ (HH.out.holds 0 (by rw [HH.out.len];exact q0))
 have x9:=HX_0.out.cell 9 _ rfl
 rw [← HU.out] at x9
 rw [hd] at x9
 clear hd
 go_enter Tryz.func32,Tryz.ntmps32
 go_wp2_with fail
 rw [HU.out]
 clear x9
 have HA_0:=HW_0
 have HQ_0:=Lib.hid ((HH.out.grown HG_0.out).holds)
 refine wp_region_planb (fun i => i = (w.heap.size + 1 + 1) ∨ i = (w.heap.size + 1 + 1 + 1)) (.one [0,1] 2 (.one [] 3 (.fin []))) (by kernel_rfl) (by kernel_rfl) (by kernel_rfl) ?_
 intro w_11 g_11
 have HQ_11:=Lib.hid (HQ_0.out.grown g_11)
 have HW_11:=Lib.hid (HW_0.out.grown g_11)
 have HX_11:=Lib.hid (HX_0.out.grown g_11)
 have HR0_11:=Lib.hid (HR0_0.out.grown g_11)
 have HR1_11:=Lib.hid (HR1_0.out.grown g_11)
 have HA_11:=Lib.hid (HA_0.out.grown g_11)
 have HG_11:=Lib.hid (gtr HG_0.out g_11)
 refine plan_one ?_
 try simp only [Act.put]
 simp only [nths,nth,List.map_cons,List.map_nil,List.getD_cons_zero,List.getD_cons_succ]
 refine wpQuiet_load_box rfl 42 _ rfl w.heap.size rfl _ _ Tryz.underlying42 rfl (by kernel_rfl) (Box.butw HA_11.out (by rintro (h | h) <;> omega)) ?_
 simp only [Act.put,List.setIfInBounds_toArray,List.set_cons_succ,List.set_cons_zero]
 refine wpQuiet_load_box rfl 72 _ rfl (w.heap.size + 1) rfl _ _ Tryz.underlying72 rfl (by kernel_rfl) (Box.butw HX_11.out (by rintro (h | h) <;> omega)) ?_
 simp only [Act.put,List.setIfInBounds_toArray,List.set_cons_succ,List.set_cons_zero]
 refine wpQuiet_nil ?_
 go_wp2_with (first | (refine store_box rfl 42 _ _ rfl (w.heap.size + 1 + 1) _ HR0_11.out _ rfl rfl rfl (by kernel_rfl) rfl ?_;intro w_12 B_ q_;have HE0:=Lib.hid B_;have QE0:=Lib.hid q_;have HR1_12:=Lib.hid (HR1_11.out.but q_ (by omega));clear B_ q_) | fail)
 refine nxt_but (QE0.out.mono fun i hi => .inl hi) (plan_one ?_)
 simp only [nths,nth,List.map_nil,List.getD_cons_zero,List.getD_cons_succ]
 refine wpQuiet_nil ?_
 go_wp2_with (first | (refine store_box rfl 72 _ _ rfl (w.heap.size + 1 + 1 + 1) _ HR1_12.out _ rfl rfl rfl (by kernel_rfl) rfl ?_;intro w_13 B_ q_;have HE1:=Lib.hid B_;have QE1:=Lib.hid q_;have HE0_13:=Lib.hid (HE0.out.but q_ (by omega));clear B_ q_) | fail)
 have QE:But (fun i => i = (w.heap.size + 1 + 1) ∨ i = (w.heap.size + 1 + 1 + 1)) w_11 w_13:=(QE0.out.mono fun i hi => .inl hi).trans (QE1.out.mono fun i hi => .inr hi)
 refine nxt_but QE (plan_fin ?_)
 simp only [nths,List.map_nil]
 refine wpQuiet_nil ?_
 go_wp2_with fail
 exact bodyPost_ret (v:=.tuple #[.agg (RwL c b q cap (n) sl).toArray,.agg (x).l.toArray]) (results_cc (ty:=42) (ty':=72) rfl rfl (load_run HE0_13.out 42 _ Tryz.underlying42 rfl (by kernel_rfl)) rfl (load_run HE1.out 72 _ Tryz.underlying72 rfl (by kernel_rfl))) rfl ⟨b,cap,by rw [← HZ.out],But.fresh HG_11.out QE (fun i hi => by rcases hi with h | h <;> omega),by rw [← HZ.out];exact HQ_11.out.but QE (by rintro (h | h) <;> omega),by omega⟩
set_option maxHeartbeats 8000000 in
theorem rStep0 (w:World) (hi:Nat) (c:Cf) (b q cap:Nat) (ws:List Int) (n:Int) (s:St) (sl:Sl) (h:RwAt w hi c b q ws s sl) (hok:c.Ok) (hl:s.ops.length ≤ 99999) (hl5:s.nodes.length ≤ 99999) (x:Wk) (q0:0 < q) (n0:0 ≤ n) (n1:n < 4611686018427387904) (hw:∀ i:Int,0 ≤ rd ws i ∧ rd ws i ≤ 18446744073709551615) (b0:0 ≤ x.next) (b1:x.next ≤ 18446744073709551615) (u0:-9223372036854775808 ≤ x.curr) (u1:x.curr ≤ 9223372036854775807) (hd:x.done = false) (hp:x.phase = 0) (z:Kd) (hz:stepK c s ⟨ws,n,x⟩ = z) :
  Calls Tryz.prog 32 #[.agg (RwL c b q cap n sl).toArray,.agg x.l.toArray] w fun e w' => RK c sl b q z w e w':=by
 obtain ⟨ov,hov⟩:∃ y,opK s x = y:=⟨_,rfl⟩
 have HO:Hid (carriedOf (lookI s.nodes x.curr) = ov):=Lib.hid hov
 have hzk:begK c s ⟨ws,n,x⟩ = z:=by rw [← hz];unfold stepK;simp [hd,hp]
 have HZ:=Lib.hid hzk
 clear hz hzk hov
 obtain ⟨u,hu,hg,b0,b1,b2,b3⟩:=vars4 w (RwL c b q cap n sl) x.l zWV zWk.l 42 72 42 72
 have HW_0:=Lib.hid b0
 have HX_0:=Lib.hid b1
 have HR0_0:=Lib.hid b2
 have HR1_0:=Lib.hid b3
 have HG_0:=Lib.hid hg
 have HH:=Lib.hid h
 have HOK:=Lib.hid hok
 obtain ⟨LW,hLW⟩:∃ L,RwL c b q cap n sl = L:=⟨_,rfl⟩
 obtain ⟨LX,hLX⟩:∃ L,x.l = L:=⟨_,rfl⟩
 rw [hLW,hLX] at hu ⊢
 simp only [zWk,Wk.l,zWV] at hu
 have HU:=Lib.hid hu
 have HLW:=Lib.hid hLW
 have HLX:=Lib.hid hLX
 clear hu hg b0 b1 b2 b3 h hok hLW hLX
 have hbl:b < w.heap.size:=World.block_lt_of_cell? w _ (HH.out.holds 0 (by rw [HH.out.len];exact q0))
 have t7:=HW_0.out.cell 7 _ rfl
 rw [← HU.out] at t7
 have t8:=HW_0.out.cell 8 _ rfl
 rw [← HU.out] at t8
 have t9:=HW_0.out.cell 9 _ rfl
 rw [← HU.out] at t9
 have t10:=HW_0.out.cell 10 _ rfl
 rw [← HU.out] at t10
 have t11:=HW_0.out.cell 11 _ rfl
 rw [← HU.out] at t11
 have t12:=HW_0.out.cell 12 _ rfl
 rw [← HU.out] at t12
 have t13:=HW_0.out.cell 13 _ rfl
 rw [← HU.out] at t13
 have t14:=HW_0.out.cell 14 _ rfl
 rw [← HU.out] at t14
 have t15:=HW_0.out.cell 15 _ rfl
 rw [← HU.out] at t15
 have t16:=HW_0.out.cell 16 _ rfl
 rw [← HU.out] at t16
 have x4:=HX_0.out.cell 4 _ rfl
 rw [← HU.out] at x4
 have x9:=HX_0.out.cell 9 _ rfl
 rw [← HU.out] at x9
 rw [hd] at x9
 clear hd
 go_enter Tryz.func32,Tryz.ntmps32
 go_wp2_with fail
 rw [HU.out]
 refine (rCarried_at _ hi c s _ _ _ _ _ (HH.out.grown HG_0.out).refs HOK.out hl5 x.curr ov HO.out).mono ?_;rintro e w_1 ⟨rfl,g_1⟩
 clear t7 t8 t9 t10 t11 t12 t13 t14 t15 t16 x4 x9
 have HW_1:=Lib.hid (HW_0.out.grown g_1)
 have HX_1:=Lib.hid (HX_0.out.grown g_1)
 have HR0_1:=Lib.hid (HR0_0.out.grown g_1)
 have HR1_1:=Lib.hid (HR1_0.out.grown g_1)
 have HG_1:=Lib.hid (gtr HG_0.out g_1)
 clear g_1
 have x2:=HX_1.out.cell 2 (.int .i64 x.phase) rfl
 rw [hp] at x2
 have HP:=Lib.hid hp
 clear hp
 go_wp2_with (first | (refine load_box rfl 42 _ rfl w.heap.size rfl _ _ Tryz.underlying42 rfl (by kernel_rfl) HW_1.out ?_) | (refine load_box rfl 72 _ rfl (w.heap.size + 1) rfl _ _ Tryz.underlying72 rfl (by kernel_rfl) HX_1.out ?_) | fail)
 have hQ:=rLook0 _ hi c b q cap ws n s sl (HH.out.grown HG_1.out) HOK.out hl hl5 x q0 n0 n1 hw b0 b1 HP.out z HZ.out
 refine hQ.mono ?_;rintro e w_2 ⟨b2,cp2,rfl,g_2,hh2,ho2⟩
 clear hQ
 have HR0_2:=Lib.hid (HR0_1.out.grown g_2)
 have HR1_2:=Lib.hid (HR1_1.out.grown g_2)
 have HG_2:=Lib.hid (gtr HG_1.out g_2)
 have hlt9:=HR1_1.out.lt
 have HQ_2:=Lib.hid hh2
 clear g_2 hh2
 go_wp2_with (first | (refine store_box rfl 42 _ _ rfl (w.heap.size + 1 + 1) _ HR0_2.out _ rfl rfl rfl (by kernel_rfl) rfl ?_;intro w_3 B_ q_;have HE0:=Lib.hid B_;have QE0:=Lib.hid q_;have HR1_3:=Lib.hid (HR1_2.out.but q_ (by omega));clear B_ q_) | (refine store_box rfl 72 _ _ rfl (w.heap.size + 1 + 1 + 1) _ HR1_3.out _ rfl rfl rfl (by kernel_rfl) rfl ?_;intro w_4 B_ q_;have HE1:=Lib.hid B_;have QE1:=Lib.hid q_;have HE0_4:=Lib.hid (HE0.out.but q_ (by omega));clear B_ q_) | fail)
 have QE:But (fun i => i = (w.heap.size + 1 + 1) ∨ i = (w.heap.size + 1 + 1 + 1)) w_2 w_4:=(QE0.out.mono fun i hi => .inl hi).trans (QE1.out.mono fun i hi => .inr hi)
 exact bodyPost_ret (v:=.tuple #[.agg (RwL c b2 q cp2 z.n sl).toArray,.agg z.x.l.toArray]) (results_cc (ty:=42) (ty':=72) rfl rfl (load_run HE0_4.out 42 _ Tryz.underlying42 rfl (by kernel_rfl)) rfl (load_run HE1.out 72 _ Tryz.underlying72 rfl (by kernel_rfl))) rfl ⟨b2,cp2,rfl,But.fresh HG_2.out QE (fun i hi => by rcases hi with h | h <;> omega),HQ_2.out.but QE (by rintro (h | h) <;> omega),by omega⟩
set_option maxHeartbeats 8000000 in
theorem rStep1 (w:World) (hi:Nat) (c:Cf) (b q cap:Nat) (ws:List Int) (n:Int) (s:St) (sl:Sl) (h:RwAt w hi c b q ws s sl) (hok:c.Ok) (hl:s.ops.length ≤ 99999) (hl5:s.nodes.length ≤ 99999) (x:Wk) (q0:0 < q) (n0:0 ≤ n) (n1:n < 4611686018427387904) (hw:∀ i:Int,0 ≤ rd ws i ∧ rd ws i ≤ 18446744073709551615) (b0:0 ≤ x.next) (b1:x.next ≤ 18446744073709551615) (u0:-9223372036854775808 ≤ x.curr) (u1:x.curr ≤ 9223372036854775807) (hd:x.done = false) (hp:x.phase = 1) (z:Kd) (hz:stepK c s ⟨ws,n,x⟩ = z) :
  Calls Tryz.prog 32 #[.agg (RwL c b q cap n sl).toArray,.agg x.l.toArray] w fun e w' => RK c sl b q z w e w':=by
 obtain ⟨ov,hov⟩:∃ y,opK s x = y:=⟨_,rfl⟩
 have HO:Hid (carriedOf (lookI s.nodes x.curr) = ov):=Lib.hid hov
 have hzk:peeK c ⟨ws,n,x⟩ = z:=by rw [← hz];unfold stepK;simp [hd,hp]
 have HZ:=Lib.hid hzk
 clear hz hzk hov
 obtain ⟨u,hu,hg,b0,b1,b2,b3⟩:=vars4 w (RwL c b q cap n sl) x.l zWV zWk.l 42 72 42 72
 have HW_0:=Lib.hid b0
 have HX_0:=Lib.hid b1
 have HR0_0:=Lib.hid b2
 have HR1_0:=Lib.hid b3
 have HG_0:=Lib.hid hg
 have HH:=Lib.hid h
 have HOK:=Lib.hid hok
 obtain ⟨LW,hLW⟩:∃ L,RwL c b q cap n sl = L:=⟨_,rfl⟩
 obtain ⟨LX,hLX⟩:∃ L,x.l = L:=⟨_,rfl⟩
 rw [hLW,hLX] at hu ⊢
 simp only [zWk,Wk.l,zWV] at hu
 have HU:=Lib.hid hu
 have HLW:=Lib.hid hLW
 have HLX:=Lib.hid hLX
 clear hu hg b0 b1 b2 b3 h hok hLW hLX
 have hbl:b < w.heap.size:=World.block_lt_of_cell? w _ (HH.out.holds 0 (by rw [HH.out.len];exact q0))
 have t7:=HW_0.out.cell 7 _ rfl
 rw [← HU.out] at t7
 have t8:=HW_0.out.cell 8 _ rfl
 rw [← HU.out] at t8
 have t9:=HW_0.out.cell 9 _ rfl
 rw [← HU.out] at t9
 have t10:=HW_0.out.cell 10 _ rfl
 rw [← HU.out] at t10
 have t11:=HW_0.out.cell 11 _ rfl
 rw [← HU.out] at t11
 have t12:=HW_0.out.cell 12 _ rfl
 rw [← HU.out] at t12
 have t13:=HW_0.out.cell 13 _ rfl
 rw [← HU.out] at t13
 have t14:=HW_0.out.cell 14 _ rfl
 rw [← HU.out] at t14
 have t15:=HW_0.out.cell 15 _ rfl
 rw [← HU.out] at t15
 have t16:=HW_0.out.cell 16 _ rfl
 rw [← HU.out] at t16
 have x4:=HX_0.out.cell 4 _ rfl
 rw [← HU.out] at x4
 have x9:=HX_0.out.cell 9 _ rfl
 rw [← HU.out] at x9
 rw [hd] at x9
 clear hd
 go_enter Tryz.func32,Tryz.ntmps32
 go_wp2_with fail
 rw [HU.out]
 refine (rCarried_at _ hi c s _ _ _ _ _ (HH.out.grown HG_0.out).refs HOK.out hl5 x.curr ov HO.out).mono ?_;rintro e w_1 ⟨rfl,g_1⟩
 clear t7 t8 t9 t10 t11 t12 t13 t14 t15 t16 x4 x9
 have HW_1:=Lib.hid (HW_0.out.grown g_1)
 have HX_1:=Lib.hid (HX_0.out.grown g_1)
 have HR0_1:=Lib.hid (HR0_0.out.grown g_1)
 have HR1_1:=Lib.hid (HR1_0.out.grown g_1)
 have HG_1:=Lib.hid (gtr HG_0.out g_1)
 clear g_1
 have x2:=HX_1.out.cell 2 (.int .i64 x.phase) rfl
 rw [hp] at x2
 have HP:=Lib.hid hp
 clear hp
 go_wp2_with (first | (refine load_box rfl 42 _ rfl w.heap.size rfl _ _ Tryz.underlying42 rfl (by kernel_rfl) HW_1.out ?_) | (refine load_box rfl 72 _ rfl (w.heap.size + 1) rfl _ _ Tryz.underlying72 rfl (by kernel_rfl) HX_1.out ?_) | fail)
 have hQ:=rLook1 _ hi c b q cap ws n s sl (HH.out.grown HG_1.out) HOK.out hl hl5 x q0 n0 n1 hw b0 b1 HP.out z HZ.out
 refine hQ.mono ?_;rintro e w_2 ⟨b2,cp2,rfl,g_2,hh2,ho2⟩
 clear hQ
 have HR0_2:=Lib.hid (HR0_1.out.grown g_2)
 have HR1_2:=Lib.hid (HR1_1.out.grown g_2)
 have HG_2:=Lib.hid (gtr HG_1.out g_2)
 have hlt9:=HR1_1.out.lt
 have HQ_2:=Lib.hid hh2
 clear g_2 hh2
 go_wp2_with (first | (refine store_box rfl 42 _ _ rfl (w.heap.size + 1 + 1) _ HR0_2.out _ rfl rfl rfl (by kernel_rfl) rfl ?_;intro w_3 B_ q_;have HE0:=Lib.hid B_;have QE0:=Lib.hid q_;have HR1_3:=Lib.hid (HR1_2.out.but q_ (by omega));clear B_ q_) | (refine store_box rfl 72 _ _ rfl (w.heap.size + 1 + 1 + 1) _ HR1_3.out _ rfl rfl rfl (by kernel_rfl) rfl ?_;intro w_4 B_ q_;have HE1:=Lib.hid B_;have QE1:=Lib.hid q_;have HE0_4:=Lib.hid (HE0.out.but q_ (by omega));clear B_ q_) | fail)
 have QE:But (fun i => i = (w.heap.size + 1 + 1) ∨ i = (w.heap.size + 1 + 1 + 1)) w_2 w_4:=(QE0.out.mono fun i hi => .inl hi).trans (QE1.out.mono fun i hi => .inr hi)
 exact bodyPost_ret (v:=.tuple #[.agg (RwL c b2 q cp2 z.n sl).toArray,.agg z.x.l.toArray]) (results_cc (ty:=42) (ty':=72) rfl rfl (load_run HE0_4.out 42 _ Tryz.underlying42 rfl (by kernel_rfl)) rfl (load_run HE1.out 72 _ Tryz.underlying72 rfl (by kernel_rfl))) rfl ⟨b2,cp2,rfl,But.fresh HG_2.out QE (fun i hi => by rcases hi with h | h <;> omega),HQ_2.out.but QE (by rintro (h | h) <;> omega),by omega⟩
set_option maxHeartbeats 8000000 in
theorem rStep3 (w:World) (hi:Nat) (c:Cf) (b q cap:Nat) (ws:List Int) (n:Int) (s:St) (sl:Sl) (h:RwAt w hi c b q ws s sl) (hok:c.Ok) (hl:s.ops.length ≤ 99999) (hl5:s.nodes.length ≤ 99999) (x:Wk) (q0:0 < q) (n0:0 ≤ n) (n1:n < 4611686018427387904) (hw:∀ i:Int,0 ≤ rd ws i ∧ rd ws i ≤ 18446744073709551615) (b0:0 ≤ x.next) (b1:x.next ≤ 18446744073709551615) (u0:-9223372036854775808 ≤ x.curr) (u1:x.curr ≤ 9223372036854775807) (hd:x.done = false) (hp:x.phase = 3) (z:Kd) (hz:stepK c s ⟨ws,n,x⟩ = z) :
  Calls Tryz.prog 32 #[.agg (RwL c b q cap n sl).toArray,.agg x.l.toArray] w fun e w' => RK c sl b q z w e w':=by
 obtain ⟨ov,hov⟩:∃ y,opK s x = y:=⟨_,rfl⟩
 have HO:Hid (carriedOf (lookI s.nodes x.curr) = ov):=Lib.hid hov
 have hzk:jdgK c s ⟨ws,n,x⟩ = z:=by rw [← hz];unfold stepK;simp [hd,hp]
 have HZ:=Lib.hid hzk
 clear hz hzk hov
 obtain ⟨u,hu,hg,b0,b1,b2,b3⟩:=vars4 w (RwL c b q cap n sl) x.l zWV zWk.l 42 72 42 72
 have HW_0:=Lib.hid b0
 have HX_0:=Lib.hid b1
 have HR0_0:=Lib.hid b2
 have HR1_0:=Lib.hid b3
 have HG_0:=Lib.hid hg
 have HH:=Lib.hid h
 have HOK:=Lib.hid hok
 obtain ⟨LW,hLW⟩:∃ L,RwL c b q cap n sl = L:=⟨_,rfl⟩
 obtain ⟨LX,hLX⟩:∃ L,x.l = L:=⟨_,rfl⟩
 rw [hLW,hLX] at hu ⊢
 simp only [zWk,Wk.l,zWV] at hu
 have HU:=Lib.hid hu
 have HLW:=Lib.hid hLW
 have HLX:=Lib.hid hLX
 clear hu hg b0 b1 b2 b3 h hok hLW hLX
 have hbl:b < w.heap.size:=World.block_lt_of_cell? w _ (HH.out.holds 0 (by rw [HH.out.len];exact q0))
 have t7:=HW_0.out.cell 7 _ rfl
 rw [← HU.out] at t7
 have t8:=HW_0.out.cell 8 _ rfl
 rw [← HU.out] at t8
 have t9:=HW_0.out.cell 9 _ rfl
 rw [← HU.out] at t9
 have t10:=HW_0.out.cell 10 _ rfl
 rw [← HU.out] at t10
 have t11:=HW_0.out.cell 11 _ rfl
 rw [← HU.out] at t11
 have t12:=HW_0.out.cell 12 _ rfl
 rw [← HU.out] at t12
 have t13:=HW_0.out.cell 13 _ rfl
 rw [← HU.out] at t13
 have t14:=HW_0.out.cell 14 _ rfl
 rw [← HU.out] at t14
 have t15:=HW_0.out.cell 15 _ rfl
 rw [← HU.out] at t15
 have t16:=HW_0.out.cell 16 _ rfl
 rw [← HU.out] at t16
 have x4:=HX_0.out.cell 4 _ rfl
 rw [← HU.out] at x4
 have x9:=HX_0.out.cell 9 _ rfl
 rw [← HU.out] at x9
 rw [hd] at x9
 clear hd
 go_enter Tryz.func32,Tryz.ntmps32
 go_wp2_with fail
 rw [HU.out]
 refine (rCarried_at _ hi c s _ _ _ _ _ (HH.out.grown HG_0.out).refs HOK.out hl5 x.curr ov HO.out).mono ?_;rintro e w_1 ⟨rfl,g_1⟩
 clear t7 t8 t9 t10 t11 t12 t13 t14 t15 t16 x4 x9
 have HW_1:=Lib.hid (HW_0.out.grown g_1)
 have HX_1:=Lib.hid (HX_0.out.grown g_1)
 have HR0_1:=Lib.hid (HR0_0.out.grown g_1)
 have HR1_1:=Lib.hid (HR1_0.out.grown g_1)
 have HG_1:=Lib.hid (gtr HG_0.out g_1)
 clear g_1
 have x2:=HX_1.out.cell 2 (.int .i64 x.phase) rfl
 rw [hp] at x2
 have HP:=Lib.hid hp
 clear hp
 go_wp2_with (first | (refine load_box rfl 42 _ rfl w.heap.size rfl _ _ Tryz.underlying42 rfl (by kernel_rfl) HW_1.out ?_) | (refine load_box rfl 72 _ rfl (w.heap.size + 1) rfl _ _ Tryz.underlying72 rfl (by kernel_rfl) HX_1.out ?_) | fail)
 have hQ:=rLook3 _ hi c b q cap ws n s sl (HH.out.grown HG_1.out) HOK.out hl hl5 x q0 n0 n1 hw b0 b1 HP.out z HZ.out
 refine hQ.mono ?_;rintro e w_2 ⟨b2,cp2,rfl,g_2,hh2,ho2⟩
 clear hQ
 have HR0_2:=Lib.hid (HR0_1.out.grown g_2)
 have HR1_2:=Lib.hid (HR1_1.out.grown g_2)
 have HG_2:=Lib.hid (gtr HG_1.out g_2)
 have hlt9:=HR1_1.out.lt
 have HQ_2:=Lib.hid hh2
 clear g_2 hh2
 go_wp2_with (first | (refine store_box rfl 42 _ _ rfl (w.heap.size + 1 + 1) _ HR0_2.out _ rfl rfl rfl (by kernel_rfl) rfl ?_;intro w_3 B_ q_;have HE0:=Lib.hid B_;have QE0:=Lib.hid q_;have HR1_3:=Lib.hid (HR1_2.out.but q_ (by omega));clear B_ q_) | (refine store_box rfl 72 _ _ rfl (w.heap.size + 1 + 1 + 1) _ HR1_3.out _ rfl rfl rfl (by kernel_rfl) rfl ?_;intro w_4 B_ q_;have HE1:=Lib.hid B_;have QE1:=Lib.hid q_;have HE0_4:=Lib.hid (HE0.out.but q_ (by omega));clear B_ q_) | fail)
 have QE:But (fun i => i = (w.heap.size + 1 + 1) ∨ i = (w.heap.size + 1 + 1 + 1)) w_2 w_4:=(QE0.out.mono fun i hi => .inl hi).trans (QE1.out.mono fun i hi => .inr hi)
 exact bodyPost_ret (v:=.tuple #[.agg (RwL c b2 q cp2 z.n sl).toArray,.agg z.x.l.toArray]) (results_cc (ty:=42) (ty':=72) rfl rfl (load_run HE0_4.out 42 _ Tryz.underlying42 rfl (by kernel_rfl)) rfl (load_run HE1.out 72 _ Tryz.underlying72 rfl (by kernel_rfl))) rfl ⟨b2,cp2,rfl,But.fresh HG_2.out QE (fun i hi => by rcases hi with h | h <;> omega),HQ_2.out.but QE (by rintro (h | h) <;> omega),by omega⟩
set_option maxHeartbeats 8000000 in
theorem rStep2 (w:World) (hi:Nat) (c:Cf) (b q cap:Nat) (ws:List Int) (n:Int) (s:St) (sl:Sl) (h:RwAt w hi c b q ws s sl) (hok:c.Ok) (hl:s.ops.length ≤ 99999) (hl5:s.nodes.length ≤ 99999) (x:Wk) (q0:0 < q) (n0:0 ≤ n) (n1:n < 4611686018427387904) (hw:∀ i:Int,0 ≤ rd ws i ∧ rd ws i ≤ 18446744073709551615) (b0:0 ≤ x.next) (b1:x.next ≤ 18446744073709551615) (u0:-9223372036854775808 ≤ x.curr) (u1:x.curr ≤ 9223372036854775807) (hd:x.done = false) (hp:x.phase = 2) (z:Kd) (hz:stepK c s ⟨ws,n,x⟩ = z) :
  Calls Tryz.prog 32 #[.agg (RwL c b q cap n sl).toArray,.agg x.l.toArray] w fun e w' => RK c sl b q z w e w':=by
 obtain ⟨ov,hov⟩:∃ y,opK s x = y:=⟨_,rfl⟩
 have HO:Hid (carriedOf (lookI s.nodes x.curr) = ov):=Lib.hid hov
 have hzk:unlK c s ⟨ws,n,x⟩ = z:=by rw [← hz];unfold stepK;simp [hd,hp]
 have HZ:=Lib.hid hzk
 clear hz hzk hov
 obtain ⟨u,hu,hg,b0,b1,b2,b3⟩:=vars4 w (RwL c b q cap n sl) x.l zWV zWk.l 42 72 42 72
 have HW_0:=Lib.hid b0
 have HX_0:=Lib.hid b1
 have HR0_0:=Lib.hid b2
 have HR1_0:=Lib.hid b3
 have HG_0:=Lib.hid hg
 have HH:=Lib.hid h
 have HOK:=Lib.hid hok
 obtain ⟨LW,hLW⟩:∃ L,RwL c b q cap n sl = L:=⟨_,rfl⟩
 obtain ⟨LX,hLX⟩:∃ L,x.l = L:=⟨_,rfl⟩
 rw [hLW,hLX] at hu ⊢
 simp only [zWk,Wk.l,zWV] at hu
 have HU:=Lib.hid hu
 have HLW:=Lib.hid hLW
 have HLX:=Lib.hid hLX
 clear hu hg b0 b1 b2 b3 h hok hLW hLX
 have hbl:b < w.heap.size:=World.block_lt_of_cell? w _ (HH.out.holds 0 (by rw [HH.out.len];exact q0))
 have t7:=HW_0.out.cell 7 _ rfl
 rw [← HU.out] at t7
 have t8:=HW_0.out.cell 8 _ rfl
 rw [← HU.out] at t8
 have t9:=HW_0.out.cell 9 _ rfl
 rw [← HU.out] at t9
 have t10:=HW_0.out.cell 10 _ rfl
 rw [← HU.out] at t10
 have t11:=HW_0.out.cell 11 _ rfl
 rw [← HU.out] at t11
 have t12:=HW_0.out.cell 12 _ rfl
 rw [← HU.out] at t12
 have t13:=HW_0.out.cell 13 _ rfl
 rw [← HU.out] at t13
 have t14:=HW_0.out.cell 14 _ rfl
 rw [← HU.out] at t14
 have t15:=HW_0.out.cell 15 _ rfl
 rw [← HU.out] at t15
 have t16:=HW_0.out.cell 16 _ rfl
 rw [← HU.out] at t16
 have x4:=HX_0.out.cell 4 _ rfl
 rw [← HU.out] at x4
 have x9:=HX_0.out.cell 9 _ rfl
 rw [← HU.out] at x9
 rw [hd] at x9
 clear hd
 go_enter Tryz.func32,Tryz.ntmps32
 go_wp2_with fail
 rw [HU.out]
 refine (rCarried_at _ hi c s _ _ _ _ _ (HH.out.grown HG_0.out).refs HOK.out hl5 x.curr ov HO.out).mono ?_;rintro e w_1 ⟨rfl,g_1⟩
 clear t7 t8 t9 t10 t11 t12 t13 t14 t15 t16 x4 x9
 have HW_1:=Lib.hid (HW_0.out.grown g_1)
 have HX_1:=Lib.hid (HX_0.out.grown g_1)
 have HR0_1:=Lib.hid (HR0_0.out.grown g_1)
 have HR1_1:=Lib.hid (HR1_0.out.grown g_1)
 have HG_1:=Lib.hid (gtr HG_0.out g_1)
 clear g_1
 have x2:=HX_1.out.cell 2 (.int .i64 x.phase) rfl
 rw [hp] at x2
 have HP:=Lib.hid hp
 clear hp
 go_wp2_with (first | (refine load_box rfl 42 _ rfl w.heap.size rfl _ _ Tryz.underlying42 rfl (by kernel_rfl) HW_1.out ?_) | (refine load_box rfl 72 _ rfl (w.heap.size + 1) rfl _ _ Tryz.underlying72 rfl (by kernel_rfl) HX_1.out ?_) | fail)
 have hQ:=rUnlink _ hi c b q cap ws n s sl (HH.out.grown HG_1.out) HOK.out hl hl5 x q0 n0 n1 hw b0 b1 u0 u1 z HZ.out
 refine hQ.mono ?_;rintro e w_2 ⟨b2,cp2,rfl,g_2,hh2,ho2⟩
 clear hQ
 have HR0_2:=Lib.hid (HR0_1.out.grown g_2)
 have HR1_2:=Lib.hid (HR1_1.out.grown g_2)
 have HG_2:=Lib.hid (gtr HG_1.out g_2)
 have hlt9:=HR1_1.out.lt
 have HQ_2:=Lib.hid hh2
 clear g_2 hh2
 go_wp2_with (first | (refine store_box rfl 42 _ _ rfl (w.heap.size + 1 + 1) _ HR0_2.out _ rfl rfl rfl (by kernel_rfl) rfl ?_;intro w_3 B_ q_;have HE0:=Lib.hid B_;have QE0:=Lib.hid q_;have HR1_3:=Lib.hid (HR1_2.out.but q_ (by omega));clear B_ q_) | (refine store_box rfl 72 _ _ rfl (w.heap.size + 1 + 1 + 1) _ HR1_3.out _ rfl rfl rfl (by kernel_rfl) rfl ?_;intro w_4 B_ q_;have HE1:=Lib.hid B_;have QE1:=Lib.hid q_;have HE0_4:=Lib.hid (HE0.out.but q_ (by omega));clear B_ q_) | fail)
 have QE:But (fun i => i = (w.heap.size + 1 + 1) ∨ i = (w.heap.size + 1 + 1 + 1)) w_2 w_4:=(QE0.out.mono fun i hi => .inl hi).trans (QE1.out.mono fun i hi => .inr hi)
 exact bodyPost_ret (v:=.tuple #[.agg (RwL c b2 q cp2 z.n sl).toArray,.agg z.x.l.toArray]) (results_cc (ty:=42) (ty':=72) rfl rfl (load_run HE0_4.out 42 _ Tryz.underlying42 rfl (by kernel_rfl)) rfl (load_run HE1.out 72 _ Tryz.underlying72 rfl (by kernel_rfl))) rfl ⟨b2,cp2,rfl,But.fresh HG_2.out QE (fun i hi => by rcases hi with h | h <;> omega),HQ_2.out.but QE (by rintro (h | h) <;> omega),by omega⟩
end Go.Proofs.YtmokcgifknmchaaGreat
