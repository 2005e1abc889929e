/- The document's walk (corrieref10): New, arrive, advance, judge. -/
import Derived.Test.YtmokcgifknmchaaGreatMRS
import Derived.Test.YtmokcgifknmchaaGreatWalkS
import Derived.Test.YtmokcgifknmchaaGreatQBox
import Derived.Test.YtmokcgifknmchaaGreatMRefW
import Derived.Test.YtmokcgifknmchaaGreatMRef
namespace Go.Proofs.YtmokcgifknmchaaGreat
open Go.ChangeShapes Go.WideShapes Go.ChangeAt Go.RowKit
set_option maxRecDepth 100000
set_option linter.unusedVariables false
theorem vars3 (w:World) (l1 l2 l3:List Value) (t1 t2 t3:TypeId):∃ u,((w.alloc (.cells l1.toArray t1)).alloc (.cells l2.toArray t2)).alloc (.cells l3.toArray t3) = u ∧ Grown w u ∧ Box u w.heap.size l1 ∧ Box u (w.heap.size + 1) l2 ∧ Box u (w.heap.size + 1 + 1) l3:=by
 have g1:Grown w (w.alloc (.cells l1.toArray t1)):=by go_grown
 have g2:Grown (w.alloc (.cells l1.toArray t1)) ((w.alloc (.cells l1.toArray t1)).alloc (.cells l2.toArray t2)):=by go_grown
 have g3:Grown ((w.alloc (.cells l1.toArray t1)).alloc (.cells l2.toArray t2)) (((w.alloc (.cells l1.toArray t1)).alloc (.cells l2.toArray t2)).alloc (.cells l3.toArray t3)):=by go_grown
 have e1:(w.alloc (.cells l1.toArray t1)).heap.size = w.heap.size + 1:=by simp
 have e2:((w.alloc (.cells l1.toArray t1)).alloc (.cells l2.toArray t2)).heap.size = w.heap.size + 1 + 1:=by simp
 refine ⟨_,rfl,gtr g1 (gtr g2 g3),(Box.made w l1 t1).grown (gtr g2 g3),?_,?_⟩
 ·have:=(Box.made (w.alloc (.cells l1.toArray t1)) l2 t2).grown g3
  rwa [e1] at this
 ·have:=Box.made ((w.alloc (.cells l1.toArray t1)).alloc (.cells l2.toArray t2)) l3 t3
  rwa [e2] at this
theorem vars4 (w:World) (l1 l2 l3 l4:List Value) (t1 t2 t3 t4:TypeId):∃ u,(((w.alloc (.cells l1.toArray t1)).alloc (.cells l2.toArray t2)).alloc (.cells l3.toArray t3)).alloc (.cells l4.toArray t4) = u ∧ Grown w u ∧ Box u w.heap.size l1 ∧ Box u (w.heap.size + 1) l2 ∧ Box u (w.heap.size + 1 + 1) l3 ∧ Box u (w.heap.size + 1 + 1 + 1) l4:=by
 obtain ⟨v,hv,g,b1,b2,b3⟩:=vars3 w l1 l2 l3 t1 t2 t3
 have e3:v.heap.size = w.heap.size + 1 + 1 + 1:=by rw [← hv];simp
 have g4:Grown v (v.alloc (.cells l4.toArray t4)):=by go_grown
 refine ⟨_,rfl,?_⟩
 rw [hv]
 refine ⟨gtr g g4,b1.grown g4,b2.grown g4,b3.grown g4,?_⟩
 have:=Box.made v l4 t4
 rwa [e3] at this
theorem results_cc {P:Program} {fn:Func} {tmps:Array Value} {w:World} {t b t' b':Nat} {ty ty':TypeId} {l l':List Value} (hf:fn.results = #[.cell t ty,.cell t' ty']) (ht:tmps.getD t undef = .pointer (some ⟨b,0,none⟩)) (hl:(loadVar ty ⟨b,0,none⟩).run P w = .ok (.agg l.toArray) w)
  (ht2:tmps.getD t' undef = .pointer (some ⟨b',0,none⟩)) (hl2:(loadVar ty' ⟨b',0,none⟩).run P w = .ok (.agg l'.toArray) w) :
  (results fn tmps).run P w = .ok (.tuple #[.agg l.toArray,.agg l'.toArray]) w:=by
 have h1:tmps[t]?.getD undef = .pointer (some ⟨b,0,none⟩):=by simpa using ht
 have h2:tmps[t']?.getD undef = .pointer (some ⟨b',0,none⟩):=by simpa using ht2
 simp [results,hf,h1,h2,asAddr,hl,hl2]
def arrA (s:St) (x:Wk):Wk:=if x.curr = 0 ∨ x.key < keyOf_ s x.curr then { x with done:=true } else { x with phase:=1 }
theorem rNew10 (w:World) (key mode:Int):Calls Tryz.prog 29 #[.int .u64 key,.int .i64 mode] w fun e w' => e = .returned (.agg (newK key mode).l.toArray) ∧ Grown w w':=by
 go_enter Tryz.func29,Tryz.ntmps29
 go_wp2_with fail
 have g:Grown w (w.alloc (.cells (newK key mode).l.toArray 72)):=by go_grown
 exact bodyPost_ret (v:=.agg (newK key mode).l.toArray) (results_c (ty:=72) rfl rfl (load_run (Box.made w (newK key mode).l 72) 72 _ Tryz.underlying72 rfl (by kernel_rfl))) rfl ⟨rfl,g⟩
set_option maxHeartbeats 4000000 in
theorem rArrive (w:World) (hi:Nat) (c:Cf) (b q cap:Nat) (ws:List Int) (n:Int) (s:St) (sl:Sl) (h:RwAt w hi c b q ws s sl) (hok:c.Ok) (hl:s.ops.length ≤ 99999) (hl5:s.nodes.length ≤ 99999) (x:Wk) (z:Wk) (hz:arrA s x = z) :
  Calls Tryz.prog 164 #[.agg (RwL c b q cap n sl).toArray,.agg x.l.toArray] w fun e w' => e = .returned (.agg z.l.toArray) ∧ Grown w w':=by
 obtain ⟨kv,hk⟩:∃ k,keyOf_ s x.curr = k:=⟨_,rfl⟩
 have HK:=Lib.hid hk
 have hz':(if x.curr = 0 ∨ x.key < kv then { x with done:=true } else { x with phase:=1 }:Wk) = z:=by rw [← hz,← hk];rfl
 clear hz hk
 obtain ⟨u,hu,hg,b0,b1,b2⟩:=vars3 w (RwL c b q cap n sl) x.l zWk.l 42 72 72
 have HW_0:=Lib.hid b0
 have HX_0:=Lib.hid b1
 have HR0_0:=Lib.hid b2
 have HG_0:=Lib.hid hg
 have HH:=Lib.hid h
 have HOK:=Lib.hid hok
 obtain ⟨LW,hLW⟩:∃ L,RwL c b q cap n sl = L:=⟨_,rfl⟩
 obtain ⟨LX,hLX⟩:∃ L,x.l = L:=⟨_,rfl⟩
 rw [hLW,hLX] at hu ⊢
 simp only [zWk,Wk.l] at hu
 have HU:=Lib.hid hu
 have HLW:=Lib.hid hLW
 have HLX:=Lib.hid hLX
 clear hu hg b0 b1 b2 h hok hLW hLX
 by_cases h0:x.curr = 0
 ·have HZ:Hid (({ x with done:=true }:Wk) = z):=Lib.hid (by rw [← hz',if_pos (.inl h0)])
  have hb:(x.curr == 0) = true:=by simpa using h0
  have hd:decide (x.curr = 0) = true:=by simpa using h0
  clear hz' h0
  go_enter Tryz.func164,Tryz.ntmps164
  go_wp2_with fail
  rw [HU.out]
  have t7:∀ g:GrW u,g.w.cell? ⟨w.heap.size,7,none⟩ = some (.int .i64 c.t):=GrW.cell (HW_0.out.cell 7 _ rfl)
  have t8:∀ g:GrW u,g.w.cell? ⟨w.heap.size,8,none⟩ = some (.int .i64 c.b):=GrW.cell (HW_0.out.cell 8 _ rfl)
  have t9:∀ g:GrW u,g.w.cell? ⟨w.heap.size,9,none⟩ = some (.int .i64 c.i):=GrW.cell (HW_0.out.cell 9 _ rfl)
  have t10:∀ g:GrW u,g.w.cell? ⟨w.heap.size,10,none⟩ = some (.int .i64 c.f):=GrW.cell (HW_0.out.cell 10 _ rfl)
  have t11:∀ g:GrW u,g.w.cell? ⟨w.heap.size,11,none⟩ = some (.int .i64 c.k):=GrW.cell (HW_0.out.cell 11 _ rfl)
  have t12:∀ g:GrW u,g.w.cell? ⟨w.heap.size,12,none⟩ = some (.slice sl.a1 sl.m1 sl.k1):=GrW.cell (HW_0.out.cell 12 _ rfl)
  have t13:∀ g:GrW u,g.w.cell? ⟨w.heap.size,13,none⟩ = some (.slice sl.a2 sl.m2 sl.k2):=GrW.cell (HW_0.out.cell 13 _ rfl)
  have t14:∀ g:GrW u,g.w.cell? ⟨w.heap.size,14,none⟩ = some (.slice sl.a3 sl.m3 sl.k3):=GrW.cell (HW_0.out.cell 14 _ rfl)
  have t15:∀ g:GrW u,g.w.cell? ⟨w.heap.size,15,none⟩ = some (.slice sl.a4 sl.m4 sl.k4):=GrW.cell (HW_0.out.cell 15 _ rfl)
  have t16:∀ g:GrW u,g.w.cell? ⟨w.heap.size,16,none⟩ = some (.slice sl.a5 sl.m5 sl.k5):=GrW.cell (HW_0.out.cell 16 _ rfl)
  have x0:∀ g:GrW u,g.w.cell? ⟨(w.heap.size + 1),0,none⟩ = some (.int .u64 x.key):=GrW.cell (HX_0.out.cell 0 _ rfl)
  have x4:∀ g:GrW u,g.w.cell? ⟨(w.heap.size + 1),4,none⟩ = some (.int .i64 x.curr):=GrW.cell (HX_0.out.cell 4 _ rfl)
  refine wp_region_grow (by kernel_rfl) (by kernel_rfl) ?_
  repeat (go_big_quiet_step ((go_at_call 214;exact grcall (rKey_at _ hi c s _ _ _ _ _ (HH.out.grown (gtr HG_0.out (GrW.gr _))).refs HOK.out hl hl5 x.curr kv HK.out))))
  refine wpQuiet_nil ?_
  rintro w_1 ⟨⟨_,g_1⟩,rfl⟩
  have HW_1:=Lib.hid (HW_0.out.grown g_1)
  have HX_1:=Lib.hid (HX_0.out.grown g_1)
  have HR0_1:=Lib.hid (HR0_0.out.grown g_1)
  have HG_1:=Lib.hid (gtr HG_0.out g_1)
  clear g_1 t7 t8 t9 t10 t11 t12 t13 t14 t15 t16 x0 x4
  go_wp2_with (first | (refine store_cell rfl 4 _ _ rfl (w.heap.size + 1) 9 rfl (.bool true) rfl rfl (x:Wk).l ({ x with done:=true }:Wk).l HX_1.out (Nat.le_of_ble_eq_true rfl) (by kernel_rfl) rfl ?_;intro w_2 B_ q_;have HX_2:=Lib.hid B_;have HW_2:=Lib.hid (HW_1.out.but q_ (by omega));have HR0_2:=Lib.hid (HR0_1.out.but q_ (by omega));have HG_2:Hid (Grown w w_2):=Lib.hid (But.fresh HG_1.out q_ (fun i hi => by omega));clear B_ q_) | (refine load_box rfl 72 _ rfl (w.heap.size + 1) rfl _ _ Tryz.underlying72 rfl (by kernel_rfl) HX_2.out ?_) | (refine store_box rfl 72 _ _ rfl (w.heap.size + 1 + 1) _ HR0_2.out _ rfl rfl rfl (by kernel_rfl) rfl ?_;intro w_3 B_ q_;have HE:=Lib.hid B_;have QE:=Lib.hid q_;clear B_ q_) | fail)
  exact bodyPost_ret (v:=.agg ({ x with done:=true }:Wk).l.toArray) (results_c (ty:=72) rfl rfl (load_run HE.out 72 _ Tryz.underlying72 rfl (by kernel_rfl))) rfl ⟨by rw [← HZ.out],But.fresh HG_2.out QE.out (fun i hi => by omega)⟩
 ·have hb:(x.curr == 0) = false:=by simpa using h0
  have hd:decide (x.curr = 0) = false:=by simpa using h0
  by_cases hg:x.key < kv
  ·have HZ:Hid (({ x with done:=true }:Wk) = z):=Lib.hid (by rw [← hz',if_pos (.inr hg)])
   have hgd:decide (x.key < kv) = true:=by simpa using hg
   clear hz' h0
   go_enter Tryz.func164,Tryz.ntmps164
   go_wp2_with fail
   rw [HU.out]
   have t7:∀ g:GrW u,g.w.cell? ⟨w.heap.size,7,none⟩ = some (.int .i64 c.t):=GrW.cell (HW_0.out.cell 7 _ rfl)
   have t8:∀ g:GrW u,g.w.cell? ⟨w.heap.size,8,none⟩ = some (.int .i64 c.b):=GrW.cell (HW_0.out.cell 8 _ rfl)
   have t9:∀ g:GrW u,g.w.cell? ⟨w.heap.size,9,none⟩ = some (.int .i64 c.i):=GrW.cell (HW_0.out.cell 9 _ rfl)
   have t10:∀ g:GrW u,g.w.cell? ⟨w.heap.size,10,none⟩ = some (.int .i64 c.f):=GrW.cell (HW_0.out.cell 10 _ rfl)
   have t11:∀ g:GrW u,g.w.cell? ⟨w.heap.size,11,none⟩ = some (.int .i64 c.k):=GrW.cell (HW_0.out.cell 11 _ rfl)
   have t12:∀ g:GrW u,g.w.cell? ⟨w.heap.size,12,none⟩ = some (.slice sl.a1 sl.m1 sl.k1):=GrW.cell (HW_0.out.cell 12 _ rfl)
   have t13:∀ g:GrW u,g.w.cell? ⟨w.heap.size,13,none⟩ = some (.slice sl.a2 sl.m2 sl.k2):=GrW.cell (HW_0.out.cell 13 _ rfl)
   have t14:∀ g:GrW u,g.w.cell? ⟨w.heap.size,14,none⟩ = some (.slice sl.a3 sl.m3 sl.k3):=GrW.cell (HW_0.out.cell 14 _ rfl)
   have t15:∀ g:GrW u,g.w.cell? ⟨w.heap.size,15,none⟩ = some (.slice sl.a4 sl.m4 sl.k4):=GrW.cell (HW_0.out.cell 15 _ rfl)
   have t16:∀ g:GrW u,g.w.cell? ⟨w.heap.size,16,none⟩ = some (.slice sl.a5 sl.m5 sl.k5):=GrW.cell (HW_0.out.cell 16 _ rfl)
   have x0:∀ g:GrW u,g.w.cell? ⟨(w.heap.size + 1),0,none⟩ = some (.int .u64 x.key):=GrW.cell (HX_0.out.cell 0 _ rfl)
   have x4:∀ g:GrW u,g.w.cell? ⟨(w.heap.size + 1),4,none⟩ = some (.int .i64 x.curr):=GrW.cell (HX_0.out.cell 4 _ rfl)
   refine wp_region_grow (by kernel_rfl) (by kernel_rfl) ?_
   repeat (go_big_quiet_step ((go_at_call 214;exact grcall (rKey_at _ hi c s _ _ _ _ _ (HH.out.grown (gtr HG_0.out (GrW.gr _))).refs HOK.out hl hl5 x.curr kv HK.out))))
   refine wpQuiet_nil ?_
   rintro w_1 ⟨⟨_,g_1⟩,rfl⟩
   have HW_1:=Lib.hid (HW_0.out.grown g_1)
   have HX_1:=Lib.hid (HX_0.out.grown g_1)
   have HR0_1:=Lib.hid (HR0_0.out.grown g_1)
   have HG_1:=Lib.hid (gtr HG_0.out g_1)
   clear g_1 t7 t8 t9 t10 t11 t12 t13 t14 t15 t16 x0 x4
   go_wp2_with (first | (refine store_cell rfl 4 _ _ rfl (w.heap.size + 1) 9 rfl (.bool true) rfl rfl (x:Wk).l ({ x with done:=true }:Wk).l HX_1.out (Nat.le_of_ble_eq_true rfl) (by kernel_rfl) rfl ?_;intro w_2 B_ q_;have HX_2:=Lib.hid B_;have HW_2:=Lib.hid (HW_1.out.but q_ (by omega));have HR0_2:=Lib.hid (HR0_1.out.but q_ (by omega));have HG_2:Hid (Grown w w_2):=Lib.hid (But.fresh HG_1.out q_ (fun i hi => by omega));clear B_ q_) | (refine load_box rfl 72 _ rfl (w.heap.size + 1) rfl _ _ Tryz.underlying72 rfl (by kernel_rfl) HX_2.out ?_) | (refine store_box rfl 72 _ _ rfl (w.heap.size + 1 + 1) _ HR0_2.out _ rfl rfl rfl (by kernel_rfl) rfl ?_;intro w_3 B_ q_;have HE:=Lib.hid B_;have QE:=Lib.hid q_;clear B_ q_) | fail)
   exact bodyPost_ret (v:=.agg ({ x with done:=true }:Wk).l.toArray) (results_c (ty:=72) rfl rfl (load_run HE.out 72 _ Tryz.underlying72 rfl (by kernel_rfl))) rfl ⟨by rw [← HZ.out],But.fresh HG_2.out QE.out (fun i hi => by omega)⟩
  ·have HZ:Hid (({ x with phase:=1 }:Wk) = z):=Lib.hid (by rw [← hz',if_neg (by rintro (h | h);exact h0 h;exact hg h)])
   have hgd:decide (x.key < kv) = false:=by simpa using hg
   clear hz' h0
   go_enter Tryz.func164,Tryz.ntmps164
   go_wp2_with fail
   rw [HU.out]
   have t7:∀ g:GrW u,g.w.cell? ⟨w.heap.size,7,none⟩ = some (.int .i64 c.t):=GrW.cell (HW_0.out.cell 7 _ rfl)
   have t8:∀ g:GrW u,g.w.cell? ⟨w.heap.size,8,none⟩ = some (.int .i64 c.b):=GrW.cell (HW_0.out.cell 8 _ rfl)
   have t9:∀ g:GrW u,g.w.cell? ⟨w.heap.size,9,none⟩ = some (.int .i64 c.i):=GrW.cell (HW_0.out.cell 9 _ rfl)
   have t10:∀ g:GrW u,g.w.cell? ⟨w.heap.size,10,none⟩ = some (.int .i64 c.f):=GrW.cell (HW_0.out.cell 10 _ rfl)
   have t11:∀ g:GrW u,g.w.cell? ⟨w.heap.size,11,none⟩ = some (.int .i64 c.k):=GrW.cell (HW_0.out.cell 11 _ rfl)
   have t12:∀ g:GrW u,g.w.cell? ⟨w.heap.size,12,none⟩ = some (.slice sl.a1 sl.m1 sl.k1):=GrW.cell (HW_0.out.cell 12 _ rfl)
   have t13:∀ g:GrW u,g.w.cell? ⟨w.heap.size,13,none⟩ = some (.slice sl.a2 sl.m2 sl.k2):=GrW.cell (HW_0.out.cell 13 _ rfl)
   have t14:∀ g:GrW u,g.w.cell? ⟨w.heap.size,14,none⟩ = some (.slice sl.a3 sl.m3 sl.k3):=GrW.cell (HW_0.out.cell 14 _ rfl)
   have t15:∀ g:GrW u,g.w.cell? ⟨w.heap.size,15,none⟩ = some (.slice sl.a4 sl.m4 sl.k4):=GrW.cell (HW_0.out.cell 15 _ rfl)
   have t16:∀ g:GrW u,g.w.cell? ⟨w.heap.size,16,none⟩ = some (.slice sl.a5 sl.m5 sl.k5):=GrW.cell (HW_0.out.cell 16 _ rfl)
   have x0:∀ g:GrW u,g.w.cell? ⟨(w.heap.size + 1),0,none⟩ = some (.int .u64 x.key):=GrW.cell (HX_0.out.cell 0 _ rfl)
   have x4:∀ g:GrW u,g.w.cell? ⟨(w.heap.size + 1),4,none⟩ = some (.int .i64 x.curr):=GrW.cell (HX_0.out.cell 4 _ rfl)
   refine wp_region_grow (by kernel_rfl) (by kernel_rfl) ?_
   repeat (go_big_quiet_step ((go_at_call 214;exact grcall (rKey_at _ hi c s _ _ _ _ _ (HH.out.grown (gtr HG_0.out (GrW.gr _))).refs HOK.out hl hl5 x.curr kv HK.out))))
   refine wpQuiet_nil ?_
   rintro w_1 ⟨⟨_,g_1⟩,rfl⟩
   have HW_1:=Lib.hid (HW_0.out.grown g_1)
   have HX_1:=Lib.hid (HX_0.out.grown g_1)
   have HR0_1:=Lib.hid (HR0_0.out.grown g_1)
   have HG_1:=Lib.hid (gtr HG_0.out g_1)
   clear g_1 t7 t8 t9 t10 t11 t12 t13 t14 t15 t16 x0 x4
   go_wp2_with (first | (refine store_cell rfl 3 _ _ rfl (w.heap.size + 1) 2 rfl (.int .i64 1) rfl rfl (x:Wk).l ({ x with phase:=1 }:Wk).l HX_1.out (Nat.le_of_ble_eq_true rfl) (by kernel_rfl) rfl ?_;intro w_2 B_ q_;have HX_2:=Lib.hid B_;have HW_2:=Lib.hid (HW_1.out.but q_ (by omega));have HR0_2:=Lib.hid (HR0_1.out.but q_ (by omega));have HG_2:Hid (Grown w w_2):=Lib.hid (But.fresh HG_1.out q_ (fun i hi => by omega));clear B_ q_) | (refine load_box rfl 72 _ rfl (w.heap.size + 1) rfl _ _ Tryz.underlying72 rfl (by kernel_rfl) HX_2.out ?_) | (refine store_box rfl 72 _ _ rfl (w.heap.size + 1 + 1) _ HR0_2.out _ rfl rfl rfl (by kernel_rfl) rfl ?_;intro w_3 B_ q_;have HE:=Lib.hid B_;have QE:=Lib.hid q_;clear B_ q_) | fail)
   exact bodyPost_ret (v:=.agg ({ x with phase:=1 }:Wk).l.toArray) (results_c (ty:=72) rfl rfl (load_run HE.out 72 _ Tryz.underlying72 rfl (by kernel_rfl))) rfl ⟨by rw [← HZ.out],But.fresh HG_2.out QE.out (fun i hi => by omega)⟩
set_option maxHeartbeats 4000000 in
theorem rAdvance (w:World) (hi:Nat) (c:Cf) (b q cap:Nat) (ws:List Int) (n:Int) (s:St) (sl:Sl) (h:RwAt w hi c b q ws s sl) (hok:c.Ok) (hl:s.ops.length ≤ 99999) (hl5:s.nodes.length ≤ 99999) (x:Wk) (b0:0 ≤ x.next) (b1:x.next ≤ 18446744073709551615) (z:Wk) (hz:advK s x = z) :
  Calls Tryz.prog 215 #[.agg (RwL c b q cap n sl).toArray,.agg x.l.toArray] w fun e w' => e = .returned (.agg z.l.toArray) ∧ Grown w w':=by
 have HZ:=Lib.hid hz
 clear hz
 obtain ⟨u,hu,hg,b0,b1,b2⟩:=vars3 w (RwL c b q cap n sl) x.l zWk.l 42 72 72
 have HW_0:=Lib.hid b0
 have HX_0:=Lib.hid b1
 have HR0_0:=Lib.hid b2
 have HG_0:=Lib.hid hg
 have HH:=Lib.hid h
 have HOK:=Lib.hid hok
 obtain ⟨LW,hLW⟩:∃ L,RwL c b q cap n sl = L:=⟨_,rfl⟩
 obtain ⟨LX,hLX⟩:∃ L,x.l = L:=⟨_,rfl⟩
 rw [hLW,hLX] at hu ⊢
 simp only [zWk,Wk.l] at hu
 have HU:=Lib.hid hu
 have HLW:=Lib.hid hLW
 have HLX:=Lib.hid hLX
 clear hu hg b0 b1 b2 h hok hLW hLX
 have x4:=HX_0.out.cell 4 _ rfl
 rw [← HU.out] at x4
 have HXc:Hid (Box (((w.alloc (.cells LW.toArray 42)).alloc (.cells LX.toArray 72)).alloc (.cells #[.int .u64 0,.int .i64 0,.int .i64 0,.int .i64 0,.int .i64 0,.int .u64 0,.int .i64 0,.int .i64 0,.bool false,.bool false] 72)) (w.heap.size + 1) x.l):=Lib.hid (by rw [HU.out];exact HX_0.out)
 go_enter Tryz.func215,Tryz.ntmps215
 go_wp2_with (first | (refine store_cell rfl 3 _ _ rfl (w.heap.size + 1) 3 rfl (.int .i64 x.curr) rfl rfl (x:Wk).l ({ x with pred:=x.curr }:Wk).l HXc.out (Nat.le_of_ble_eq_true rfl) (by kernel_rfl) rfl ?_;intro w_1 B_ q_;rw [HU.out] at q_;have HX_1:=Lib.hid B_;have HW_1:=Lib.hid (HW_0.out.but q_ (by omega));have HR0_1:=Lib.hid (HR0_0.out.but q_ (by omega));have HG_1:Hid (Grown w w_1):=Lib.hid (But.fresh HG_0.out q_ (fun i hi => by omega));have x5:=HX_1.out.cell 5 (.int .u64 x.next) rfl;clear B_ q_) | fail)
 clear x4
 refine (refIndex_any _ _ b0 b1).mono ?_;rintro e w_2 ⟨rfl,g_2⟩
 clear x5
 have HW_2:=Lib.hid (HW_1.out.grown g_2)
 have HX_2:=Lib.hid (HX_1.out.grown g_2)
 have HR0_2:=Lib.hid (HR0_1.out.grown g_2)
 have HG_2:=Lib.hid (gtr HG_1.out g_2)
 clear g_2
 go_wp2_with (first | (refine store_cell rfl 3 _ _ rfl (w.heap.size + 1) 4 rfl (.int .i64 (x.next / 2)) rfl rfl ({ x with pred:=x.curr }:Wk).l ({ x with pred:=x.curr,curr:=x.next / 2 }:Wk).l HX_2.out (Nat.le_of_ble_eq_true rfl) (by kernel_rfl) rfl ?_;intro w_3 B_ q_;have HX_3:=Lib.hid B_;have HW_3:=Lib.hid (HW_2.out.but q_ (by omega));have HR0_3:=Lib.hid (HR0_2.out.but q_ (by omega));have HG_3:Hid (Grown w w_3):=Lib.hid (But.fresh HG_2.out q_ (fun i hi => by omega));clear B_ q_) | (refine load_box rfl 42 _ rfl w.heap.size rfl _ _ Tryz.underlying42 rfl (by kernel_rfl) HW_3.out ?_) | (refine load_box rfl 72 _ rfl (w.heap.size + 1) rfl _ _ Tryz.underlying72 rfl (by kernel_rfl) HX_3.out ?_) | fail)
 have hA:=rArrive w_3 hi c b q cap ws n s sl (HH.out.grown HG_3.out) HOK.out hl hl5 { x with pred:=x.curr,curr:=x.next / 2 } z HZ.out
 refine (hA).mono ?_;rintro e w_4 ⟨rfl,g_4⟩
 have HR0_4:=Lib.hid (HR0_3.out.grown g_4)
 have HG_4:=Lib.hid (gtr HG_3.out g_4)
 clear g_4
 go_wp2_with (first | (refine store_box rfl 72 _ _ rfl (w.heap.size + 1 + 1) _ HR0_4.out _ rfl rfl rfl (by kernel_rfl) rfl ?_;intro w_5 B_ q_;have HE:=Lib.hid B_;have QE:=Lib.hid q_;clear B_ q_) | fail)
 exact bodyPost_ret (v:=.agg (z:Wk).l.toArray) (results_c (ty:=72) rfl rfl (load_run HE.out 72 _ Tryz.underlying72 rfl (by kernel_rfl))) rfl ⟨by rw [← HZ.out],But.fresh HG_4.out QE.out (fun i hi => by omega)⟩
end Go.Proofs.YtmokcgifknmchaaGreat
