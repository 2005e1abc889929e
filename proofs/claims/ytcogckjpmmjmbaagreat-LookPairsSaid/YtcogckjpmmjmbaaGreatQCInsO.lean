/- The document's answers for package look (corrieref09): Ins, Over, has, insert. -/
import Derived.Test.YtcogckjpmmjmbaaGreatQCMRefW
import Derived.Test.YtcogckjpmmjmbaaGreatQCMSound
namespace Go.Proofs.YtcogckjpmmjmbaaGreat
open Go.ChangeShapes Go.WideShapes Go.ChangeAt Go.RowKit
set_option maxRecDepth 100000
set_option linter.unusedVariables false
def insV (c:Cf) (ws:List Int) (s:St) (op:Int):Bool:=decide ((calAt s op).kind = 1 ∧ wrdOf c ws op = 1)
set_option maxHeartbeats 4000000 in
theorem rOver_at (w:World) (hi:Nat) (c:Cf) (b q cap:Nat) (ws:List Int) (n:Int) (s:St) (sl:Sl) (h:RwAt w hi c b q ws s sl) (hn:0 ≤ n) (hn':n < 4611686018427387904) (op:Int) (r:Bool) (hr:decide (2 ≤ wrdOf c ws op) = r) :
  Calls Tryz.prog 85 #[.agg (RwL c b q cap n sl).toArray,.int .i64 op] w fun e w' => e = .returned (.bool r) ∧ Grown w w':=by
 subst hr
 have HR:=Lib.hid h
 obtain ⟨wv,hwv⟩:∃ wv,wrdOf c ws op = wv:=⟨_,rfl⟩
 rw [hwv]
 have HW:Hid (rd ws (wrdI c op) = wv):=Lib.hid hwv
 have HN:Hid (vWord c.t c.b c.i c.f c.k op = wrdI c op):=Lib.hid rfl
 clear h hwv
 have HB0:=Lib.hid (Box.made w (RwL c b q cap n sl) 42)
 have GB:Grown w (w.alloc (.cells (RwL c b q cap n sl).toArray 42)):=by go_grown
 go_enter Tryz.func85,Tryz.ntmps85
 go_wp2_with fail
 have e0:∀ g:GrW (w.alloc (.cells (RwL c b q cap n sl).toArray 42)),g.w.cell? ⟨w.heap.size,0,none⟩ = some (.int .i64 c.t):=GrW.cell (HB0.out.cell 0 _ rfl)
 have e1:∀ g:GrW (w.alloc (.cells (RwL c b q cap n sl).toArray 42)),g.w.cell? ⟨w.heap.size,1,none⟩ = some (.int .i64 c.b):=GrW.cell (HB0.out.cell 1 _ rfl)
 have e2:∀ g:GrW (w.alloc (.cells (RwL c b q cap n sl).toArray 42)),g.w.cell? ⟨w.heap.size,2,none⟩ = some (.int .i64 c.i):=GrW.cell (HB0.out.cell 2 _ rfl)
 have e3:∀ g:GrW (w.alloc (.cells (RwL c b q cap n sl).toArray 42)),g.w.cell? ⟨w.heap.size,3,none⟩ = some (.int .i64 c.f):=GrW.cell (HB0.out.cell 3 _ rfl)
 have e4:∀ g:GrW (w.alloc (.cells (RwL c b q cap n sl).toArray 42)),g.w.cell? ⟨w.heap.size,4,none⟩ = some (.int .i64 c.k):=GrW.cell (HB0.out.cell 4 _ rfl)
 have e5:∀ g:GrW (w.alloc (.cells (RwL c b q cap n sl).toArray 42)),g.w.cell? ⟨w.heap.size,5,none⟩ = some (.slice (some ⟨b,0,none⟩) q cap):=GrW.cell (HB0.out.cell 5 _ rfl)
 have e6:∀ g:GrW (w.alloc (.cells (RwL c b q cap n sl).toArray 42)),g.w.cell? ⟨w.heap.size,6,none⟩ = some (.int .i64 n):=GrW.cell (HB0.out.cell 6 _ rfl)
 have e7:∀ g:GrW (w.alloc (.cells (RwL c b q cap n sl).toArray 42)),g.w.cell? ⟨w.heap.size,7,none⟩ = some (.int .i64 c.t):=GrW.cell (HB0.out.cell 7 _ rfl)
 have e8:∀ g:GrW (w.alloc (.cells (RwL c b q cap n sl).toArray 42)),g.w.cell? ⟨w.heap.size,8,none⟩ = some (.int .i64 c.b):=GrW.cell (HB0.out.cell 8 _ rfl)
 have e9:∀ g:GrW (w.alloc (.cells (RwL c b q cap n sl).toArray 42)),g.w.cell? ⟨w.heap.size,9,none⟩ = some (.int .i64 c.i):=GrW.cell (HB0.out.cell 9 _ rfl)
 have e10:∀ g:GrW (w.alloc (.cells (RwL c b q cap n sl).toArray 42)),g.w.cell? ⟨w.heap.size,10,none⟩ = some (.int .i64 c.f):=GrW.cell (HB0.out.cell 10 _ rfl)
 have e11:∀ g:GrW (w.alloc (.cells (RwL c b q cap n sl).toArray 42)),g.w.cell? ⟨w.heap.size,11,none⟩ = some (.int .i64 c.k):=GrW.cell (HB0.out.cell 11 _ rfl)
 have e12:∀ g:GrW (w.alloc (.cells (RwL c b q cap n sl).toArray 42)),g.w.cell? ⟨w.heap.size,12,none⟩ = some (.slice sl.a1 sl.m1 sl.k1):=GrW.cell (HB0.out.cell 12 _ rfl)
 have e13:∀ g:GrW (w.alloc (.cells (RwL c b q cap n sl).toArray 42)),g.w.cell? ⟨w.heap.size,13,none⟩ = some (.slice sl.a2 sl.m2 sl.k2):=GrW.cell (HB0.out.cell 13 _ rfl)
 have e14:∀ g:GrW (w.alloc (.cells (RwL c b q cap n sl).toArray 42)),g.w.cell? ⟨w.heap.size,14,none⟩ = some (.slice sl.a3 sl.m3 sl.k3):=GrW.cell (HB0.out.cell 14 _ rfl)
 have e15:∀ g:GrW (w.alloc (.cells (RwL c b q cap n sl).toArray 42)),g.w.cell? ⟨w.heap.size,15,none⟩ = some (.slice sl.a4 sl.m4 sl.k4):=GrW.cell (HB0.out.cell 15 _ rfl)
 have e16:∀ g:GrW (w.alloc (.cells (RwL c b q cap n sl).toArray 42)),g.w.cell? ⟨w.heap.size,16,none⟩ = some (.slice sl.a5 sl.m5 sl.k5):=GrW.cell (HB0.out.cell 16 _ rfl)
 refine wp_region_grow (by kernel_rfl) (by kernel_rfl) ?_
 repeat (go_big_quiet_step ((first | (go_at_call 132;with_reducible exact grcall (rWord_at _ _ _ _ _ _ _ _ HN.out)) | (go_at_call 68;exact grcall (rwPeek_g c b q cap ws n sl HR.out.len (HR.out.holds.grown GB) HR.out.few hn hn' _ _ HW.out _)) | (go_at_call 155;exact grcall (refOver_any _ _)))))
 refine wpQuiet_nil ?_
 rintro w3 ⟨⟨_,g3⟩,rfl⟩
 clear e0 e1 e2 e3 e4 e5 e6 e7 e8 e9 e10 e11 e12 e13 e14 e15 e16
 go_wp2_with fail
 go_ret
 exact ⟨rfl,gtr GB g3⟩
set_option maxHeartbeats 4000000 in
theorem rIns_at (w:World) (hi:Nat) (c:Cf) (b q cap:Nat) (ws:List Int) (n:Int) (s:St) (sl:Sl) (h:RwAt w hi c b q ws s sl) (hok:c.Ok) (hl:s.ops.length ≤ 99999) (hn:0 ≤ n) (hn':n < 4611686018427387904) (op:Int) (r:Bool) (hr:insV c ws s op = r) :
  Calls Tryz.prog 79 #[.agg (RwL c b q cap n sl).toArray,.int .i64 op] w fun e w' => e = .returned (.bool r) ∧ Grown w w':=by
 subst hr
 have HR:=Lib.hid h
 obtain ⟨wv,hwv⟩:∃ wv,wrdOf c ws op = wv:=⟨_,rfl⟩
 obtain ⟨ox,hox⟩:∃ ox,lookI s.ops op = ox:=⟨_,rfl⟩
 have HV:Hid (insV c ws s op = decide ((ox.getD Cal.zero).kind = 1 ∧ wv = 1)):=Lib.hid (by unfold insV calAt;rw [hwv,hox])
 rw [HV.out]
 have HW:Hid (rd ws (wrdI c op) = wv):=Lib.hid hwv
 have HO:=Lib.hid hox
 have HN:Hid (vWord c.t c.b c.i c.f c.k op = wrdI c op):=Lib.hid rfl
 have HOK:=Lib.hid hok
 clear h hwv hox hok
 have HB0:=Lib.hid (Box.made w (RwL c b q cap n sl) 42)
 have GB:Grown w (w.alloc (.cells (RwL c b q cap n sl).toArray 42)):=by go_grown
 have e7:=HB0.out.cell 7 _ rfl
 have e8:=HB0.out.cell 8 _ rfl
 have e9:=HB0.out.cell 9 _ rfl
 have e10:=HB0.out.cell 10 _ rfl
 have e11:=HB0.out.cell 11 _ rfl
 have e12:=HB0.out.cell 12 _ rfl
 have e13:=HB0.out.cell 13 _ rfl
 have e14:=HB0.out.cell 14 _ rfl
 have e15:=HB0.out.cell 15 _ rfl
 have e16:=HB0.out.cell 16 _ rfl
 go_enter Tryz.func79,Tryz.ntmps79
 go_wp2_with fail
 refine (rCall_at _ hi c s _ _ _ _ _ (HR.out.grown GB).refs HOK.out hl op _ HO.out).mono ?_;rintro e w1 ⟨rfl,g1⟩
 have G1:=Lib.hid (gtr GB g1)
 have HB1:=Lib.hid (HB0.out.grown g1)
 clear e7 e8 e9 e10 e11 e12 e13 e14 e15 e16 GB g1 HB0
 obtain ⟨⟨xk,xy,xv,xl⟩,hx⟩:∃ x,ox.getD Cal.zero = x:=⟨_,rfl⟩
 rw [hx]
 unfold Cal.v
 simp only
 have HX:=Lib.hid hx
 clear hx
 by_cases hk:xk = 1
 ·have hso:errOf ox = 0:=by
   cases ox with
   | none => have:=HX.out;simp [Cal.zero] at this;omega
   | some y => rfl
  rw [hso]
  subst hk
  clear hso
  by_cases hw1:wv = 1
  ·have ew:(wv == 1) = true:=by simpa using hw1
   have HWV:=Lib.hid hw1
   clear hw1
   go_wp2_with fail
   have GC:Grown w1 (w1.alloc (.cells #[.int .i64 1,.int .u64 xy,.int .u64 xv,.int .i64 xl] 80)):=by go_grown
   have e0:∀ g:GrW (w1.alloc (.cells #[.int .i64 1,.int .u64 xy,.int .u64 xv,.int .i64 xl] 80)),g.w.cell? ⟨w.heap.size,0,none⟩ = some (.int .i64 c.t):=GrW.cell ((HB1.out.grown GC).cell 0 _ rfl)
   have e1:∀ g:GrW (w1.alloc (.cells #[.int .i64 1,.int .u64 xy,.int .u64 xv,.int .i64 xl] 80)),g.w.cell? ⟨w.heap.size,1,none⟩ = some (.int .i64 c.b):=GrW.cell ((HB1.out.grown GC).cell 1 _ rfl)
   have e2:∀ g:GrW (w1.alloc (.cells #[.int .i64 1,.int .u64 xy,.int .u64 xv,.int .i64 xl] 80)),g.w.cell? ⟨w.heap.size,2,none⟩ = some (.int .i64 c.i):=GrW.cell ((HB1.out.grown GC).cell 2 _ rfl)
   have e3:∀ g:GrW (w1.alloc (.cells #[.int .i64 1,.int .u64 xy,.int .u64 xv,.int .i64 xl] 80)),g.w.cell? ⟨w.heap.size,3,none⟩ = some (.int .i64 c.f):=GrW.cell ((HB1.out.grown GC).cell 3 _ rfl)
   have e4:∀ g:GrW (w1.alloc (.cells #[.int .i64 1,.int .u64 xy,.int .u64 xv,.int .i64 xl] 80)),g.w.cell? ⟨w.heap.size,4,none⟩ = some (.int .i64 c.k):=GrW.cell ((HB1.out.grown GC).cell 4 _ rfl)
   have e5:∀ g:GrW (w1.alloc (.cells #[.int .i64 1,.int .u64 xy,.int .u64 xv,.int .i64 xl] 80)),g.w.cell? ⟨w.heap.size,5,none⟩ = some (.slice (some ⟨b,0,none⟩) q cap):=GrW.cell ((HB1.out.grown GC).cell 5 _ rfl)
   have e6:∀ g:GrW (w1.alloc (.cells #[.int .i64 1,.int .u64 xy,.int .u64 xv,.int .i64 xl] 80)),g.w.cell? ⟨w.heap.size,6,none⟩ = some (.int .i64 n):=GrW.cell ((HB1.out.grown GC).cell 6 _ rfl)
   have e7:∀ g:GrW (w1.alloc (.cells #[.int .i64 1,.int .u64 xy,.int .u64 xv,.int .i64 xl] 80)),g.w.cell? ⟨w.heap.size,7,none⟩ = some (.int .i64 c.t):=GrW.cell ((HB1.out.grown GC).cell 7 _ rfl)
   have e8:∀ g:GrW (w1.alloc (.cells #[.int .i64 1,.int .u64 xy,.int .u64 xv,.int .i64 xl] 80)),g.w.cell? ⟨w.heap.size,8,none⟩ = some (.int .i64 c.b):=GrW.cell ((HB1.out.grown GC).cell 8 _ rfl)
   have e9:∀ g:GrW (w1.alloc (.cells #[.int .i64 1,.int .u64 xy,.int .u64 xv,.int .i64 xl] 80)),g.w.cell? ⟨w.heap.size,9,none⟩ = some (.int .i64 c.i):=GrW.cell ((HB1.out.grown GC).cell 9 _ rfl)
   have e10:∀ g:GrW (w1.alloc (.cells #[.int .i64 1,.int .u64 xy,.int .u64 xv,.int .i64 xl] 80)),g.w.cell? ⟨w.heap.size,10,none⟩ = some (.int .i64 c.f):=GrW.cell ((HB1.out.grown GC).cell 10 _ rfl)
   have e11:∀ g:GrW (w1.alloc (.cells #[.int .i64 1,.int .u64 xy,.int .u64 xv,.int .i64 xl] 80)),g.w.cell? ⟨w.heap.size,11,none⟩ = some (.int .i64 c.k):=GrW.cell ((HB1.out.grown GC).cell 11 _ rfl)
   have e12:∀ g:GrW (w1.alloc (.cells #[.int .i64 1,.int .u64 xy,.int .u64 xv,.int .i64 xl] 80)),g.w.cell? ⟨w.heap.size,12,none⟩ = some (.slice sl.a1 sl.m1 sl.k1):=GrW.cell ((HB1.out.grown GC).cell 12 _ rfl)
   have e13:∀ g:GrW (w1.alloc (.cells #[.int .i64 1,.int .u64 xy,.int .u64 xv,.int .i64 xl] 80)),g.w.cell? ⟨w.heap.size,13,none⟩ = some (.slice sl.a2 sl.m2 sl.k2):=GrW.cell ((HB1.out.grown GC).cell 13 _ rfl)
   have e14:∀ g:GrW (w1.alloc (.cells #[.int .i64 1,.int .u64 xy,.int .u64 xv,.int .i64 xl] 80)),g.w.cell? ⟨w.heap.size,14,none⟩ = some (.slice sl.a3 sl.m3 sl.k3):=GrW.cell ((HB1.out.grown GC).cell 14 _ rfl)
   have e15:∀ g:GrW (w1.alloc (.cells #[.int .i64 1,.int .u64 xy,.int .u64 xv,.int .i64 xl] 80)),g.w.cell? ⟨w.heap.size,15,none⟩ = some (.slice sl.a4 sl.m4 sl.k4):=GrW.cell ((HB1.out.grown GC).cell 15 _ rfl)
   have e16:∀ g:GrW (w1.alloc (.cells #[.int .i64 1,.int .u64 xy,.int .u64 xv,.int .i64 xl] 80)),g.w.cell? ⟨w.heap.size,16,none⟩ = some (.slice sl.a5 sl.m5 sl.k5):=GrW.cell ((HB1.out.grown GC).cell 16 _ rfl)
   have c0:∀ g:GrW (w1.alloc (.cells #[.int .i64 1,.int .u64 xy,.int .u64 xv,.int .i64 xl] 80)),g.w.cell? ⟨w1.heap.size,0,none⟩ = some (.int .i64 1):=GrW.cell (by simp [go_sem])
   refine wp_region_grow (by kernel_rfl) (by kernel_rfl) ?_
   repeat (go_big_quiet_step ((first | (go_at_call 132;with_reducible exact grcall (rWord_at _ _ _ _ _ _ _ _ HN.out)) | (go_at_call 68;exact grcall (rwPeek_g c b q cap ws n sl HR.out.len (HR.out.holds.grown (gtr G1.out GC)) HR.out.few hn hn' _ _ HW.out _)))))
   refine wpQuiet_nil ?_
   rintro w3 ⟨⟨_,g3⟩,rfl⟩
   clear e0 e1 e2 e3 e4 e5 e6 e7 e8 e9 e10 e11 e12 e13 e14 e15 e16 c0
   go_wp2_with fail
   go_ret
   exact ⟨ret_bool (by simp [HX.out,HWV.out]),gtr G1.out (gtr GC g3)⟩
  ·have ew:(wv == 1) = false:=by simpa using hw1
   have HWV:=Lib.hid hw1
   clear hw1
   go_wp2_with fail
   have GC:Grown w1 (w1.alloc (.cells #[.int .i64 1,.int .u64 xy,.int .u64 xv,.int .i64 xl] 80)):=by go_grown
   have e0:∀ g:GrW (w1.alloc (.cells #[.int .i64 1,.int .u64 xy,.int .u64 xv,.int .i64 xl] 80)),g.w.cell? ⟨w.heap.size,0,none⟩ = some (.int .i64 c.t):=GrW.cell ((HB1.out.grown GC).cell 0 _ rfl)
   have e1:∀ g:GrW (w1.alloc (.cells #[.int .i64 1,.int .u64 xy,.int .u64 xv,.int .i64 xl] 80)),g.w.cell? ⟨w.heap.size,1,none⟩ = some (.int .i64 c.b):=GrW.cell ((HB1.out.grown GC).cell 1 _ rfl)
   have e2:∀ g:GrW (w1.alloc (.cells #[.int .i64 1,.int .u64 xy,.int .u64 xv,.int .i64 xl] 80)),g.w.cell? ⟨w.heap.size,2,none⟩ = some (.int .i64 c.i):=GrW.cell ((HB1.out.grown GC).cell 2 _ rfl)
   have e3:∀ g:GrW (w1.alloc (.cells #[.int .i64 1,.int .u64 xy,.int .u64 xv,.int .i64 xl] 80)),g.w.cell? ⟨w.heap.size,3,none⟩ = some (.int .i64 c.f):=GrW.cell ((HB1.out.grown GC).cell 3 _ rfl)
   have e4:∀ g:GrW (w1.alloc (.cells #[.int .i64 1,.int .u64 xy,.int .u64 xv,.int .i64 xl] 80)),g.w.cell? ⟨w.heap.size,4,none⟩ = some (.int .i64 c.k):=GrW.cell ((HB1.out.grown GC).cell 4 _ rfl)
   have e5:∀ g:GrW (w1.alloc (.cells #[.int .i64 1,.int .u64 xy,.int .u64 xv,.int .i64 xl] 80)),g.w.cell? ⟨w.heap.size,5,none⟩ = some (.slice (some ⟨b,0,none⟩) q cap):=GrW.cell ((HB1.out.grown GC).cell 5 _ rfl)
   have e6:∀ g:GrW (w1.alloc (.cells #[.int .i64 1,.int .u64 xy,.int .u64 xv,.int .i64 xl] 80)),g.w.cell? ⟨w.heap.size,6,none⟩ = some (.int .i64 n):=GrW.cell ((HB1.out.grown GC).cell 6 _ rfl)
   have e7:∀ g:GrW (w1.alloc (.cells #[.int .i64 1,.int .u64 xy,.int .u64 xv,.int .i64 xl] 80)),g.w.cell? ⟨w.heap.size,7,none⟩ = some (.int .i64 c.t):=GrW.cell ((HB1.out.grown GC).cell 7 _ rfl)
   have e8:∀ g:GrW (w1.alloc (.cells #[.int .i64 1,.int .u64 xy,.int .u64 xv,.int .i64 xl] 80)),g.w.cell? ⟨w.heap.size,8,none⟩ = some (.int .i64 c.b):=GrW.cell ((HB1.out.grown GC).cell 8 _ rfl)
   have e9:∀ g:GrW (w1.alloc (.cells #[.int .i64 1,.int .u64 xy,.int .u64 xv,.int .i64 xl] 80)),g.w.cell? ⟨w.heap.size,9,none⟩ = some (.int .i64 c.i):=GrW.cell ((HB1.out.grown GC).cell 9 _ rfl)
   have e10:∀ g:GrW (w1.alloc (.cells #[.int .i64 1,.int .u64 xy,.int .u64 xv,.int .i64 xl] 80)),g.w.cell? ⟨w.heap.size,10,none⟩ = some (.int .i64 c.f):=GrW.cell ((HB1.out.grown GC).cell 10 _ rfl)
   have e11:∀ g:GrW (w1.alloc (.cells #[.int .i64 1,.int .u64 xy,.int .u64 xv,.int .i64 xl] 80)),g.w.cell? ⟨w.heap.size,11,none⟩ = some (.int .i64 c.k):=GrW.cell ((HB1.out.grown GC).cell 11 _ rfl)
   have e12:∀ g:GrW (w1.alloc (.cells #[.int .i64 1,.int .u64 xy,.int .u64 xv,.int .i64 xl] 80)),g.w.cell? ⟨w.heap.size,12,none⟩ = some (.slice sl.a1 sl.m1 sl.k1):=GrW.cell ((HB1.out.grown GC).cell 12 _ rfl)
   have e13:∀ g:GrW (w1.alloc (.cells #[.int .i64 1,.int .u64 xy,.int .u64 xv,.int .i64 xl] 80)),g.w.cell? ⟨w.heap.size,13,none⟩ = some (.slice sl.a2 sl.m2 sl.k2):=GrW.cell ((HB1.out.grown GC).cell 13 _ rfl)
   have e14:∀ g:GrW (w1.alloc (.cells #[.int .i64 1,.int .u64 xy,.int .u64 xv,.int .i64 xl] 80)),g.w.cell? ⟨w.heap.size,14,none⟩ = some (.slice sl.a3 sl.m3 sl.k3):=GrW.cell ((HB1.out.grown GC).cell 14 _ rfl)
   have e15:∀ g:GrW (w1.alloc (.cells #[.int .i64 1,.int .u64 xy,.int .u64 xv,.int .i64 xl] 80)),g.w.cell? ⟨w.heap.size,15,none⟩ = some (.slice sl.a4 sl.m4 sl.k4):=GrW.cell ((HB1.out.grown GC).cell 15 _ rfl)
   have e16:∀ g:GrW (w1.alloc (.cells #[.int .i64 1,.int .u64 xy,.int .u64 xv,.int .i64 xl] 80)),g.w.cell? ⟨w.heap.size,16,none⟩ = some (.slice sl.a5 sl.m5 sl.k5):=GrW.cell ((HB1.out.grown GC).cell 16 _ rfl)
   have c0:∀ g:GrW (w1.alloc (.cells #[.int .i64 1,.int .u64 xy,.int .u64 xv,.int .i64 xl] 80)),g.w.cell? ⟨w1.heap.size,0,none⟩ = some (.int .i64 1):=GrW.cell (by simp [go_sem])
   refine wp_region_grow (by kernel_rfl) (by kernel_rfl) ?_
   repeat (go_big_quiet_step ((first | (go_at_call 132;with_reducible exact grcall (rWord_at _ _ _ _ _ _ _ _ HN.out)) | (go_at_call 68;exact grcall (rwPeek_g c b q cap ws n sl HR.out.len (HR.out.holds.grown (gtr G1.out GC)) HR.out.few hn hn' _ _ HW.out _)))))
   refine wpQuiet_nil ?_
   rintro w3 ⟨⟨_,g3⟩,rfl⟩
   clear e0 e1 e2 e3 e4 e5 e6 e7 e8 e9 e10 e11 e12 e13 e14 e15 e16 c0
   go_wp2_with fail
   go_ret
   exact ⟨ret_bool (by simp [HX.out,HWV.out]),gtr G1.out (gtr GC g3)⟩
 ·by_cases hso:errOf ox = 0
  ·rw [hso]
   have ek:(xk == 1) = false:=by simpa using hk
   have HK:=Lib.hid hk
   clear hk hso
   go_wp2_with fail
   have GC:Grown w1 (w1.alloc (.cells #[.int .i64 xk,.int .u64 xy,.int .u64 xv,.int .i64 xl] 80)):=by go_grown
   have c0:∀ g:GrW (w1.alloc (.cells #[.int .i64 xk,.int .u64 xy,.int .u64 xv,.int .i64 xl] 80)),g.w.cell? ⟨w1.heap.size,0,none⟩ = some (.int .i64 xk):=GrW.cell (by simp [go_sem])
   refine wp_region_grow (by kernel_rfl) (by kernel_rfl) ?_
   repeat (go_big_quiet_step (fail))
   refine wpQuiet_nil ?_
   rintro w3 ⟨⟨_,g3⟩,rfl⟩
   clear  c0
   go_wp2_with fail
   go_ret
   exact ⟨ret_bool (by simp [HX.out,HK.out]),gtr G1.out (gtr GC g3)⟩
  ·have hso4:errOf ox = 4:=by
    cases ox with
    | none => rfl
    | some y => exact absurd rfl hso
   rw [hso4]
   have HK:=Lib.hid hk
   clear hk hso hso4
   go_wp2_with fail
   have GC:Grown w1 (w1.alloc (.cells #[.int .i64 xk,.int .u64 xy,.int .u64 xv,.int .i64 xl] 80)):=by go_grown
   have c0:∀ g:GrW (w1.alloc (.cells #[.int .i64 xk,.int .u64 xy,.int .u64 xv,.int .i64 xl] 80)),g.w.cell? ⟨w1.heap.size,0,none⟩ = some (.int .i64 xk):=GrW.cell (by simp [go_sem])
   refine wp_region_grow (by kernel_rfl) (by kernel_rfl) ?_
   repeat (go_big_quiet_step (fail))
   refine wpQuiet_nil ?_
   rintro w3 ⟨⟨_,g3⟩,rfl⟩
   clear  c0
   go_wp2_with fail
   go_ret
   exact ⟨ret_bool (by simp [HX.out,HK.out]),gtr G1.out (gtr GC g3)⟩
end Go.Proofs.YtcogckjpmmjmbaaGreat
