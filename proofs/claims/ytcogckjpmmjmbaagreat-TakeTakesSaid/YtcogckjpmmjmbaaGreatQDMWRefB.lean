/- The document's acts of package world (corrieref08): what each tells, and that it leaves all memory that was there as it was. -/
import Derived.Test.YtcogckjpmmjmbaaGreatQDMWRef
import Derived.Test.YtcogckjpmmjmbaaGreatQDMWorld
namespace Go.Proofs.YtcogckjpmmjmbaaGreat
open Go.ChangeShapes Go.WideShapes Go.ChangeAt Go.RowKit
set_option maxRecDepth 100000
set_option linter.unusedVariables false
structure Sl where
 a1:Option Addr
 m1:Nat
 k1:Nat
 a2:Option Addr
 m2:Nat
 k2:Nat
 a3:Option Addr
 m3:Nat
 k3:Nat
 a4:Option Addr
 m4:Nat
 k4:Nat
 a5:Option Addr
 m5:Nat
 k5:Nat
def RW1 (c:Cf) (sl:Sl) (b0:Nat) (ws:List Int) (n:Int) (w:World) (e:Ending) (w':World):Prop :=
 ∃ b cap,e = .returned (.agg #[.int .i64 c.t,.int .i64 c.b,.int .i64 c.i,.int .i64 c.f,.int .i64 c.k,.slice (some ⟨b,0,none⟩) ws.length cap,.int .i64 n,.int .i64 c.t,.int .i64 c.b,.int .i64 c.i,.int .i64 c.f,.int .i64 c.k,.slice sl.a1 sl.m1 sl.k1,.slice sl.a2 sl.m2 sl.k2,.slice sl.a3 sl.m3 sl.k3,.slice sl.a4 sl.m4 sl.k4,.slice sl.a5 sl.m5 sl.k5]) ∧ Grown w w' ∧ Holds w' b ws ∧ (b = b0 ∨ w.heap.size ≤ b)
def RWb (c:Cf) (sl:Sl) (b0:Nat) (ws:List Int) (n:Int) (r:Bool) (w:World) (e:Ending) (w':World):Prop :=
 ∃ b cap,e = .returned (.tuple #[.agg #[.int .i64 c.t,.int .i64 c.b,.int .i64 c.i,.int .i64 c.f,.int .i64 c.k,.slice (some ⟨b,0,none⟩) ws.length cap,.int .i64 n,.int .i64 c.t,.int .i64 c.b,.int .i64 c.i,.int .i64 c.f,.int .i64 c.k,.slice sl.a1 sl.m1 sl.k1,.slice sl.a2 sl.m2 sl.k2,.slice sl.a3 sl.m3 sl.k3,.slice sl.a4 sl.m4 sl.k4,.slice sl.a5 sl.m5 sl.k5],.bool r]) ∧ Grown w w' ∧ Holds w' b ws ∧ (b = b0 ∨ w.heap.size ≤ b)
theorem info_w:(Tryz.prog.info? 42).map (·.size) = some 17:=by kernel_rfl
theorem Box.w17 {w:World} {b:Nat} {l:List Value} (h:Box w b l) (hl:l.length = 17):(loadVar 42 ⟨b,0,none⟩).run Tryz.prog w = .ok (.agg l.toArray) w :=
 load_run h _ _ Tryz.underlying42 rfl (by rw [hl];exact info_w)
set_option maxHeartbeats 1000000 in
theorem rwswap_any (w:World) (c:Cf) (sl:Sl) (b cap:Nat) (ws:List Int) (n:Int) (i old v:Int) (hc:Holds w b ws) (hf:ws.length ≤ 1048576) (hn:0 ≤ n) (hn':n < 4611686018427387904) :
  Calls Tryz.prog 131 #[.agg #[.int .i64 c.t,.int .i64 c.b,.int .i64 c.i,.int .i64 c.f,.int .i64 c.k,.slice (some ⟨b,0,none⟩) ws.length cap,.int .i64 n,.int .i64 c.t,.int .i64 c.b,.int .i64 c.i,.int .i64 c.f,.int .i64 c.k,.slice sl.a1 sl.m1 sl.k1,.slice sl.a2 sl.m2 sl.k2,.slice sl.a3 sl.m3 sl.k3,.slice sl.a4 sl.m4 sl.k4,.slice sl.a5 sl.m5 sl.k5],.int .i64 i,.int .u64 old,.int .u64 v] w (RWb c sl b (sw ws i old v) (n + cnt ws i) (may ws i old) w):=by
 have HC:=Lib.hid hc
 clear hc
 obtain ⟨ws2,hws⟩:∃ x,sw ws i old v = x:=⟨_,rfl⟩
 obtain ⟨dn,hdn⟩:∃ x,may ws i old = x:=⟨_,rfl⟩
 rw [hws,hdn]
 have HWS:=Lib.hid hws
 have HDN:=Lib.hid hdn
 clear hws hdn
 have BV:=Box.made w [.int .i64 c.t,.int .i64 c.b,.int .i64 c.i,.int .i64 c.f,.int .i64 c.k,.slice (some ⟨b,0,none⟩) ws.length cap,.int .i64 n,.int .i64 c.t,.int .i64 c.b,.int .i64 c.i,.int .i64 c.f,.int .i64 c.k,.slice sl.a1 sl.m1 sl.k1,.slice sl.a2 sl.m2 sl.k2,.slice sl.a3 sl.m3 sl.k3,.slice sl.a4 sl.m4 sl.k4,.slice sl.a5 sl.m5 sl.k5] 42
 have BZ:=Box.made (w.alloc (.cells #[.int .i64 c.t,.int .i64 c.b,.int .i64 c.i,.int .i64 c.f,.int .i64 c.k,.slice (some ⟨b,0,none⟩) ws.length cap,.int .i64 n,.int .i64 c.t,.int .i64 c.b,.int .i64 c.i,.int .i64 c.f,.int .i64 c.k,.slice sl.a1 sl.m1 sl.k1,.slice sl.a2 sl.m2 sl.k2,.slice sl.a3 sl.m3 sl.k3,.slice sl.a4 sl.m4 sl.k4,.slice sl.a5 sl.m5 sl.k5] 42)) [.int .i64 0,.int .i64 0,.int .i64 0,.int .i64 0,.int .i64 0,.slice none 0 0,.int .i64 0,.int .i64 0,.int .i64 0,.int .i64 0,.int .i64 0,.int .i64 0,.slice none 0 0,.slice none 0 0,.slice none 0 0,.slice none 0 0,.slice none 0 0] 42
 have hsz:(w.alloc (.cells #[.int .i64 c.t,.int .i64 c.b,.int .i64 c.i,.int .i64 c.f,.int .i64 c.k,.slice (some ⟨b,0,none⟩) ws.length cap,.int .i64 n,.int .i64 c.t,.int .i64 c.b,.int .i64 c.i,.int .i64 c.f,.int .i64 c.k,.slice sl.a1 sl.m1 sl.k1,.slice sl.a2 sl.m2 sl.k2,.slice sl.a3 sl.m3 sl.k3,.slice sl.a4 sl.m4 sl.k4,.slice sl.a5 sl.m5 sl.k5] 42)).heap.size = w.heap.size + 1:=by simp
 rw [hsz] at BZ
 clear hsz
 replace BV:=BV.grown (w':=(w.alloc (.cells #[.int .i64 c.t,.int .i64 c.b,.int .i64 c.i,.int .i64 c.f,.int .i64 c.k,.slice (some ⟨b,0,none⟩) ws.length cap,.int .i64 n,.int .i64 c.t,.int .i64 c.b,.int .i64 c.i,.int .i64 c.f,.int .i64 c.k,.slice sl.a1 sl.m1 sl.k1,.slice sl.a2 sl.m2 sl.k2,.slice sl.a3 sl.m3 sl.k3,.slice sl.a4 sl.m4 sl.k4,.slice sl.a5 sl.m5 sl.k5] 42)).alloc (.cells #[.int .i64 0,.int .i64 0,.int .i64 0,.int .i64 0,.int .i64 0,.slice none 0 0,.int .i64 0,.int .i64 0,.int .i64 0,.int .i64 0,.int .i64 0,.int .i64 0,.slice none 0 0,.slice none 0 0,.slice none 0 0,.slice none 0 0,.slice none 0 0] 42)) (by go_grown)
 have HV:=Lib.hid BV
 have HZ:=Lib.hid BZ
 clear BV BZ
 go_enter Tryz.func131,Tryz.ntmps131
 go_wp2_with fail
 refine (rSwap_any _ b cap ws n i old v (HC.out.grown (by go_grown)) hf hn hn').mono ?_;rintro e w1 ⟨b2,cap2,rfl,g1,h1,hb⟩
 rw [HDN.out,HWS.out]
 rw [HWS.out] at h1
 have H1:=Lib.hid h1
 have V1:=Lib.hid (HV.out.grown g1)
 have Z1:=Lib.hid (HZ.out.grown g1)
 have HB:=Lib.hid hb
 have G1:Grown w w1:=galloc (galloc g1)
 have l0:=HV.out.lt
 have l1:=HZ.out.lt
 clear h1 hb g1 HV HZ
 go_wp2_with (first
  | (refine store_part rfl 35 _ _ rfl w.heap.size 5 rfl #[.slice (some ⟨b2,0,none⟩) ws2.length cap2,.int .i64 (n + cnt ws i)] rfl [.int .i64 c.t,.int .i64 c.b,.int .i64 c.i,.int .i64 c.f,.int .i64 c.k,.slice (some ⟨b,0,none⟩) ws.length cap,.int .i64 n,.int .i64 c.t,.int .i64 c.b,.int .i64 c.i,.int .i64 c.f,.int .i64 c.k,.slice sl.a1 sl.m1 sl.k1,.slice sl.a2 sl.m2 sl.k2,.slice sl.a3 sl.m3 sl.k3,.slice sl.a4 sl.m4 sl.k4,.slice sl.a5 sl.m5 sl.k5] [.int .i64 c.t,.int .i64 c.b,.int .i64 c.i,.int .i64 c.f,.int .i64 c.k,.slice (some ⟨b2,0,none⟩) ws2.length cap2,.int .i64 (n + cnt ws i),.int .i64 c.t,.int .i64 c.b,.int .i64 c.i,.int .i64 c.f,.int .i64 c.k,.slice sl.a1 sl.m1 sl.k1,.slice sl.a2 sl.m2 sl.k2,.slice sl.a3 sl.m3 sl.k3,.slice sl.a4 sl.m4 sl.k4,.slice sl.a5 sl.m5 sl.k5] ?_ (Nat.le_of_ble_eq_true rfl) (by kernel_rfl) rfl rfl ?_;exact V1.out.grown (by go_grown);intro w2 B2 q2;have V2:=Lib.hid B2;clear B2)
  | (refine load_box rfl 42 _ rfl (w.heap.size) rfl [.int .i64 c.t,.int .i64 c.b,.int .i64 c.i,.int .i64 c.f,.int .i64 c.k,.slice (some ⟨b2,0,none⟩) ws2.length cap2,.int .i64 (n + cnt ws i),.int .i64 c.t,.int .i64 c.b,.int .i64 c.i,.int .i64 c.f,.int .i64 c.k,.slice sl.a1 sl.m1 sl.k1,.slice sl.a2 sl.m2 sl.k2,.slice sl.a3 sl.m3 sl.k3,.slice sl.a4 sl.m4 sl.k4,.slice sl.a5 sl.m5 sl.k5] _ Tryz.underlying42 rfl (by kernel_rfl) ?_ ?_;exact V2.out)
  | (refine store_box rfl 42 _ _ rfl (w.heap.size + 1) [.int .i64 0,.int .i64 0,.int .i64 0,.int .i64 0,.int .i64 0,.slice none 0 0,.int .i64 0,.int .i64 0,.int .i64 0,.int .i64 0,.int .i64 0,.int .i64 0,.slice none 0 0,.slice none 0 0,.slice none 0 0,.slice none 0 0,.slice none 0 0] ?_ #[.int .i64 c.t,.int .i64 c.b,.int .i64 c.i,.int .i64 c.f,.int .i64 c.k,.slice (some ⟨b2,0,none⟩) ws2.length cap2,.int .i64 (n + cnt ws i),.int .i64 c.t,.int .i64 c.b,.int .i64 c.i,.int .i64 c.f,.int .i64 c.k,.slice sl.a1 sl.m1 sl.k1,.slice sl.a2 sl.m2 sl.k2,.slice sl.a3 sl.m3 sl.k3,.slice sl.a4 sl.m4 sl.k4,.slice sl.a5 sl.m5 sl.k5] rfl rfl rfl (by kernel_rfl) rfl ?_;exact ((Z1.out.grown (by go_grown)).but q2 (by omega));intro w3 B3 q3;have Z3:=Lib.hid B3;clear B3)
  | fail)
 refine bodyPost_ret (results_ct Tryz.results131 rfl (Z3.out.w17 rfl)) rfl ⟨b2,cap2,rfl,?_,?_,?_⟩
 ·exact But.fresh (But.fresh (gtr G1 (by go_grown)) q2 (fun i hi => Nat.le_of_eq hi.symm)) q3 (fun i hi => by rw [hi];omega)
 ·exact fun j hj => q3.cell (by intro hx;have z0:=Z1.out.cell 0 _ rfl;have z1:=H1.out 0 (by omega);rw [hx,z0] at z1;cases z1) (q2.cell (by intro hx;have z0:=V1.out.cell 0 _ rfl;have z1:=H1.out 0 (by omega);rw [hx,z0] at z1;cases z1) (gcell (by go_grown) (H1.out j hj)))
 ·exact HB.out.imp id (fun h => by have h':=h;simp at h';omega)
end Go.Proofs.YtcogckjpmmjmbaaGreat
namespace Go.Proofs.YtcogckjpmmjmbaaGreat
open Go.ChangeShapes Go.WideShapes Go.ChangeAt Go.RowKit
set_option maxRecDepth 100000
set_option linter.unusedVariables false
set_option maxHeartbeats 1000000 in
theorem rwTurn_any (w:World) (c:Cf) (sl:Sl) (b cap:Nat) (ws:List Int) (n:Int) (i old v:Int) (hc:Holds w b ws) (hf:ws.length ≤ 1048576) (hn:0 ≤ n) (hn':n < 4611686018427387904) :
  Calls Tryz.prog 66 #[.agg #[.int .i64 c.t,.int .i64 c.b,.int .i64 c.i,.int .i64 c.f,.int .i64 c.k,.slice (some ⟨b,0,none⟩) ws.length cap,.int .i64 n,.int .i64 c.t,.int .i64 c.b,.int .i64 c.i,.int .i64 c.f,.int .i64 c.k,.slice sl.a1 sl.m1 sl.k1,.slice sl.a2 sl.m2 sl.k2,.slice sl.a3 sl.m3 sl.k3,.slice sl.a4 sl.m4 sl.k4,.slice sl.a5 sl.m5 sl.k5],.int .i64 i,.int .u64 old,.int .u64 v] w (RWb c sl b (sw ws (wrdI c i) old v) (n + cnt ws (wrdI c i)) (may ws (wrdI c i) old) w):=by
 obtain ⟨n2,hn2⟩:∃ x,n + cnt ws (wrdI c i) = x:=⟨_,rfl⟩
 obtain ⟨r,hr⟩:∃ x,may ws (wrdI c i) old = x:=⟨_,rfl⟩
 obtain ⟨ws2,hws⟩:∃ x,(sw ws (wrdI c i) old v) = x:=⟨_,rfl⟩
 have HWS:=Lib.hid hws
 rw [hn2,hr,hws]
 have HN2:=Lib.hid hn2
 have HR:=Lib.hid hr
 clear hn2 hr
 clear hws
 have HC:=Lib.hid hc
 clear hc
 have BV:=Box.made w [.int .i64 c.t,.int .i64 c.b,.int .i64 c.i,.int .i64 c.f,.int .i64 c.k,.slice (some ⟨b,0,none⟩) ws.length cap,.int .i64 n,.int .i64 c.t,.int .i64 c.b,.int .i64 c.i,.int .i64 c.f,.int .i64 c.k,.slice sl.a1 sl.m1 sl.k1,.slice sl.a2 sl.m2 sl.k2,.slice sl.a3 sl.m3 sl.k3,.slice sl.a4 sl.m4 sl.k4,.slice sl.a5 sl.m5 sl.k5] 42
 have BZ:=Box.made (w.alloc (.cells #[.int .i64 c.t,.int .i64 c.b,.int .i64 c.i,.int .i64 c.f,.int .i64 c.k,.slice (some ⟨b,0,none⟩) ws.length cap,.int .i64 n,.int .i64 c.t,.int .i64 c.b,.int .i64 c.i,.int .i64 c.f,.int .i64 c.k,.slice sl.a1 sl.m1 sl.k1,.slice sl.a2 sl.m2 sl.k2,.slice sl.a3 sl.m3 sl.k3,.slice sl.a4 sl.m4 sl.k4,.slice sl.a5 sl.m5 sl.k5] 42)) [.int .i64 0,.int .i64 0,.int .i64 0,.int .i64 0,.int .i64 0,.slice none 0 0,.int .i64 0,.int .i64 0,.int .i64 0,.int .i64 0,.int .i64 0,.int .i64 0,.slice none 0 0,.slice none 0 0,.slice none 0 0,.slice none 0 0,.slice none 0 0] 42
 have hsz:(w.alloc (.cells #[.int .i64 c.t,.int .i64 c.b,.int .i64 c.i,.int .i64 c.f,.int .i64 c.k,.slice (some ⟨b,0,none⟩) ws.length cap,.int .i64 n,.int .i64 c.t,.int .i64 c.b,.int .i64 c.i,.int .i64 c.f,.int .i64 c.k,.slice sl.a1 sl.m1 sl.k1,.slice sl.a2 sl.m2 sl.k2,.slice sl.a3 sl.m3 sl.k3,.slice sl.a4 sl.m4 sl.k4,.slice sl.a5 sl.m5 sl.k5] 42)).heap.size = w.heap.size + 1:=by simp
 rw [hsz] at BZ
 clear hsz
 replace BV:=BV.grown (w':=(w.alloc (.cells #[.int .i64 c.t,.int .i64 c.b,.int .i64 c.i,.int .i64 c.f,.int .i64 c.k,.slice (some ⟨b,0,none⟩) ws.length cap,.int .i64 n,.int .i64 c.t,.int .i64 c.b,.int .i64 c.i,.int .i64 c.f,.int .i64 c.k,.slice sl.a1 sl.m1 sl.k1,.slice sl.a2 sl.m2 sl.k2,.slice sl.a3 sl.m3 sl.k3,.slice sl.a4 sl.m4 sl.k4,.slice sl.a5 sl.m5 sl.k5] 42)).alloc (.cells #[.int .i64 0,.int .i64 0,.int .i64 0,.int .i64 0,.int .i64 0,.slice none 0 0,.int .i64 0,.int .i64 0,.int .i64 0,.int .i64 0,.int .i64 0,.int .i64 0,.slice none 0 0,.slice none 0 0,.slice none 0 0,.slice none 0 0,.slice none 0 0] 42)) (by go_grown)
 have HV:=Lib.hid BV
 have HZ:=Lib.hid BZ
 clear BV BZ
 go_enter Tryz.func66,Tryz.ntmps66
 go_wp2_with fail
 refine wp_region_planb (fun i => i = w.heap.size + 1) (.one [0,1,2,3,5,6] 4 (.one [] 7 (.one [8,9] 10 (.fin [11])))) (by kernel_rfl) (by kernel_rfl) (by kernel_rfl) ?_
 intro w2 g2
 have d0:∀ g:ButW (fun i => i = w.heap.size + 1) w2,g.w.cell? ⟨w.heap.size,0,none⟩ = some (.int .i64 c.t):=ButW.cell (by omega) ((HV.out.grown g2).cell 0 _ rfl)
 have d1:∀ g:ButW (fun i => i = w.heap.size + 1) w2,g.w.cell? ⟨w.heap.size,1,none⟩ = some (.int .i64 c.b):=ButW.cell (by omega) ((HV.out.grown g2).cell 1 _ rfl)
 have d2:∀ g:ButW (fun i => i = w.heap.size + 1) w2,g.w.cell? ⟨w.heap.size,2,none⟩ = some (.int .i64 c.i):=ButW.cell (by omega) ((HV.out.grown g2).cell 2 _ rfl)
 have d3:∀ g:ButW (fun i => i = w.heap.size + 1) w2,g.w.cell? ⟨w.heap.size,3,none⟩ = some (.int .i64 c.f):=ButW.cell (by omega) ((HV.out.grown g2).cell 3 _ rfl)
 have d4:∀ g:ButW (fun i => i = w.heap.size + 1) w2,g.w.cell? ⟨w.heap.size,4,none⟩ = some (.int .i64 c.k):=ButW.cell (by omega) ((HV.out.grown g2).cell 4 _ rfl)
 have d5:∀ g:ButW (fun i => i = w.heap.size + 1) w2,g.w.cell? ⟨w.heap.size,5,none⟩ = some (.slice (some ⟨b,0,none⟩) ws.length cap):=ButW.cell (by omega) ((HV.out.grown g2).cell 5 _ rfl)
 have d6:∀ g:ButW (fun i => i = w.heap.size + 1) w2,g.w.cell? ⟨w.heap.size,6,none⟩ = some (.int .i64 n):=ButW.cell (by omega) ((HV.out.grown g2).cell 6 _ rfl)
 have d7:∀ g:ButW (fun i => i = w.heap.size + 1) w2,g.w.cell? ⟨w.heap.size,7,none⟩ = some (.int .i64 c.t):=ButW.cell (by omega) ((HV.out.grown g2).cell 7 _ rfl)
 have d8:∀ g:ButW (fun i => i = w.heap.size + 1) w2,g.w.cell? ⟨w.heap.size,8,none⟩ = some (.int .i64 c.b):=ButW.cell (by omega) ((HV.out.grown g2).cell 8 _ rfl)
 have d9:∀ g:ButW (fun i => i = w.heap.size + 1) w2,g.w.cell? ⟨w.heap.size,9,none⟩ = some (.int .i64 c.i):=ButW.cell (by omega) ((HV.out.grown g2).cell 9 _ rfl)
 have d10:∀ g:ButW (fun i => i = w.heap.size + 1) w2,g.w.cell? ⟨w.heap.size,10,none⟩ = some (.int .i64 c.f):=ButW.cell (by omega) ((HV.out.grown g2).cell 10 _ rfl)
 have d11:∀ g:ButW (fun i => i = w.heap.size + 1) w2,g.w.cell? ⟨w.heap.size,11,none⟩ = some (.int .i64 c.k):=ButW.cell (by omega) ((HV.out.grown g2).cell 11 _ rfl)
 have d12:∀ g:ButW (fun i => i = w.heap.size + 1) w2,g.w.cell? ⟨w.heap.size,12,none⟩ = some (.slice sl.a1 sl.m1 sl.k1):=ButW.cell (by omega) ((HV.out.grown g2).cell 12 _ rfl)
 have d13:∀ g:ButW (fun i => i = w.heap.size + 1) w2,g.w.cell? ⟨w.heap.size,13,none⟩ = some (.slice sl.a2 sl.m2 sl.k2):=ButW.cell (by omega) ((HV.out.grown g2).cell 13 _ rfl)
 have d14:∀ g:ButW (fun i => i = w.heap.size + 1) w2,g.w.cell? ⟨w.heap.size,14,none⟩ = some (.slice sl.a3 sl.m3 sl.k3):=ButW.cell (by omega) ((HV.out.grown g2).cell 14 _ rfl)
 have d15:∀ g:ButW (fun i => i = w.heap.size + 1) w2,g.w.cell? ⟨w.heap.size,15,none⟩ = some (.slice sl.a4 sl.m4 sl.k4):=ButW.cell (by omega) ((HV.out.grown g2).cell 15 _ rfl)
 have d16:∀ g:ButW (fun i => i = w.heap.size + 1) w2,g.w.cell? ⟨w.heap.size,16,none⟩ = some (.slice sl.a5 sl.m5 sl.k5):=ButW.cell (by omega) ((HV.out.grown g2).cell 16 _ rfl)
 refine plan_one ?_
 simp only [nths,nth,List.map_cons,List.map_nil,List.getD_cons_zero,List.getD_cons_succ]
 repeat go_big_quiet_step (fail)
 refine wpQuiet_nil ?_
 clear d0 d1 d2 d3 d4 d5 d6 d7 d8 d9 d10 d11 d12 d13 d14 d15 d16
 go_wp2_with fail
 refine (rWord_at _ _ _ _ _ _ _ _ rfl).mono ?_;rintro e w3 ⟨rfl,g3⟩
 rw [show vWord ↑c.t ↑c.b ↑c.i ↑c.f ↑c.k i = wrdI c i from rfl]
 go_wp2_with fail
 refine nxt_but (But.of_grown g3) (plan_one ?_)
 simp only [nths,nth,List.map_nil,List.getD_cons_zero,List.getD_cons_succ]
 refine wpQuiet_nil ?_
 go_wp2_with fail
 have G3:Grown w w3:=gtr (by go_grown) (gtr g2 g3)
 refine (rwswap_any _ c sl b cap ws n (wrdI c i) old v (HC.out.grown G3) hf hn hn').mono ?_;rintro e w4 ⟨b2,cap2,rfl,g4,h4,hb⟩
 rw [HWS.out] at h4
 have H4:=Lib.hid h4
 have HB:Hid (b2 = b ∨ w.heap.size ≤ b2):=Lib.hid (hb.imp id (Nat.le_trans G3.2.2))
 have Z4:=Lib.hid (HZ.out.grown (gtr g2 (gtr g3 g4)))
 have hz:=HZ.out.lt
 clear h4 hb
 rw [HN2.out,HR.out,HWS.out]
 go_wp2_with fail
 refine nxt_but (But.of_grown (gtr g3 g4)) (plan_one ?_)
 simp only [nths,nth,List.map_cons,List.map_nil,List.getD_cons_zero,List.getD_cons_succ]
 repeat go_big_quiet_step (fail)
 refine wpQuiet_nil ?_
 go_wp2_with (first | (refine store_box rfl 42 _ _ rfl (w.heap.size + 1) [.int .i64 0,.int .i64 0,.int .i64 0,.int .i64 0,.int .i64 0,.slice none 0 0,.int .i64 0,.int .i64 0,.int .i64 0,.int .i64 0,.int .i64 0,.int .i64 0,.slice none 0 0,.slice none 0 0,.slice none 0 0,.slice none 0 0,.slice none 0 0] ?_ #[.int .i64 c.t,.int .i64 c.b,.int .i64 c.i,.int .i64 c.f,.int .i64 c.k,.slice (some ⟨b2,0,none⟩) ws2.length cap2,.int .i64 n2,.int .i64 c.t,.int .i64 c.b,.int .i64 c.i,.int .i64 c.f,.int .i64 c.k,.slice sl.a1 sl.m1 sl.k1,.slice sl.a2 sl.m2 sl.k2,.slice sl.a3 sl.m3 sl.k3,.slice sl.a4 sl.m4 sl.k4,.slice sl.a5 sl.m5 sl.k5] rfl rfl rfl (by kernel_rfl) rfl ?_;exact Z4.out;intro w5 B5 q5;have Z5:=Lib.hid B5;clear B5) | fail)
 refine nxt_but ((But.of_grown (gtr g3 g4)).trans q5) (plan_fin ?_)
 simp only [nths,nth,List.map_cons,List.map_nil,List.getD_cons_zero,List.getD_cons_succ]
 repeat go_big_quiet_step (fail)
 refine wpQuiet_nil ?_
 go_wp2_with fail
 refine bodyPost_ret (results_ct Tryz.results66 rfl (Z5.out.w17 rfl)) rfl ⟨b2,cap2,rfl,?_,?_,HB.out⟩
 ·exact But.fresh (gtr G3 g4) q5 (fun i hi => by rw [hi];omega)
 ·exact fun j hj => q5.cell (by intro hx;have z0:=Z4.out.cell 0 _ rfl;have z1:=H4.out 0 (by omega);rw [hx,z0] at z1;cases z1) (H4.out j hj)
end Go.Proofs.YtcogckjpmmjmbaaGreat
namespace Go.Proofs.YtcogckjpmmjmbaaGreat
open Go.ChangeShapes Go.WideShapes Go.ChangeAt Go.RowKit
set_option maxRecDepth 100000
set_option linter.unusedVariables false
set_option maxHeartbeats 1000000 in
theorem rwSet_any (w:World) (c:Cf) (sl:Sl) (b cap:Nat) (ws:List Int) (n:Int) (i v:Int) (hc:Holds w b ws) (hf:ws.length ≤ 1048576) (hn:0 ≤ n) (hn':n < 4611686018427387904) :
  Calls Tryz.prog 69 #[.agg #[.int .i64 c.t,.int .i64 c.b,.int .i64 c.i,.int .i64 c.f,.int .i64 c.k,.slice (some ⟨b,0,none⟩) ws.length cap,.int .i64 n,.int .i64 c.t,.int .i64 c.b,.int .i64 c.i,.int .i64 c.f,.int .i64 c.k,.slice sl.a1 sl.m1 sl.k1,.slice sl.a2 sl.m2 sl.k2,.slice sl.a3 sl.m3 sl.k3,.slice sl.a4 sl.m4 sl.k4,.slice sl.a5 sl.m5 sl.k5],.int .i64 i,.int .u64 v] w (RW1 c sl b (wr ws (nxtI c i) v) (n + cnt ws (nxtI c i)) w):=by
 obtain ⟨n2,hn2⟩:∃ x,n + cnt ws (nxtI c i) = x:=⟨_,rfl⟩
 obtain ⟨ws2,hws⟩:∃ x,(wr ws (nxtI c i) v) = x:=⟨_,rfl⟩
 rw [hn2,hws]
 have HN2:=Lib.hid hn2
 have HWS:=Lib.hid hws
 clear hn2 hws
 have HC:=Lib.hid hc
 clear hc
 have BV:=Box.made w [.int .i64 c.t,.int .i64 c.b,.int .i64 c.i,.int .i64 c.f,.int .i64 c.k,.slice (some ⟨b,0,none⟩) ws.length cap,.int .i64 n,.int .i64 c.t,.int .i64 c.b,.int .i64 c.i,.int .i64 c.f,.int .i64 c.k,.slice sl.a1 sl.m1 sl.k1,.slice sl.a2 sl.m2 sl.k2,.slice sl.a3 sl.m3 sl.k3,.slice sl.a4 sl.m4 sl.k4,.slice sl.a5 sl.m5 sl.k5] 42
 have BZ:=Box.made (w.alloc (.cells #[.int .i64 c.t,.int .i64 c.b,.int .i64 c.i,.int .i64 c.f,.int .i64 c.k,.slice (some ⟨b,0,none⟩) ws.length cap,.int .i64 n,.int .i64 c.t,.int .i64 c.b,.int .i64 c.i,.int .i64 c.f,.int .i64 c.k,.slice sl.a1 sl.m1 sl.k1,.slice sl.a2 sl.m2 sl.k2,.slice sl.a3 sl.m3 sl.k3,.slice sl.a4 sl.m4 sl.k4,.slice sl.a5 sl.m5 sl.k5] 42)) [.int .i64 0,.int .i64 0,.int .i64 0,.int .i64 0,.int .i64 0,.slice none 0 0,.int .i64 0,.int .i64 0,.int .i64 0,.int .i64 0,.int .i64 0,.int .i64 0,.slice none 0 0,.slice none 0 0,.slice none 0 0,.slice none 0 0,.slice none 0 0] 42
 have hsz:(w.alloc (.cells #[.int .i64 c.t,.int .i64 c.b,.int .i64 c.i,.int .i64 c.f,.int .i64 c.k,.slice (some ⟨b,0,none⟩) ws.length cap,.int .i64 n,.int .i64 c.t,.int .i64 c.b,.int .i64 c.i,.int .i64 c.f,.int .i64 c.k,.slice sl.a1 sl.m1 sl.k1,.slice sl.a2 sl.m2 sl.k2,.slice sl.a3 sl.m3 sl.k3,.slice sl.a4 sl.m4 sl.k4,.slice sl.a5 sl.m5 sl.k5] 42)).heap.size = w.heap.size + 1:=by simp
 rw [hsz] at BZ
 clear hsz
 replace BV:=BV.grown (w':=(w.alloc (.cells #[.int .i64 c.t,.int .i64 c.b,.int .i64 c.i,.int .i64 c.f,.int .i64 c.k,.slice (some ⟨b,0,none⟩) ws.length cap,.int .i64 n,.int .i64 c.t,.int .i64 c.b,.int .i64 c.i,.int .i64 c.f,.int .i64 c.k,.slice sl.a1 sl.m1 sl.k1,.slice sl.a2 sl.m2 sl.k2,.slice sl.a3 sl.m3 sl.k3,.slice sl.a4 sl.m4 sl.k4,.slice sl.a5 sl.m5 sl.k5] 42)).alloc (.cells #[.int .i64 0,.int .i64 0,.int .i64 0,.int .i64 0,.int .i64 0,.slice none 0 0,.int .i64 0,.int .i64 0,.int .i64 0,.int .i64 0,.int .i64 0,.int .i64 0,.slice none 0 0,.slice none 0 0,.slice none 0 0,.slice none 0 0,.slice none 0 0] 42)) (by go_grown)
 have HV:=Lib.hid BV
 have HZ:=Lib.hid BZ
 clear BV BZ
 go_enter Tryz.func69,Tryz.ntmps69
 go_wp2_with fail
 refine wp_region_plank (fun i => i = w.heap.size) (fun i o => i = w.heap.size ∧ o < 5) (.two [0,2,3,4,6] 1 (.one [] 5 (.one [] 7 (.one [8] 9 (.fin [])))) 5 (.one [] 1 (.one [] 7 (.one [8] 9 (.fin []))))) (by kernel_rfl) (by kernel_rfl) (by kernel_rfl) ?_
 intro w2 g2
 have V2:=Lib.hid (HV.out.grown g2)
 have d0:∀ g:KeptW (fun i => i = w.heap.size) (fun i o => i = w.heap.size ∧ o < 5) w2,g.w.cell? ⟨w.heap.size,0,none⟩ = some (.int .i64 c.t):=KeptW.cell ⟨rfl,by omega⟩ (V2.out.cell 0 _ rfl)
 have d1:∀ g:KeptW (fun i => i = w.heap.size) (fun i o => i = w.heap.size ∧ o < 5) w2,g.w.cell? ⟨w.heap.size,1,none⟩ = some (.int .i64 c.b):=KeptW.cell ⟨rfl,by omega⟩ (V2.out.cell 1 _ rfl)
 have d2:∀ g:KeptW (fun i => i = w.heap.size) (fun i o => i = w.heap.size ∧ o < 5) w2,g.w.cell? ⟨w.heap.size,2,none⟩ = some (.int .i64 c.i):=KeptW.cell ⟨rfl,by omega⟩ (V2.out.cell 2 _ rfl)
 have d3:∀ g:KeptW (fun i => i = w.heap.size) (fun i o => i = w.heap.size ∧ o < 5) w2,g.w.cell? ⟨w.heap.size,3,none⟩ = some (.int .i64 c.f):=KeptW.cell ⟨rfl,by omega⟩ (V2.out.cell 3 _ rfl)
 have d4:∀ g:KeptW (fun i => i = w.heap.size) (fun i o => i = w.heap.size ∧ o < 5) w2,g.w.cell? ⟨w.heap.size,4,none⟩ = some (.int .i64 c.k):=KeptW.cell ⟨rfl,by omega⟩ (V2.out.cell 4 _ rfl)
 refine plan_two ?_
 simp only [nths,nth,List.map_cons,List.map_nil,List.getD_cons_zero,List.getD_cons_succ]
 repeat go_big_quiet_step (fail)
 clear d0 d1 d2 d3 d4
 refine wpQuiet_nil ⟨?_,?_⟩
 ·have c5:=V2.out.cell 5 _ rfl
  have c6:=V2.out.cell 6 _ rfl
  go_wp2_with fail
  refine nxt_keptg (Grown.refl _) (plan_one ?_)
  simp only [nths,nth,List.map_nil,List.getD_cons_zero,List.getD_cons_succ]
  refine wpQuiet_nil ?_
  clear c5 c6
  go_wp2_with fail
  refine (rNext_at _ _ _ _ _ _ _ _ rfl).mono ?_;rintro e w3 ⟨rfl,g3⟩
  rw [show vNext ↑c.t ↑c.b ↑c.i ↑c.f ↑c.k i = nxtI c i from rfl]
  go_wp2_with fail
  refine nxt_keptg g3 (plan_one ?_)
  simp only [nths,nth,List.map_nil,List.getD_cons_zero,List.getD_cons_succ]
  refine wpQuiet_nil ?_
  go_wp2_with fail
  have G3:Grown w w3:=gtr (by go_grown) (gtr g2 g3)
  refine (rStore_any _ b cap ws n (nxtI c i) v (HC.out.grown G3) hf hn hn').mono ?_;rintro e w4 ⟨b2,cap2,rfl,g4,h4,hb⟩
  rw [HWS.out] at h4
  have H4:=Lib.hid h4
  have HB:Hid (b2 = b ∨ w.heap.size ≤ b2):=Lib.hid (hb.imp id (Nat.le_trans G3.2.2))
  have V4:=Lib.hid (V2.out.grown (gtr g3 g4))
  have Z4:=Lib.hid (HZ.out.grown (gtr g2 (gtr g3 g4)))
  have hz:=HZ.out.lt
  clear h4 hb
  rw [HN2.out,HWS.out]
  go_wp2_with fail
  refine nxt_keptg (gtr g3 g4) (plan_one ?_)
  simp only [nths,nth,List.map_cons,List.map_nil,List.getD_cons_zero,List.getD_cons_succ]
  repeat go_big_quiet_step (fail)
  refine wpQuiet_nil ?_
  go_wp2_with (first | (refine store_part rfl 35 _ _ rfl w.heap.size 5 rfl #[.slice (some ⟨b2,0,none⟩) ws2.length cap2,.int .i64 n2] rfl [.int .i64 c.t,.int .i64 c.b,.int .i64 c.i,.int .i64 c.f,.int .i64 c.k,.slice (some ⟨b,0,none⟩) ws.length cap,.int .i64 n,.int .i64 c.t,.int .i64 c.b,.int .i64 c.i,.int .i64 c.f,.int .i64 c.k,.slice sl.a1 sl.m1 sl.k1,.slice sl.a2 sl.m2 sl.k2,.slice sl.a3 sl.m3 sl.k3,.slice sl.a4 sl.m4 sl.k4,.slice sl.a5 sl.m5 sl.k5] [.int .i64 c.t,.int .i64 c.b,.int .i64 c.i,.int .i64 c.f,.int .i64 c.k,.slice (some ⟨b2,0,none⟩) ws2.length cap2,.int .i64 n2,.int .i64 c.t,.int .i64 c.b,.int .i64 c.i,.int .i64 c.f,.int .i64 c.k,.slice sl.a1 sl.m1 sl.k1,.slice sl.a2 sl.m2 sl.k2,.slice sl.a3 sl.m3 sl.k3,.slice sl.a4 sl.m4 sl.k4,.slice sl.a5 sl.m5 sl.k5] ?_ (Nat.le_of_ble_eq_true rfl) (by kernel_rfl) rfl rfl ?_;exact V4.out;intro w5 B5 q5;have V5:=Lib.hid B5;clear B5) | fail)
  refine nxt_kept ((But.of_grown (gtr g3 g4)).trans q5) (Box.keep (n:=5) V2.out V5.out rfl (Nat.le_of_ble_eq_true rfl)) (plan_fin ?_)
  simp only [nths,List.map_nil]
  refine wpQuiet_nil ?_
  go_wp2_with (first | (refine load_box rfl 42 _ rfl (w.heap.size) rfl [.int .i64 c.t,.int .i64 c.b,.int .i64 c.i,.int .i64 c.f,.int .i64 c.k,.slice (some ⟨b2,0,none⟩) ws2.length cap2,.int .i64 n2,.int .i64 c.t,.int .i64 c.b,.int .i64 c.i,.int .i64 c.f,.int .i64 c.k,.slice sl.a1 sl.m1 sl.k1,.slice sl.a2 sl.m2 sl.k2,.slice sl.a3 sl.m3 sl.k3,.slice sl.a4 sl.m4 sl.k4,.slice sl.a5 sl.m5 sl.k5] _ Tryz.underlying42 rfl (by kernel_rfl) ?_ ?_;exact V5.out) | (refine store_box rfl 42 _ _ rfl (w.heap.size + 1) [.int .i64 0,.int .i64 0,.int .i64 0,.int .i64 0,.int .i64 0,.slice none 0 0,.int .i64 0,.int .i64 0,.int .i64 0,.int .i64 0,.int .i64 0,.int .i64 0,.slice none 0 0,.slice none 0 0,.slice none 0 0,.slice none 0 0,.slice none 0 0] ?_ #[.int .i64 c.t,.int .i64 c.b,.int .i64 c.i,.int .i64 c.f,.int .i64 c.k,.slice (some ⟨b2,0,none⟩) ws2.length cap2,.int .i64 n2,.int .i64 c.t,.int .i64 c.b,.int .i64 c.i,.int .i64 c.f,.int .i64 c.k,.slice sl.a1 sl.m1 sl.k1,.slice sl.a2 sl.m2 sl.k2,.slice sl.a3 sl.m3 sl.k3,.slice sl.a4 sl.m4 sl.k4,.slice sl.a5 sl.m5 sl.k5] rfl rfl rfl (by kernel_rfl) rfl ?_;exact (Z4.out.but q5 (by omega));intro w6 B6 q6;have Z6:=Lib.hid B6;clear B6) | fail)
  refine bodyPost_ret (results_c Tryz.results69 rfl (Z6.out.w17 rfl)) rfl ⟨b2,cap2,rfl,?_,?_,HB.out⟩
  ·exact But.fresh (But.fresh (gtr G3 g4) q5 (fun i hi => by rw [hi];omega)) q6 (fun i hi => by rw [hi];omega)
  ·exact fun j hj => q6.cell (by intro hx;have z0:=Z4.out.cell 0 _ rfl;have z1:=H4.out 0 (by omega);rw [hx,z0] at z1;cases z1) (q5.cell (by intro hx;have z0:=V4.out.cell 0 _ rfl;have z1:=H4.out 0 (by omega);rw [hx,z0] at z1;cases z1) (H4.out j hj))
 ·go_wp2_with fail
  refine (rNext_at _ _ _ _ _ _ _ _ rfl).mono ?_;rintro e w3 ⟨rfl,g3⟩
  rw [show vNext ↑c.t ↑c.b ↑c.i ↑c.f ↑c.k i = nxtI c i from rfl]
  go_wp2_with fail
  refine nxt_keptg g3 (plan_one ?_)
  simp only [nths,nth,List.map_nil,List.getD_cons_zero,List.getD_cons_succ]
  refine wpQuiet_nil ?_
  have c5:=(V2.out.grown g3).cell 5 _ rfl
  have c6:=(V2.out.grown g3).cell 6 _ rfl
  go_wp2_with fail
  refine nxt_keptg g3 (plan_one ?_)
  simp only [nths,nth,List.map_nil,List.getD_cons_zero,List.getD_cons_succ]
  refine wpQuiet_nil ?_
  go_wp2_with fail
  have G3:Grown w w3:=gtr (by go_grown) (gtr g2 g3)
  refine (rStore_any _ b cap ws n (nxtI c i) v (HC.out.grown G3) hf hn hn').mono ?_;rintro e w4 ⟨b2,cap2,rfl,g4,h4,hb⟩
  rw [HWS.out] at h4
  have H4:=Lib.hid h4
  have HB:Hid (b2 = b ∨ w.heap.size ≤ b2):=Lib.hid (hb.imp id (Nat.le_trans G3.2.2))
  have V4:=Lib.hid (V2.out.grown (gtr g3 g4))
  have Z4:=Lib.hid (HZ.out.grown (gtr g2 (gtr g3 g4)))
  have hz:=HZ.out.lt
  clear h4 hb
  rw [HN2.out,HWS.out]
  go_wp2_with fail
  refine nxt_keptg (gtr g3 g4) (plan_one ?_)
  simp only [nths,nth,List.map_cons,List.map_nil,List.getD_cons_zero,List.getD_cons_succ]
  repeat go_big_quiet_step (fail)
  refine wpQuiet_nil ?_
  go_wp2_with (first | (refine store_part rfl 35 _ _ rfl w.heap.size 5 rfl #[.slice (some ⟨b2,0,none⟩) ws2.length cap2,.int .i64 n2] rfl [.int .i64 c.t,.int .i64 c.b,.int .i64 c.i,.int .i64 c.f,.int .i64 c.k,.slice (some ⟨b,0,none⟩) ws.length cap,.int .i64 n,.int .i64 c.t,.int .i64 c.b,.int .i64 c.i,.int .i64 c.f,.int .i64 c.k,.slice sl.a1 sl.m1 sl.k1,.slice sl.a2 sl.m2 sl.k2,.slice sl.a3 sl.m3 sl.k3,.slice sl.a4 sl.m4 sl.k4,.slice sl.a5 sl.m5 sl.k5] [.int .i64 c.t,.int .i64 c.b,.int .i64 c.i,.int .i64 c.f,.int .i64 c.k,.slice (some ⟨b2,0,none⟩) ws2.length cap2,.int .i64 n2,.int .i64 c.t,.int .i64 c.b,.int .i64 c.i,.int .i64 c.f,.int .i64 c.k,.slice sl.a1 sl.m1 sl.k1,.slice sl.a2 sl.m2 sl.k2,.slice sl.a3 sl.m3 sl.k3,.slice sl.a4 sl.m4 sl.k4,.slice sl.a5 sl.m5 sl.k5] ?_ (Nat.le_of_ble_eq_true rfl) (by kernel_rfl) rfl rfl ?_;exact V4.out;intro w5 B5 q5;have V5:=Lib.hid B5;clear B5) | fail)
  refine nxt_kept ((But.of_grown (gtr g3 g4)).trans q5) (Box.keep (n:=5) V2.out V5.out rfl (Nat.le_of_ble_eq_true rfl)) (plan_fin ?_)
  simp only [nths,List.map_nil]
  refine wpQuiet_nil ?_
  go_wp2_with (first | (refine load_box rfl 42 _ rfl (w.heap.size) rfl [.int .i64 c.t,.int .i64 c.b,.int .i64 c.i,.int .i64 c.f,.int .i64 c.k,.slice (some ⟨b2,0,none⟩) ws2.length cap2,.int .i64 n2,.int .i64 c.t,.int .i64 c.b,.int .i64 c.i,.int .i64 c.f,.int .i64 c.k,.slice sl.a1 sl.m1 sl.k1,.slice sl.a2 sl.m2 sl.k2,.slice sl.a3 sl.m3 sl.k3,.slice sl.a4 sl.m4 sl.k4,.slice sl.a5 sl.m5 sl.k5] _ Tryz.underlying42 rfl (by kernel_rfl) ?_ ?_;exact V5.out) | (refine store_box rfl 42 _ _ rfl (w.heap.size + 1) [.int .i64 0,.int .i64 0,.int .i64 0,.int .i64 0,.int .i64 0,.slice none 0 0,.int .i64 0,.int .i64 0,.int .i64 0,.int .i64 0,.int .i64 0,.int .i64 0,.slice none 0 0,.slice none 0 0,.slice none 0 0,.slice none 0 0,.slice none 0 0] ?_ #[.int .i64 c.t,.int .i64 c.b,.int .i64 c.i,.int .i64 c.f,.int .i64 c.k,.slice (some ⟨b2,0,none⟩) ws2.length cap2,.int .i64 n2,.int .i64 c.t,.int .i64 c.b,.int .i64 c.i,.int .i64 c.f,.int .i64 c.k,.slice sl.a1 sl.m1 sl.k1,.slice sl.a2 sl.m2 sl.k2,.slice sl.a3 sl.m3 sl.k3,.slice sl.a4 sl.m4 sl.k4,.slice sl.a5 sl.m5 sl.k5] rfl rfl rfl (by kernel_rfl) rfl ?_;exact (Z4.out.but q5 (by omega));intro w6 B6 q6;have Z6:=Lib.hid B6;clear B6) | fail)
  refine bodyPost_ret (results_c Tryz.results69 rfl (Z6.out.w17 rfl)) rfl ⟨b2,cap2,rfl,?_,?_,HB.out⟩
  ·exact But.fresh (But.fresh (gtr G3 g4) q5 (fun i hi => by rw [hi];omega)) q6 (fun i hi => by rw [hi];omega)
  ·exact fun j hj => q6.cell (by intro hx;have z0:=Z4.out.cell 0 _ rfl;have z1:=H4.out 0 (by omega);rw [hx,z0] at z1;cases z1) (q5.cell (by intro hx;have z0:=V4.out.cell 0 _ rfl;have z1:=H4.out 0 (by omega);rw [hx,z0] at z1;cases z1) (H4.out j hj))
end Go.Proofs.YtcogckjpmmjmbaaGreat
namespace Go.Proofs.YtcogckjpmmjmbaaGreat
open Go.ChangeShapes Go.WideShapes Go.ChangeAt Go.RowKit
set_option maxRecDepth 100000
set_option linter.unusedVariables false
end Go.Proofs.YtcogckjpmmjmbaaGreat
