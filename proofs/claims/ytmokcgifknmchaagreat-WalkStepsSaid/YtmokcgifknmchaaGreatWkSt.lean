/- WalkSteps (corrielaw10), walked. -/
import Derived.Test.YtmokcgifknmchaaGreatMAct
import Derived.Test.YtmokcgifknmchaaGreatMScene
import Derived.Test.YtmokcgifknmchaaGreatWkRun
import Derived.Test.YtmokcgifknmchaaGreatRWalkK
import Derived.Test.YtmokcgifknmchaaGreatWkEq
import Derived.Test.YtmokcgifknmchaaGreatWkSm
import Derived.Test.YtmokcgifknmchaaGreatVars
namespace Go.Proofs.YtmokcgifknmchaaGreat
open Go.ChangeShapes Go.WideShapes Go.ChangeAt Go.RowKit
set_option maxRecDepth 100000
set_option linter.unusedVariables false
def disW (c:Cf) (act:Nat → ActX) (m k:Nat) (y:Kd):Kd :=
 if k < m ∧ 0 < (act k).k % 3 then ⟨(actX c (decide ((act k).k % 3 = 1)) y.ws y.n (act k)).1,(actX c (decide ((act k).k % 3 = 1)) y.ws y.n (act k)).2,y.x⟩ else y
def runW (c:Cf) (s:St) (act:Nat → ActX) (m:Nat) (y:Kd):Nat → Kd
 | 0 => y
 | k + 1 => stepK c s (disW c act m k (runW c s act m y k))
theorem KOk.dis {c:Cf} {act:Nat → ActX} {m k:Nat} {y:Kd} {M:Int} (h:KOk y M) (ha:∀ j,j < m → 0 ≤ (act j).v ∧ (act j).v ≤ 18446744073709551615):KOk (disW c act m k y) (M + 1):=by
 unfold disW
 split
 ·next hk =>
  have h1:=actX_n c (decide ((act k).k % 3 = 1)) y.ws y.n (act k)
  have n0:=h.n0;have n1:=h.n1
  exact ⟨actX_ok _ _ _ _ _ h.wok (ha k hk.1).1 (ha k hk.1).2,h.ok,by simp only;omega,by simp only;omega⟩
 ·exact ⟨h.wok,h.ok,h.n0,by have:=h.n1;omega⟩
theorem KOk.runW {c:Cf} {s:St} {act:Nat → ActX} {m:Nat} {y:Kd} {M:Int} (h:KOk y M) (ha:∀ j,j < m → 0 ≤ (act j).v ∧ (act j).v ≤ 18446744073709551615):∀ k:Nat,KOk (Go.Proofs.YtmokcgifknmchaaGreat.runW c s act m y k) (M + 2 * k)
 | 0 => by simpa [Go.Proofs.YtmokcgifknmchaaGreat.runW] using h
 | k + 1 => by
  have h1:=((KOk.runW (c:=c) (s:=s) h ha k).dis (c:=c) (k:=k) ha).step (c:=c) (s:=s)
  rw [show M + 2 * (((k + 1:Nat)):Int) = M + 2 * k + 1 + 1 by omega]
  exact h1
theorem DV.putO {hi:Nat} {c:Cf} {T:Nat} {w w':World} {ws:List Int} {n:Int} {s:St} {bk cp:Nat} {sl:Sl} {A:Nat} (h:DV hi c T ws n s bk cp sl w) (o:OffS sl A) (hT:¬ T = A) (hb:¬ bk = A) (q:But (fun i => i = A) w w'):DV hi c T ws n s bk cp sl w' :=
 ⟨h.box.but q hT,h.holds.but q hb,h.len,RefH.put h.refs o q,h.lo,h.off,h.ne⟩
set_option maxHeartbeats 16000000 in
theorem law_WalkSteps (f:Nat) (vi vc:Value) (xs:List It) (cs:List Cal) (y0 y1 y2 y3 y4:Int) (y5 y6 y7:Int) (y8 y9:Bool) (A:Option Addr) (bb off m cap:Nat) (w:World) (hf:f ≤ 255) (hi:RowO w vi (flatI xs) xs.length) (hc:RowO w vc (flatK cs) cs.length) (hw:∀ x ∈ xs,x.Wf) (l0:0 ≤ y0) (u0:y0 ≤ 18446744073709551615) (l1:-9223372036854775808 ≤ y1) (u1:y1 ≤ 9223372036854775807) (l2:-9223372036854775808 ≤ y2) (u2:y2 ≤ 9223372036854775807) (l3:-9223372036854775808 ≤ y3) (u3:y3 ≤ 9223372036854775807) (l4:-9223372036854775808 ≤ y4) (u4:y4 ≤ 9223372036854775807) (l5:0 ≤ y5) (u5:y5 ≤ 18446744073709551615) (l6:-9223372036854775808 ≤ y6) (u6:y6 ≤ 9223372036854775807) (l7:-9223372036854775808 ≤ y7) (u7:y7 ≤ 9223372036854775807) (hA:0 < m → A = some ⟨bb,off,none⟩) (hN:NumsAt w bb off m [.u8,.i64,.u16,.u64,.u64]) :
  Calls Tryz.prog 5 #[.agg #[.int .u8 (f:Int),vi,vc],.agg #[.int .u64 y0,.int .i64 y1,.int .i64 y2,.int .i64 y3,.int .i64 y4,.int .u64 y5,.int .i64 y6,.int .i64 y7,.bool y8,.bool y9],.slice A m cap] w fun e w' => e = .returned (.bool true) ∧ Grown w w':=by
 obtain ⟨x,hx⟩:∃ x:Wk,(⟨y0,y1,y2,y3,y4,y5,y6,y7,y8,y9⟩:Wk) = x:=⟨_,rfl⟩
 have hxl:#[.int .u64 y0,.int .i64 y1,.int .i64 y2,.int .i64 y3,.int .i64 y4,.int .u64 y5,.int .i64 y6,.int .i64 y7,.bool y8,.bool y9] = x.l.toArray:=by rw [← hx];rfl
 rw [hxl]
 obtain ⟨key,hkey⟩:∃ k,y0 = k:=⟨_,rfl⟩
 obtain ⟨mode,hmode⟩:∃ k,y1 = k:=⟨_,rfl⟩
 have HKX:Hid ([.int .u64 key,.int .i64 mode,.int .i64 y2,.int .i64 y3,.int .i64 y4,.int .u64 y5,.int .i64 y6,.int .i64 y7,.bool y8,.bool y9] = x.l):=Lib.hid (by rw [← hkey,← hmode,← hx];rfl)
 clear hxl hx hkey hmode l0 u0 l1 u1 l2 u2 l3 u3 l4 u4 l5 u5 l6 u6 l7 u7
 obtain ⟨v,hv⟩:∃ v,decide (xs.length ≤ 12 ∧ cs.length ≤ 6) = v:=⟨_,rfl⟩
 have HF:Hid (∀ W,Calls Tryz.prog 13 #[.agg #[.int .u8 (f:Int),vi,vc]] W fun e w' => e = .returned (.bool v) ∧ Grown W w'):=Lib.hid (fun W => by
  obtain ⟨A,bb,off,cap,rfl,-⟩:=hi
  obtain ⟨A2,bb2,off2,cap2,rfl,-⟩:=hc
  exact Few9_at W f A A2 _ _ _ _ v hv)
 obtain ⟨act,hact⟩:=actsX_of hN
 have HN:=Lib.hid hact
 have HAd:=Lib.hid hA
 clear hA hN hact
 have HV:=Lib.hid hv
 have HI:=Lib.hid hi
 have HC:=Lib.hid hc
 have HW:=Lib.hid hw
 have HOk:=Lib.hid (c9_ok hf)
 obtain ⟨u,hu,hg,bS,bX⟩:=vars2 w [.int .u8 (f:Int),vi,vc] x.l 25 70
 have HB:=Lib.hid bS
 have HX:=Lib.hid bX
 obtain ⟨LX,hLX⟩:∃ L,x.l = L:=⟨_,rfl⟩
 rw [hLX] at hu ⊢
 have HU:=Lib.hid hu
 have HG:=Lib.hid hg
 clear hu hg bS bX hLX hv hi hc hw
 go_enter Tryz.func5,Tryz.ntmps5
 go_wp2_with fail
 rw [HU.out]
 refine (awake10_at _).mono ?_;rintro e w1 ⟨rfl,g1⟩
 have HB1:=Lib.hid (HB.out.grown g1)
 have HX1:=Lib.hid (HX.out.grown g1)
 have e0:=HB1.out.cell 0 (.int .u8 (f:Int)) rfl
 have e1:=HB1.out.cell 1 vi rfl
 have e2:=HB1.out.cell 2 vc rfl
 have G1:=Lib.hid (gtr HG.out g1)
 clear g1 HB
 go_wp2_with fail
 refine (HF.out _).mono ?_;rintro e w2 ⟨rfl,g2⟩
 have HB2:=Lib.hid (HB1.out.grown g2)
 have HX2:=Lib.hid (HX1.out.grown g2)
 have G2:=Lib.hid (gtr G1.out g2)
 clear e0 e1 e2 g2 HB1 G1
 cases v
 ·go_wp2_with fail
  go_ret
  exact ⟨rfl,G2.out⟩
 ·by_cases hml:40 < m
  ·have hml':(40:Int) < (m:Int):=by omega
   go_wp2_with fail
   go_ret
   exact ⟨rfl,G2.out⟩
  ·have hml':¬ (40:Int) < (m:Int):=by omega
   have hm20:m ≤ 40:=by omega
   obtain ⟨hl1,hl2⟩:=of_decide_eq_true HV.out
   obtain ⟨L,hL⟩:∃ L,layL (c9 f) (sortedI xs) = L:=⟨_,rfl⟩
   obtain ⟨s,hs⟩:∃ s,lyC (c9 f) L.s cs = s:=⟨_,rfl⟩
   have HLy:Hid (∀ W,Grown w W → Calls Tryz.prog 27 #[.agg #[.int .u8 (f:Int),vi,vc]] W (LaidAt (c9 f) L.ws L.n s W)):=Lib.hid (fun W q => lay10_at W f hf vi vc xs cs (HI.out.grown q) (HC.out.grown q) hl1 hl2 (fun x hx => (HW.out x hx).2.2) L hL s hs)
   have HRy:Hid (∀ W,Grown w W → Calls Tryz.prog 15 #[.agg #[.int .u8 (f:Int),vi,vc]] W (RLaid (c9 f) L.ws L.n s W)):=Lib.hid (fun W q => rLay_at W f hf vi vc xs cs (HI.out.grown q) (HC.out.grown q) hl1 hl2 (fun x hx => (HW.out x hx).2.2) L hL s hs)
   have HLk:Hid (LyOk (c9 f) L xs.length):=Lib.hid (by
    have:=layL_ok (c9 f) (sortedI xs) (fun x hx => by obtain ⟨y,hy,he⟩:=sortedI_word hx;rw [he];exact (HW.out y hy).2.2) xs.length (by rw [sortedI_len];exact Nat.le_refl _)
    rwa [List.take_of_length_le (by rw [sortedI_len];exact Nat.le_refl _),hL] at this)
   have HInv:Hid (Inv (c9 f) s):=Lib.hid (by rw [← hs];exact lyC_inv _ HLk.out.inv)
   have HSo:Hid (s.ops.length ≤ 18 ∧ s.nodes.length ≤ 12):=Lib.hid (by
    have h2:=lyC_len (c9 f) cs L.s
    have h3:=HLk.out.ops
    have h4:=HLk.out.nodes
    rw [hs] at h2
    omega)
   have hn0:=HLk.out.n0
   have hn1:=HLk.out.n1
   have hnx:L.n ≤ 36:=by omega
   clear hL hs hn1
   obtain ⟨c,hcc⟩:∃ c,c9 f = c:=⟨_,rfl⟩
   have HCl:Hid (c.len = 149):=Lib.hid (by rw [← hcc];rfl)
   rw [hcc] at HLy HRy HLk HInv HOk
   have HCC:=Lib.hid hcc
   clear hcc
   have e0:=HB2.out.cell 0 (.int .u8 (f:Int)) rfl
   have e1:=HB2.out.cell 1 vi rfl
   have e2:=HB2.out.cell 2 vc rfl
   go_wp2_with fail
   refine (HLy.out _ G2.out).mono ?_;rintro e w3 ⟨d,rfl,g3,h3,f3⟩
   have HD:=Lib.hid h3
   have G3:=Lib.hid (gtr G2.out g3)
   have HB3:=Lib.hid (HB2.out.grown g3)
   have HX3:=Lib.hid (HX2.out.grown g3)
   have HFr:Hid (∀ i,Ow d i → w.heap.size ≤ i):=Lib.hid (fun i hi => Nat.le_trans G2.out.2.2 (f3 i hi))
   have HFr2:Hid (∀ i,Ow d i → w2.heap.size ≤ i):=Lib.hid f3
   clear e0 e1 e2 g3 h3 f3 HB2 G2
   have e0:=HB3.out.cell 0 (.int .u8 (f:Int)) rfl
   have e1:=HB3.out.cell 1 vi rfl
   have e2:=HB3.out.cell 2 vc rfl
   go_wp2_with fail
   refine (HRy.out _ G3.out).mono ?_;rintro e w4 ⟨bk,cp,sl,rfl,hh,hlen,hrf,hlo,g4⟩
   obtain ⟨hi,hhi⟩:∃ x,w3.heap.size = x:=⟨_,rfl⟩
   rw [hhi] at hrf hlo
   have HNew:Hid (∀ i,hi ≤ i → ¬ Mine d.p d.b i ∧ ¬ d.x = i ∧ d.a.hi ≤ i):=Lib.hid (fun i h => ⟨HD.out.new (by omega),fun e => by have:=HD.out.xlt;omega,Nat.le_trans HD.out.book.o6 (by omega)⟩)
   have hb4:bk < w4.heap.size:=World.block_lt_of_cell? w4 _ (hh 0 (by rw [hlen,HCl.out];decide))
   have h34:=g4.2.2
   have ga:Grown w4 (w4.alloc (.cells (RwL c bk c.len cp L.n sl).toArray 42)):=by go_grown
   have HDV:Hid (DV hi c w4.heap.size L.ws L.n s bk cp sl (w4.alloc (.cells (RwL c bk c.len cp L.n sl).toArray 42))):=Lib.hid ⟨Box.made w4 _ _,hh.grown ga,hlen,hrf.grown ga,hlo,hrf.offNew HInv.out (Nat.le_refl _),by omega⟩
   have HDa:=Lib.hid ((HD.out.grown g4).grown ga)
   have Ga:=Lib.hid (gtr G3.out (gtr g4 ga))
   have HX9:=Lib.hid (HX3.out.grown (gtr g4 ga))
   obtain ⟨T,hT⟩:∃ T,w4.heap.size = T:=⟨_,rfl⟩
   obtain ⟨wa,hwa⟩:∃ x,w4.alloc (.cells (RwL c bk c.len cp L.n sl).toArray 42) = x:=⟨_,rfl⟩
   have hTi:hi ≤ T:=by omega
   have hwhi:w.heap.size ≤ hi:=by rw [← hhi];exact G3.out.2.2
   have hxlt:w.heap.size + 1 < hi:=by have:=HX3.out.lt;omega
   have HXN:Hid (¬ Ow d (w.heap.size + 1)):=Lib.hid (fun h => by have h1:=HFr2.out _ h;have h2:=HX2.out.lt;omega)
   rw [hwa] at HDV HDa Ga HX9
   rw [hT] at HDV
   clear e0 e1 e2 hh hlen hrf hlo g4 ga hb4 h34 HB3 HD hhi
   simp only [RwL] at hwa ⊢
   have HWA:=Lib.hid hwa
   have HTT:=Lib.hid hT
   clear hwa hT
   have HNv:Hid (∀ j,j < m → 0 ≤ (act j).v ∧ (act j).v ≤ 18446744073709551615):=Lib.hid (fun j hj => (HN.out j hj).2.2.2.2.2.2)
   have HK0:Hid (KOk ⟨L.ws,L.n,newK key mode⟩ 36):=Lib.hid ⟨HLk.out.wok,newK_ok _ _,hn0,hnx⟩
   have e0:=HX9.out.cell 0 (.int .u64 key) (by rw [← HKX.out];rfl)
   have e1:=HX9.out.cell 1 (.int .i64 mode) (by rw [← HKX.out];rfl)
   rw [← HWA.out] at e0 e1
   go_wp2_with fail
   rw [HWA.out,HTT.out]
   clear e0 e1 HWA HTT
   refine (kNew _ key mode).mono ?_;rintro e w5 ⟨rfl,g5⟩
   have gA:Grown w5 (w5.alloc (.cells (newK key mode).l.toArray 70)):=by go_grown
   have bA:=Box.made w5 (newK key mode).l 70
   obtain ⟨A,hA⟩:∃ Y,w5.heap.size = Y:=⟨_,rfl⟩
   obtain ⟨w6,hw6⟩:∃ W,w5.alloc (.cells (newK key mode).l.toArray 70) = W:=⟨_,rfl⟩
   rw [hw6] at gA bA
   rw [hA] at bA
   have hTA:T < A:=by have h1:=HDV.out.box.lt;have h2:=g5.2.2;omega
   have g56:=gtr g5 gA
   have HA6:=Lib.hid bA
   have HX6:=Lib.hid (HX9.out.grown g56)
   have HD6:=Lib.hid (HDa.out.grown g56)
   have HV6:=Lib.hid (HDV.out.grown g56)
   have G6:=Lib.hid (gtr Ga.out g56)
   have HOA:Hid (OffS sl A ∧ bk < A):=Lib.hid ⟨HDV.out.refs.offNew HInv.out (by have:=g5.2.2;omega),by have h1:=World.block_lt_of_cell? wa _ (HDV.out.holds 0 (by rw [HDV.out.len,HCl.out];decide));have h2:=g5.2.2;simp only at h1;omega⟩
   have e0:=HX6.out.cell 0 (.int .u64 key) (by rw [← HKX.out];rfl)
   have e1:=HX6.out.cell 1 (.int .i64 mode) (by rw [← HKX.out];rfl)
   rw [← hw6] at e0 e1
   simp only [newK,Wk.l] at hw6 e0 e1 ⊢
   have HW6:=Lib.hid hw6
   have HAA:=Lib.hid hA
   clear bA gA g56 g5 hw6 hA HDa HDV
   go_wp2_with fail
   rw [HW6.out,HAA.out]
   clear e0 e1 HW6 HAA
   refine (rNew10 _ key mode).mono ?_;rintro e w7 ⟨rfl,g7⟩
   have gB:Grown w7 (w7.alloc (.cells (newK key mode).l.toArray 72)):=by go_grown
   have bB:=Box.made w7 (newK key mode).l 72
   obtain ⟨B,hB⟩:∃ Y,w7.heap.size = Y:=⟨_,rfl⟩
   obtain ⟨wb,hwb⟩:∃ W,w7.alloc (.cells (newK key mode).l.toArray 72) = W:=⟨_,rfl⟩
   rw [hwb] at gB bB
   rw [hB] at bB
   have hAB:A < B:=by have h1:=HA6.out.lt;have h2:=g7.2.2;omega
   have g78:=gtr g7 gB
   have HBb:=Lib.hid bB
   have HAb:=Lib.hid (HA6.out.grown g78)
   have HDb:=Lib.hid (HD6.out.grown g78)
   have HVb:=Lib.hid (HV6.out.grown g78)
   have Gb:=Lib.hid (gtr G6.out g78)
   have HOB:Hid (OffS sl B):=Lib.hid (HV6.out.refs.offNew HInv.out (by have:=g7.2.2;omega))
   have hbB:bk < B:=by have:=HOA.out.2;omega
   have hAi:hi ≤ A:=by omega
   have hBi:hi ≤ B:=by omega
   simp only [newK,Wk.l] at hwb ⊢
   have HWB:=Lib.hid hwb
   have HBB:=Lib.hid hB
   clear bB gB g78 g7 hwb hB HA6 HX6 HD6 HV6 HX9
   obtain ⟨y0,hy0⟩:∃ y:Kd,(⟨L.ws,L.n,newK key mode⟩:Kd) = y:=⟨_,rfl⟩
   have HKO:Hid (∀ k:Nat,KOk (runW c s act m y0 k) (36 + 2 * k)):=Lib.hid (fun k => by rw [← hy0];exact HK0.out.runW HNv.out k)
   replace HDb:Hid (WdAt wb c d y0.ws y0.n s):=Lib.hid (by rw [← hy0];exact HDb.out)
   replace HVb:Hid (DV hi c T y0.ws y0.n s bk cp sl wb):=Lib.hid (by rw [← hy0];exact HVb.out)
   replace HAb:Hid (Box wb A y0.x.l):=Lib.hid (by rw [← hy0];exact HAb.out)
   replace HBb:Hid (Box wb B y0.x.l):=Lib.hid (by rw [← hy0];exact HBb.out)
   clear hy0 HK0
   go_wp2_with fail
   rw [HWB.out,HBB.out]
   clear HWB HBB
   go_loopw [12,13,14] (fun s12 s13 s14 wr => ∃ k:Nat,s12 = .int .i64 (k:Int) ∧ k ≤ m + 20 ∧ But (fun i => Mine d.p d.b i ∨ i = T ∨ i = A ∨ i = B) wb wr ∧ WdAt wr c d (runW c s act m y0 k).ws (runW c s act m y0 k).n s ∧ Box wr A (runW c s act m y0 k).x.l ∧ Box wr B (runW c s act m y0 k).x.l ∧ ∃ bk cp,(bk ≠ A ∧ bk ≠ B) ∧ DV hi c T (runW c s act m y0 k).ws (runW c s act m y0 k).n s bk cp sl wr) (fun s12 s13 s14 _ => m + 20 - (intOf s12).toNat)
   case atStart => exact ⟨0,rfl,Nat.zero_le _,But.refl _ _,HDb.out,HAb.out,HBb.out,bk,cp,⟨by have:=HOA.out.2;omega,by omega⟩,HVb.out⟩
   case round =>
    clear HVb
    obtain ⟨k,rfl,hk,hq,hwd,hbA,hbB2,bk,cp,hne,hdv⟩:=hrel
    obtain ⟨wo,hwo⟩:∃ x,x = wr:=⟨_,rfl⟩
    subst hwo
    have HQ:=Lib.hid hq
    have HO:=Lib.hid (HKO.out k)
    by_cases hk2:k < m + 20
    ·as_aux_lemma =>
      have hlt2:(k:Int) < (m:Int) + 20:=by omega
      have HS:Hid (runW c s act m y0 (k + 1) = stepK c s (disW c act m k (runW c s act m y0 k))):=Lib.hid rfl
      obtain ⟨y,hy⟩:∃ y,runW c s act m y0 k = y:=⟨_,rfl⟩
      rw [hy] at hwd hbA hbB2 hdv HO HS
      obtain ⟨ne1,ne2⟩:=hne
      have HDk:=Lib.hid hwd
      have HVk:=Lib.hid hdv
      have HAk:=Lib.hid hbA
      have HBk:=Lib.hid hbB2
      have HD1:=Lib.hid (HO.out.dis (c:=c) (k:=k) HNv.out)
      have nn0:=HO.out.n0
      have nn1:=HO.out.n1
      clear hwd hbA hbB2 hdv hy hq
      by_cases hkm:k < m
      ·have hlt:(k:Int) < (m:Int):=by omega
       obtain rfl:=HAd.out (by omega)
       obtain ⟨⟨ak,ai,ao,aold,av⟩,hax⟩:∃ x,act k = x:=⟨_,rfl⟩
       obtain ⟨c0,c1,c2,c3,c4,c5,c6⟩:=HN.out k hkm
       rw [hax] at c0 c1 c2 c3 c4 c5 c6
       simp only at c0 c1 c2 c3 c4 c5 c6
       have hbb:bb < w.heap.size:=World.block_lt_of_cell? w _ c0
       have HNs:Hid (¬ (Mine d.p d.b bb ∨ bb = T ∨ bb = A ∨ bb = B)):=Lib.hid (by rintro (h | h | h | h);exact absurd (HFr.out _ (.inr h)) (by omega);omega;omega;omega)
       have d0:=HQ.out.cell HNs.out (gcell Gb.out c0)
       have hrem:IntKind.u8.wrap (Int.tmod ak 3) = ak % 3:=by
        rw [Int.tmod_eq_emod_of_nonneg c5.1]
        unfold IntKind.wrap
        simp [IntKind.bits]
        omega
       by_cases ha0:0 < ak % 3
       ·have hz:disW c act m k y = ⟨(actX c (decide (ak % 3 = 1)) y.ws y.n ⟨ak,ai,ao,aold,av⟩).1,(actX c (decide (ak % 3 = 1)) y.ws y.n ⟨ak,ai,ao,aold,av⟩).2,y.x⟩:=by unfold disW;rw [hax,if_pos ⟨hkm,ha0⟩]
        have hdg:decide (0 < ak % 3) = true:=decide_eq_true ha0
        obtain ⟨r,hr⟩:∃ r,actX c (decide (ak % 3 = 1)) y.ws y.n ⟨ak,ai,ao,aold,av⟩ = r:=⟨_,rfl⟩
        have hrl:r.1.length = y.ws.length:=by rw [← hr];exact actX_len _ _ _ _ _
        have HR:=Lib.hid hr
        rw [hr] at hz
        rw [hz] at HS HD1
        have C0:=Lib.hid c0;have C1:=Lib.hid c1;have C2:=Lib.hid c2;have C3:=Lib.hid c3;have C4:=Lib.hid c4
        clear hz hr hax c0 c1 c2 c3 c4
        go_wp2_with fail
        clear d0
        refine wp_region_planb (fun i => Mine d.p d.b i ∨ i = T) (.one [0,2,3,4,5] 1 (.one [] 6 (.one [] 7 (.fin [])))) (by kernel_rfl) (by kernel_rfl) (by kernel_rfl) ?_
        intro w5 g5
        have HD5:=Lib.hid (HDk.out.grown g5)
        have HV5:=Lib.hid (HVk.out.grown g5)
        have HA5:=Lib.hid (HAk.out.grown g5)
        have HB5:=Lib.hid (HBk.out.grown g5)
        have Q5:=Lib.hid (HQ.out.trans (But.of_grown g5))
        have HNt:¬ (Mine d.p d.b bb ∨ bb = T):=fun h => HNs.out (h.elim .inl (fun h => .inr (.inl h)))
        have d0:∀ q:ButW (fun i => Mine d.p d.b i ∨ i = T) w5,q.w.cell? ⟨bb,off + k * 5,none⟩ = some (.int .u8 ak):=ButW.cell HNt (Q5.out.cell HNs.out (gcell Gb.out C0.out))
        have d1:∀ q:ButW (fun i => Mine d.p d.b i ∨ i = T) w5,q.w.cell? ⟨bb,off + k * 5 + 1,none⟩ = some (.int .i64 ai):=ButW.cell HNt (Q5.out.cell HNs.out (gcell Gb.out C1.out))
        have d2:∀ q:ButW (fun i => Mine d.p d.b i ∨ i = T) w5,q.w.cell? ⟨bb,off + k * 5 + 2,none⟩ = some (.int .u16 ao):=ButW.cell HNt (Q5.out.cell HNs.out (gcell Gb.out C2.out))
        have d3:∀ q:ButW (fun i => Mine d.p d.b i ∨ i = T) w5,q.w.cell? ⟨bb,off + k * 5 + 3,none⟩ = some (.int .u64 aold):=ButW.cell HNt (Q5.out.cell HNs.out (gcell Gb.out C3.out))
        have d4:∀ q:ButW (fun i => Mine d.p d.b i ∨ i = T) w5,q.w.cell? ⟨bb,off + k * 5 + 4,none⟩ = some (.int .u64 av):=ButW.cell HNt (Q5.out.cell HNs.out (gcell Gb.out C4.out))
        clear g5
        refine plan_one ?_
        simp only [nths,nth,List.map_cons,List.map_nil,List.getD_cons_zero,List.getD_cons_succ]
        repeat go_big_quiet_step (fail)
        clear d0 d1 d2 d3 d4
        refine wpQuiet_nil ?_
        go_wp2_with (first | (refine load_box rfl 42 _ rfl T rfl _ _ Tryz.underlying42 rfl (by kernel_rfl) HV5.out.box ?_) | fail)
        refine nxt_but (But.refl _ _) (plan_one ?_)
        simp only [nths,nth,List.map_nil,List.getD_cons_zero,List.getD_cons_succ]
        refine wpQuiet_nil ?_
        go_wp2_with fail
        refine (act10_at _ c d sl bk c.len cp y.ws y.n s HD5.out HV5.out.len HV5.out.holds (by rw [HCl.out];decide) (HNew.out _ HV5.out.lo).1 nn0 (by omega) ⟨ak,ai,ao,aold,av⟩ c5 r HR.out).mono ?_;rintro e w6 ⟨b2,cp2,rfl,q6,h6,hh6,ho6⟩
        have hlB5:B < w5.heap.size:=HB5.out.lt
        have hlo2:hi ≤ b2:=by have h1:=HV5.out.lo;omega
        have hne2:b2 ≠ T ∧ b2 ≠ A ∧ b2 ≠ B:=by have h1:=HV5.out.ne;refine ⟨?_,?_,?_⟩ <;> omega
        have HV6:=Lib.hid (HV5.out.but q6 (fun i hi => (HNew.out i hi).1) (HNew.out _ hTi).1)
        have HA6:=Lib.hid (HA5.out.but q6 (HNew.out _ hAi).1)
        have HB6:=Lib.hid (HB5.out.but q6 (HNew.out _ hBi).1)
        have HD6:=Lib.hid h6
        have Q6:But (fun i => Mine d.p d.b i ∨ i = T) w5 w6:=q6.mono fun _ h => .inl h
        clear q6 h6 ho6
        go_wp2_with fail
        refine nxt_but Q6 (plan_one ?_)
        simp only [nths,nth,List.map_nil,List.getD_cons_zero,List.getD_cons_succ]
        refine wpQuiet_nil ?_
        go_wp2_with (first | (refine store_box rfl 42 _ _ rfl T _ HV6.out.box _ rfl rfl rfl (by kernel_rfl) rfl ?_;intro v9 B_ q_;have HV9:Hid (DV hi c T r.1 r.2 s b2 cp2 sl v9):=Lib.hid (HV6.out.words hh6 hrl hlo2 hne2.1 q_ B_);have HD9:Hid (WdAt v9 c d r.1 r.2 s):=Lib.hid (HD6.out.oth q_ (HNew.out _ hTi).2.2 (HNew.out _ hTi).1 (HNew.out _ hTi).2.1 (HV6.out.box.cell 1 _ rfl));have HA9:=Lib.hid (HA6.out.but q_ (by omega));have HB9:=Lib.hid (HB6.out.but q_ (by omega));have Q9:But (fun i => Mine d.p d.b i ∨ i = T) w5 v9:=Q6.trans (q_.mono fun _ h => .inr h);clear B_ q_) | fail)
        refine nxt_but Q9 (plan_fin ?_)
        simp only [nths,List.map_nil]
        refine wpQuiet_nil ?_
        obtain ⟨y',hy'⟩:∃ y':Kd,(⟨r.1,r.2,y.x⟩:Kd) = y':=⟨_,rfl⟩
        replace HD9:Hid (WdAt v9 c d y'.ws y'.n s):=Lib.hid (by rw [← hy'];exact HD9.out)
        replace HV9:Hid (DV hi c T y'.ws y'.n s b2 cp2 sl v9):=Lib.hid (by rw [← hy'];exact HV9.out)
        replace HA9:Hid (Box v9 A y'.x.l):=Lib.hid (by rw [← hy'];exact HA9.out)
        replace HB9:Hid (Box v9 B y'.x.l):=Lib.hid (by rw [← hy'];exact HB9.out)
        rw [hy'] at HS HD1
        have QQ:Hid (But (fun i => Mine d.p d.b i ∨ i = T ∨ i = A ∨ i = B) wb v9):=Lib.hid (Q5.out.trans (Q9.mono fun _ h => h.elim .inl (fun h => .inr (.inl h))))
        clear HO HDk HVk HAk HBk HD5 HV5 HA5 HB5 HV6 HA6 HB6 HD6 HR Q9 Q6 nn0 nn1
        obtain ⟨z,hz⟩:∃ z,stepK c s y' = z:=⟨_,rfl⟩
        have HZ:=Lib.hid hz
        have HSz:Hid (runW c s act m y0 (k + 1) = z):=Lib.hid (HS.out.trans hz)
        clear hz
        go_wp2_with (first | (refine load_box rfl 70 _ rfl A rfl _ _ Tryz.underlying70 rfl (by kernel_rfl) HA9.out ?_) | fail)
        refine (kStep _ c d s y' HD9.out HInv.out HD1.out.n0 (by have:=HD1.out.n1;omega) HD1.out.wok HD1.out.ok z HZ.out).mono ?_;rintro e w7 ⟨rfl,q7⟩
        have HA7:=Lib.hid (HA9.out.but q7.1 (HNew.out _ hAi).1)
        have HB7:=Lib.hid (HB9.out.but q7.1 (HNew.out _ hBi).1)
        have HV7:=Lib.hid (HV9.out.but q7.1 (fun i hi => (HNew.out i hi).1) (HNew.out _ hTi).1)
        have HD7:=Lib.hid q7.2
        have Q7:Hid (But (fun i => Mine d.p d.b i ∨ i = T ∨ i = A ∨ i = B) wb w7):=Lib.hid (QQ.out.trans (q7.1.mono fun _ h => .inl h))
        clear q7
        go_wp2_with (first | (refine store_box rfl 70 _ _ rfl A _ HA7.out _ rfl rfl rfl (by kernel_rfl) rfl ?_;intro w8 B_ q_;have HA8:=Lib.hid B_;have HB8:=Lib.hid (HB7.out.but q_ (by omega));have HV8:=Lib.hid (HV7.out.putO HOA.out.1 (by omega) hne2.2.1 q_);have HD8:=Lib.hid (HD7.out.oth q_ (HNew.out _ hAi).2.2 (HNew.out _ hAi).1 (HNew.out _ hAi).2.1 (HA7.out.cell 1 _ rfl));have Q8:Hid (But (fun i => Mine d.p d.b i ∨ i = T ∨ i = A ∨ i = B) wb w8):=Lib.hid (Q7.out.trans (q_.mono fun _ h => .inr (.inr (.inl h))));clear B_ q_) | (refine load_box rfl 42 _ rfl T rfl _ _ Tryz.underlying42 rfl (by kernel_rfl) HV8.out.box ?_) | (refine load_box rfl 72 _ rfl B rfl _ _ Tryz.underlying72 rfl (by kernel_rfl) HB8.out ?_) | fail)
        have hRS:=rStepK w8 0 c b2 c.len cp2 y'.ws y'.n s sl ⟨HV8.out.holds,HV8.out.len,by rw [HCl.out];decide,RefS.mono HV8.out.refs (Nat.zero_le _),Nat.zero_le _⟩ HOk.out (by have:=HSo.out.1;omega) (by have:=HSo.out.2;omega) y'.x (by rw [HCl.out];decide) HD1.out.n0 (by have:=HD1.out.n1;omega) HD1.out.wok HD1.out.ok.b0 HD1.out.ok.b1 HD1.out.ok.u0 HD1.out.ok.u1 z HZ.out
        refine hRS.mono ?_;rintro e w9 ⟨b3,cp3,rfl,g9,hh9,ho9⟩
        clear hRS
        obtain ⟨u8,hu8,gu8,bU8,bC8⟩:=vars2 w9 zWV zWk.l 42 72
        simp only [zWV,zWk,Wk.l] at hu8
        have HS8:=Lib.hid bC8
        have hrc:=bU8
        rw [← hu8] at hrc
        simp only [zWV] at hrc
        have HRc:=Lib.hid hrc
        have HU8:=Lib.hid hu8
        have GF:=Lib.hid gu8
        have h89:=g9.2.2
        have hlB:B < w8.heap.size:=HB8.out.lt
        have hb29:b3 < w9.heap.size:=World.block_lt_of_cell? w9 _ (hh9 0 (by rw [show z.ws.length = c.len from HD8.out.len,HCl.out];decide))
        have hlo3:hi ≤ b3:=by have h1:=HV8.out.lo;omega
        have hne3:b3 ≠ T ∧ b3 ≠ A ∧ b3 ≠ B:=by have h1:=HV8.out.ne;refine ⟨?_,?_,?_⟩ <;> omega
        have HH9:=Lib.hid hh9
        have HG9:=Lib.hid g9
        clear hu8 gu8 bU8 bC8 g9 hh9 hrc
        go_wp2_with (first | (refine store_box rfl 42 _ _ rfl w9.heap.size _ HRc.out _ rfl rfl rfl (by kernel_rfl) rfl ?_;intro v8 B_ q_;rw [HU8.out] at q_;have HU_8:=Lib.hid B_;have HC_8:=Lib.hid (HS8.out.but q_ (by omega));have R8:=Lib.hid q_;clear B_ q_) | (refine store_box rfl 72 _ _ rfl (w9.heap.size + 1) _ HC_8.out _ rfl rfl rfl (by kernel_rfl) rfl ?_;intro w10 B_ q_;have HC10:=Lib.hid B_;have HU10:=Lib.hid (HU_8.out.but q_ (by omega));have GN:Grown w9 w10:=But.fresh GF.out (((R8.out.mono (fun i hi => .inl hi)).trans (q_.mono (fun i hi => .inr hi)):But (fun i => i = w9.heap.size ∨ i = w9.heap.size + 1) u8 w10)) (fun i hi => by rcases hi with h | h <;> omega);have G810:=gtr HG9.out GN;have HA10:=Lib.hid (HA8.out.grown G810);have HB10:=Lib.hid (HB8.out.grown G810);have HV10:=Lib.hid (HV8.out.grown G810);have HD10:=Lib.hid (HD8.out.grown G810);have HH10:=Lib.hid (HH9.out.grown GN);have Q10:Hid (But (fun i => Mine d.p d.b i ∨ i = T ∨ i = A ∨ i = B) wb w10):=Lib.hid (Q8.out.trans (But.of_grown G810));clear B_ q_) | (refine load_box rfl 42 _ rfl w9.heap.size rfl _ _ Tryz.underlying42 rfl (by kernel_rfl) HU10.out ?_) | (refine store_box rfl 42 _ _ rfl T _ HV10.out.box _ rfl rfl rfl (by kernel_rfl) rfl ?_;intro w11 B_ q_;have HV11:Hid (DV hi c T z.ws z.n s b3 cp3 sl w11):=Lib.hid (HV10.out.words HH10.out (by rw [show z.ws.length = c.len from HD10.out.len];exact HV10.out.len.symm) hlo3 hne3.1 q_ B_);have HD11:=Lib.hid (HD10.out.oth q_ (HNew.out _ hTi).2.2 (HNew.out _ hTi).1 (HNew.out _ hTi).2.1 (HV10.out.box.cell 1 _ rfl));have HA11:=Lib.hid (HA10.out.but q_ (by omega));have HB11:=Lib.hid (HB10.out.but q_ (by omega));have HC11:=Lib.hid (HC10.out.but q_ (by omega));have Q11:Hid (But (fun i => Mine d.p d.b i ∨ i = T ∨ i = A ∨ i = B) wb w11):=Lib.hid (Q10.out.trans (q_.mono fun _ h => .inr (.inl h)));clear B_ q_) | (refine load_box rfl 72 _ rfl (w9.heap.size + 1) rfl _ _ Tryz.underlying72 rfl (by kernel_rfl) HC11.out ?_) | (refine store_box rfl 72 _ _ rfl B _ HB11.out _ rfl rfl rfl (by kernel_rfl) rfl ?_;intro w12 B_ q_;have HB12:=Lib.hid B_;have HV12:=Lib.hid (HV11.out.putO HOB.out (by omega) hne3.2.2 q_);have HD12:=Lib.hid (HD11.out.oth q_ (HNew.out _ hBi).2.2 (HNew.out _ hBi).1 (HNew.out _ hBi).2.1 (HB11.out.cell 1 _ rfl));have HA12:=Lib.hid (HA11.out.but q_ (by omega));have Q12:Hid (But (fun i => Mine d.p d.b i ∨ i = T ∨ i = A ∨ i = B) wb w12):=Lib.hid (Q11.out.trans (q_.mono fun _ h => .inr (.inr (.inr h))));clear B_ q_) | (refine load_box rfl 70 _ rfl A rfl _ _ Tryz.underlying70 rfl (by kernel_rfl) HA12.out ?_) | (refine load_box rfl 72 _ rfl B rfl _ _ Tryz.underlying72 rfl (by kernel_rfl) HB12.out ?_) | fail)
        refine (same10_at _ z.x).mono ?_;rintro e w13 ⟨rfl,g13⟩
        go_wp2_with fail
        refine ⟨⟨k + 1,by simp,by omega,Q12.out.trans (But.of_grown g13),?_⟩,by simp [intOf];omega⟩
        rw [HSz.out]
        exact ⟨HD12.out.grown g13,HA12.out.grown g13,HB12.out.grown g13,b3,cp3,hne3.2,HV12.out.grown g13⟩
       ·have hz:disW c act m k y = y:=by unfold disW;rw [hax,if_neg (fun h => ha0 h.2)]
        have hdg:decide (0 < ak % 3) = false:=decide_eq_false ha0
        have hdg2:ak % 3 = 0:=by omega
        rw [hdg2] at hrem
        rw [hz] at HS HD1
        clear hz hax c1 c2 c3 c4 c0 c6
        obtain ⟨z,hz⟩:∃ z,stepK c s y = z:=⟨_,rfl⟩
        have HZ:=Lib.hid hz
        have HSz:Hid (runW c s act m y0 (k + 1) = z):=Lib.hid (HS.out.trans hz)
        clear hz
        go_wp2_with (first | (refine load_box rfl 70 _ rfl A rfl _ _ Tryz.underlying70 rfl (by kernel_rfl) HAk.out ?_) | fail)
        clear d0
        refine (kStep _ c d s y HDk.out HInv.out HD1.out.n0 (by have:=HD1.out.n1;omega) HD1.out.wok HD1.out.ok z HZ.out).mono ?_;rintro e w7 ⟨rfl,q7⟩
        have HA7:=Lib.hid (HAk.out.but q7.1 (HNew.out _ hAi).1)
        have HB7:=Lib.hid (HBk.out.but q7.1 (HNew.out _ hBi).1)
        have HV7:=Lib.hid (HVk.out.but q7.1 (fun i hi => (HNew.out i hi).1) (HNew.out _ hTi).1)
        have HD7:=Lib.hid q7.2
        have Q7:Hid (But (fun i => Mine d.p d.b i ∨ i = T ∨ i = A ∨ i = B) wb w7):=Lib.hid (HQ.out.trans (q7.1.mono fun _ h => .inl h))
        clear q7
        go_wp2_with (first | (refine store_box rfl 70 _ _ rfl A _ HA7.out _ rfl rfl rfl (by kernel_rfl) rfl ?_;intro w8 B_ q_;have HA8:=Lib.hid B_;have HB8:=Lib.hid (HB7.out.but q_ (by omega));have HV8:=Lib.hid (HV7.out.putO HOA.out.1 (by omega) ne1 q_);have HD8:=Lib.hid (HD7.out.oth q_ (HNew.out _ hAi).2.2 (HNew.out _ hAi).1 (HNew.out _ hAi).2.1 (HA7.out.cell 1 _ rfl));have Q8:Hid (But (fun i => Mine d.p d.b i ∨ i = T ∨ i = A ∨ i = B) wb w8):=Lib.hid (Q7.out.trans (q_.mono fun _ h => .inr (.inr (.inl h))));clear B_ q_) | (refine load_box rfl 42 _ rfl T rfl _ _ Tryz.underlying42 rfl (by kernel_rfl) HV8.out.box ?_) | (refine load_box rfl 72 _ rfl B rfl _ _ Tryz.underlying72 rfl (by kernel_rfl) HB8.out ?_) | fail)
        have hRS:=rStepK w8 0 c bk c.len cp y.ws y.n s sl ⟨HV8.out.holds,HV8.out.len,by rw [HCl.out];decide,RefS.mono HV8.out.refs (Nat.zero_le _),Nat.zero_le _⟩ HOk.out (by have:=HSo.out.1;omega) (by have:=HSo.out.2;omega) y.x (by rw [HCl.out];decide) HD1.out.n0 (by have:=HD1.out.n1;omega) HD1.out.wok HD1.out.ok.b0 HD1.out.ok.b1 HD1.out.ok.u0 HD1.out.ok.u1 z HZ.out
        refine hRS.mono ?_;rintro e w9 ⟨b3,cp3,rfl,g9,hh9,ho9⟩
        clear hRS
        obtain ⟨u8,hu8,gu8,bU8,bC8⟩:=vars2 w9 zWV zWk.l 42 72
        simp only [zWV,zWk,Wk.l] at hu8
        have HS8:=Lib.hid bC8
        have hrc:=bU8
        rw [← hu8] at hrc
        simp only [zWV] at hrc
        have HRc:=Lib.hid hrc
        have HU8:=Lib.hid hu8
        have GF:=Lib.hid gu8
        have h89:=g9.2.2
        have hlB:B < w8.heap.size:=HB8.out.lt
        have hb29:b3 < w9.heap.size:=World.block_lt_of_cell? w9 _ (hh9 0 (by rw [show z.ws.length = c.len from HD8.out.len,HCl.out];decide))
        have hlo3:hi ≤ b3:=by have h1:=HV8.out.lo;omega
        have hne3:b3 ≠ T ∧ b3 ≠ A ∧ b3 ≠ B:=by have h1:=HV8.out.ne;refine ⟨?_,?_,?_⟩ <;> omega
        have HH9:=Lib.hid hh9
        have HG9:=Lib.hid g9
        clear hu8 gu8 bU8 bC8 g9 hh9 hrc
        go_wp2_with (first | (refine store_box rfl 42 _ _ rfl w9.heap.size _ HRc.out _ rfl rfl rfl (by kernel_rfl) rfl ?_;intro v8 B_ q_;rw [HU8.out] at q_;have HU_8:=Lib.hid B_;have HC_8:=Lib.hid (HS8.out.but q_ (by omega));have R8:=Lib.hid q_;clear B_ q_) | (refine store_box rfl 72 _ _ rfl (w9.heap.size + 1) _ HC_8.out _ rfl rfl rfl (by kernel_rfl) rfl ?_;intro w10 B_ q_;have HC10:=Lib.hid B_;have HU10:=Lib.hid (HU_8.out.but q_ (by omega));have GN:Grown w9 w10:=But.fresh GF.out (((R8.out.mono (fun i hi => .inl hi)).trans (q_.mono (fun i hi => .inr hi)):But (fun i => i = w9.heap.size ∨ i = w9.heap.size + 1) u8 w10)) (fun i hi => by rcases hi with h | h <;> omega);have G810:=gtr HG9.out GN;have HA10:=Lib.hid (HA8.out.grown G810);have HB10:=Lib.hid (HB8.out.grown G810);have HV10:=Lib.hid (HV8.out.grown G810);have HD10:=Lib.hid (HD8.out.grown G810);have HH10:=Lib.hid (HH9.out.grown GN);have Q10:Hid (But (fun i => Mine d.p d.b i ∨ i = T ∨ i = A ∨ i = B) wb w10):=Lib.hid (Q8.out.trans (But.of_grown G810));clear B_ q_) | (refine load_box rfl 42 _ rfl w9.heap.size rfl _ _ Tryz.underlying42 rfl (by kernel_rfl) HU10.out ?_) | (refine store_box rfl 42 _ _ rfl T _ HV10.out.box _ rfl rfl rfl (by kernel_rfl) rfl ?_;intro w11 B_ q_;have HV11:Hid (DV hi c T z.ws z.n s b3 cp3 sl w11):=Lib.hid (HV10.out.words HH10.out (by rw [show z.ws.length = c.len from HD10.out.len];exact HV10.out.len.symm) hlo3 hne3.1 q_ B_);have HD11:=Lib.hid (HD10.out.oth q_ (HNew.out _ hTi).2.2 (HNew.out _ hTi).1 (HNew.out _ hTi).2.1 (HV10.out.box.cell 1 _ rfl));have HA11:=Lib.hid (HA10.out.but q_ (by omega));have HB11:=Lib.hid (HB10.out.but q_ (by omega));have HC11:=Lib.hid (HC10.out.but q_ (by omega));have Q11:Hid (But (fun i => Mine d.p d.b i ∨ i = T ∨ i = A ∨ i = B) wb w11):=Lib.hid (Q10.out.trans (q_.mono fun _ h => .inr (.inl h)));clear B_ q_) | (refine load_box rfl 72 _ rfl (w9.heap.size + 1) rfl _ _ Tryz.underlying72 rfl (by kernel_rfl) HC11.out ?_) | (refine store_box rfl 72 _ _ rfl B _ HB11.out _ rfl rfl rfl (by kernel_rfl) rfl ?_;intro w12 B_ q_;have HB12:=Lib.hid B_;have HV12:=Lib.hid (HV11.out.putO HOB.out (by omega) hne3.2.2 q_);have HD12:=Lib.hid (HD11.out.oth q_ (HNew.out _ hBi).2.2 (HNew.out _ hBi).1 (HNew.out _ hBi).2.1 (HB11.out.cell 1 _ rfl));have HA12:=Lib.hid (HA11.out.but q_ (by omega));have Q12:Hid (But (fun i => Mine d.p d.b i ∨ i = T ∨ i = A ∨ i = B) wb w12):=Lib.hid (Q11.out.trans (q_.mono fun _ h => .inr (.inr (.inr h))));clear B_ q_) | (refine load_box rfl 70 _ rfl A rfl _ _ Tryz.underlying70 rfl (by kernel_rfl) HA12.out ?_) | (refine load_box rfl 72 _ rfl B rfl _ _ Tryz.underlying72 rfl (by kernel_rfl) HB12.out ?_) | fail)
        refine (same10_at _ z.x).mono ?_;rintro e w13 ⟨rfl,g13⟩
        go_wp2_with fail
        refine ⟨⟨k + 1,by simp,by omega,Q12.out.trans (But.of_grown g13),?_⟩,by simp [intOf];omega⟩
        rw [HSz.out]
        exact ⟨HD12.out.grown g13,HA12.out.grown g13,HB12.out.grown g13,b3,cp3,hne3.2,HV12.out.grown g13⟩
      ·have hlt:¬ (k:Int) < (m:Int):=by omega
       have hz:disW c act m k y = y:=by unfold disW;rw [if_neg (fun h => hkm h.1)]
       rw [hz] at HS HD1
       clear hz
       obtain ⟨z,hz⟩:∃ z,stepK c s y = z:=⟨_,rfl⟩
       have HZ:=Lib.hid hz
       have HSz:Hid (runW c s act m y0 (k + 1) = z):=Lib.hid (HS.out.trans hz)
       clear hz
       go_wp2_with (first | (refine load_box rfl 70 _ rfl A rfl _ _ Tryz.underlying70 rfl (by kernel_rfl) HAk.out ?_) | fail)
       refine (kStep _ c d s y HDk.out HInv.out HD1.out.n0 (by have:=HD1.out.n1;omega) HD1.out.wok HD1.out.ok z HZ.out).mono ?_;rintro e w7 ⟨rfl,q7⟩
       have HA7:=Lib.hid (HAk.out.but q7.1 (HNew.out _ hAi).1)
       have HB7:=Lib.hid (HBk.out.but q7.1 (HNew.out _ hBi).1)
       have HV7:=Lib.hid (HVk.out.but q7.1 (fun i hi => (HNew.out i hi).1) (HNew.out _ hTi).1)
       have HD7:=Lib.hid q7.2
       have Q7:Hid (But (fun i => Mine d.p d.b i ∨ i = T ∨ i = A ∨ i = B) wb w7):=Lib.hid (HQ.out.trans (q7.1.mono fun _ h => .inl h))
       clear q7
       go_wp2_with (first | (refine store_box rfl 70 _ _ rfl A _ HA7.out _ rfl rfl rfl (by kernel_rfl) rfl ?_;intro w8 B_ q_;have HA8:=Lib.hid B_;have HB8:=Lib.hid (HB7.out.but q_ (by omega));have HV8:=Lib.hid (HV7.out.putO HOA.out.1 (by omega) ne1 q_);have HD8:=Lib.hid (HD7.out.oth q_ (HNew.out _ hAi).2.2 (HNew.out _ hAi).1 (HNew.out _ hAi).2.1 (HA7.out.cell 1 _ rfl));have Q8:Hid (But (fun i => Mine d.p d.b i ∨ i = T ∨ i = A ∨ i = B) wb w8):=Lib.hid (Q7.out.trans (q_.mono fun _ h => .inr (.inr (.inl h))));clear B_ q_) | (refine load_box rfl 42 _ rfl T rfl _ _ Tryz.underlying42 rfl (by kernel_rfl) HV8.out.box ?_) | (refine load_box rfl 72 _ rfl B rfl _ _ Tryz.underlying72 rfl (by kernel_rfl) HB8.out ?_) | fail)
       have hRS:=rStepK w8 0 c bk c.len cp y.ws y.n s sl ⟨HV8.out.holds,HV8.out.len,by rw [HCl.out];decide,RefS.mono HV8.out.refs (Nat.zero_le _),Nat.zero_le _⟩ HOk.out (by have:=HSo.out.1;omega) (by have:=HSo.out.2;omega) y.x (by rw [HCl.out];decide) HD1.out.n0 (by have:=HD1.out.n1;omega) HD1.out.wok HD1.out.ok.b0 HD1.out.ok.b1 HD1.out.ok.u0 HD1.out.ok.u1 z HZ.out
       refine hRS.mono ?_;rintro e w9 ⟨b3,cp3,rfl,g9,hh9,ho9⟩
       clear hRS
       obtain ⟨u8,hu8,gu8,bU8,bC8⟩:=vars2 w9 zWV zWk.l 42 72
       simp only [zWV,zWk,Wk.l] at hu8
       have HS8:=Lib.hid bC8
       have hrc:=bU8
       rw [← hu8] at hrc
       simp only [zWV] at hrc
       have HRc:=Lib.hid hrc
       have HU8:=Lib.hid hu8
       have GF:=Lib.hid gu8
       have h89:=g9.2.2
       have hlB:B < w8.heap.size:=HB8.out.lt
       have hb29:b3 < w9.heap.size:=World.block_lt_of_cell? w9 _ (hh9 0 (by rw [show z.ws.length = c.len from HD8.out.len,HCl.out];decide))
       have hlo3:hi ≤ b3:=by have h1:=HV8.out.lo;omega
       have hne3:b3 ≠ T ∧ b3 ≠ A ∧ b3 ≠ B:=by have h1:=HV8.out.ne;refine ⟨?_,?_,?_⟩ <;> omega
       have HH9:=Lib.hid hh9
       have HG9:=Lib.hid g9
       clear hu8 gu8 bU8 bC8 g9 hh9 hrc
       go_wp2_with (first | (refine store_box rfl 42 _ _ rfl w9.heap.size _ HRc.out _ rfl rfl rfl (by kernel_rfl) rfl ?_;intro v8 B_ q_;rw [HU8.out] at q_;have HU_8:=Lib.hid B_;have HC_8:=Lib.hid (HS8.out.but q_ (by omega));have R8:=Lib.hid q_;clear B_ q_) | (refine store_box rfl 72 _ _ rfl (w9.heap.size + 1) _ HC_8.out _ rfl rfl rfl (by kernel_rfl) rfl ?_;intro w10 B_ q_;have HC10:=Lib.hid B_;have HU10:=Lib.hid (HU_8.out.but q_ (by omega));have GN:Grown w9 w10:=But.fresh GF.out (((R8.out.mono (fun i hi => .inl hi)).trans (q_.mono (fun i hi => .inr hi)):But (fun i => i = w9.heap.size ∨ i = w9.heap.size + 1) u8 w10)) (fun i hi => by rcases hi with h | h <;> omega);have G810:=gtr HG9.out GN;have HA10:=Lib.hid (HA8.out.grown G810);have HB10:=Lib.hid (HB8.out.grown G810);have HV10:=Lib.hid (HV8.out.grown G810);have HD10:=Lib.hid (HD8.out.grown G810);have HH10:=Lib.hid (HH9.out.grown GN);have Q10:Hid (But (fun i => Mine d.p d.b i ∨ i = T ∨ i = A ∨ i = B) wb w10):=Lib.hid (Q8.out.trans (But.of_grown G810));clear B_ q_) | (refine load_box rfl 42 _ rfl w9.heap.size rfl _ _ Tryz.underlying42 rfl (by kernel_rfl) HU10.out ?_) | (refine store_box rfl 42 _ _ rfl T _ HV10.out.box _ rfl rfl rfl (by kernel_rfl) rfl ?_;intro w11 B_ q_;have HV11:Hid (DV hi c T z.ws z.n s b3 cp3 sl w11):=Lib.hid (HV10.out.words HH10.out (by rw [show z.ws.length = c.len from HD10.out.len];exact HV10.out.len.symm) hlo3 hne3.1 q_ B_);have HD11:=Lib.hid (HD10.out.oth q_ (HNew.out _ hTi).2.2 (HNew.out _ hTi).1 (HNew.out _ hTi).2.1 (HV10.out.box.cell 1 _ rfl));have HA11:=Lib.hid (HA10.out.but q_ (by omega));have HB11:=Lib.hid (HB10.out.but q_ (by omega));have HC11:=Lib.hid (HC10.out.but q_ (by omega));have Q11:Hid (But (fun i => Mine d.p d.b i ∨ i = T ∨ i = A ∨ i = B) wb w11):=Lib.hid (Q10.out.trans (q_.mono fun _ h => .inr (.inl h)));clear B_ q_) | (refine load_box rfl 72 _ rfl (w9.heap.size + 1) rfl _ _ Tryz.underlying72 rfl (by kernel_rfl) HC11.out ?_) | (refine store_box rfl 72 _ _ rfl B _ HB11.out _ rfl rfl rfl (by kernel_rfl) rfl ?_;intro w12 B_ q_;have HB12:=Lib.hid B_;have HV12:=Lib.hid (HV11.out.putO HOB.out (by omega) hne3.2.2 q_);have HD12:=Lib.hid (HD11.out.oth q_ (HNew.out _ hBi).2.2 (HNew.out _ hBi).1 (HNew.out _ hBi).2.1 (HB11.out.cell 1 _ rfl));have HA12:=Lib.hid (HA11.out.but q_ (by omega));have Q12:Hid (But (fun i => Mine d.p d.b i ∨ i = T ∨ i = A ∨ i = B) wb w12):=Lib.hid (Q11.out.trans (q_.mono fun _ h => .inr (.inr (.inr h))));clear B_ q_) | (refine load_box rfl 70 _ rfl A rfl _ _ Tryz.underlying70 rfl (by kernel_rfl) HA12.out ?_) | (refine load_box rfl 72 _ rfl B rfl _ _ Tryz.underlying72 rfl (by kernel_rfl) HB12.out ?_) | fail)
       refine (same10_at _ z.x).mono ?_;rintro e w13 ⟨rfl,g13⟩
       go_wp2_with fail
       refine ⟨⟨k + 1,by simp,by omega,Q12.out.trans (But.of_grown g13),?_⟩,by simp [intOf];omega⟩
       rw [HSz.out]
       exact ⟨HD12.out.grown g13,HA12.out.grown g13,HB12.out.grown g13,b3,cp3,hne3.2,HV12.out.grown g13⟩
    ·as_aux_lemma =>
      have hlt2:¬ (k:Int) < (m:Int) + 20:=by omega
      obtain rfl:k = m + 20:=by omega
      obtain ⟨y,hy⟩:∃ y,runW c s act m y0 (m + 20) = y:=⟨_,rfl⟩
      rw [hy] at hwd hdv HO
      have HDk:=Lib.hid hwd
      have HVk:=Lib.hid hdv
      have GE:Hid (Grown w wo):=Lib.hid (But.fresh Gb.out HQ.out (fun i hi => by
       rcases hi with h | h | h | h
       ·exact HFr.out i (.inr h)
       ·omega
       ·omega
       ·omega))
      have t0:=HVk.out.box.cell 0 (.int .i64 c.t) rfl
      have t1:=HVk.out.box.cell 1 (.int .i64 c.b) rfl
      have t2:=HVk.out.box.cell 2 (.int .i64 c.i) rfl
      have t3:=HVk.out.box.cell 3 (.int .i64 c.f) rfl
      have t4:=HVk.out.box.cell 4 (.int .i64 c.k) rfl
      have t5:=HVk.out.box.cell 5 (.slice (some ⟨bk,0,none⟩) c.len cp) rfl
      have t6:=HVk.out.box.cell 6 (.int .i64 y.n) rfl
      have t7:=HVk.out.box.cell 7 (.int .i64 c.t) rfl
      have t8:=HVk.out.box.cell 8 (.int .i64 c.b) rfl
      have t9:=HVk.out.box.cell 9 (.int .i64 c.i) rfl
      have t10:=HVk.out.box.cell 10 (.int .i64 c.f) rfl
      have t11:=HVk.out.box.cell 11 (.int .i64 c.k) rfl
      have t12:=HVk.out.box.cell 12 (.slice sl.a1 sl.m1 sl.k1) rfl
      have t13:=HVk.out.box.cell 13 (.slice sl.a2 sl.m2 sl.k2) rfl
      have t14:=HVk.out.box.cell 14 (.slice sl.a3 sl.m3 sl.k3) rfl
      have t15:=HVk.out.box.cell 15 (.slice sl.a4 sl.m4 sl.k4) rfl
      have t16:=HVk.out.box.cell 16 (.slice sl.a5 sl.m5 sl.k5) rfl
      clear hwd hdv hy hq hbA hbB2
      go_wp2_with fail
      refine (equal10_at _ c d y.ws y.n s bk c.len cp sl HDk.out HDk.out.len (by rw [HCl.out];decide) HVk.out.holds).mono ?_;rintro e w6 ⟨rfl,g6⟩
      go_wp2_with fail
      go_ret
      exact ⟨rfl,gtr GE.out g6⟩
end Go.Proofs.YtmokcgifknmchaaGreat
