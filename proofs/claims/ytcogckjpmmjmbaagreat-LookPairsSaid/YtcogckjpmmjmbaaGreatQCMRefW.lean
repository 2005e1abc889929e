/- The document's answers for package look (corrieref09): a world as a value; Peek; Chain. -/
import Derived.Test.YtcogckjpmmjmbaaGreatQCMWRefB
import Derived.Test.YtcogckjpmmjmbaaGreatQCMChain
import Derived.Test.YtcogckjpmmjmbaaGreatQCMBkRefB
import Derived.Test.YtcogckjpmmjmbaaGreatQCGMRoute
import Derived.Test.YtcogckjpmmjmbaaGreatQCMSort
namespace Go.Proofs.YtcogckjpmmjmbaaGreat
open Go.ChangeShapes Go.WideShapes Go.ChangeAt Go.RowKit
set_option maxRecDepth 100000
set_option linter.unusedVariables false
def RwL (c:Cf) (b q cap:Nat) (n:Int) (sl:Sl):List Value:=[.int .i64 c.t,.int .i64 c.b,.int .i64 c.i,.int .i64 c.f,.int .i64 c.k,.slice (some ⟨b,0,none⟩) q cap,.int .i64 n,.int .i64 c.t,.int .i64 c.b,.int .i64 c.i,.int .i64 c.f,.int .i64 c.k,.slice sl.a1 sl.m1 sl.k1,.slice sl.a2 sl.m2 sl.k2,.slice sl.a3 sl.m3 sl.k3,.slice sl.a4 sl.m4 sl.k4,.slice sl.a5 sl.m5 sl.k5]
structure RwAt (w:World) (hi:Nat) (c:Cf) (b q:Nat) (ws:List Int) (s:St) (sl:Sl):Prop where
 holds:Holds w b ws
 len:ws.length = q
 few:q ≤ 1048576
 refs:RefS w hi c s (.slice sl.a1 sl.m1 sl.k1) (.slice sl.a2 sl.m2 sl.k2) (.slice sl.a3 sl.m3 sl.k3) (.slice sl.a4 sl.m4 sl.k4) (.slice sl.a5 sl.m5 sl.k5)
 lo:hi ≤ b
theorem RwAt.grown {w w':World} {hi:Nat} {c:Cf} {b q:Nat} {ws:List Int} {s:St} {sl:Sl} (h:RwAt w hi c b q ws s sl) (g:Grown w w'):RwAt w' hi c b q ws s sl:=⟨h.holds.grown g,h.len,h.few,h.refs.grown g,h.lo⟩
theorem Holds.but {S:Nat → Prop} {w w':World} {b:Nat} {ws:List Int} (h:Holds w b ws) (q:But S w w') (hs:¬ S b):Holds w' b ws:=fun j hj => q.cell hs (h j hj)
theorem RwAt.but {S:Nat → Prop} {w w':World} {hi:Nat} {c:Cf} {b q:Nat} {ws:List Int} {s:St} {sl:Sl} (h:RwAt w hi c b q ws s sl) (g:But S w w') (hs:∀ i,hi ≤ i → ¬ S i):RwAt w' hi c b q ws s sl:=⟨h.holds.but g (hs b h.lo),h.len,h.few,h.refs.but g hs,h.lo⟩
theorem rwPeek_any (w:World) (c:Cf) (b q cap:Nat) (ws:List Int) (n:Int) (sl:Sl) (hq:ws.length = q) (hc:Holds w b ws) (hf:q ≤ 1048576) (hn:0 ≤ n) (hn':n < 4611686018427387904) (i v:Int) (hv:rd ws i = v) :
  Calls Tryz.prog 68 #[.agg (RwL c b q cap n sl).toArray,.int .i64 i] w fun e w' => e = .returned (.int .u64 v) ∧ Grown w w':=by
 subst hq
 have HC:=Lib.hid hc
 have HV:=Lib.hid hv
 clear hc hv
 unfold RwL
 go_enter Tryz.func68,Tryz.ntmps68
 go_wp2_with fail
 refine (rPeek_any _ b cap ws n i (HC.out.grown (by go_grown)) hf hn hn').mono ?_;rintro e w1 ⟨rfl,g1⟩
 rw [HV.out]
 go_wp2
 go_ret
 exact ⟨rfl,gtr (by go_grown) g1⟩
theorem rwPeek_g {W:World} (c:Cf) (b q cap:Nat) (ws:List Int) (n:Int) (sl:Sl) (hq:ws.length = q) (hc:Holds W b ws) (hf:q ≤ 1048576) (hn:0 ≤ n) (hn':n < 4611686018427387904) (i v:Int) (hv:rd ws i = v) (g:GrW W) :
  Calls Tryz.prog 68 #[.agg (RwL c b q cap n sl).toArray,.int .i64 i] g.w fun e w' => e = .returned (.int .u64 v) ∧ Grown g.w w':=rwPeek_any _ c b q cap ws n sl hq (hc.grown g.gr) hf hn hn' i v hv
theorem firstOf_out {c:Cf} (ws:List Int) (b:Int) (h:vHead c.t c.b c.i c.f c.k b < 0):chainI c ws b = []:=by
 unfold chainI firstOf refOf nxtI
 have h1:vNext c.t c.b c.i c.f c.k (vHead c.t c.b c.i c.f c.k b) = -1:=by
  unfold vNext;exact if_neg (by omega)
 rw [h1]
 have h2:rd ws (-1) = 0:=rfl
 rw [h2]
 cases c.nodes with
 | zero => rfl
 | succ f => rfl
set_option maxHeartbeats 4000000 in
theorem rChain_at (w:World) (hi:Nat) (c:Cf) (b q cap:Nat) (ws:List Int) (n:Int) (s:St) (sl:Sl) (h:RwAt w hi c b q ws s sl) (hok:c.Ok) (hws:WOk ws) (hn:0 ≤ n) (hn':n < 4611686018427387904) (bk:Int) :
  Calls Tryz.prog 77 #[.agg (RwL c b q cap n sl).toArray,.int .i64 bk] w (ChainTold w (chainI c ws bk)):=by
 have HR:=Lib.hid h
 have HOK:=Lib.hid hok
 have HNn:Hid (zNodes c.t c.b c.i c.f c.k = (c.nodes:Int)):=Lib.hid (by have:=hok.z;unfold zNodes;rw [if_pos this];simp [Cf.nodes])
 have hbd:(c.nodes:Int) ≤ 9999:=by have:=hok.nodes_le;omega
 obtain ⟨hv,hhv⟩:∃ hv,vHead c.t c.b c.i c.f c.k bk = hv:=⟨_,rfl⟩
 have HH:=Lib.hid hhv
 clear h hok hhv
 have B0:=Box.made w (RwL c b q cap n sl) 42
 have HB0:=Lib.hid B0
 clear B0
 go_enter Tryz.func77,Tryz.ntmps77
 have e0:=HB0.out.cell 0 _ rfl
 have e1:=HB0.out.cell 1 _ rfl
 have e2:=HB0.out.cell 2 _ rfl
 have e3:=HB0.out.cell 3 _ rfl
 have e4:=HB0.out.cell 4 _ rfl
 go_wp2_with fail
 refine (rHead_at _ _ _ _ _ _ _ _ HH.out).mono ?_;rintro e w1 ⟨rfl,g1⟩
 have G1:Grown w w1:=galloc g1
 by_cases hv0:hv < 0
 ·have ev:decide (hv < 0) = true:=decide_eq_true hv0
  have HE:Hid (chainI c ws bk = []):=Lib.hid (firstOf_out ws bk (by rw [HH.out];exact hv0))
  clear hv0 e0 e1 e2 e3 e4
  go_wp2_with fail
  go_ret
  exact ⟨.slice none 0 0,rfl,by rw [HE.out];exact .inl ⟨rfl,rfl,rfl⟩,by rw [HE.out];exact .inl ⟨rfl,rfl,rfl⟩,G1⟩
 have ev:decide (hv < 0) = false:=decide_eq_false hv0
 have HCh:Hid (chainI c ws bk = chainN c ws c.nodes (refOf c ws hv)):=Lib.hid (by unfold chainI firstOf;rw [HH.out])
 have HB1:=Lib.hid (HB0.out.grown g1)
 clear hv0 e0 e1 e2 e3 e4
 go_wp2_with fail
 go_loopw [5,6,7] (fun s5 s6 s7 wr => ∃ (pre:List Int) (k:Nat) (v:Value) (at_:Int),v = s5 ∧ s6 = .int .i64 at_ ∧ s7 = .int .i64 (k:Int) ∧ k ≤ c.nodes ∧ pre.length = k ∧ chainI c ws bk = pre ++ chainN c ws (c.nodes - k) (refOf c ws at_) ∧
   Grown w wr ∧ Box wr w.heap.size (RwL c b q cap n sl) ∧ wr.ownsRow (w.heap.size + 1) 3 1 v pre.length (ints pre) ∧ (0 < pre.length ∨ v = .slice none 0 0)) (fun _ _ s7 _ => c.nodes - (intOf s7).toNat)
 case atStart => exact ⟨[],0,.slice none 0 0,hv,rfl,rfl,rfl,Nat.zero_le _,rfl,HCh.out,G1,HB1.out,own_nil _ _ _ _,.inr rfl⟩
 case round =>
  obtain ⟨pre,k,v,at_,rfl,rfl,rfl,hk,hpk,hch,hg,hB,hrow,hnil⟩:=hrel
  have HG:=Lib.hid hg
  have HBr:=Lib.hid hB
  have HRow:=Lib.hid hrow
  have HNil:=Lib.hid hnil
  have HChr:=Lib.hid hch
  have HPK:=Lib.hid hpk
  have e0:=hB.cell 0 _ rfl
  have e1:=hB.cell 1 _ rfl
  have e2:=hB.cell 2 _ rfl
  have e3:=hB.cell 3 _ rfl
  have e4:=hB.cell 4 _ rfl
  clear hg hB hrow hnil hch hpk
  go_wp2_with fail
  refine (rNodes_at _ _ _ _ _ _ _ HNn.out).mono ?_;rintro e w2 ⟨rfl,g2⟩
  clear e0 e1 e2 e3 e4
  by_cases hkn:k < c.nodes
  ·have hlt:(k:Int) < (c.nodes:Int):=by omega
   obtain ⟨f,hf⟩:∃ f,c.nodes - k = f + 1:=⟨c.nodes - k - 1,by omega⟩
   obtain ⟨rv,hrv⟩:∃ rv,refOf c ws at_ = rv:=⟨_,rfl⟩
   have hr0:0 ≤ rv:=hrv ▸ (hws _).1
   have hr1:rv ≤ 18446744073709551615:=hrv ▸ (hws _).2
   have HRV:Hid (rd ws (nxtI c at_) = rv):=Lib.hid hrv
   have HN:Hid (vNext c.t c.b c.i c.f c.k at_ = nxtI c at_):=Lib.hid rfl
   have HF:=Lib.hid hf
   have HRV2:=Lib.hid hrv
   clear hrv hf
   go_wp2_with fail
   have e0:∀ g:GrW w2,g.w.cell? ⟨w.heap.size,0,none⟩ = some (.int .i64 c.t):=GrW.cell ((HBr.out.grown g2).cell 0 _ rfl)
   have e1:∀ g:GrW w2,g.w.cell? ⟨w.heap.size,1,none⟩ = some (.int .i64 c.b):=GrW.cell ((HBr.out.grown g2).cell 1 _ rfl)
   have e2:∀ g:GrW w2,g.w.cell? ⟨w.heap.size,2,none⟩ = some (.int .i64 c.i):=GrW.cell ((HBr.out.grown g2).cell 2 _ rfl)
   have e3:∀ g:GrW w2,g.w.cell? ⟨w.heap.size,3,none⟩ = some (.int .i64 c.f):=GrW.cell ((HBr.out.grown g2).cell 3 _ rfl)
   have e4:∀ g:GrW w2,g.w.cell? ⟨w.heap.size,4,none⟩ = some (.int .i64 c.k):=GrW.cell ((HBr.out.grown g2).cell 4 _ rfl)
   have e5:∀ g:GrW w2,g.w.cell? ⟨w.heap.size,5,none⟩ = some (.slice (some ⟨b,0,none⟩) q cap):=GrW.cell ((HBr.out.grown g2).cell 5 _ rfl)
   have e6:∀ g:GrW w2,g.w.cell? ⟨w.heap.size,6,none⟩ = some (.int .i64 n):=GrW.cell ((HBr.out.grown g2).cell 6 _ rfl)
   have e7:∀ g:GrW w2,g.w.cell? ⟨w.heap.size,7,none⟩ = some (.int .i64 c.t):=GrW.cell ((HBr.out.grown g2).cell 7 _ rfl)
   have e8:∀ g:GrW w2,g.w.cell? ⟨w.heap.size,8,none⟩ = some (.int .i64 c.b):=GrW.cell ((HBr.out.grown g2).cell 8 _ rfl)
   have e9:∀ g:GrW w2,g.w.cell? ⟨w.heap.size,9,none⟩ = some (.int .i64 c.i):=GrW.cell ((HBr.out.grown g2).cell 9 _ rfl)
   have e10:∀ g:GrW w2,g.w.cell? ⟨w.heap.size,10,none⟩ = some (.int .i64 c.f):=GrW.cell ((HBr.out.grown g2).cell 10 _ rfl)
   have e11:∀ g:GrW w2,g.w.cell? ⟨w.heap.size,11,none⟩ = some (.int .i64 c.k):=GrW.cell ((HBr.out.grown g2).cell 11 _ rfl)
   have e12:∀ g:GrW w2,g.w.cell? ⟨w.heap.size,12,none⟩ = some (.slice sl.a1 sl.m1 sl.k1):=GrW.cell ((HBr.out.grown g2).cell 12 _ rfl)
   have e13:∀ g:GrW w2,g.w.cell? ⟨w.heap.size,13,none⟩ = some (.slice sl.a2 sl.m2 sl.k2):=GrW.cell ((HBr.out.grown g2).cell 13 _ rfl)
   have e14:∀ g:GrW w2,g.w.cell? ⟨w.heap.size,14,none⟩ = some (.slice sl.a3 sl.m3 sl.k3):=GrW.cell ((HBr.out.grown g2).cell 14 _ rfl)
   have e15:∀ g:GrW w2,g.w.cell? ⟨w.heap.size,15,none⟩ = some (.slice sl.a4 sl.m4 sl.k4):=GrW.cell ((HBr.out.grown g2).cell 15 _ rfl)
   have e16:∀ g:GrW w2,g.w.cell? ⟨w.heap.size,16,none⟩ = some (.slice sl.a5 sl.m5 sl.k5):=GrW.cell ((HBr.out.grown g2).cell 16 _ rfl)
   refine wp_region_grow (by kernel_rfl) (by kernel_rfl) ?_
   repeat (go_big_quiet_step ((first | (go_at_call 86;with_reducible exact grcall (rNext_at _ _ _ _ _ _ _ _ HN.out)) | (go_at_call 68;exact grcall (rwPeek_g c b q cap ws n sl HR.out.len (HR.out.holds.grown (gtr HG.out g2)) HR.out.few hn hn' _ _ HRV.out _)) | (go_at_call 150;exact grcall (refIndex_any _ _ hr0 hr1)))))
   refine wpQuiet_nil ?_
   rintro w3 ⟨⟨_,g3⟩,rfl⟩
   clear e0 e1 e2 e3 e4 e5 e6 e7 e8 e9 e10 e11 e12 e13 e14 e15 e16
   by_cases hz:rv / 2 = 0
   ·have hc0:chainN c ws (c.nodes - k) (refOf c ws at_) = []:=by rw [HF.out,HRV2.out];simp [chainN,hz]
    have HX:Hid (chainI c ws bk = pre):=Lib.hid (by rw [HChr.out,hc0];simp)
    clear hc0
    go_wp2_with fail
    go_ret
    refine ⟨v,rfl,?_,?_,gtr HG.out (gtr g2 g3)⟩
    ·rw [HX.out];exact (own_flat (own_grown HRow.out (gtr g2 g3)) HNil.out).mono (by omega)
    ·rw [HX.out];exact own_rowC (own_grown HRow.out (gtr g2 g3))
   ·have hc1:chainN c ws (c.nodes - k) (refOf c ws at_) = rv / 2 :: chainN c ws f (refOf c ws (rv / 2)):=by rw [HF.out,HRV2.out];simp [chainN,hz]
    have HX:Hid (chainI c ws bk = (pre ++ [rv / 2]) ++ chainN c ws f (refOf c ws (rv / 2))):=Lib.hid (by rw [HChr.out,hc1];simp)
    clear hc1
    go_wp2_with (first | (at_builtin;refine pause ?_) | fail)
    unfold Pause
    have ga:Grown w3 (w3.alloc (.cells #[.int .i64 (rv / 2)] 3)):=by go_grown
    have G3:Grown w w3:=gtr HG.out (gtr g2 g3)
    refine wpList_add rfl _ _ 36 rfl (w.heap.size + 1) 3 (.int .i64 0) 1 8 Tryz.underlying36 info_int rfl (by decide) v pre.length (ints pre) (own_grown HRow.out (gtr g2 (gtr g3 ga))) _ 1 0 [.int .i64 (rv / 2)] (.inr ⟨by decide,w3.heap.size,1,rfl,Nat.zero_le _,fun j u hj => ?news⟩) rfl (by simp [Value.oneCell']) ?h63 (by decide) ?hbase rfl rfl ?_
    case news =>
     rcases j with _ | j
     ·cases hj;simp [go_sem]
     ·cases hj
    case h63 => rw [HPK.out];omega
    case hbase => have h1:=HBr.out.lt;have h2:=g2.2.2;have h3:=g3.2.2;simp;omega
    intro v' W5 r5 fr5 q5
    obtain ⟨g',cap',hv'⟩:=own_open r5 (by omega)
    have hG5:Grown w W5:=But.fresh (gtr G3 ga) q5 (fun i hi => by have:=own_at HRow.out hi;omega)
    have B5:=(HBr.out.grown (gtr g2 (gtr g3 ga))).but q5 (fun hi => by have:=own_at HRow.out hi;omega)
    have R5:=Lib.hid r5
    have HV':=Lib.hid hv'
    clear r5 hv' q5 fr5
    go_wp2_with fail
    refine ⟨⟨pre ++ [rv / 2],k + 1,v',rv / 2,rfl,rfl,by simp,hkn,by simp [HPK.out],?_,hG5,B5,?_,.inl (by simp)⟩,by simp [intOf];omega⟩
    ·rw [HX.out,show c.nodes - (k + 1) = f by have:=HF.out;omega]
    ·simpa [ints] using R5.out
  ·have hlt:¬ (k:Int) < (c.nodes:Int):=by omega
   have HX:Hid (chainI c ws bk = pre):=Lib.hid (by rw [HChr.out,show c.nodes - k = 0 by omega];simp [chainN])
   clear hkn
   go_wp2_with fail
   go_ret
   refine ⟨v,rfl,?_,?_,gtr HG.out g2⟩
   ·rw [HX.out];exact (own_flat (own_grown HRow.out g2) HNil.out).mono (by omega)
   ·rw [HX.out];exact own_rowC (own_grown HRow.out g2)
end Go.Proofs.YtcogckjpmmjmbaaGreat
namespace Go.Proofs.YtcogckjpmmjmbaaGreat
open Go.ChangeShapes Go.WideShapes Go.ChangeAt Go.RowKit
set_option maxRecDepth 100000
set_option linter.unusedVariables false
theorem ints_at {xs:List Int} {j:Nat} {x:Int} (h:xs[j]? = some x):(ints xs)[j]? = some (.int .i64 x):=by simp [ints,h]
set_option maxHeartbeats 4000000 in
theorem sameP_at (w:World) (lo1 lo2:Nat) (v1 v2:Value) (xs:List (Int × Int)) (h1:FlatAt w lo1 v1 (flatP xs) xs.length) (h2:FlatAt w lo2 v2 (flatP xs) xs.length) (hl:xs.length ≤ 99999) :
  Calls Tryz.prog 20 #[v1,v2] w fun e w' => e = .returned (.bool true) ∧ Grown w w':=by
 obtain ⟨n,hn⟩:∃ n,xs.length = n:=⟨_,rfl⟩
 rw [hn] at h1 h2 hl
 have HN:=Lib.hid hn
 clear hn
 rcases h1 with ⟨h0,-,rfl⟩ | ⟨hn1,g1,cap1,rfl,-,k1⟩
 ·rcases h2 with ⟨-,-,rfl⟩ | ⟨hn2,-⟩
  ·clear h0 hl
   go_enter Tryz.func20,Tryz.ntmps20
   go_wp2_with fail
   refine wp_loop_rounds 1 ?_
   rw [rounds_succ]
   go_wp2_with fail
   go_ret
   exact ⟨rfl,by go_grown⟩
  ·omega
 ·rcases h2 with ⟨h0,-⟩ | ⟨-,g2,cap2,rfl,-,k2⟩
  ·omega
  have K1:=Lib.hid k1
  have K2:=Lib.hid k2
  have hl':(n:Int) ≤ 99999:=by omega
  clear k1 k2 hn1
  go_enter Tryz.func20,Tryz.ntmps20
  go_wp2_with fail
  go_loopw [5] (fun s5 wr => ∃ k:Nat,s5 = .int .i64 (k:Int) ∧ k ≤ n ∧ Grown w wr) (fun s5 _ => n - (intOf s5).toNat)
  case atStart => exact ⟨0,rfl,Nat.zero_le _,by go_grown⟩
  case round =>
   obtain ⟨k,rfl,hk,hg⟩:=hrel
   by_cases hkn:k < n
   ·obtain ⟨x,hx⟩:∃ x,xs[k]? = some x:=⟨_,List.getElem?_eq_getElem (by rw [HN.out];exact hkn)⟩
    have d1:∀ q:GrW wr,q.w.cell? ⟨g1,k * 2,none⟩ = some (.int .u64 x.1):=GrW.cell (gcell hg (K1.out _ _ (flatP_0 hx)))
    have d2:∀ q:GrW wr,q.w.cell? ⟨g2,k * 2,none⟩ = some (.int .u64 x.1):=GrW.cell (gcell hg (K2.out _ _ (flatP_0 hx)))
    have d3:∀ q:GrW wr,q.w.cell? ⟨g1,k * 2 + 1,none⟩ = some (.int .u64 x.2):=GrW.cell (gcell hg (K1.out _ _ (flatP_1 hx)))
    have d4:∀ q:GrW wr,q.w.cell? ⟨g2,k * 2 + 1,none⟩ = some (.int .u64 x.2):=GrW.cell (gcell hg (K2.out _ _ (flatP_1 hx)))
    have hlt:(k:Int) < (n:Int):=by omega
    have HG:=Lib.hid hg
    clear hx hg
    go_wp2_with fail
    refine wp_region_grow (by kernel_rfl) (by kernel_rfl) ?_
    repeat (go_big_quiet_step (fail))
    refine wpQuiet_nil ?_
    rintro w3 ⟨⟨_,g3⟩,rfl⟩
    clear d1 d2 d3 d4
    go_wp2_with fail
    exact ⟨⟨k + 1,by simp,hkn,gtr HG.out g3⟩,by simp [intOf];omega⟩
   ·have hlt:¬ (k:Int) < (n:Int):=by omega
    clear hkn
    go_wp2_with fail
    go_ret
    exact ⟨rfl,hg⟩
end Go.Proofs.YtcogckjpmmjmbaaGreat
