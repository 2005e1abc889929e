/- The document's answers for package look (corrieref09): a world as a value; Peek; Chain. -/
import Derived.Test.YtcogckjpmmjmbaaGreatQDMWRefB
import Derived.Test.YtcogckjpmmjmbaaGreatQDMChain
import Derived.Test.YtcogckjpmmjmbaaGreatQDMBkRefB
import Derived.Test.YtcogckjpmmjmbaaGreatQDGMRoute
import Derived.Test.YtcogckjpmmjmbaaGreatQDMSort
namespace Go.Proofs.YtcogckjpmmjmbaaGreat
open Go.ChangeShapes Go.WideShapes Go.ChangeAt Go.RowKit
set_option maxRecDepth 100000
set_option linter.unusedVariables false
def RwL (c:Cf) (b q cap:Nat) (n:Int) (sl:Sl):List Value:=[.int .i64 c.t,.int .i64 c.b,.int .i64 c.i,.int .i64 c.f,.int .i64 c.k,.slice (some ⟨b,0,none⟩) q cap,.int .i64 n,.int .i64 c.t,.int .i64 c.b,.int .i64 c.i,.int .i64 c.f,.int .i64 c.k,.slice sl.a1 sl.m1 sl.k1,.slice sl.a2 sl.m2 sl.k2,.slice sl.a3 sl.m3 sl.k3,.slice sl.a4 sl.m4 sl.k4,.slice sl.a5 sl.m5 sl.k5]
structure RwAt (w:World) (hi:Nat) (c:Cf) (b q:Nat) (ws:List Int) (s:St) (sl:Sl):Prop where
 holds:Holds w b ws
 len:ws.length = q
 few:q ≤ 1048576
 refs:RefS w hi c s (.slice sl.a1 sl.m1 sl.k1) (.slice sl.a2 sl.m2 sl.k2) (.slice sl.a3 sl.m3 sl.k3) (.slice sl.a4 sl.m4 sl.k4) (.slice sl.a5 sl.m5 sl.k5)
 lo:hi ≤ b
theorem RwAt.grown {w w':World} {hi:Nat} {c:Cf} {b q:Nat} {ws:List Int} {s:St} {sl:Sl} (h:RwAt w hi c b q ws s sl) (g:Grown w w'):RwAt w' hi c b q ws s sl:=⟨h.holds.grown g,h.len,h.few,h.refs.grown g,h.lo⟩
theorem Holds.but {S:Nat → Prop} {w w':World} {b:Nat} {ws:List Int} (h:Holds w b ws) (q:But S w w') (hs:¬ S b):Holds w' b ws:=fun j hj => q.cell hs (h j hj)
theorem RwAt.but {S:Nat → Prop} {w w':World} {hi:Nat} {c:Cf} {b q:Nat} {ws:List Int} {s:St} {sl:Sl} (h:RwAt w hi c b q ws s sl) (g:But S w w') (hs:∀ i,hi ≤ i → ¬ S i):RwAt w' hi c b q ws s sl:=⟨h.holds.but g (hs b h.lo),h.len,h.few,h.refs.but g hs,h.lo⟩
theorem rwPeek_any (w:World) (c:Cf) (b q cap:Nat) (ws:List Int) (n:Int) (sl:Sl) (hq:ws.length = q) (hc:Holds w b ws) (hf:q ≤ 1048576) (hn:0 ≤ n) (hn':n < 4611686018427387904) (i v:Int) (hv:rd ws i = v) :
  Calls Tryz.prog 68 #[.agg (RwL c b q cap n sl).toArray,.int .i64 i] w fun e w' => e = .returned (.int .u64 v) ∧ Grown w w':=by
 subst hq
 have HC:=Lib.hid hc
 have HV:=Lib.hid hv
 clear hc hv
 unfold RwL
 go_enter Tryz.func68,Tryz.ntmps68
 go_wp2_with fail
 refine (rPeek_any _ b cap ws n i (HC.out.grown (by go_grown)) hf hn hn').mono ?_;rintro e w1 ⟨rfl,g1⟩
 rw [HV.out]
 go_wp2
 go_ret
 exact ⟨rfl,gtr (by go_grown) g1⟩
end Go.Proofs.YtcogckjpmmjmbaaGreat
namespace Go.Proofs.YtcogckjpmmjmbaaGreat
open Go.ChangeShapes Go.WideShapes Go.ChangeAt Go.RowKit
set_option maxRecDepth 100000
set_option linter.unusedVariables false
set_option maxHeartbeats 4000000 in
theorem sameP_at (w:World) (lo1 lo2:Nat) (v1 v2:Value) (xs:List (Int × Int)) (h1:FlatAt w lo1 v1 (flatP xs) xs.length) (h2:FlatAt w lo2 v2 (flatP xs) xs.length) (hl:xs.length ≤ 99999) :
  Calls Tryz.prog 20 #[v1,v2] w fun e w' => e = .returned (.bool true) ∧ Grown w w':=by
 obtain ⟨n,hn⟩:∃ n,xs.length = n:=⟨_,rfl⟩
 rw [hn] at h1 h2 hl
 have HN:=Lib.hid hn
 clear hn
 rcases h1 with ⟨h0,-,rfl⟩ | ⟨hn1,g1,cap1,rfl,-,k1⟩
 ·rcases h2 with ⟨-,-,rfl⟩ | ⟨hn2,-⟩
  ·clear h0 hl
   go_enter Tryz.func20,Tryz.ntmps20
   go_wp2_with fail
   refine wp_loop_rounds 1 ?_
   rw [rounds_succ]
   go_wp2_with fail
   go_ret
   exact ⟨rfl,by go_grown⟩
  ·omega
 ·rcases h2 with ⟨h0,-⟩ | ⟨-,g2,cap2,rfl,-,k2⟩
  ·omega
  have K1:=Lib.hid k1
  have K2:=Lib.hid k2
  have hl':(n:Int) ≤ 99999:=by omega
  clear k1 k2 hn1
  go_enter Tryz.func20,Tryz.ntmps20
  go_wp2_with fail
  go_loopw [5] (fun s5 wr => ∃ k:Nat,s5 = .int .i64 (k:Int) ∧ k ≤ n ∧ Grown w wr) (fun s5 _ => n - (intOf s5).toNat)
  case atStart => exact ⟨0,rfl,Nat.zero_le _,by go_grown⟩
  case round =>
   obtain ⟨k,rfl,hk,hg⟩:=hrel
   by_cases hkn:k < n
   ·obtain ⟨x,hx⟩:∃ x,xs[k]? = some x:=⟨_,List.getElem?_eq_getElem (by rw [HN.out];exact hkn)⟩
    have d1:∀ q:GrW wr,q.w.cell? ⟨g1,k * 2,none⟩ = some (.int .u64 x.1):=GrW.cell (gcell hg (K1.out _ _ (flatP_0 hx)))
    have d2:∀ q:GrW wr,q.w.cell? ⟨g2,k * 2,none⟩ = some (.int .u64 x.1):=GrW.cell (gcell hg (K2.out _ _ (flatP_0 hx)))
    have d3:∀ q:GrW wr,q.w.cell? ⟨g1,k * 2 + 1,none⟩ = some (.int .u64 x.2):=GrW.cell (gcell hg (K1.out _ _ (flatP_1 hx)))
    have d4:∀ q:GrW wr,q.w.cell? ⟨g2,k * 2 + 1,none⟩ = some (.int .u64 x.2):=GrW.cell (gcell hg (K2.out _ _ (flatP_1 hx)))
    have hlt:(k:Int) < (n:Int):=by omega
    have HG:=Lib.hid hg
    clear hx hg
    go_wp2_with fail
    refine wp_region_grow (by kernel_rfl) (by kernel_rfl) ?_
    repeat (go_big_quiet_step (fail))
    refine wpQuiet_nil ?_
    rintro w3 ⟨⟨_,g3⟩,rfl⟩
    clear d1 d2 d3 d4
    go_wp2_with fail
    exact ⟨⟨k + 1,by simp,hkn,gtr HG.out g3⟩,by simp [intOf];omega⟩
   ·have hlt:¬ (k:Int) < (n:Int):=by omega
    clear hkn
    go_wp2_with fail
    go_ret
    exact ⟨rfl,hg⟩
end Go.Proofs.YtcogckjpmmjmbaaGreat
