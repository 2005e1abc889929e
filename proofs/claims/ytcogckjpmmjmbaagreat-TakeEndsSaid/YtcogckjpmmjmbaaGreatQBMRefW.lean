/- The document's answers for package look (corrieref09): a world as a value; Peek; Chain. -/
import Derived.Test.YtcogckjpmmjmbaaGreatQBMWRefB
import Derived.Test.YtcogckjpmmjmbaaGreatQBMChain
import Derived.Test.YtcogckjpmmjmbaaGreatQBMBkRefB
import Derived.Test.YtcogckjpmmjmbaaGreatQBGMRoute
import Derived.Test.YtcogckjpmmjmbaaGreatQBMSort
namespace Go.Proofs.YtcogckjpmmjmbaaGreat
open Go.ChangeShapes Go.WideShapes Go.ChangeAt Go.RowKit
set_option maxRecDepth 100000
set_option linter.unusedVariables false
def RwL (c:Cf) (b q cap:Nat) (n:Int) (sl:Sl):List Value:=[.int .i64 c.t,.int .i64 c.b,.int .i64 c.i,.int .i64 c.f,.int .i64 c.k,.slice (some ⟨b,0,none⟩) q cap,.int .i64 n,.int .i64 c.t,.int .i64 c.b,.int .i64 c.i,.int .i64 c.f,.int .i64 c.k,.slice sl.a1 sl.m1 sl.k1,.slice sl.a2 sl.m2 sl.k2,.slice sl.a3 sl.m3 sl.k3,.slice sl.a4 sl.m4 sl.k4,.slice sl.a5 sl.m5 sl.k5]
structure RwAt (w:World) (hi:Nat) (c:Cf) (b q:Nat) (ws:List Int) (s:St) (sl:Sl):Prop where
 holds:Holds w b ws
 len:ws.length = q
 few:q ≤ 1048576
 refs:RefS w hi c s (.slice sl.a1 sl.m1 sl.k1) (.slice sl.a2 sl.m2 sl.k2) (.slice sl.a3 sl.m3 sl.k3) (.slice sl.a4 sl.m4 sl.k4) (.slice sl.a5 sl.m5 sl.k5)
 lo:hi ≤ b
theorem RwAt.grown {w w':World} {hi:Nat} {c:Cf} {b q:Nat} {ws:List Int} {s:St} {sl:Sl} (h:RwAt w hi c b q ws s sl) (g:Grown w w'):RwAt w' hi c b q ws s sl:=⟨h.holds.grown g,h.len,h.few,h.refs.grown g,h.lo⟩
theorem Holds.but {S:Nat → Prop} {w w':World} {b:Nat} {ws:List Int} (h:Holds w b ws) (q:But S w w') (hs:¬ S b):Holds w' b ws:=fun j hj => q.cell hs (h j hj)
theorem RwAt.but {S:Nat → Prop} {w w':World} {hi:Nat} {c:Cf} {b q:Nat} {ws:List Int} {s:St} {sl:Sl} (h:RwAt w hi c b q ws s sl) (g:But S w w') (hs:∀ i,hi ≤ i → ¬ S i):RwAt w' hi c b q ws s sl:=⟨h.holds.but g (hs b h.lo),h.len,h.few,h.refs.but g hs,h.lo⟩
theorem rwPeek_any (w:World) (c:Cf) (b q cap:Nat) (ws:List Int) (n:Int) (sl:Sl) (hq:ws.length = q) (hc:Holds w b ws) (hf:q ≤ 1048576) (hn:0 ≤ n) (hn':n < 4611686018427387904) (i v:Int) (hv:rd ws i = v) :
  Calls Tryz.prog 68 #[.agg (RwL c b q cap n sl).toArray,.int .i64 i] w fun e w' => e = .returned (.int .u64 v) ∧ Grown w w':=by
 subst hq
 have HC:=Lib.hid hc
 have HV:=Lib.hid hv
 clear hc hv
 unfold RwL
 go_enter Tryz.func68,Tryz.ntmps68
 go_wp2_with fail
 refine (rPeek_any _ b cap ws n i (HC.out.grown (by go_grown)) hf hn hn').mono ?_;rintro e w1 ⟨rfl,g1⟩
 rw [HV.out]
 go_wp2
 go_ret
 exact ⟨rfl,gtr (by go_grown) g1⟩
end Go.Proofs.YtcogckjpmmjmbaaGreat
namespace Go.Proofs.YtcogckjpmmjmbaaGreat
open Go.ChangeShapes Go.WideShapes Go.ChangeAt Go.RowKit
set_option maxRecDepth 100000
set_option linter.unusedVariables false
end Go.Proofs.YtcogckjpmmjmbaaGreat
