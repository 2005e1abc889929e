/- The document's walk (corrieref10): Step. -/
import Derived.Test.YtmokcgifknmchaaGreatRWalkS
import Derived.Test.YtmokcgifknmchaaGreatRWalkT
namespace Go.Proofs.YtmokcgifknmchaaGreat
open Go.ChangeShapes Go.WideShapes Go.ChangeAt Go.RowKit
set_option maxRecDepth 100000
set_option linter.unusedVariables false
set_option maxHeartbeats 4000000 in
theorem rStepK (w:World) (hi:Nat) (c:Cf) (b q cap:Nat) (ws:List Int) (n:Int) (s:St) (sl:Sl) (h:RwAt w hi c b q ws s sl) (hok:c.Ok) (hl:s.ops.length ≤ 99999) (hl5:s.nodes.length ≤ 99999) (x:Wk) (q0:0 < q) (n0:0 ≤ n) (n1:n < 4611686018427387904) (hw:∀ i:Int,0 ≤ rd ws i ∧ rd ws i ≤ 18446744073709551615) (b0:0 ≤ x.next) (b1:x.next ≤ 18446744073709551615) (u0:-9223372036854775808 ≤ x.curr) (u1:x.curr ≤ 9223372036854775807) (z:Kd) (hz:stepK c s ⟨ws,n,x⟩ = z) :
  Calls Tryz.prog 32 #[.agg (RwL c b q cap n sl).toArray,.agg x.l.toArray] w fun e w' => RK c sl b q z w e w':=by
 cases hd:x.done with
 | true => exact rStepD w hi c b q cap ws n s sl h hok hl hl5 x q0 n0 n1 hw hd z hz
 | false =>
  by_cases hb:x.phase < 0 ∨ 8 ≤ x.phase
  ·exact rStepB w hi c b q cap ws n s sl h hok hl hl5 x q0 n0 n1 hw b0 b1 u0 u1 hd hb z hz
  ·rcases (show x.phase = 0 ∨ x.phase = 1 ∨ x.phase = 2 ∨ x.phase = 3 ∨ x.phase = 4 ∨ x.phase = 5 ∨ x.phase = 6 ∨ x.phase = 7 by omega) with hp | hp | hp | hp | hp | hp | hp | hp
   ·exact rStep0 w hi c b q cap ws n s sl h hok hl hl5 x q0 n0 n1 hw b0 b1 u0 u1 hd hp z hz
   ·exact rStep1 w hi c b q cap ws n s sl h hok hl hl5 x q0 n0 n1 hw b0 b1 u0 u1 hd hp z hz
   ·exact rStep2 w hi c b q cap ws n s sl h hok hl hl5 x q0 n0 n1 hw b0 b1 u0 u1 hd hp z hz
   ·exact rStep3 w hi c b q cap ws n s sl h hok hl hl5 x q0 n0 n1 hw b0 b1 u0 u1 hd hp z hz
   ·exact rStep4 w hi c b q cap ws n s sl h hok hl hl5 x q0 n0 n1 hw b0 b1 u0 u1 hd hp z hz
   ·exact rStep5 w hi c b q cap ws n s sl h hok hl hl5 x q0 n0 n1 hw b0 b1 u0 u1 hd hp z hz
   ·exact rStep6 w hi c b q cap ws n s sl h hok hl hl5 x q0 n0 n1 hw b0 b1 u0 u1 hd hp z hz
   ·exact rStep7 w hi c b q cap ws n s sl h hok hl hl5 x q0 n0 n1 hw b0 b1 u0 u1 hd hp z hz
end Go.Proofs.YtmokcgifknmchaaGreat
