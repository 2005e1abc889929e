/- same, walked (corrielaw10, corrielaw11). -/
import Derived.Test.YtmokcgifknmchaaGreatWalkS
namespace Go.Proofs.YtmokcgifknmchaaGreat
open Go.ChangeShapes Go.WideShapes Go.ChangeAt Go.RowKit
set_option maxRecDepth 100000
set_option linter.unusedVariables false
set_option maxHeartbeats 4000000 in
theorem same10_at (w:World) (x:Wk):Calls Tryz.prog 33 #[.agg x.l.toArray,.agg x.l.toArray] w fun e w' => e = .returned (.bool true) ∧ Grown w w':=by
 simp only [Wk.l]
 go_enter Tryz.func33,Tryz.ntmps33
 go_wp2
 go_ret
 exact ⟨rfl,by go_grown⟩
end Go.Proofs.YtmokcgifknmchaaGreat
