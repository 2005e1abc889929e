/- A law of package place holds for every input: each call of the law's function returns true, and its arguments read behind the call as they read before. -/
import Derived.Test.YtcogckjpmmjmbaaGreatQDMBase
import Derived.Test.YtcogckjpmmjmbaaGreatQDGTkF
import Derived.Test.YtcogckjpmmjmbaaGreatQDGPlH
import Derived.Test.YtcogckjpmmjmbaaGreatQDMScene
import Derived.ProofKit
import Derived.OpenShut
namespace Go.Proofs.YtcogckjpmmjmbaaGreat
open Go.ChangeShapes Go.WideShapes Go.ChangeAt Go.RowKit
set_option linter.unusedVariables false
theorem own:ownKnob Tryz.prog.godebug = none:=by kernel_rfl
end Go.Proofs.YtcogckjpmmjmbaaGreat
