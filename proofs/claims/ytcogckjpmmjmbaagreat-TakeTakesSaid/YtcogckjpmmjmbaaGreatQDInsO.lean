/- The document's answers for package look (corrieref09): Ins, Over, has, insert. -/
import Derived.Test.YtcogckjpmmjmbaaGreatQDMRefW
import Derived.Test.YtcogckjpmmjmbaaGreatQDMSound
namespace Go.Proofs.YtcogckjpmmjmbaaGreat
open Go.ChangeShapes Go.WideShapes Go.ChangeAt Go.RowKit
set_option maxRecDepth 100000
set_option linter.unusedVariables false
def insV (c:Cf) (ws:List Int) (s:St) (op:Int):Bool:=decide ((calAt s op).kind = 1 ∧ wrdOf c ws op = 1)
end Go.Proofs.YtcogckjpmmjmbaaGreat
