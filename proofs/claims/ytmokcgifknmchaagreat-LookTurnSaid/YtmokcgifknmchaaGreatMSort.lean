/- Pairs, sorted by their keys, those of one key in the turn in which they stood: slices.SortStableFunc of at most 20 pairs. -/
import Derived.Test.YtmokcgifknmchaaGreatMIter
import Derived.Test.YtmokcgifknmchaaGreatMBkRefB
import Derived.Deep.CutRange
import Derived.Test.YtmokcgifknmchaaGreatMChain
namespace Go.Proofs.YtmokcgifknmchaaGreat
open Go.ChangeShapes Go.WideShapes Go.ChangeAt Go.RowKit
set_option maxRecDepth 100000
set_option linter.unusedVariables false
def flatP (ps:List (Int × Int)):List Value:=ps.flatMap fun p => [.int .u64 p.1,.int .u64 p.2]
end Go.Proofs.YtmokcgifknmchaaGreat
namespace Go.Proofs.YtmokcgifknmchaaGreat
open Go.ChangeShapes Go.WideShapes Go.ChangeAt Go.RowKit
set_option maxRecDepth 100000
set_option linter.unusedVariables false
theorem Box.sub {w:World} {b:Nat} {l:List Value} (h:Box w b l) (j:Nat) (u:Value) (hj:l[j]? = some u):w.cell? ⟨b,j,none⟩ = some u:=h.cell j u hj
end Go.Proofs.YtmokcgifknmchaaGreat
namespace Go.Proofs.YtmokcgifknmchaaGreat
open Go.ChangeShapes Go.WideShapes Go.ChangeAt Go.RowKit
set_option maxRecDepth 100000
set_option linter.unusedVariables false
end Go.Proofs.YtmokcgifknmchaaGreat
