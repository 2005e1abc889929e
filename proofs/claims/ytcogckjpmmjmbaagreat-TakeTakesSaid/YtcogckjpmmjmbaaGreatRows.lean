/-
  No cell of these rows narrows 'for every input' (looked for: loops, veiled, ifaces, maps, wideKeys, modest, calm, conditions, laid).
  DERIVED. THE GIVEN ROWS OF THIS SEAT. 11 by the template 'for every input the law returns true; each argument reads behind the call as it read before'; 0 by the template 'total and deterministic' (their statements: YtcogckjpmmjmbaaGreatTotals.lean).
  GIVEN WITH THE SEED: the statements are not yours to turn. If you find one false, say at which input.
  Laid BY PROGRAM, IN A SANDBOX (cutbox-rows.mjs): the forced cells as the released guide's own fill.sh prints them over the translation 5a1e3cc8e3a9fc26… (all of the seat's roots in one cut). By AI agents, Wed Nov 11 2026. No macro, syntax, notation, axiom, sorry.
-/
import Derived.Test.YtcogckjpmmjmbaaGreatChecked
import GoSem.Claim
import GoSem.ClaimJoined
import GoSem.ClaimMapViews
import Derived.JoinedTies
import Derived.KernelRfl
namespace Go.Proofs.YtcogckjpmmjmbaaGreat
/- THE CELL 'sum', in the pinned program and in every row, IS THE sha256 OF THE DUMP (.gsa) THAT YtcogckjpmmjmbaaGreatProg.lean LOADS. Nothing in Lean hashes anything: it is a label: what it is worth is what the hold of that sum in a sandbox is worth. -/
noncomputable def Tryz.pinned : Pinned := { name := "ytcogckjpmmjmbaagreat", sum := "5a1e3cc8e3a9fc26e49682134f38fee970a93ddd008b0ab240c7176598f90745", checked := Tryz.checked }
namespace Rows
def none {H : Type} : Left H := { results := [], args := [] }

/-- 'corrielaw09.LookPairs': WHATEVER THE INPUT: true; the input reads as it did. -/
def lookPairsSpec : ChangeSpec := { name := "lookPairs", fn := fun _ => fun
  | [d1, d2] => { results := [.lit (.bool true)], args := [d1, d2] }
  | _ => none }
def lookPairsRow : OpenClaim := { program := "ytcogckjpmmjmbaagreat", sum := "5a1e3cc8e3a9fc26e49682134f38fee970a93ddd008b0ab240c7176598f90745", func := "corrie/corrielaw09.LookPairs", spec := "lookPairs", inPlace := ["sync/atomic.LoadInt64", "sync/atomic.AddInt64", "sync/atomic.StorePointer", "sync/atomic.CompareAndSwapUint64", "sync/atomic.LoadPointer", "sync/atomic.LoadUint64", "sync/atomic.StoreUint64"], unfollowed := true, recurses := true, apart := false }
def LookPairsSaid : Prop := lookPairsRow.holds Tryz.pinned (OpenSpec.ofChange lookPairsSpec)

/-- ITS FALSE NEIGHBOUR: 'it returns false'. Refute it at one input. -/
def lookPairsWrong : ChangeSpec := { name := "lookPairs", fn := fun _ => fun
  | [d1, d2] => { results := [.lit (.bool false)], args := [d1, d2] }
  | _ => none }
def LookPairsWrongFalsely : Prop := lookPairsRow.holds Tryz.pinned (OpenSpec.ofChange lookPairsWrong)

/-- 'corrielaw11.PlaceSteps': WHATEVER THE INPUT: true; the input reads as it did. -/
def placeStepsSpec : ChangeSpec := { name := "placeSteps", fn := fun _ => fun
  | [d1, d2, d3] => { results := [.lit (.bool true)], args := [d1, d2, d3] }
  | _ => none }
def placeStepsRow : OpenClaim := { program := "ytcogckjpmmjmbaagreat", sum := "5a1e3cc8e3a9fc26e49682134f38fee970a93ddd008b0ab240c7176598f90745", func := "corrie/corrielaw11.PlaceSteps", spec := "placeSteps", inPlace := ["sync/atomic.LoadInt64", "sync/atomic.AddInt64", "sync/atomic.StorePointer", "sync/atomic.CompareAndSwapUint64", "sync/atomic.LoadPointer", "sync/atomic.LoadUint64", "sync/atomic.StoreUint64"], unfollowed := true, recurses := true, apart := false }
def PlaceStepsSaid : Prop := placeStepsRow.holds Tryz.pinned (OpenSpec.ofChange placeStepsSpec)

/-- ITS FALSE NEIGHBOUR: 'it returns false'. Refute it at one input. -/
def placeStepsWrong : ChangeSpec := { name := "placeSteps", fn := fun _ => fun
  | [d1, d2, d3] => { results := [.lit (.bool false)], args := [d1, d2, d3] }
  | _ => none }
def PlaceStepsWrongFalsely : Prop := placeStepsRow.holds Tryz.pinned (OpenSpec.ofChange placeStepsWrong)

/-- 'corrielaw11.PlaceAny': WHATEVER THE INPUT: true; the input reads as it did. -/
def placeAnySpec : ChangeSpec := { name := "placeAny", fn := fun _ => fun
  | [d1, d2] => { results := [.lit (.bool true)], args := [d1, d2] }
  | _ => none }
def placeAnyRow : OpenClaim := { program := "ytcogckjpmmjmbaagreat", sum := "5a1e3cc8e3a9fc26e49682134f38fee970a93ddd008b0ab240c7176598f90745", func := "corrie/corrielaw11.PlaceAny", spec := "placeAny", inPlace := ["sync/atomic.LoadInt64", "sync/atomic.AddInt64", "sync/atomic.StorePointer", "sync/atomic.CompareAndSwapUint64", "sync/atomic.LoadPointer", "sync/atomic.LoadUint64", "sync/atomic.StoreUint64"], unfollowed := true, recurses := true, apart := false }
def PlaceAnySaid : Prop := placeAnyRow.holds Tryz.pinned (OpenSpec.ofChange placeAnySpec)

/-- ITS FALSE NEIGHBOUR: 'it returns false'. Refute it at one input. -/
def placeAnyWrong : ChangeSpec := { name := "placeAny", fn := fun _ => fun
  | [d1, d2] => { results := [.lit (.bool false)], args := [d1, d2] }
  | _ => none }
def PlaceAnyWrongFalsely : Prop := placeAnyRow.holds Tryz.pinned (OpenSpec.ofChange placeAnyWrong)

/-- 'corrielaw11.PlaceAdds': WHATEVER THE INPUT: true; the input reads as it did. -/
def placeAddsSpec : ChangeSpec := { name := "placeAdds", fn := fun _ => fun
  | [d1, d2] => { results := [.lit (.bool true)], args := [d1, d2] }
  | _ => none }
def placeAddsRow : OpenClaim := { program := "ytcogckjpmmjmbaagreat", sum := "5a1e3cc8e3a9fc26e49682134f38fee970a93ddd008b0ab240c7176598f90745", func := "corrie/corrielaw11.PlaceAdds", spec := "placeAdds", inPlace := ["sync/atomic.LoadInt64", "sync/atomic.AddInt64", "sync/atomic.StorePointer", "sync/atomic.CompareAndSwapUint64", "sync/atomic.LoadPointer", "sync/atomic.LoadUint64", "sync/atomic.StoreUint64"], unfollowed := true, recurses := true, apart := false }
def PlaceAddsSaid : Prop := placeAddsRow.holds Tryz.pinned (OpenSpec.ofChange placeAddsSpec)

/-- ITS FALSE NEIGHBOUR: 'it returns false'. Refute it at one input. -/
def placeAddsWrong : ChangeSpec := { name := "placeAdds", fn := fun _ => fun
  | [d1, d2] => { results := [.lit (.bool false)], args := [d1, d2] }
  | _ => none }
def PlaceAddsWrongFalsely : Prop := placeAddsRow.holds Tryz.pinned (OpenSpec.ofChange placeAddsWrong)

/-- 'corrielaw11.PlaceEnds': WHATEVER THE INPUT: true; the input reads as it did. -/
def placeEndsSpec : ChangeSpec := { name := "placeEnds", fn := fun _ => fun
  | [d1, d2] => { results := [.lit (.bool true)], args := [d1, d2] }
  | _ => none }
def placeEndsRow : OpenClaim := { program := "ytcogckjpmmjmbaagreat", sum := "5a1e3cc8e3a9fc26e49682134f38fee970a93ddd008b0ab240c7176598f90745", func := "corrie/corrielaw11.PlaceEnds", spec := "placeEnds", inPlace := ["sync/atomic.LoadInt64", "sync/atomic.AddInt64", "sync/atomic.StorePointer", "sync/atomic.CompareAndSwapUint64", "sync/atomic.LoadPointer", "sync/atomic.LoadUint64", "sync/atomic.StoreUint64"], unfollowed := true, recurses := true, apart := false }
def PlaceEndsSaid : Prop := placeEndsRow.holds Tryz.pinned (OpenSpec.ofChange placeEndsSpec)

/-- ITS FALSE NEIGHBOUR: 'it returns false'. Refute it at one input. -/
def placeEndsWrong : ChangeSpec := { name := "placeEnds", fn := fun _ => fun
  | [d1, d2] => { results := [.lit (.bool false)], args := [d1, d2] }
  | _ => none }
def PlaceEndsWrongFalsely : Prop := placeEndsRow.holds Tryz.pinned (OpenSpec.ofChange placeEndsWrong)

/-- 'corrielaw11.PlaceBoth': WHATEVER THE INPUT: true; the input reads as it did. -/
def placeBothSpec : ChangeSpec := { name := "placeBoth", fn := fun _ => fun
  | [d1, d2] => { results := [.lit (.bool true)], args := [d1, d2] }
  | _ => none }
def placeBothRow : OpenClaim := { program := "ytcogckjpmmjmbaagreat", sum := "5a1e3cc8e3a9fc26e49682134f38fee970a93ddd008b0ab240c7176598f90745", func := "corrie/corrielaw11.PlaceBoth", spec := "placeBoth", inPlace := ["sync/atomic.LoadInt64", "sync/atomic.AddInt64", "sync/atomic.StorePointer", "sync/atomic.CompareAndSwapUint64", "sync/atomic.LoadPointer", "sync/atomic.LoadUint64", "sync/atomic.StoreUint64"], unfollowed := true, recurses := true, apart := false }
def PlaceBothSaid : Prop := placeBothRow.holds Tryz.pinned (OpenSpec.ofChange placeBothSpec)

/-- ITS FALSE NEIGHBOUR: 'it returns false'. Refute it at one input. -/
def placeBothWrong : ChangeSpec := { name := "placeBoth", fn := fun _ => fun
  | [d1, d2] => { results := [.lit (.bool false)], args := [d1, d2] }
  | _ => none }
def PlaceBothWrongFalsely : Prop := placeBothRow.holds Tryz.pinned (OpenSpec.ofChange placeBothWrong)

/-- 'corrielaw12.TakeSteps': WHATEVER THE INPUT: true; the input reads as it did. -/
def takeStepsSpec : ChangeSpec := { name := "takeSteps", fn := fun _ => fun
  | [d1, d2, d3] => { results := [.lit (.bool true)], args := [d1, d2, d3] }
  | _ => none }
def takeStepsRow : OpenClaim := { program := "ytcogckjpmmjmbaagreat", sum := "5a1e3cc8e3a9fc26e49682134f38fee970a93ddd008b0ab240c7176598f90745", func := "corrie/corrielaw12.TakeSteps", spec := "takeSteps", inPlace := ["sync/atomic.LoadInt64", "sync/atomic.AddInt64", "sync/atomic.StorePointer", "sync/atomic.CompareAndSwapUint64", "sync/atomic.LoadPointer", "sync/atomic.LoadUint64", "sync/atomic.StoreUint64"], unfollowed := true, recurses := true, apart := false }
def TakeStepsSaid : Prop := takeStepsRow.holds Tryz.pinned (OpenSpec.ofChange takeStepsSpec)

/-- ITS FALSE NEIGHBOUR: 'it returns false'. Refute it at one input. -/
def takeStepsWrong : ChangeSpec := { name := "takeSteps", fn := fun _ => fun
  | [d1, d2, d3] => { results := [.lit (.bool false)], args := [d1, d2, d3] }
  | _ => none }
def TakeStepsWrongFalsely : Prop := takeStepsRow.holds Tryz.pinned (OpenSpec.ofChange takeStepsWrong)

/-- 'corrielaw12.TakeAny': WHATEVER THE INPUT: true; the input reads as it did. -/
def takeAnySpec : ChangeSpec := { name := "takeAny", fn := fun _ => fun
  | [d1, d2] => { results := [.lit (.bool true)], args := [d1, d2] }
  | _ => none }
def takeAnyRow : OpenClaim := { program := "ytcogckjpmmjmbaagreat", sum := "5a1e3cc8e3a9fc26e49682134f38fee970a93ddd008b0ab240c7176598f90745", func := "corrie/corrielaw12.TakeAny", spec := "takeAny", inPlace := ["sync/atomic.LoadInt64", "sync/atomic.AddInt64", "sync/atomic.StorePointer", "sync/atomic.CompareAndSwapUint64", "sync/atomic.LoadPointer", "sync/atomic.LoadUint64", "sync/atomic.StoreUint64"], unfollowed := true, recurses := true, apart := false }
def TakeAnySaid : Prop := takeAnyRow.holds Tryz.pinned (OpenSpec.ofChange takeAnySpec)

/-- ITS FALSE NEIGHBOUR: 'it returns false'. Refute it at one input. -/
def takeAnyWrong : ChangeSpec := { name := "takeAny", fn := fun _ => fun
  | [d1, d2] => { results := [.lit (.bool false)], args := [d1, d2] }
  | _ => none }
def TakeAnyWrongFalsely : Prop := takeAnyRow.holds Tryz.pinned (OpenSpec.ofChange takeAnyWrong)

/-- 'corrielaw12.TakeTakes': WHATEVER THE INPUT: true; the input reads as it did. -/
def takeTakesSpec : ChangeSpec := { name := "takeTakes", fn := fun _ => fun
  | [d1, d2] => { results := [.lit (.bool true)], args := [d1, d2] }
  | _ => none }
def takeTakesRow : OpenClaim := { program := "ytcogckjpmmjmbaagreat", sum := "5a1e3cc8e3a9fc26e49682134f38fee970a93ddd008b0ab240c7176598f90745", func := "corrie/corrielaw12.TakeTakes", spec := "takeTakes", inPlace := ["sync/atomic.LoadInt64", "sync/atomic.AddInt64", "sync/atomic.StorePointer", "sync/atomic.CompareAndSwapUint64", "sync/atomic.LoadPointer", "sync/atomic.LoadUint64", "sync/atomic.StoreUint64"], unfollowed := true, recurses := true, apart := false }
def TakeTakesSaid : Prop := takeTakesRow.holds Tryz.pinned (OpenSpec.ofChange takeTakesSpec)

/-- ITS FALSE NEIGHBOUR: 'it returns false'. Refute it at one input. -/
def takeTakesWrong : ChangeSpec := { name := "takeTakes", fn := fun _ => fun
  | [d1, d2] => { results := [.lit (.bool false)], args := [d1, d2] }
  | _ => none }
def TakeTakesWrongFalsely : Prop := takeTakesRow.holds Tryz.pinned (OpenSpec.ofChange takeTakesWrong)

/-- 'corrielaw12.TakeEnds': WHATEVER THE INPUT: true; the input reads as it did. -/
def takeEndsSpec : ChangeSpec := { name := "takeEnds", fn := fun _ => fun
  | [d1, d2] => { results := [.lit (.bool true)], args := [d1, d2] }
  | _ => none }
def takeEndsRow : OpenClaim := { program := "ytcogckjpmmjmbaagreat", sum := "5a1e3cc8e3a9fc26e49682134f38fee970a93ddd008b0ab240c7176598f90745", func := "corrie/corrielaw12.TakeEnds", spec := "takeEnds", inPlace := ["sync/atomic.LoadInt64", "sync/atomic.AddInt64", "sync/atomic.StorePointer", "sync/atomic.CompareAndSwapUint64", "sync/atomic.LoadPointer", "sync/atomic.LoadUint64", "sync/atomic.StoreUint64"], unfollowed := true, recurses := true, apart := false }
def TakeEndsSaid : Prop := takeEndsRow.holds Tryz.pinned (OpenSpec.ofChange takeEndsSpec)

/-- ITS FALSE NEIGHBOUR: 'it returns false'. Refute it at one input. -/
def takeEndsWrong : ChangeSpec := { name := "takeEnds", fn := fun _ => fun
  | [d1, d2] => { results := [.lit (.bool false)], args := [d1, d2] }
  | _ => none }
def TakeEndsWrongFalsely : Prop := takeEndsRow.holds Tryz.pinned (OpenSpec.ofChange takeEndsWrong)

/-- 'corrielaw12.TakeBoth': WHATEVER THE INPUT: true; the input reads as it did. -/
def takeBothSpec : ChangeSpec := { name := "takeBoth", fn := fun _ => fun
  | [d1, d2] => { results := [.lit (.bool true)], args := [d1, d2] }
  | _ => none }
def takeBothRow : OpenClaim := { program := "ytcogckjpmmjmbaagreat", sum := "5a1e3cc8e3a9fc26e49682134f38fee970a93ddd008b0ab240c7176598f90745", func := "corrie/corrielaw12.TakeBoth", spec := "takeBoth", inPlace := ["sync/atomic.LoadInt64", "sync/atomic.AddInt64", "sync/atomic.StorePointer", "sync/atomic.CompareAndSwapUint64", "sync/atomic.LoadPointer", "sync/atomic.LoadUint64", "sync/atomic.StoreUint64"], unfollowed := true, recurses := true, apart := false }
def TakeBothSaid : Prop := takeBothRow.holds Tryz.pinned (OpenSpec.ofChange takeBothSpec)

/-- ITS FALSE NEIGHBOUR: 'it returns false'. Refute it at one input. -/
def takeBothWrong : ChangeSpec := { name := "takeBoth", fn := fun _ => fun
  | [d1, d2] => { results := [.lit (.bool false)], args := [d1, d2] }
  | _ => none }
def TakeBothWrongFalsely : Prop := takeBothRow.holds Tryz.pinned (OpenSpec.ofChange takeBothWrong)

/- THE SECOND FORM. 'bulk': how many values and letters a reading holds, each counted each time it is reached (what is shared counts as often as it is met; a slice's spare places count too). A statement '..UptoSaid' is the law's where the arguments, and the package variables that the reading takes, are together of bulk at most 1048576: NARROWER than '..Said'. Prove '..Said' where nothing that the law and all that it calls make is longer than what came in: it says more and counts as full. Else prove '..UptoSaid'. A law counts once. -/
mutual
def uptoBulk {H : Type} : DataW H → Nat
  | .lit (.string bytes) => bytes.length + 1
  | .lit _ => 1
  | .nil => 1
  | .ptr d => uptoBulk d + 1
  | .slice elems spare => uptoBulkAll elems + uptoBulkAll spare + 1
  | .agg parts => uptoBulkAll parts + 1
  | .iface _ d => uptoBulk d + 1
  | .map entries => uptoBulkEntries entries + 1
  | .held _ => 1
def uptoBulkAll {H : Type} : List (DataW H) → Nat
  | [] => 0
  | d :: r => uptoBulk d + uptoBulkAll r
def uptoBulkEntries {H : Type} : List (Lit × DataW H) → Nat
  | [] => 0
  | x :: r => uptoBulkEntry x + uptoBulkEntries r
def uptoBulkEntry {H : Type} : Lit × DataW H → Nat
  | (.string bytes, d) => bytes.length + uptoBulk d + 1
  | (_, d) => uptoBulk d + 1
 end
def uptoSmall : (H : Type) → List (DataW H) → Bool := fun _ ds => decide (uptoBulkAll ds ≤ 1048576)
def OpenSpec.upto (s : _root_.Go.ChangeSpec) : _root_.Go.OpenSpec := { _root_.Go.OpenSpec.ofChange s with cond := some uptoSmall }

/-- 'corrielaw09.LookPairs', WHERE WHAT IT READS IS OF BULK AT MOST 1048576: true; the input reads as it did. -/
def lookPairsUptoRow : OpenClaim := { program := "ytcogckjpmmjmbaagreat", sum := "5a1e3cc8e3a9fc26e49682134f38fee970a93ddd008b0ab240c7176598f90745", func := "corrie/corrielaw09.LookPairs", spec := "lookPairs", inPlace := ["sync/atomic.LoadInt64", "sync/atomic.AddInt64", "sync/atomic.StorePointer", "sync/atomic.CompareAndSwapUint64", "sync/atomic.LoadPointer", "sync/atomic.LoadUint64", "sync/atomic.StoreUint64"], unfollowed := true, recurses := true, apart := false, narrowed := true }
def LookPairsUptoSaid : Prop := lookPairsUptoRow.holds Tryz.pinned (OpenSpec.upto lookPairsSpec)

/-- 'corrielaw11.PlaceSteps', WHERE WHAT IT READS IS OF BULK AT MOST 1048576: true; the input reads as it did. -/
def placeStepsUptoRow : OpenClaim := { program := "ytcogckjpmmjmbaagreat", sum := "5a1e3cc8e3a9fc26e49682134f38fee970a93ddd008b0ab240c7176598f90745", func := "corrie/corrielaw11.PlaceSteps", spec := "placeSteps", inPlace := ["sync/atomic.LoadInt64", "sync/atomic.AddInt64", "sync/atomic.StorePointer", "sync/atomic.CompareAndSwapUint64", "sync/atomic.LoadPointer", "sync/atomic.LoadUint64", "sync/atomic.StoreUint64"], unfollowed := true, recurses := true, apart := false, narrowed := true }
def PlaceStepsUptoSaid : Prop := placeStepsUptoRow.holds Tryz.pinned (OpenSpec.upto placeStepsSpec)

/-- 'corrielaw11.PlaceAny', WHERE WHAT IT READS IS OF BULK AT MOST 1048576: true; the input reads as it did. -/
def placeAnyUptoRow : OpenClaim := { program := "ytcogckjpmmjmbaagreat", sum := "5a1e3cc8e3a9fc26e49682134f38fee970a93ddd008b0ab240c7176598f90745", func := "corrie/corrielaw11.PlaceAny", spec := "placeAny", inPlace := ["sync/atomic.LoadInt64", "sync/atomic.AddInt64", "sync/atomic.StorePointer", "sync/atomic.CompareAndSwapUint64", "sync/atomic.LoadPointer", "sync/atomic.LoadUint64", "sync/atomic.StoreUint64"], unfollowed := true, recurses := true, apart := false, narrowed := true }
def PlaceAnyUptoSaid : Prop := placeAnyUptoRow.holds Tryz.pinned (OpenSpec.upto placeAnySpec)

/-- 'corrielaw11.PlaceAdds', WHERE WHAT IT READS IS OF BULK AT MOST 1048576: true; the input reads as it did. -/
def placeAddsUptoRow : OpenClaim := { program := "ytcogckjpmmjmbaagreat", sum := "5a1e3cc8e3a9fc26e49682134f38fee970a93ddd008b0ab240c7176598f90745", func := "corrie/corrielaw11.PlaceAdds", spec := "placeAdds", inPlace := ["sync/atomic.LoadInt64", "sync/atomic.AddInt64", "sync/atomic.StorePointer", "sync/atomic.CompareAndSwapUint64", "sync/atomic.LoadPointer", "sync/atomic.LoadUint64", "sync/atomic.StoreUint64"], unfollowed := true, recurses := true, apart := false, narrowed := true }
def PlaceAddsUptoSaid : Prop := placeAddsUptoRow.holds Tryz.pinned (OpenSpec.upto placeAddsSpec)

/-- 'corrielaw11.PlaceEnds', WHERE WHAT IT READS IS OF BULK AT MOST 1048576: true; the input reads as it did. -/
def placeEndsUptoRow : OpenClaim := { program := "ytcogckjpmmjmbaagreat", sum := "5a1e3cc8e3a9fc26e49682134f38fee970a93ddd008b0ab240c7176598f90745", func := "corrie/corrielaw11.PlaceEnds", spec := "placeEnds", inPlace := ["sync/atomic.LoadInt64", "sync/atomic.AddInt64", "sync/atomic.StorePointer", "sync/atomic.CompareAndSwapUint64", "sync/atomic.LoadPointer", "sync/atomic.LoadUint64", "sync/atomic.StoreUint64"], unfollowed := true, recurses := true, apart := false, narrowed := true }
def PlaceEndsUptoSaid : Prop := placeEndsUptoRow.holds Tryz.pinned (OpenSpec.upto placeEndsSpec)

/-- 'corrielaw11.PlaceBoth', WHERE WHAT IT READS IS OF BULK AT MOST 1048576: true; the input reads as it did. -/
def placeBothUptoRow : OpenClaim := { program := "ytcogckjpmmjmbaagreat", sum := "5a1e3cc8e3a9fc26e49682134f38fee970a93ddd008b0ab240c7176598f90745", func := "corrie/corrielaw11.PlaceBoth", spec := "placeBoth", inPlace := ["sync/atomic.LoadInt64", "sync/atomic.AddInt64", "sync/atomic.StorePointer", "sync/atomic.CompareAndSwapUint64", "sync/atomic.LoadPointer", "sync/atomic.LoadUint64", "sync/atomic.StoreUint64"], unfollowed := true, recurses := true, apart := false, narrowed := true }
def PlaceBothUptoSaid : Prop := placeBothUptoRow.holds Tryz.pinned (OpenSpec.upto placeBothSpec)

/-- 'corrielaw12.TakeSteps', WHERE WHAT IT READS IS OF BULK AT MOST 1048576: true; the input reads as it did. -/
def takeStepsUptoRow : OpenClaim := { program := "ytcogckjpmmjmbaagreat", sum := "5a1e3cc8e3a9fc26e49682134f38fee970a93ddd008b0ab240c7176598f90745", func := "corrie/corrielaw12.TakeSteps", spec := "takeSteps", inPlace := ["sync/atomic.LoadInt64", "sync/atomic.AddInt64", "sync/atomic.StorePointer", "sync/atomic.CompareAndSwapUint64", "sync/atomic.LoadPointer", "sync/atomic.LoadUint64", "sync/atomic.StoreUint64"], unfollowed := true, recurses := true, apart := false, narrowed := true }
def TakeStepsUptoSaid : Prop := takeStepsUptoRow.holds Tryz.pinned (OpenSpec.upto takeStepsSpec)

/-- 'corrielaw12.TakeAny', WHERE WHAT IT READS IS OF BULK AT MOST 1048576: true; the input reads as it did. -/
def takeAnyUptoRow : OpenClaim := { program := "ytcogckjpmmjmbaagreat", sum := "5a1e3cc8e3a9fc26e49682134f38fee970a93ddd008b0ab240c7176598f90745", func := "corrie/corrielaw12.TakeAny", spec := "takeAny", inPlace := ["sync/atomic.LoadInt64", "sync/atomic.AddInt64", "sync/atomic.StorePointer", "sync/atomic.CompareAndSwapUint64", "sync/atomic.LoadPointer", "sync/atomic.LoadUint64", "sync/atomic.StoreUint64"], unfollowed := true, recurses := true, apart := false, narrowed := true }
def TakeAnyUptoSaid : Prop := takeAnyUptoRow.holds Tryz.pinned (OpenSpec.upto takeAnySpec)

/-- 'corrielaw12.TakeTakes', WHERE WHAT IT READS IS OF BULK AT MOST 1048576: true; the input reads as it did. -/
def takeTakesUptoRow : OpenClaim := { program := "ytcogckjpmmjmbaagreat", sum := "5a1e3cc8e3a9fc26e49682134f38fee970a93ddd008b0ab240c7176598f90745", func := "corrie/corrielaw12.TakeTakes", spec := "takeTakes", inPlace := ["sync/atomic.LoadInt64", "sync/atomic.AddInt64", "sync/atomic.StorePointer", "sync/atomic.CompareAndSwapUint64", "sync/atomic.LoadPointer", "sync/atomic.LoadUint64", "sync/atomic.StoreUint64"], unfollowed := true, recurses := true, apart := false, narrowed := true }
def TakeTakesUptoSaid : Prop := takeTakesUptoRow.holds Tryz.pinned (OpenSpec.upto takeTakesSpec)

/-- 'corrielaw12.TakeEnds', WHERE WHAT IT READS IS OF BULK AT MOST 1048576: true; the input reads as it did. -/
def takeEndsUptoRow : OpenClaim := { program := "ytcogckjpmmjmbaagreat", sum := "5a1e3cc8e3a9fc26e49682134f38fee970a93ddd008b0ab240c7176598f90745", func := "corrie/corrielaw12.TakeEnds", spec := "takeEnds", inPlace := ["sync/atomic.LoadInt64", "sync/atomic.AddInt64", "sync/atomic.StorePointer", "sync/atomic.CompareAndSwapUint64", "sync/atomic.LoadPointer", "sync/atomic.LoadUint64", "sync/atomic.StoreUint64"], unfollowed := true, recurses := true, apart := false, narrowed := true }
def TakeEndsUptoSaid : Prop := takeEndsUptoRow.holds Tryz.pinned (OpenSpec.upto takeEndsSpec)

/-- 'corrielaw12.TakeBoth', WHERE WHAT IT READS IS OF BULK AT MOST 1048576: true; the input reads as it did. -/
def takeBothUptoRow : OpenClaim := { program := "ytcogckjpmmjmbaagreat", sum := "5a1e3cc8e3a9fc26e49682134f38fee970a93ddd008b0ab240c7176598f90745", func := "corrie/corrielaw12.TakeBoth", spec := "takeBoth", inPlace := ["sync/atomic.LoadInt64", "sync/atomic.AddInt64", "sync/atomic.StorePointer", "sync/atomic.CompareAndSwapUint64", "sync/atomic.LoadPointer", "sync/atomic.LoadUint64", "sync/atomic.StoreUint64"], unfollowed := true, recurses := true, apart := false, narrowed := true }
def TakeBothUptoSaid : Prop := takeBothUptoRow.holds Tryz.pinned (OpenSpec.upto takeBothSpec)

end Rows
end Go.Proofs.YtcogckjpmmjmbaaGreat
