/- Small laws about worlds that grow, over any program: of a world that has grown all that was there reads as before; and a statement whose order Go leaves open, all of whose operations read what was there or call functions that make memory alone, does the same in every order. -/
import Derived.Test.YtmokcgifknmchaaGreatRows
import Derived.Test.YtmokcgifknmchaaGreatMBase
import Derived.Handy
import Derived.Lib.Hide
import Derived.BigQuiet
import Derived.Deep.RegionHeld3
import Derived.Laws.LoneSync
import Derived.Laws.MakeOwn
import Derived.OwnWalk
import Derived.OrdersHeld
import Derived.WideKeyArgs
import Derived.Deep.Frames
import Derived.Test.YtmokcgifknmchaaGreatMConf
import Derived.StillTailTactics
import Derived.Test.YtmokcgifknmchaaGreatMLay
import Derived.Test.YtmokcgifknmchaaGreatMCells
import Derived.Test.YtmokcgifknmchaaGreatMMap
import Derived.Test.YtmokcgifknmchaaGreatMBook
import Derived.Test.YtmokcgifknmchaaGreatMBkRef
import Derived.Test.YtmokcgifknmchaaGreatMBkRefB
import Derived.Deep.Cut
import Derived.Test.YtmokcgifknmchaaGreatMRoute
import Derived.Test.YtmokcgifknmchaaGreatMRef
import Derived.Test.YtmokcgifknmchaaGreatMInv
import Derived.Deep.Slices
import Derived.Deep.Fields
import Derived.Test.YtmokcgifknmchaaGreatMWorld
import Derived.Test.YtmokcgifknmchaaGreatMWRef
import Derived.Deep.MidRow
import Derived.Test.YtmokcgifknmchaaGreatMWRefB
import Derived.Test.YtmokcgifknmchaaGreatMIter
import Derived.RangeFuncNested
import Derived.RangeFuncBound
import Derived.RangeFuncCalls
import Derived.RangeFuncLeaves
import Derived.Shelf.Abstract
import Derived.WalkKit
import Derived.OwnWalkIn
import Derived.TacticsInMore
import Derived.LoopNIn
import Derived.LoopIn
import Derived.OrdersIn
import Derived.Maps.OwnIn
import Derived.Deep.CutRange
import Derived.Test.YtmokcgifknmchaaGreatMChain
namespace Go.Proofs.YtmokcgifknmchaaGreat
open Go.ChangeShapes Go.WideShapes Go.ChangeAt Go.RowKit
set_option maxRecDepth 100000
instance (W:World):Nonempty (GrW W):=⟨⟨W,Grown.refl W⟩⟩
theorem ret_bool {a b:Bool} (h:a = b):Ending.returned (.bool a) = Ending.returned (.bool b):=by rw [h]
end Go.Proofs.YtmokcgifknmchaaGreat
namespace Go.Proofs.YtmokcgifknmchaaGreat
open Go.ChangeShapes Go.WideShapes Go.ChangeAt Go.RowKit
set_option maxRecDepth 100000
instance (S:Nat → Prop) (W:World):Nonempty (ButW S W):=⟨⟨W,But.refl S W⟩⟩
end Go.Proofs.YtmokcgifknmchaaGreat
namespace Go.Proofs.YtmokcgifknmchaaGreat
open Go.ChangeShapes Go.WideShapes Go.ChangeAt Go.RowKit
set_option maxRecDepth 100000
section
variable {P:Program} {ops:Array Oper} {S:World → Prop} {Q:Act → World → Prop}
end
end Go.Proofs.YtmokcgifknmchaaGreat
namespace Go.Proofs.YtmokcgifknmchaaGreat
open Go.ChangeShapes Go.WideShapes Go.ChangeAt Go.RowKit
set_option maxRecDepth 100000
section
variable {P:Program} {S:World → Prop} {Q:Act → World → Prop}
end
end Go.Proofs.YtmokcgifknmchaaGreat
namespace Go.Proofs.YtmokcgifknmchaaGreat
open Go.ChangeShapes Go.WideShapes Go.ChangeAt Go.RowKit
set_option maxRecDepth 100000
end Go.Proofs.YtmokcgifknmchaaGreat
namespace Go.Proofs.YtmokcgifknmchaaGreat
open Go.ChangeShapes Go.WideShapes Go.ChangeAt Go.RowKit
set_option maxRecDepth 100000
instance (n:Int):Decidable (Pow2 n):=by unfold Pow2;infer_instance
end Go.Proofs.YtmokcgifknmchaaGreat
namespace Go.Proofs.YtmokcgifknmchaaGreat
open Go.ChangeShapes Go.WideShapes Go.ChangeAt Go.RowKit
set_option maxRecDepth 100000
end Go.Proofs.YtmokcgifknmchaaGreat
namespace Go.Proofs.YtmokcgifknmchaaGreat
open Go.ChangeShapes Go.WideShapes Go.ChangeAt Go.RowKit
set_option maxRecDepth 100000
end Go.Proofs.YtmokcgifknmchaaGreat
namespace Go.Proofs.YtmokcgifknmchaaGreat
open Go.ChangeShapes Go.WideShapes Go.ChangeAt Go.RowKit
set_option maxRecDepth 100000
end Go.Proofs.YtmokcgifknmchaaGreat
namespace Go.Proofs.YtmokcgifknmchaaGreat
open Go.ChangeShapes Go.WideShapes Go.ChangeAt Go.RowKit
set_option maxRecDepth 100000
instance (x:Cal):Decidable (kindOk x):=inferInstanceAs (Decidable (_ ∧ _))
end Go.Proofs.YtmokcgifknmchaaGreat
namespace Go.Proofs.YtmokcgifknmchaaGreat
open Go.ChangeShapes Go.WideShapes Go.ChangeAt Go.RowKit
set_option maxRecDepth 100000
end Go.Proofs.YtmokcgifknmchaaGreat
namespace Go.Proofs.YtmokcgifknmchaaGreat
open Go.ChangeShapes Go.WideShapes Go.ChangeAt Go.RowKit
set_option maxRecDepth 100000
set_option linter.unusedVariables false
theorem wp_region_plant {P:Program} {id:Nat} {Q:Exit → Act → World → Prop} {a:Act} {w:World} {l:List Oper} (p:Plan) (hm:P.follows .mixedOrders = true)
  (hs:Region.noSelect l.toArray = true) (hB:planB l.toArray l.length p (Array.replicate l.length false) = true)
  (h:∀ w1,Grown w w1 → Pl P l (fun a' w' => Q .normal a' w') p (fun _ => True) a w1):(Code.region id l.toArray true).wp P Q a w :=
 wp_region_plan _ p hm hs hB trivial (h _ (Grown.refl w).drew)
theorem nxt_true {K:(World → Prop) → Act → World → Prop} {a:Act} {w:World} (h:K (fun _ => True) a w):Nxt (fun _ => True) K .normal a w:=⟨rfl,_,fun _ h => h,trivial,h⟩
end Go.Proofs.YtmokcgifknmchaaGreat
namespace Go.Proofs.YtmokcgifknmchaaGreat
open Go.ChangeShapes Go.WideShapes Go.ChangeAt Go.RowKit
set_option maxRecDepth 100000
set_option linter.unusedVariables false
end Go.Proofs.YtmokcgifknmchaaGreat
namespace Go.Proofs.YtmokcgifknmchaaGreat
open Go.ChangeShapes Go.WideShapes Go.ChangeAt Go.RowKit
set_option maxRecDepth 100000
set_option linter.unusedVariables false
end Go.Proofs.YtmokcgifknmchaaGreat
namespace Go.Proofs.YtmokcgifknmchaaGreat
open Go.ChangeShapes Go.WideShapes Go.ChangeAt Go.RowKit
set_option maxRecDepth 100000
set_option linter.unusedVariables false
theorem begin_stays (c:Cf) (s:St) (th:Int) (x:Cal):Stays s (beginI c s th x).1:=by
 unfold beginI beginS
 split
 ·exact Stays.refl s
 ·split
  ·exact Stays.refl s
  ·split
   ·exact Stays.refl s
   ·exact ⟨fun n y h => look_stays _ _ n y h,fun _ _ h => h⟩
theorem look_of_nodup {α:Type}:∀ {l:List (Nat × α)} (_:(l.map (·.1)).Nodup) {j:Nat} {y:Nat × α},l[j]? = some y → look l y.1 = some y.2
 | [],_,j,y,h => by simp at h
 | z :: l,hd,0,y,h => by
  simp only [List.getElem?_cons_zero,Option.some.injEq] at h
  subst h
  simp [look]
 | z :: l,hd,j + 1,y,h => by
  rw [List.getElem?_cons_succ] at h
  simp only [List.map_cons,List.nodup_cons] at hd
  have hm:y ∈ l:=List.mem_of_getElem? h
  have hz:z.1 ≠ y.1:=fun e => hd.1 (by rw [e];exact List.mem_map_of_mem hm)
  simp only [look,if_neg hz]
  exact look_of_nodup hd.2 h
end Go.Proofs.YtmokcgifknmchaaGreat
namespace Go.Proofs.YtmokcgifknmchaaGreat
open Go.ChangeShapes Go.WideShapes Go.ChangeAt Go.RowKit Go.Deep
set_option maxRecDepth 100000
end Go.Proofs.YtmokcgifknmchaaGreat
namespace Go.Proofs.YtmokcgifknmchaaGreat
open Go.ChangeShapes Go.WideShapes Go.ChangeAt Go.RowKit
set_option maxRecDepth 100000
set_option linter.unusedVariables false
end Go.Proofs.YtmokcgifknmchaaGreat
namespace Go.Proofs.YtmokcgifknmchaaGreat
open Go.ChangeShapes Go.WideShapes Go.ChangeAt Go.RowKit
set_option maxRecDepth 100000
set_option linter.unusedVariables false
end Go.Proofs.YtmokcgifknmchaaGreat
namespace Go.Proofs.YtmokcgifknmchaaGreat
open Go.ChangeShapes Go.WideShapes Go.ChangeAt Go.RowKit
set_option maxRecDepth 100000
instance (S:Nat → Prop) (K:Nat → Nat → Prop) (W:World):Nonempty (KeptW S K W):=⟨⟨W,But.refl S W,fun _ _ _ _ h => h⟩⟩
section
variable {P:Program}
end
end Go.Proofs.YtmokcgifknmchaaGreat
namespace Go.Proofs.YtmokcgifknmchaaGreat
open Go.ChangeShapes Go.WideShapes Go.ChangeAt Go.RowKit
set_option maxRecDepth 100000
set_option linter.unusedVariables false
end Go.Proofs.YtmokcgifknmchaaGreat
namespace Go.Proofs.YtmokcgifknmchaaGreat
open Go.ChangeShapes Go.WideShapes Go.ChangeAt Go.RowKit
set_option maxRecDepth 100000
section
variable {P:Program} {α:Type}
def noDefer (ops:Array Oper):Bool:=ops.all fun o => match o.op with | .defer .. => false | _ => true
theorem noDefer_at {ops:Array Oper} (h:noDefer ops = true) {i:Nat} {o:Oper} (ho:ops[i]? = some o) (c:Call):o.op ≠ .defer c:=by
 intro e
 obtain ⟨hi,rfl⟩:=Array.getElem?_eq_some_iff.1 ho
 have:=Array.all_eq_true.1 h i hi
 rw [e] at this
 simp at this
theorem opIn_of_op {l₀ n:Nat} {ops:Array Oper} {Qn:Act → World → Prop} (hnd:noDefer ops = true) {i:Nat} {K:Act → World → Prop} {a:Act} {w:World} (h:wpOp P ops (Well Qn) i K a w) :
  wpOpIn (Fence.wide.inRound l₀) n P ops (Well Qn) i K a w:=by
 unfold wpOp at h
 unfold wpOpIn
 split
 ·rename_i ho;simp only [ho] at h;exact h
 ·rename_i o ho
  simp only [ho] at h
  split
  ·rename_i hw
   rw [if_pos hw] at h
   rcases h with h | ⟨_,_,_,hx⟩
   ·refine ⟨fun _ _ => trivial,?_⟩
    have hs:o.semAt (Fence.wide.inRound l₀).round a.eval = execOp a.eval o:=Oper.semAt_eq _ _ _ (noDefer_at hnd ho)
    rw [hs]
    unfold Oper.wp at h
    generalize (execOp a.eval o).run P w = r at h
    cases r with
    | ok x w' =>
     cases x <;> simp only [Oper.upon] at h <;> simp only [Oper.uponIn]
     case value u => exact h
     case skip => exact h
     case defer d => exact h
     case enter f args => exact ⟨fun h => by simp [Fence.wide] at h,CallsIn.inRound l₀ (callsIn_wide.2 h)⟩
     case row row args =>
      refine ⟨fun h => by simp [Fence.wide] at h,?_⟩
      intro fr cs _
      obtain ⟨v,w'',h1,h2⟩:=h fr cs
      exact ⟨v,w'',h1,stepsIn_wide.2 h2⟩
    | halt x w' =>
     cases x <;> simp only [Oper.upon] at h <;> simp only [Oper.uponIn]
     case panic u => exact h
   ·exact absurd hx.1 (by simp)
  ·rename_i hw
   rw [if_neg hw] at h
   exact ⟨fun _ _ => trivial,h⟩
theorem anyIn_of_any {l₀ n:Nat} {ops:Array Oper} {Qn:Act → World → Prop} (hnd:noDefer ops = true):∀ (fuel:Nat) (L:Array Bool) (a:Act) (w:World),wpAny P .any ops (Well Qn) fuel L a w → wpAnyIn (Fence.wide.inRound l₀) n P .any ops (Well Qn) fuel L a w
 | 0,_,_,_,h => h
 | fuel + 1,_,_,_,h => ⟨h.1,fun i hi => wpOpIn_mono (fun a' w' h' => anyIn_of_any hnd fuel _ a' w' h') (opIn_of_op hnd (h.2 i hi))⟩
theorem wpIn_region_planR {l₀ n:Nat} {id:Nat} {Q:Exit → Act → World → Prop} {a:Act} {w:World} {l:List Oper} (p:Plan) (hm:P.follows .mixedOrders = true)
  (hs:Region.noSelect l.toArray = true) (hnd:noDefer l.toArray = true) (hB:planB l.toArray l.length p (Array.replicate l.length false) = true)
  (h:∀ w1,Grown w w1 → Pl P l (fun a' w' => Q .normal a' w') p (fun w' => ∃ g:GrW w1,w' = g.w) a w1):(Code.region id l.toArray true).wpIn (Fence.wide.inRound l₀) n P Q a w:=by
 have g1:Grown w w.drew:=by go_grown
 have h1:=plan_go (Q:=fun a' w' => Q .normal a' w') hs p l.length _ _ a w.drew hB ⟨⟨w.drew,Grown.refl _⟩,rfl⟩ (h _ g1)
 have h2:=anyIn_of_any (l₀:=l₀) (n:=n) hnd _ _ _ _ (wpAny_of_held _ _ _ _ h1)
 exact wpIn_mono (wpIn_region_any hm h2) (fun e a' w' hq => by obtain ⟨rfl,hq⟩:=hq;exact hq)
end
end Go.Proofs.YtmokcgifknmchaaGreat
namespace Go.Proofs.YtmokcgifknmchaaGreat
open Go.ChangeShapes Go.WideShapes Go.ChangeAt Go.RowKit Go.ChangeMaps
set_option maxRecDepth 100000
theorem flagL_app (q:IntKind) (x:Int):∀ (l:List Int) (i:Nat),flagL q i (l ++ [x]) = flagL q i l ++ [{ key:=.int q x,val:=.bool true,born:=i + l.length }]
 | [],i => by simp [flagL]
 | k :: r,i => by
  simp only [List.cons_append,flagL,flagL_app q x r (i + 1),List.length_cons,show i + 1 + r.length = i + (r.length + 1) by omega]
theorem flag_out {q:IntKind} {x:Int}:∀ (l:List Int) (i j:Nat),x ∉ l → Instr.findNow (.int q) (.int q x) (flagL q i l) j = some none
 | [],_,_,_ => rfl
 | k :: r,i,j,h => by
  have h1:(x == k) = false:=by simp;rintro rfl;simp at h
  simp [flagL,Instr.findNow,Instr.sameNow,h1]
  exact flag_out r (i + 1) (j + 1) (fun hx => h (List.mem_cons_of_mem _ hx))
theorem flag_in {q:IntKind} {x:Int}:∀ (l:List Int) (i j:Nat),x ∈ l → ∃ m,Instr.findNow (.int q) (.int q x) (flagL q i l) j = some (some (j + m,.bool true)) ∧ (flagL q i l)[m]? = some { key:=.int q x,val:=.bool true,born:=i + m }
 | [],_,_,h => by cases h
 | k :: r,i,j,h => by
  by_cases hk:x = k
  ·subst hk
   exact ⟨0,by simp [flagL,Instr.findNow,Instr.sameNow],by simp [flagL]⟩
  ·have h1:(x == k) = false:=by simp [hk]
   obtain ⟨m,e1,e2⟩:=flag_in (q:=q) r (i + 1) (j + 1) (by simpa [hk] using h)
   refine ⟨m + 1,?_,?_⟩
   ·simp [flagL,Instr.findNow,Instr.sameNow,h1]
    rw [e1]
    congr 3
    omega
   ·simp only [flagL,List.getElem?_cons_succ]
    rw [e2]
    congr 2
    omega
section
variable {P:Program} {t k e:TypeId} {w:World} {mb:Nat} {q:IntKind} {ks:List Int}
theorem flag_make (t:TypeId) (w:World):(Instr.makeMap t none).run P w = .ok (.map (some w.heap.size)) (w.alloc (.map #[] 0)):=by
 simp [Instr.makeMap,Result.andThen]
theorem grown_map (w:World):Grown w (w.alloc (.map #[] 0)):=by
 refine ⟨World.keptBut_alloc _ _ _,fun a => ?_,by simp⟩
 unfold World.frozen?
 by_cases h:a.block < w.heap.size
 ·rw [Below.heap_alloc _ _ _ h]
 ·by_cases e:a.block = w.heap.size
  ·rw [e,World.alloc_heap_new]
   have:w.heap[w.heap.size]? = none:=Array.getElem?_eq_none (Nat.le_refl _)
   rw [this]
  ·have hz:(w.alloc (.map #[] 0)).heap.size = w.heap.size + 1:=World.size_alloc _ _
   have h1:(w.alloc (.map #[] 0)).heap[a.block]? = none:=Array.getElem?_eq_none (by omega)
   have h2:w.heap[a.block]? = none:=Array.getElem?_eq_none (by omega)
   rw [h1,h2]
theorem flag_look (h:FlagAt w mb q ks) (ht:P.underlying t = some (.map k e)) (hk:P.underlying k = some (.int q)) (hz:(zeroValue e).run P w = .ok (.bool false) w) (x:Int) :
  (Instr.lookup t (.map (some mb)) (.int q x) false).run P w = .ok (.bool (decide (x ∈ ks))) w:=by
 by_cases hx:x ∈ ks
 ·obtain ⟨m,h1,-⟩:=flag_in (q:=q) ks 0 0 hx
  simp [Instr.lookup,run_underlying ht,MapKept.run_getObj_map h,MapKept.run_checkKey hk (show MapKept.IsKey (.int q) (.int q x) from rfl),MapKept.run_findKey hk h1,Result.andThen,hx]
 ·have h1:=flag_out (q:=q) ks 0 0 hx
  simp [Instr.lookup,run_underlying ht,MapKept.run_getObj_map h,MapKept.run_checkKey hk (show MapKept.IsKey (.int q) (.int q x) from rfl),MapKept.run_findKey hk h1,hz,Result.andThen,hx]
theorem flag_put (h:FlagAt w mb q ks) (ht:P.underlying t = some (.map k e)) (hk:P.underlying k = some (.int q)) (x:Int) :
  ∃ w',(Instr.mapUpdate t (.map (some mb)) (.int q x) (.bool true)).run P w = .ok () w' ∧ FlagAt w' mb q (addK ks x) ∧ But (· = mb) w w' ∧ w'.heap.size = w.heap.size:=by
 by_cases hx:x ∈ ks
 ·obtain ⟨m,h1,h2⟩:=flag_in (q:=q) ks 0 0 hx
  refine ⟨setBlock w mb (.map (flagL q 0 ks).toArray ks.length),?_,?_,⟨keptBut_setBlock h rfl,frozen?_setBlock h,by simp [setBlock]⟩,by simp [setBlock]⟩
  ·have hm:((flagL q 0 ks).modify m fun e => { key:=.int q x,val:=.bool true,born:=e.born }) = flagL q 0 ks:=by
    apply List.ext_getElem?
    intro j
    rw [List.getElem?_modify]
    by_cases hj:m = j
    ·subst hj;simp [h2]
    ·simp [hj]
   have hb:∀ (w':World),(Instr.keyThatStays (.int q x) (.int q x)).run P w' = .ok (.int q x) w':=fun w' => by simp [Instr.keyThatStays,Instr.sameBits]
   simp only [Nat.zero_add] at h1
   simp [Instr.mapUpdate,run_underlying ht,MapKept.run_getObj_map h,MapKept.run_checkKey hk (show MapKept.IsKey (.int q) (.int q x) from rfl),MapKept.run_findKey hk h1,h2,hm,hb,MapKept.run_setObj_map _ h,Result.andThen,setBlock]
  ·have e:addK ks x = ks:=if_pos hx
   rw [e];exact heap_setBlock_same h _
 ·have h1:=flag_out (q:=q) ks 0 0 hx
  have e:addK ks x = ks ++ [x]:=if_neg hx
  have he:(flagL q 0 ks).toArray.push { key:=.int q x,val:=.bool true,born:=ks.length } = (flagL q 0 (ks ++ [x])).toArray:=by
   rw [flagL_app];simp
  refine ⟨setBlock w mb (.map (flagL q 0 (ks ++ [x])).toArray (ks.length + 1)),?_,?_,⟨keptBut_setBlock h rfl,frozen?_setBlock h,by simp [setBlock]⟩,by simp [setBlock]⟩
  ·have he':(flagL q 0 ks ++ [{ key:=.int q x,val:=.bool true,born:=ks.length }]) = flagL q 0 (ks ++ [x]):=by rw [flagL_app];simp
   simp [Instr.mapUpdate,run_underlying ht,MapKept.run_getObj_map h,MapKept.run_checkKey hk (show MapKept.IsKey (.int q) (.int q x) from rfl),MapKept.run_findKey hk h1,he',MapKept.run_setObj_map _ h,Result.andThen,setBlock]
  ·rw [e]
   have:=heap_setBlock_same (w:=w) (b:=mb) h (.map (flagL q 0 (ks ++ [x])).toArray (ks.length + 1))
   unfold FlagAt
   rw [this];simp
end
theorem wpList_flag {P:Program} {w:World} {ops:Array Oper} {rest:List Oper} {o:Oper} {a:Act} {Q:Exit → Act → World → Prop} (hg:o.guard = none) (m x v:Operand) (t:TypeId) (hop:o.op = Op.mapUpdate t m x v)
  (k e:TypeId) (ht:P.underlying t = some (.map k e)) (q:IntKind) (hk:P.underlying k = some (.int q)) (mb:Nat) (ks:List Int) (y:Int) (h:FlagAt w mb q ks) (hm:a.eval m = .map (some mb)) (hx:a.eval x = .int q y)
  (hv:a.eval v = .bool true)
  (hK:∀ w',FlagAt w' mb q (addK ks y) → But (· = mb) w w' → w'.heap.size = w.heap.size → wpList P ops Q rest (a.put o.dst undef) w'):wpList P ops Q (o :: rest) a w:=by
 refine wpList_plain hg fun K' hK' => ?_
 obtain ⟨w',hrun,r1,r2,r3⟩:=flag_put (P:=P) h ht hk y
 unfold Oper.wp
 simp [execOp,hop,hm,hx,hv,hrun,Result.andThen]
 exact hK' _ _ (hK w' r1 r2 r3)
theorem wpListIn_flag {F:Fence} {n:Nat} {P:Program} {w:World} {ops:Array Oper} {rest:List Oper} {o:Oper} {a:Act} {Q:Exit → Act → World → Prop} (hg:o.guard = none) (m x v:Operand) (t:TypeId) (hop:o.op = Op.mapUpdate t m x v)
  (k e:TypeId) (ht:P.underlying t = some (.map k e)) (q:IntKind) (hk:P.underlying k = some (.int q)) (mb:Nat) (ks:List Int) (y:Int) (h:FlagAt w mb q ks) (hm:a.eval m = .map (some mb)) (hx:a.eval x = .int q y)
  (hv:a.eval v = .bool true)
  (hK:∀ w',FlagAt w' mb q (addK ks y) → But (· = mb) w w' → w'.heap.size = w.heap.size → wpListIn F n P ops Q rest (a.put o.dst undef) w'):wpListIn F n P ops Q (o :: rest) a w:=by
 refine wpListIn_plain hg fun K' hK' => ?_
 obtain ⟨w',hrun,r1,r2,r3⟩:=flag_put (P:=P) h ht hk y
 refine ⟨fun f hf => by simp [Oper.about,hop] at hf,?_⟩
 rw [Oper.semAt_plain F _ _ (by rw [hop];intro c hc';cases hc')]
 simp [execOp,hop,hm,hx,hv,hrun,Result.andThen,Oper.uponIn]
 exact hK' _ _ (hK w' r1 r2 r3)
end Go.Proofs.YtmokcgifknmchaaGreat
namespace Go.Proofs.YtmokcgifknmchaaGreat
open Go.ChangeShapes Go.WideShapes Go.ChangeAt Go.RowKit
set_option maxRecDepth 100000
set_option linter.unusedVariables false
end Go.Proofs.YtmokcgifknmchaaGreat
namespace Go.Proofs.YtmokcgifknmchaaGreat
open Go.ChangeShapes Go.WideShapes Go.ChangeAt Go.RowKit Go.Shelf
set_option maxRecDepth 100000
set_option linter.unusedVariables false
attribute [local go_sem] Oper.semAt_some
end Go.Proofs.YtmokcgifknmchaaGreat
namespace Go.Proofs.YtmokcgifknmchaaGreat
open Go.ChangeShapes Go.WideShapes Go.ChangeAt Go.RowKit
set_option maxRecDepth 100000
section
variable {P:Program} {w:World}
theorem wpList_add {ops:Array Oper} {rest:List Oper} {o:Oper} {a:Act} {Q:Exit → Act → World → Prop} (hgd:o.guard = none) (s x:Operand) (t:TypeId)
  (ho:o.op = .call { callee:=.builtin .append,args:=#[s,x],argTypes:=#[t,t] })
  (base:Nat) (e:TypeId) (z:Value) (size bytes:Nat) (ht:P.underlying t = some (.slice e)) (hi:(P.info? e).map (fun i => (i.zero,i.size,i.bytes)) = some (some z,size,bytes)) (hzs:z.cells.size = size) (hsz:0 < size)
  (v:Value) (n:Nat) (xs:List Value) (hown:w.ownsRow base e size v n xs) (xv:Value) (m lo:Nat) (cells:List Value) (hx:FlatAt w lo xv cells m) (hl:cells.length = m * size)
  (h1:∀ u ∈ cells,u.oneCell' = true) (h63:n + m ≤ 100000) (hb:bytes ≤ 1000) (hbase:base ≤ w.heap.size) (hs:a.eval s = v) (hxv:a.eval x = xv)
  (h:∀ v' w',w'.ownsRow base e size v' (n + m) (xs ++ cells) → Fresh w v v' → But (InRow v) w w' → wpList P ops Q rest (a.put o.dst v') w'):wpList P ops Q (o :: rest) a w:=by
 obtain ⟨v',w',hr,r1,r2,r3⟩:=run_add (P:=P) (w:=w) base t o.type e z size bytes ht hi hzs hsz v n xs hown xv m lo cells hx hl h1 h63 hb hbase
 refine wpList_plain hgd fun K hK => ?_
 unfold Oper.wp execOp
 simp only [ho,resolve,invoke,builtin,Sem.run_bind,Sem.run_pure,Result.andThen_ok,List.map_toArray,List.map_cons,List.map_nil,hs,hxv,hr]
 exact hK _ _ (h v' w' r1 r2 r3)
end
section
variable {P:Program} {w:World}
end
end Go.Proofs.YtmokcgifknmchaaGreat
namespace Go.Proofs.YtmokcgifknmchaaGreat
open Go.ChangeShapes Go.WideShapes Go.ChangeAt Go.RowKit
set_option maxRecDepth 100000
set_option linter.unusedVariables false
section
variable {P:Program} {ops:Array Oper} {rest:List Oper} {op:Oper} {a:Act} {w:World} {Q:Exit → Act → World → Prop} {l₀ n:Nat}
theorem load_boxIn (hgd:op.guard = none) (ty:TypeId) (x:Operand) (ho:op.op = .load ty x)
  (b:Nat) (hx:a.eval x = .pointer (some ⟨b,0,none⟩)) (l:List Value) (d:TypeDesc) (hu:P.underlying ty = some d) (hd:d.isRow = true) (hi:(P.info? ty).map (·.size) = some l.length) (hB:Box w b l)
  (h:wpListIn (Fence.wide.inRound l₀) n P ops Q rest (a.put op.dst (.agg l.toArray)) w):wpListIn (Fence.wide.inRound l₀) n P ops Q (op :: rest) a w :=
 wpListIn_lift hgd (fun c hc => by rw [ho] at hc;cases hc) fun K hK => wp_load_mid ty x ho b 0 hx l d hB.range hu hd hi (hK _ _ h)
end
end Go.Proofs.YtmokcgifknmchaaGreat
namespace Go.Proofs.YtmokcgifknmchaaGreat
open Go.ChangeShapes Go.WideShapes Go.ChangeAt Go.RowKit Go.Shelf
set_option maxRecDepth 100000
set_option linter.unusedVariables false
attribute [local go_sem] Oper.semAt_some
end Go.Proofs.YtmokcgifknmchaaGreat
