/- 'for x := range f' over an iterator whose elements are known ahead: what the iterator owes, and the law of the statement; and a statement whose order Go leaves open, inside such a loop's body. -/
import Derived.RangeFuncNested
import Derived.RangeFuncBound
import Derived.RangeFuncCalls
import Derived.RangeFuncLeaves
import Derived.Shelf.Abstract
import Derived.WalkKit
import Derived.OwnWalkIn
import Derived.TacticsInMore
import Derived.LoopNIn
import Derived.LoopIn
import Derived.OrdersIn
import Derived.Test.YtcogckjpmmjmbaaGreatQDMBase
import Derived.Test.YtcogckjpmmjmbaaGreatQDMMap
import Derived.Maps.OwnIn
import Derived.Test.YtcogckjpmmjmbaaGreatQDMWorld
import Derived.Test.YtcogckjpmmjmbaaGreatQDMWRef
import Derived.Test.YtcogckjpmmjmbaaGreatQDGMRoute
import Derived.Test.YtcogckjpmmjmbaaGreatQDMConf
import Derived.Deep.CutRange
namespace Go.Proofs.YtcogckjpmmjmbaaGreat
open Go.ChangeShapes Go.WideShapes Go.ChangeAt Go.RowKit
set_option maxRecDepth 100000
structure Kept (U:Nat → Prop) (W W':World):Prop where
 os:W'.os = W.os
 out:W'.output = W.output
 same:∀ i,i < W.heap.size → ¬ U i → W'.heap[i]? = W.heap[i]?
 free:∀ a,W'.frozen? a = W.frozen? a
 size:W.heap.size ≤ W'.heap.size
theorem Kept.refl (U:Nat → Prop) (W:World):Kept U W W:=⟨rfl,rfl,fun _ _ _ => rfl,fun _ => rfl,Nat.le_refl _⟩
theorem Kept.trans {U:Nat → Prop} {A B C:World} (h:Kept U A B) (k:Kept U B C):Kept U A C :=
 ⟨k.os.trans h.os,k.out.trans h.out,fun i hi hu => (k.same i (Nat.lt_of_lt_of_le hi h.size) hu).trans (h.same i hi hu),fun a => (k.free a).trans (h.free a),Nat.le_trans h.size k.size⟩
theorem Kept.mono {U V:Nat → Prop} {A B:World} (h:Kept U A B) (hs:∀ i,U i → V i):Kept V A B:=⟨h.os,h.out,fun i hi hv => h.same i hi (fun hu => hv (hs i hu)),h.free,h.size⟩
theorem But.kept {U:Nat → Prop} {A B:World} (h:But U A B):Kept U A B :=
 ⟨h.1.1,h.1.2.1,fun i hi hu => h.1.block hi (fun m hm hp => by subst hp;exact hu hm),h.2.1,h.2.2⟩
theorem Kept.of_grown {U:Nat → Prop} {A B:World} (h:Grown A B):Kept U A B:=(But.of_grown (S:=fun _ => False) h).kept.mono (fun _ f => f.elim)
theorem Kept.cell {U:Nat → Prop} {A B:World} (h:Kept U A B) {i o:Nat} {v:Value} (hu:¬ U i) (k:A.cell? ⟨i,o,none⟩ = some v):B.cell? ⟨i,o,none⟩ = some v:=by
 have e:=h.same i (World.block_lt_of_cell? A _ k) hu
 unfold World.cell? at k ⊢
 simp only at k ⊢
 rw [e];exact k
theorem Kept.fresh {U:Nat → Prop} {W A B:World} (g:Grown W A) (h:Kept U A B) (hs:∀ i,U i → W.heap.size ≤ i):Grown W B:=by
 have e:∀ i,i < W.heap.size → B.heap[i]? = A.heap[i]?:=fun i hi => h.same i (Nat.lt_of_lt_of_le hi g.2.2) (fun hu => by have:=hs i hu;omega)
 refine ⟨⟨h.os.trans g.1.1,h.out.trans g.1.2.1,fun i hi => ?_⟩,fun x => (h.free x).trans (g.2.1 x),Nat.le_trans g.2.2 h.size⟩
 rw [e i hi]
 exact g.1.2.2 i hi
def Bare:Obj → Bool
 | .loop .. => true
 | .deferred .. => true
 | _ => false
theorem kept_put {W:World} {l:Nat} {o o':Obj} (h:W.heap[l]? = some o) (ho:Bare o = true) (ho':Bare o' = true):Kept (· = l) W (W.putObj l o'):=by
 refine ⟨rfl,rfl,fun i _ hi => World.putObj_heap_other hi,fun a => ?_,by simp⟩
 unfold World.frozen?
 by_cases e:a.block = l
 ·rw [e,World.putObj_heap_same (Array.getElem?_eq_some_iff.1 h).1,h]
  cases o <;> cases o' <;> simp_all [Bare]
 ·rw [World.putObj_heap_other e]
theorem grown_bare (W:World) (o:Obj) (ho:Bare o = true):Grown W (W.alloc o):=by
 refine ⟨World.keptBut_alloc _ _ _,fun a => ?_,by simp⟩
 unfold World.frozen?
 by_cases h:a.block < W.heap.size
 ·rw [Below.heap_alloc _ _ _ h]
 ·by_cases e:a.block = W.heap.size
  ·rw [e,World.alloc_heap_new]
   have:W.heap[W.heap.size]? = none:=Array.getElem?_eq_none (Nat.le_refl _)
   rw [this]
   cases o <;> simp_all [Bare]
  ·have hz:(W.alloc o).heap.size = W.heap.size + 1:=World.size_alloc _ _
   have h1:(W.alloc o).heap[a.block]? = none:=Array.getElem?_eq_none (by omega)
   have h2:W.heap[a.block]? = none:=Array.getElem?_eq_none (by omega)
   rw [h1,h2]
theorem grown_block {A B:World} (h:Grown A B) {i:Nat} {o:Obj} (k:A.heap[i]? = some o):B.heap[i]? = some o :=
 ((Kept.of_grown (U:=fun _ => False) h).same i (Array.getElem?_eq_some_iff.1 k).1 (fun f => f)).trans k
section
variable {P:Program} {α:Type}
def Iter (P:Program) (gf:Nat) (lb:Array Value) (encs:α → Array Value) (xs:List α) (U:Nat → Prop) (w:World):Prop :=
 ∀ (l:Nat) (J Jx:List α → World → Prop) (W:World),Grown w W → (∀ pre A B,J pre A → Grown A B → J pre B) → (∀ pre A B,Jx pre A → Grown A B → Jx pre B) →
  (∀ pre x post A W1,xs = pre ++ x :: post → J pre A → Grown A W1 → YieldAt Fence.wide 7 P l (encs x) W1 fun e W' =>
   (e = .returned (.bool true) ∧ J (pre ++ [x]) W' ∧ Kept (fun i => U i ∧ i < A.heap.size) W1 W') ∨ (e = .returned (.bool false) ∧ Jx (pre ++ [x]) W')) →
  J [] W →
  CallsIn Fence.wide 8 P gf (#[.func (.yield l) #[] #[]] ++ lb) W fun e W' => (∃ v,e = .returned v) ∧ (J xs W' ∨ ∃ pre,pre <+: xs ∧ Jx pre W')
def roundP (B:Nat → Prop) (I:List α → World → Prop) (Ix:Code → List α → World → Prop) (xs:List α) (W:World):Exit → Act → World → Prop
 | .normal,_,W' => Kept B W W' ∧ I xs W'
 | .ret,_,W' => Kept B W W' ∧ Ix .ret xs W'
 | .exit id,_,W' => Kept B W W' ∧ Ix (.exit id) xs W'
 | .goto t,_,W' => Kept B W W' ∧ Ix (.goto t) xs W'
 | .panic _,_,_ => False
 | .outgrown,_,_ => False
theorem range_law {g:Operand} {ps:Array Tmp} {assign body:Code} {Q:Exit → Act → World → Prop} {a:Act} {w:World} {gf:Nat} {lb:Array Value}
  (hg:a.eval g = .func (.func gf) #[] lb) (eg:∀ args w,(callFunc gf args).run P w = .ok (.enter gf args) w)
  {encs:α → Array Value} {xs:List α} {U:Nat → Prop} (hseq:Iter P gf lb encs xs U w) (hUr:U (w.heap.size + 1)) (hps:∀ x,(encs x).size = ps.size)
  (I:List α → World → Prop) (Ix:Code → List α → World → Prop) (hI:∀ pre A C,I pre A → Kept (fun i => i = w.heap.size + 1) A C → I pre C) (hIx:∀ c pre A C,Ix c pre A → Kept (fun i => i = w.heap.size + 1) A C → Ix c pre C)
  (h0:I [] w)
  (hround:∀ pre x post A W,xs = pre ++ x :: post → I pre A → Grown A W → w.heap.size + 1 < A.heap.size →
   assign.wpIn (Fence.wide.inRound (w.heap.size + 1)) 7 P (Exit.then (fun a₁ W₁ => Grown W W₁ ∧ ∀ W₂,Kept (fun i => i = w.heap.size + 1) W₁ W₂ → body.wpIn (Fence.wide.inRound (w.heap.size + 1)) 7 P (roundP (fun i => U i ∧ i < A.heap.size ∧ i ≠ w.heap.size ∧ i ≠ w.heap.size + 1) I Ix (pre ++ [x]) W₂) a₁ W₂) (fun _ _ _ => False))
    { tmps:=(ps.zip (encs x)).foldl (fun t (p,v) => t.setIfInBounds p v) a.tmps,defers:=[] } W)
  (hdone:∀ W,I xs W → W.heap[w.heap.size]? = some (.deferred (some [])) → w.heap.size + 1 < W.heap.size → Q .normal { a with defers:={ target:=.collected w.heap.size,args:=#[] } :: a.defers } W)
  (hstop:∀ c pre W,pre <+: xs → Ix c pre W → W.heap[w.heap.size]? = some (.deferred (some [])) → w.heap.size + 1 < W.heap.size → c.wpIn Fence.wide 9 P Q { a with defers:={ target:=.collected w.heap.size,args:=#[] } :: a.defers } W) :
  (Code.rangeFunc g ps assign body).wpIn Fence.wide 9 P Q a w:=by
 refine wpIn_rangeFunc ?_
 intro fn hfn
 obtain ⟨rec,hrec⟩:∃ rec:LoopState → Option Code → Loop,rec = fun st pe => { state:=st,pending:=pe,fn,tmps:=a.tmps,params:=ps,assign,body,defers:=w.heap.size }:=⟨_,rfl⟩
 obtain ⟨W1,hW1⟩:∃ W1,(w.alloc (.deferred (some []))).alloc (.loop (rec .ready none)) = W1:=⟨_,rfl⟩
 have hL1:W1.heap[w.heap.size + 1]? = some (.loop (rec .ready none)):=by
  rw [← hW1];have:=World.alloc_heap_new (w.alloc (.deferred (some []))) (.loop (rec .ready none));rwa [World.size_alloc] at this
 have hK1:W1.heap[w.heap.size]? = some (.deferred (some [])):=by
  rw [← hW1];exact (Below.heap_alloc _ _ _ (by simp)).trans (World.alloc_heap_new w _)
 have hg1:Grown w W1:=by
  rw [← hW1];exact gtr (grown_bare w _ rfl) (grown_bare _ _ rfl)
 have hI1:I [] W1:=hI _ _ _ h0 (.of_grown hg1)
 refine ⟨w.heap.size + 1,[{ target:=.collected w.heap.size,args:=#[] }],W1,{ target:=.fn (.func gf) lb,args:=#[.func (.yield (w.heap.size + 1)) #[] #[]] },W1,gf,
  #[.func (.yield (w.heap.size + 1)) #[] #[]] ++ lb,W1,?_,?_,?_,?_,fun h => by simp [Fence.wide] at h,?_⟩
 ·rw [← hW1,hrec];exact run_enterLoop_outer _ _ _ _ _
 ·simp only [resolve,hg]
  simp [go_sem]
 ·intro f' _;trivial
 ·simp [invoke,go_sem,eg]
 refine (hseq (w.heap.size + 1)
  (fun pre W => I pre W ∧ W.heap[w.heap.size + 1]? = some (.loop (rec .ready none)) ∧ W.heap[w.heap.size]? = some (.deferred (some [])))
  (fun pre W => ∃ c,Ix c pre W ∧ W.heap[w.heap.size + 1]? = some (.loop (rec .done (some c))) ∧ W.heap[w.heap.size]? = some (.deferred (some [])))
  W1 hg1
  (fun pre A C hs hg' => ⟨hI _ _ _ hs.1 (.of_grown hg'),grown_block hg' hs.2.1,grown_block hg' hs.2.2⟩)
  (fun pre A C hs hg' => by
   obtain ⟨c,hc,hl,hk⟩:=hs
   exact ⟨c,hIx _ _ _ _ hc (.of_grown hg'),grown_block hg' hl,grown_block hg' hk⟩)
  ?_ ⟨hI1,hL1,hK1⟩).mono ?_
 ·-- one round
  rintro pre x post A W hx ⟨hiA,hlA,hkA⟩ gA
  have hltA:w.heap.size + 1 < A.heap.size:=(Array.getElem?_eq_some_iff.1 hlA).1
  have hl:=grown_block gA hlA
  have hk:=grown_block gA hkA
  have hy:=run_yield (P:=P) (args:=encs x) hl (by rw [hrec];exact hps x)
  rw [hrec] at hy
  refine ⟨fn,_,assign,body,hy,roundIn_of_wpIn hfn (wpIn_mono (hround pre x post A W hx hiA gA hltA) ?_)⟩
  rintro e a₁ Wa hp
  cases e with
  | normal =>
   obtain ⟨ga,hb⟩:=hp
   have hla:=grown_block ga hl
   have hka:=grown_block ga hk
   have hlta:w.heap.size + 1 < Wa.heap.size:=(Array.getElem?_eq_some_iff.1 hla).1
   have hkp:Kept (fun i => i = w.heap.size + 1) Wa (Wa.putObj (w.heap.size + 1) (.loop { rec .ready none with state:=.busy })):=kept_put hla rfl rfl
   refine ⟨_,run_beginRound hla (by rw [hrec]),?_⟩
   have hl2:(Wa.putObj (w.heap.size + 1) (.loop { rec .ready none with state:=.busy })).heap[w.heap.size + 1]? = some (.loop { rec .ready none with state:=.busy }):=World.putObj_heap_same hlta
   have hk2:(Wa.putObj (w.heap.size + 1) (.loop { rec .ready none with state:=.busy })).heap[w.heap.size]? = some (.deferred (some [])):=(World.putObj_heap_other (by omega)).trans hka
   refine wpIn_mono (hb _ hkp) ?_
   have fin:∀ (jump:Option Code) (W3:World),Kept (fun i => U i ∧ i < A.heap.size ∧ i ≠ w.heap.size ∧ i ≠ w.heap.size + 1) (Wa.putObj (w.heap.size + 1) (.loop { rec .ready none with state:=.busy })) W3 →
     (Instr.endRound (w.heap.size + 1) jump).run P W3 = .ok (.bool jump.isNone) (W3.putObj (w.heap.size + 1) (.loop (rec (if jump.isNone then .ready else .done) jump))) ∧
     Kept (fun i => i = w.heap.size + 1) W3 (W3.putObj (w.heap.size + 1) (.loop (rec (if jump.isNone then .ready else .done) jump))) ∧
     (W3.putObj (w.heap.size + 1) (.loop (rec (if jump.isNone then .ready else .done) jump))).heap[w.heap.size + 1]? = some (.loop (rec (if jump.isNone then .ready else .done) jump)) ∧
     (W3.putObj (w.heap.size + 1) (.loop (rec (if jump.isNone then .ready else .done) jump))).heap[w.heap.size]? = some (.deferred (some [])):=fun jump W3 hk3 => by
    have hl3:=(hk3.same (w.heap.size + 1) (by simpa using hlta) (fun h => by omega)).trans hl2
    have hd3:=(hk3.same w.heap.size (by simp;omega) (fun h => by omega)).trans hk2
    have hlt3:=(Array.getElem?_eq_some_iff.1 hl3).1
    have:=run_endRound (P:=P) jump hl3
    rw [hrec] at this ⊢
    exact ⟨this,kept_put hl3 rfl rfl,World.putObj_heap_same hlt3,(World.putObj_heap_other (by omega)).trans hd3⟩
   have all:∀ (W3 W4:World),Kept (fun i => U i ∧ i < A.heap.size ∧ i ≠ w.heap.size ∧ i ≠ w.heap.size + 1) (Wa.putObj (w.heap.size + 1) (.loop { rec .ready none with state:=.busy })) W3 → Kept (fun i => i = w.heap.size + 1) W3 W4 → Kept (fun i => U i ∧ i < A.heap.size) W W4 :=
    fun W3 W4 h3 h4 => ((Kept.of_grown ga).trans (hkp.mono (fun _ h => by subst h;exact ⟨hUr,hltA⟩))).trans ((h3.mono (fun _ h => ⟨h.1,h.2.1⟩)).trans (h4.mono (fun _ h => by subst h;exact ⟨hUr,hltA⟩)))
   rintro e a3 W3 hp
   cases e with
   | normal =>
    obtain ⟨hk3,hi3⟩:=hp
    obtain ⟨hr,hk4,hl4,hd4⟩:=fin none W3 hk3
    exact ⟨_,_,hr,.inl ⟨rfl,⟨hI _ _ _ hi3 hk4,hl4,hd4⟩,all W3 _ hk3 hk4⟩⟩
   | ret =>
    obtain ⟨hk3,hi3⟩:=hp
    obtain ⟨hr,hk4,hl4,hd4⟩:=fin (some .ret) W3 hk3
    exact ⟨_,_,hr,.inr ⟨rfl,.ret,hIx _ _ _ _ hi3 hk4,hl4,hd4⟩⟩
   | exit id =>
    obtain ⟨hk3,hi3⟩:=hp
    obtain ⟨hr,hk4,hl4,hd4⟩:=fin (some (.exit id)) W3 hk3
    exact ⟨_,_,hr,.inr ⟨rfl,.exit id,hIx _ _ _ _ hi3 hk4,hl4,hd4⟩⟩
   | goto t =>
    obtain ⟨hk3,hi3⟩:=hp
    obtain ⟨hr,hk4,hl4,hd4⟩:=fin (some (.goto t)) W3 hk3
    exact ⟨_,_,hr,.inr ⟨rfl,.goto t,hIx _ _ _ _ hi3 hk4,hl4,hd4⟩⟩
   | panic ch => exact hp.elim
   | outgrown => exact hp.elim
  | exit id => exact hp.elim
  | goto t => exact hp.elim
  | ret => exact hp.elim
  | panic ch => exact hp.elim
  | outgrown => exact hp.elim
 ·-- behind the iterator
  rintro e W2 ⟨⟨v,rfl⟩,(⟨hi,hl,hk⟩ | ⟨pre,hpre,c,hi,hl,hk⟩)⟩
  ·have hkp:Kept (fun i => i = w.heap.size + 1) W2 (W2.putObj (w.heap.size + 1) (.loop { rec .ready none with state:=.exhausted })):=kept_put hl rfl rfl
   exact ⟨none,_,by have:=run_endLoop (P:=P) hl (by rw [hrec];simp);rw [hrec] at this ⊢;exact this,hdone _ (hI _ _ _ hi hkp) ((World.putObj_heap_other (by omega)).trans hk) (by have:=(Array.getElem?_eq_some_iff.1 hl).1;simpa using this)⟩
  ·have hkp:Kept (fun i => i = w.heap.size + 1) W2 (W2.putObj (w.heap.size + 1) (.loop { rec .done (some c) with state:=.exhausted })):=kept_put hl rfl rfl
   exact ⟨some c,_,by have:=run_endLoop (P:=P) hl (by rw [hrec];simp);rw [hrec] at this ⊢;exact this,hstop _ pre _ hpre (hIx _ _ _ _ hi hkp) ((World.putObj_heap_other (by omega)).trans hk) (by have:=(Array.getElem?_eq_some_iff.1 hl).1;simpa using this)⟩
def noDefer (ops:Array Oper):Bool:=ops.all fun o => match o.op with | .defer .. => false | _ => true
theorem noDefer_at {ops:Array Oper} (h:noDefer ops = true) {i:Nat} {o:Oper} (ho:ops[i]? = some o) (c:Call):o.op ≠ .defer c:=by
 intro e
 obtain ⟨hi,rfl⟩:=Array.getElem?_eq_some_iff.1 ho
 have:=Array.all_eq_true.1 h i hi
 rw [e] at this
 simp at this
theorem opIn_of_op {l₀ n:Nat} {ops:Array Oper} {Qn:Act → World → Prop} (hnd:noDefer ops = true) {i:Nat} {K:Act → World → Prop} {a:Act} {w:World} (h:wpOp P ops (Well Qn) i K a w) :
  wpOpIn (Fence.wide.inRound l₀) n P ops (Well Qn) i K a w:=by
 unfold wpOp at h
 unfold wpOpIn
 split
 ·rename_i ho;simp only [ho] at h;exact h
 ·rename_i o ho
  simp only [ho] at h
  split
  ·rename_i hw
   rw [if_pos hw] at h
   rcases h with h | ⟨_,_,_,hx⟩
   ·refine ⟨fun _ _ => trivial,?_⟩
    have hs:o.semAt (Fence.wide.inRound l₀).round a.eval = execOp a.eval o:=Oper.semAt_eq _ _ _ (noDefer_at hnd ho)
    rw [hs]
    unfold Oper.wp at h
    generalize (execOp a.eval o).run P w = r at h
    cases r with
    | ok x w' =>
     cases x <;> simp only [Oper.upon] at h <;> simp only [Oper.uponIn]
     case value u => exact h
     case skip => exact h
     case defer d => exact h
     case enter f args => exact ⟨fun h => by simp [Fence.wide] at h,CallsIn.inRound l₀ (callsIn_wide.2 h)⟩
     case row row args =>
      refine ⟨fun h => by simp [Fence.wide] at h,?_⟩
      intro fr cs _
      obtain ⟨v,w'',h1,h2⟩:=h fr cs
      exact ⟨v,w'',h1,stepsIn_wide.2 h2⟩
    | halt x w' =>
     cases x <;> simp only [Oper.upon] at h <;> simp only [Oper.uponIn]
     case panic u => exact h
   ·exact absurd hx.1 (by simp)
  ·rename_i hw
   rw [if_neg hw] at h
   exact ⟨fun _ _ => trivial,h⟩
theorem anyIn_of_any {l₀ n:Nat} {ops:Array Oper} {Qn:Act → World → Prop} (hnd:noDefer ops = true):∀ (fuel:Nat) (L:Array Bool) (a:Act) (w:World),wpAny P .any ops (Well Qn) fuel L a w → wpAnyIn (Fence.wide.inRound l₀) n P .any ops (Well Qn) fuel L a w
 | 0,_,_,_,h => h
 | fuel + 1,_,_,_,h => ⟨h.1,fun i hi => wpOpIn_mono (fun a' w' h' => anyIn_of_any hnd fuel _ a' w' h') (opIn_of_op hnd (h.2 i hi))⟩
theorem wpIn_region_planR {l₀ n:Nat} {id:Nat} {Q:Exit → Act → World → Prop} {a:Act} {w:World} {l:List Oper} (p:Plan) (hm:P.follows .mixedOrders = true)
  (hs:Region.noSelect l.toArray = true) (hnd:noDefer l.toArray = true) (hB:planB l.toArray l.length p (Array.replicate l.length false) = true)
  (h:∀ w1,Grown w w1 → Pl P l (fun a' w' => Q .normal a' w') p (fun w' => ∃ g:GrW w1,w' = g.w) a w1):(Code.region id l.toArray true).wpIn (Fence.wide.inRound l₀) n P Q a w:=by
 have g1:Grown w w.drew:=by go_grown
 have h1:=plan_go (Q:=fun a' w' => Q .normal a' w') hs p l.length _ _ a w.drew hB ⟨⟨w.drew,Grown.refl _⟩,rfl⟩ (h _ g1)
 have h2:=anyIn_of_any (l₀:=l₀) (n:=n) hnd _ _ _ _ (wpAny_of_held _ _ _ _ h1)
 exact wpIn_mono (wpIn_region_any hm h2) (fun e a' w' hq => by obtain ⟨rfl,hq⟩:=hq;exact hq)
end
end Go.Proofs.YtcogckjpmmjmbaaGreat
namespace Go.Proofs.YtcogckjpmmjmbaaGreat
open Go.ChangeShapes Go.WideShapes Go.ChangeAt Go.RowKit Go.ChangeMaps
set_option maxRecDepth 100000
def flagL (q:IntKind):Nat → List Int → List MapEntry
 | _,[] => []
 | i,k :: r => { key:=.int q k,val:=.bool true,born:=i } :: flagL q (i + 1) r
theorem flagL_app (q:IntKind) (x:Int):∀ (l:List Int) (i:Nat),flagL q i (l ++ [x]) = flagL q i l ++ [{ key:=.int q x,val:=.bool true,born:=i + l.length }]
 | [],i => by simp [flagL]
 | k :: r,i => by
  simp only [List.cons_append,flagL,flagL_app q x r (i + 1),List.length_cons,show i + 1 + r.length = i + (r.length + 1) by omega]
theorem flag_out {q:IntKind} {x:Int}:∀ (l:List Int) (i j:Nat),x ∉ l → Instr.findNow (.int q) (.int q x) (flagL q i l) j = some none
 | [],_,_,_ => rfl
 | k :: r,i,j,h => by
  have h1:(x == k) = false:=by simp;rintro rfl;simp at h
  simp [flagL,Instr.findNow,Instr.sameNow,h1]
  exact flag_out r (i + 1) (j + 1) (fun hx => h (List.mem_cons_of_mem _ hx))
theorem flag_in {q:IntKind} {x:Int}:∀ (l:List Int) (i j:Nat),x ∈ l → ∃ m,Instr.findNow (.int q) (.int q x) (flagL q i l) j = some (some (j + m,.bool true)) ∧ (flagL q i l)[m]? = some { key:=.int q x,val:=.bool true,born:=i + m }
 | [],_,_,h => by cases h
 | k :: r,i,j,h => by
  by_cases hk:x = k
  ·subst hk
   exact ⟨0,by simp [flagL,Instr.findNow,Instr.sameNow],by simp [flagL]⟩
  ·have h1:(x == k) = false:=by simp [hk]
   obtain ⟨m,e1,e2⟩:=flag_in (q:=q) r (i + 1) (j + 1) (by simpa [hk] using h)
   refine ⟨m + 1,?_,?_⟩
   ·simp [flagL,Instr.findNow,Instr.sameNow,h1]
    rw [e1]
    congr 3
    omega
   ·simp only [flagL,List.getElem?_cons_succ]
    rw [e2]
    congr 2
    omega
def FlagAt (w:World) (mb:Nat) (q:IntKind) (ks:List Int):Prop:=w.heap[mb]? = some (.map (flagL q 0 ks).toArray ks.length)
theorem FlagAt.lt {w:World} {mb:Nat} {q:IntKind} {ks:List Int} (h:FlagAt w mb q ks):mb < w.heap.size:=(Array.getElem?_eq_some_iff.1 h).1
theorem FlagAt.kept {U:Nat → Prop} {w w':World} {mb:Nat} {q:IntKind} {ks:List Int} (h:FlagAt w mb q ks) (g:Kept U w w') (hs:¬ U mb):FlagAt w' mb q ks :=
 (g.same mb h.lt hs).trans h
theorem FlagAt.but {U:Nat → Prop} {w w':World} {mb:Nat} {q:IntKind} {ks:List Int} (h:FlagAt w mb q ks) (g:But U w w') (hs:¬ U mb):FlagAt w' mb q ks:=h.kept g.kept hs
theorem FlagAt.grown {w w':World} {mb:Nat} {q:IntKind} {ks:List Int} (h:FlagAt w mb q ks) (g:Grown w w'):FlagAt w' mb q ks:=h.kept (Kept.of_grown (U:=fun _ => False) g) (fun f => f)
theorem FlagAt.made (w:World) (q:IntKind):FlagAt (w.alloc (.map #[] 0)) w.heap.size q []:=(MapKept.heap_alloc w _).1
theorem FlagAt.ne {w:World} {mb:Nat} {q:IntKind} {ks:List Int} (h:FlagAt w mb q ks) {i o:Nat} {v:Value} (hc:w.cell? ⟨i,o,none⟩ = some v):i ≠ mb:=by
 rintro rfl
 have h':w.heap[i]? = some (.map (flagL q 0 ks).toArray ks.length):=h
 simp [World.cell?,h'] at hc
def addK (ks:List Int) (x:Int):List Int:=if x ∈ ks then ks else ks ++ [x]
theorem mem_addK {ks:List Int} {x y:Int}:y ∈ addK ks x ↔ y ∈ ks ∨ y = x:=by
 unfold addK
 split
 ·rename_i h;exact ⟨.inl,fun h' => h'.elim id (fun e => e ▸ h)⟩
 ·simp
section
variable {P:Program} {t k e:TypeId} {w:World} {mb:Nat} {q:IntKind} {ks:List Int}
theorem flag_make (t:TypeId) (w:World):(Instr.makeMap t none).run P w = .ok (.map (some w.heap.size)) (w.alloc (.map #[] 0)):=by
 simp [Instr.makeMap,Result.andThen]
theorem grown_map (w:World):Grown w (w.alloc (.map #[] 0)):=by
 refine ⟨World.keptBut_alloc _ _ _,fun a => ?_,by simp⟩
 unfold World.frozen?
 by_cases h:a.block < w.heap.size
 ·rw [Below.heap_alloc _ _ _ h]
 ·by_cases e:a.block = w.heap.size
  ·rw [e,World.alloc_heap_new]
   have:w.heap[w.heap.size]? = none:=Array.getElem?_eq_none (Nat.le_refl _)
   rw [this]
  ·have hz:(w.alloc (.map #[] 0)).heap.size = w.heap.size + 1:=World.size_alloc _ _
   have h1:(w.alloc (.map #[] 0)).heap[a.block]? = none:=Array.getElem?_eq_none (by omega)
   have h2:w.heap[a.block]? = none:=Array.getElem?_eq_none (by omega)
   rw [h1,h2]
theorem flag_look (h:FlagAt w mb q ks) (ht:P.underlying t = some (.map k e)) (hk:P.underlying k = some (.int q)) (hz:(zeroValue e).run P w = .ok (.bool false) w) (x:Int) :
  (Instr.lookup t (.map (some mb)) (.int q x) false).run P w = .ok (.bool (decide (x ∈ ks))) w:=by
 by_cases hx:x ∈ ks
 ·obtain ⟨m,h1,-⟩:=flag_in (q:=q) ks 0 0 hx
  simp [Instr.lookup,run_underlying ht,MapKept.run_getObj_map h,MapKept.run_checkKey hk (show MapKept.IsKey (.int q) (.int q x) from rfl),MapKept.run_findKey hk h1,Result.andThen,hx]
 ·have h1:=flag_out (q:=q) ks 0 0 hx
  simp [Instr.lookup,run_underlying ht,MapKept.run_getObj_map h,MapKept.run_checkKey hk (show MapKept.IsKey (.int q) (.int q x) from rfl),MapKept.run_findKey hk h1,hz,Result.andThen,hx]
theorem flag_put (h:FlagAt w mb q ks) (ht:P.underlying t = some (.map k e)) (hk:P.underlying k = some (.int q)) (x:Int) :
  ∃ w',(Instr.mapUpdate t (.map (some mb)) (.int q x) (.bool true)).run P w = .ok () w' ∧ FlagAt w' mb q (addK ks x) ∧ But (· = mb) w w' ∧ w'.heap.size = w.heap.size:=by
 by_cases hx:x ∈ ks
 ·obtain ⟨m,h1,h2⟩:=flag_in (q:=q) ks 0 0 hx
  refine ⟨setBlock w mb (.map (flagL q 0 ks).toArray ks.length),?_,?_,⟨keptBut_setBlock h rfl,frozen?_setBlock h,by simp [setBlock]⟩,by simp [setBlock]⟩
  ·have hm:((flagL q 0 ks).modify m fun e => { key:=.int q x,val:=.bool true,born:=e.born }) = flagL q 0 ks:=by
    apply List.ext_getElem?
    intro j
    rw [List.getElem?_modify]
    by_cases hj:m = j
    ·subst hj;simp [h2]
    ·simp [hj]
   have hb:∀ (w':World),(Instr.keyThatStays (.int q x) (.int q x)).run P w' = .ok (.int q x) w':=fun w' => by simp [Instr.keyThatStays,Instr.sameBits]
   simp only [Nat.zero_add] at h1
   simp [Instr.mapUpdate,run_underlying ht,MapKept.run_getObj_map h,MapKept.run_checkKey hk (show MapKept.IsKey (.int q) (.int q x) from rfl),MapKept.run_findKey hk h1,h2,hm,hb,MapKept.run_setObj_map _ h,Result.andThen,setBlock]
  ·have e:addK ks x = ks:=if_pos hx
   rw [e];exact heap_setBlock_same h _
 ·have h1:=flag_out (q:=q) ks 0 0 hx
  have e:addK ks x = ks ++ [x]:=if_neg hx
  have he:(flagL q 0 ks).toArray.push { key:=.int q x,val:=.bool true,born:=ks.length } = (flagL q 0 (ks ++ [x])).toArray:=by
   rw [flagL_app];simp
  refine ⟨setBlock w mb (.map (flagL q 0 (ks ++ [x])).toArray (ks.length + 1)),?_,?_,⟨keptBut_setBlock h rfl,frozen?_setBlock h,by simp [setBlock]⟩,by simp [setBlock]⟩
  ·have he':(flagL q 0 ks ++ [{ key:=.int q x,val:=.bool true,born:=ks.length }]) = flagL q 0 (ks ++ [x]):=by rw [flagL_app];simp
   simp [Instr.mapUpdate,run_underlying ht,MapKept.run_getObj_map h,MapKept.run_checkKey hk (show MapKept.IsKey (.int q) (.int q x) from rfl),MapKept.run_findKey hk h1,he',MapKept.run_setObj_map _ h,Result.andThen,setBlock]
  ·rw [e]
   have:=heap_setBlock_same (w:=w) (b:=mb) h (.map (flagL q 0 (ks ++ [x])).toArray (ks.length + 1))
   unfold FlagAt
   rw [this];simp
end
theorem wpList_flag {P:Program} {w:World} {ops:Array Oper} {rest:List Oper} {o:Oper} {a:Act} {Q:Exit → Act → World → Prop} (hg:o.guard = none) (m x v:Operand) (t:TypeId) (hop:o.op = Op.mapUpdate t m x v)
  (k e:TypeId) (ht:P.underlying t = some (.map k e)) (q:IntKind) (hk:P.underlying k = some (.int q)) (mb:Nat) (ks:List Int) (y:Int) (h:FlagAt w mb q ks) (hm:a.eval m = .map (some mb)) (hx:a.eval x = .int q y)
  (hv:a.eval v = .bool true)
  (hK:∀ w',FlagAt w' mb q (addK ks y) → But (· = mb) w w' → w'.heap.size = w.heap.size → wpList P ops Q rest (a.put o.dst undef) w'):wpList P ops Q (o :: rest) a w:=by
 refine wpList_plain hg fun K' hK' => ?_
 obtain ⟨w',hrun,r1,r2,r3⟩:=flag_put (P:=P) h ht hk y
 unfold Oper.wp
 simp [execOp,hop,hm,hx,hv,hrun,Result.andThen]
 exact hK' _ _ (hK w' r1 r2 r3)
theorem wpListIn_flag {F:Fence} {n:Nat} {P:Program} {w:World} {ops:Array Oper} {rest:List Oper} {o:Oper} {a:Act} {Q:Exit → Act → World → Prop} (hg:o.guard = none) (m x v:Operand) (t:TypeId) (hop:o.op = Op.mapUpdate t m x v)
  (k e:TypeId) (ht:P.underlying t = some (.map k e)) (q:IntKind) (hk:P.underlying k = some (.int q)) (mb:Nat) (ks:List Int) (y:Int) (h:FlagAt w mb q ks) (hm:a.eval m = .map (some mb)) (hx:a.eval x = .int q y)
  (hv:a.eval v = .bool true)
  (hK:∀ w',FlagAt w' mb q (addK ks y) → But (· = mb) w w' → w'.heap.size = w.heap.size → wpListIn F n P ops Q rest (a.put o.dst undef) w'):wpListIn F n P ops Q (o :: rest) a w:=by
 refine wpListIn_plain hg fun K' hK' => ?_
 obtain ⟨w',hrun,r1,r2,r3⟩:=flag_put (P:=P) h ht hk y
 refine ⟨fun f hf => by simp [Oper.about,hop] at hf,?_⟩
 rw [Oper.semAt_plain F _ _ (by rw [hop];intro c hc';cases hc')]
 simp [execOp,hop,hm,hx,hv,hrun,Result.andThen,Oper.uponIn]
 exact hK' _ _ (hK w' r1 r2 r3)
end Go.Proofs.YtcogckjpmmjmbaaGreat
namespace Go.Proofs.YtcogckjpmmjmbaaGreat
open Go.ChangeShapes Go.WideShapes Go.ChangeAt Go.RowKit
set_option maxRecDepth 100000
set_option linter.unusedVariables false
theorem Box.kept {U:Nat → Prop} {A B:World} {b:Nat} {l:List Value} (h:Box A b l) (q:Kept U A B) (hu:¬ U b):Box B b l :=
 ⟨fun j u hj => q.cell hu (h.cell j u hj),fun j => (q.free _).trans (h.free j),Nat.lt_of_lt_of_le h.lt q.size⟩
def refOf (c:Cf) (ws:List Int) (i:Int):Int:=rd ws (nxtI c i)
def opAt (s:St) (i:Int):Int:=carriedOf (lookI s.nodes i)
def calAt (s:St) (op:Int):Cal:=(lookI s.ops op).getD Cal.zero
def wrdOf (c:Cf) (ws:List Int) (op:Int):Int:=rd ws (wrdI c op)
def nodeL (c:Cf) (ws:List Int) (s:St) (i:Int):List Value :=
 [.int .i64 i,.int .u64 (refOf c ws i),.int .i64 (opAt s i),.int .i64 (calAt s (opAt s i)).kind,.int .u64 (calAt s (opAt s i)).key,.int .u64 (calAt s (opAt s i)).val,.int .i64 (calAt s (opAt s i)).lim,.int .u64 (wrdOf c ws (opAt s i))]
theorem peek_g {W:World} {c:Cf} {d:Wd} {ws:List Int} {n:Int} {s:St} (h:WdAt W c d ws n s) (i y:Int) (hy:rd ws i = y) (g:GrW W) :
  Calls Tryz.prog 60 #[.pointer (some ⟨d.p,0,none⟩),.int .i64 i] g.w fun e w' => e = .returned (.int .u64 y) ∧ Grown g.w w':=by
 subst hy
 exact Peek_any _ d.p d.b ws n i (h.bank.grown g.gr)
theorem reference_at (w:World) (c:Cf) (d:Wd) (ws:List Int) (n:Int) (s:St) (h:WdAt w c d ws n s) (i v:Int) (hv:refOf c ws i = v) :
  Calls Tryz.prog 140 #[.pointer (some ⟨d.x,0,none⟩),.int .i64 i] w fun e w' => e = .returned (.int .u64 v) ∧ Grown w w':=by
 have k0:∀ g:GrW w,g.w.cell? ⟨d.x,0,none⟩ = some (.int .i64 c.t):=GrW.cell h.k0
 have k1:∀ g:GrW w,g.w.cell? ⟨d.x,1,none⟩ = some (.int .i64 c.b):=GrW.cell h.k1
 have k2:∀ g:GrW w,g.w.cell? ⟨d.x,2,none⟩ = some (.int .i64 c.i):=GrW.cell h.k2
 have k3:∀ g:GrW w,g.w.cell? ⟨d.x,3,none⟩ = some (.int .i64 c.f):=GrW.cell h.k3
 have k4:∀ g:GrW w,g.w.cell? ⟨d.x,4,none⟩ = some (.int .i64 c.k):=GrW.cell h.k4
 have k5:∀ g:GrW w,g.w.cell? ⟨d.x,5,none⟩ = some (.pointer (some ⟨d.p,0,none⟩)):=GrW.cell h.k5
 have HD:=Lib.hid h
 have HN:Hid (vNext c.t c.b c.i c.f c.k i = nxtI c i):=Lib.hid rfl
 have HV:Hid (rd ws (nxtI c i) = v):=Lib.hid hv
 clear h hv
 go_enter Tryz.func140,Tryz.ntmps140
 go_wp2_with fail
 refine wp_region_grow (by kernel_rfl) (by kernel_rfl) ?_
 repeat (go_big_quiet_step ((first | (go_at_call 124;with_reducible exact grcall (Next_at _ _ _ _ _ _ _ _ HN.out)) | (go_at_call 60;with_reducible exact grcall (peek_g HD.out _ _ HV.out _)))))
 refine wpQuiet_nil ?_
 rintro _ ⟨⟨w2,g2⟩,rfl⟩
 clear k0 k1 k2 k3 k4 k5
 go_wp2
 go_ret
 exact ⟨rfl,g2⟩
set_option maxHeartbeats 4000000 in
theorem lookUp_at (w:World) (c:Cf) (d:Wd) (ws:List Int) (n:Int) (s:St) (h:WdAt w c d ws n s) (hI:Inv c s) (i:Int) :
  Calls Tryz.prog 144 #[.pointer (some ⟨d.x,0,none⟩),.int .i64 i] w fun e w' => e = .returned (.agg (nodeL c ws s i).toArray) ∧ Grown w w':=by
 have k0:=h.k0
 have k1:=h.k1
 have k2:=h.k2
 have k3:=h.k3
 have k4:=h.k4
 have k5:=h.k5
 have k6:=h.k6
 obtain ⟨op,hop⟩:∃ op,opAt s i = op:=⟨_,rfl⟩
 obtain ⟨x,hx⟩:∃ x,calAt s op = x:=⟨_,rfl⟩
 obtain ⟨rf,hrf⟩:∃ rf,refOf c ws i = rf:=⟨_,rfl⟩
 obtain ⟨wv,hwv⟩:∃ wv,wrdOf c ws op = wv:=⟨_,rfl⟩
 obtain ⟨xk,xy,xv,xl⟩:=x
 unfold nodeL
 rw [hop,hx,hrf,hwv]
 have HD:=Lib.hid h
 have HI:=Lib.hid hI
 have HO:=Lib.hid hop
 have HX:=Lib.hid hx
 have HR:=Lib.hid hrf
 have HW:=Lib.hid hwv
 have HN:Hid (vWord c.t c.b c.i c.f c.k op = wrdI c op):=Lib.hid rfl
 clear hop hx hrf hwv hI
 have hlx:=h.xlt
 clear h
 go_enter Tryz.func144,Tryz.ntmps144
 go_wp2_with fail
 refine (Carried_at _ c d.a s (HD.out.book.grown (by go_grown)) HI.out i _ rfl).mono ?_;rintro e w1 ⟨rfl,g1⟩
 have c6:w1.cell? ⟨d.x,6,none⟩ = some (.pointer (some ⟨d.a.p,0,none⟩)):=gcell g1 (acell k6)
 have B1:=(Box.made w [.int .i64 0,.int .u64 0,.int .i64 0,.int .i64 0,.int .u64 0,.int .u64 0,.int .i64 0,.int .u64 0] 145).grown g1
 have HB:=Lib.hid B1
 have G1:=Lib.hid (galloc g1)
 clear B1 g1 k6
 rw [show carriedOf (lookI s.nodes i) = op from HO.out]
 go_wp2_with fail
 refine (Call_at _ c d.a s (HD.out.book.grown G1.out) HI.out op _ rfl).mono ?_;rintro e w2 ⟨rfl,g2⟩
 rw [show (lookI s.ops op).getD Cal.zero = ⟨xk,xy,xv,xl⟩ from HX.out]
 unfold Cal.v
 simp only
 have G2:=Lib.hid (gtr G1.out g2)
 have HB2:=Lib.hid (HB.out.grown g2)
 clear HB G1 g2
 have hlt:=G2.out.2.2
 go_wp2_with fail
 refine wp_region_planb (fun i => i = w.heap.size) (.one [0,1,2,4,5,6,7,8,9,10,11,12,13,14] 3 (.one [] 15 (.one [] 16 (.one [17] 18 (.fin []))))) (by kernel_rfl) (by kernel_rfl) (by kernel_rfl) ?_
 intro w3 g3
 have hx:¬ d.x = w.heap.size:=by omega
 have d0:∀ g:ButW (fun i => i = w.heap.size) w3,g.w.cell? ⟨d.x,0,none⟩ = some (.int .i64 c.t):=ButW.cell hx (gcell g3 (acell (gcell G2.out k0)))
 have d1:∀ g:ButW (fun i => i = w.heap.size) w3,g.w.cell? ⟨d.x,1,none⟩ = some (.int .i64 c.b):=ButW.cell hx (gcell g3 (acell (gcell G2.out k1)))
 have d2:∀ g:ButW (fun i => i = w.heap.size) w3,g.w.cell? ⟨d.x,2,none⟩ = some (.int .i64 c.i):=ButW.cell hx (gcell g3 (acell (gcell G2.out k2)))
 have d3:∀ g:ButW (fun i => i = w.heap.size) w3,g.w.cell? ⟨d.x,3,none⟩ = some (.int .i64 c.f):=ButW.cell hx (gcell g3 (acell (gcell G2.out k3)))
 have d4:∀ g:ButW (fun i => i = w.heap.size) w3,g.w.cell? ⟨d.x,4,none⟩ = some (.int .i64 c.k):=ButW.cell hx (gcell g3 (acell (gcell G2.out k4)))
 have d5:∀ g:ButW (fun i => i = w.heap.size) w3,g.w.cell? ⟨d.x,5,none⟩ = some (.pointer (some ⟨d.p,0,none⟩)):=ButW.cell hx (gcell g3 (acell (gcell G2.out k5)))
 have hz:¬ w2.heap.size = w.heap.size:=by have:=HB2.out.lt;omega
 have e0:∀ g:ButW (fun i => i = w.heap.size) w3,g.w.cell? ⟨w2.heap.size,0,none⟩ = some (.int .i64 xk):=ButW.cell hz (gcell g3 (by simp [go_sem]))
 have e1:∀ g:ButW (fun i => i = w.heap.size) w3,g.w.cell? ⟨w2.heap.size,1,none⟩ = some (.int .u64 xy):=ButW.cell hz (gcell g3 (by simp [go_sem]))
 have e2:∀ g:ButW (fun i => i = w.heap.size) w3,g.w.cell? ⟨w2.heap.size,2,none⟩ = some (.int .u64 xv):=ButW.cell hz (gcell g3 (by simp [go_sem]))
 have e3:∀ g:ButW (fun i => i = w.heap.size) w3,g.w.cell? ⟨w2.heap.size,3,none⟩ = some (.int .i64 xl):=ButW.cell hz (gcell g3 (by simp [go_sem]))
 refine plan_one ?_
 simp only [nths,nth,List.map_cons,List.map_nil,List.getD_cons_zero,List.getD_cons_succ]
 repeat go_big_quiet_step (fail)
 clear d0 d1 d2 d3 d4 d5 e0 e1 e2 e3 k0 k1 k2 k3 k4 k5
 have G3:=Lib.hid (gtr G2.out (galloc g3))
 have HB3:=Lib.hid (HB2.out.grown (galloc g3))
 clear HB2
 refine wpQuiet_nil ?_
 go_wp2_with fail
 refine (reference_at _ c d ws n s (HD.out.grown G3.out) i _ HR.out).mono ?_;rintro e u4 ⟨rfl,g4⟩
 go_wp2_with fail
 refine nxt_but (But.of_grown g4) (plan_one ?_)
 simp only [nths,nth,List.map_nil,List.getD_cons_zero,List.getD_cons_succ]
 refine wpQuiet_nil ?_
 go_wp2_with fail
 refine (Word_at _ _ _ _ _ _ _ _ HN.out).mono ?_;rintro e u5 ⟨rfl,g5⟩
 go_wp2_with fail
 refine nxt_but (But.of_grown (gtr g4 g5)) (plan_one ?_)
 simp only [nths,nth,List.map_nil,List.getD_cons_zero,List.getD_cons_succ]
 refine wpQuiet_nil ?_
 go_wp2_with fail
 have G5:=Lib.hid (gtr G3.out (gtr g4 g5))
 refine (Peek_any _ d.p d.b ws n (wrdI c op) (HD.out.grown G5.out).bank).mono ?_;rintro e u6 ⟨rfl,g6⟩
 rw [show rd ws (wrdI c op) = wv from HW.out]
 have G6:=Lib.hid (gtr G5.out g6)
 have HB6:=Lib.hid (HB3.out.grown (gtr g4 (gtr g5 g6)))
 clear HB3 G5
 have G46:=Lib.hid (gtr g4 (gtr g5 g6))
 clear g4 g5 g6
 go_wp2_with fail
 refine nxt_but (But.of_grown G46.out) (plan_one ?_)
 simp only [nths,nth,List.map_cons,List.map_nil,List.getD_cons_zero,List.getD_cons_succ]
 repeat go_big_quiet_step (fail)
 refine wpQuiet_nil ?_
 go_wp2_with (first | (refine store_box rfl 145 _ _ rfl w.heap.size _ HB6.out #[.int .i64 i,.int .u64 rf,.int .i64 op,.int .i64 xk,.int .u64 xy,.int .u64 xv,.int .i64 xl,.int .u64 wv] rfl rfl rfl (by kernel_rfl) rfl ?_;intro u7 B7 q7;have HC:=Lib.hid B7;clear B7) | fail)
 refine nxt_but ((But.of_grown G46.out).trans q7) (plan_fin ?_)
 simp only [nths,List.map_nil]
 refine wpQuiet_nil ?_
 go_wp2_with fail
 refine bodyPost_ret (v:=.agg #[.int .i64 i,.int .u64 rf,.int .i64 op,.int .i64 xk,.int .u64 xy,.int .u64 xv,.int .i64 xl,.int .u64 wv]) ?_ rfl ?_
 ·exact results_c Tryz.results144 rfl (load_run HC.out 145 _ Tryz.underlying145 rfl (by kernel_rfl))
 ·exact ⟨rfl,But.fresh G6.out q7 (fun i hi => by subst hi;exact Nat.le_refl _)⟩
end Go.Proofs.YtcogckjpmmjmbaaGreat
namespace Go.Proofs.YtcogckjpmmjmbaaGreat
open Go.ChangeShapes Go.WideShapes Go.ChangeAt Go.RowKit Go.Shelf
set_option maxRecDepth 100000
set_option linter.unusedVariables false
attribute [local go_sem] Oper.semAt_some
def chainN (c:Cf) (ws:List Int):Nat → Int → List Int
 | 0,_ => []
 | f + 1,v => if v / 2 = 0 then [] else v / 2 :: chainN c ws f (refOf c ws (v / 2))
def firstOf (c:Cf) (ws:List Int) (b:Int):Int:=refOf c ws (vHead c.t c.b c.i c.f c.k b)
def chainI (c:Cf) (ws:List Int) (b:Int):List Int:=chainN c ws c.nodes (firstOf c ws b)
theorem chainN_len (c:Cf) (ws:List Int):∀ (f:Nat) (v:Int),(chainN c ws f v).length ≤ f
 | 0,_ => Nat.zero_le _
 | f + 1,v => by
  unfold chainN
  split
  ·exact Nat.zero_le _
  ·have:=chainN_len c ws f (refOf c ws (v / 2))
   simp only [List.length_cons];omega
theorem Cf.Ok.nodes_le {c:Cf} (h:c.Ok):c.nodes ≤ 9999:=by have h1:=h.tk;have h2:=h.b64;simp only [Cf.nodes];omega
theorem chainI_len {c:Cf} (h:c.Ok) (ws:List Int) (b:Int):(chainI c ws b).length ≤ 9999:=Nat.le_trans (chainN_len c ws c.nodes _) h.nodes_le
def WOk (ws:List Int):Prop:=∀ i:Int,0 ≤ rd ws i ∧ rd ws i ≤ 18446744073709551615
def NodesAt (x:Option Addr) (b:Int) (w:World) (e:Ending) (w':World):Prop :=
 ∃ b1 b2:Nat,e = .returned (.func (.func 139) #[] #[.pointer (some ⟨b1,0,none⟩),.pointer (some ⟨b2,0,none⟩)]) ∧ w'.cell? ⟨b1,0,none⟩ = some (.pointer x) ∧ w'.cell? ⟨b2,0,none⟩ = some (.int .i64 b) ∧ w.heap.size ≤ b1 ∧ w.heap.size ≤ b2 ∧ Grown w w'
theorem nodes_at (w:World) (x:Option Addr) (b:Int):Calls Tryz.prog 72 #[.pointer x,.int .i64 b] w (NodesAt x b w):=by
 have hmf:=mkFunc
 go_enter Tryz.func72,Tryz.ntmps72
 go_wp2
 refine bodyPost_ret (v:=.func (.func 139) #[] #[.pointer (some ⟨w.heap.size,0,none⟩),.pointer (some ⟨w.heap.size + 1,0,none⟩)]) (by simp [results,Tryz.results72,go_sem]) rfl ?_
 exact ⟨_,_,rfl,by simp [go_sem],by simp [go_sem],by omega,by omega,by go_grown⟩
structure ItK (w0 wr:World) (b1 b2:Nat) (x:Nat) (b:Int):Prop where
 g:Grown w0 wr
 c1:wr.cell? ⟨b1,0,none⟩ = some (.pointer (some ⟨x,0,none⟩))
 c2:wr.cell? ⟨b2,0,none⟩ = some (.int .i64 b)
theorem ItK.grown {w0 a c:World} {b1 b2 x:Nat} {b:Int} (h:ItK w0 a b1 b2 x b) (g:Grown a c):ItK w0 c b1 b2 x b:=⟨gtr h.g g,gcell g h.c1,gcell g h.c2⟩
set_option maxHeartbeats 4000000 in
theorem nodes1_iter (w0 w:World) (c:Cf) (d:Wd) (ws:List Int) (n:Int) (s:St) (h:WdAt w0 c d ws n s) (hI:Inv c s) (hws:WOk ws) (g0:Grown w0 w) (b1 b2:Nat) (b:Int)
  (c1:w.cell? ⟨b1,0,none⟩ = some (.pointer (some ⟨d.x,0,none⟩))) (c2:w.cell? ⟨b2,0,none⟩ = some (.int .i64 b)) (U:Nat → Prop) (hU0:∀ i,U i → w0.heap.size ≤ i) (hU1:¬ U b1) (hU2:¬ U b2) :
  Iter Tryz.prog 139 #[.pointer (some ⟨b1,0,none⟩),.pointer (some ⟨b2,0,none⟩)] (fun i => #[.agg (nodeL c ws s i).toArray]) (chainI c ws b) U w:=by
 intro l J Jx W gW hJ hJx hY h0
 have c1':=gcell gW c1
 have c2':=gcell gW c2
 have HD:=Lib.hid (h.grown (gtr g0 gW))
 have K0:ItK w0 W b1 b2 d.x b:=⟨gtr g0 gW,c1',c2'⟩
 have k0:=HD.out.k0
 have k1:=HD.out.k1
 have k2:=HD.out.k2
 have k3:=HD.out.k3
 have k4:=HD.out.k4
 obtain ⟨hv,hhv⟩:∃ hv,vHead c.t c.b c.i c.f c.k b = hv:=⟨_,rfl⟩
 obtain ⟨fv,hfv⟩:∃ fv,refOf c ws hv = fv:=⟨_,rfl⟩
 have HC:Hid (chainI c ws b = chainN c ws c.nodes fv):=Lib.hid (by unfold chainI firstOf;rw [hhv,hfv])
 have HF0:Hid (0 ≤ fv):=Lib.hid (hfv ▸ (hws _).1)
 have HF1:Hid (fv ≤ 18446744073709551615):=Lib.hid (hfv ▸ (hws _).2)
 have HH:=Lib.hid hhv
 have HF:=Lib.hid hfv
 clear hhv hfv
 have HNn:Hid (zNodes c.t c.b c.i c.f c.k = (c.nodes:Int)):=Lib.hid (by have:=h.book.ok.z;unfold zNodes;rw [if_pos this];simp [Cf.nodes])
 refine callsIn_of_wp Tryz.func139 rfl trivial ?_ rfl
 simp only [Tryz.ntmps139,List.size_toArray,List.length_cons,List.length_nil,Nat.reduceAdd,Nat.reduceSub,Array.replicate_succ,Array.replicate_zero,List.push_toArray,List.append_toArray,List.nil_append,List.cons_append]
 gi_wp2_with fail
 have d1:∀ g:GrW W,g.w.cell? ⟨b1,0,none⟩ = some (.pointer (some ⟨d.x,0,none⟩)):=GrW.cell c1'
 have d2:∀ g:GrW W,g.w.cell? ⟨b2,0,none⟩ = some (.int .i64 b):=GrW.cell c2'
 have e0:∀ g:GrW W,g.w.cell? ⟨d.x,0,none⟩ = some (.int .i64 c.t):=GrW.cell k0
 have e1:∀ g:GrW W,g.w.cell? ⟨d.x,1,none⟩ = some (.int .i64 c.b):=GrW.cell k1
 have e2:∀ g:GrW W,g.w.cell? ⟨d.x,2,none⟩ = some (.int .i64 c.i):=GrW.cell k2
 have e3:∀ g:GrW W,g.w.cell? ⟨d.x,3,none⟩ = some (.int .i64 c.f):=GrW.cell k3
 have e4:∀ g:GrW W,g.w.cell? ⟨d.x,4,none⟩ = some (.int .i64 c.k):=GrW.cell k4
 refine wpIn_wide.2 ?_
 refine wp_region_grow (by kernel_rfl) (by kernel_rfl) ?_
 repeat (go_big_quiet_step ((first | (go_at_call 141;with_reducible exact grcall (Head_at _ _ _ _ _ _ _ _ HH.out)) | (go_at_call 140;exact grcall (reference_at _ c d ws n s (HD.out.grown (GrW.gr _)) _ _ HF.out)))))
 refine wpQuiet_nil ?_
 rintro w2 ⟨⟨_,g2⟩,rfl⟩
 clear d1 d2 e0 e1 e2 e3 e4
 have K2:=K0.grown g2
 have J2:=hJ _ _ _ h0 g2
 have HD2:=Lib.hid (HD.out.grown g2)
 replace k0:=gcell g2 k0
 replace k1:=gcell g2 k1
 replace k2:=gcell g2 k2
 replace k3:=gcell g2 k3
 replace k4:=gcell g2 k4
 have c1:=K2.c1
 have hsz:W.heap.size ≤ w2.heap.size:=g2.2.2
 clear K0 HD h0 c1' c2' g2
 gi_wp2_with (first | (refine ⟨trivial,?_⟩;gi_at_call 142;refine (callsIn_wide.2 (Nodes_at _ _ _ _ _ _ _ HNn.out)).mono ?_;rintro e w3 ⟨rfl,g3⟩) | fail)
 have K3:=K2.grown g3
 have J3:=hJ _ _ _ J2 g3
 have HD3:=Lib.hid (HD2.out.grown g3)
 have hsz3:W.heap.size ≤ w3.heap.size:=Nat.le_trans hsz g3.2.2
 clear K2 J2 HD2 k0 k1 k2 k3 k4 c1 g3 hsz
 gi_wp2_with fail
 gi_loopw [21,4] (fun s21 s4 wr => ∃ (pre:List Int) (k:Nat) (v:Int),s21 = .int .i64 (k:Int) ∧ s4 = .int .u64 v ∧ k ≤ c.nodes ∧ chainN c ws c.nodes fv = pre ++ chainN c ws (c.nodes - k) v ∧ 0 ≤ v ∧ v ≤ 18446744073709551615 ∧ ItK w0 wr b1 b2 d.x b ∧ J pre wr ∧ W.heap.size ≤ wr.heap.size)
  (fun s21 _ _ => c.nodes - (intOf s21).toNat)
 case atStart => exact ⟨[],0,fv,rfl,rfl,Nat.zero_le _,rfl,HF0.out,HF1.out,K3,J3,hsz3⟩
 case round =>
  obtain ⟨pre,k,v,rfl,rfl,hk,hch,hv0,hv1,KR,JR,hszr⟩:=hrel
  have HKR:=Lib.hid KR
  have HHch:=Lib.hid hch
  have HCn:=Lib.hid HC.out
  have hbd:(c.nodes:Int) ≤ 9999:=by have h1:=h.book.ok.tk;have h2:=h.book.ok.b64;simp only [Cf.nodes];omega
  by_cases hkn:k < c.nodes
  ·have hlt:(k:Int) < (c.nodes:Int):=by omega
   obtain ⟨f,hf⟩:∃ f,c.nodes - k = f + 1:=⟨c.nodes - k - 1,by omega⟩
   by_cases hz:v / 2 = 0
   ·have hc0:chainN c ws (c.nodes - k) v = []:=by rw [hf];simp [chainN,hz]
    have hx:Hid (chainI c ws b = pre):=Lib.hid (by rw [HC.out,HHch.out,hc0];simp)
    clear hc0 hch
    gi_wp2_with (first | (refine ⟨trivial,?_⟩;gi_at_call 143;refine (callsIn_wide.2 (Index_any _ _ hv0 hv1)).mono ?_;rintro e w4 ⟨rfl,g4⟩) | fail)
    refine bodyPost_ret (results_none rfl _ _ _) rfl ?_
    exact ⟨⟨_,rfl⟩,.inl (hx.out.symm ▸ hJ _ _ _ JR g4)⟩
   ·have hc1:chainN c ws (c.nodes - k) v = v / 2 :: chainN c ws f (refOf c ws (v / 2)):=by rw [hf];simp [chainN,hz]
    have HC1:=Lib.hid hc1
    clear hc1 hch
    gi_wp2_with (first | (refine ⟨trivial,?_⟩;gi_at_call 143;refine (callsIn_wide.2 (Index_any _ _ hv0 hv1)).mono ?_;rintro e w4 ⟨rfl,g4⟩) | fail)
    have K4:=KR.grown g4
    have J4:=hJ _ _ _ JR g4
    have HD4:=Lib.hid (h.grown K4.g)
    have HK4:=Lib.hid K4
    have c14:=K4.c1
    have hsz4:W.heap.size ≤ w4.heap.size:=Nat.le_trans hszr g4.2.2
    have G4:=Lib.hid g4
    clear KR JR K4 g4
    refine wpIn_wide.2 ?_
    go_cut [5] from 22 to 29 (fun s5 w' => ∃ bb:Nat,s5 = .pointer (some ⟨bb,0,none⟩) ∧ Box w' bb (nodeL c ws s (v / 2)) ∧ Grown w4 w' ∧ w4.heap.size ≤ bb)
    case first =>
     refine wp_region_plang (.two [0,1] 2 (.two [] 3 (.one [] 4 (.one [] 5 (.fin []))) 4 (.one [] 3 (.one [] 5 (.fin [])))) 4 (.one [] 2 (.one [] 3 (.one [] 5 (.fin []))))) (by kernel_rfl) (by kernel_rfl) (by kernel_rfl) ?_
     intro w5 g5
     have d1:∀ g:GrW w5,g.w.cell? ⟨b1,0,none⟩ = some (.pointer (some ⟨d.x,0,none⟩)):=GrW.cell (gcell g5 c14)
     refine plan_two ?_
     simp only [nths,nth,List.map_cons,List.map_nil,List.getD_cons_zero,List.getD_cons_succ]
     repeat go_big_quiet_step (fail)
     clear d1
     refine wpQuiet_nil ?_
     constructor
     ·go_wp2_with fail
      refine (Index_any _ _ hv0 hv1).mono ?_;rintro e u6 ⟨rfl,g6⟩
      go_wp2_with fail
      refine nxt_stay g6 (plan_two ?_)
      simp only [nths,nth,List.map_nil,List.getD_cons_zero,List.getD_cons_succ]
      refine wpQuiet_nil ?_
      constructor
      ·go_wp2_with fail
       refine (lookUp_at _ c d ws n s (HD4.out.grown (gtr g5 g6)) hI (v / 2)).mono ?_;rintro e u7 ⟨rfl,g7⟩
       go_wp2_with fail
       refine nxt_stay (gtr g6 g7) (plan_one ?_)
       simp only [nths,nth,List.map_nil,List.getD_cons_zero,List.getD_cons_succ]
       refine wpQuiet_nil ?_
       go_wp2_with fail
       have g8:Grown w5 (u7.alloc (.cells #[.int .i64 0,.int .u64 0,.int .i64 0,.int .i64 0,.int .u64 0,.int .u64 0,.int .i64 0,.int .u64 0] 145)):=gtr (gtr g6 g7) (by go_grown)
       refine nxt_stay g8 (plan_one ?_)
       simp only [nths,nth,List.map_nil,List.getD_cons_zero,List.getD_cons_succ]
       refine wpQuiet_nil ?_
       go_wp2_with (first | (refine store_box rfl 145 _ _ rfl u7.heap.size _ (Box.made u7 [.int .i64 0,.int .u64 0,.int .i64 0,.int .i64 0,.int .u64 0,.int .u64 0,.int .i64 0,.int .u64 0] 145) (nodeL c ws s (v / 2)).toArray rfl rfl rfl (by kernel_rfl) rfl ?_;intro u9 B9 q9) | fail)
       have hle:w5.heap.size ≤ u7.heap.size:=(gtr g6 g7).2.2
       have g9:=But.fresh g8 q9 (fun i hi => by subst hi;exact hle)
       refine nxt_stay g9 (plan_fin ?_)
       simp only [nths,List.map_nil]
       refine wpQuiet_nil ?_
       go_wp2_with fail
       go_meet
       case rel => exact ⟨_,rfl,B9,gtr g5 g9,Nat.le_trans g5.2.2 hle⟩
      ·go_wp2_with fail
       have g7:Grown w5 (u6.alloc (.cells #[.int .i64 0,.int .u64 0,.int .i64 0,.int .i64 0,.int .u64 0,.int .u64 0,.int .i64 0,.int .u64 0] 145)):=gtr g6 (by go_grown)
       refine nxt_stay g7 (plan_one ?_)
       simp only [nths,nth,List.map_nil,List.getD_cons_zero,List.getD_cons_succ]
       refine wpQuiet_nil ?_
       go_wp2_with fail
       refine (lookUp_at _ c d ws n s (HD4.out.grown (gtr g5 g7)) hI (v / 2)).mono ?_;rintro e u8 ⟨rfl,g8⟩
       go_wp2_with fail
       refine nxt_stay (gtr g7 g8) (plan_one ?_)
       simp only [nths,nth,List.map_nil,List.getD_cons_zero,List.getD_cons_succ]
       refine wpQuiet_nil ?_
       go_wp2_with (first | (refine store_box rfl 145 _ _ rfl u6.heap.size _ ((Box.made u6 [.int .i64 0,.int .u64 0,.int .i64 0,.int .i64 0,.int .u64 0,.int .u64 0,.int .i64 0,.int .u64 0] 145).grown g8) (nodeL c ws s (v / 2)).toArray rfl rfl rfl (by kernel_rfl) rfl ?_;intro u9 B9 q9) | fail)
       have hle:w5.heap.size ≤ u6.heap.size:=g6.2.2
       have g9:=But.fresh (gtr g7 g8) q9 (fun i hi => by subst hi;exact hle)
       refine nxt_stay g9 (plan_fin ?_)
       simp only [nths,List.map_nil]
       refine wpQuiet_nil ?_
       go_wp2_with fail
       go_meet
       case rel => exact ⟨_,rfl,B9,gtr g5 g9,Nat.le_trans g5.2.2 hle⟩
     ·go_wp2_with fail
      have g6:Grown w5 (w5.alloc (.cells #[.int .i64 0,.int .u64 0,.int .i64 0,.int .i64 0,.int .u64 0,.int .u64 0,.int .i64 0,.int .u64 0] 145)):=by go_grown
      refine nxt_stay g6 (plan_one ?_)
      simp only [nths,nth,List.map_nil,List.getD_cons_zero,List.getD_cons_succ]
      refine wpQuiet_nil ?_
      go_wp2_with fail
      refine (Index_any _ _ hv0 hv1).mono ?_;rintro e u7 ⟨rfl,g7⟩
      go_wp2_with fail
      refine nxt_stay (gtr g6 g7) (plan_one ?_)
      simp only [nths,nth,List.map_nil,List.getD_cons_zero,List.getD_cons_succ]
      refine wpQuiet_nil ?_
      go_wp2_with fail
      refine (lookUp_at _ c d ws n s (HD4.out.grown (gtr g5 (gtr g6 g7))) hI (v / 2)).mono ?_;rintro e u8 ⟨rfl,g8⟩
      go_wp2_with fail
      refine nxt_stay (gtr g6 (gtr g7 g8)) (plan_one ?_)
      simp only [nths,nth,List.map_nil,List.getD_cons_zero,List.getD_cons_succ]
      refine wpQuiet_nil ?_
      go_wp2_with (first | (refine store_box rfl 145 _ _ rfl w5.heap.size _ ((Box.made w5 [.int .i64 0,.int .u64 0,.int .i64 0,.int .i64 0,.int .u64 0,.int .u64 0,.int .i64 0,.int .u64 0] 145).grown (gtr g7 g8)) (nodeL c ws s (v / 2)).toArray rfl rfl rfl (by kernel_rfl) rfl ?_;intro u9 B9 q9) | fail)
      have hle:w5.heap.size ≤ w5.heap.size:=Nat.le_refl _
      have g9:=But.fresh (gtr g6 (gtr g7 g8)) q9 (fun i hi => by subst hi;exact hle)
      refine nxt_stay g9 (plan_fin ?_)
      simp only [nths,List.map_nil]
      refine wpQuiet_nil ?_
      go_wp2_with fail
      go_meet
      case rel => exact ⟨_,rfl,B9,gtr g5 g9,Nat.le_trans g5.2.2 hle⟩
    case rest =>
     obtain ⟨bb,rfl,hB,gc,hbb⟩:=hcut
     have e0:=hB.cell 0 _ rfl
     have e1:=hB.cell 1 _ rfl
     have e2:=hB.cell 2 _ rfl
     have e3:=hB.cell 3 _ rfl
     have e4:=hB.cell 4 _ rfl
     have e5:=hB.cell 5 _ rfl
     have e6:=hB.cell 6 _ rfl
     have e7:=hB.cell 7 _ rfl
     have hx:chainI c ws b = pre ++ (v / 2) :: chainN c ws f (refOf c ws (v / 2)):=by rw [HC.out,HHch.out,HC1.out]
     obtain ⟨fn,tmps,assign,body,hy,hR⟩:=hY pre (v / 2) _ w4 wc hx J4 gc
     have HX:=Lib.hid hx
     have HR:=Lib.hid hR
     have HB:=Lib.hid hB
     have HJ4:=Lib.hid J4
     clear hx hR hB J4
     dsimp only [nodeL] at hy
     gi_wp2_with fail
     refine HR.out.mono ?_
     have hnU:¬ (U bb ∧ bb < w4.heap.size):=fun hu => by omega
     have hwl:bb < wc.heap.size:=HB.out.lt
     clear e0 e2 e3 e4 e5 e6 e7 hy
     rintro e W3 (⟨rfl,hJ3,hk3⟩ | ⟨rfl,hJx3⟩)
     ·replace e1:=hk3.cell hnU e1
      have K3':=HK4.out.grown gc
      have KN:ItK w0 W3 b1 b2 d.x b:=⟨hk3.fresh K3'.g (fun i hi => hU0 i hi.1),hk3.cell (fun hu => hU1 hu.1) K3'.c1,hk3.cell (fun hu => hU2 hu.1) K3'.c2⟩
      have hszN:W.heap.size ≤ W3.heap.size:=Nat.le_trans hsz4 (Nat.le_trans gc.2.2 hk3.size)
      gi_wp2_with fail
      go_roundw
      case rel => exact ⟨pre ++ [v / 2],k + 1,refOf c ws (v / 2),by simp,rfl,by omega,by rw [show c.nodes - (k + 1) = f by omega,HHch.out,HC1.out];simp,(hws _).1,(hws _).2,KN,hJ3,hszN⟩
      case measure => simp [intOf];omega
     ·gi_wp2_with fail
      refine bodyPost_ret (results_none rfl _ _ _) rfl ?_
      exact ⟨⟨_,rfl⟩,.inr ⟨pre ++ [v / 2],⟨chainN c ws f (refOf c ws (v / 2)),by rw [HX.out];simp⟩,hJx3⟩⟩
  ·gi_wp2_with fail
   go_end0
   have hkk:c.nodes - k = 0:=by omega
   have hx:chainI c ws b = pre:=by rw [HC.out,HHch.out,hkk];simp [chainN]
   exact ⟨⟨_,rfl⟩,.inl (hx.symm ▸ JR)⟩
end Go.Proofs.YtcogckjpmmjmbaaGreat
