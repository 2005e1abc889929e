/- 'for x := range f' over an iterator whose elements are known ahead: what the iterator owes, and the law of the statement; and a statement whose order Go leaves open, inside such a loop's body. -/
import Derived.RangeFuncNested
import Derived.RangeFuncBound
import Derived.RangeFuncCalls
import Derived.RangeFuncLeaves
import Derived.Shelf.Abstract
import Derived.WalkKit
import Derived.OwnWalkIn
import Derived.TacticsInMore
import Derived.LoopNIn
import Derived.LoopIn
import Derived.OrdersIn
import Derived.Test.YtagapfejgmmppaaGreatPlan
namespace Go.Proofs.YtagapfejgmmppaaGreat
open Go.ChangeShapes Go.WideShapes Go.ChangeAt Go.RowKit
set_option maxRecDepth 100000

/-- W' is W, but for blocks in U, whatever they are. -/
structure Kept (U : Nat → Prop) (W W' : World) : Prop where
  os : W'.os = W.os
  out : W'.output = W.output
  same : ∀ i, i < W.heap.size → ¬ U i → W'.heap[i]? = W.heap[i]?
  free : ∀ a, W'.frozen? a = W.frozen? a
  size : W.heap.size ≤ W'.heap.size

theorem Kept.refl (U : Nat → Prop) (W : World) : Kept U W W := ⟨rfl, rfl, fun _ _ _ => rfl, fun _ => rfl, Nat.le_refl _⟩
theorem Kept.trans {U : Nat → Prop} {A B C : World} (h : Kept U A B) (k : Kept U B C) : Kept U A C :=
  ⟨k.os.trans h.os, k.out.trans h.out, fun i hi hu => (k.same i (Nat.lt_of_lt_of_le hi h.size) hu).trans (h.same i hi hu), fun a => (k.free a).trans (h.free a), Nat.le_trans h.size k.size⟩
theorem Kept.mono {U V : Nat → Prop} {A B : World} (h : Kept U A B) (hs : ∀ i, U i → V i) : Kept V A B := ⟨h.os, h.out, fun i hi hv => h.same i hi (fun hu => hv (hs i hu)), h.free, h.size⟩
theorem But.kept {U : Nat → Prop} {A B : World} (h : But U A B) : Kept U A B :=
  ⟨h.1.1, h.1.2.1, fun i hi hu => h.1.block hi (fun m hm hp => by subst hp; exact hu hm), h.2.1, h.2.2⟩
theorem Kept.of_grown {U : Nat → Prop} {A B : World} (h : Grown A B) : Kept U A B := (But.of_grown (S := fun _ => False) h).kept.mono (fun _ f => f.elim)
theorem Kept.cell {U : Nat → Prop} {A B : World} (h : Kept U A B) {i o : Nat} {v : Value} (hu : ¬ U i) (k : A.cell? ⟨i, o, none⟩ = some v) : B.cell? ⟨i, o, none⟩ = some v := by
  have e := h.same i (World.block_lt_of_cell? A _ k) hu
  unfold World.cell? at k ⊢
  simp only at k ⊢
  rw [e]; exact k
theorem Kept.fresh {U : Nat → Prop} {W A B : World} (g : Grown W A) (h : Kept U A B) (hs : ∀ i, U i → W.heap.size ≤ i) : Grown W B := by
  have e : ∀ i, i < W.heap.size → B.heap[i]? = A.heap[i]? := fun i hi => h.same i (Nat.lt_of_lt_of_le hi g.2.2) (fun hu => by have := hs i hu; omega)
  refine ⟨⟨h.os.trans g.1.1, h.out.trans g.1.2.1, fun i hi => ?_⟩, fun x => (h.free x).trans (g.2.1 x), Nat.le_trans g.2.2 h.size⟩
  rw [e i hi]
  exact g.1.2.2 i hi
/-- The objects of a loop's own book-keeping. -/
def Bare : Obj → Bool
  | .loop .. => true
  | .deferred .. => true
  | _ => false
theorem kept_put {W : World} {l : Nat} {o o' : Obj} (h : W.heap[l]? = some o) (ho : Bare o = true) (ho' : Bare o' = true) : Kept (· = l) W (W.putObj l o') := by
  refine ⟨rfl, rfl, fun i _ hi => World.putObj_heap_other hi, fun a => ?_, by simp⟩
  unfold World.frozen?
  by_cases e : a.block = l
  · rw [e, World.putObj_heap_same (Array.getElem?_eq_some_iff.1 h).1, h]
    cases o <;> cases o' <;> simp_all [Bare]
  · rw [World.putObj_heap_other e]
theorem grown_bare (W : World) (o : Obj) (ho : Bare o = true) : Grown W (W.alloc o) := by
  refine ⟨World.keptBut_alloc _ _ _, fun a => ?_, by simp⟩
  unfold World.frozen?
  by_cases h : a.block < W.heap.size
  · rw [Below.heap_alloc _ _ _ h]
  · by_cases e : a.block = W.heap.size
    · rw [e, World.alloc_heap_new]
      have : W.heap[W.heap.size]? = none := Array.getElem?_eq_none (Nat.le_refl _)
      rw [this]
      cases o <;> simp_all [Bare]
    · have hz : (W.alloc o).heap.size = W.heap.size + 1 := World.size_alloc _ _
      have h1 : (W.alloc o).heap[a.block]? = none := Array.getElem?_eq_none (by omega)
      have h2 : W.heap[a.block]? = none := Array.getElem?_eq_none (by omega)
      rw [h1, h2]
theorem grown_block {A B : World} (h : Grown A B) {i : Nat} {o : Obj} (k : A.heap[i]? = some o) : B.heap[i]? = some o :=
  ((Kept.of_grown (U := fun _ => False) h).same i (Array.getElem?_eq_some_iff.1 k).1 (fun f => f)).trans k

section
variable {P : Program} {α : Type}

/-- WHAT THE ITERATOR OWES: it hands over the elements xs, one behind the other, as long as it is asked to go on; of the blocks in U that lay when it was asked to go on it asks nothing. -/
def Iter (P : Program) (gf : Nat) (lb : Array Value) (encs : α → Array Value) (xs : List α) (U : Nat → Prop) (w : World) : Prop :=
  ∀ (l : Nat) (J Jx : List α → World → Prop) (W : World), Grown w W → (∀ pre A B, J pre A → Grown A B → J pre B) → (∀ pre A B, Jx pre A → Grown A B → Jx pre B) →
    (∀ pre x post A W1, xs = pre ++ x :: post → J pre A → Grown A W1 → YieldAt Fence.wide 7 P l (encs x) W1 fun e W' =>
      (e = .returned (.bool true) ∧ J (pre ++ [x]) W' ∧ Kept (fun i => U i ∧ i < A.heap.size) W1 W') ∨ (e = .returned (.bool false) ∧ Jx (pre ++ [x]) W')) →
    J [] W →
    CallsIn Fence.wide 8 P gf (#[.func (.yield l) #[] #[]] ++ lb) W fun e W' => (∃ v, e = .returned v) ∧ (J xs W' ∨ ∃ pre, pre <+: xs ∧ Jx pre W')

/-- How a round's body may be left. -/
def roundP (B : Nat → Prop) (I : List α → World → Prop) (Ix : Code → List α → World → Prop) (xs : List α) (W : World) : Exit → Act → World → Prop
  | .normal, _, W' => Kept B W W' ∧ I xs W'
  | .ret, _, W' => Kept B W W' ∧ Ix .ret xs W'
  | .exit id, _, W' => Kept B W W' ∧ Ix (.exit id) xs W'
  | .goto t, _, W' => Kept B W W' ∧ Ix (.goto t) xs W'
  | .panic _, _, _ => False
  | .outgrown, _, _ => False

theorem range_law {g : Operand} {ps : Array Tmp} {assign body : Code} {Q : Exit → Act → World → Prop} {a : Act} {w : World} {gf : Nat} {lb : Array Value}
    (hg : a.eval g = .func (.func gf) #[] lb) (eg : ∀ args w, (callFunc gf args).run P w = .ok (.enter gf args) w)
    {encs : α → Array Value} {xs : List α} {U : Nat → Prop} (hseq : Iter P gf lb encs xs U w) (hUr : U (w.heap.size + 1)) (hps : ∀ x, (encs x).size = ps.size)
    (I : List α → World → Prop) (Ix : Code → List α → World → Prop) (hI : ∀ pre A C, I pre A → Kept (fun i => i = w.heap.size + 1) A C → I pre C) (hIx : ∀ c pre A C, Ix c pre A → Kept (fun i => i = w.heap.size + 1) A C → Ix c pre C)
    (h0 : I [] w)
    (hround : ∀ pre x post A W, xs = pre ++ x :: post → I pre A → Grown A W → w.heap.size + 1 < A.heap.size →
      assign.wpIn (Fence.wide.inRound (w.heap.size + 1)) 7 P (Exit.then (fun a₁ W₁ => Grown W W₁ ∧ ∀ W₂, Kept (fun i => i = w.heap.size + 1) W₁ W₂ → body.wpIn (Fence.wide.inRound (w.heap.size + 1)) 7 P (roundP (fun i => U i ∧ i < A.heap.size ∧ i ≠ w.heap.size ∧ i ≠ w.heap.size + 1) I Ix (pre ++ [x]) W₂) a₁ W₂) (fun _ _ _ => False))
        { tmps := (ps.zip (encs x)).foldl (fun t (p, v) => t.setIfInBounds p v) a.tmps, defers := [] } W)
    (hdone : ∀ W, I xs W → W.heap[w.heap.size]? = some (.deferred (some [])) → w.heap.size + 1 < W.heap.size → Q .normal { a with defers := { target := .collected w.heap.size, args := #[] } :: a.defers } W)
    (hstop : ∀ c pre W, pre <+: xs → Ix c pre W → W.heap[w.heap.size]? = some (.deferred (some [])) → w.heap.size + 1 < W.heap.size → c.wpIn Fence.wide 9 P Q { a with defers := { target := .collected w.heap.size, args := #[] } :: a.defers } W) :
    (Code.rangeFunc g ps assign body).wpIn Fence.wide 9 P Q a w := by
  refine wpIn_rangeFunc ?_
  intro fn hfn
  obtain ⟨rec, hrec⟩ : ∃ rec : LoopState → Option Code → Loop, rec = fun st pe => { state := st, pending := pe, fn, tmps := a.tmps, params := ps, assign, body, defers := w.heap.size } := ⟨_, rfl⟩
  obtain ⟨W1, hW1⟩ : ∃ W1, (w.alloc (.deferred (some []))).alloc (.loop (rec .ready none)) = W1 := ⟨_, rfl⟩
  have hL1 : W1.heap[w.heap.size + 1]? = some (.loop (rec .ready none)) := by
    rw [← hW1]; have := World.alloc_heap_new (w.alloc (.deferred (some []))) (.loop (rec .ready none)); rwa [World.size_alloc] at this
  have hK1 : W1.heap[w.heap.size]? = some (.deferred (some [])) := by
    rw [← hW1]; exact (Below.heap_alloc _ _ _ (by simp)).trans (World.alloc_heap_new w _)
  have hg1 : Grown w W1 := by
    rw [← hW1]; exact gtr (grown_bare w _ rfl) (grown_bare _ _ rfl)
  have hI1 : I [] W1 := hI _ _ _ h0 (.of_grown hg1)
  refine ⟨w.heap.size + 1, [{ target := .collected w.heap.size, args := #[] }], W1, { target := .fn (.func gf) lb, args := #[.func (.yield (w.heap.size + 1)) #[] #[]] }, W1, gf,
    #[.func (.yield (w.heap.size + 1)) #[] #[]] ++ lb, W1, ?_, ?_, ?_, ?_, fun h => by simp [Fence.wide] at h, ?_⟩
  · rw [← hW1, hrec]; exact run_enterLoop_outer _ _ _ _ _
  · simp only [resolve, hg]
    simp [go_sem]
  · intro f' _; trivial
  · simp [invoke, go_sem, eg]
  refine (hseq (w.heap.size + 1)
    (fun pre W => I pre W ∧ W.heap[w.heap.size + 1]? = some (.loop (rec .ready none)) ∧ W.heap[w.heap.size]? = some (.deferred (some [])))
    (fun pre W => ∃ c, Ix c pre W ∧ W.heap[w.heap.size + 1]? = some (.loop (rec .done (some c))) ∧ W.heap[w.heap.size]? = some (.deferred (some [])))
    W1 hg1
    (fun pre A C hs hg' => ⟨hI _ _ _ hs.1 (.of_grown hg'), grown_block hg' hs.2.1, grown_block hg' hs.2.2⟩)
    (fun pre A C hs hg' => by
      obtain ⟨c, hc, hl, hk⟩ := hs
      exact ⟨c, hIx _ _ _ _ hc (.of_grown hg'), grown_block hg' hl, grown_block hg' hk⟩)
    ?_ ⟨hI1, hL1, hK1⟩).mono ?_
  · -- one round
    rintro pre x post A W hx ⟨hiA, hlA, hkA⟩ gA
    have hltA : w.heap.size + 1 < A.heap.size := (Array.getElem?_eq_some_iff.1 hlA).1
    have hl := grown_block gA hlA
    have hk := grown_block gA hkA
    have hy := run_yield (P := P) (args := encs x) hl (by rw [hrec]; exact hps x)
    rw [hrec] at hy
    refine ⟨fn, _, assign, body, hy, roundIn_of_wpIn hfn (wpIn_mono (hround pre x post A W hx hiA gA hltA) ?_)⟩
    rintro e a₁ Wa hp
    cases e with
    | normal =>
      obtain ⟨ga, hb⟩ := hp
      have hla := grown_block ga hl
      have hka := grown_block ga hk
      have hlta : w.heap.size + 1 < Wa.heap.size := (Array.getElem?_eq_some_iff.1 hla).1
      have hkp : Kept (fun i => i = w.heap.size + 1) Wa (Wa.putObj (w.heap.size + 1) (.loop { rec .ready none with state := .busy })) := kept_put hla rfl rfl
      refine ⟨_, run_beginRound hla (by rw [hrec]), ?_⟩
      have hl2 : (Wa.putObj (w.heap.size + 1) (.loop { rec .ready none with state := .busy })).heap[w.heap.size + 1]? = some (.loop { rec .ready none with state := .busy }) := World.putObj_heap_same hlta
      have hk2 : (Wa.putObj (w.heap.size + 1) (.loop { rec .ready none with state := .busy })).heap[w.heap.size]? = some (.deferred (some [])) := (World.putObj_heap_other (by omega)).trans hka
      refine wpIn_mono (hb _ hkp) ?_
      have fin : ∀ (jump : Option Code) (W3 : World), Kept (fun i => U i ∧ i < A.heap.size ∧ i ≠ w.heap.size ∧ i ≠ w.heap.size + 1) (Wa.putObj (w.heap.size + 1) (.loop { rec .ready none with state := .busy })) W3 →
          (Instr.endRound (w.heap.size + 1) jump).run P W3 = .ok (.bool jump.isNone) (W3.putObj (w.heap.size + 1) (.loop (rec (if jump.isNone then .ready else .done) jump))) ∧
          Kept (fun i => i = w.heap.size + 1) W3 (W3.putObj (w.heap.size + 1) (.loop (rec (if jump.isNone then .ready else .done) jump))) ∧
          (W3.putObj (w.heap.size + 1) (.loop (rec (if jump.isNone then .ready else .done) jump))).heap[w.heap.size + 1]? = some (.loop (rec (if jump.isNone then .ready else .done) jump)) ∧
          (W3.putObj (w.heap.size + 1) (.loop (rec (if jump.isNone then .ready else .done) jump))).heap[w.heap.size]? = some (.deferred (some [])) := fun jump W3 hk3 => by
        have hl3 := (hk3.same (w.heap.size + 1) (by simpa using hlta) (fun h => by omega)).trans hl2
        have hd3 := (hk3.same w.heap.size (by simp; omega) (fun h => by omega)).trans hk2
        have hlt3 := (Array.getElem?_eq_some_iff.1 hl3).1
        have := run_endRound (P := P) jump hl3
        rw [hrec] at this ⊢
        exact ⟨this, kept_put hl3 rfl rfl, World.putObj_heap_same hlt3, (World.putObj_heap_other (by omega)).trans hd3⟩
      have all : ∀ (W3 W4 : World), Kept (fun i => U i ∧ i < A.heap.size ∧ i ≠ w.heap.size ∧ i ≠ w.heap.size + 1) (Wa.putObj (w.heap.size + 1) (.loop { rec .ready none with state := .busy })) W3 → Kept (fun i => i = w.heap.size + 1) W3 W4 → Kept (fun i => U i ∧ i < A.heap.size) W W4 :=
        fun W3 W4 h3 h4 => ((Kept.of_grown ga).trans (hkp.mono (fun _ h => by subst h; exact ⟨hUr, hltA⟩))).trans ((h3.mono (fun _ h => ⟨h.1, h.2.1⟩)).trans (h4.mono (fun _ h => by subst h; exact ⟨hUr, hltA⟩)))
      rintro e a3 W3 hp
      cases e with
      | normal =>
        obtain ⟨hk3, hi3⟩ := hp
        obtain ⟨hr, hk4, hl4, hd4⟩ := fin none W3 hk3
        exact ⟨_, _, hr, .inl ⟨rfl, ⟨hI _ _ _ hi3 hk4, hl4, hd4⟩, all W3 _ hk3 hk4⟩⟩
      | ret =>
        obtain ⟨hk3, hi3⟩ := hp
        obtain ⟨hr, hk4, hl4, hd4⟩ := fin (some .ret) W3 hk3
        exact ⟨_, _, hr, .inr ⟨rfl, .ret, hIx _ _ _ _ hi3 hk4, hl4, hd4⟩⟩
      | exit id =>
        obtain ⟨hk3, hi3⟩ := hp
        obtain ⟨hr, hk4, hl4, hd4⟩ := fin (some (.exit id)) W3 hk3
        exact ⟨_, _, hr, .inr ⟨rfl, .exit id, hIx _ _ _ _ hi3 hk4, hl4, hd4⟩⟩
      | goto t =>
        obtain ⟨hk3, hi3⟩ := hp
        obtain ⟨hr, hk4, hl4, hd4⟩ := fin (some (.goto t)) W3 hk3
        exact ⟨_, _, hr, .inr ⟨rfl, .goto t, hIx _ _ _ _ hi3 hk4, hl4, hd4⟩⟩
      | panic ch => exact hp.elim
      | outgrown => exact hp.elim
    | exit id => exact hp.elim
    | goto t => exact hp.elim
    | ret => exact hp.elim
    | panic ch => exact hp.elim
    | outgrown => exact hp.elim
  · -- behind the iterator
    rintro e W2 ⟨⟨v, rfl⟩, (⟨hi, hl, hk⟩ | ⟨pre, hpre, c, hi, hl, hk⟩)⟩
    · have hkp : Kept (fun i => i = w.heap.size + 1) W2 (W2.putObj (w.heap.size + 1) (.loop { rec .ready none with state := .exhausted })) := kept_put hl rfl rfl
      exact ⟨none, _, by have := run_endLoop (P := P) hl (by rw [hrec]; simp); rw [hrec] at this ⊢; exact this, hdone _ (hI _ _ _ hi hkp) ((World.putObj_heap_other (by omega)).trans hk) (by have := (Array.getElem?_eq_some_iff.1 hl).1; simpa using this)⟩
    · have hkp : Kept (fun i => i = w.heap.size + 1) W2 (W2.putObj (w.heap.size + 1) (.loop { rec .done (some c) with state := .exhausted })) := kept_put hl rfl rfl
      exact ⟨some c, _, by have := run_endLoop (P := P) hl (by rw [hrec]; simp); rw [hrec] at this ⊢; exact this, hstop _ pre _ hpre (hIx _ _ _ _ hi hkp) ((World.putObj_heap_other (by omega)).trans hk) (by have := (Array.getElem?_eq_some_iff.1 hl).1; simpa using this)⟩

/-! A statement whose order Go leaves open, in a round. -/
def noDefer (ops : Array Oper) : Bool := ops.all fun o => match o.op with | .defer .. => false | _ => true
theorem noDefer_at {ops : Array Oper} (h : noDefer ops = true) {i : Nat} {o : Oper} (ho : ops[i]? = some o) (c : Call) : o.op ≠ .defer c := by
  intro e
  obtain ⟨hi, rfl⟩ := Array.getElem?_eq_some_iff.1 ho
  have := Array.all_eq_true.1 h i hi
  rw [e] at this
  simp at this

theorem opIn_of_op {l₀ n : Nat} {ops : Array Oper} {Qn : Act → World → Prop} (hnd : noDefer ops = true) {i : Nat} {K : Act → World → Prop} {a : Act} {w : World} (h : wpOp P ops (Well Qn) i K a w) :
    wpOpIn (Fence.wide.inRound l₀) n P ops (Well Qn) i K a w := by
  unfold wpOp at h
  unfold wpOpIn
  split
  · rename_i ho; simp only [ho] at h; exact h
  · rename_i o ho
    simp only [ho] at h
    split
    · rename_i hw
      rw [if_pos hw] at h
      rcases h with h | ⟨_, _, _, hx⟩
      · refine ⟨fun _ _ => trivial, ?_⟩
        have hs : o.semAt (Fence.wide.inRound l₀).round a.eval = execOp a.eval o := Oper.semAt_eq _ _ _ (noDefer_at hnd ho)
        rw [hs]
        unfold Oper.wp at h
        generalize (execOp a.eval o).run P w = r at h
        cases r with
        | ok x w' =>
          cases x <;> simp only [Oper.upon] at h <;> simp only [Oper.uponIn]
          case value u => exact h
          case skip => exact h
          case defer d => exact h
          case enter f args => exact ⟨fun h => by simp [Fence.wide] at h, CallsIn.inRound l₀ (callsIn_wide.2 h)⟩
          case row row args =>
            refine ⟨fun h => by simp [Fence.wide] at h, ?_⟩
            intro fr cs _
            obtain ⟨v, w'', h1, h2⟩ := h fr cs
            exact ⟨v, w'', h1, stepsIn_wide.2 h2⟩
        | halt x w' =>
          cases x <;> simp only [Oper.upon] at h <;> simp only [Oper.uponIn]
          case panic u => exact h
      · exact absurd hx.1 (by simp)
    · rename_i hw
      rw [if_neg hw] at h
      exact ⟨fun _ _ => trivial, h⟩

theorem anyIn_of_any {l₀ n : Nat} {ops : Array Oper} {Qn : Act → World → Prop} (hnd : noDefer ops = true) : ∀ (fuel : Nat) (L : Array Bool) (a : Act) (w : World), wpAny P .any ops (Well Qn) fuel L a w → wpAnyIn (Fence.wide.inRound l₀) n P .any ops (Well Qn) fuel L a w
  | 0, _, _, _, h => h
  | fuel + 1, _, _, _, h => ⟨h.1, fun i hi => wpOpIn_mono (fun a' w' h' => anyIn_of_any hnd fuel _ a' w' h') (opIn_of_op hnd (h.2 i hi))⟩

theorem wpIn_region_planR {l₀ n : Nat} {id : Nat} {Q : Exit → Act → World → Prop} {a : Act} {w : World} {l : List Oper} (p : Plan) (hm : P.follows .mixedOrders = true)
    (hs : Region.noSelect l.toArray = true) (hnd : noDefer l.toArray = true) (hB : planB l.toArray l.length p (Array.replicate l.length false) = true)
    (h : ∀ w1, Grown w w1 → Pl P l (fun a' w' => Q .normal a' w') p (fun w' => ∃ g : GrW w1, w' = g.w) a w1) : (Code.region id l.toArray true).wpIn (Fence.wide.inRound l₀) n P Q a w := by
  have g1 : Grown w w.drew := by go_grown
  have h1 := plan_go (Q := fun a' w' => Q .normal a' w') hs p l.length _ _ a w.drew hB ⟨⟨w.drew, Grown.refl _⟩, rfl⟩ (h _ g1)
  have h2 := anyIn_of_any (l₀ := l₀) (n := n) hnd _ _ _ _ (wpAny_of_held _ _ _ _ h1)
  exact wpIn_mono (wpIn_region_any hm h2) (fun e a' w' hq => by obtain ⟨rfl, hq⟩ := hq; exact hq)
end
end Go.Proofs.YtagapfejgmmppaaGreat
