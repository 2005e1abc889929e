/- A statement whose order Go leaves open, AMONG WHOSE OPERATIONS ARE CALLS THAT MAKE OR WRITE MEMORY AND TELL VALUES OF IT: the calls wait for one another; all that stands between them yields the same in every world of a class S that the calls keep. So one walk serves all orders: what can be done ahead of a call, then the call, whose class may be a narrower one. -/
import Derived.Test.YtagapfejgmmppaaGreatGrow
import Derived.OrdersHeld
namespace Go.Proofs.YtagapfejgmmppaaGreat
open Go.ChangeShapes Go.WideShapes Go.ChangeAt Go.RowKit
set_option maxRecDepth 100000
/-- An operation that yields a value, or halts: none that enters a function. -/
def floaty (o : Oper) : Bool :=
  match o.op with
  | .move .. | .assign .. | .pick .. | .load .. | .binOp .. | .unOp .. | .convert .. | .fieldAddr .. | .field .. | .indexAddr .. | .index .. | .nilCheck .. | .build .. | .makeFunc .. | .extract .. | .slice .. | .makeInterface .. | .sliceToArrayPointer .. => true
  | _ => false

theorem value_only {P : Program} (x : Sem Value) {w w' : World} {n : Next} (h : ((do pure (.value (← x)) : Sem Next)).run P w = .ok n w') : ∃ u, n = .value u := by
  rw [Sem.run_bind] at h
  cases hx : x.run P w with
  | ok u w1 => rw [hx] at h; cases h; exact ⟨u, rfl⟩
  | halt y w1 => rw [hx] at h; cases h

theorem nilCheck_value {P : Program} {ρ : Operand → Value} {x : Operand} {o : Oper} {w w' : World} {n : Next} (e : o.op = .nilCheck x) (h : (execOp ρ o).run P w = .ok n w') : ∃ u, n = .value u := by
  have hp : ∀ {n : Next} {w w' : World}, (runtimePanic .nilDeref : Sem Next).run P w ≠ .ok n w' := fun h => by cases h
  unfold execOp at h
  simp only [e] at h
  split at h
  · exact absurd h hp
  · exact absurd h hp
  · exact absurd h hp
  · split at h
    · exact absurd h hp
    · rw [Sem.run_bind] at h
      generalize Sem.run P program w = r at h
      cases r with
      | halt y w1 => cases h
      | ok p w1 =>
        simp only [Result.andThen] at h
        rw [Sem.run_bind] at h
        generalize Sem.run P (nilAhead _ _ _ _) w1 = r at h
        cases r with
        | halt y w2 => cases h
        | ok b w2 =>
          simp only [Result.andThen] at h
          split at h
          · rw [Sem.run_bind] at h
            cases h
          · cases h; exact ⟨_, rfl⟩
    · cases h; exact ⟨_, rfl⟩
  · cases h; exact ⟨_, rfl⟩

theorem floaty_value {P : Program} {o : Oper} {ρ : Operand → Value} {w w' : World} {n : Next} (hf : floaty o = true) (h : (execOp ρ o).run P w = .ok n w') : ∃ u, n = .value u := by
  by_cases hn : ∃ x, o.op = .nilCheck x
  · obtain ⟨x, e⟩ := hn
    exact nilCheck_value e h
  unfold floaty at hf
  unfold execOp at h
  split at hf
  all_goals first
    | contradiction
    | (exact absurd ⟨_, by assumption⟩ hn)
    | (rename_i e; simp only [e] at h; first | exact value_only _ h | (cases h; exact ⟨_, rfl⟩) | skip)
  all_goals (
    rw [Sem.run_bind] at h
    generalize Sem.run P (asBool _) w = r at h
    cases r with
    | ok u w1 => cases h; exact ⟨_, rfl⟩
    | halt y w1 => cases h)

section
variable {P : Program} {ops : Array Oper} {S : World → Prop} {Q : Act → World → Prop}
theorem yields_of_quiet {o : Oper} {a : Act} {K : Act → Prop} (hf : floaty o = true) (hw : Region.wanted o (yielded ops a.tmps) = true) (h : o.quiet P a S K) :
    ∃ v, YieldsIf P ops S o v a ∧ K (a.put o.dst v) := by
  obtain ⟨v, h1, h2⟩ := h
  refine ⟨v, .inl ⟨hw, fun w hS => ?_⟩, h2⟩
  have h3 := h1 w hS
  unfold Oper.quietAt at h3
  cases hr : (execOp a.eval o).run P w with
  | ok n w' =>
    obtain ⟨u, rfl⟩ := floaty_value hf hr
    rw [hr] at h3
    obtain ⟨rfl, rfl⟩ := h3
    rfl
  | halt x w' => rw [hr] at h3; exact h3.elim

/-- Behind a call: a class within the elder one that the world at hand is of, and what follows. -/
def Nxt (S : World → Prop) (K : (World → Prop) → Act → World → Prop) : Exit → Act → World → Prop :=
  fun e a w => e = .normal ∧ ∃ S' : World → Prop, (∀ w, S' w → S w) ∧ S' w ∧ K S' a w

/-- THE WALK: what can be done ahead of the first call, that call, and so on; at last what is left. -/
def Mix (P : Program) (ops : Array Oper) (Q : Act → World → Prop) : List (List Oper × Oper) → List Oper → (World → Prop) → Act → World → Prop
  | [], tl, S, a, w => wpQuiet P ops S (fun a' => Q a' w) tl a
  | (fs, c) :: more, tl, S, a, w => wpQuiet P ops S (fun a' => wpList P ops (Nxt S (Mix P ops Q more tl)) [c] a' w) fs a

/-- The operations by their numbers. -/
def nth (l : List Oper) (i : Nat) : Oper := l.getD i ⟨none, .assign (.const undef), 0, "", #[], none⟩
def nths (l : List Oper) (is : List Nat) : List Oper := is.map (nth l)
def segs (l : List Oper) (s : List (List Nat × Nat)) : List (List Oper × Oper) := s.map fun (is, c) => (nths l is, nth l c)

def setAll : List Nat → Array Bool → Array Bool
  | [], L => L
  | i :: is, L => setAll is (L.setIfInBounds i true)
def floatsB (ops : Array Oper) : List Nat → Array Bool → Bool
  | [], _ => true
  | i :: is, L => (Region.ready .any ops L).contains i && Region.free .any ops L i && (match ops[i]? with | some o => floaty o | none => false) && floatsB ops is (L.setIfInBounds i true)
def mixB (ops : Array Oper) : Nat → List (List Nat × Nat) → List Nat → Array Bool → Bool
  | n, [], tl, L => decide (tl.length ≤ n) && floatsB ops tl L && (Region.ready .any ops (setAll tl L)).isEmpty
  | n, (is, c) :: more, tl, L => decide (is.length + 1 ≤ n) && floatsB ops is L && decide (Region.ready .any ops (setAll is L) = [c]) && decide (c < ops.size) && mixB ops (n - is.length - 1) more tl ((setAll is L).setIfInBounds c true)

theorem nth_at {l : List Oper} {i : Nat} {o : Oper} (h : l.toArray[i]? = some o) : nth l i = o := by
  simp only [List.getElem?_toArray] at h
  simp [nth, List.getD, h]

theorem wpAnyH_narrow {md : Region.Mode} {Q : Exit → Act → World → Prop} {S S' : World → Prop} (hS : ∀ w, S' w → S w) : ∀ (fuel : Nat) (L : Array Bool) (a : Act) (w : World), wpAnyH P md ops Q S' fuel L a w → wpAnyH P md ops Q S fuel L a w
  | 0, _, _, _, h => h
  | fuel + 1, _, _, _, h => ⟨h.1, fun i hi => wpOp_mono (fun a' w' h' => ⟨hS _ h'.1, wpAnyH_narrow hS fuel _ a' w' h'.2⟩) (h.2 i hi)⟩

/-- What is asked at the end: that all went well, and Q. -/
def Well (Q : Act → World → Prop) : Exit → Act → World → Prop := fun e a w => e = .normal ∧ Q a w

theorem floats_go {l : List Oper} (hs : Region.noSelect l.toArray = true) {R : Act → Prop} : ∀ (is : List Nat) (L : Array Bool) (a : Act) (w : World) (n : Nat), is.length ≤ n → floatsB l.toArray is L = true → S w →
    wpQuiet P l.toArray S R (nths l is) a → (∀ a', R a' → wpAnyH P .any l.toArray (Well Q) S (n - is.length) (setAll is L) a' w) → wpAnyH P .any l.toArray (Well Q) S n L a w
  | [], L, a, w, n, _, _, _, h, hk => hk a h
  | i :: is, L, a, w, n, hn, hB, hS, h, hk => by
    obtain ⟨m, rfl⟩ : ∃ m, n = m + 1 := ⟨n - 1, by simp only [List.length_cons] at hn; omega⟩
    simp only [floatsB, Bool.and_eq_true] at hB
    obtain ⟨⟨⟨hr, hf⟩, ho⟩, hB'⟩ := hB
    cases hi : l.toArray[i]? with
    | none => rw [hi] at ho; cases ho
    | some o =>
      rw [hi] at ho
      have hx : nths l (i :: is) = o :: nths l is := by simp only [nths, List.map_cons, nth_at hi]
      rw [hx] at h
      simp only [wpQuiet] at h
      have key : ∃ v, YieldsIf P l.toArray S o v a ∧ wpQuiet P l.toArray S R (nths l is) (a.put o.dst v) := by
        by_cases hw : Region.wanted o (yielded l.toArray a.tmps) = true
        · rw [if_pos hw] at h
          exact yields_of_quiet ho hw h
        · rw [if_neg hw] at h
          exact ⟨undef, .inr ⟨by simpa using hw, rfl⟩, h⟩
      obtain ⟨v, hy, hq⟩ := key
      refine wpAnyH_take hi hs hf hr (fun c a w hc => (by cases hc.1)) hy hS (floats_go hs is _ _ w m (by simp only [List.length_cons] at hn; omega) hB' hS hq fun a' ha' => ?_)
      have := hk a' ha'
      simp only [List.length_cons, setAll] at this
      rwa [show m + 1 - (is.length + 1) = m - is.length by omega] at this

theorem mix_go {l : List Oper} (hs : Region.noSelect l.toArray = true) : ∀ (s : List (List Nat × Nat)) (tl : List Nat) (n : Nat) (S : World → Prop) (L : Array Bool) (a : Act) (w : World), mixB l.toArray n s tl L = true → S w →
    Mix P l.toArray Q (segs l s) (nths l tl) S a w → wpAnyH P .any l.toArray (Well Q) S n L a w
  | [], tl, n, S, L, a, w, hB, hS, h => by
    simp only [mixB, Bool.and_eq_true, decide_eq_true_eq, List.isEmpty_iff] at hB
    obtain ⟨⟨hn, hB⟩, hr⟩ := hB
    exact floats_go (R := fun a' => Q a' w) hs tl L a w n hn hB hS h fun a' ha' => wpAnyH_done hr ⟨rfl, ha'⟩ _
  | (is, c) :: more, tl, n, S, L, a, w, hB, hS, h => by
    simp only [mixB, Bool.and_eq_true, decide_eq_true_eq] at hB
    obtain ⟨⟨⟨⟨hn, hB⟩, hr⟩, hc⟩, hB'⟩ := hB
    simp only [segs, List.map_cons, Mix] at h
    refine floats_go (R := fun a' => wpList P l.toArray (Nxt S (Mix P l.toArray Q (segs l more) (nths l tl))) [nth l c] a' w) hs is L a w n (by omega) hB hS h fun a' ha' => ?_
    obtain ⟨m, hm⟩ : ∃ m, n - is.length = m + 1 := ⟨n - is.length - 1, by omega⟩
    rw [hm]
    rw [show n - is.length - 1 = m by omega] at hB'
    refine wpAnyH_all hr (by simp) fun i hi => ?_
    obtain rfl : i = c := by simpa using hi
    obtain ⟨o, ho⟩ : ∃ o, l.toArray[i]? = some o := ⟨_, Array.getElem?_eq_getElem hc⟩
    rw [nth_at ho] at ha'
    have back : ∀ e a'' w'', Nxt S (Mix P l.toArray Q (segs l more) (nths l tl)) e a'' w'' → e = .normal ∧ (S w'' ∧ wpAnyH P .any l.toArray (Well Q) S m ((setAll is L).setIfInBounds i true) a'' w'') := by
      rintro e a'' w'' ⟨he, S', h1, h2, h3⟩
      exact ⟨he, h1 _ h2, wpAnyH_narrow h1 _ _ _ _ (mix_go hs more tl m S' _ a'' w'' hB' h2 h3)⟩
    unfold wpOp
    simp only [ho]
    simp only [wpList] at ha'
    split
    · rename_i hw
      rw [if_pos hw] at ha'
      rcases ha' with ha' | ⟨_, _, _, hx⟩
      · refine .inl ?_
        unfold Oper.wp at *
        generalize (execOp a'.eval o).run P w = r at ha'
        cases r with
        | ok x w' =>
          cases x <;> simp only [Oper.upon] at ha' ⊢
          case value u => exact (back _ _ _ ha').2
          case skip => exact (back _ _ _ ha').2
          case defer d => exact (back _ _ _ ha').2
          case enter f args =>
            refine Calls.mono ha' fun e w'' he => ?_
            cases e with
            | returned u => exact (back _ _ _ he).2
            | panicked c => exact absurd (back _ _ _ he).1 (by simp)
            | outgrown => obtain ⟨_, _, hx⟩ := he; exact absurd (back _ _ _ hx).1 (by simp)
          case row row args => exact Rows.mono ha' fun u w'' he => (back _ _ _ he).2
        | halt x w' =>
          cases x <;> simp only [Oper.upon] at ha' ⊢
          case panic u => exact absurd (back _ _ _ ha').1 (by simp)
      · exact absurd (back _ _ _ hx).1 (by simp)
    · rename_i hw
      rw [if_neg hw] at ha'
      exact (back _ _ _ ha').2

theorem mix_step {fs : List Oper} {c : Oper} {more : List (List Oper × Oper)} {tl : List Oper} {a : Act} {w : World} (h : wpQuiet P ops S (fun a' => wpList P ops (Nxt S (Mix P ops Q more tl)) [c] a' w) fs a) : Mix P ops Q ((fs, c) :: more) tl S a w := h
theorem mix_last {tl : List Oper} {a : Act} {w : World} (h : wpQuiet P ops S (fun a' => Q a' w) tl a) : Mix P ops Q [] tl S a w := h

/-- **THE LAW.** 's': ahead of which call what is done; 'tl': what is left behind the last one. -/
theorem wp_region_mix {id : Nat} {Q : Exit → Act → World → Prop} {a : Act} {w : World} {l : List Oper} (S : World → Prop) (s : List (List Nat × Nat)) (tl : List Nat) (hm : P.follows .mixedOrders = true)
    (hs : Region.noSelect l.toArray = true) (hB : mixB l.toArray l.length s tl (Array.replicate l.length false) = true) (hS : S w.drew)
    (h : Mix P l.toArray (fun a' w' => Q .normal a' w') (segs l s) (nths l tl) S a w.drew) : (Code.region id l.toArray true).wp P Q a w := by
  have := mix_go (Q := fun a' w' => Q .normal a' w') hs s tl l.length S _ a w.drew hB hS h
  refine Code.wp_mono (Q := Well fun a' w' => Q .normal a' w') (fun e a w hq => by obtain ⟨rfl, hq⟩ := hq; exact hq) (wp_region_held (S := S) hm ?_)
  simpa using this

/-- The same where the calls only make memory: the class is 'worlds that have grown out of w', each call's behind it its own. -/
def GrS (w : World) : World → Prop := fun w' => ∃ g : GrW w, w' = g.w
theorem grS_self (w : World) : GrS w w := ⟨⟨w, Grown.refl w⟩, rfl⟩
theorem wp_region_mixg {id : Nat} {Q : Exit → Act → World → Prop} {a : Act} {w : World} {l : List Oper} (s : List (List Nat × Nat)) (tl : List Nat) (hm : P.follows .mixedOrders = true)
    (hs : Region.noSelect l.toArray = true) (hB : mixB l.toArray l.length s tl (Array.replicate l.length false) = true)
    (h : ∀ w1, Grown w w1 → Mix P l.toArray (fun a' w' => Q .normal a' w') (segs l s) (nths l tl) (fun w' => ∃ g : GrW w1, w' = g.w) a w1) : (Code.region id l.toArray true).wp P Q a w :=
  wp_region_mix _ s tl hm hs hB (grS_self _) (h _ (Grown.refl w).drew)
theorem nxt_grow {w0 : World} {K : (World → Prop) → Act → World → Prop} {a : Act} {w : World} (hg : Grown w0 w) (h : K (fun w' => ∃ g : GrW w, w' = g.w) a w) : Nxt (fun w' => ∃ g : GrW w0, w' = g.w) K .normal a w :=
  ⟨rfl, _, fun _ ⟨g, hw⟩ => ⟨⟨g.w, gtr hg g.gr⟩, hw⟩, grS_self w, h⟩
end
end Go.Proofs.YtagapfejgmmppaaGreat
