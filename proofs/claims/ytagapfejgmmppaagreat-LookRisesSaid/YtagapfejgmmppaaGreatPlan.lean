/- A statement whose order Go leaves open, with effects that may come in two orders (a new variable made ahead of a call, or behind it): a plan says what is done ahead of which effect; where two effects are ready each of them may come first. -/
import Derived.Test.YtagapfejgmmppaaGreatMix
import Derived.Test.YtagapfejgmmppaaGreatBut
namespace Go.Proofs.YtagapfejgmmppaaGreat
open Go.ChangeShapes Go.WideShapes Go.ChangeAt Go.RowKit
set_option maxRecDepth 100000
inductive Plan where
  | fin (tl : List Nat)
  | one (is : List Nat) (c : Nat) (p : Plan)
  | two (is : List Nat) (c : Nat) (p : Plan) (d : Nat) (q : Plan)
  | three (is : List Nat) (c : Nat) (p : Plan) (d : Nat) (q : Plan) (e : Nat) (r : Plan)

section
variable {P : Program} {S : World → Prop} {Q : Act → World → Prop}
/-- THE WALK by a plan. -/
def Pl (P : Program) (l : List Oper) (Q : Act → World → Prop) : Plan → (World → Prop) → Act → World → Prop
  | .fin tl, S, a, w => wpQuiet P l.toArray S (fun a' => Q a' w) (nths l tl) a
  | .one is c p, S, a, w => wpQuiet P l.toArray S (fun a' => wpList P l.toArray (Nxt S (Pl P l Q p)) [nth l c] a' w) (nths l is) a
  | .two is c p d q, S, a, w => wpQuiet P l.toArray S (fun a' => wpList P l.toArray (Nxt S (Pl P l Q p)) [nth l c] a' w ∧ wpList P l.toArray (Nxt S (Pl P l Q q)) [nth l d] a' w) (nths l is) a
  | .three is c p d q e r, S, a, w => wpQuiet P l.toArray S (fun a' => wpList P l.toArray (Nxt S (Pl P l Q p)) [nth l c] a' w ∧ wpList P l.toArray (Nxt S (Pl P l Q q)) [nth l d] a' w ∧ wpList P l.toArray (Nxt S (Pl P l Q r)) [nth l e] a' w) (nths l is) a

def planB (ops : Array Oper) : Nat → Plan → Array Bool → Bool
  | n, .fin tl, L => decide (tl.length ≤ n) && floatsB ops tl L && (Region.ready .any ops (setAll tl L)).isEmpty
  | n, .one is c p, L => decide (is.length + 1 ≤ n) && floatsB ops is L && decide (Region.ready .any ops (setAll is L) = [c]) && decide (c < ops.size) && planB ops (n - is.length - 1) p ((setAll is L).setIfInBounds c true)
  | n, .two is c p d q, L => decide (is.length + 1 ≤ n) && floatsB ops is L && decide (Region.ready .any ops (setAll is L) = [c, d]) && decide (c < ops.size) && decide (d < ops.size) && planB ops (n - is.length - 1) p ((setAll is L).setIfInBounds c true) && planB ops (n - is.length - 1) q ((setAll is L).setIfInBounds d true)
  | n, .three is c p d q e r, L => decide (is.length + 1 ≤ n) && floatsB ops is L && decide (Region.ready .any ops (setAll is L) = [c, d, e]) && decide (c < ops.size) && decide (d < ops.size) && decide (e < ops.size) && planB ops (n - is.length - 1) p ((setAll is L).setIfInBounds c true) && planB ops (n - is.length - 1) q ((setAll is L).setIfInBounds d true) && planB ops (n - is.length - 1) r ((setAll is L).setIfInBounds e true)

/-- One effect. -/
theorem effect_go {l : List Oper} {K : (World → Prop) → Act → World → Prop} {i : Nat} {o : Oper} {a : Act} {w : World} {m : Nat} {L : Array Bool} (ho : l.toArray[i]? = some o)
    (h : wpList P l.toArray (Nxt S K) [o] a w)
    (hk : ∀ S' a' w', S' w' → K S' a' w' → wpAnyH P .any l.toArray (Well Q) S' m L a' w') :
    wpOp P l.toArray (Well Q) i (fun a' w' => S w' ∧ wpAnyH P .any l.toArray (Well Q) S m L a' w') a w := by
  have back : ∀ e a'' w'', Nxt S K e a'' w'' → e = .normal ∧ (S w'' ∧ wpAnyH P .any l.toArray (Well Q) S m L a'' w'') := by
    rintro e a'' w'' ⟨he, S', h1, h2, h3⟩
    exact ⟨he, h1 _ h2, wpAnyH_narrow h1 _ _ _ _ (hk S' a'' w'' h2 h3)⟩
  unfold wpOp
  simp only [ho]
  simp only [wpList] at h
  split
  · rename_i hw
    rw [if_pos hw] at h
    rcases h with h | ⟨_, _, _, hx⟩
    · refine .inl ?_
      unfold Oper.wp at *
      generalize (execOp a.eval o).run P w = r at h
      cases r with
      | ok x w' =>
        cases x <;> simp only [Oper.upon] at h ⊢
        case value u => exact (back _ _ _ h).2
        case skip => exact (back _ _ _ h).2
        case defer d => exact (back _ _ _ h).2
        case enter f args =>
          refine Calls.mono h fun e w'' he => ?_
          cases e with
          | returned u => exact (back _ _ _ he).2
          | panicked c => exact absurd (back _ _ _ he).1 (by simp)
          | outgrown => obtain ⟨_, _, hx⟩ := he; exact absurd (back _ _ _ hx).1 (by simp)
        case row row args => exact Rows.mono h fun u w'' he => (back _ _ _ he).2
      | halt x w' =>
        cases x <;> simp only [Oper.upon] at h ⊢
        case panic u => exact absurd (back _ _ _ h).1 (by simp)
    · exact absurd (back _ _ _ hx).1 (by simp)
  · rename_i hw
    rw [if_neg hw] at h
    exact (back _ _ _ h).2

theorem plan_go {l : List Oper} (hs : Region.noSelect l.toArray = true) : ∀ (p : Plan) (n : Nat) (S : World → Prop) (L : Array Bool) (a : Act) (w : World), planB l.toArray n p L = true → S w →
    Pl P l Q p S a w → wpAnyH P .any l.toArray (Well Q) S n L a w
  | .fin tl, n, S, L, a, w, hB, hS, h => by
    simp only [planB, Bool.and_eq_true, decide_eq_true_eq, List.isEmpty_iff] at hB
    obtain ⟨⟨hn, hB⟩, hr⟩ := hB
    exact floats_go (R := fun a' => Q a' w) hs tl L a w n hn hB hS h fun a' ha' => wpAnyH_done hr ⟨rfl, ha'⟩ _
  | .one is c p, n, S, L, a, w, hB, hS, h => by
    simp only [planB, Bool.and_eq_true, decide_eq_true_eq] at hB
    obtain ⟨⟨⟨⟨hn, hB⟩, hr⟩, hc⟩, hB'⟩ := hB
    refine floats_go (R := fun a' => wpList P l.toArray (Nxt S (Pl P l Q p)) [nth l c] a' w) hs is L a w n (by omega) hB hS h fun a' ha' => ?_
    obtain ⟨m, hm⟩ : ∃ m, n - is.length = m + 1 := ⟨n - is.length - 1, by omega⟩
    rw [hm]
    rw [show n - is.length - 1 = m by omega] at hB'
    refine wpAnyH_all hr (by simp) fun i hi => ?_
    obtain rfl : i = c := by simpa using hi
    obtain ⟨o, ho⟩ : ∃ o, l.toArray[i]? = some o := ⟨_, Array.getElem?_eq_getElem hc⟩
    rw [nth_at ho] at ha'
    exact effect_go ho ha' fun S' a' w' h2 h3 => plan_go hs p m S' _ a' w' hB' h2 h3
  | .two is c p d q, n, S, L, a, w, hB, hS, h => by
    simp only [planB, Bool.and_eq_true, decide_eq_true_eq] at hB
    obtain ⟨⟨⟨⟨⟨⟨hn, hB⟩, hr⟩, hc⟩, hd⟩, hB1⟩, hB2⟩ := hB
    refine floats_go (R := fun a' => wpList P l.toArray (Nxt S (Pl P l Q p)) [nth l c] a' w ∧ wpList P l.toArray (Nxt S (Pl P l Q q)) [nth l d] a' w) hs is L a w n (by omega) hB hS h fun a' ha' => ?_
    obtain ⟨m, hm⟩ : ∃ m, n - is.length = m + 1 := ⟨n - is.length - 1, by omega⟩
    rw [hm]
    rw [show n - is.length - 1 = m by omega] at hB1 hB2
    obtain ⟨ha1, ha2⟩ := ha'
    refine wpAnyH_all hr (by simp) fun i hi => ?_
    have hi' : i = c ∨ i = d := by simpa using hi
    rcases hi' with rfl | rfl
    · obtain ⟨o, ho⟩ : ∃ o, l.toArray[i]? = some o := ⟨_, Array.getElem?_eq_getElem hc⟩
      rw [nth_at ho] at ha1
      exact effect_go ho ha1 fun S' a' w' h2 h3 => plan_go hs p m S' _ a' w' hB1 h2 h3
    · obtain ⟨o, ho⟩ : ∃ o, l.toArray[i]? = some o := ⟨_, Array.getElem?_eq_getElem hd⟩
      rw [nth_at ho] at ha2
      exact effect_go ho ha2 fun S' a' w' h2 h3 => plan_go hs q m S' _ a' w' hB2 h2 h3
  | .three is c p d q e r, n, S, L, a, w, hB, hS, h => by
    simp only [planB, Bool.and_eq_true, decide_eq_true_eq] at hB
    obtain ⟨⟨⟨⟨⟨⟨⟨⟨hn, hB⟩, hr⟩, hc⟩, hd⟩, he⟩, hB1⟩, hB2⟩, hB3⟩ := hB
    refine floats_go (R := fun a' => wpList P l.toArray (Nxt S (Pl P l Q p)) [nth l c] a' w ∧ wpList P l.toArray (Nxt S (Pl P l Q q)) [nth l d] a' w ∧ wpList P l.toArray (Nxt S (Pl P l Q r)) [nth l e] a' w) hs is L a w n (by omega) hB hS h fun a' ha' => ?_
    obtain ⟨m, hm⟩ : ∃ m, n - is.length = m + 1 := ⟨n - is.length - 1, by omega⟩
    rw [hm]
    rw [show n - is.length - 1 = m by omega] at hB1 hB2 hB3
    obtain ⟨ha1, ha2, ha3⟩ := ha'
    refine wpAnyH_all hr (by simp) fun i hi => ?_
    have hi' : i = c ∨ i = d ∨ i = e := by simpa using hi
    rcases hi' with rfl | rfl | rfl
    · obtain ⟨o, ho⟩ : ∃ o, l.toArray[i]? = some o := ⟨_, Array.getElem?_eq_getElem hc⟩
      rw [nth_at ho] at ha1
      exact effect_go ho ha1 fun S' a' w' h2 h3 => plan_go hs p m S' _ a' w' hB1 h2 h3
    · obtain ⟨o, ho⟩ : ∃ o, l.toArray[i]? = some o := ⟨_, Array.getElem?_eq_getElem hd⟩
      rw [nth_at ho] at ha2
      exact effect_go ho ha2 fun S' a' w' h2 h3 => plan_go hs q m S' _ a' w' hB2 h2 h3
    · obtain ⟨o, ho⟩ : ∃ o, l.toArray[i]? = some o := ⟨_, Array.getElem?_eq_getElem he⟩
      rw [nth_at ho] at ha3
      exact effect_go ho ha3 fun S' a' w' h2 h3 => plan_go hs r m S' _ a' w' hB3 h2 h3

theorem plan_three {l : List Oper} {is : List Nat} {c d e : Nat} {p q r : Plan} {a : Act} {w : World} (h : wpQuiet P l.toArray S (fun a' => wpList P l.toArray (Nxt S (Pl P l Q p)) [nth l c] a' w ∧ wpList P l.toArray (Nxt S (Pl P l Q q)) [nth l d] a' w ∧ wpList P l.toArray (Nxt S (Pl P l Q r)) [nth l e] a' w) (nths l is) a) : Pl P l Q (.three is c p d q e r) S a w := h
theorem plan_one {l : List Oper} {is : List Nat} {c : Nat} {p : Plan} {a : Act} {w : World} (h : wpQuiet P l.toArray S (fun a' => wpList P l.toArray (Nxt S (Pl P l Q p)) [nth l c] a' w) (nths l is) a) : Pl P l Q (.one is c p) S a w := h
theorem plan_two {l : List Oper} {is : List Nat} {c d : Nat} {p q : Plan} {a : Act} {w : World} (h : wpQuiet P l.toArray S (fun a' => wpList P l.toArray (Nxt S (Pl P l Q p)) [nth l c] a' w ∧ wpList P l.toArray (Nxt S (Pl P l Q q)) [nth l d] a' w) (nths l is) a) : Pl P l Q (.two is c p d q) S a w := h
theorem plan_fin {l : List Oper} {tl : List Nat} {a : Act} {w : World} (h : wpQuiet P l.toArray S (fun a' => Q a' w) (nths l tl) a) : Pl P l Q (.fin tl) S a w := h

/-- An effect that the class bears: the class stays as it is. -/
theorem nxt_stay {w0 : World} {K : (World → Prop) → Act → World → Prop} {a : Act} {w : World} (hg : Grown w0 w) (h : K (fun w' => ∃ g : GrW w0, w' = g.w) a w) : Nxt (fun w' => ∃ g : GrW w0, w' = g.w) K .normal a w :=
  ⟨rfl, _, fun _ h => h, ⟨⟨w, hg⟩, rfl⟩, h⟩

/-- **THE LAW.** -/
theorem wp_region_plan {id : Nat} {Q : Exit → Act → World → Prop} {a : Act} {w : World} {l : List Oper} (S : World → Prop) (p : Plan) (hm : P.follows .mixedOrders = true)
    (hs : Region.noSelect l.toArray = true) (hB : planB l.toArray l.length p (Array.replicate l.length false) = true) (hS : S w.drew)
    (h : Pl P l (fun a' w' => Q .normal a' w') p S a w.drew) : (Code.region id l.toArray true).wp P Q a w := by
  have := plan_go (Q := fun a' w' => Q .normal a' w') hs p l.length S _ a w.drew hB hS h
  refine Code.wp_mono (Q := Well fun a' w' => Q .normal a' w') (fun e a w hq => by obtain ⟨rfl, hq⟩ := hq; exact hq) (wp_region_held (S := S) hm ?_)
  simpa using this

/-- The class 'worlds that have grown out of w'. -/
theorem wp_region_plang {id : Nat} {Q : Exit → Act → World → Prop} {a : Act} {w : World} {l : List Oper} (p : Plan) (hm : P.follows .mixedOrders = true)
    (hs : Region.noSelect l.toArray = true) (hB : planB l.toArray l.length p (Array.replicate l.length false) = true)
    (h : ∀ w1, Grown w w1 → Pl P l (fun a' w' => Q .normal a' w') p (fun w' => ∃ g : GrW w1, w' = g.w) a w1) : (Code.region id l.toArray true).wp P Q a w :=
  wp_region_plan _ p hm hs hB (grS_self _) (h _ (Grown.refl w).drew)

/-- The class 'worlds that have grown out of w, but for blocks in B'. -/
theorem wp_region_planb {id : Nat} {Q : Exit → Act → World → Prop} {a : Act} {w : World} {l : List Oper} (B : Nat → Prop) (p : Plan) (hm : P.follows .mixedOrders = true)
    (hs : Region.noSelect l.toArray = true) (hB : planB l.toArray l.length p (Array.replicate l.length false) = true)
    (h : ∀ w1, Grown w w1 → Pl P l (fun a' w' => Q .normal a' w') p (fun w' => ∃ g : ButW B w1, w' = g.w) a w1) : (Code.region id l.toArray true).wp P Q a w :=
  wp_region_plan _ p hm hs hB ⟨⟨w.drew, But.refl B _⟩, rfl⟩ (h _ (Grown.refl w).drew)
theorem nxt_but {B : Nat → Prop} {w0 : World} {K : (World → Prop) → Act → World → Prop} {a : Act} {w : World} (hg : But B w0 w) (h : K (fun w' => ∃ g : ButW B w0, w' = g.w) a w) : Nxt (fun w' => ∃ g : ButW B w0, w' = g.w) K .normal a w :=
  ⟨rfl, _, fun _ h => h, ⟨⟨w, hg⟩, rfl⟩, h⟩
end
end Go.Proofs.YtagapfejgmmppaaGreat
