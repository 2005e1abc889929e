/- Pairs, sorted by their keys, those of one key in the turn in which they stood: slices.SortStableFunc of at most 20 pairs. -/
import Derived.Test.YtagapfejgmmppaaGreatLook
namespace Go.Proofs.YtagapfejgmmppaaGreat
open Go.ChangeShapes Go.WideShapes Go.ChangeAt Go.RowKit
set_option maxRecDepth 100000
set_option linter.unusedVariables false

def flatP (ps : List (Int × Int)) : List Value := ps.flatMap fun p => [.int .u64 p.1, .int .u64 p.2]
/-- A pair put behind all whose keys aren't greater. -/
def insP : List (Int × Int) → (Int × Int) → List (Int × Int)
  | [], x => [x]
  | y :: r, x => if y.1 ≤ x.1 then y :: insP r x else x :: y :: r
def sortP (ps : List (Int × Int)) : List (Int × Int) := ps.foldl insP []
def UpP (ps : List (Int × Int)) : Prop := ps.Pairwise fun a b => a.1 ≤ b.1

theorem insP_mem (x : Int × Int) : ∀ (l : List (Int × Int)) (y : Int × Int), y ∈ insP l x ↔ y = x ∨ y ∈ l
  | [], y => by simp [insP]
  | z :: r, y => by
    unfold insP
    split
    · simp only [List.mem_cons, insP_mem x r y]
      constructor
      · rintro (h | h | h) <;> simp [h]
      · rintro (h | h | h) <;> simp [h]
    · simp
theorem insP_len (x : Int × Int) : ∀ (l : List (Int × Int)), (insP l x).length = l.length + 1
  | [] => rfl
  | z :: r => by unfold insP; split <;> simp [insP_len x r]
theorem insP_up (x : Int × Int) : ∀ (l : List (Int × Int)), UpP l → UpP (insP l x)
  | [], _ => by simp [insP, UpP]
  | z :: r, h => by
    unfold UpP at h
    rw [List.pairwise_cons] at h
    unfold insP
    split
    · rename_i hz
      unfold UpP
      rw [List.pairwise_cons]
      refine ⟨fun y hy => ?_, insP_up x r h.2⟩
      rcases (insP_mem x r y).1 hy with rfl | hy
      · exact hz
      · exact h.1 y hy
    · rename_i hz
      unfold UpP
      rw [List.pairwise_cons, List.pairwise_cons]
      refine ⟨fun y hy => ?_, h⟩
      simp only [List.mem_cons] at hy
      rcases hy with rfl | hy
      · omega
      · have := h.1 y hy; omega
theorem foldP_up : ∀ (ps l : List (Int × Int)), UpP l → UpP (ps.foldl insP l)
  | [], _, h => h
  | x :: r, l, h => foldP_up r _ (insP_up x l h)
theorem sortP_up (ps : List (Int × Int)) : UpP (sortP ps) := foldP_up ps [] (by simp [UpP])
theorem foldP_len : ∀ (ps l : List (Int × Int)), (ps.foldl insP l).length = l.length + ps.length
  | [], _ => rfl
  | x :: r, l => by rw [List.foldl_cons, foldP_len r, insP_len, List.length_cons]; omega
theorem sortP_len (ps : List (Int × Int)) : (sortP ps).length = ps.length := by unfold sortP; rw [foldP_len]; simp
theorem sortP_app (ps : List (Int × Int)) (x : Int × Int) : sortP (ps ++ [x]) = insP (sortP ps) x := by simp [sortP]
theorem foldP_mem : ∀ (ps l : List (Int × Int)) (y : Int × Int), y ∈ ps.foldl insP l ↔ y ∈ ps ∨ y ∈ l
  | [], _, _ => by simp
  | x :: r, l, y => by
    rw [List.foldl_cons, foldP_mem r, insP_mem]
    simp only [List.mem_cons]
    constructor
    · rintro (h | h | h) <;> simp [h]
    · rintro ((h | h) | h) <;> simp [h]
theorem sortP_mem (ps : List (Int × Int)) (y : Int × Int) : y ∈ sortP ps ↔ y ∈ ps := by unfold sortP; rw [foldP_mem]; simp
/-- Where a pair is put. -/
theorem insP_split (x : Int × Int) : ∀ (pre mid : List (Int × Int)), (∀ y ∈ pre, y.1 ≤ x.1) → (∀ y ∈ mid, x.1 < y.1) → insP (pre ++ mid) x = pre ++ x :: mid
  | [], [], _, _ => rfl
  | [], y :: r, _, h => by
    have := h y (by simp)
    simp only [List.nil_append, insP, if_neg (show ¬ y.1 ≤ x.1 by omega)]
  | z :: p, mid, h, h' => by
    simp only [List.cons_append, insP, if_pos (h z (by simp)), insP_split x p mid (fun y hy => h y (by simp [hy])) h']

theorem flatP_len (ps : List (Int × Int)) : (flatP ps).length = ps.length * 2 := by
  induction ps with
  | nil => rfl
  | cons x r ih => simp only [flatP, List.flatMap_cons, List.length_append, List.length_cons, List.length_nil] at ih ⊢; omega
theorem flatP_one (ps : List (Int × Int)) : ∀ u ∈ flatP ps, u.oneCell' = true := by
  intro u hu
  simp only [flatP, List.mem_flatMap] at hu
  obtain ⟨p, -, hp⟩ := hu
  simp only [List.mem_cons, List.not_mem_nil, or_false] at hp
  rcases hp with rfl | rfl <;> rfl
theorem flatP_0 {ps : List (Int × Int)} {j : Nat} {x : Int × Int} (h : ps[j]? = some x) : (flatP ps)[j * 2]? = some (.int .u64 x.1) := flat_at (k := 2) (o := 0) (fun _ => rfl) (by decide) ps j x h
theorem flatP_1 {ps : List (Int × Int)} {j : Nat} {x : Int × Int} (h : ps[j]? = some x) : (flatP ps)[j * 2 + 1]? = some (.int .u64 x.2) := flat_at (k := 2) (o := 1) (fun _ => rfl) (by decide) ps j x h
theorem flatP_app (a b : List (Int × Int)) : flatP (a ++ b) = flatP a ++ flatP b := by simp [flatP]
/-- A pair laid at its place. -/
theorem flatP_mid (a b : List (Int × Int)) (x y : Int × Int) (n : Nat) (hn : n = a.length * 2) : (flatP (a ++ x :: b)).take n ++ [.int .u64 y.1, .int .u64 y.2] ++ (flatP (a ++ x :: b)).drop (n + 2) = flatP (a ++ y :: b) := by
  subst hn
  rw [flatP_app, List.take_left' (flatP_len a), flatP_app]
  have : (flatP a ++ flatP (x :: b)).drop (a.length * 2 + 2) = flatP b := by
    rw [← flatP_len a, List.drop_length_add_append]
    simp [flatP]
  rw [this]
  simp [flatP]

def cmpV (a b : Int) : Int := if a < b then -1 else if b < a then 1 else 0
theorem Compare_at (a b : Int) (w : World) : Calls Tryz.prog 49 #[.int .u64 a, .int .u64 b] w fun e w' => e = .returned (.int .i64 (cmpV a b)) ∧ Grown w w' := by
  obtain ⟨v, hv⟩ : ∃ v, cmpV a b = v := ⟨_, rfl⟩
  rw [hv]
  unfold cmpV at hv
  by_cases h1 : a < b
  · rw [if_pos h1] at hv; subst hv
    have e1 : decide (a < b) = true := decide_eq_true h1
    go_enter Tryz.func49, Tryz.ntmps49
    go_wp2
    go_ret
    exact ⟨rfl, by go_grown⟩
  · rw [if_neg h1] at hv
    by_cases h2 : b < a
    · rw [if_pos h2] at hv; subst hv
      go_enter Tryz.func49, Tryz.ntmps49
      go_wp2
      go_ret
      exact ⟨rfl, by go_grown⟩
    · rw [if_neg h2] at hv; subst hv
      go_enter Tryz.func49, Tryz.ntmps49
      go_wp2
      go_ret
      exact ⟨rfl, by go_grown⟩
theorem byKey_at (a a' b b' : Int) (v : Int) (hv : cmpV a b = v) (w : World) : Calls Tryz.prog 48 #[.agg #[.int .u64 a, .int .u64 a'], .agg #[.int .u64 b, .int .u64 b']] w fun e w' => e = .returned (.int .i64 v) ∧ Grown w w' := by
  have HV := Lib.hid hv
  clear hv
  go_enter Tryz.func48, Tryz.ntmps48
  go_wp2_with fail
  refine (Compare_at _ _ _).mono ?_; rintro e w1 ⟨rfl, g1⟩
  rw [HV.out]
  go_wp2
  go_ret
  exact ⟨rfl, gtr (by go_grown) g1⟩
end Go.Proofs.YtagapfejgmmppaaGreat
