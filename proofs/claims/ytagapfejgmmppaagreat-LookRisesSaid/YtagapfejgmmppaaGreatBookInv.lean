/- What is written down: that it keeps to its numbers, and stays. -/
import Derived.Test.YtagapfejgmmppaaGreatNewB
namespace Go.Proofs.YtagapfejgmmppaaGreat
open Go.ChangeShapes Go.WideShapes Go.ChangeAt Go.RowKit
set_option maxRecDepth 100000
set_option linter.unusedVariables false
theorem look_none_not {α : Type} : ∀ {l : List (Nat × α)} {n : Nat}, look l n = none → n ∉ l.map (·.1)
  | [], n, _ => by simp
  | (m, y) :: r, n, h => by
    simp only [look] at h
    split at h
    · cases h
    · rename_i hm
      simp only [List.map_cons, List.mem_cons, not_or]
      exact ⟨fun e => hm e.symm, look_none_not h⟩
theorem nodup_app {α : Type} {l : List (Nat × α)} {n : Nat} {y : α} (h : (l.map (·.1)).Nodup) (hn : look l n = none) : ((l ++ [(n, y)]).map (·.1)).Nodup := by
  rw [List.map_append]
  refine List.nodup_append.2 ⟨h, by simp, fun a ha b hb => ?_⟩
  simp only [List.map_cons, List.map_nil, List.mem_cons, List.not_mem_nil, or_false] at hb
  subst hb
  rintro rfl
  exact look_none_not hn ha
theorem at_bump_le {l : List Nat} {h : Nat} (hl : h < l.length) (j : Nat) : at_ l j ≤ at_ (bump l h) j := by
  rw [at_bump hl]; split
  · subst_vars; omega
  · exact Nat.le_refl _

theorem Inv.beginS {c : Cf} {s : St} (h : Inv c s) {i : Nat} (hi : i < c.t) (x : Cal) : Inv c (beginS c s i x).1 := by
  have l1 := h.l1
  have l2 := h.l2
  have hb1 := h.b1 i hi
  have hb2 := h.b2 i hi
  unfold Proofs.YtagapfejgmmppaaGreat.beginS
  split
  · exact h
  · rename_i e1
    have calls : ∀ j, j < c.t → at_ (bump s.calls i) j ≤ c.k := fun j hj => by
      rw [at_bump (by omega)]; split
      · omega
      · exact h.b1 j hj
    have ops1 : ∀ y ∈ s.ops, ∃ q m, q < c.t ∧ m < at_ (bump s.calls i) q ∧ y.1 = q * c.k + m := fun y hy => by
      obtain ⟨q, m, hq, hm, he⟩ := h.k1 y hy
      exact ⟨q, m, hq, Nat.lt_of_lt_of_le hm (at_bump_le (by omega) q), he⟩
    split
    · exact ⟨by simp [length_bump, l1], h.l2, h.l3, calls, h.b2, h.b3, ops1, h.k2, h.d1, h.d2⟩
    · rename_i e2
      have hnew := h.newOp hi (by omega)
      refine ⟨by simp [length_bump, l1], ?_, h.l3, calls, ?_, h.b3, ?_, h.k2, nodup_app h.d1 hnew, h.d2⟩
      · show (if x.kind = 1 then bump s.ins i else s.ins).length = c.t
        split
        · rw [length_bump]; exact l2
        · exact l2
      · intro j hj
        show at_ (if x.kind = 1 then bump s.ins i else s.ins) j ≤ c.i
        split
        · rename_i hk
          rw [at_bump (by omega)]; split
          · have : ¬ at_ s.ins i = c.i := fun e => e2 ⟨hk, e⟩
            omega
          · exact h.b2 j hj
        · exact h.b2 j hj
      · intro y hy
        rcases List.mem_append.1 hy with hy | hy
        · exact ops1 y hy
        · simp only [List.mem_cons, List.not_mem_nil, or_false] at hy
          subst hy
          exact ⟨i, at_ s.calls i, hi, by rw [at_bump (by omega), if_pos rfl]; omega, rfl⟩
theorem Inv.beginI {c : Cf} {s : St} (h : Inv c s) (th : Int) (x : Cal) : Inv c (beginI c s th x).1 := by
  unfold Proofs.YtagapfejgmmppaaGreat.beginI
  split
  · exact h
  · exact h.beginS (by omega) x
theorem Inv.makeS {c : Cf} {s : St} (h : Inv c s) {i : Nat} (hi : i < c.t) (op : Nat) : Inv c (makeS c s i op).1 := by
  have l3 := h.l3
  have hb3 := h.b3 i hi
  unfold Proofs.YtagapfejgmmppaaGreat.makeS
  split
  · exact h
  · rename_i e1
    have hnew := h.newNode hi (by omega)
    refine ⟨h.l1, h.l2, by simp [length_bump, l3], h.b1, h.b2, fun j hj => ?_, h.k1, fun y hy => ?_, h.d1, nodup_app h.d2 hnew⟩
    · show at_ (bump s.made i) j ≤ 2 * c.k
      rw [at_bump (by omega)]; split
      · omega
      · exact h.b3 j hj
    · rcases List.mem_append.1 hy with hy | hy
      · obtain ⟨q, m, hq, hm, he⟩ := h.k2 y hy
        exact ⟨q, m, hq, Nat.lt_of_lt_of_le hm (at_bump_le (by omega) q), he⟩
      · simp only [List.mem_cons, List.not_mem_nil, or_false] at hy
        subst hy
        exact ⟨i, at_ s.made i, hi, by show at_ s.made i < at_ (bump s.made i) i; rw [at_bump (by omega), if_pos rfl]; omega, rfl⟩
theorem Inv.makeI {c : Cf} {s : St} (h : Inv c s) (th op : Int) : Inv c (makeI c s th op).1 := by
  unfold Proofs.YtagapfejgmmppaaGreat.makeI
  split
  · exact h
  · exact h.makeS (by omega) _

/-- How much is written down by one act. -/
theorem begin_len (c : Cf) (s : St) (th : Int) (x : Cal) : (beginI c s th x).1.ops.length ≤ s.ops.length + 1 ∧ (beginI c s th x).1.nodes.length = s.nodes.length := by
  unfold beginI beginS
  split
  · exact ⟨Nat.le_succ _, rfl⟩
  · split
    · exact ⟨Nat.le_succ _, rfl⟩
    · split
      · exact ⟨by simp, rfl⟩
      · exact ⟨by simp, rfl⟩
theorem make_len (c : Cf) (s : St) (th op : Int) : (makeI c s th op).1.ops.length = s.ops.length ∧ (makeI c s th op).1.nodes.length ≤ s.nodes.length + 1 := by
  unfold makeI makeS
  split
  · exact ⟨rfl, Nat.le_succ _⟩
  · split
    · exact ⟨rfl, Nat.le_succ _⟩
    · exact ⟨rfl, by simp⟩

/-- What was written down stays. -/
def Stays (s s' : St) : Prop := (∀ n x, look s.ops n = some x → look s'.ops n = some x) ∧ ∀ n x, look s.nodes n = some x → look s'.nodes n = some x
theorem look_stays {α : Type} (l : List (Nat × α)) (y : Nat × α) (n : Nat) (x : α) (h : look l n = some x) : look (l ++ [y]) n = some x := by rw [look_app, h]; rfl
theorem Stays.refl (s : St) : Stays s s := ⟨fun _ _ h => h, fun _ _ h => h⟩
theorem Stays.trans {a b c : St} (h : Stays a b) (k : Stays b c) : Stays a c := ⟨fun n x q => k.1 n x (h.1 n x q), fun n x q => k.2 n x (h.2 n x q)⟩
theorem begin_stays (c : Cf) (s : St) (th : Int) (x : Cal) : Stays s (beginI c s th x).1 := by
  unfold beginI beginS
  split
  · exact Stays.refl s
  · split
    · exact Stays.refl s
    · split
      · exact Stays.refl s
      · exact ⟨fun n y h => look_stays _ _ n y h, fun _ _ h => h⟩
theorem make_stays (c : Cf) (s : St) (th op : Int) : Stays s (makeI c s th op).1 := by
  unfold makeI makeS
  split
  · exact Stays.refl s
  · split
    · exact Stays.refl s
    · exact ⟨fun _ _ h => h, fun n y h => look_stays _ _ n y h⟩
theorem look_of_nodup {α : Type} : ∀ {l : List (Nat × α)} (_ : (l.map (·.1)).Nodup) {j : Nat} {y : Nat × α}, l[j]? = some y → look l y.1 = some y.2
  | [], _, j, y, h => by simp at h
  | z :: l, hd, 0, y, h => by
    simp only [List.getElem?_cons_zero, Option.some.injEq] at h
    subst h
    simp [look]
  | z :: l, hd, j + 1, y, h => by
    rw [List.getElem?_cons_succ] at h
    simp only [List.map_cons, List.nodup_cons] at hd
    have hm : y ∈ l := List.mem_of_getElem? h
    have hz : z.1 ≠ y.1 := fun e => hd.1 (by rw [e]; exact List.mem_map_of_mem hm)
    simp only [look, if_neg hz]
    exact look_of_nodup hd.2 h
end Go.Proofs.YtagapfejgmmppaaGreat
