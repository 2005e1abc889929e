/- The laws of package world, walked: one step each, heads. -/
import Derived.Test.YtjllemjmdbnkjaaGreatWorldL
import Derived.Test.YtjllemjmdbnkjaaGreatWRef
namespace Go.Proofs.YtjllemjmdbnkjaaGreat
open Go.ChangeShapes Go.WideShapes Go.ChangeAt Go.RowKit
set_option maxRecDepth 100000
set_option linter.unusedVariables false
theorem ok_ops {c : Cf} (hok : c.Ok) : zOps c.t c.b c.i c.f c.k = ((c.ops : Nat) : Int) := (if_pos hok.z).trans (by simp [Cf.ops])
theorem ok_nodes {c : Cf} (hok : c.Ok) : zNodes c.t c.b c.i c.f c.k = ((c.nodes : Nat) : Int) := (if_pos hok.z).trans (by simp [Cf.nodes])
theorem nxtI_eq {c : Cf} (hok : c.Ok) (i : Int) : nxtI c i = if 0 ≤ i ∧ i < c.nodes then i else -1 := by
  unfold nxtI vNext
  rw [ok_nodes hok]
  simp [hok.z]
theorem wrdI_eq {c : Cf} (hok : c.Ok) (i : Int) : wrdI c i = if 0 ≤ i ∧ i < c.ops then c.nodes + i else -1 := by
  unfold wrdI vWord
  rw [ok_nodes hok, ok_ops hok]
  simp [hok.z]
theorem annI_eq {c : Cf} (hok : c.Ok) (i : Int) : annI c i = if 0 ≤ i ∧ i < c.t then c.nodes + c.ops + i else -1 := by
  unfold annI vAnn
  rw [ok_nodes hok, ok_ops hok]
  simp [hok.z]
/-- How many things of its kind there are. -/
def topI (c : Cf) (k : Int) : Int := if k % 7 ≤ 2 then c.nodes else if k % 7 ≤ 4 then c.ops else c.t
theorem cnt_pl {c : Cf} (hok : c.Ok) (k i : Int) : cnt (List.replicate c.len 0) (plI c k i) = if 0 ≤ i ∧ i < topI c k then 1 else 0 := by
  unfold plI topI cnt
  rw [nxtI_eq hok, wrdI_eq hok, annI_eq hok, List.length_replicate]
  unfold Cf.len
  split
  · by_cases h : 0 ≤ i ∧ i < (c.nodes : Int)
    · rw [if_pos h, if_pos (by omega), if_pos h]
    · rw [if_neg h, if_neg (by omega), if_neg h]
  · split
    · by_cases h : 0 ≤ i ∧ i < (c.ops : Int)
      · rw [if_pos h, if_pos (by omega), if_pos h]
      · rw [if_neg h, if_neg (by omega), if_neg h]
    · by_cases h : 0 ≤ i ∧ i < (c.t : Int)
      · rw [if_pos h, if_pos (by omega), if_pos h]
      · rw [if_neg h, if_neg (by omega), if_neg h]
theorem few_cf {t b i f k : Int} (h : bFew t b i f k = true) : ∃ c : Cf, t = c.t ∧ b = c.b ∧ i = c.i ∧ f = c.f ∧ k = c.k ∧ c.Ok ∧ c.t ≤ 4 ∧ c.b ≤ 4 ∧ c.k ≤ 8 := by
  unfold bFew at h
  simp only [Bool.and_eq_true, decide_eq_true_eq] at h
  obtain ⟨c, rfl, rfl, rfl, rfl, rfl, hok⟩ := cf_of h.1
  exact ⟨c, rfl, rfl, rfl, rfl, rfl, hok, by omega, by omega, by omega⟩

end Go.Proofs.YtjllemjmdbnkjaaGreat
