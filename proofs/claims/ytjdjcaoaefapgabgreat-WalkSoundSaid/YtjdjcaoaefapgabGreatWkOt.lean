/- The pairs of other keys (corrielaw10.others). -/
import Derived.Test.YtjdjcaoaefapgabGreatMRefW
import Derived.Test.YtjdjcaoaefapgabGreatMSound
import Derived.LoopTactic
namespace Go.Proofs.YtjdjcaoaefapgabGreat
open Go.ChangeShapes Go.WideShapes Go.ChangeAt Go.RowKit
set_option maxRecDepth 100000
set_option linter.unusedVariables false
def othP (key : Int) (ps : List (Int × Int)) : List (Int × Int) := ps.filter fun p => decide (p.1 ≠ key)
set_option maxHeartbeats 8000000 in
theorem others_at (w : World) (lo : Nat) (v0 : Value) (ps : List (Int × Int)) (key : Int) (h : FlatAt w lo v0 (flatP ps) ps.length) (hl : ps.length ≤ 9999) :
    Calls Tryz.prog 13 #[v0, .int .u64 key] w fun e w' => ∃ v, e = .returned v ∧ FlatAt w' w.heap.size v (flatP (othP key ps)) (othP key ps).length ∧ Grown w w' := by
  obtain ⟨n, hn⟩ : ∃ n, ps.length = n := ⟨_, rfl⟩
  rw [hn] at h hl
  have HN := Lib.hid hn
  clear hn
  obtain ⟨A, g, cap, rfl, hA, hc⟩ : ∃ (A : Option Addr) (g cap : Nat), v0 = .slice A n cap ∧ (0 < n → A = some ⟨g, 0, none⟩) ∧ ∀ j u, (flatP ps)[j]? = some u → w.cell? ⟨g, j, none⟩ = some u := by
    rcases h with ⟨hz, he, rfl⟩ | ⟨h0, g, cap, rfl, -, hc⟩
    · exact ⟨none, 0, 0, by rw [hz], fun h => by omega, fun j u hj => by rw [he] at hj; simp at hj⟩
    · exact ⟨_, g, cap, rfl, fun _ => rfl, hc⟩
  have HA := Lib.hid hA
  have HC := Lib.hid hc
  clear h hA hc
  go_enter Tryz.func13, Tryz.ntmps13
  go_wp2_with fail
  go_loopw [5, 6] (fun s5 s6 wr => ∃ (k : Nat) (v : Value), v = s5 ∧ s6 = .int .i64 (k : Int) ∧ k ≤ n ∧ Grown w wr ∧ wr.ownsRow w.heap.size 76 2 v (othP key (ps.take k)).length (flatP (othP key (ps.take k))) ∧ (0 < (othP key (ps.take k)).length ∨ v = .slice none 0 0)) (fun s5 s6 _ => n - (intOf s6).toNat)
  case atStart => exact ⟨0, .slice none 0 0, rfl, rfl, Nat.zero_le _, Grown.refl _, own_nil _ _ _ _, .inr rfl⟩
  case round =>
    obtain ⟨k, v, rfl, rfl, hk, hg, hrow, hnil⟩ := hrel
    obtain ⟨wo, hwo⟩ : ∃ x, x = wr := ⟨_, rfl⟩
    subst hwo
    have HG := Lib.hid hg
    have HRow := Lib.hid hrow
    have HNil := Lib.hid hnil
    clear hg hrow hnil
    by_cases hkn : k < n
    · have hlt : (k : Int) < (n : Int) := by omega
      obtain rfl := HA.out (by omega)
      obtain ⟨⟨yk, yv⟩, hy⟩ : ∃ y, ps[k]? = some y := ⟨_, List.getElem?_eq_getElem (by rw [HN.out]; exact hkn)⟩
      have HY := Lib.hid hy
      have d0 : wo.cell? ⟨g, k * 2, none⟩ = some (.int .u64 yk) := gcell HG.out (HC.out (k * 2) _ (flatP_0 hy))
      have d1 : wo.cell? ⟨g, k * 2 + 1, none⟩ = some (.int .u64 yv) := gcell HG.out (HC.out (k * 2 + 1) _ (flatP_1 hy))
      have HT : Hid (othP key (ps.take (k + 1)) = othP key (ps.take k) ++ (if yk ≠ key then [(yk, yv)] else [])) := Lib.hid (by
        unfold othP
        rw [List.take_add_one, hy]
        simp only [Option.toList_some, List.filter_append, List.filter_cons, List.filter_nil]
        by_cases e : yk ≠ key
        · rw [if_pos e, if_pos (by simpa using e)]
        · rw [if_neg e, if_neg (by simpa using e)])
      obtain ⟨pre, hpre⟩ : ∃ pre, othP key (ps.take k) = pre := ⟨_, rfl⟩
      have hpl : pre.length ≤ 9999 := by rw [← hpre]; exact Nat.le_trans (List.length_filter_le _ _) (by rw [List.length_take]; omega)
      rw [hpre] at HRow HNil HT
      clear hy hpre
      by_cases e : yk = key
      · have e1 : (yk != key) = false := by simpa using e
        have HT2 : Hid (othP key (ps.take (k + 1)) = pre) := Lib.hid (by rw [HT.out, if_neg (by simpa using e)]; simp)
        clear e
        go_wp2_with fail
        refine ⟨⟨k + 1, v, rfl, by simp, hkn, HG.out, ?_, ?_⟩, by simp [intOf]; omega⟩
        · rw [HT2.out]; exact HRow.out
        · rw [HT2.out]; exact HNil.out
      · have e1 : (yk != key) = true := by simpa using e
        have HT2 : Hid (othP key (ps.take (k + 1)) = pre ++ [(yk, yv)]) := Lib.hid (by rw [HT.out, if_pos e])
        clear e
        go_wp2_with (first | (at_builtin; refine pause ?_) | fail)
        unfold Pause
        have ga : Grown wo (wo.alloc (.cells #[.int .u64 yk, .int .u64 yv] 76)) := by go_grown
        refine wpList_add rfl _ _ 31 rfl w.heap.size 76 (.agg #[.int .u64 0, .int .u64 0]) 2 16 Tryz.underlying31 info_pair rfl (by decide) v pre.length (flatP pre) (own_grown HRow.out ga) _ 1 0 [.int .u64 yk, .int .u64 yv] (.inr ⟨by decide, wo.heap.size, 1, rfl, Nat.zero_le _, fun j u hj => ?news⟩) rfl (by simp [Value.oneCell']) ?h63 (by decide) ?hbase rfl rfl ?_
        case news =>
          rcases j with _ | _ | j
          · cases hj; simp [go_sem]
          · cases hj; simp [go_sem]
          · cases hj
        case h63 => omega
        case hbase => have h1 := HG.out.2.2; simp; omega
        intro v' W5 r5 fr5 q5
        have hG5 : Grown w W5 := But.fresh (gtr HG.out ga) q5 (fun i hi => by have := own_at HRow.out hi; omega)
        obtain ⟨g', cap', hv'⟩ := own_open r5 (by omega)
        have R5 := Lib.hid r5
        have HV' := Lib.hid hv'
        clear r5 hv' q5 fr5 d0 d1
        go_wp2_with fail
        refine ⟨⟨k + 1, v', rfl, by simp, hkn, hG5, ?_, ?_⟩, by simp [intOf]; omega⟩
        · rw [HT2.out, List.length_append]; simpa [flatP] using R5.out
        · rw [HT2.out]; exact .inl (by simp)
    · have hlt : ¬ (k : Int) < (n : Int) := by omega
      have HT : Hid (othP key (ps.take k) = othP key ps) := Lib.hid (by rw [List.take_of_length_le (by have := HN.out; omega)])
      rw [HT.out] at HRow HNil
      go_wp2_with fail
      go_ret
      exact ⟨v, rfl, own_flat HRow.out HNil.out, HG.out⟩
end Go.Proofs.YtjdjcaoaefapgabGreat
