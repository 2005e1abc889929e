/- The laws of package world, walked: one step each, heads. -/
import Derived.Test.YtjllemjmdbnkjaaWorldL
import Derived.Test.YtjllemjmdbnkjaaWRef
namespace Go.Proofs.Ytjllemjmdbnkjaa
open Go.ChangeShapes Go.WideShapes Go.ChangeAt Go.RowKit
set_option maxRecDepth 100000
set_option linter.unusedVariables false

theorem ok_ops {c : Cf} (hok : c.Ok) : zOps c.t c.b c.i c.f c.k = ((c.ops : Nat) : Int) := (if_pos hok.z).trans (by simp [Cf.ops])
theorem ok_nodes {c : Cf} (hok : c.Ok) : zNodes c.t c.b c.i c.f c.k = ((c.nodes : Nat) : Int) := (if_pos hok.z).trans (by simp [Cf.nodes])
theorem nxtI_eq {c : Cf} (hok : c.Ok) (i : Int) : nxtI c i = if 0 ≤ i ∧ i < c.nodes then i else -1 := by
  unfold nxtI vNext
  rw [ok_nodes hok]
  simp [hok.z]
theorem wrdI_eq {c : Cf} (hok : c.Ok) (i : Int) : wrdI c i = if 0 ≤ i ∧ i < c.ops then c.nodes + i else -1 := by
  unfold wrdI vWord
  rw [ok_nodes hok, ok_ops hok]
  simp [hok.z]
theorem annI_eq {c : Cf} (hok : c.Ok) (i : Int) : annI c i = if 0 ≤ i ∧ i < c.t then c.nodes + c.ops + i else -1 := by
  unfold annI vAnn
  rw [ok_nodes hok, ok_ops hok]
  simp [hok.z]
/-- How many things of its kind there are. -/
def topI (c : Cf) (k : Int) : Int := if k % 7 ≤ 2 then c.nodes else if k % 7 ≤ 4 then c.ops else c.t
theorem cnt_pl {c : Cf} (hok : c.Ok) (k i : Int) : cnt (List.replicate c.len 0) (plI c k i) = if 0 ≤ i ∧ i < topI c k then 1 else 0 := by
  unfold plI topI cnt
  rw [nxtI_eq hok, wrdI_eq hok, annI_eq hok, List.length_replicate]
  unfold Cf.len
  split
  · by_cases h : 0 ≤ i ∧ i < (c.nodes : Int)
    · rw [if_pos h, if_pos (by omega), if_pos h]
    · rw [if_neg h, if_neg (by omega), if_neg h]
  · split
    · by_cases h : 0 ≤ i ∧ i < (c.ops : Int)
      · rw [if_pos h, if_pos (by omega), if_pos h]
      · rw [if_neg h, if_neg (by omega), if_neg h]
    · by_cases h : 0 ≤ i ∧ i < (c.t : Int)
      · rw [if_pos h, if_pos (by omega), if_pos h]
      · rw [if_neg h, if_neg (by omega), if_neg h]
theorem few_cf {t b i f k : Int} (h : bFew t b i f k = true) : ∃ c : Cf, t = c.t ∧ b = c.b ∧ i = c.i ∧ f = c.f ∧ k = c.k ∧ c.Ok ∧ c.t ≤ 4 ∧ c.b ≤ 4 ∧ c.k ≤ 8 := by
  unfold bFew at h
  simp only [Bool.and_eq_true, decide_eq_true_eq] at h
  obtain ⟨c, rfl, rfl, rfl, rfl, rfl, hok⟩ := cf_of h.1
  exact ⟨c, rfl, rfl, rfl, rfl, rfl, hok, by omega, by omega, by omega⟩

set_option maxHeartbeats 8000000 in
theorem law_WorldSteps (t b i f k ak ai ao aold av : Int) (w : World) (_ : -9223372036854775808 ≤ t) (_ : t ≤ 9223372036854775807) (_ : -9223372036854775808 ≤ b) (_ : b ≤ 9223372036854775807) (_ : -9223372036854775808 ≤ i) (_ : i ≤ 9223372036854775807) (_ : -9223372036854775808 ≤ f) (_ : f ≤ 9223372036854775807) (_ : -9223372036854775808 ≤ k) (_ : k ≤ 9223372036854775807) (k0 : 0 ≤ ak) (k1 : ak ≤ 255) (_ : -9223372036854775808 ≤ ai) (_ : ai ≤ 9223372036854775807) (o0 : 0 ≤ ao) (o1 : ao ≤ 65535) (_ : 0 ≤ aold) (_ : aold ≤ 18446744073709551615) (_ : 0 ≤ av) (_ : av ≤ 18446744073709551615) :
    Calls Try.prog 4 #[.agg #[.int .i64 t, .int .i64 b, .int .i64 i, .int .i64 f, .int .i64 k], .agg #[.int .u8 ak, .int .i64 ai, .int .u16 ao, .int .u64 aold, .int .u64 av]] w fun e w' => e = .returned (.bool true) ∧ Grown w w' := by
  obtain ⟨fw, hfw⟩ : ∃ v, bFew t b i f k = v := ⟨_, rfl⟩
  have HF := Lib.hid hfw
  cases fw with
  | false =>
    clear hfw
    go_enter Try.func4, Try.ntmps4
    go_wp2_with fail
    refine (wAwake _).mono ?_; rintro e w0 ⟨rfl, g0⟩
    have a0 : w0.cell? ⟨w.heap.size, 0, none⟩ = some (.int .i64 t) := gcell g0 (by simp [go_sem])
    have a1 : w0.cell? ⟨w.heap.size, 1, none⟩ = some (.int .i64 b) := gcell g0 (by simp [go_sem])
    have a2 : w0.cell? ⟨w.heap.size, 2, none⟩ = some (.int .i64 i) := gcell g0 (by simp [go_sem])
    have a3 : w0.cell? ⟨w.heap.size, 3, none⟩ = some (.int .i64 f) := gcell g0 (by simp [go_sem])
    have a4 : w0.cell? ⟨w.heap.size, 4, none⟩ = some (.int .i64 k) := gcell g0 (by simp [go_sem])
    replace g0 : Grown w w0 := gtr (by go_grown) g0
    go_wp2_with fail
    refine (Few_at _ _ _ _ _ _ _ HF.out).mono ?_; rintro e w1 ⟨rfl, g1⟩
    go_wp2_with fail
    go_ret
    exact ⟨rfl, gtr g0 g1⟩
  | true =>
    obtain ⟨c, rfl, rfl, rfl, rfl, rfl, hok, ft, fb, fk⟩ := few_cf hfw
    have HOK := Lib.hid hok
    have HO := Lib.hid (ok_ops hok)
    have HN := Lib.hid (ok_nodes hok)
    have HC := Lib.hid (cnt_pl hok ak ai)
    clear hfw hok
    have hsplit : (ak % 7 ≤ 2 ∨ (2 < ak % 7 ∧ ak % 7 ≤ 4) ∨ 4 < ak % 7) ∧ (ai < 0 ∨ (0 ≤ ai ∧ ai < topI c ak) ∨ (0 ≤ ai ∧ topI c ak ≤ ai)) := by omega
    obtain ⟨hk, hi⟩ := hsplit
    rcases hk with hk | ⟨hk, hk2⟩ | hk
    · have hT : topI c ak = (c.nodes : Nat) := by unfold topI; exact if_pos hk
      rw [hT] at hi
      have HT := Lib.hid hT
      clear hT
      rcases hi with hi | ⟨hi, hi2⟩ | ⟨hi, hi2⟩
      · have HN2 : Hid (0 + cnt (List.replicate c.len 0) (plI c ak ai) = 0) := Lib.hid (by rw [HC.out, (if_neg (by rw [HT.out]; omega))]; rfl)
        go_enter Try.func4, Try.ntmps4
        go_wp2_with fail
        refine (wAwake _).mono ?_; rintro e w0 ⟨rfl, g0⟩
        have a0 : w0.cell? ⟨w.heap.size, 0, none⟩ = some (.int .i64 c.t) := gcell g0 (by simp [go_sem])
        have a1 : w0.cell? ⟨w.heap.size, 1, none⟩ = some (.int .i64 c.b) := gcell g0 (by simp [go_sem])
        have a2 : w0.cell? ⟨w.heap.size, 2, none⟩ = some (.int .i64 c.i) := gcell g0 (by simp [go_sem])
        have a3 : w0.cell? ⟨w.heap.size, 3, none⟩ = some (.int .i64 c.f) := gcell g0 (by simp [go_sem])
        have a4 : w0.cell? ⟨w.heap.size, 4, none⟩ = some (.int .i64 c.k) := gcell g0 (by simp [go_sem])
        have b0 : w0.cell? ⟨w.heap.size + 1, 0, none⟩ = some (.int .u8 ak) := gcell g0 (by simp [go_sem])
        have b1 : w0.cell? ⟨w.heap.size + 1, 1, none⟩ = some (.int .i64 ai) := gcell g0 (by simp [go_sem])
        have b2 : w0.cell? ⟨w.heap.size + 1, 2, none⟩ = some (.int .u16 ao) := gcell g0 (by simp [go_sem])
        have b3 : w0.cell? ⟨w.heap.size + 1, 3, none⟩ = some (.int .u64 aold) := gcell g0 (by simp [go_sem])
        have b4 : w0.cell? ⟨w.heap.size + 1, 4, none⟩ = some (.int .u64 av) := gcell g0 (by simp [go_sem])
        replace g0 : Grown w w0 := gtr (by go_grown) g0
        go_wp2_with fail
        refine (Few_at _ _ _ _ _ _ _ HF.out).mono ?_; rintro e w1 ⟨rfl, g1⟩
        replace a0 := gcell g1 a0; replace a1 := gcell g1 a1; replace a2 := gcell g1 a2; replace a3 := gcell g1 a3; replace a4 := gcell g1 a4
        replace b0 := gcell g1 b0; replace b1 := gcell g1 b1; replace b2 := gcell g1 b2; replace b3 := gcell g1 b3; replace b4 := gcell g1 b4
        replace g1 := gtr g0 g1; clear g0
        go_wp2_with fail
        refine (wNew_at _ c HOK.out).mono ?_; rintro e w2 ⟨d, rfl, g2, h2, hp, hb, -, -⟩
        have z1 : ¬ Mine d.p d.b w.heap.size := by have hz : w.heap.size < w1.heap.size := World.block_lt_of_cell? _ _ a0; rintro (h | h) <;> omega
        have z2 : ¬ Mine d.p d.b (w.heap.size + 1) := by have hz : w.heap.size + 1 < w1.heap.size := World.block_lt_of_cell? _ _ b0; rintro (h | h) <;> omega
        replace hp := Nat.le_trans g1.2.2 hp
        replace hb := Nat.le_trans g1.2.2 hb
        replace a0 := gcell g2 a0; replace a1 := gcell g2 a1; replace a2 := gcell g2 a2; replace a3 := gcell g2 a3; replace a4 := gcell g2 a4
        replace b0 := gcell g2 b0; replace b1 := gcell g2 b1; replace b2 := gcell g2 b2; replace b3 := gcell g2 b3; replace b4 := gcell g2 b4
        replace g2 := gtr g1 g2; clear g1
        have H2 := Lib.hid h2
        clear h2
        go_wp2_with fail
        refine (wDo_any _ c d _ 0 _ ak ai ao aold av H2.out (by omega) (by omega) k0 k1 o0 o1).mono ?_; rintro e w3 ⟨rfl, q3, h3⟩
        replace a0 := q3.cell z1 a0; replace a1 := q3.cell z1 a1; replace a2 := q3.cell z1 a2; replace a3 := q3.cell z1 a3; replace a4 := q3.cell z1 a4
        replace b0 := q3.cell z2 b0; replace b1 := q3.cell z2 b1; replace b2 := q3.cell z2 b2; replace b3 := q3.cell z2 b3; replace b4 := q3.cell z2 b4
        rw [HN2.out] at h3
        have k5 := h3.k5
        have H3 := Lib.hid h3
        replace g2 := fresh8 g2 q3 hp hb
        clear h3 H2 q3 hp hb z1 z2
        generalize acW c (List.replicate c.len 0) ak ai ao aold av = ws at *
        generalize acR c (List.replicate c.len 0) ak ai = x1 at *
        generalize acB c (List.replicate c.len 0) ak ai aold = x2 at *
        generalize acT c (List.replicate c.len 0) ak ai = x3 at *
        go_wp2_with fail
        refine (rNodes_at _ _ _ _ _ _ _ HN.out).mono ?_; rintro e w4 ⟨rfl, g4⟩
        replace a0 := gcell g4 a0; replace a1 := gcell g4 a1; replace a2 := gcell g4 a2; replace a3 := gcell g4 a3; replace a4 := gcell g4 a4
        replace b0 := gcell g4 b0; replace b1 := gcell g4 b1; replace b2 := gcell g4 b2; replace b3 := gcell g4 b3; replace b4 := gcell g4 b4
        replace k5 := gcell g4 k5
        replace H3 := Lib.hid (H3.out.grown g4)
        replace g4 := gtr g2 g4; clear g2
        go_wp2_with fail
        refine (Steps_at _ _ _ _ _ H3.out.bank).mono ?_; rintro e w6 ⟨rfl, g6⟩
        go_wp2_with fail
        go_ret
        exact ⟨rfl, gtr g4 g6⟩
      · have HN2 : Hid (0 + cnt (List.replicate c.len 0) (plI c ak ai) = 1) := Lib.hid (by rw [HC.out, (if_pos (by rw [HT.out]; omega))]; rfl)
        go_enter Try.func4, Try.ntmps4
        go_wp2_with fail
        refine (wAwake _).mono ?_; rintro e w0 ⟨rfl, g0⟩
        have a0 : w0.cell? ⟨w.heap.size, 0, none⟩ = some (.int .i64 c.t) := gcell g0 (by simp [go_sem])
        have a1 : w0.cell? ⟨w.heap.size, 1, none⟩ = some (.int .i64 c.b) := gcell g0 (by simp [go_sem])
        have a2 : w0.cell? ⟨w.heap.size, 2, none⟩ = some (.int .i64 c.i) := gcell g0 (by simp [go_sem])
        have a3 : w0.cell? ⟨w.heap.size, 3, none⟩ = some (.int .i64 c.f) := gcell g0 (by simp [go_sem])
        have a4 : w0.cell? ⟨w.heap.size, 4, none⟩ = some (.int .i64 c.k) := gcell g0 (by simp [go_sem])
        have b0 : w0.cell? ⟨w.heap.size + 1, 0, none⟩ = some (.int .u8 ak) := gcell g0 (by simp [go_sem])
        have b1 : w0.cell? ⟨w.heap.size + 1, 1, none⟩ = some (.int .i64 ai) := gcell g0 (by simp [go_sem])
        have b2 : w0.cell? ⟨w.heap.size + 1, 2, none⟩ = some (.int .u16 ao) := gcell g0 (by simp [go_sem])
        have b3 : w0.cell? ⟨w.heap.size + 1, 3, none⟩ = some (.int .u64 aold) := gcell g0 (by simp [go_sem])
        have b4 : w0.cell? ⟨w.heap.size + 1, 4, none⟩ = some (.int .u64 av) := gcell g0 (by simp [go_sem])
        replace g0 : Grown w w0 := gtr (by go_grown) g0
        go_wp2_with fail
        refine (Few_at _ _ _ _ _ _ _ HF.out).mono ?_; rintro e w1 ⟨rfl, g1⟩
        replace a0 := gcell g1 a0; replace a1 := gcell g1 a1; replace a2 := gcell g1 a2; replace a3 := gcell g1 a3; replace a4 := gcell g1 a4
        replace b0 := gcell g1 b0; replace b1 := gcell g1 b1; replace b2 := gcell g1 b2; replace b3 := gcell g1 b3; replace b4 := gcell g1 b4
        replace g1 := gtr g0 g1; clear g0
        go_wp2_with fail
        refine (wNew_at _ c HOK.out).mono ?_; rintro e w2 ⟨d, rfl, g2, h2, hp, hb, -, -⟩
        have z1 : ¬ Mine d.p d.b w.heap.size := by have hz : w.heap.size < w1.heap.size := World.block_lt_of_cell? _ _ a0; rintro (h | h) <;> omega
        have z2 : ¬ Mine d.p d.b (w.heap.size + 1) := by have hz : w.heap.size + 1 < w1.heap.size := World.block_lt_of_cell? _ _ b0; rintro (h | h) <;> omega
        replace hp := Nat.le_trans g1.2.2 hp
        replace hb := Nat.le_trans g1.2.2 hb
        replace a0 := gcell g2 a0; replace a1 := gcell g2 a1; replace a2 := gcell g2 a2; replace a3 := gcell g2 a3; replace a4 := gcell g2 a4
        replace b0 := gcell g2 b0; replace b1 := gcell g2 b1; replace b2 := gcell g2 b2; replace b3 := gcell g2 b3; replace b4 := gcell g2 b4
        replace g2 := gtr g1 g2; clear g1
        have H2 := Lib.hid h2
        clear h2
        go_wp2_with fail
        refine (wDo_any _ c d _ 0 _ ak ai ao aold av H2.out (by omega) (by omega) k0 k1 o0 o1).mono ?_; rintro e w3 ⟨rfl, q3, h3⟩
        replace a0 := q3.cell z1 a0; replace a1 := q3.cell z1 a1; replace a2 := q3.cell z1 a2; replace a3 := q3.cell z1 a3; replace a4 := q3.cell z1 a4
        replace b0 := q3.cell z2 b0; replace b1 := q3.cell z2 b1; replace b2 := q3.cell z2 b2; replace b3 := q3.cell z2 b3; replace b4 := q3.cell z2 b4
        rw [HN2.out] at h3
        have k5 := h3.k5
        have H3 := Lib.hid h3
        replace g2 := fresh8 g2 q3 hp hb
        clear h3 H2 q3 hp hb z1 z2
        generalize acW c (List.replicate c.len 0) ak ai ao aold av = ws at *
        generalize acR c (List.replicate c.len 0) ak ai = x1 at *
        generalize acB c (List.replicate c.len 0) ak ai aold = x2 at *
        generalize acT c (List.replicate c.len 0) ak ai = x3 at *
        go_wp2_with fail
        refine (rNodes_at _ _ _ _ _ _ _ HN.out).mono ?_; rintro e w4 ⟨rfl, g4⟩
        replace a0 := gcell g4 a0; replace a1 := gcell g4 a1; replace a2 := gcell g4 a2; replace a3 := gcell g4 a3; replace a4 := gcell g4 a4
        replace b0 := gcell g4 b0; replace b1 := gcell g4 b1; replace b2 := gcell g4 b2; replace b3 := gcell g4 b3; replace b4 := gcell g4 b4
        replace k5 := gcell g4 k5
        replace H3 := Lib.hid (H3.out.grown g4)
        replace g4 := gtr g2 g4; clear g2
        go_wp2_with fail
        refine (Steps_at _ _ _ _ _ H3.out.bank).mono ?_; rintro e w6 ⟨rfl, g6⟩
        go_wp2_with fail
        go_ret
        exact ⟨rfl, gtr g4 g6⟩
      · have HN2 : Hid (0 + cnt (List.replicate c.len 0) (plI c ak ai) = 0) := Lib.hid (by rw [HC.out, (if_neg (by rw [HT.out]; omega))]; rfl)
        go_enter Try.func4, Try.ntmps4
        go_wp2_with fail
        refine (wAwake _).mono ?_; rintro e w0 ⟨rfl, g0⟩
        have a0 : w0.cell? ⟨w.heap.size, 0, none⟩ = some (.int .i64 c.t) := gcell g0 (by simp [go_sem])
        have a1 : w0.cell? ⟨w.heap.size, 1, none⟩ = some (.int .i64 c.b) := gcell g0 (by simp [go_sem])
        have a2 : w0.cell? ⟨w.heap.size, 2, none⟩ = some (.int .i64 c.i) := gcell g0 (by simp [go_sem])
        have a3 : w0.cell? ⟨w.heap.size, 3, none⟩ = some (.int .i64 c.f) := gcell g0 (by simp [go_sem])
        have a4 : w0.cell? ⟨w.heap.size, 4, none⟩ = some (.int .i64 c.k) := gcell g0 (by simp [go_sem])
        have b0 : w0.cell? ⟨w.heap.size + 1, 0, none⟩ = some (.int .u8 ak) := gcell g0 (by simp [go_sem])
        have b1 : w0.cell? ⟨w.heap.size + 1, 1, none⟩ = some (.int .i64 ai) := gcell g0 (by simp [go_sem])
        have b2 : w0.cell? ⟨w.heap.size + 1, 2, none⟩ = some (.int .u16 ao) := gcell g0 (by simp [go_sem])
        have b3 : w0.cell? ⟨w.heap.size + 1, 3, none⟩ = some (.int .u64 aold) := gcell g0 (by simp [go_sem])
        have b4 : w0.cell? ⟨w.heap.size + 1, 4, none⟩ = some (.int .u64 av) := gcell g0 (by simp [go_sem])
        replace g0 : Grown w w0 := gtr (by go_grown) g0
        go_wp2_with fail
        refine (Few_at _ _ _ _ _ _ _ HF.out).mono ?_; rintro e w1 ⟨rfl, g1⟩
        replace a0 := gcell g1 a0; replace a1 := gcell g1 a1; replace a2 := gcell g1 a2; replace a3 := gcell g1 a3; replace a4 := gcell g1 a4
        replace b0 := gcell g1 b0; replace b1 := gcell g1 b1; replace b2 := gcell g1 b2; replace b3 := gcell g1 b3; replace b4 := gcell g1 b4
        replace g1 := gtr g0 g1; clear g0
        go_wp2_with fail
        refine (wNew_at _ c HOK.out).mono ?_; rintro e w2 ⟨d, rfl, g2, h2, hp, hb, -, -⟩
        have z1 : ¬ Mine d.p d.b w.heap.size := by have hz : w.heap.size < w1.heap.size := World.block_lt_of_cell? _ _ a0; rintro (h | h) <;> omega
        have z2 : ¬ Mine d.p d.b (w.heap.size + 1) := by have hz : w.heap.size + 1 < w1.heap.size := World.block_lt_of_cell? _ _ b0; rintro (h | h) <;> omega
        replace hp := Nat.le_trans g1.2.2 hp
        replace hb := Nat.le_trans g1.2.2 hb
        replace a0 := gcell g2 a0; replace a1 := gcell g2 a1; replace a2 := gcell g2 a2; replace a3 := gcell g2 a3; replace a4 := gcell g2 a4
        replace b0 := gcell g2 b0; replace b1 := gcell g2 b1; replace b2 := gcell g2 b2; replace b3 := gcell g2 b3; replace b4 := gcell g2 b4
        replace g2 := gtr g1 g2; clear g1
        have H2 := Lib.hid h2
        clear h2
        go_wp2_with fail
        refine (wDo_any _ c d _ 0 _ ak ai ao aold av H2.out (by omega) (by omega) k0 k1 o0 o1).mono ?_; rintro e w3 ⟨rfl, q3, h3⟩
        replace a0 := q3.cell z1 a0; replace a1 := q3.cell z1 a1; replace a2 := q3.cell z1 a2; replace a3 := q3.cell z1 a3; replace a4 := q3.cell z1 a4
        replace b0 := q3.cell z2 b0; replace b1 := q3.cell z2 b1; replace b2 := q3.cell z2 b2; replace b3 := q3.cell z2 b3; replace b4 := q3.cell z2 b4
        rw [HN2.out] at h3
        have k5 := h3.k5
        have H3 := Lib.hid h3
        replace g2 := fresh8 g2 q3 hp hb
        clear h3 H2 q3 hp hb z1 z2
        generalize acW c (List.replicate c.len 0) ak ai ao aold av = ws at *
        generalize acR c (List.replicate c.len 0) ak ai = x1 at *
        generalize acB c (List.replicate c.len 0) ak ai aold = x2 at *
        generalize acT c (List.replicate c.len 0) ak ai = x3 at *
        go_wp2_with fail
        refine (rNodes_at _ _ _ _ _ _ _ HN.out).mono ?_; rintro e w4 ⟨rfl, g4⟩
        replace a0 := gcell g4 a0; replace a1 := gcell g4 a1; replace a2 := gcell g4 a2; replace a3 := gcell g4 a3; replace a4 := gcell g4 a4
        replace b0 := gcell g4 b0; replace b1 := gcell g4 b1; replace b2 := gcell g4 b2; replace b3 := gcell g4 b3; replace b4 := gcell g4 b4
        replace k5 := gcell g4 k5
        replace H3 := Lib.hid (H3.out.grown g4)
        replace g4 := gtr g2 g4; clear g2
        go_wp2_with fail
        refine (Steps_at _ _ _ _ _ H3.out.bank).mono ?_; rintro e w6 ⟨rfl, g6⟩
        go_wp2_with fail
        go_ret
        exact ⟨rfl, gtr g4 g6⟩
    · have hT : topI c ak = (c.ops : Nat) := by unfold topI; exact (if_neg (by omega)).trans (if_pos hk2)
      rw [hT] at hi
      have HT := Lib.hid hT
      clear hT
      rcases hi with hi | ⟨hi, hi2⟩ | ⟨hi, hi2⟩
      · have HN2 : Hid (0 + cnt (List.replicate c.len 0) (plI c ak ai) = 0) := Lib.hid (by rw [HC.out, (if_neg (by rw [HT.out]; omega))]; rfl)
        go_enter Try.func4, Try.ntmps4
        go_wp2_with fail
        refine (wAwake _).mono ?_; rintro e w0 ⟨rfl, g0⟩
        have a0 : w0.cell? ⟨w.heap.size, 0, none⟩ = some (.int .i64 c.t) := gcell g0 (by simp [go_sem])
        have a1 : w0.cell? ⟨w.heap.size, 1, none⟩ = some (.int .i64 c.b) := gcell g0 (by simp [go_sem])
        have a2 : w0.cell? ⟨w.heap.size, 2, none⟩ = some (.int .i64 c.i) := gcell g0 (by simp [go_sem])
        have a3 : w0.cell? ⟨w.heap.size, 3, none⟩ = some (.int .i64 c.f) := gcell g0 (by simp [go_sem])
        have a4 : w0.cell? ⟨w.heap.size, 4, none⟩ = some (.int .i64 c.k) := gcell g0 (by simp [go_sem])
        have b0 : w0.cell? ⟨w.heap.size + 1, 0, none⟩ = some (.int .u8 ak) := gcell g0 (by simp [go_sem])
        have b1 : w0.cell? ⟨w.heap.size + 1, 1, none⟩ = some (.int .i64 ai) := gcell g0 (by simp [go_sem])
        have b2 : w0.cell? ⟨w.heap.size + 1, 2, none⟩ = some (.int .u16 ao) := gcell g0 (by simp [go_sem])
        have b3 : w0.cell? ⟨w.heap.size + 1, 3, none⟩ = some (.int .u64 aold) := gcell g0 (by simp [go_sem])
        have b4 : w0.cell? ⟨w.heap.size + 1, 4, none⟩ = some (.int .u64 av) := gcell g0 (by simp [go_sem])
        replace g0 : Grown w w0 := gtr (by go_grown) g0
        go_wp2_with fail
        refine (Few_at _ _ _ _ _ _ _ HF.out).mono ?_; rintro e w1 ⟨rfl, g1⟩
        replace a0 := gcell g1 a0; replace a1 := gcell g1 a1; replace a2 := gcell g1 a2; replace a3 := gcell g1 a3; replace a4 := gcell g1 a4
        replace b0 := gcell g1 b0; replace b1 := gcell g1 b1; replace b2 := gcell g1 b2; replace b3 := gcell g1 b3; replace b4 := gcell g1 b4
        replace g1 := gtr g0 g1; clear g0
        go_wp2_with fail
        refine (wNew_at _ c HOK.out).mono ?_; rintro e w2 ⟨d, rfl, g2, h2, hp, hb, -, -⟩
        have z1 : ¬ Mine d.p d.b w.heap.size := by have hz : w.heap.size < w1.heap.size := World.block_lt_of_cell? _ _ a0; rintro (h | h) <;> omega
        have z2 : ¬ Mine d.p d.b (w.heap.size + 1) := by have hz : w.heap.size + 1 < w1.heap.size := World.block_lt_of_cell? _ _ b0; rintro (h | h) <;> omega
        replace hp := Nat.le_trans g1.2.2 hp
        replace hb := Nat.le_trans g1.2.2 hb
        replace a0 := gcell g2 a0; replace a1 := gcell g2 a1; replace a2 := gcell g2 a2; replace a3 := gcell g2 a3; replace a4 := gcell g2 a4
        replace b0 := gcell g2 b0; replace b1 := gcell g2 b1; replace b2 := gcell g2 b2; replace b3 := gcell g2 b3; replace b4 := gcell g2 b4
        replace g2 := gtr g1 g2; clear g1
        have H2 := Lib.hid h2
        clear h2
        go_wp2_with fail
        refine (wDo_any _ c d _ 0 _ ak ai ao aold av H2.out (by omega) (by omega) k0 k1 o0 o1).mono ?_; rintro e w3 ⟨rfl, q3, h3⟩
        replace a0 := q3.cell z1 a0; replace a1 := q3.cell z1 a1; replace a2 := q3.cell z1 a2; replace a3 := q3.cell z1 a3; replace a4 := q3.cell z1 a4
        replace b0 := q3.cell z2 b0; replace b1 := q3.cell z2 b1; replace b2 := q3.cell z2 b2; replace b3 := q3.cell z2 b3; replace b4 := q3.cell z2 b4
        rw [HN2.out] at h3
        have k5 := h3.k5
        have H3 := Lib.hid h3
        replace g2 := fresh8 g2 q3 hp hb
        clear h3 H2 q3 hp hb z1 z2
        generalize acW c (List.replicate c.len 0) ak ai ao aold av = ws at *
        generalize acR c (List.replicate c.len 0) ak ai = x1 at *
        generalize acB c (List.replicate c.len 0) ak ai aold = x2 at *
        generalize acT c (List.replicate c.len 0) ak ai = x3 at *
        go_wp2_with fail
        refine (rNodes_at _ _ _ _ _ _ _ HN.out).mono ?_; rintro e w4 ⟨rfl, g4⟩
        replace a0 := gcell g4 a0; replace a1 := gcell g4 a1; replace a2 := gcell g4 a2; replace a3 := gcell g4 a3; replace a4 := gcell g4 a4
        replace b0 := gcell g4 b0; replace b1 := gcell g4 b1; replace b2 := gcell g4 b2; replace b3 := gcell g4 b3; replace b4 := gcell g4 b4
        replace k5 := gcell g4 k5
        replace H3 := Lib.hid (H3.out.grown g4)
        replace g4 := gtr g2 g4; clear g2
        go_wp2_with fail
        refine (rOps_at _ _ _ _ _ _ _ HO.out).mono ?_; rintro e w5 ⟨rfl, g5⟩
        replace a0 := gcell g5 a0; replace a1 := gcell g5 a1; replace a2 := gcell g5 a2; replace a3 := gcell g5 a3; replace a4 := gcell g5 a4
        replace b0 := gcell g5 b0; replace b1 := gcell g5 b1; replace b2 := gcell g5 b2; replace b3 := gcell g5 b3; replace b4 := gcell g5 b4
        replace k5 := gcell g5 k5
        replace H3 := Lib.hid (H3.out.grown g5)
        replace g4 := gtr g4 g5; clear g5
        go_wp2_with fail
        refine (Steps_at _ _ _ _ _ H3.out.bank).mono ?_; rintro e w6 ⟨rfl, g6⟩
        go_wp2_with fail
        go_ret
        exact ⟨rfl, gtr g4 g6⟩
      · have HN2 : Hid (0 + cnt (List.replicate c.len 0) (plI c ak ai) = 1) := Lib.hid (by rw [HC.out, (if_pos (by rw [HT.out]; omega))]; rfl)
        go_enter Try.func4, Try.ntmps4
        go_wp2_with fail
        refine (wAwake _).mono ?_; rintro e w0 ⟨rfl, g0⟩
        have a0 : w0.cell? ⟨w.heap.size, 0, none⟩ = some (.int .i64 c.t) := gcell g0 (by simp [go_sem])
        have a1 : w0.cell? ⟨w.heap.size, 1, none⟩ = some (.int .i64 c.b) := gcell g0 (by simp [go_sem])
        have a2 : w0.cell? ⟨w.heap.size, 2, none⟩ = some (.int .i64 c.i) := gcell g0 (by simp [go_sem])
        have a3 : w0.cell? ⟨w.heap.size, 3, none⟩ = some (.int .i64 c.f) := gcell g0 (by simp [go_sem])
        have a4 : w0.cell? ⟨w.heap.size, 4, none⟩ = some (.int .i64 c.k) := gcell g0 (by simp [go_sem])
        have b0 : w0.cell? ⟨w.heap.size + 1, 0, none⟩ = some (.int .u8 ak) := gcell g0 (by simp [go_sem])
        have b1 : w0.cell? ⟨w.heap.size + 1, 1, none⟩ = some (.int .i64 ai) := gcell g0 (by simp [go_sem])
        have b2 : w0.cell? ⟨w.heap.size + 1, 2, none⟩ = some (.int .u16 ao) := gcell g0 (by simp [go_sem])
        have b3 : w0.cell? ⟨w.heap.size + 1, 3, none⟩ = some (.int .u64 aold) := gcell g0 (by simp [go_sem])
        have b4 : w0.cell? ⟨w.heap.size + 1, 4, none⟩ = some (.int .u64 av) := gcell g0 (by simp [go_sem])
        replace g0 : Grown w w0 := gtr (by go_grown) g0
        go_wp2_with fail
        refine (Few_at _ _ _ _ _ _ _ HF.out).mono ?_; rintro e w1 ⟨rfl, g1⟩
        replace a0 := gcell g1 a0; replace a1 := gcell g1 a1; replace a2 := gcell g1 a2; replace a3 := gcell g1 a3; replace a4 := gcell g1 a4
        replace b0 := gcell g1 b0; replace b1 := gcell g1 b1; replace b2 := gcell g1 b2; replace b3 := gcell g1 b3; replace b4 := gcell g1 b4
        replace g1 := gtr g0 g1; clear g0
        go_wp2_with fail
        refine (wNew_at _ c HOK.out).mono ?_; rintro e w2 ⟨d, rfl, g2, h2, hp, hb, -, -⟩
        have z1 : ¬ Mine d.p d.b w.heap.size := by have hz : w.heap.size < w1.heap.size := World.block_lt_of_cell? _ _ a0; rintro (h | h) <;> omega
        have z2 : ¬ Mine d.p d.b (w.heap.size + 1) := by have hz : w.heap.size + 1 < w1.heap.size := World.block_lt_of_cell? _ _ b0; rintro (h | h) <;> omega
        replace hp := Nat.le_trans g1.2.2 hp
        replace hb := Nat.le_trans g1.2.2 hb
        replace a0 := gcell g2 a0; replace a1 := gcell g2 a1; replace a2 := gcell g2 a2; replace a3 := gcell g2 a3; replace a4 := gcell g2 a4
        replace b0 := gcell g2 b0; replace b1 := gcell g2 b1; replace b2 := gcell g2 b2; replace b3 := gcell g2 b3; replace b4 := gcell g2 b4
        replace g2 := gtr g1 g2; clear g1
        have H2 := Lib.hid h2
        clear h2
        go_wp2_with fail
        refine (wDo_any _ c d _ 0 _ ak ai ao aold av H2.out (by omega) (by omega) k0 k1 o0 o1).mono ?_; rintro e w3 ⟨rfl, q3, h3⟩
        replace a0 := q3.cell z1 a0; replace a1 := q3.cell z1 a1; replace a2 := q3.cell z1 a2; replace a3 := q3.cell z1 a3; replace a4 := q3.cell z1 a4
        replace b0 := q3.cell z2 b0; replace b1 := q3.cell z2 b1; replace b2 := q3.cell z2 b2; replace b3 := q3.cell z2 b3; replace b4 := q3.cell z2 b4
        rw [HN2.out] at h3
        have k5 := h3.k5
        have H3 := Lib.hid h3
        replace g2 := fresh8 g2 q3 hp hb
        clear h3 H2 q3 hp hb z1 z2
        generalize acW c (List.replicate c.len 0) ak ai ao aold av = ws at *
        generalize acR c (List.replicate c.len 0) ak ai = x1 at *
        generalize acB c (List.replicate c.len 0) ak ai aold = x2 at *
        generalize acT c (List.replicate c.len 0) ak ai = x3 at *
        go_wp2_with fail
        refine (rNodes_at _ _ _ _ _ _ _ HN.out).mono ?_; rintro e w4 ⟨rfl, g4⟩
        replace a0 := gcell g4 a0; replace a1 := gcell g4 a1; replace a2 := gcell g4 a2; replace a3 := gcell g4 a3; replace a4 := gcell g4 a4
        replace b0 := gcell g4 b0; replace b1 := gcell g4 b1; replace b2 := gcell g4 b2; replace b3 := gcell g4 b3; replace b4 := gcell g4 b4
        replace k5 := gcell g4 k5
        replace H3 := Lib.hid (H3.out.grown g4)
        replace g4 := gtr g2 g4; clear g2
        go_wp2_with fail
        refine (rOps_at _ _ _ _ _ _ _ HO.out).mono ?_; rintro e w5 ⟨rfl, g5⟩
        replace a0 := gcell g5 a0; replace a1 := gcell g5 a1; replace a2 := gcell g5 a2; replace a3 := gcell g5 a3; replace a4 := gcell g5 a4
        replace b0 := gcell g5 b0; replace b1 := gcell g5 b1; replace b2 := gcell g5 b2; replace b3 := gcell g5 b3; replace b4 := gcell g5 b4
        replace k5 := gcell g5 k5
        replace H3 := Lib.hid (H3.out.grown g5)
        replace g4 := gtr g4 g5; clear g5
        go_wp2_with fail
        refine (Steps_at _ _ _ _ _ H3.out.bank).mono ?_; rintro e w6 ⟨rfl, g6⟩
        go_wp2_with fail
        go_ret
        exact ⟨rfl, gtr g4 g6⟩
      · have HN2 : Hid (0 + cnt (List.replicate c.len 0) (plI c ak ai) = 0) := Lib.hid (by rw [HC.out, (if_neg (by rw [HT.out]; omega))]; rfl)
        go_enter Try.func4, Try.ntmps4
        go_wp2_with fail
        refine (wAwake _).mono ?_; rintro e w0 ⟨rfl, g0⟩
        have a0 : w0.cell? ⟨w.heap.size, 0, none⟩ = some (.int .i64 c.t) := gcell g0 (by simp [go_sem])
        have a1 : w0.cell? ⟨w.heap.size, 1, none⟩ = some (.int .i64 c.b) := gcell g0 (by simp [go_sem])
        have a2 : w0.cell? ⟨w.heap.size, 2, none⟩ = some (.int .i64 c.i) := gcell g0 (by simp [go_sem])
        have a3 : w0.cell? ⟨w.heap.size, 3, none⟩ = some (.int .i64 c.f) := gcell g0 (by simp [go_sem])
        have a4 : w0.cell? ⟨w.heap.size, 4, none⟩ = some (.int .i64 c.k) := gcell g0 (by simp [go_sem])
        have b0 : w0.cell? ⟨w.heap.size + 1, 0, none⟩ = some (.int .u8 ak) := gcell g0 (by simp [go_sem])
        have b1 : w0.cell? ⟨w.heap.size + 1, 1, none⟩ = some (.int .i64 ai) := gcell g0 (by simp [go_sem])
        have b2 : w0.cell? ⟨w.heap.size + 1, 2, none⟩ = some (.int .u16 ao) := gcell g0 (by simp [go_sem])
        have b3 : w0.cell? ⟨w.heap.size + 1, 3, none⟩ = some (.int .u64 aold) := gcell g0 (by simp [go_sem])
        have b4 : w0.cell? ⟨w.heap.size + 1, 4, none⟩ = some (.int .u64 av) := gcell g0 (by simp [go_sem])
        replace g0 : Grown w w0 := gtr (by go_grown) g0
        go_wp2_with fail
        refine (Few_at _ _ _ _ _ _ _ HF.out).mono ?_; rintro e w1 ⟨rfl, g1⟩
        replace a0 := gcell g1 a0; replace a1 := gcell g1 a1; replace a2 := gcell g1 a2; replace a3 := gcell g1 a3; replace a4 := gcell g1 a4
        replace b0 := gcell g1 b0; replace b1 := gcell g1 b1; replace b2 := gcell g1 b2; replace b3 := gcell g1 b3; replace b4 := gcell g1 b4
        replace g1 := gtr g0 g1; clear g0
        go_wp2_with fail
        refine (wNew_at _ c HOK.out).mono ?_; rintro e w2 ⟨d, rfl, g2, h2, hp, hb, -, -⟩
        have z1 : ¬ Mine d.p d.b w.heap.size := by have hz : w.heap.size < w1.heap.size := World.block_lt_of_cell? _ _ a0; rintro (h | h) <;> omega
        have z2 : ¬ Mine d.p d.b (w.heap.size + 1) := by have hz : w.heap.size + 1 < w1.heap.size := World.block_lt_of_cell? _ _ b0; rintro (h | h) <;> omega
        replace hp := Nat.le_trans g1.2.2 hp
        replace hb := Nat.le_trans g1.2.2 hb
        replace a0 := gcell g2 a0; replace a1 := gcell g2 a1; replace a2 := gcell g2 a2; replace a3 := gcell g2 a3; replace a4 := gcell g2 a4
        replace b0 := gcell g2 b0; replace b1 := gcell g2 b1; replace b2 := gcell g2 b2; replace b3 := gcell g2 b3; replace b4 := gcell g2 b4
        replace g2 := gtr g1 g2; clear g1
        have H2 := Lib.hid h2
        clear h2
        go_wp2_with fail
        refine (wDo_any _ c d _ 0 _ ak ai ao aold av H2.out (by omega) (by omega) k0 k1 o0 o1).mono ?_; rintro e w3 ⟨rfl, q3, h3⟩
        replace a0 := q3.cell z1 a0; replace a1 := q3.cell z1 a1; replace a2 := q3.cell z1 a2; replace a3 := q3.cell z1 a3; replace a4 := q3.cell z1 a4
        replace b0 := q3.cell z2 b0; replace b1 := q3.cell z2 b1; replace b2 := q3.cell z2 b2; replace b3 := q3.cell z2 b3; replace b4 := q3.cell z2 b4
        rw [HN2.out] at h3
        have k5 := h3.k5
        have H3 := Lib.hid h3
        replace g2 := fresh8 g2 q3 hp hb
        clear h3 H2 q3 hp hb z1 z2
        generalize acW c (List.replicate c.len 0) ak ai ao aold av = ws at *
        generalize acR c (List.replicate c.len 0) ak ai = x1 at *
        generalize acB c (List.replicate c.len 0) ak ai aold = x2 at *
        generalize acT c (List.replicate c.len 0) ak ai = x3 at *
        go_wp2_with fail
        refine (rNodes_at _ _ _ _ _ _ _ HN.out).mono ?_; rintro e w4 ⟨rfl, g4⟩
        replace a0 := gcell g4 a0; replace a1 := gcell g4 a1; replace a2 := gcell g4 a2; replace a3 := gcell g4 a3; replace a4 := gcell g4 a4
        replace b0 := gcell g4 b0; replace b1 := gcell g4 b1; replace b2 := gcell g4 b2; replace b3 := gcell g4 b3; replace b4 := gcell g4 b4
        replace k5 := gcell g4 k5
        replace H3 := Lib.hid (H3.out.grown g4)
        replace g4 := gtr g2 g4; clear g2
        go_wp2_with fail
        refine (rOps_at _ _ _ _ _ _ _ HO.out).mono ?_; rintro e w5 ⟨rfl, g5⟩
        replace a0 := gcell g5 a0; replace a1 := gcell g5 a1; replace a2 := gcell g5 a2; replace a3 := gcell g5 a3; replace a4 := gcell g5 a4
        replace b0 := gcell g5 b0; replace b1 := gcell g5 b1; replace b2 := gcell g5 b2; replace b3 := gcell g5 b3; replace b4 := gcell g5 b4
        replace k5 := gcell g5 k5
        replace H3 := Lib.hid (H3.out.grown g5)
        replace g4 := gtr g4 g5; clear g5
        go_wp2_with fail
        refine (Steps_at _ _ _ _ _ H3.out.bank).mono ?_; rintro e w6 ⟨rfl, g6⟩
        go_wp2_with fail
        go_ret
        exact ⟨rfl, gtr g4 g6⟩
    · have hT : topI c ak = (c.t : Nat) := by unfold topI; exact (if_neg (by omega)).trans (if_neg (by omega))
      rw [hT] at hi
      have HT := Lib.hid hT
      clear hT
      rcases hi with hi | ⟨hi, hi2⟩ | ⟨hi, hi2⟩
      · have HN2 : Hid (0 + cnt (List.replicate c.len 0) (plI c ak ai) = 0) := Lib.hid (by rw [HC.out, (if_neg (by rw [HT.out]; omega))]; rfl)
        go_enter Try.func4, Try.ntmps4
        go_wp2_with fail
        refine (wAwake _).mono ?_; rintro e w0 ⟨rfl, g0⟩
        have a0 : w0.cell? ⟨w.heap.size, 0, none⟩ = some (.int .i64 c.t) := gcell g0 (by simp [go_sem])
        have a1 : w0.cell? ⟨w.heap.size, 1, none⟩ = some (.int .i64 c.b) := gcell g0 (by simp [go_sem])
        have a2 : w0.cell? ⟨w.heap.size, 2, none⟩ = some (.int .i64 c.i) := gcell g0 (by simp [go_sem])
        have a3 : w0.cell? ⟨w.heap.size, 3, none⟩ = some (.int .i64 c.f) := gcell g0 (by simp [go_sem])
        have a4 : w0.cell? ⟨w.heap.size, 4, none⟩ = some (.int .i64 c.k) := gcell g0 (by simp [go_sem])
        have b0 : w0.cell? ⟨w.heap.size + 1, 0, none⟩ = some (.int .u8 ak) := gcell g0 (by simp [go_sem])
        have b1 : w0.cell? ⟨w.heap.size + 1, 1, none⟩ = some (.int .i64 ai) := gcell g0 (by simp [go_sem])
        have b2 : w0.cell? ⟨w.heap.size + 1, 2, none⟩ = some (.int .u16 ao) := gcell g0 (by simp [go_sem])
        have b3 : w0.cell? ⟨w.heap.size + 1, 3, none⟩ = some (.int .u64 aold) := gcell g0 (by simp [go_sem])
        have b4 : w0.cell? ⟨w.heap.size + 1, 4, none⟩ = some (.int .u64 av) := gcell g0 (by simp [go_sem])
        replace g0 : Grown w w0 := gtr (by go_grown) g0
        go_wp2_with fail
        refine (Few_at _ _ _ _ _ _ _ HF.out).mono ?_; rintro e w1 ⟨rfl, g1⟩
        replace a0 := gcell g1 a0; replace a1 := gcell g1 a1; replace a2 := gcell g1 a2; replace a3 := gcell g1 a3; replace a4 := gcell g1 a4
        replace b0 := gcell g1 b0; replace b1 := gcell g1 b1; replace b2 := gcell g1 b2; replace b3 := gcell g1 b3; replace b4 := gcell g1 b4
        replace g1 := gtr g0 g1; clear g0
        go_wp2_with fail
        refine (wNew_at _ c HOK.out).mono ?_; rintro e w2 ⟨d, rfl, g2, h2, hp, hb, -, -⟩
        have z1 : ¬ Mine d.p d.b w.heap.size := by have hz : w.heap.size < w1.heap.size := World.block_lt_of_cell? _ _ a0; rintro (h | h) <;> omega
        have z2 : ¬ Mine d.p d.b (w.heap.size + 1) := by have hz : w.heap.size + 1 < w1.heap.size := World.block_lt_of_cell? _ _ b0; rintro (h | h) <;> omega
        replace hp := Nat.le_trans g1.2.2 hp
        replace hb := Nat.le_trans g1.2.2 hb
        replace a0 := gcell g2 a0; replace a1 := gcell g2 a1; replace a2 := gcell g2 a2; replace a3 := gcell g2 a3; replace a4 := gcell g2 a4
        replace b0 := gcell g2 b0; replace b1 := gcell g2 b1; replace b2 := gcell g2 b2; replace b3 := gcell g2 b3; replace b4 := gcell g2 b4
        replace g2 := gtr g1 g2; clear g1
        have H2 := Lib.hid h2
        clear h2
        go_wp2_with fail
        refine (wDo_any _ c d _ 0 _ ak ai ao aold av H2.out (by omega) (by omega) k0 k1 o0 o1).mono ?_; rintro e w3 ⟨rfl, q3, h3⟩
        replace a0 := q3.cell z1 a0; replace a1 := q3.cell z1 a1; replace a2 := q3.cell z1 a2; replace a3 := q3.cell z1 a3; replace a4 := q3.cell z1 a4
        replace b0 := q3.cell z2 b0; replace b1 := q3.cell z2 b1; replace b2 := q3.cell z2 b2; replace b3 := q3.cell z2 b3; replace b4 := q3.cell z2 b4
        rw [HN2.out] at h3
        have k5 := h3.k5
        have H3 := Lib.hid h3
        replace g2 := fresh8 g2 q3 hp hb
        clear h3 H2 q3 hp hb z1 z2
        generalize acW c (List.replicate c.len 0) ak ai ao aold av = ws at *
        generalize acR c (List.replicate c.len 0) ak ai = x1 at *
        generalize acB c (List.replicate c.len 0) ak ai aold = x2 at *
        generalize acT c (List.replicate c.len 0) ak ai = x3 at *
        go_wp2_with fail
        refine (rNodes_at _ _ _ _ _ _ _ HN.out).mono ?_; rintro e w4 ⟨rfl, g4⟩
        replace a0 := gcell g4 a0; replace a1 := gcell g4 a1; replace a2 := gcell g4 a2; replace a3 := gcell g4 a3; replace a4 := gcell g4 a4
        replace b0 := gcell g4 b0; replace b1 := gcell g4 b1; replace b2 := gcell g4 b2; replace b3 := gcell g4 b3; replace b4 := gcell g4 b4
        replace k5 := gcell g4 k5
        replace H3 := Lib.hid (H3.out.grown g4)
        replace g4 := gtr g2 g4; clear g2
        go_wp2_with fail
        refine (rOps_at _ _ _ _ _ _ _ HO.out).mono ?_; rintro e w5 ⟨rfl, g5⟩
        replace a0 := gcell g5 a0; replace a1 := gcell g5 a1; replace a2 := gcell g5 a2; replace a3 := gcell g5 a3; replace a4 := gcell g5 a4
        replace b0 := gcell g5 b0; replace b1 := gcell g5 b1; replace b2 := gcell g5 b2; replace b3 := gcell g5 b3; replace b4 := gcell g5 b4
        replace k5 := gcell g5 k5
        replace H3 := Lib.hid (H3.out.grown g5)
        replace g4 := gtr g4 g5; clear g5
        go_wp2_with fail
        refine (Steps_at _ _ _ _ _ H3.out.bank).mono ?_; rintro e w6 ⟨rfl, g6⟩
        go_wp2_with fail
        go_ret
        exact ⟨rfl, gtr g4 g6⟩
      · have HN2 : Hid (0 + cnt (List.replicate c.len 0) (plI c ak ai) = 1) := Lib.hid (by rw [HC.out, (if_pos (by rw [HT.out]; omega))]; rfl)
        go_enter Try.func4, Try.ntmps4
        go_wp2_with fail
        refine (wAwake _).mono ?_; rintro e w0 ⟨rfl, g0⟩
        have a0 : w0.cell? ⟨w.heap.size, 0, none⟩ = some (.int .i64 c.t) := gcell g0 (by simp [go_sem])
        have a1 : w0.cell? ⟨w.heap.size, 1, none⟩ = some (.int .i64 c.b) := gcell g0 (by simp [go_sem])
        have a2 : w0.cell? ⟨w.heap.size, 2, none⟩ = some (.int .i64 c.i) := gcell g0 (by simp [go_sem])
        have a3 : w0.cell? ⟨w.heap.size, 3, none⟩ = some (.int .i64 c.f) := gcell g0 (by simp [go_sem])
        have a4 : w0.cell? ⟨w.heap.size, 4, none⟩ = some (.int .i64 c.k) := gcell g0 (by simp [go_sem])
        have b0 : w0.cell? ⟨w.heap.size + 1, 0, none⟩ = some (.int .u8 ak) := gcell g0 (by simp [go_sem])
        have b1 : w0.cell? ⟨w.heap.size + 1, 1, none⟩ = some (.int .i64 ai) := gcell g0 (by simp [go_sem])
        have b2 : w0.cell? ⟨w.heap.size + 1, 2, none⟩ = some (.int .u16 ao) := gcell g0 (by simp [go_sem])
        have b3 : w0.cell? ⟨w.heap.size + 1, 3, none⟩ = some (.int .u64 aold) := gcell g0 (by simp [go_sem])
        have b4 : w0.cell? ⟨w.heap.size + 1, 4, none⟩ = some (.int .u64 av) := gcell g0 (by simp [go_sem])
        replace g0 : Grown w w0 := gtr (by go_grown) g0
        go_wp2_with fail
        refine (Few_at _ _ _ _ _ _ _ HF.out).mono ?_; rintro e w1 ⟨rfl, g1⟩
        replace a0 := gcell g1 a0; replace a1 := gcell g1 a1; replace a2 := gcell g1 a2; replace a3 := gcell g1 a3; replace a4 := gcell g1 a4
        replace b0 := gcell g1 b0; replace b1 := gcell g1 b1; replace b2 := gcell g1 b2; replace b3 := gcell g1 b3; replace b4 := gcell g1 b4
        replace g1 := gtr g0 g1; clear g0
        go_wp2_with fail
        refine (wNew_at _ c HOK.out).mono ?_; rintro e w2 ⟨d, rfl, g2, h2, hp, hb, -, -⟩
        have z1 : ¬ Mine d.p d.b w.heap.size := by have hz : w.heap.size < w1.heap.size := World.block_lt_of_cell? _ _ a0; rintro (h | h) <;> omega
        have z2 : ¬ Mine d.p d.b (w.heap.size + 1) := by have hz : w.heap.size + 1 < w1.heap.size := World.block_lt_of_cell? _ _ b0; rintro (h | h) <;> omega
        replace hp := Nat.le_trans g1.2.2 hp
        replace hb := Nat.le_trans g1.2.2 hb
        replace a0 := gcell g2 a0; replace a1 := gcell g2 a1; replace a2 := gcell g2 a2; replace a3 := gcell g2 a3; replace a4 := gcell g2 a4
        replace b0 := gcell g2 b0; replace b1 := gcell g2 b1; replace b2 := gcell g2 b2; replace b3 := gcell g2 b3; replace b4 := gcell g2 b4
        replace g2 := gtr g1 g2; clear g1
        have H2 := Lib.hid h2
        clear h2
        go_wp2_with fail
        refine (wDo_any _ c d _ 0 _ ak ai ao aold av H2.out (by omega) (by omega) k0 k1 o0 o1).mono ?_; rintro e w3 ⟨rfl, q3, h3⟩
        replace a0 := q3.cell z1 a0; replace a1 := q3.cell z1 a1; replace a2 := q3.cell z1 a2; replace a3 := q3.cell z1 a3; replace a4 := q3.cell z1 a4
        replace b0 := q3.cell z2 b0; replace b1 := q3.cell z2 b1; replace b2 := q3.cell z2 b2; replace b3 := q3.cell z2 b3; replace b4 := q3.cell z2 b4
        rw [HN2.out] at h3
        have k5 := h3.k5
        have H3 := Lib.hid h3
        replace g2 := fresh8 g2 q3 hp hb
        clear h3 H2 q3 hp hb z1 z2
        generalize acW c (List.replicate c.len 0) ak ai ao aold av = ws at *
        generalize acR c (List.replicate c.len 0) ak ai = x1 at *
        generalize acB c (List.replicate c.len 0) ak ai aold = x2 at *
        generalize acT c (List.replicate c.len 0) ak ai = x3 at *
        go_wp2_with fail
        refine (rNodes_at _ _ _ _ _ _ _ HN.out).mono ?_; rintro e w4 ⟨rfl, g4⟩
        replace a0 := gcell g4 a0; replace a1 := gcell g4 a1; replace a2 := gcell g4 a2; replace a3 := gcell g4 a3; replace a4 := gcell g4 a4
        replace b0 := gcell g4 b0; replace b1 := gcell g4 b1; replace b2 := gcell g4 b2; replace b3 := gcell g4 b3; replace b4 := gcell g4 b4
        replace k5 := gcell g4 k5
        replace H3 := Lib.hid (H3.out.grown g4)
        replace g4 := gtr g2 g4; clear g2
        go_wp2_with fail
        refine (rOps_at _ _ _ _ _ _ _ HO.out).mono ?_; rintro e w5 ⟨rfl, g5⟩
        replace a0 := gcell g5 a0; replace a1 := gcell g5 a1; replace a2 := gcell g5 a2; replace a3 := gcell g5 a3; replace a4 := gcell g5 a4
        replace b0 := gcell g5 b0; replace b1 := gcell g5 b1; replace b2 := gcell g5 b2; replace b3 := gcell g5 b3; replace b4 := gcell g5 b4
        replace k5 := gcell g5 k5
        replace H3 := Lib.hid (H3.out.grown g5)
        replace g4 := gtr g4 g5; clear g5
        go_wp2_with fail
        refine (Steps_at _ _ _ _ _ H3.out.bank).mono ?_; rintro e w6 ⟨rfl, g6⟩
        go_wp2_with fail
        go_ret
        exact ⟨rfl, gtr g4 g6⟩
      · have HN2 : Hid (0 + cnt (List.replicate c.len 0) (plI c ak ai) = 0) := Lib.hid (by rw [HC.out, (if_neg (by rw [HT.out]; omega))]; rfl)
        go_enter Try.func4, Try.ntmps4
        go_wp2_with fail
        refine (wAwake _).mono ?_; rintro e w0 ⟨rfl, g0⟩
        have a0 : w0.cell? ⟨w.heap.size, 0, none⟩ = some (.int .i64 c.t) := gcell g0 (by simp [go_sem])
        have a1 : w0.cell? ⟨w.heap.size, 1, none⟩ = some (.int .i64 c.b) := gcell g0 (by simp [go_sem])
        have a2 : w0.cell? ⟨w.heap.size, 2, none⟩ = some (.int .i64 c.i) := gcell g0 (by simp [go_sem])
        have a3 : w0.cell? ⟨w.heap.size, 3, none⟩ = some (.int .i64 c.f) := gcell g0 (by simp [go_sem])
        have a4 : w0.cell? ⟨w.heap.size, 4, none⟩ = some (.int .i64 c.k) := gcell g0 (by simp [go_sem])
        have b0 : w0.cell? ⟨w.heap.size + 1, 0, none⟩ = some (.int .u8 ak) := gcell g0 (by simp [go_sem])
        have b1 : w0.cell? ⟨w.heap.size + 1, 1, none⟩ = some (.int .i64 ai) := gcell g0 (by simp [go_sem])
        have b2 : w0.cell? ⟨w.heap.size + 1, 2, none⟩ = some (.int .u16 ao) := gcell g0 (by simp [go_sem])
        have b3 : w0.cell? ⟨w.heap.size + 1, 3, none⟩ = some (.int .u64 aold) := gcell g0 (by simp [go_sem])
        have b4 : w0.cell? ⟨w.heap.size + 1, 4, none⟩ = some (.int .u64 av) := gcell g0 (by simp [go_sem])
        replace g0 : Grown w w0 := gtr (by go_grown) g0
        go_wp2_with fail
        refine (Few_at _ _ _ _ _ _ _ HF.out).mono ?_; rintro e w1 ⟨rfl, g1⟩
        replace a0 := gcell g1 a0; replace a1 := gcell g1 a1; replace a2 := gcell g1 a2; replace a3 := gcell g1 a3; replace a4 := gcell g1 a4
        replace b0 := gcell g1 b0; replace b1 := gcell g1 b1; replace b2 := gcell g1 b2; replace b3 := gcell g1 b3; replace b4 := gcell g1 b4
        replace g1 := gtr g0 g1; clear g0
        go_wp2_with fail
        refine (wNew_at _ c HOK.out).mono ?_; rintro e w2 ⟨d, rfl, g2, h2, hp, hb, -, -⟩
        have z1 : ¬ Mine d.p d.b w.heap.size := by have hz : w.heap.size < w1.heap.size := World.block_lt_of_cell? _ _ a0; rintro (h | h) <;> omega
        have z2 : ¬ Mine d.p d.b (w.heap.size + 1) := by have hz : w.heap.size + 1 < w1.heap.size := World.block_lt_of_cell? _ _ b0; rintro (h | h) <;> omega
        replace hp := Nat.le_trans g1.2.2 hp
        replace hb := Nat.le_trans g1.2.2 hb
        replace a0 := gcell g2 a0; replace a1 := gcell g2 a1; replace a2 := gcell g2 a2; replace a3 := gcell g2 a3; replace a4 := gcell g2 a4
        replace b0 := gcell g2 b0; replace b1 := gcell g2 b1; replace b2 := gcell g2 b2; replace b3 := gcell g2 b3; replace b4 := gcell g2 b4
        replace g2 := gtr g1 g2; clear g1
        have H2 := Lib.hid h2
        clear h2
        go_wp2_with fail
        refine (wDo_any _ c d _ 0 _ ak ai ao aold av H2.out (by omega) (by omega) k0 k1 o0 o1).mono ?_; rintro e w3 ⟨rfl, q3, h3⟩
        replace a0 := q3.cell z1 a0; replace a1 := q3.cell z1 a1; replace a2 := q3.cell z1 a2; replace a3 := q3.cell z1 a3; replace a4 := q3.cell z1 a4
        replace b0 := q3.cell z2 b0; replace b1 := q3.cell z2 b1; replace b2 := q3.cell z2 b2; replace b3 := q3.cell z2 b3; replace b4 := q3.cell z2 b4
        rw [HN2.out] at h3
        have k5 := h3.k5
        have H3 := Lib.hid h3
        replace g2 := fresh8 g2 q3 hp hb
        clear h3 H2 q3 hp hb z1 z2
        generalize acW c (List.replicate c.len 0) ak ai ao aold av = ws at *
        generalize acR c (List.replicate c.len 0) ak ai = x1 at *
        generalize acB c (List.replicate c.len 0) ak ai aold = x2 at *
        generalize acT c (List.replicate c.len 0) ak ai = x3 at *
        go_wp2_with fail
        refine (rNodes_at _ _ _ _ _ _ _ HN.out).mono ?_; rintro e w4 ⟨rfl, g4⟩
        replace a0 := gcell g4 a0; replace a1 := gcell g4 a1; replace a2 := gcell g4 a2; replace a3 := gcell g4 a3; replace a4 := gcell g4 a4
        replace b0 := gcell g4 b0; replace b1 := gcell g4 b1; replace b2 := gcell g4 b2; replace b3 := gcell g4 b3; replace b4 := gcell g4 b4
        replace k5 := gcell g4 k5
        replace H3 := Lib.hid (H3.out.grown g4)
        replace g4 := gtr g2 g4; clear g2
        go_wp2_with fail
        refine (rOps_at _ _ _ _ _ _ _ HO.out).mono ?_; rintro e w5 ⟨rfl, g5⟩
        replace a0 := gcell g5 a0; replace a1 := gcell g5 a1; replace a2 := gcell g5 a2; replace a3 := gcell g5 a3; replace a4 := gcell g5 a4
        replace b0 := gcell g5 b0; replace b1 := gcell g5 b1; replace b2 := gcell g5 b2; replace b3 := gcell g5 b3; replace b4 := gcell g5 b4
        replace k5 := gcell g5 k5
        replace H3 := Lib.hid (H3.out.grown g5)
        replace g4 := gtr g4 g5; clear g5
        go_wp2_with fail
        refine (Steps_at _ _ _ _ _ H3.out.bank).mono ?_; rintro e w6 ⟨rfl, g6⟩
        go_wp2_with fail
        go_ret
        exact ⟨rfl, gtr g4 g6⟩

end Go.Proofs.Ytjllemjmdbnkjaa
