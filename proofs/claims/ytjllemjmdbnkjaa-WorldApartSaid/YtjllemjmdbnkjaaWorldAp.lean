/- The laws of package world, walked: one thing's cell is no other one's. -/
import Derived.Test.YtjllemjmdbnkjaaWorldNw
import Derived.LoopTactic
namespace Go.Proofs.Ytjllemjmdbnkjaa
open Go.ChangeShapes Go.WideShapes Go.ChangeAt Go.RowKit
set_option maxRecDepth 100000
set_option linter.unusedVariables false

theorem rd_wr (ws : List Int) (i j v : Int) : rd (wr ws i v) j = if j = i ∧ 0 ≤ i ∧ i < ws.length then v else rd ws j := by
  rcases in_or_out ws i with h | ⟨a, rfl, ha⟩
  · rw [wr_out h, if_neg (by omega)]
  · rw [wr_in]
    rcases in_or_out ws j with h | ⟨e, rfl, he⟩
    · rw [rd_out (by simpa using h), rd_out h, if_neg (by omega)]
    · rw [rd_in (by simpa using he), rd_in he, List.getElem_set]
      by_cases hx : a = e
      · subst hx; rw [if_pos rfl, if_pos ⟨rfl, by omega, by omega⟩]
      · rw [if_neg hx, if_neg (by omega)]
theorem opOf_wd (n : Int) (h0 : 0 ≤ n) (h1 : n ≤ 255) : opOf (wdOf n) = n := by
  simp [IntKind.wrap, IntKind.signed, IntKind.bits, opOf, wdOf, wrap64]; omega
/-- The words of WorldApart. -/
def apW (c : Cf) (nd o t : Nat) (n3 v0 v1 : Int) : List Int := wr (sw (wr (List.replicate c.len 0) (nxtI c nd) v0) (wrdI c o) 0 v1) (annI c t) (wdOf n3)
theorem apW_at {c : Cf} (hok : c.Ok) {nd o t : Nat} (hn : nd < c.nodes) (ho : o < c.ops) (ht : t < c.t) (n3 v0 v1 j : Int) :
    rd (apW c nd o t n3 v0 v1) j = if j = c.nodes + c.ops + t then wdOf n3 else if j = c.nodes + o then v1 else if j = nd then v0 else 0 := by
  have e1 : nxtI c nd = nd := by rw [nxtI_eq hok, if_pos (by omega)]
  have e2 : wrdI c o = c.nodes + o := by rw [wrdI_eq hok, if_pos (by omega)]
  have e3 : annI c t = c.nodes + c.ops + t := by rw [annI_eq hok, if_pos (by omega)]
  have hl : c.len = c.nodes + c.ops + c.t := rfl
  unfold apW
  rw [e1, e2, e3]
  have hm : may (wr (List.replicate c.len 0) nd v0) (c.nodes + o) 0 = true := by
    refine decide_eq_true ⟨by omega, by rw [length_wr, List.length_replicate]; omega, ?_⟩
    rw [rd_wr, if_neg (by omega), rd_zeros_]
  have hs : sw (wr (List.replicate c.len 0) nd v0) (c.nodes + o) 0 v1 = wr (wr (List.replicate c.len 0) nd v0) (c.nodes + o) v1 := by unfold sw; rw [if_pos hm]
  rw [hs, rd_wr, rd_wr, rd_wr, rd_zeros_]
  simp only [length_wr, List.length_replicate]
  by_cases h1 : j = c.nodes + c.ops + t
  · rw [if_pos ⟨h1, by omega, by omega⟩, if_pos h1]
  · rw [if_neg (fun h => h1 h.1), if_neg h1]
    by_cases h2 : j = c.nodes + o
    · rw [if_pos ⟨h2, by omega, by omega⟩, if_pos h2]
    · rw [if_neg (fun h => h2 h.1), if_neg h2]
      by_cases h3 : j = nd
      · rw [if_pos ⟨h3, by omega, by omega⟩, if_pos h3]
      · rw [if_neg (fun h => h3 h.1), if_neg h3]
/-- Where a loop of WorldApart has come. -/
def ApR (W : World) (c : Cf) (d : Wd) (ws : List Int) (w : World) (k m : Nat) : Prop := But (Mine d.p d.b) W w ∧ ∃ n : Int, 0 ≤ n ∧ n ≤ (m : Int) + (k : Int) ∧ WdAt w c d ws n (St.new c)
theorem cnt_bd (ws : List Int) (i : Int) : 0 ≤ cnt ws i ∧ cnt ws i ≤ 1 := by unfold cnt; split <;> omega
theorem ApR.intro {W w : World} {c : Cf} {d : Wd} {ws : List Int} {k m : Nat} {n : Int} (q : But (Mine d.p d.b) W w) (h0 : 0 ≤ n) (h1 : n ≤ (m : Int) + (k : Int)) (h : WdAt w c d ws n (St.new c)) : ApR W c d ws w k m := ⟨q, n, h0, h1, h⟩
theorem ApR.more {W w : World} {c : Cf} {d : Wd} {ws : List Int} {k m : Nat} (h : ApR W c d ws w k m) : ApR W c d ws w (k + 1) m := by
  obtain ⟨q, n, h0, h1, h⟩ := h
  exact ⟨q, n, h0, by omega, h⟩
theorem ApR.step {W w w' : World} {c : Cf} {d : Wd} {ws : List Int} {k m : Nat} {n : Int} {i : Int} (q : But (Mine d.p d.b) W w) (h0 : 0 ≤ n) (h1 : n ≤ (m : Int) + (k : Int)) (q' : But (Mine d.p d.b) w w') (h : WdAt w' c d ws (n + cnt ws i) (St.new c)) : ApR W c d ws w' (k + 1) m := by
  have := cnt_bd ws i
  exact ⟨q.trans q', _, by omega, by omega, h⟩

set_option maxHeartbeats 4000000 in
theorem law_WorldApart (t b i f k n0 n1 n2 n3 v0 v1 : Int) (w : World) (_ : -9223372036854775808 ≤ t) (_ : t ≤ 9223372036854775807) (_ : -9223372036854775808 ≤ b) (_ : b ≤ 9223372036854775807) (_ : -9223372036854775808 ≤ i) (_ : i ≤ 9223372036854775807) (_ : -9223372036854775808 ≤ f) (_ : f ≤ 9223372036854775807) (_ : -9223372036854775808 ≤ k) (_ : k ≤ 9223372036854775807) (_ : 0 ≤ n0) (_ : n0 ≤ 255) (_ : 0 ≤ n1) (_ : n1 ≤ 255) (_ : 0 ≤ n2) (_ : n2 ≤ 255) (_ : 0 ≤ n3) (_ : n3 ≤ 255) (_ : 0 ≤ v0) (_ : v0 ≤ 18446744073709551615) (_ : 0 ≤ v1) (_ : v1 ≤ 18446744073709551615) :
    Calls Try.prog 5 #[.agg #[.int .i64 t, .int .i64 b, .int .i64 i, .int .i64 f, .int .i64 k], .agg #[.int .u8 n0, .int .u8 n1, .int .u8 n2, .int .u8 n3], .agg #[.int .u64 v0, .int .u64 v1]] w fun e w' => e = .returned (.bool true) ∧ Grown w w' := by
  obtain ⟨fw, hfw⟩ : ∃ v, bFew t b i f k = v := ⟨_, rfl⟩
  have HF := Lib.hid hfw
  cases fw with
  | false =>
    clear hfw
    go_enter Try.func5, Try.ntmps5
    go_wp2_with fail
    refine (wAwake _).mono ?_; rintro e w0 ⟨rfl, g0⟩
    have a0 : w0.cell? ⟨w.heap.size, 0, none⟩ = some (.int .i64 t) := gcell g0 (by simp [go_sem])
    have a1 : w0.cell? ⟨w.heap.size, 1, none⟩ = some (.int .i64 b) := gcell g0 (by simp [go_sem])
    have a2 : w0.cell? ⟨w.heap.size, 2, none⟩ = some (.int .i64 i) := gcell g0 (by simp [go_sem])
    have a3 : w0.cell? ⟨w.heap.size, 3, none⟩ = some (.int .i64 f) := gcell g0 (by simp [go_sem])
    have a4 : w0.cell? ⟨w.heap.size, 4, none⟩ = some (.int .i64 k) := gcell g0 (by simp [go_sem])
    replace g0 : Grown w w0 := gtr (by go_grown) g0
    go_wp2_with fail
    refine (Few_at _ _ _ _ _ _ _ HF.out).mono ?_; rintro e w1 ⟨rfl, g1⟩
    go_wp2_with fail
    go_ret
    exact ⟨rfl, gtr g0 g1⟩
  | true =>
    obtain ⟨c, rfl, rfl, rfl, rfl, rfl, hok, ft, fb, fk⟩ := few_cf hfw
    have HOK := Lib.hid hok
    have HO := Lib.hid (ok_ops hok)
    have HN := Lib.hid (ok_nodes hok)
    have t1 := hok.t1
    have o1 : 1 ≤ c.ops := Nat.mul_pos hok.t1 hok.k1
    have o2 : c.ops ≤ 2048 := hok.tk
    have nd1 : 1 ≤ c.nodes := by unfold Cf.nodes; omega
    have nd2 : c.nodes ≤ 5000 := by have := hok.tk; have := hok.b64; unfold Cf.nodes; omega
    clear hfw hok
    go_enter Try.func5, Try.ntmps5
    go_wp2_with fail
    refine (wAwake _).mono ?_; rintro e w0 ⟨rfl, g0⟩
    have a0 : w0.cell? ⟨w.heap.size, 0, none⟩ = some (.int .i64 c.t) := gcell g0 (by simp [go_sem])
    have a1 : w0.cell? ⟨w.heap.size, 1, none⟩ = some (.int .i64 c.b) := gcell g0 (by simp [go_sem])
    have a2 : w0.cell? ⟨w.heap.size, 2, none⟩ = some (.int .i64 c.i) := gcell g0 (by simp [go_sem])
    have a3 : w0.cell? ⟨w.heap.size, 3, none⟩ = some (.int .i64 c.f) := gcell g0 (by simp [go_sem])
    have a4 : w0.cell? ⟨w.heap.size, 4, none⟩ = some (.int .i64 c.k) := gcell g0 (by simp [go_sem])
    have b0 : w0.cell? ⟨w.heap.size + 1, 0, none⟩ = some (.int .u8 n0) := gcell g0 (by simp [go_sem])
    have b1 : w0.cell? ⟨w.heap.size + 1, 1, none⟩ = some (.int .u8 n1) := gcell g0 (by simp [go_sem])
    have b2 : w0.cell? ⟨w.heap.size + 1, 2, none⟩ = some (.int .u8 n2) := gcell g0 (by simp [go_sem])
    have b3 : w0.cell? ⟨w.heap.size + 1, 3, none⟩ = some (.int .u8 n3) := gcell g0 (by simp [go_sem])
    have x0 : w0.cell? ⟨w.heap.size + 1 + 1, 0, none⟩ = some (.int .u64 v0) := gcell g0 (by simp [go_sem])
    have x1 : w0.cell? ⟨w.heap.size + 1 + 1, 1, none⟩ = some (.int .u64 v1) := gcell g0 (by simp [go_sem])
    replace g0 : Grown w w0 := gtr (by go_grown) g0
    go_wp2_with fail
    refine (Few_at _ _ _ _ _ _ _ HF.out).mono ?_; rintro e w1 ⟨rfl, g1⟩
    replace a0 := gcell g1 a0; replace a1 := gcell g1 a1; replace a2 := gcell g1 a2; replace a3 := gcell g1 a3; replace a4 := gcell g1 a4
    replace b0 := gcell g1 b0; replace b1 := gcell g1 b1; replace b2 := gcell g1 b2; replace b3 := gcell g1 b3
    replace x0 := gcell g1 x0; replace x1 := gcell g1 x1
    replace g1 := gtr g0 g1; clear g0
    go_wp2_with fail
    refine (wNew_at _ c HOK.out).mono ?_; rintro e w2 ⟨d, rfl, g2, h2, hp, hb, -, -⟩
    have z0 : ¬ Mine d.p d.b w.heap.size := by have hz : w.heap.size < w1.heap.size := World.block_lt_of_cell? _ _ a0; rintro (h | h) <;> omega
    have z1 : ¬ Mine d.p d.b (w.heap.size + 1) := by have hz : w.heap.size + 1 < w1.heap.size := World.block_lt_of_cell? _ _ b0; rintro (h | h) <;> omega
    have z2 : ¬ Mine d.p d.b (w.heap.size + 1 + 1) := by have hz : w.heap.size + 1 + 1 < w1.heap.size := World.block_lt_of_cell? _ _ x0; rintro (h | h) <;> omega
    replace hp := Nat.le_trans g1.2.2 hp
    replace hb := Nat.le_trans g1.2.2 hb
    replace a0 := gcell g2 a0; replace a1 := gcell g2 a1; replace a2 := gcell g2 a2; replace a3 := gcell g2 a3; replace a4 := gcell g2 a4
    replace b0 := gcell g2 b0; replace b1 := gcell g2 b1; replace b2 := gcell g2 b2; replace b3 := gcell g2 b3
    replace x0 := gcell g2 x0; replace x1 := gcell g2 x1
    replace g2 := gtr g1 g2; clear g1
    have H2 := Lib.hid h2
    clear h2
    go_wp2_with fail
    refine wp_region_plang (.one [0, 1, 2, 3] 4 (.fin [5, 6])) (by kernel_rfl) (by kernel_rfl) (by kernel_rfl) ?_
    intro w3 g3
    have e1 : ((c.nodes : Int) == 0) = false := by have ht : ¬ (c.nodes : Int) = 0 := by omega
                                                   simpa using ht
    have e2 : ((c.ops : Int) == 0) = false := by have ht : ¬ (c.ops : Int) = 0 := by omega
                                                 simpa using ht
    have e3 : ((c.t : Int) == 0) = false := by have ht : ¬ (c.t : Int) = 0 := by omega
                                               simpa using ht
    have p0 : ∀ g : GrW w3, g.w.cell? ⟨w.heap.size, 0, none⟩ = some (.int .i64 c.t) := GrW.cell (gcell g3 a0)
    have p1 : ∀ g : GrW w3, g.w.cell? ⟨w.heap.size, 1, none⟩ = some (.int .i64 c.b) := GrW.cell (gcell g3 a1)
    have p2 : ∀ g : GrW w3, g.w.cell? ⟨w.heap.size, 2, none⟩ = some (.int .i64 c.i) := GrW.cell (gcell g3 a2)
    have p3 : ∀ g : GrW w3, g.w.cell? ⟨w.heap.size, 3, none⟩ = some (.int .i64 c.f) := GrW.cell (gcell g3 a3)
    have p4 : ∀ g : GrW w3, g.w.cell? ⟨w.heap.size, 4, none⟩ = some (.int .i64 c.k) := GrW.cell (gcell g3 a4)
    have q0 : ∀ g : GrW w3, g.w.cell? ⟨w.heap.size + 1, 0, none⟩ = some (.int .u8 n0) := GrW.cell (gcell g3 b0)
    have q1 : ∀ g : GrW w3, g.w.cell? ⟨w.heap.size + 1, 1, none⟩ = some (.int .u8 n1) := GrW.cell (gcell g3 b1)
    have q2 : ∀ g : GrW w3, g.w.cell? ⟨w.heap.size + 1, 2, none⟩ = some (.int .u8 n2) := GrW.cell (gcell g3 b2)
    have q3 : ∀ g : GrW w3, g.w.cell? ⟨w.heap.size + 1, 3, none⟩ = some (.int .u8 n3) := GrW.cell (gcell g3 b3)
    refine plan_one ?_
    simp only [nths, nth, List.map_cons, List.map_nil, List.getD_cons_zero, List.getD_cons_succ]
    repeat go_big_quiet_step (fail)
    refine wpQuiet_nil ?_
    go_wp2_with fail
    refine (rNodes_at _ _ _ _ _ _ _ HN.out).mono ?_; rintro e w4 ⟨rfl, g4⟩
    go_wp2_with fail
    refine nxt_grow g4 (plan_fin ?_)
    simp only [nths, nth, List.map_cons, List.map_nil, List.getD_cons_zero, List.getD_cons_succ]
    repeat go_big_quiet_step (fail)
    refine wpQuiet_nil ?_
    clear p0 p1 p2 p3 p4 q0 q1 q2 q3
    obtain ⟨nd, hnd, hnd2⟩ : ∃ nd : Nat, n0 % (c.nodes : Int) = nd ∧ nd < c.nodes := ⟨(n0 % (c.nodes : Int)).toNat, by have := Int.emod_nonneg n0 (b := (c.nodes : Int)) (by omega); omega, by have := Int.emod_lt_of_pos n0 (b := (c.nodes : Int)) (by omega); have := Int.emod_nonneg n0 (b := (c.nodes : Int)) (by omega); omega⟩
    rw [hnd]
    have HND := Lib.hid hnd2
    clear hnd hnd2
    replace g4 := gtr g3 g4; clear g3
    replace a0 := gcell g4 a0; replace a1 := gcell g4 a1; replace a2 := gcell g4 a2; replace a3 := gcell g4 a3; replace a4 := gcell g4 a4
    replace b0 := gcell g4 b0; replace b1 := gcell g4 b1; replace b2 := gcell g4 b2; replace b3 := gcell g4 b3
    replace x0 := gcell g4 x0; replace x1 := gcell g4 x1
    replace H2 := Lib.hid (H2.out.grown g4)
    replace g4 := gtr g2 g4; clear g2
    go_wp2_with fail
    refine wp_region_plang (.one [0, 1, 2, 3] 4 (.fin [5, 6])) (by kernel_rfl) (by kernel_rfl) (by kernel_rfl) ?_
    intro w5 g5
    have p0 : ∀ g : GrW w5, g.w.cell? ⟨w.heap.size, 0, none⟩ = some (.int .i64 c.t) := GrW.cell (gcell g5 a0)
    have p1 : ∀ g : GrW w5, g.w.cell? ⟨w.heap.size, 1, none⟩ = some (.int .i64 c.b) := GrW.cell (gcell g5 a1)
    have p2 : ∀ g : GrW w5, g.w.cell? ⟨w.heap.size, 2, none⟩ = some (.int .i64 c.i) := GrW.cell (gcell g5 a2)
    have p3 : ∀ g : GrW w5, g.w.cell? ⟨w.heap.size, 3, none⟩ = some (.int .i64 c.f) := GrW.cell (gcell g5 a3)
    have p4 : ∀ g : GrW w5, g.w.cell? ⟨w.heap.size, 4, none⟩ = some (.int .i64 c.k) := GrW.cell (gcell g5 a4)
    have q0 : ∀ g : GrW w5, g.w.cell? ⟨w.heap.size + 1, 0, none⟩ = some (.int .u8 n0) := GrW.cell (gcell g5 b0)
    have q1 : ∀ g : GrW w5, g.w.cell? ⟨w.heap.size + 1, 1, none⟩ = some (.int .u8 n1) := GrW.cell (gcell g5 b1)
    have q2 : ∀ g : GrW w5, g.w.cell? ⟨w.heap.size + 1, 2, none⟩ = some (.int .u8 n2) := GrW.cell (gcell g5 b2)
    have q3 : ∀ g : GrW w5, g.w.cell? ⟨w.heap.size + 1, 3, none⟩ = some (.int .u8 n3) := GrW.cell (gcell g5 b3)
    refine plan_one ?_
    simp only [nths, nth, List.map_cons, List.map_nil, List.getD_cons_zero, List.getD_cons_succ]
    repeat go_big_quiet_step (fail)
    refine wpQuiet_nil ?_
    go_wp2_with fail
    refine (rOps_at _ _ _ _ _ _ _ HO.out).mono ?_; rintro e w6 ⟨rfl, g6⟩
    go_wp2_with fail
    refine nxt_grow g6 (plan_fin ?_)
    simp only [nths, nth, List.map_cons, List.map_nil, List.getD_cons_zero, List.getD_cons_succ]
    repeat go_big_quiet_step (fail)
    refine wpQuiet_nil ?_
    clear p0 p1 p2 p3 p4 q0 q1 q2 q3
    obtain ⟨oo, hoo, hoo2⟩ : ∃ nd : Nat, n1 % (c.ops : Int) = nd ∧ nd < c.ops := ⟨(n1 % (c.ops : Int)).toNat, by have := Int.emod_nonneg n1 (b := (c.ops : Int)) (by omega); omega, by have := Int.emod_lt_of_pos n1 (b := (c.ops : Int)) (by omega); have := Int.emod_nonneg n1 (b := (c.ops : Int)) (by omega); omega⟩
    rw [hoo]
    have HOO := Lib.hid hoo2
    clear hoo hoo2
    replace g6 := gtr g5 g6; clear g5
    replace a0 := gcell g6 a0; replace a1 := gcell g6 a1; replace a2 := gcell g6 a2; replace a3 := gcell g6 a3; replace a4 := gcell g6 a4
    replace b0 := gcell g6 b0; replace b1 := gcell g6 b1; replace b2 := gcell g6 b2; replace b3 := gcell g6 b3
    replace x0 := gcell g6 x0; replace x1 := gcell g6 x1
    replace H2 := Lib.hid (H2.out.grown g6)
    replace g6 := gtr g4 g6; clear g4
    obtain ⟨tt, htt, htt2⟩ : ∃ nd : Nat, n2 % (c.t : Int) = nd ∧ nd < c.t := ⟨(n2 % (c.t : Int)).toNat, by have := Int.emod_nonneg n2 (b := (c.t : Int)) (by omega); omega, by have := Int.emod_lt_of_pos n2 (b := (c.t : Int)) (by omega); have := Int.emod_nonneg n2 (b := (c.t : Int)) (by omega); omega⟩
    have HTT := Lib.hid htt2
    go_wp2_with fail
    refine (wSet_any _ c d _ 0 _ nd v0 H2.out (by omega) (by omega)).mono ?_; rintro e w7 ⟨rfl, q7, h7⟩
    rw [htt]
    clear htt htt2
    have N7 := cnt_bd (List.replicate c.len 0) (nxtI c nd)
    replace a0 := q7.cell z0 a0; replace a1 := q7.cell z0 a1; replace a2 := q7.cell z0 a2; replace a3 := q7.cell z0 a3; replace a4 := q7.cell z0 a4
    replace b3 := q7.cell z1 b3
    replace x0 := q7.cell z2 x0; replace x1 := q7.cell z2 x1
    go_wp2_with fail
    refine (wTurn_any _ c d _ _ _ oo 0 v1 h7 (by omega) (by omega)).mono ?_; rintro e w8 ⟨rfl, q8, h8⟩
    have N8 := cnt_bd (wr (List.replicate c.len 0) (nxtI c nd) v0) (wrdI c oo)
    generalize may (wr (List.replicate c.len 0) (nxtI c nd) v0) (wrdI c oo) 0 = m8 at *
    replace a0 := q8.cell z0 a0; replace a1 := q8.cell z0 a1; replace a2 := q8.cell z0 a2; replace a3 := q8.cell z0 a3; replace a4 := q8.cell z0 a4
    replace b3 := q8.cell z1 b3
    replace x0 := q8.cell z2 x0; replace x1 := q8.cell z2 x1
    go_wp2_with fail
    refine (wSay_any _ c d _ _ _ tt n3 h8 (by omega) (by omega)).mono ?_; rintro e w9 ⟨rfl, q9, h9⟩
    have N9 := cnt_bd (sw (wr (List.replicate c.len 0) (nxtI c nd) v0) (wrdI c oo) 0 v1) (annI c tt)
    have Q9 := q7.trans (q8.trans q9)
    have X9 : ApR w9 c d (apW c nd oo tt n3 v0 v1) w9 0 10 := ApR.intro (But.refl _ _) (by omega) (by omega) h9
    have G9 : Grown w w9 := fresh8 g6 Q9 hp hb
    replace a0 := q9.cell z0 a0; replace a1 := q9.cell z0 a1; replace a2 := q9.cell z0 a2; replace a3 := q9.cell z0 a3; replace a4 := q9.cell z0 a4
    replace b3 := q9.cell z1 b3
    replace x0 := q9.cell z2 x0; replace x1 := q9.cell z2 x1
    have ON : Hid (∀ k, k < c.nodes → ¬ k = nd → rd (apW c nd oo tt n3 v0 v1) (nxtI c k) = 0) := Lib.hid (fun k h1 h2 => by rw [nxtI_eq HOK.out, if_pos (by omega), apW_at HOK.out HND.out HOO.out HTT.out, if_neg (by omega), if_neg (by omega), if_neg (by omega)])
    have OW : Hid (∀ k, k < c.ops → ¬ k = oo → rd (apW c nd oo tt n3 v0 v1) (wrdI c k) = 0) := Lib.hid (fun k h1 h2 => by rw [wrdI_eq HOK.out, if_pos (by omega), apW_at HOK.out HND.out HOO.out HTT.out, if_neg (by omega), if_neg (by omega), if_neg (by have := HND.out; omega)])
    have OA : Hid (∀ k, k < c.t → ¬ k = tt → opOf (rd (apW c nd oo tt n3 v0 v1) (annI c k)) = -1) := Lib.hid (fun k h1 h2 => by rw [annI_eq HOK.out, if_pos (by omega), apW_at HOK.out HND.out HOO.out HTT.out, if_neg (by omega), if_neg (by have := HOO.out; omega), if_neg (by have := HND.out; omega)]; exact opOf_zero)
    have IN : Hid (rd (apW c nd oo tt n3 v0 v1) (nxtI c nd) = v0) := Lib.hid (by have := HND.out; rw [nxtI_eq HOK.out, if_pos (by omega), apW_at HOK.out HND.out HOO.out HTT.out, if_neg (by omega), if_neg (by omega), if_pos rfl])
    have IW : Hid (rd (apW c nd oo tt n3 v0 v1) (wrdI c oo) = v1) := Lib.hid (by have := HOO.out; rw [wrdI_eq HOK.out, if_pos (by omega), apW_at HOK.out HND.out HOO.out HTT.out, if_neg (by omega), if_pos rfl])
    have IA : Hid (opOf (rd (apW c nd oo tt n3 v0 v1) (annI c tt)) = n3) := Lib.hid (by have := HTT.out; rw [annI_eq HOK.out, if_pos (by omega), apW_at HOK.out HND.out HOO.out HTT.out, if_pos rfl]; exact opOf_wd n3 (by omega) (by omega))
    have HX := Lib.hid X9
    clear q7 q8 q9 h7 h8 h9 Q9 X9 N7 N8 N9 H2 g6
    go_wp2_with fail
    go_loopw [13] (fun i wr => ∃ k : Nat, k ≤ c.nodes ∧ i = .int .i64 k ∧ ApR w9 c d (apW c nd oo tt n3 v0 v1) wr k 10) (fun i _ => c.nodes - (intOf i).toNat)
    case atStart => exact ⟨0, Nat.zero_le _, rfl, HX.out⟩
    case round =>
      obtain ⟨k, hk, rfl, q1, nk, nk0, nk1, hkW⟩ := hrel
      have HW := Lib.hid hkW
      clear hkW
      have p0 := q1.cell z0 a0
      have p1 := q1.cell z0 a1
      have p2 := q1.cell z0 a2
      have p3 := q1.cell z0 a3
      have p4 := q1.cell z0 a4
      by_cases hlt : k < c.nodes
      · have ed : decide (k < c.nodes) = true := decide_eq_true hlt
        by_cases hkn : k = nd
        · have en : ((k : Int) != (nd : Int)) = false := by simp [hkn]
          have HKN := Lib.hid hkn
          clear hkn
          go_wp2_with fail
          refine (rNodes_at _ _ _ _ _ _ _ HN.out).mono ?_; rintro e w10 ⟨rfl, g10⟩
          go_wp2_with fail
          have X := ApR.intro ((q1).trans (But.of_grown g10)) nk0 nk1 (HW.out.grown g10)
          exact ⟨⟨k + 1, hlt, by simp, X.more⟩, by simp [intOf]; omega⟩
        · have en : ((k : Int) != (nd : Int)) = true := by simp; omega
          have HKN := Lib.hid hkn
          clear hkn
          go_wp2_with fail
          refine (rNodes_at _ _ _ _ _ _ _ HN.out).mono ?_; rintro e w10 ⟨rfl, g10⟩
          go_wp2_with fail
          refine (wNext_any _ c d _ nk _ k (HW.out.grown g10) nk0 (by omega)).mono ?_; rintro e w11 ⟨rfl, q11, h11⟩
          rw [ON.out k hlt HKN.out]
          have X := ApR.step ((q1).trans (But.of_grown g10)) nk0 nk1 q11 h11
          go_wp2_with fail
          exact ⟨⟨k + 1, hlt, by simp, X⟩, by simp [intOf]; omega⟩
      · obtain rfl : k = c.nodes := by omega
        have ed : decide (c.nodes < c.nodes) = false := decide_eq_false (by omega)
        clear hlt hk
        go_wp2_with fail
        refine (rNodes_at _ _ _ _ _ _ _ HN.out).mono ?_; rintro e w10 ⟨rfl, g10⟩
        replace HW := Lib.hid (HW.out.grown g10)
        replace q1 := (q1).trans (But.of_grown g10)
        go_wp2_with fail
        have HX1 := Lib.hid (ApR.intro (m := 10 + c.nodes) (k := 0) (But.refl _ _) nk0 (by omega) HW.out)
        clear nk0 nk1 HW nk p0 p1 p2 p3 p4 ed
        go_loopw [14] (fun i wr => ∃ k : Nat, k ≤ c.ops ∧ i = .int .i64 k ∧ ApR _ c d (apW c nd oo tt n3 v0 v1) wr k (10 + c.nodes)) (fun i _ => c.ops - (intOf i).toNat)
        case atStart => exact ⟨0, Nat.zero_le _, rfl, HX1.out⟩
        case round =>
          obtain ⟨k, hk, rfl, q2, nk, nk0, nk1, hkW⟩ := hrel
          have HW := Lib.hid hkW
          clear hkW
          have p0 := (q1.trans q2).cell z0 a0
          have p1 := (q1.trans q2).cell z0 a1
          have p2 := (q1.trans q2).cell z0 a2
          have p3 := (q1.trans q2).cell z0 a3
          have p4 := (q1.trans q2).cell z0 a4
          by_cases hlt : k < c.ops
          · have ed : decide (k < c.ops) = true := decide_eq_true hlt
            by_cases hkn : k = oo
            · have en : ((k : Int) != (oo : Int)) = false := by simp [hkn]
              have HKN := Lib.hid hkn
              clear hkn
              go_wp2_with fail
              refine (rOps_at _ _ _ _ _ _ _ HO.out).mono ?_; rintro e w10 ⟨rfl, g10⟩
              go_wp2_with fail
              have X := ApR.intro ((q2).trans (But.of_grown g10)) nk0 nk1 (HW.out.grown g10)
              exact ⟨⟨k + 1, hlt, by simp, X.more⟩, by simp [intOf]; omega⟩
            · have en : ((k : Int) != (oo : Int)) = true := by simp; omega
              have HKN := Lib.hid hkn
              clear hkn
              go_wp2_with fail
              refine (rOps_at _ _ _ _ _ _ _ HO.out).mono ?_; rintro e w10 ⟨rfl, g10⟩
              go_wp2_with fail
              refine (wWord_any _ c d _ nk _ k (HW.out.grown g10) nk0 (by omega)).mono ?_; rintro e w11 ⟨rfl, q11, h11⟩
              rw [OW.out k hlt HKN.out]
              have X := ApR.step ((q2).trans (But.of_grown g10)) nk0 nk1 q11 h11
              go_wp2_with fail
              exact ⟨⟨k + 1, hlt, by simp, X⟩, by simp [intOf]; omega⟩
          · obtain rfl : k = c.ops := by omega
            have ed : decide (c.ops < c.ops) = false := decide_eq_false (by omega)
            clear hlt hk
            go_wp2_with fail
            refine (rOps_at _ _ _ _ _ _ _ HO.out).mono ?_; rintro e w10 ⟨rfl, g10⟩
            replace HW := Lib.hid (HW.out.grown g10)
            replace q2 := (q2).trans (But.of_grown g10)
            go_wp2_with fail
            have HX2 := Lib.hid (ApR.intro (m := 10 + c.nodes + c.ops) (k := 0) (But.refl _ _) nk0 (by omega) HW.out)
            clear nk0 nk1 HW nk p0 p1 p2 p3 p4 ed
            go_loopw [15] (fun i wr => ∃ k : Nat, k ≤ c.t ∧ i = .int .i64 k ∧ ApR _ c d (apW c nd oo tt n3 v0 v1) wr k (10 + c.nodes + c.ops)) (fun i _ => c.t - (intOf i).toNat)
            case atStart => exact ⟨0, Nat.zero_le _, rfl, HX2.out⟩
            case round =>
              obtain ⟨k, hk, rfl, q3, nk, nk0, nk1, hkW⟩ := hrel
              have HW := Lib.hid hkW
              clear hkW
              have p0 := (q1.trans (q2.trans q3)).cell z0 a0
              have p1 := (q1.trans (q2.trans q3)).cell z0 a1
              have p2 := (q1.trans (q2.trans q3)).cell z0 a2
              have p3 := (q1.trans (q2.trans q3)).cell z0 a3
              have p4 := (q1.trans (q2.trans q3)).cell z0 a4
              by_cases hlt : k < c.t
              · have ed : decide (k < c.t) = true := decide_eq_true hlt
                by_cases hkn : k = tt
                · have en : ((k : Int) != (tt : Int)) = false := by simp [hkn]
                  have HKN := Lib.hid hkn
                  clear hkn
                  go_wp2_with fail
                  skip
                  have X := ApR.intro ((q3).trans (But.of_grown (Grown.refl _))) nk0 nk1 (HW.out.grown (Grown.refl _))
                  exact ⟨⟨k + 1, hlt, by simp, X.more⟩, by simp [intOf]; omega⟩
                · have en : ((k : Int) != (tt : Int)) = true := by simp; omega
                  have HKN := Lib.hid hkn
                  clear hkn
                  go_wp2_with fail
                  skip
                  refine (wAnn_any _ c d _ nk _ k (HW.out.grown (Grown.refl _)) nk0 (by omega)).mono ?_; rintro e w11 ⟨rfl, q11, h11⟩
                  rw [OA.out k hlt HKN.out]
                  have X := ApR.step ((q3).trans (But.of_grown (Grown.refl _))) nk0 nk1 q11 h11
                  go_wp2_with fail
                  exact ⟨⟨k + 1, hlt, by simp, X⟩, by simp [intOf]; omega⟩
              · obtain rfl : k = c.t := by omega
                have ed : decide (c.t < c.t) = false := decide_eq_false (by omega)
                clear hlt hk
                go_wp2_with fail
                skip
                have K9 := (q1.trans (q2.trans q3))
                have y0 := K9.cell z2 x0
                have y1 := K9.cell z2 x1
                have y3 := K9.cell z1 b3
                refine wp_region_planb (Mine d.p d.b) (.one [0, 1, 2, 3, 5, 6] 4 (.one [7, 8, 9, 10, 11, 13, 14] 12 (.one [15, 16, 17, 18, 19, 21, 22, 23] 20 (.fin [24, 25, 26])))) (by kernel_rfl) (by kernel_rfl) (by kernel_rfl) ?_
                intro u0 gu
                have s0 : ∀ g : ButW (Mine d.p d.b) u0, g.w.cell? ⟨w.heap.size + 1 + 1, 0, none⟩ = some (.int .u64 v0) := ButW.cell z2 (gcell gu y0)
                have s1 : ∀ g : ButW (Mine d.p d.b) u0, g.w.cell? ⟨w.heap.size + 1 + 1, 1, none⟩ = some (.int .u64 v1) := ButW.cell z2 (gcell gu y1)
                have s3 : ∀ g : ButW (Mine d.p d.b) u0, g.w.cell? ⟨w.heap.size + 1, 3, none⟩ = some (.int .u8 n3) := ButW.cell z1 (gcell gu y3)
                have ev0 : (v0 == v0) = true := by simp
                have ev1 : (v1 == v1) = true := by simp
                have ev3 : (n3 == n3) = true := by simp
                refine plan_one ?_
                simp only [nths, nth, List.map_cons, List.map_nil, List.getD_cons_zero, List.getD_cons_succ]
                repeat go_big_quiet_step (fail)
                refine wpQuiet_nil ?_
                go_wp2_with fail
                refine (wNext_any _ c d _ nk _ nd (HW.out.grown gu) nk0 (by omega)).mono ?_; rintro e u1 ⟨rfl, r1, i1⟩
                rw [IN.out]
                have M1 := cnt_bd (apW c nd oo tt n3 v0 v1) (nxtI c nd)
                go_wp2_with fail
                refine nxt_but r1 (plan_one ?_)
                simp only [nths, nth, List.map_cons, List.map_nil, List.getD_cons_zero, List.getD_cons_succ]
                repeat go_big_quiet_step (fail)
                refine wpQuiet_nil ?_
                go_wp2_with fail
                refine (wWord_any _ c d _ _ _ oo i1 (by omega) (by omega)).mono ?_; rintro e u2 ⟨rfl, r2, i2⟩
                rw [IW.out]
                have M2 := cnt_bd (apW c nd oo tt n3 v0 v1) (wrdI c oo)
                go_wp2_with fail
                refine nxt_but (r1.trans r2) (plan_one ?_)
                simp only [nths, nth, List.map_cons, List.map_nil, List.getD_cons_zero, List.getD_cons_succ]
                repeat go_big_quiet_step (fail)
                refine wpQuiet_nil ?_
                go_wp2_with fail
                refine (wAnn_any _ c d _ _ _ tt i2 (by omega) (by omega)).mono ?_; rintro e u3 ⟨rfl, r3, i3⟩
                rw [IA.out]
                go_wp2_with fail
                refine nxt_but (r1.trans (r2.trans r3)) (plan_fin ?_)
                simp only [nths, nth, List.map_cons, List.map_nil, List.getD_cons_zero, List.getD_cons_succ]
                repeat go_big_quiet_step (fail)
                refine wpQuiet_nil ?_
                go_wp2_with fail
                go_ret
                exact ⟨rfl, fresh8 G9 (K9.trans ((But.of_grown gu).trans (r1.trans (r2.trans r3)))) hp hb⟩

end Go.Proofs.Ytjllemjmdbnkjaa
