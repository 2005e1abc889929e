/- The laws of package world, walked: a new World. -/
import Derived.Test.YtjllemjmdbnkjaaWorldSt
namespace Go.Proofs.Ytjllemjmdbnkjaa
open Go.ChangeShapes Go.WideShapes Go.ChangeAt Go.RowKit
set_option maxRecDepth 100000
set_option linter.unusedVariables false

theorem rd_zeros_ (k : Nat) (i : Int) : rd (List.replicate k 0) i = 0 := by
  rcases in_or_out (List.replicate k 0) i with h | ⟨j, rfl, h⟩
  · exact rd_out h
  · rw [rd_in h]; simp
theorem opOf_zero : opOf 0 = -1 := by decide +kernel

set_option maxHeartbeats 1000000 in
theorem law_WorldNew (t b i f k th : Int) (w : World) (_ : -9223372036854775808 ≤ t) (_ : t ≤ 9223372036854775807) (_ : -9223372036854775808 ≤ b) (_ : b ≤ 9223372036854775807) (_ : -9223372036854775808 ≤ i) (_ : i ≤ 9223372036854775807) (_ : -9223372036854775808 ≤ f) (_ : f ≤ 9223372036854775807) (_ : -9223372036854775808 ≤ k) (_ : k ≤ 9223372036854775807) (h0 : 0 ≤ th) (h1 : th ≤ 255) :
    Calls Try.prog 3 #[.agg #[.int .i64 t, .int .i64 b, .int .i64 i, .int .i64 f, .int .i64 k], .int .u8 th] w fun e w' => e = .returned (.bool true) ∧ Grown w w' := by
  by_cases hz : zOk t b i f k = true
  · obtain ⟨c, rfl, rfl, rfl, rfl, rfl, hok⟩ := cf_of hz
    have HOK := Lib.hid hok
    have t1 := hok.t1
    have t8 := hok.t8
    have HC0 : Hid (CallsOf c (St.new c) 0 = 0) := Lib.hid (by unfold CallsOf; split <;> simp [St.new, at_zeros])
    have HL := Lib.hid (vLen_len hok)
    have HR : Hid (∀ i, opOf (rd (List.replicate c.len 0) (annI c i)) = -1) := Lib.hid (fun i => by rw [rd_zeros_]; exact opOf_zero)
    have HLL : Hid ((List.replicate c.len (0 : Int)).length = c.len) := Lib.hid (by simp)
    clear hz hok
    go_enter Try.func3, Try.ntmps3
    go_wp2_with fail
    refine (wAwake _).mono ?_; rintro e w0 ⟨rfl, g0⟩
    have a0 : w0.cell? ⟨w.heap.size, 0, none⟩ = some (.int .i64 c.t) := gcell g0 (by simp [go_sem])
    have a1 : w0.cell? ⟨w.heap.size, 1, none⟩ = some (.int .i64 c.b) := gcell g0 (by simp [go_sem])
    have a2 : w0.cell? ⟨w.heap.size, 2, none⟩ = some (.int .i64 c.i) := gcell g0 (by simp [go_sem])
    have a3 : w0.cell? ⟨w.heap.size, 3, none⟩ = some (.int .i64 c.f) := gcell g0 (by simp [go_sem])
    have a4 : w0.cell? ⟨w.heap.size, 4, none⟩ = some (.int .i64 c.k) := gcell g0 (by simp [go_sem])
    replace g0 : Grown w w0 := gtr (by go_grown) g0
    go_wp2_with fail
    refine (wNew_at _ c HOK.out).mono ?_; rintro e w2 ⟨d, rfl, g2, h2, hp, hb, -, -⟩
    have z1 : ¬ Mine d.p d.b w.heap.size := by have hz : w.heap.size < w0.heap.size := World.block_lt_of_cell? _ _ a0; rintro (h | h) <;> omega
    replace hp := Nat.le_trans g0.2.2 hp
    replace hb := Nat.le_trans g0.2.2 hb
    replace a0 := gcell g2 a0; replace a1 := gcell g2 a1; replace a2 := gcell g2 a2; replace a3 := gcell g2 a3; replace a4 := gcell g2 a4
    replace g2 := gtr g0 g2; clear g0
    have H2 := Lib.hid h2
    clear h2
    go_wp2_with fail
    refine (rWNew_at _ 0 c HOK.out (Nat.zero_le _)).mono ?_; rintro e w3 ⟨b3, s1, s2, s3, s4, s5, rfl, hh, hb3, hr, g3⟩
    obtain ⟨⟨A1, m1, j1, rfl⟩, ⟨A2, m2, j2, rfl⟩, ⟨A3, m3, j3, rfl⟩, ⟨A4, m4, j4, rfl⟩, ⟨A5, m5, j5, rfl⟩⟩ := hr.slices
    have H3 := Lib.hid (H2.out.grown g3)
    replace a0 := gcell g3 a0; replace a1 := gcell g3 a1; replace a2 := gcell g3 a2; replace a3 := gcell g3 a3; replace a4 := gcell g3 a4
    replace g3 := gtr g2 g3
    clear g2 hh hb3 hr H2
    simp only [WV]
    go_wp2_with fail
    refine wp_region_planb (Mine d.p d.b) (.one [0, 1, 2, 3, 4, 5, 6, 7, 8, 9, 10, 11, 12, 13, 14, 15, 16, 17, 19] 18 (.one [] 20 (.one [21, 22, 23, 24, 25, 26, 27, 28, 29] 30 (.one [31, 32, 33, 34, 35, 36, 37] 38 (.fin [39, 40, 41]))))) (by kernel_rfl) (by kernel_rfl) (by kernel_rfl) ?_
    intro w4 g4
    have ga : Grown w3 w4 := galloc g4
    have HX := Lib.hid (H3.out.grown ga)
    have k0 := HX.out.k0; have k1 := HX.out.k1; have k2 := HX.out.k2; have k3 := HX.out.k3; have k4 := HX.out.k4; have k5 := HX.out.k5; have k6 := HX.out.k6
    have mx := HX.out.mine
    clear H3
    have p0 : ∀ g : ButW (Mine d.p d.b) w4, g.w.cell? ⟨w.heap.size, 0, none⟩ = some (.int .i64 c.t) := ButW.cell z1 (gcell ga a0)
    have p1 : ∀ g : ButW (Mine d.p d.b) w4, g.w.cell? ⟨w.heap.size, 1, none⟩ = some (.int .i64 c.b) := ButW.cell z1 (gcell ga a1)
    have p2 : ∀ g : ButW (Mine d.p d.b) w4, g.w.cell? ⟨w.heap.size, 2, none⟩ = some (.int .i64 c.i) := ButW.cell z1 (gcell ga a2)
    have p3 : ∀ g : ButW (Mine d.p d.b) w4, g.w.cell? ⟨w.heap.size, 3, none⟩ = some (.int .i64 c.f) := ButW.cell z1 (gcell ga a3)
    have p4 : ∀ g : ButW (Mine d.p d.b) w4, g.w.cell? ⟨w.heap.size, 4, none⟩ = some (.int .i64 c.k) := ButW.cell z1 (gcell ga a4)
    have q0 : ∀ g : ButW (Mine d.p d.b) w4, g.w.cell? ⟨d.x, 0, none⟩ = some (.int .i64 c.t) := ButW.cell mx k0
    have q1 : ∀ g : ButW (Mine d.p d.b) w4, g.w.cell? ⟨d.x, 1, none⟩ = some (.int .i64 c.b) := ButW.cell mx k1
    have q2 : ∀ g : ButW (Mine d.p d.b) w4, g.w.cell? ⟨d.x, 2, none⟩ = some (.int .i64 c.i) := ButW.cell mx k2
    have q3 : ∀ g : ButW (Mine d.p d.b) w4, g.w.cell? ⟨d.x, 3, none⟩ = some (.int .i64 c.f) := ButW.cell mx k3
    have q4 : ∀ g : ButW (Mine d.p d.b) w4, g.w.cell? ⟨d.x, 4, none⟩ = some (.int .i64 c.k) := ButW.cell mx k4
    have q5 : ∀ g : ButW (Mine d.p d.b) w4, g.w.cell? ⟨d.x, 5, none⟩ = some (.pointer (some ⟨d.p, 0, none⟩)) := ButW.cell mx k5
    have q6 : ∀ g : ButW (Mine d.p d.b) w4, g.w.cell? ⟨d.x, 6, none⟩ = some (.pointer (some ⟨d.a.p, 0, none⟩)) := ButW.cell mx k6
    have en : ((c.t : Int) == 0) = false := by have ht : ¬ (c.t : Int) = 0 := by omega
                                               simpa using ht
    refine plan_one ?_
    simp only [nths, nth, List.map_cons, List.map_nil, List.getD_cons_zero, List.getD_cons_succ]
    repeat go_big_quiet_step (fail)
    refine wpQuiet_nil ?_
    clear k0 k1 k2 k3 k4 k5
    go_wp2_with fail
    refine (cLen_at _ _ _ _ _ HX.out.bank).mono ?_; rintro e w5 ⟨rfl, g5⟩
    rw [HLL.out]
    go_wp2_with fail
    refine nxt_but (But.of_grown g5) (plan_one ?_)
    simp only [nths, nth, List.map_nil, List.getD_cons_zero, List.getD_cons_succ]
    refine wpQuiet_nil ?_
    go_wp2_with fail
    refine (rLen_at _ _ _ _ _ _ _ HL.out).mono ?_; rintro e w6 ⟨rfl, g6⟩
    go_wp2_with fail
    refine nxt_but (But.of_grown (gtr g5 g6)) (plan_one ?_)
    simp only [nths, nth, List.map_cons, List.map_nil, List.getD_cons_zero, List.getD_cons_succ]
    clear p1 p2 p3 p4 q0 q1 q2 q3 q4 q5
    repeat go_big_quiet_step (fail)
    refine wpQuiet_nil ?_
    go_wp2_with fail
    have H6 := Lib.hid (HX.out.grown (gtr g5 g6))
    refine (wAnn_any _ c d _ 0 _ _ H6.out (by omega) (by omega)).mono ?_; rintro e w7 ⟨rfl, q7, h7⟩
    rw [HR.out]
    have H7 := Lib.hid h7
    clear h7 H6 HX
    go_wp2_with fail
    refine nxt_but ((But.of_grown (gtr g5 g6)).trans q7) (plan_one ?_)
    simp only [nths, nth, List.map_cons, List.map_nil, List.getD_cons_zero, List.getD_cons_succ]
    clear p0
    repeat go_big_quiet_step (fail)
    refine wpQuiet_nil ?_
    go_wp2_with fail
    refine (Calls_any _ c d.a _ H7.out.book 0 _ HC0.out).mono ?_; rintro e w8 ⟨rfl, g8⟩
    go_wp2_with fail
    refine nxt_but (((But.of_grown (gtr g5 g6)).trans q7).trans (But.of_grown g8)) (plan_fin ?_)
    simp only [nths, nth, List.map_cons, List.map_nil, List.getD_cons_zero, List.getD_cons_succ]
    clear q6
    repeat go_big_quiet_step (fail)
    refine wpQuiet_nil ?_
    go_wp2_with fail
    go_ret
    exact ⟨rfl, gtr (fresh8 (gtr g3 (gtr ga (gtr g5 g6))) q7 hp hb) g8⟩
  · have HZ := Lib.hid hz
    clear hz
    go_enter Try.func3, Try.ntmps3
    go_wp2_with fail
    refine (wAwake _).mono ?_; rintro e w0 ⟨rfl, g0⟩
    have a0 : w0.cell? ⟨w.heap.size, 0, none⟩ = some (.int .i64 t) := gcell g0 (by simp [go_sem])
    have a1 : w0.cell? ⟨w.heap.size, 1, none⟩ = some (.int .i64 b) := gcell g0 (by simp [go_sem])
    have a2 : w0.cell? ⟨w.heap.size, 2, none⟩ = some (.int .i64 i) := gcell g0 (by simp [go_sem])
    have a3 : w0.cell? ⟨w.heap.size, 3, none⟩ = some (.int .i64 f) := gcell g0 (by simp [go_sem])
    have a4 : w0.cell? ⟨w.heap.size, 4, none⟩ = some (.int .i64 k) := gcell g0 (by simp [go_sem])
    replace g0 : Grown w w0 := gtr (by go_grown) g0
    go_wp2_with fail
    refine (wNew_bad _ _ _ _ _ _ HZ.out).mono ?_; rintro e w2 ⟨rfl, g2⟩
    replace a0 := gcell g2 a0; replace a1 := gcell g2 a1; replace a2 := gcell g2 a2; replace a3 := gcell g2 a3; replace a4 := gcell g2 a4
    replace g2 := gtr g0 g2; clear g0
    go_wp2_with fail
    refine (rWNew_bad _ _ _ _ _ _ HZ.out).mono ?_; rintro e w3 ⟨rfl, g3⟩
    unfold zWV
    replace g3 := gtr g2 g3
    clear g2 a0 a1 a2 a3 a4
    go_wp2_with fail
    go_ret
    exact ⟨rfl, gtr g3 (by go_grown)⟩

end Go.Proofs.Ytjllemjmdbnkjaa
