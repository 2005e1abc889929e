/- The document's answers for package layout (corrieref05): what each call returns, and that it leaves all memory that was there as it was. -/
import Derived.Test.YtjllemjmdbnkjaaGreatLay
namespace Go.Proofs.YtjllemjmdbnkjaaGreat
open Go.ChangeShapes Go.WideShapes Go.ChangeAt Go.RowKit
set_option maxRecDepth 100000
def bIn (t b i f k n m : Int) : Bool := zOk t b i f k && decide (0 ≤ n ∧ n < m)
theorem bIn_spec {t b i f k n m : Int} : bIn t b i f k n m = true ↔ zOk t b i f k = true ∧ 0 ≤ n ∧ n < m := by
  unfold bIn; rw [Bool.and_eq_true, decide_eq_true_eq]

theorem rIn_at (t b i f k n m : Int) (v : Bool) (w : World) (h : bIn t b i f k n m = v) :
    Calls Tryz.prog 81 #[.agg #[.int .i64 t, .int .i64 b, .int .i64 i, .int .i64 f, .int .i64 k], .int .i64 n, .int .i64 m] w fun e w' => e = .returned (.bool v) ∧ Grown w w' := by
  subst h
  by_cases hz : zOk t b i f k = true
  · have hu : (if zOk t b i f k = true then 0 else 1) = (0 : Int) := if_pos hz
    have HU := Lib.hid hu; clear hu
    by_cases h1 : 0 ≤ n
    · by_cases h2 : n < m
      · have hd : bIn t b i f k n m = true := bIn_spec.2 ⟨hz, h1, h2⟩
        rw [hd]; clear hd hz
        have e1 : decide (0 ≤ n) = true := decide_eq_true h1
        have e2 : decide (n < m) = true := decide_eq_true h2
        go_enter Tryz.func81, Tryz.ntmps81
        go_wp2_with fail
        refine (rMayC_at _ _ _ _ _ _ _ HU.out).mono ?_; rintro e w1 ⟨rfl, g1⟩
        have g1' := galloc g1
        go_wp2_with fail
        go_ret
        exact ⟨rfl, by go_grown⟩
      · have hd : bIn t b i f k n m = false := by rw [Bool.eq_false_iff]; intro h; exact h2 (bIn_spec.1 h).2.2
        rw [hd]; clear hd hz
        have e1 : decide (0 ≤ n) = true := decide_eq_true h1
        have e2 : decide (n < m) = false := decide_eq_false h2
        go_enter Tryz.func81, Tryz.ntmps81
        go_wp2_with fail
        refine (rMayC_at _ _ _ _ _ _ _ HU.out).mono ?_; rintro e w1 ⟨rfl, g1⟩
        have g1' := galloc g1
        go_wp2_with fail
        go_ret
        exact ⟨rfl, by go_grown⟩
    · have hd : bIn t b i f k n m = false := by rw [Bool.eq_false_iff]; intro h; exact h1 (bIn_spec.1 h).2.1
      rw [hd]; clear hd hz
      have e1 : decide (0 ≤ n) = false := decide_eq_false h1
      go_enter Tryz.func81, Tryz.ntmps81
      go_wp2_with fail
      refine (rMayC_at _ _ _ _ _ _ _ HU.out).mono ?_; rintro e w1 ⟨rfl, g1⟩
      have g1' := galloc g1
      go_wp2_with fail
      go_ret
      exact ⟨rfl, by go_grown⟩
  · have hu : (if zOk t b i f k = true then 0 else 1) = (1 : Int) := if_neg hz
    have HU := Lib.hid hu; clear hu
    have hd : bIn t b i f k n m = false := by rw [Bool.eq_false_iff]; intro h; exact hz (bIn_spec.1 h).1
    rw [hd]; clear hd hz
    go_enter Tryz.func81, Tryz.ntmps81
    go_wp2_with fail
    refine (rMayC_at _ _ _ _ _ _ _ HU.out).mono ?_; rintro e w1 ⟨rfl, g1⟩
    have g1' := galloc g1
    go_wp2_with fail
    go_ret
    exact ⟨rfl, by go_grown⟩

set_option maxHeartbeats 1000000 in
theorem rNext_at (t b i f k n v : Int) (w : World) (h : vNext t b i f k n = v) :
    Calls Tryz.prog 60 #[.agg #[.int .i64 t, .int .i64 b, .int .i64 i, .int .i64 f, .int .i64 k], .int .i64 n] w fun e w' => e = .returned (.int .i64 v) ∧ Grown w w' := by
  subst h
  obtain ⟨m, hm⟩ : ∃ u, zNodes t b i f k = u := ⟨_, rfl⟩
  by_cases hi : bIn t b i f k n (zNodes t b i f k) = true
  · have hs := bIn_spec.1 hi
    have hv : vNext t b i f k n = n := if_pos hs
    rw [hv]; clear hv
    rw [hm] at hi
    have HM := Lib.hid hm; clear hm
    have HI := Lib.hid hi; clear hi
    go_enter Tryz.func60, Tryz.ntmps60
    go_wp2_with fail
    refine wp_region_mixg [([0, 1, 2], 3), ([], 4)] [] (by kernel_rfl) (by kernel_rfl) (by kernel_rfl) ?_
    intro w1 g1
    have c0 : ∀ g : GrW w1, g.w.cell? ⟨w.heap.size, 0, none⟩ = some (.int .i64 t) := GrW.cell (gcell g1 (by simp))
    have c1 : ∀ g : GrW w1, g.w.cell? ⟨w.heap.size, 1, none⟩ = some (.int .i64 b) := GrW.cell (gcell g1 (by simp))
    have c2 : ∀ g : GrW w1, g.w.cell? ⟨w.heap.size, 2, none⟩ = some (.int .i64 i) := GrW.cell (gcell g1 (by simp))
    have c3 : ∀ g : GrW w1, g.w.cell? ⟨w.heap.size, 3, none⟩ = some (.int .i64 f) := GrW.cell (gcell g1 (by simp))
    have c4 : ∀ g : GrW w1, g.w.cell? ⟨w.heap.size, 4, none⟩ = some (.int .i64 k) := GrW.cell (gcell g1 (by simp))
    replace g1 := galloc g1
    simp only [segs, nths, nth, List.map_cons, List.map_nil, List.getD_cons_zero, List.getD_cons_succ]
    refine mix_step ?_
    repeat go_big_quiet_step (fail)
    refine wpQuiet_nil ?_
    replace c0 := c0 ⟨w1, Grown.refl _⟩
    replace c1 := c1 ⟨w1, Grown.refl _⟩
    replace c2 := c2 ⟨w1, Grown.refl _⟩
    replace c3 := c3 ⟨w1, Grown.refl _⟩
    replace c4 := c4 ⟨w1, Grown.refl _⟩
    go_wp2_with fail
    refine (rNodes_at _ _ _ _ _ _ _ HM.out).mono ?_; rintro e w2 ⟨rfl, g2⟩
    replace c0 := gcell g2 c0
    replace c1 := gcell g2 c1
    replace c2 := gcell g2 c2
    replace c3 := gcell g2 c3
    replace c4 := gcell g2 c4
    go_wp2_with fail
    refine nxt_grow g2 (mix_step (wpQuiet_nil ?_))
    replace g1 := gtr g1 g2; clear g2
    go_wp2_with fail
    refine (rIn_at _ _ _ _ _ _ _ _ _ HI.out).mono ?_; rintro e w3 ⟨rfl, g2⟩
    replace c0 := gcell g2 c0
    replace c1 := gcell g2 c1
    replace c2 := gcell g2 c2
    replace c3 := gcell g2 c3
    replace c4 := gcell g2 c4
    go_wp2_with fail
    refine nxt_grow g2 (mix_last (wpQuiet_nil ?_))
    replace g1 := gtr g1 g2; clear g2
    clear c0 c1 c2 c3 c4
    go_wp2_with fail
    go_ret
    exact ⟨rfl, g1⟩
  · have hv : vNext t b i f k n = -1 := if_neg fun h => hi (bIn_spec.2 h)
    rw [hv]; clear hv
    replace hi : bIn t b i f k n (zNodes t b i f k) = false := by simpa using hi
    rw [hm] at hi
    have HM := Lib.hid hm; clear hm
    have HI := Lib.hid hi; clear hi
    go_enter Tryz.func60, Tryz.ntmps60
    go_wp2_with fail
    refine wp_region_mixg [([0, 1, 2], 3), ([], 4)] [] (by kernel_rfl) (by kernel_rfl) (by kernel_rfl) ?_
    intro w1 g1
    have c0 : ∀ g : GrW w1, g.w.cell? ⟨w.heap.size, 0, none⟩ = some (.int .i64 t) := GrW.cell (gcell g1 (by simp))
    have c1 : ∀ g : GrW w1, g.w.cell? ⟨w.heap.size, 1, none⟩ = some (.int .i64 b) := GrW.cell (gcell g1 (by simp))
    have c2 : ∀ g : GrW w1, g.w.cell? ⟨w.heap.size, 2, none⟩ = some (.int .i64 i) := GrW.cell (gcell g1 (by simp))
    have c3 : ∀ g : GrW w1, g.w.cell? ⟨w.heap.size, 3, none⟩ = some (.int .i64 f) := GrW.cell (gcell g1 (by simp))
    have c4 : ∀ g : GrW w1, g.w.cell? ⟨w.heap.size, 4, none⟩ = some (.int .i64 k) := GrW.cell (gcell g1 (by simp))
    replace g1 := galloc g1
    simp only [segs, nths, nth, List.map_cons, List.map_nil, List.getD_cons_zero, List.getD_cons_succ]
    refine mix_step ?_
    repeat go_big_quiet_step (fail)
    refine wpQuiet_nil ?_
    replace c0 := c0 ⟨w1, Grown.refl _⟩
    replace c1 := c1 ⟨w1, Grown.refl _⟩
    replace c2 := c2 ⟨w1, Grown.refl _⟩
    replace c3 := c3 ⟨w1, Grown.refl _⟩
    replace c4 := c4 ⟨w1, Grown.refl _⟩
    go_wp2_with fail
    refine (rNodes_at _ _ _ _ _ _ _ HM.out).mono ?_; rintro e w2 ⟨rfl, g2⟩
    replace c0 := gcell g2 c0
    replace c1 := gcell g2 c1
    replace c2 := gcell g2 c2
    replace c3 := gcell g2 c3
    replace c4 := gcell g2 c4
    go_wp2_with fail
    refine nxt_grow g2 (mix_step (wpQuiet_nil ?_))
    replace g1 := gtr g1 g2; clear g2
    go_wp2_with fail
    refine (rIn_at _ _ _ _ _ _ _ _ _ HI.out).mono ?_; rintro e w3 ⟨rfl, g2⟩
    replace c0 := gcell g2 c0
    replace c1 := gcell g2 c1
    replace c2 := gcell g2 c2
    replace c3 := gcell g2 c3
    replace c4 := gcell g2 c4
    go_wp2_with fail
    refine nxt_grow g2 (mix_last (wpQuiet_nil ?_))
    replace g1 := gtr g1 g2; clear g2
    clear c0 c1 c2 c3 c4
    go_wp2_with fail
    go_ret
    exact ⟨rfl, g1⟩

set_option maxHeartbeats 1000000 in
theorem rWord_at (t b i f k n v : Int) (w : World) (h : vWord t b i f k n = v) :
    Calls Tryz.prog 63 #[.agg #[.int .i64 t, .int .i64 b, .int .i64 i, .int .i64 f, .int .i64 k], .int .i64 n] w fun e w' => e = .returned (.int .i64 v) ∧ Grown w w' := by
  subst h
  obtain ⟨m, hm⟩ : ∃ u, zOps t b i f k = u := ⟨_, rfl⟩
  by_cases hi : bIn t b i f k n (zOps t b i f k) = true
  · have hs := bIn_spec.1 hi
    have hv : vWord t b i f k n = zNodes t b i f k + n := if_pos hs
    rw [hv]; clear hv
    have hb := z_bd hs.1
    obtain ⟨u, hu⟩ : ∃ u, zNodes t b i f k = u := ⟨_, rfl⟩
    have u1 : 0 ≤ u ∧ u ≤ 4161 := by omega
    obtain ⟨u1, u2⟩ := u1
    have n1 : 0 ≤ n ∧ n ≤ 9999 := by omega
    obtain ⟨n1, n2⟩ := n1
    rw [hu]
    have HU := Lib.hid hu; clear hu hb hs
    rw [hm] at hi
    have HM := Lib.hid hm; clear hm
    have HI := Lib.hid hi; clear hi
    go_enter Tryz.func63, Tryz.ntmps63
    go_wp2_with fail
    refine wp_region_mixg [([0, 1, 2], 3), ([], 4)] [] (by kernel_rfl) (by kernel_rfl) (by kernel_rfl) ?_
    intro w1 g1
    have c0 : ∀ g : GrW w1, g.w.cell? ⟨w.heap.size, 0, none⟩ = some (.int .i64 t) := GrW.cell (gcell g1 (by simp))
    have c1 : ∀ g : GrW w1, g.w.cell? ⟨w.heap.size, 1, none⟩ = some (.int .i64 b) := GrW.cell (gcell g1 (by simp))
    have c2 : ∀ g : GrW w1, g.w.cell? ⟨w.heap.size, 2, none⟩ = some (.int .i64 i) := GrW.cell (gcell g1 (by simp))
    have c3 : ∀ g : GrW w1, g.w.cell? ⟨w.heap.size, 3, none⟩ = some (.int .i64 f) := GrW.cell (gcell g1 (by simp))
    have c4 : ∀ g : GrW w1, g.w.cell? ⟨w.heap.size, 4, none⟩ = some (.int .i64 k) := GrW.cell (gcell g1 (by simp))
    replace g1 := galloc g1
    simp only [segs, nths, nth, List.map_cons, List.map_nil, List.getD_cons_zero, List.getD_cons_succ]
    refine mix_step ?_
    repeat go_big_quiet_step (fail)
    refine wpQuiet_nil ?_
    replace c0 := c0 ⟨w1, Grown.refl _⟩
    replace c1 := c1 ⟨w1, Grown.refl _⟩
    replace c2 := c2 ⟨w1, Grown.refl _⟩
    replace c3 := c3 ⟨w1, Grown.refl _⟩
    replace c4 := c4 ⟨w1, Grown.refl _⟩
    go_wp2_with fail
    refine (rOps_at _ _ _ _ _ _ _ HM.out).mono ?_; rintro e w2 ⟨rfl, g2⟩
    replace c0 := gcell g2 c0
    replace c1 := gcell g2 c1
    replace c2 := gcell g2 c2
    replace c3 := gcell g2 c3
    replace c4 := gcell g2 c4
    go_wp2_with fail
    refine nxt_grow g2 (mix_step (wpQuiet_nil ?_))
    replace g1 := gtr g1 g2; clear g2
    go_wp2_with fail
    refine (rIn_at _ _ _ _ _ _ _ _ _ HI.out).mono ?_; rintro e w3 ⟨rfl, g2⟩
    replace c0 := gcell g2 c0
    replace c1 := gcell g2 c1
    replace c2 := gcell g2 c2
    replace c3 := gcell g2 c3
    replace c4 := gcell g2 c4
    go_wp2_with fail
    refine nxt_grow g2 (mix_last (wpQuiet_nil ?_))
    replace g1 := gtr g1 g2; clear g2
    go_wp2_with fail
    refine (rNodes_at _ _ _ _ _ _ _ HU.out).mono ?_; rintro e w4 ⟨rfl, g2⟩
    replace g1 := gtr g1 g2; clear g2
    clear c0 c1 c2 c3 c4
    go_wp2_with fail
    go_ret
    exact ⟨ret_int (by first | rfl | go_arith), g1⟩
  · have hv : vWord t b i f k n = -1 := if_neg fun h => hi (bIn_spec.2 h)
    rw [hv]; clear hv
    replace hi : bIn t b i f k n (zOps t b i f k) = false := by simpa using hi
    rw [hm] at hi
    have HM := Lib.hid hm; clear hm
    have HI := Lib.hid hi; clear hi
    go_enter Tryz.func63, Tryz.ntmps63
    go_wp2_with fail
    refine wp_region_mixg [([0, 1, 2], 3), ([], 4)] [] (by kernel_rfl) (by kernel_rfl) (by kernel_rfl) ?_
    intro w1 g1
    have c0 : ∀ g : GrW w1, g.w.cell? ⟨w.heap.size, 0, none⟩ = some (.int .i64 t) := GrW.cell (gcell g1 (by simp))
    have c1 : ∀ g : GrW w1, g.w.cell? ⟨w.heap.size, 1, none⟩ = some (.int .i64 b) := GrW.cell (gcell g1 (by simp))
    have c2 : ∀ g : GrW w1, g.w.cell? ⟨w.heap.size, 2, none⟩ = some (.int .i64 i) := GrW.cell (gcell g1 (by simp))
    have c3 : ∀ g : GrW w1, g.w.cell? ⟨w.heap.size, 3, none⟩ = some (.int .i64 f) := GrW.cell (gcell g1 (by simp))
    have c4 : ∀ g : GrW w1, g.w.cell? ⟨w.heap.size, 4, none⟩ = some (.int .i64 k) := GrW.cell (gcell g1 (by simp))
    replace g1 := galloc g1
    simp only [segs, nths, nth, List.map_cons, List.map_nil, List.getD_cons_zero, List.getD_cons_succ]
    refine mix_step ?_
    repeat go_big_quiet_step (fail)
    refine wpQuiet_nil ?_
    replace c0 := c0 ⟨w1, Grown.refl _⟩
    replace c1 := c1 ⟨w1, Grown.refl _⟩
    replace c2 := c2 ⟨w1, Grown.refl _⟩
    replace c3 := c3 ⟨w1, Grown.refl _⟩
    replace c4 := c4 ⟨w1, Grown.refl _⟩
    go_wp2_with fail
    refine (rOps_at _ _ _ _ _ _ _ HM.out).mono ?_; rintro e w2 ⟨rfl, g2⟩
    replace c0 := gcell g2 c0
    replace c1 := gcell g2 c1
    replace c2 := gcell g2 c2
    replace c3 := gcell g2 c3
    replace c4 := gcell g2 c4
    go_wp2_with fail
    refine nxt_grow g2 (mix_step (wpQuiet_nil ?_))
    replace g1 := gtr g1 g2; clear g2
    go_wp2_with fail
    refine (rIn_at _ _ _ _ _ _ _ _ _ HI.out).mono ?_; rintro e w3 ⟨rfl, g2⟩
    replace c0 := gcell g2 c0
    replace c1 := gcell g2 c1
    replace c2 := gcell g2 c2
    replace c3 := gcell g2 c3
    replace c4 := gcell g2 c4
    go_wp2_with fail
    refine nxt_grow g2 (mix_last (wpQuiet_nil ?_))
    replace g1 := gtr g1 g2; clear g2
    clear c0 c1 c2 c3 c4
    go_wp2_with fail
    go_ret
    exact ⟨rfl, g1⟩

set_option maxHeartbeats 1000000 in
theorem rAnn_at (t b i f k n v : Int) (w : World) (h : vAnn t b i f k n = v) :
    Calls Tryz.prog 64 #[.agg #[.int .i64 t, .int .i64 b, .int .i64 i, .int .i64 f, .int .i64 k], .int .i64 n] w fun e w' => e = .returned (.int .i64 v) ∧ Grown w w' := by
  subst h
  by_cases hi : bIn t b i f k n t = true
  · have hs := bIn_spec.1 hi
    have hv : vAnn t b i f k n = zNodes t b i f k + zOps t b i f k + n := if_pos hs
    rw [hv]; clear hv
    have hb := z_bd hs.1
    obtain ⟨u, hu⟩ : ∃ u, zNodes t b i f k = u := ⟨_, rfl⟩
    obtain ⟨o, ho⟩ : ∃ u, zOps t b i f k = u := ⟨_, rfl⟩
    have u1 : (0 ≤ u ∧ u ≤ 4161) ∧ 0 ≤ o ∧ o ≤ 2048 := by omega
    obtain ⟨⟨u1, u2⟩, o1, o2⟩ := u1
    have n1 : 0 ≤ n ∧ n ≤ 9999 := by omega
    obtain ⟨n1, n2⟩ := n1
    rw [hu, ho]
    have HU := Lib.hid hu
    have HO := Lib.hid ho; clear hu ho hb hs
    have HI := Lib.hid hi; clear hi
    go_enter Tryz.func64, Tryz.ntmps64
    go_wp2_with fail
    refine (rIn_at _ _ _ _ _ _ _ _ _ HI.out).mono ?_; rintro e w1 ⟨rfl, g1⟩
    have c0 : w1.cell? ⟨w.heap.size, 0, none⟩ = some (.int .i64 t) := gcell g1 (by simp)
    have c1 : w1.cell? ⟨w.heap.size, 1, none⟩ = some (.int .i64 b) := gcell g1 (by simp)
    have c2 : w1.cell? ⟨w.heap.size, 2, none⟩ = some (.int .i64 i) := gcell g1 (by simp)
    have c3 : w1.cell? ⟨w.heap.size, 3, none⟩ = some (.int .i64 f) := gcell g1 (by simp)
    have c4 : w1.cell? ⟨w.heap.size, 4, none⟩ = some (.int .i64 k) := gcell g1 (by simp)
    replace g1 := galloc g1
    replace c0 := GrW.cell c0
    replace c1 := GrW.cell c1
    replace c2 := GrW.cell c2
    replace c3 := GrW.cell c3
    replace c4 := GrW.cell c4
    go_wp2_with fail
    refine wp_region_grow (by kernel_rfl) (by kernel_rfl) ?_
    repeat (go_big_quiet_step ((first | (go_at_call 57; exact grcall (rNodes_at _ _ _ _ _ _ _ HU.out)) | (go_at_call 58; exact grcall (rOps_at _ _ _ _ _ _ _ HO.out)))))
    refine wpQuiet_nil ?_
    rintro _ ⟨⟨w2, g2⟩, rfl⟩
    have g2' := gtr g1 g2
    go_wp2
    go_ret
    exact ⟨ret_int (by first | rfl | go_arith), g2'⟩
  · have hv : vAnn t b i f k n = -1 := if_neg fun h => hi (bIn_spec.2 h)
    rw [hv]; clear hv
    replace hi : bIn t b i f k n t = false := by simpa using hi
    have HI := Lib.hid hi; clear hi
    go_enter Tryz.func64, Tryz.ntmps64
    go_wp2_with fail
    refine (rIn_at _ _ _ _ _ _ _ _ _ HI.out).mono ?_; rintro e w1 ⟨rfl, g1⟩
    have c0 : w1.cell? ⟨w.heap.size, 0, none⟩ = some (.int .i64 t) := gcell g1 (by simp)
    have c1 : w1.cell? ⟨w.heap.size, 1, none⟩ = some (.int .i64 b) := gcell g1 (by simp)
    have c2 : w1.cell? ⟨w.heap.size, 2, none⟩ = some (.int .i64 i) := gcell g1 (by simp)
    have c3 : w1.cell? ⟨w.heap.size, 3, none⟩ = some (.int .i64 f) := gcell g1 (by simp)
    have c4 : w1.cell? ⟨w.heap.size, 4, none⟩ = some (.int .i64 k) := gcell g1 (by simp)
    replace g1 := galloc g1
    clear c0 c1 c2 c3 c4
    go_wp2_with fail
    go_ret
    exact ⟨rfl, g1⟩

theorem rLen_at (t b i f k v : Int) (w : World) (h : vLen t b i f k = v) :
    Calls Tryz.prog 28 #[.agg #[.int .i64 t, .int .i64 b, .int .i64 i, .int .i64 f, .int .i64 k]] w fun e w' => e = .returned (.int .i64 v) ∧ Grown w w' := by
  subst h
  by_cases hk : zOk t b i f k = true
  · have hv : vLen t b i f k = zNodes t b i f k + zOps t b i f k + t := if_pos hk
    rw [hv]; clear hv
    have hb := z_bd hk
    have hu : (if zOk t b i f k = true then 0 else 1) = (0 : Int) := if_pos hk
    have HV := Lib.hid hu; clear hu hk
    obtain ⟨u, hu⟩ : ∃ u, zNodes t b i f k = u := ⟨_, rfl⟩
    obtain ⟨o, ho⟩ : ∃ u, zOps t b i f k = u := ⟨_, rfl⟩
    have u1 : (0 ≤ u ∧ u ≤ 4161) ∧ 0 ≤ o ∧ o ≤ 2048 := by omega
    obtain ⟨⟨u1, u2⟩, o1, o2⟩ := u1
    have n1 : 1 ≤ t ∧ t ≤ 8 := by omega
    obtain ⟨n1, n2⟩ := n1
    rw [hu, ho]
    have HU := Lib.hid hu
    have HO := Lib.hid ho; clear hu ho hb
    go_enter Tryz.func28, Tryz.ntmps28
    go_wp2_with fail
    refine (rMayC_at _ _ _ _ _ _ _ HV.out).mono ?_; rintro e w1 ⟨rfl, g1⟩
    have c0 : ∀ g : GrW w1, g.w.cell? ⟨w.heap.size, 0, none⟩ = some (.int .i64 t) := GrW.cell (gcell g1 (by simp))
    have c1 : ∀ g : GrW w1, g.w.cell? ⟨w.heap.size, 1, none⟩ = some (.int .i64 b) := GrW.cell (gcell g1 (by simp))
    have c2 : ∀ g : GrW w1, g.w.cell? ⟨w.heap.size, 2, none⟩ = some (.int .i64 i) := GrW.cell (gcell g1 (by simp))
    have c3 : ∀ g : GrW w1, g.w.cell? ⟨w.heap.size, 3, none⟩ = some (.int .i64 f) := GrW.cell (gcell g1 (by simp))
    have c4 : ∀ g : GrW w1, g.w.cell? ⟨w.heap.size, 4, none⟩ = some (.int .i64 k) := GrW.cell (gcell g1 (by simp))
    replace g1 := galloc g1
    go_wp2_with fail
    refine wp_region_grow (by kernel_rfl) (by kernel_rfl) ?_
    repeat (go_big_quiet_step ((first | (go_at_call 57; exact grcall (rNodes_at _ _ _ _ _ _ _ HU.out)) | (go_at_call 58; exact grcall (rOps_at _ _ _ _ _ _ _ HO.out)))))
    refine wpQuiet_nil ?_
    rintro _ ⟨⟨w2, g2⟩, rfl⟩
    have g2' := gtr g1 g2
    go_wp2
    go_ret
    exact ⟨ret_int (by first | rfl | go_arith), g2'⟩
  · have hv : vLen t b i f k = 0 := if_neg hk
    rw [hv]; clear hv
    have hu : (if zOk t b i f k = true then 0 else 1) = (1 : Int) := if_neg hk
    have HU := Lib.hid hu; clear hu hk
    go_enter Tryz.func28, Tryz.ntmps28
    go_wp2_with fail
    refine (rMayC_at _ _ _ _ _ _ _ HU.out).mono ?_; rintro e w1 ⟨rfl, g1⟩
    have g1' := galloc g1
    go_wp2_with fail
    go_ret
    exact ⟨rfl, by go_grown⟩

end Go.Proofs.YtjllemjmdbnkjaaGreat
