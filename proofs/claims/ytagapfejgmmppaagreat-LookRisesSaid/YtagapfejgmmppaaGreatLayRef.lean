/- The document's answers for package layout (corrieref05): what each call returns, and that it leaves all memory that was there as it was. -/
import Derived.Test.YtagapfejgmmppaaGreatLay
namespace Go.Proofs.YtagapfejgmmppaaGreat
open Go.ChangeShapes Go.WideShapes Go.ChangeAt Go.RowKit
set_option maxRecDepth 100000
def bIn (t b i f k n m : Int) : Bool := zOk t b i f k && decide (0 ≤ n ∧ n < m)
theorem bIn_spec {t b i f k n m : Int} : bIn t b i f k n m = true ↔ zOk t b i f k = true ∧ 0 ≤ n ∧ n < m := by
  unfold bIn; rw [Bool.and_eq_true, decide_eq_true_eq]

theorem rIn_at (t b i f k n m : Int) (v : Bool) (w : World) (h : bIn t b i f k n m = v) :
    Calls Tryz.prog 61 #[.agg #[.int .i64 t, .int .i64 b, .int .i64 i, .int .i64 f, .int .i64 k], .int .i64 n, .int .i64 m] w fun e w' => e = .returned (.bool v) ∧ Grown w w' := by
  subst h
  by_cases hz : zOk t b i f k = true
  · have hu : (if zOk t b i f k = true then 0 else 1) = (0 : Int) := if_pos hz
    have HU := Lib.hid hu; clear hu
    by_cases h1 : 0 ≤ n
    · by_cases h2 : n < m
      · have hd : bIn t b i f k n m = true := bIn_spec.2 ⟨hz, h1, h2⟩
        rw [hd]; clear hd hz
        have e1 : decide (0 ≤ n) = true := decide_eq_true h1
        have e2 : decide (n < m) = true := decide_eq_true h2
        go_enter Tryz.func61, Tryz.ntmps61
        go_wp2_with fail
        refine (rMayC_at _ _ _ _ _ _ _ HU.out).mono ?_; rintro e w1 ⟨rfl, g1⟩
        have g1' := galloc g1
        go_wp2_with fail
        go_ret
        exact ⟨rfl, by go_grown⟩
      · have hd : bIn t b i f k n m = false := by rw [Bool.eq_false_iff]; intro h; exact h2 (bIn_spec.1 h).2.2
        rw [hd]; clear hd hz
        have e1 : decide (0 ≤ n) = true := decide_eq_true h1
        have e2 : decide (n < m) = false := decide_eq_false h2
        go_enter Tryz.func61, Tryz.ntmps61
        go_wp2_with fail
        refine (rMayC_at _ _ _ _ _ _ _ HU.out).mono ?_; rintro e w1 ⟨rfl, g1⟩
        have g1' := galloc g1
        go_wp2_with fail
        go_ret
        exact ⟨rfl, by go_grown⟩
    · have hd : bIn t b i f k n m = false := by rw [Bool.eq_false_iff]; intro h; exact h1 (bIn_spec.1 h).2.1
      rw [hd]; clear hd hz
      have e1 : decide (0 ≤ n) = false := decide_eq_false h1
      go_enter Tryz.func61, Tryz.ntmps61
      go_wp2_with fail
      refine (rMayC_at _ _ _ _ _ _ _ HU.out).mono ?_; rintro e w1 ⟨rfl, g1⟩
      have g1' := galloc g1
      go_wp2_with fail
      go_ret
      exact ⟨rfl, by go_grown⟩
  · have hu : (if zOk t b i f k = true then 0 else 1) = (1 : Int) := if_neg hz
    have HU := Lib.hid hu; clear hu
    have hd : bIn t b i f k n m = false := by rw [Bool.eq_false_iff]; intro h; exact hz (bIn_spec.1 h).1
    rw [hd]; clear hd hz
    go_enter Tryz.func61, Tryz.ntmps61
    go_wp2_with fail
    refine (rMayC_at _ _ _ _ _ _ _ HU.out).mono ?_; rintro e w1 ⟨rfl, g1⟩
    have g1' := galloc g1
    go_wp2_with fail
    go_ret
    exact ⟨rfl, by go_grown⟩

set_option maxHeartbeats 1000000 in
theorem rNext_at (t b i f k n v : Int) (w : World) (h : vNext t b i f k n = v) :
    Calls Tryz.prog 43 #[.agg #[.int .i64 t, .int .i64 b, .int .i64 i, .int .i64 f, .int .i64 k], .int .i64 n] w fun e w' => e = .returned (.int .i64 v) ∧ Grown w w' := by
  subst h
  obtain ⟨m, hm⟩ : ∃ u, zNodes t b i f k = u := ⟨_, rfl⟩
  by_cases hi : bIn t b i f k n (zNodes t b i f k) = true
  · have hs := bIn_spec.1 hi
    have hv : vNext t b i f k n = n := if_pos hs
    rw [hv]; clear hv
    rw [hm] at hi
    have HM := Lib.hid hm; clear hm
    have HI := Lib.hid hi; clear hi
    go_enter Tryz.func43, Tryz.ntmps43
    go_wp2_with fail
    refine wp_region_mixg [([0, 1, 2], 3), ([], 4)] [] (by kernel_rfl) (by kernel_rfl) (by kernel_rfl) ?_
    intro w1 g1
    have c0 : ∀ g : GrW w1, g.w.cell? ⟨w.heap.size, 0, none⟩ = some (.int .i64 t) := GrW.cell (gcell g1 (by simp))
    have c1 : ∀ g : GrW w1, g.w.cell? ⟨w.heap.size, 1, none⟩ = some (.int .i64 b) := GrW.cell (gcell g1 (by simp))
    have c2 : ∀ g : GrW w1, g.w.cell? ⟨w.heap.size, 2, none⟩ = some (.int .i64 i) := GrW.cell (gcell g1 (by simp))
    have c3 : ∀ g : GrW w1, g.w.cell? ⟨w.heap.size, 3, none⟩ = some (.int .i64 f) := GrW.cell (gcell g1 (by simp))
    have c4 : ∀ g : GrW w1, g.w.cell? ⟨w.heap.size, 4, none⟩ = some (.int .i64 k) := GrW.cell (gcell g1 (by simp))
    replace g1 := galloc g1
    simp only [segs, nths, nth, List.map_cons, List.map_nil, List.getD_cons_zero, List.getD_cons_succ]
    refine mix_step ?_
    repeat go_big_quiet_step (fail)
    refine wpQuiet_nil ?_
    replace c0 := c0 ⟨w1, Grown.refl _⟩
    replace c1 := c1 ⟨w1, Grown.refl _⟩
    replace c2 := c2 ⟨w1, Grown.refl _⟩
    replace c3 := c3 ⟨w1, Grown.refl _⟩
    replace c4 := c4 ⟨w1, Grown.refl _⟩
    go_wp2_with fail
    refine (rNodes_at _ _ _ _ _ _ _ HM.out).mono ?_; rintro e w2 ⟨rfl, g2⟩
    replace c0 := gcell g2 c0
    replace c1 := gcell g2 c1
    replace c2 := gcell g2 c2
    replace c3 := gcell g2 c3
    replace c4 := gcell g2 c4
    go_wp2_with fail
    refine nxt_grow g2 (mix_step (wpQuiet_nil ?_))
    replace g1 := gtr g1 g2; clear g2
    go_wp2_with fail
    refine (rIn_at _ _ _ _ _ _ _ _ _ HI.out).mono ?_; rintro e w3 ⟨rfl, g2⟩
    replace c0 := gcell g2 c0
    replace c1 := gcell g2 c1
    replace c2 := gcell g2 c2
    replace c3 := gcell g2 c3
    replace c4 := gcell g2 c4
    go_wp2_with fail
    refine nxt_grow g2 (mix_last (wpQuiet_nil ?_))
    replace g1 := gtr g1 g2; clear g2
    clear c0 c1 c2 c3 c4
    go_wp2_with fail
    go_ret
    exact ⟨rfl, g1⟩
  · have hv : vNext t b i f k n = -1 := if_neg fun h => hi (bIn_spec.2 h)
    rw [hv]; clear hv
    replace hi : bIn t b i f k n (zNodes t b i f k) = false := by simpa using hi
    rw [hm] at hi
    have HM := Lib.hid hm; clear hm
    have HI := Lib.hid hi; clear hi
    go_enter Tryz.func43, Tryz.ntmps43
    go_wp2_with fail
    refine wp_region_mixg [([0, 1, 2], 3), ([], 4)] [] (by kernel_rfl) (by kernel_rfl) (by kernel_rfl) ?_
    intro w1 g1
    have c0 : ∀ g : GrW w1, g.w.cell? ⟨w.heap.size, 0, none⟩ = some (.int .i64 t) := GrW.cell (gcell g1 (by simp))
    have c1 : ∀ g : GrW w1, g.w.cell? ⟨w.heap.size, 1, none⟩ = some (.int .i64 b) := GrW.cell (gcell g1 (by simp))
    have c2 : ∀ g : GrW w1, g.w.cell? ⟨w.heap.size, 2, none⟩ = some (.int .i64 i) := GrW.cell (gcell g1 (by simp))
    have c3 : ∀ g : GrW w1, g.w.cell? ⟨w.heap.size, 3, none⟩ = some (.int .i64 f) := GrW.cell (gcell g1 (by simp))
    have c4 : ∀ g : GrW w1, g.w.cell? ⟨w.heap.size, 4, none⟩ = some (.int .i64 k) := GrW.cell (gcell g1 (by simp))
    replace g1 := galloc g1
    simp only [segs, nths, nth, List.map_cons, List.map_nil, List.getD_cons_zero, List.getD_cons_succ]
    refine mix_step ?_
    repeat go_big_quiet_step (fail)
    refine wpQuiet_nil ?_
    replace c0 := c0 ⟨w1, Grown.refl _⟩
    replace c1 := c1 ⟨w1, Grown.refl _⟩
    replace c2 := c2 ⟨w1, Grown.refl _⟩
    replace c3 := c3 ⟨w1, Grown.refl _⟩
    replace c4 := c4 ⟨w1, Grown.refl _⟩
    go_wp2_with fail
    refine (rNodes_at _ _ _ _ _ _ _ HM.out).mono ?_; rintro e w2 ⟨rfl, g2⟩
    replace c0 := gcell g2 c0
    replace c1 := gcell g2 c1
    replace c2 := gcell g2 c2
    replace c3 := gcell g2 c3
    replace c4 := gcell g2 c4
    go_wp2_with fail
    refine nxt_grow g2 (mix_step (wpQuiet_nil ?_))
    replace g1 := gtr g1 g2; clear g2
    go_wp2_with fail
    refine (rIn_at _ _ _ _ _ _ _ _ _ HI.out).mono ?_; rintro e w3 ⟨rfl, g2⟩
    replace c0 := gcell g2 c0
    replace c1 := gcell g2 c1
    replace c2 := gcell g2 c2
    replace c3 := gcell g2 c3
    replace c4 := gcell g2 c4
    go_wp2_with fail
    refine nxt_grow g2 (mix_last (wpQuiet_nil ?_))
    replace g1 := gtr g1 g2; clear g2
    clear c0 c1 c2 c3 c4
    go_wp2_with fail
    go_ret
    exact ⟨rfl, g1⟩

set_option maxHeartbeats 1000000 in
theorem rWord_at (t b i f k n v : Int) (w : World) (h : vWord t b i f k n = v) :
    Calls Tryz.prog 25 #[.agg #[.int .i64 t, .int .i64 b, .int .i64 i, .int .i64 f, .int .i64 k], .int .i64 n] w fun e w' => e = .returned (.int .i64 v) ∧ Grown w w' := by
  subst h
  obtain ⟨m, hm⟩ : ∃ u, zOps t b i f k = u := ⟨_, rfl⟩
  by_cases hi : bIn t b i f k n (zOps t b i f k) = true
  · have hs := bIn_spec.1 hi
    have hv : vWord t b i f k n = zNodes t b i f k + n := if_pos hs
    rw [hv]; clear hv
    have hb := z_bd hs.1
    obtain ⟨u, hu⟩ : ∃ u, zNodes t b i f k = u := ⟨_, rfl⟩
    have u1 : 0 ≤ u ∧ u ≤ 4161 := by omega
    obtain ⟨u1, u2⟩ := u1
    have n1 : 0 ≤ n ∧ n ≤ 9999 := by omega
    obtain ⟨n1, n2⟩ := n1
    rw [hu]
    have HU := Lib.hid hu; clear hu hb hs
    rw [hm] at hi
    have HM := Lib.hid hm; clear hm
    have HI := Lib.hid hi; clear hi
    go_enter Tryz.func25, Tryz.ntmps25
    go_wp2_with fail
    refine wp_region_mixg [([0, 1, 2], 3), ([], 4)] [] (by kernel_rfl) (by kernel_rfl) (by kernel_rfl) ?_
    intro w1 g1
    have c0 : ∀ g : GrW w1, g.w.cell? ⟨w.heap.size, 0, none⟩ = some (.int .i64 t) := GrW.cell (gcell g1 (by simp))
    have c1 : ∀ g : GrW w1, g.w.cell? ⟨w.heap.size, 1, none⟩ = some (.int .i64 b) := GrW.cell (gcell g1 (by simp))
    have c2 : ∀ g : GrW w1, g.w.cell? ⟨w.heap.size, 2, none⟩ = some (.int .i64 i) := GrW.cell (gcell g1 (by simp))
    have c3 : ∀ g : GrW w1, g.w.cell? ⟨w.heap.size, 3, none⟩ = some (.int .i64 f) := GrW.cell (gcell g1 (by simp))
    have c4 : ∀ g : GrW w1, g.w.cell? ⟨w.heap.size, 4, none⟩ = some (.int .i64 k) := GrW.cell (gcell g1 (by simp))
    replace g1 := galloc g1
    simp only [segs, nths, nth, List.map_cons, List.map_nil, List.getD_cons_zero, List.getD_cons_succ]
    refine mix_step ?_
    repeat go_big_quiet_step (fail)
    refine wpQuiet_nil ?_
    replace c0 := c0 ⟨w1, Grown.refl _⟩
    replace c1 := c1 ⟨w1, Grown.refl _⟩
    replace c2 := c2 ⟨w1, Grown.refl _⟩
    replace c3 := c3 ⟨w1, Grown.refl _⟩
    replace c4 := c4 ⟨w1, Grown.refl _⟩
    go_wp2_with fail
    refine (rOps_at _ _ _ _ _ _ _ HM.out).mono ?_; rintro e w2 ⟨rfl, g2⟩
    replace c0 := gcell g2 c0
    replace c1 := gcell g2 c1
    replace c2 := gcell g2 c2
    replace c3 := gcell g2 c3
    replace c4 := gcell g2 c4
    go_wp2_with fail
    refine nxt_grow g2 (mix_step (wpQuiet_nil ?_))
    replace g1 := gtr g1 g2; clear g2
    go_wp2_with fail
    refine (rIn_at _ _ _ _ _ _ _ _ _ HI.out).mono ?_; rintro e w3 ⟨rfl, g2⟩
    replace c0 := gcell g2 c0
    replace c1 := gcell g2 c1
    replace c2 := gcell g2 c2
    replace c3 := gcell g2 c3
    replace c4 := gcell g2 c4
    go_wp2_with fail
    refine nxt_grow g2 (mix_last (wpQuiet_nil ?_))
    replace g1 := gtr g1 g2; clear g2
    go_wp2_with fail
    refine (rNodes_at _ _ _ _ _ _ _ HU.out).mono ?_; rintro e w4 ⟨rfl, g2⟩
    replace g1 := gtr g1 g2; clear g2
    clear c0 c1 c2 c3 c4
    go_wp2_with fail
    go_ret
    exact ⟨ret_int (by first | rfl | go_arith), g1⟩
  · have hv : vWord t b i f k n = -1 := if_neg fun h => hi (bIn_spec.2 h)
    rw [hv]; clear hv
    replace hi : bIn t b i f k n (zOps t b i f k) = false := by simpa using hi
    rw [hm] at hi
    have HM := Lib.hid hm; clear hm
    have HI := Lib.hid hi; clear hi
    go_enter Tryz.func25, Tryz.ntmps25
    go_wp2_with fail
    refine wp_region_mixg [([0, 1, 2], 3), ([], 4)] [] (by kernel_rfl) (by kernel_rfl) (by kernel_rfl) ?_
    intro w1 g1
    have c0 : ∀ g : GrW w1, g.w.cell? ⟨w.heap.size, 0, none⟩ = some (.int .i64 t) := GrW.cell (gcell g1 (by simp))
    have c1 : ∀ g : GrW w1, g.w.cell? ⟨w.heap.size, 1, none⟩ = some (.int .i64 b) := GrW.cell (gcell g1 (by simp))
    have c2 : ∀ g : GrW w1, g.w.cell? ⟨w.heap.size, 2, none⟩ = some (.int .i64 i) := GrW.cell (gcell g1 (by simp))
    have c3 : ∀ g : GrW w1, g.w.cell? ⟨w.heap.size, 3, none⟩ = some (.int .i64 f) := GrW.cell (gcell g1 (by simp))
    have c4 : ∀ g : GrW w1, g.w.cell? ⟨w.heap.size, 4, none⟩ = some (.int .i64 k) := GrW.cell (gcell g1 (by simp))
    replace g1 := galloc g1
    simp only [segs, nths, nth, List.map_cons, List.map_nil, List.getD_cons_zero, List.getD_cons_succ]
    refine mix_step ?_
    repeat go_big_quiet_step (fail)
    refine wpQuiet_nil ?_
    replace c0 := c0 ⟨w1, Grown.refl _⟩
    replace c1 := c1 ⟨w1, Grown.refl _⟩
    replace c2 := c2 ⟨w1, Grown.refl _⟩
    replace c3 := c3 ⟨w1, Grown.refl _⟩
    replace c4 := c4 ⟨w1, Grown.refl _⟩
    go_wp2_with fail
    refine (rOps_at _ _ _ _ _ _ _ HM.out).mono ?_; rintro e w2 ⟨rfl, g2⟩
    replace c0 := gcell g2 c0
    replace c1 := gcell g2 c1
    replace c2 := gcell g2 c2
    replace c3 := gcell g2 c3
    replace c4 := gcell g2 c4
    go_wp2_with fail
    refine nxt_grow g2 (mix_step (wpQuiet_nil ?_))
    replace g1 := gtr g1 g2; clear g2
    go_wp2_with fail
    refine (rIn_at _ _ _ _ _ _ _ _ _ HI.out).mono ?_; rintro e w3 ⟨rfl, g2⟩
    replace c0 := gcell g2 c0
    replace c1 := gcell g2 c1
    replace c2 := gcell g2 c2
    replace c3 := gcell g2 c3
    replace c4 := gcell g2 c4
    go_wp2_with fail
    refine nxt_grow g2 (mix_last (wpQuiet_nil ?_))
    replace g1 := gtr g1 g2; clear g2
    clear c0 c1 c2 c3 c4
    go_wp2_with fail
    go_ret
    exact ⟨rfl, g1⟩

set_option maxHeartbeats 1000000 in
theorem rHead_at (t b i f k n v : Int) (w : World) (h : vHead t b i f k n = v) :
    Calls Tryz.prog 23 #[.agg #[.int .i64 t, .int .i64 b, .int .i64 i, .int .i64 f, .int .i64 k], .int .i64 n] w fun e w' => e = .returned (.int .i64 v) ∧ Grown w w' := by
  subst h
  by_cases hi : bIn t b i f k n b = true
  · have hs := bIn_spec.1 hi
    have hv : vHead t b i f k n = 1 + n := if_pos hs
    rw [hv]; clear hv
    have hb := z_bd hs.1
    have n1 : 0 ≤ n ∧ n ≤ 9999 := by omega
    obtain ⟨n1, n2⟩ := n1
    clear hb hs
    have HI := Lib.hid hi; clear hi
    go_enter Tryz.func23, Tryz.ntmps23
    go_wp2_with fail
    refine (rIn_at _ _ _ _ _ _ _ _ _ HI.out).mono ?_; rintro e w1 ⟨rfl, g1⟩
    have c0 : w1.cell? ⟨w.heap.size, 0, none⟩ = some (.int .i64 t) := gcell g1 (by simp)
    have c1 : w1.cell? ⟨w.heap.size, 1, none⟩ = some (.int .i64 b) := gcell g1 (by simp)
    have c2 : w1.cell? ⟨w.heap.size, 2, none⟩ = some (.int .i64 i) := gcell g1 (by simp)
    have c3 : w1.cell? ⟨w.heap.size, 3, none⟩ = some (.int .i64 f) := gcell g1 (by simp)
    have c4 : w1.cell? ⟨w.heap.size, 4, none⟩ = some (.int .i64 k) := gcell g1 (by simp)
    replace g1 := galloc g1
    clear c0 c1 c2 c3 c4
    go_wp2
    go_ret
    exact ⟨rfl, g1⟩
  · have hv : vHead t b i f k n = -1 := if_neg fun h => hi (bIn_spec.2 h)
    rw [hv]; clear hv
    replace hi : bIn t b i f k n b = false := by simpa using hi
    have HI := Lib.hid hi; clear hi
    go_enter Tryz.func23, Tryz.ntmps23
    go_wp2_with fail
    refine (rIn_at _ _ _ _ _ _ _ _ _ HI.out).mono ?_; rintro e w1 ⟨rfl, g1⟩
    have c0 : w1.cell? ⟨w.heap.size, 0, none⟩ = some (.int .i64 t) := gcell g1 (by simp)
    have c1 : w1.cell? ⟨w.heap.size, 1, none⟩ = some (.int .i64 b) := gcell g1 (by simp)
    have c2 : w1.cell? ⟨w.heap.size, 2, none⟩ = some (.int .i64 i) := gcell g1 (by simp)
    have c3 : w1.cell? ⟨w.heap.size, 3, none⟩ = some (.int .i64 f) := gcell g1 (by simp)
    have c4 : w1.cell? ⟨w.heap.size, 4, none⟩ = some (.int .i64 k) := gcell g1 (by simp)
    replace g1 := galloc g1
    clear c0 c1 c2 c3 c4
    go_wp2_with fail
    go_ret
    exact ⟨rfl, g1⟩

theorem rLen_at (t b i f k v : Int) (w : World) (h : vLen t b i f k = v) :
    Calls Tryz.prog 80 #[.agg #[.int .i64 t, .int .i64 b, .int .i64 i, .int .i64 f, .int .i64 k]] w fun e w' => e = .returned (.int .i64 v) ∧ Grown w w' := by
  subst h
  by_cases hk : zOk t b i f k = true
  · have hv : vLen t b i f k = zNodes t b i f k + zOps t b i f k + t := if_pos hk
    rw [hv]; clear hv
    have hb := z_bd hk
    have hu : (if zOk t b i f k = true then 0 else 1) = (0 : Int) := if_pos hk
    have HV := Lib.hid hu; clear hu hk
    obtain ⟨u, hu⟩ : ∃ u, zNodes t b i f k = u := ⟨_, rfl⟩
    obtain ⟨o, ho⟩ : ∃ u, zOps t b i f k = u := ⟨_, rfl⟩
    have u1 : (0 ≤ u ∧ u ≤ 4161) ∧ 0 ≤ o ∧ o ≤ 2048 := by omega
    obtain ⟨⟨u1, u2⟩, o1, o2⟩ := u1
    have n1 : 1 ≤ t ∧ t ≤ 8 := by omega
    obtain ⟨n1, n2⟩ := n1
    rw [hu, ho]
    have HU := Lib.hid hu
    have HO := Lib.hid ho; clear hu ho hb
    go_enter Tryz.func80, Tryz.ntmps80
    go_wp2_with fail
    refine (rMayC_at _ _ _ _ _ _ _ HV.out).mono ?_; rintro e w1 ⟨rfl, g1⟩
    have c0 : ∀ g : GrW w1, g.w.cell? ⟨w.heap.size, 0, none⟩ = some (.int .i64 t) := GrW.cell (gcell g1 (by simp))
    have c1 : ∀ g : GrW w1, g.w.cell? ⟨w.heap.size, 1, none⟩ = some (.int .i64 b) := GrW.cell (gcell g1 (by simp))
    have c2 : ∀ g : GrW w1, g.w.cell? ⟨w.heap.size, 2, none⟩ = some (.int .i64 i) := GrW.cell (gcell g1 (by simp))
    have c3 : ∀ g : GrW w1, g.w.cell? ⟨w.heap.size, 3, none⟩ = some (.int .i64 f) := GrW.cell (gcell g1 (by simp))
    have c4 : ∀ g : GrW w1, g.w.cell? ⟨w.heap.size, 4, none⟩ = some (.int .i64 k) := GrW.cell (gcell g1 (by simp))
    replace g1 := galloc g1
    go_wp2_with fail
    refine wp_region_grow (by kernel_rfl) (by kernel_rfl) ?_
    repeat (go_big_quiet_step ((first | (go_at_call 41; exact grcall (rNodes_at _ _ _ _ _ _ _ HU.out)) | (go_at_call 65; exact grcall (rOps_at _ _ _ _ _ _ _ HO.out)))))
    refine wpQuiet_nil ?_
    rintro _ ⟨⟨w2, g2⟩, rfl⟩
    have g2' := gtr g1 g2
    go_wp2
    go_ret
    exact ⟨ret_int (by first | rfl | go_arith), g2'⟩
  · have hv : vLen t b i f k = 0 := if_neg hk
    rw [hv]; clear hv
    have hu : (if zOk t b i f k = true then 0 else 1) = (1 : Int) := if_neg hk
    have HU := Lib.hid hu; clear hu hk
    go_enter Tryz.func80, Tryz.ntmps80
    go_wp2_with fail
    refine (rMayC_at _ _ _ _ _ _ _ HU.out).mono ?_; rintro e w1 ⟨rfl, g1⟩
    have g1' := galloc g1
    go_wp2_with fail
    go_ret
    exact ⟨rfl, by go_grown⟩

set_option maxHeartbeats 1000000 in
theorem rOp_at (t b i f k h0 n v : Int) (w : World) (h : vOp t b i f k h0 n = v) :
    Calls Tryz.prog 83 #[.agg #[.int .i64 t, .int .i64 b, .int .i64 i, .int .i64 f, .int .i64 k], .int .i64 h0, .int .i64 n] w fun e w' => e = .returned (.int .i64 v) ∧ Grown w w' := by
  subst h
  by_cases hi : bIn t b i f k h0 t = true
  · have hs := bIn_spec.1 hi
    have hb := z_bd hs.1
    have HI := Lib.hid hi; clear hi
    have k1 : 1 ≤ k ∧ k ≤ 256 := by omega
    obtain ⟨k1, k2⟩ := k1
    have t1 : (0 ≤ h0 ∧ h0 ≤ 7) ∧ 1 ≤ b ∧ b ≤ 64 := by omega
    obtain ⟨⟨t1, t2⟩, b1, b2⟩ := t1
    by_cases hj : bIn t b i f k n (k) = true
    · have hs' := bIn_spec.1 hj
      have hv : vOp t b i f k h0 n = h0 * k + n := if_pos ⟨hs.1, hs.2, by omega, by omega⟩
      rw [hv]; clear hv
      have HJ := Lib.hid hj; clear hj
      have n1 : 0 ≤ n ∧ n ≤ 512 := by omega
      obtain ⟨n1, n2⟩ := n1
      have hq := mul_bd (a := h0) (b := k) (A := 7) (B := 256) (by omega) (by omega) (by omega) (by omega)
      obtain ⟨q0, q1⟩ := hq
      have hq : wrap64 (h0 * k) = h0 * k := by generalize h0 * k = q at q0 q1; go_arith
      clear hs hs' hb
      go_enter Tryz.func83, Tryz.ntmps83
      go_wp2_with fail
      refine (rIn_at _ _ _ _ _ _ _ _ _ HI.out).mono ?_; rintro e w1 ⟨rfl, g1⟩
      have c0 : w1.cell? ⟨w.heap.size, 0, none⟩ = some (.int .i64 t) := gcell g1 (by simp)
      have c1 : w1.cell? ⟨w.heap.size, 1, none⟩ = some (.int .i64 b) := gcell g1 (by simp)
      have c2 : w1.cell? ⟨w.heap.size, 2, none⟩ = some (.int .i64 i) := gcell g1 (by simp)
      have c3 : w1.cell? ⟨w.heap.size, 3, none⟩ = some (.int .i64 f) := gcell g1 (by simp)
      have c4 : w1.cell? ⟨w.heap.size, 4, none⟩ = some (.int .i64 k) := gcell g1 (by simp)
      replace g1 := galloc g1
      go_wp2_with fail
      refine (rIn_at _ _ _ _ _ _ _ _ _ HJ.out).mono ?_; rintro e w2 ⟨rfl, g2⟩
      replace c0 := gcell g2 c0
      replace c1 := gcell g2 c1
      replace c2 := gcell g2 c2
      replace c3 := gcell g2 c3
      replace c4 := gcell g2 c4
      replace g1 := gtr g1 g2; clear g2
      go_wp2
      go_ret
      exact ⟨ret_int (by first | rfl | (rw [hq]; go_arith) | (simp only [hq]; go_arith)), g1⟩
    · have hv : vOp t b i f k h0 n = -1 := if_neg fun h => hj (bIn_spec.2 ⟨hs.1, by omega, by omega⟩)
      rw [hv]; clear hv
      replace hj : bIn t b i f k n (k) = false := by simpa using hj
      have HJ := Lib.hid hj; clear hj hs hb
      go_enter Tryz.func83, Tryz.ntmps83
      go_wp2_with fail
      refine (rIn_at _ _ _ _ _ _ _ _ _ HI.out).mono ?_; rintro e w1 ⟨rfl, g1⟩
      have c0 : w1.cell? ⟨w.heap.size, 0, none⟩ = some (.int .i64 t) := gcell g1 (by simp)
      have c1 : w1.cell? ⟨w.heap.size, 1, none⟩ = some (.int .i64 b) := gcell g1 (by simp)
      have c2 : w1.cell? ⟨w.heap.size, 2, none⟩ = some (.int .i64 i) := gcell g1 (by simp)
      have c3 : w1.cell? ⟨w.heap.size, 3, none⟩ = some (.int .i64 f) := gcell g1 (by simp)
      have c4 : w1.cell? ⟨w.heap.size, 4, none⟩ = some (.int .i64 k) := gcell g1 (by simp)
      replace g1 := galloc g1
      go_wp2_with fail
      refine (rIn_at _ _ _ _ _ _ _ _ _ HJ.out).mono ?_; rintro e w2 ⟨rfl, g2⟩
      replace g1 := gtr g1 g2; clear g2 c0 c1 c2 c3 c4
      go_wp2
      go_ret
      exact ⟨rfl, g1⟩
  · have hv : vOp t b i f k h0 n = -1 := if_neg fun h => hi (bIn_spec.2 ⟨h.1, h.2.1⟩)
    rw [hv]; clear hv
    replace hi : bIn t b i f k h0 t = false := by simpa using hi
    have HI := Lib.hid hi; clear hi
    go_enter Tryz.func83, Tryz.ntmps83
    go_wp2_with fail
    refine (rIn_at _ _ _ _ _ _ _ _ _ HI.out).mono ?_; rintro e w1 ⟨rfl, g1⟩
    replace g1 := galloc g1
    go_wp2
    go_ret
    exact ⟨rfl, g1⟩

set_option maxHeartbeats 1000000 in
theorem rNode_at (t b i f k h0 n v : Int) (w : World) (h : vNode t b i f k h0 n = v) :
    Calls Tryz.prog 86 #[.agg #[.int .i64 t, .int .i64 b, .int .i64 i, .int .i64 f, .int .i64 k], .int .i64 h0, .int .i64 n] w fun e w' => e = .returned (.int .i64 v) ∧ Grown w w' := by
  subst h
  by_cases hi : bIn t b i f k h0 t = true
  · have hs := bIn_spec.1 hi
    have hb := z_bd hs.1
    have HI := Lib.hid hi; clear hi
    have k1 : 1 ≤ k ∧ k ≤ 256 := by omega
    obtain ⟨k1, k2⟩ := k1
    have t1 : (0 ≤ h0 ∧ h0 ≤ 7) ∧ 1 ≤ b ∧ b ≤ 64 := by omega
    obtain ⟨⟨t1, t2⟩, b1, b2⟩ := t1
    by_cases hj : bIn t b i f k n (2 * k) = true
    · have hs' := bIn_spec.1 hj
      have hv : vNode t b i f k h0 n = 1 + b + h0 * (2 * k) + n := if_pos ⟨hs.1, hs.2, by omega, by omega⟩
      rw [hv]; clear hv
      have HJ := Lib.hid hj; clear hj
      have n1 : 0 ≤ n ∧ n ≤ 512 := by omega
      obtain ⟨n1, n2⟩ := n1
      have hq := mul_bd (a := h0) (b := 2 * k) (A := 7) (B := 512) (by omega) (by omega) (by omega) (by omega)
      obtain ⟨q0, q1⟩ := hq
      have hq0 : 2 * h0 * k = h0 * (2 * k) := by rw [Int.mul_comm 2 h0, Int.mul_assoc]
      have hq : wrap64 (2 * h0 * k) = h0 * (2 * k) := by rw [hq0]; generalize h0 * (2 * k) = q at q0 q1; go_arith
      clear hs hs' hb
      go_enter Tryz.func86, Tryz.ntmps86
      go_wp2_with fail
      refine (rIn_at _ _ _ _ _ _ _ _ _ HI.out).mono ?_; rintro e w1 ⟨rfl, g1⟩
      have c0 : w1.cell? ⟨w.heap.size, 0, none⟩ = some (.int .i64 t) := gcell g1 (by simp)
      have c1 : w1.cell? ⟨w.heap.size, 1, none⟩ = some (.int .i64 b) := gcell g1 (by simp)
      have c2 : w1.cell? ⟨w.heap.size, 2, none⟩ = some (.int .i64 i) := gcell g1 (by simp)
      have c3 : w1.cell? ⟨w.heap.size, 3, none⟩ = some (.int .i64 f) := gcell g1 (by simp)
      have c4 : w1.cell? ⟨w.heap.size, 4, none⟩ = some (.int .i64 k) := gcell g1 (by simp)
      replace g1 := galloc g1
      go_wp2_with fail
      refine (rIn_at _ _ _ _ _ _ _ _ _ HJ.out).mono ?_; rintro e w2 ⟨rfl, g2⟩
      replace c0 := gcell g2 c0
      replace c1 := gcell g2 c1
      replace c2 := gcell g2 c2
      replace c3 := gcell g2 c3
      replace c4 := gcell g2 c4
      replace g1 := gtr g1 g2; clear g2
      go_wp2
      go_ret
      exact ⟨ret_int (by first | rfl | (rw [hq]; go_arith) | (simp only [hq]; go_arith)), g1⟩
    · have hv : vNode t b i f k h0 n = -1 := if_neg fun h => hj (bIn_spec.2 ⟨hs.1, by omega, by omega⟩)
      rw [hv]; clear hv
      replace hj : bIn t b i f k n (2 * k) = false := by simpa using hj
      have HJ := Lib.hid hj; clear hj hs hb
      go_enter Tryz.func86, Tryz.ntmps86
      go_wp2_with fail
      refine (rIn_at _ _ _ _ _ _ _ _ _ HI.out).mono ?_; rintro e w1 ⟨rfl, g1⟩
      have c0 : w1.cell? ⟨w.heap.size, 0, none⟩ = some (.int .i64 t) := gcell g1 (by simp)
      have c1 : w1.cell? ⟨w.heap.size, 1, none⟩ = some (.int .i64 b) := gcell g1 (by simp)
      have c2 : w1.cell? ⟨w.heap.size, 2, none⟩ = some (.int .i64 i) := gcell g1 (by simp)
      have c3 : w1.cell? ⟨w.heap.size, 3, none⟩ = some (.int .i64 f) := gcell g1 (by simp)
      have c4 : w1.cell? ⟨w.heap.size, 4, none⟩ = some (.int .i64 k) := gcell g1 (by simp)
      replace g1 := galloc g1
      go_wp2_with fail
      refine (rIn_at _ _ _ _ _ _ _ _ _ HJ.out).mono ?_; rintro e w2 ⟨rfl, g2⟩
      replace g1 := gtr g1 g2; clear g2 c0 c1 c2 c3 c4
      go_wp2
      go_ret
      exact ⟨rfl, g1⟩
  · have hv : vNode t b i f k h0 n = -1 := if_neg fun h => hi (bIn_spec.2 ⟨h.1, h.2.1⟩)
    rw [hv]; clear hv
    replace hi : bIn t b i f k h0 t = false := by simpa using hi
    have HI := Lib.hid hi; clear hi
    go_enter Tryz.func86, Tryz.ntmps86
    go_wp2_with fail
    refine (rIn_at _ _ _ _ _ _ _ _ _ HI.out).mono ?_; rintro e w1 ⟨rfl, g1⟩
    replace g1 := galloc g1
    go_wp2
    go_ret
    exact ⟨rfl, g1⟩
end Go.Proofs.YtagapfejgmmppaaGreat
