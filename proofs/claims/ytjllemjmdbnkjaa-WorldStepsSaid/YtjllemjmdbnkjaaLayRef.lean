/- The document's answers for package layout (corrieref05): what each call returns, and that it leaves all memory that was there as it was. -/
import Derived.Test.YtjllemjmdbnkjaaLay
namespace Go.Proofs.Ytjllemjmdbnkjaa
open Go.ChangeShapes Go.WideShapes Go.ChangeAt Go.RowKit
def bIn (t b i f k n m : Int) : Bool := zOk t b i f k && decide (0 ≤ n ∧ n < m)
theorem bIn_spec {t b i f k n m : Int} : bIn t b i f k n m = true ↔ zOk t b i f k = true ∧ 0 ≤ n ∧ n < m := by
  unfold bIn; rw [Bool.and_eq_true, decide_eq_true_eq]

theorem rIn_at (t b i f k n m : Int) (v : Bool) (w : World) (h : bIn t b i f k n m = v) :
    Calls Try.prog 68 #[.agg #[.int .i64 t, .int .i64 b, .int .i64 i, .int .i64 f, .int .i64 k], .int .i64 n, .int .i64 m] w fun e w' => e = .returned (.bool v) ∧ Grown w w' := by
  subst h
  by_cases hz : zOk t b i f k = true
  · have hu : (if zOk t b i f k = true then 0 else 1) = (0 : Int) := if_pos hz
    have HU := Lib.hid hu; clear hu
    by_cases h1 : 0 ≤ n
    · by_cases h2 : n < m
      · have hd : bIn t b i f k n m = true := bIn_spec.2 ⟨hz, h1, h2⟩
        rw [hd]; clear hd hz
        have e1 : decide (0 ≤ n) = true := decide_eq_true h1
        have e2 : decide (n < m) = true := decide_eq_true h2
        go_enter Try.func68, Try.ntmps68
        go_wp2_with fail
        refine (rMayC_at _ _ _ _ _ _ _ HU.out).mono ?_; rintro e w1 ⟨rfl, g1⟩
        have g1' := galloc g1
        go_wp2_with fail
        go_ret
        exact ⟨rfl, by go_grown⟩
      · have hd : bIn t b i f k n m = false := by rw [Bool.eq_false_iff]; intro h; exact h2 (bIn_spec.1 h).2.2
        rw [hd]; clear hd hz
        have e1 : decide (0 ≤ n) = true := decide_eq_true h1
        have e2 : decide (n < m) = false := decide_eq_false h2
        go_enter Try.func68, Try.ntmps68
        go_wp2_with fail
        refine (rMayC_at _ _ _ _ _ _ _ HU.out).mono ?_; rintro e w1 ⟨rfl, g1⟩
        have g1' := galloc g1
        go_wp2_with fail
        go_ret
        exact ⟨rfl, by go_grown⟩
    · have hd : bIn t b i f k n m = false := by rw [Bool.eq_false_iff]; intro h; exact h1 (bIn_spec.1 h).2.1
      rw [hd]; clear hd hz
      have e1 : decide (0 ≤ n) = false := decide_eq_false h1
      go_enter Try.func68, Try.ntmps68
      go_wp2_with fail
      refine (rMayC_at _ _ _ _ _ _ _ HU.out).mono ?_; rintro e w1 ⟨rfl, g1⟩
      have g1' := galloc g1
      go_wp2_with fail
      go_ret
      exact ⟨rfl, by go_grown⟩
  · have hu : (if zOk t b i f k = true then 0 else 1) = (1 : Int) := if_neg hz
    have HU := Lib.hid hu; clear hu
    have hd : bIn t b i f k n m = false := by rw [Bool.eq_false_iff]; intro h; exact hz (bIn_spec.1 h).1
    rw [hd]; clear hd hz
    go_enter Try.func68, Try.ntmps68
    go_wp2_with fail
    refine (rMayC_at _ _ _ _ _ _ _ HU.out).mono ?_; rintro e w1 ⟨rfl, g1⟩
    have g1' := galloc g1
    go_wp2_with fail
    go_ret
    exact ⟨rfl, by go_grown⟩

set_option maxHeartbeats 1000000 in
theorem rHead_at (t b i f k n v : Int) (w : World) (h : vHead t b i f k n = v) :
    Calls Try.prog 47 #[.agg #[.int .i64 t, .int .i64 b, .int .i64 i, .int .i64 f, .int .i64 k], .int .i64 n] w fun e w' => e = .returned (.int .i64 v) ∧ Grown w w' := by
  subst h
  by_cases hi : bIn t b i f k n b = true
  · have hs := bIn_spec.1 hi
    have hv : vHead t b i f k n = 1 + n := if_pos hs
    rw [hv]; clear hv
    have hb := z_bd hs.1
    have n1 : 0 ≤ n ∧ n ≤ 9999 := by omega
    obtain ⟨n1, n2⟩ := n1
    clear hb hs
    have HI := Lib.hid hi; clear hi
    go_enter Try.func47, Try.ntmps47
    go_wp2_with fail
    refine (rIn_at _ _ _ _ _ _ _ _ _ HI.out).mono ?_; rintro e w1 ⟨rfl, g1⟩
    have c0 : w1.cell? ⟨w.heap.size, 0, none⟩ = some (.int .i64 t) := gcell g1 (by simp)
    have c1 : w1.cell? ⟨w.heap.size, 1, none⟩ = some (.int .i64 b) := gcell g1 (by simp)
    have c2 : w1.cell? ⟨w.heap.size, 2, none⟩ = some (.int .i64 i) := gcell g1 (by simp)
    have c3 : w1.cell? ⟨w.heap.size, 3, none⟩ = some (.int .i64 f) := gcell g1 (by simp)
    have c4 : w1.cell? ⟨w.heap.size, 4, none⟩ = some (.int .i64 k) := gcell g1 (by simp)
    replace g1 := galloc g1
    clear c0 c1 c2 c3 c4
    go_wp2
    go_ret
    exact ⟨rfl, g1⟩
  · have hv : vHead t b i f k n = -1 := if_neg fun h => hi (bIn_spec.2 h)
    rw [hv]; clear hv
    replace hi : bIn t b i f k n b = false := by simpa using hi
    have HI := Lib.hid hi; clear hi
    go_enter Try.func47, Try.ntmps47
    go_wp2_with fail
    refine (rIn_at _ _ _ _ _ _ _ _ _ HI.out).mono ?_; rintro e w1 ⟨rfl, g1⟩
    have c0 : w1.cell? ⟨w.heap.size, 0, none⟩ = some (.int .i64 t) := gcell g1 (by simp)
    have c1 : w1.cell? ⟨w.heap.size, 1, none⟩ = some (.int .i64 b) := gcell g1 (by simp)
    have c2 : w1.cell? ⟨w.heap.size, 2, none⟩ = some (.int .i64 i) := gcell g1 (by simp)
    have c3 : w1.cell? ⟨w.heap.size, 3, none⟩ = some (.int .i64 f) := gcell g1 (by simp)
    have c4 : w1.cell? ⟨w.heap.size, 4, none⟩ = some (.int .i64 k) := gcell g1 (by simp)
    replace g1 := galloc g1
    clear c0 c1 c2 c3 c4
    go_wp2_with fail
    go_ret
    exact ⟨rfl, g1⟩

theorem rLen_at (t b i f k v : Int) (w : World) (h : vLen t b i f k = v) :
    Calls Try.prog 11 #[.agg #[.int .i64 t, .int .i64 b, .int .i64 i, .int .i64 f, .int .i64 k]] w fun e w' => e = .returned (.int .i64 v) ∧ Grown w w' := by
  subst h
  by_cases hk : zOk t b i f k = true
  · have hv : vLen t b i f k = zNodes t b i f k + zOps t b i f k + t := if_pos hk
    rw [hv]; clear hv
    have hb := z_bd hk
    have hu : (if zOk t b i f k = true then 0 else 1) = (0 : Int) := if_pos hk
    have HV := Lib.hid hu; clear hu hk
    obtain ⟨u, hu⟩ : ∃ u, zNodes t b i f k = u := ⟨_, rfl⟩
    obtain ⟨o, ho⟩ : ∃ u, zOps t b i f k = u := ⟨_, rfl⟩
    have u1 : (0 ≤ u ∧ u ≤ 4161) ∧ 0 ≤ o ∧ o ≤ 2048 := by omega
    obtain ⟨⟨u1, u2⟩, o1, o2⟩ := u1
    have n1 : 1 ≤ t ∧ t ≤ 8 := by omega
    obtain ⟨n1, n2⟩ := n1
    rw [hu, ho]
    have HU := Lib.hid hu
    have HO := Lib.hid ho; clear hu ho hb
    go_enter Try.func11, Try.ntmps11
    go_wp2_with fail
    refine (rMayC_at _ _ _ _ _ _ _ HV.out).mono ?_; rintro e w1 ⟨rfl, g1⟩
    have c0 : ∀ g : GrW w1, g.w.cell? ⟨w.heap.size, 0, none⟩ = some (.int .i64 t) := GrW.cell (gcell g1 (by simp))
    have c1 : ∀ g : GrW w1, g.w.cell? ⟨w.heap.size, 1, none⟩ = some (.int .i64 b) := GrW.cell (gcell g1 (by simp))
    have c2 : ∀ g : GrW w1, g.w.cell? ⟨w.heap.size, 2, none⟩ = some (.int .i64 i) := GrW.cell (gcell g1 (by simp))
    have c3 : ∀ g : GrW w1, g.w.cell? ⟨w.heap.size, 3, none⟩ = some (.int .i64 f) := GrW.cell (gcell g1 (by simp))
    have c4 : ∀ g : GrW w1, g.w.cell? ⟨w.heap.size, 4, none⟩ = some (.int .i64 k) := GrW.cell (gcell g1 (by simp))
    replace g1 := galloc g1
    go_wp2_with fail
    refine wp_region_grow (by kernel_rfl) (by kernel_rfl) ?_
    repeat (go_big_quiet_step ((first | (go_at_call 16; exact grcall (rNodes_at _ _ _ _ _ _ _ HU.out)) | (go_at_call 17; exact grcall (rOps_at _ _ _ _ _ _ _ HO.out)))))
    refine wpQuiet_nil ?_
    rintro _ ⟨⟨w2, g2⟩, rfl⟩
    have g2' := gtr g1 g2
    go_wp2
    go_ret
    exact ⟨ret_int (by first | rfl | go_arith), g2'⟩
  · have hv : vLen t b i f k = 0 := if_neg hk
    rw [hv]; clear hv
    have hu : (if zOk t b i f k = true then 0 else 1) = (1 : Int) := if_neg hk
    have HU := Lib.hid hu; clear hu hk
    go_enter Try.func11, Try.ntmps11
    go_wp2_with fail
    refine (rMayC_at _ _ _ _ _ _ _ HU.out).mono ?_; rintro e w1 ⟨rfl, g1⟩
    have g1' := galloc g1
    go_wp2_with fail
    go_ret
    exact ⟨rfl, by go_grown⟩

end Go.Proofs.Ytjllemjmdbnkjaa
