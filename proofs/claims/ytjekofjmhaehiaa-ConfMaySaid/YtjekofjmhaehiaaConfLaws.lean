/- The laws of package conf (corrielaw04), as functions of the program: each call returns true, and leaves all memory that was there as it was. -/
import Derived.Test.YtjekofjmhaehiaaConfB
namespace Go.Proofs.Ytjekofjmhaehiaa
open Go.ChangeShapes Go.WideShapes Go.ChangeAt Go.RowKit
set_option linter.unusedVariables false

def zMay (t b i f k : Int) : Int := if zOk t b i f k = true then 0 else 1

theorem small_any (w : World) : Calls Try.prog 15 #[] w fun e w' => e = .returned (.agg #[.int .i64 2, .int .i64 4, .int .i64 2, .int .i64 5, .int .i64 3]) ∧ Grown w w' := by
  go_enter Try.func15, Try.ntmps15
  go_wp2
  exact bodyPost_ret (v := .agg #[.int .i64 2, .int .i64 4, .int .i64 2, .int .i64 5, .int .i64 3]) (by simp [results, Try.results15, go_sem]) rfl ⟨rfl, by go_grown⟩

theorem awake_any (w : World) : Calls Try.prog 8 #[] w fun e w' => e = .returned (.bool true) ∧ Grown w w' := by
  go_enter Try.func8, Try.ntmps8
  go_wp2_with fail
  refine (small_any _).mono ?_; rintro e w1 ⟨rfl, g1⟩
  go_wp2_with fail
  refine (small_any _).mono ?_; rintro e w2 ⟨rfl, g2⟩
  have c0 : w2.cell? ⟨w1.heap.size, 0, none⟩ = some (.int .i64 2) := gcell g2 (by simp)
  have c1 : w2.cell? ⟨w1.heap.size, 1, none⟩ = some (.int .i64 3) := gcell g2 (by simp)
  have c2 : w2.cell? ⟨w1.heap.size, 2, none⟩ = some (.int .i64 2) := gcell g2 (by simp)
  have c3 : w2.cell? ⟨w1.heap.size, 3, none⟩ = some (.int .i64 5) := gcell g2 (by simp)
  have c4 : w2.cell? ⟨w1.heap.size, 4, none⟩ = some (.int .i64 3) := gcell g2 (by simp)
  have g2' := gtr g1 (galloc g2)
  clear g1 g2
  go_wp2_with fail
  refine (May_at _ _ _ _ _ 0 _ (by decide +kernel)).mono ?_; rintro e w3 ⟨rfl, g3⟩
  replace c0 := gcell g3 c0
  replace c1 := gcell g3 c1
  replace c2 := gcell g3 c2
  replace c3 := gcell g3 c3
  replace c4 := gcell g3 c4
  replace g2' := gtr g2' g3
  clear g3
  go_wp2_with fail
  refine (May_at _ _ _ _ _ 1 _ (by decide +kernel)).mono ?_; rintro e w4 ⟨rfl, g3⟩
  replace c0 := gcell g3 c0
  replace c1 := gcell g3 c1
  replace c2 := gcell g3 c2
  replace c3 := gcell g3 c3
  replace c4 := gcell g3 c4
  replace g2' := gtr g2' g3
  clear g3
  go_wp2_with fail
  refine (small_any _).mono ?_; rintro e w5 ⟨rfl, g3⟩
  replace c0 := gcell g3 c0
  replace c1 := gcell g3 c1
  replace c2 := gcell g3 c2
  replace c3 := gcell g3 c3
  replace c4 := gcell g3 c4
  replace g2' := gtr g2' g3
  clear g3
  go_wp2_with fail
  refine (Ops_at _ _ _ _ _ 6 _ (by decide +kernel)).mono ?_; rintro e w6 ⟨rfl, g3⟩
  replace c0 := gcell g3 c0
  replace c1 := gcell g3 c1
  replace c2 := gcell g3 c2
  replace c3 := gcell g3 c3
  replace c4 := gcell g3 c4
  replace g2' := gtr g2' g3
  clear g3
  go_wp2_with fail
  refine (small_any _).mono ?_; rintro e w7 ⟨rfl, g3⟩
  replace c0 := gcell g3 c0
  replace c1 := gcell g3 c1
  replace c2 := gcell g3 c2
  replace c3 := gcell g3 c3
  replace c4 := gcell g3 c4
  replace g2' := gtr g2' g3
  clear g3
  go_wp2_with fail
  refine (Nodes_at _ _ _ _ _ 17 _ (by decide +kernel)).mono ?_; rintro e w8 ⟨rfl, g3⟩
  replace c0 := gcell g3 c0
  replace c1 := gcell g3 c1
  replace c2 := gcell g3 c2
  replace c3 := gcell g3 c3
  replace c4 := gcell g3 c4
  replace g2' := gtr g2' g3
  clear g3
  go_wp2_with fail
  refine (Nodes_at _ _ _ _ _ 0 _ (by decide +kernel)).mono ?_; rintro e w9 ⟨rfl, g3⟩
  replace g2' := gtr g2' g3
  clear g3
  go_wp2_with fail
  go_ret
  exact ⟨rfl, g2'⟩

theorem law_ConfMay (t b i f k : Int) (w : World) (h0 : -9223372036854775808 ≤ t) (h1 : t ≤ 9223372036854775807) (h2 : -9223372036854775808 ≤ b) (h3 : b ≤ 9223372036854775807) (h4 : -9223372036854775808 ≤ i) (h5 : i ≤ 9223372036854775807)
    (h6 : -9223372036854775808 ≤ f) (h7 : f ≤ 9223372036854775807) (h8 : -9223372036854775808 ≤ k) (h9 : k ≤ 9223372036854775807) :
    Calls Try.prog 3 #[.agg #[.int .i64 t, .int .i64 b, .int .i64 i, .int .i64 f, .int .i64 k]] w fun e w' => e = .returned (.bool true) ∧ Grown w w' := by
  clear h0 h1 h2 h3 h4 h5 h6 h7 h8 h9
  obtain ⟨v, hv⟩ : ∃ v, zMay t b i f k = v := ⟨_, rfl⟩
  have HV := Lib.hid hv; clear hv
  go_enter Try.func3, Try.ntmps3
  go_wp2_with fail
  refine (awake_any _).mono ?_; rintro e w1 ⟨rfl, g1⟩
  have c0 : ∀ g : GrW w1, g.w.cell? ⟨w.heap.size, 0, none⟩ = some (.int .i64 t) := GrW.cell (gcell g1 (by simp))
  have c1 : ∀ g : GrW w1, g.w.cell? ⟨w.heap.size, 1, none⟩ = some (.int .i64 b) := GrW.cell (gcell g1 (by simp))
  have c2 : ∀ g : GrW w1, g.w.cell? ⟨w.heap.size, 2, none⟩ = some (.int .i64 i) := GrW.cell (gcell g1 (by simp))
  have c3 : ∀ g : GrW w1, g.w.cell? ⟨w.heap.size, 3, none⟩ = some (.int .i64 f) := GrW.cell (gcell g1 (by simp))
  have c4 : ∀ g : GrW w1, g.w.cell? ⟨w.heap.size, 4, none⟩ = some (.int .i64 k) := GrW.cell (gcell g1 (by simp))
  have g1' := galloc g1
  go_wp2_with fail
  refine wp_region_grow (by kernel_rfl) (by kernel_rfl) ?_
  repeat (go_big_quiet_step ((first | (go_at_call 9; exact grcall (May_at _ _ _ _ _ _ _ HV.out)) | (go_at_call 10; exact grcall (rMayC_at _ _ _ _ _ _ _ HV.out)))))
  refine wpQuiet_nil ?_
  rintro _ ⟨⟨w2, g2⟩, rfl⟩
  have g2' := gtr g1' g2
  go_wp2
  go_ret
  exact ⟨rfl, g2'⟩

theorem law_ConfTells (t b i f k : Int) (w : World) (h0 : -9223372036854775808 ≤ t) (h1 : t ≤ 9223372036854775807) (h2 : -9223372036854775808 ≤ b) (h3 : b ≤ 9223372036854775807) (h4 : -9223372036854775808 ≤ i) (h5 : i ≤ 9223372036854775807)
    (h6 : -9223372036854775808 ≤ f) (h7 : f ≤ 9223372036854775807) (h8 : -9223372036854775808 ≤ k) (h9 : k ≤ 9223372036854775807) :
    Calls Try.prog 4 #[.agg #[.int .i64 t, .int .i64 b, .int .i64 i, .int .i64 f, .int .i64 k]] w fun e w' => e = .returned (.bool true) ∧ Grown w w' := by
  clear h0 h1 h2 h3 h4 h5 h6 h7 h8 h9
  obtain ⟨v, hv⟩ : ∃ v, zNodes t b i f k = v := ⟨_, rfl⟩
  have HV := Lib.hid hv; clear hv
  obtain ⟨u, hu⟩ : ∃ v, zOps t b i f k = v := ⟨_, rfl⟩
  have HU := Lib.hid hu; clear hu
  go_enter Try.func4, Try.ntmps4
  go_wp2_with fail
  refine (awake_any _).mono ?_; rintro e w1 ⟨rfl, g1⟩
  have c0 : ∀ g : GrW w1, g.w.cell? ⟨w.heap.size, 0, none⟩ = some (.int .i64 t) := GrW.cell (gcell g1 (by simp))
  have c1 : ∀ g : GrW w1, g.w.cell? ⟨w.heap.size, 1, none⟩ = some (.int .i64 b) := GrW.cell (gcell g1 (by simp))
  have c2 : ∀ g : GrW w1, g.w.cell? ⟨w.heap.size, 2, none⟩ = some (.int .i64 i) := GrW.cell (gcell g1 (by simp))
  have c3 : ∀ g : GrW w1, g.w.cell? ⟨w.heap.size, 3, none⟩ = some (.int .i64 f) := GrW.cell (gcell g1 (by simp))
  have c4 : ∀ g : GrW w1, g.w.cell? ⟨w.heap.size, 4, none⟩ = some (.int .i64 k) := GrW.cell (gcell g1 (by simp))
  have g1' := galloc g1
  go_wp2_with fail
  refine wp_region_grow (by kernel_rfl) (by kernel_rfl) ?_
  repeat (go_big_quiet_step ((first | (go_at_call 11; exact grcall (Nodes_at _ _ _ _ _ _ _ HV.out)) | (go_at_call 12; exact grcall (rNodes_at _ _ _ _ _ _ _ HV.out)) | (go_at_call 13; exact grcall (Ops_at _ _ _ _ _ _ _ HU.out)) | (go_at_call 14; exact grcall (rOps_at _ _ _ _ _ _ _ HU.out)))))
  refine wpQuiet_nil ?_
  rintro _ ⟨⟨w2, g2⟩, rfl⟩
  have g2' := gtr g1' g2
  go_wp2
  go_ret
  exact ⟨rfl, g2'⟩

theorem zMay_no_t {t b i f k : Int} (h : 8 < t) : zOk t b i f k = false := by
  cases h' : zOk t b i f k
  · rfl
  · have := zOk_spec.1 h'; omega
theorem zMay_no {t b i f k : Int} (h : t < 1 ∨ 8 < t ∨ ¬ Pow2 b ∨ i < 0 ∨ 65536 < f ∨ k < 1) : zMay t b i f k = 1 ∧ zOps t b i f k = 0 ∧ zNodes t b i f k = 0 := by
  have h' : ¬ zOk t b i f k = true := by
    intro h'
    have := zOk_spec.1 h'
    rcases h with h | h | h | h | h | h
    · omega
    · omega
    · exact h this.2.2.1
    · omega
    · omega
    · omega
  exact ⟨if_neg h', if_neg h', if_neg h'⟩

set_option maxHeartbeats 1000000 in
set_option maxHeartbeats 1000000 in
set_option maxHeartbeats 1000000 in
set_option maxHeartbeats 1000000 in
set_option maxHeartbeats 1000000 in
theorem ConfLess_0 (t b i f k n m : Int) (w : World) (hk : zMay t b i f k = 0) (hn : n % 6 = 0) (h0 : 0 ≤ n) (h1 : n ≤ 255) (h2 : 0 ≤ m) (h3 : m ≤ 65535) :
    Calls Try.prog 5 #[.agg #[.int .i64 t, .int .i64 b, .int .i64 i, .int .i64 f, .int .i64 k], .int .u8 n, .int .u16 m] w fun e w' => e = .returned (.bool true) ∧ Grown w w' := by
  have HK := Lib.hid hk; clear hk
  obtain ⟨hm, ho, hN⟩ := zMay_no (t := (9 + m)) (b := b) (i := i) (f := f) (k := k) (.inr (.inl (by omega)))
  have HM := Lib.hid hm; have HO := Lib.hid ho; have HN := Lib.hid hN
  clear hm ho hN
  go_enter Try.func5, Try.ntmps5
  go_wp2_with fail
  refine (awake_any _).mono ?_; rintro e w1 ⟨rfl, g1⟩
  have c0 : w1.cell? ⟨w.heap.size, 0, none⟩ = some (.int .i64 t) := gcell g1 (by simp)
  have c1 : w1.cell? ⟨w.heap.size, 1, none⟩ = some (.int .i64 b) := gcell g1 (by simp)
  have c2 : w1.cell? ⟨w.heap.size, 2, none⟩ = some (.int .i64 i) := gcell g1 (by simp)
  have c3 : w1.cell? ⟨w.heap.size, 3, none⟩ = some (.int .i64 f) := gcell g1 (by simp)
  have c4 : w1.cell? ⟨w.heap.size, 4, none⟩ = some (.int .i64 k) := gcell g1 (by simp)
  have fz : w1.frozen? ⟨w.heap.size, 0, none⟩ = false := (g1.2.1 _).trans (by simp)
  have hs : w.heap.size < w1.heap.size := by have := g1.2.2; simp at this; omega
  have q1 := galloc g1
  clear g1
  go_wp2_with fail
  refine (rMayC_at _ _ _ _ _ _ _ HK.out).mono ?_; rintro e w2 ⟨rfl, g3⟩
  replace c0 := gcell g3 c0
  replace c1 := gcell g3 c1
  replace c2 := gcell g3 c2
  replace c3 := gcell g3 c3
  replace c4 := gcell g3 c4
  replace fz := (g3.2.1 _).trans fz
  replace hs : w.heap.size < w2.heap.size := by have := g3.2.2; omega
  replace q1 := gtr q1 g3
  clear g3
  go_wp2_with fail
  refine (May_at _ _ _ _ _ _ _ HM.out).mono ?_; rintro e w3 ⟨rfl, g3⟩
  replace c0 : w3.cell? ⟨w.heap.size, 0, none⟩ = some (.int .i64 (9 + m)) := gcell g3 (World.cell?_setCell_same _ _ _ c0)
  replace c1 : w3.cell? ⟨w.heap.size, 1, none⟩ = some (.int .i64 b) := gcell g3 ((World.cell?_setCell_other _ _ _ _ (by simp)).trans c1)
  replace c2 : w3.cell? ⟨w.heap.size, 2, none⟩ = some (.int .i64 i) := gcell g3 ((World.cell?_setCell_other _ _ _ _ (by simp)).trans c2)
  replace c3 : w3.cell? ⟨w.heap.size, 3, none⟩ = some (.int .i64 f) := gcell g3 ((World.cell?_setCell_other _ _ _ _ (by simp)).trans c3)
  replace c4 : w3.cell? ⟨w.heap.size, 4, none⟩ = some (.int .i64 k) := gcell g3 ((World.cell?_setCell_other _ _ _ _ (by simp)).trans c4)
  clear fz hs
  replace q1 := gtr (Grown.setCell q1 (Nat.le_refl _) _) g3
  clear g3
  go_wp2_with fail
  refine (Nodes_at _ _ _ _ _ _ _ HN.out).mono ?_; rintro e w4 ⟨rfl, g3⟩
  replace c0 := gcell g3 c0
  replace c1 := gcell g3 c1
  replace c2 := gcell g3 c2
  replace c3 := gcell g3 c3
  replace c4 := gcell g3 c4
  replace q1 := gtr q1 g3
  clear g3
  go_wp2_with fail
  refine (Ops_at _ _ _ _ _ _ _ HO.out).mono ?_; rintro e w5 ⟨rfl, g3⟩
  replace q1 := gtr q1 g3
  clear g3 c0 c1 c2 c3 c4
  go_wp2_with fail
  go_ret
  exact ⟨rfl, q1⟩

set_option maxHeartbeats 1000000 in
theorem ConfLess_1 (t b i f k n m : Int) (w : World) (hk : zMay t b i f k = 0) (hn : n % 6 = 1) (h0 : 0 ≤ n) (h1 : n ≤ 255) (h2 : 0 ≤ m) (h3 : m ≤ 65535) :
    Calls Try.prog 5 #[.agg #[.int .i64 t, .int .i64 b, .int .i64 i, .int .i64 f, .int .i64 k], .int .u8 n, .int .u16 m] w fun e w' => e = .returned (.bool true) ∧ Grown w w' := by
  have HK := Lib.hid hk; clear hk
  obtain ⟨hm, ho, hN⟩ := zMay_no (t := t) (b := (65 + 2 * m)) (i := i) (f := f) (k := k) (.inr (.inr (.inl (by unfold Pow2; omega))))
  have HM := Lib.hid hm; have HO := Lib.hid ho; have HN := Lib.hid hN
  clear hm ho hN
  go_enter Try.func5, Try.ntmps5
  go_wp2_with fail
  refine (awake_any _).mono ?_; rintro e w1 ⟨rfl, g1⟩
  have c0 : w1.cell? ⟨w.heap.size, 0, none⟩ = some (.int .i64 t) := gcell g1 (by simp)
  have c1 : w1.cell? ⟨w.heap.size, 1, none⟩ = some (.int .i64 b) := gcell g1 (by simp)
  have c2 : w1.cell? ⟨w.heap.size, 2, none⟩ = some (.int .i64 i) := gcell g1 (by simp)
  have c3 : w1.cell? ⟨w.heap.size, 3, none⟩ = some (.int .i64 f) := gcell g1 (by simp)
  have c4 : w1.cell? ⟨w.heap.size, 4, none⟩ = some (.int .i64 k) := gcell g1 (by simp)
  have fz : w1.frozen? ⟨w.heap.size, 1, none⟩ = false := (g1.2.1 _).trans (by simp)
  have hs : w.heap.size < w1.heap.size := by have := g1.2.2; simp at this; omega
  have q1 := galloc g1
  clear g1
  go_wp2_with fail
  refine (rMayC_at _ _ _ _ _ _ _ HK.out).mono ?_; rintro e w2 ⟨rfl, g3⟩
  replace c0 := gcell g3 c0
  replace c1 := gcell g3 c1
  replace c2 := gcell g3 c2
  replace c3 := gcell g3 c3
  replace c4 := gcell g3 c4
  replace fz := (g3.2.1 _).trans fz
  replace hs : w.heap.size < w2.heap.size := by have := g3.2.2; omega
  replace q1 := gtr q1 g3
  clear g3
  go_wp2_with fail
  refine (May_at _ _ _ _ _ _ _ HM.out).mono ?_; rintro e w3 ⟨rfl, g3⟩
  replace c0 : w3.cell? ⟨w.heap.size, 0, none⟩ = some (.int .i64 t) := gcell g3 ((World.cell?_setCell_other _ _ _ _ (by simp)).trans c0)
  replace c1 : w3.cell? ⟨w.heap.size, 1, none⟩ = some (.int .i64 (65 + 2 * m)) := gcell g3 (World.cell?_setCell_same _ _ _ c1)
  replace c2 : w3.cell? ⟨w.heap.size, 2, none⟩ = some (.int .i64 i) := gcell g3 ((World.cell?_setCell_other _ _ _ _ (by simp)).trans c2)
  replace c3 : w3.cell? ⟨w.heap.size, 3, none⟩ = some (.int .i64 f) := gcell g3 ((World.cell?_setCell_other _ _ _ _ (by simp)).trans c3)
  replace c4 : w3.cell? ⟨w.heap.size, 4, none⟩ = some (.int .i64 k) := gcell g3 ((World.cell?_setCell_other _ _ _ _ (by simp)).trans c4)
  clear fz hs
  replace q1 := gtr (Grown.setCell q1 (Nat.le_refl _) _) g3
  clear g3
  go_wp2_with fail
  refine (Nodes_at _ _ _ _ _ _ _ HN.out).mono ?_; rintro e w4 ⟨rfl, g3⟩
  replace c0 := gcell g3 c0
  replace c1 := gcell g3 c1
  replace c2 := gcell g3 c2
  replace c3 := gcell g3 c3
  replace c4 := gcell g3 c4
  replace q1 := gtr q1 g3
  clear g3
  go_wp2_with fail
  refine (Ops_at _ _ _ _ _ _ _ HO.out).mono ?_; rintro e w5 ⟨rfl, g3⟩
  replace q1 := gtr q1 g3
  clear g3 c0 c1 c2 c3 c4
  go_wp2_with fail
  go_ret
  exact ⟨rfl, q1⟩

set_option maxHeartbeats 1000000 in
theorem ConfLess_2 (t b i f k n m : Int) (w : World) (hk : zMay t b i f k = 0) (hn : n % 6 = 2) (h0 : 0 ≤ n) (h1 : n ≤ 255) (h2 : 0 ≤ m) (h3 : m ≤ 65535) :
    Calls Try.prog 5 #[.agg #[.int .i64 t, .int .i64 b, .int .i64 i, .int .i64 f, .int .i64 k], .int .u8 n, .int .u16 m] w fun e w' => e = .returned (.bool true) ∧ Grown w w' := by
  have HK := Lib.hid hk; clear hk
  obtain ⟨hm, ho, hN⟩ := zMay_no (t := t) (b := b) (i := (-1 - m)) (f := f) (k := k) (.inr (.inr (.inr (.inl (by omega)))))
  have HM := Lib.hid hm; have HO := Lib.hid ho; have HN := Lib.hid hN
  clear hm ho hN
  go_enter Try.func5, Try.ntmps5
  go_wp2_with fail
  refine (awake_any _).mono ?_; rintro e w1 ⟨rfl, g1⟩
  have c0 : w1.cell? ⟨w.heap.size, 0, none⟩ = some (.int .i64 t) := gcell g1 (by simp)
  have c1 : w1.cell? ⟨w.heap.size, 1, none⟩ = some (.int .i64 b) := gcell g1 (by simp)
  have c2 : w1.cell? ⟨w.heap.size, 2, none⟩ = some (.int .i64 i) := gcell g1 (by simp)
  have c3 : w1.cell? ⟨w.heap.size, 3, none⟩ = some (.int .i64 f) := gcell g1 (by simp)
  have c4 : w1.cell? ⟨w.heap.size, 4, none⟩ = some (.int .i64 k) := gcell g1 (by simp)
  have fz : w1.frozen? ⟨w.heap.size, 2, none⟩ = false := (g1.2.1 _).trans (by simp)
  have hs : w.heap.size < w1.heap.size := by have := g1.2.2; simp at this; omega
  have q1 := galloc g1
  clear g1
  go_wp2_with fail
  refine (rMayC_at _ _ _ _ _ _ _ HK.out).mono ?_; rintro e w2 ⟨rfl, g3⟩
  replace c0 := gcell g3 c0
  replace c1 := gcell g3 c1
  replace c2 := gcell g3 c2
  replace c3 := gcell g3 c3
  replace c4 := gcell g3 c4
  replace fz := (g3.2.1 _).trans fz
  replace hs : w.heap.size < w2.heap.size := by have := g3.2.2; omega
  replace q1 := gtr q1 g3
  clear g3
  go_wp2_with fail
  refine (May_at _ _ _ _ _ _ _ HM.out).mono ?_; rintro e w3 ⟨rfl, g3⟩
  replace c0 : w3.cell? ⟨w.heap.size, 0, none⟩ = some (.int .i64 t) := gcell g3 ((World.cell?_setCell_other _ _ _ _ (by simp)).trans c0)
  replace c1 : w3.cell? ⟨w.heap.size, 1, none⟩ = some (.int .i64 b) := gcell g3 ((World.cell?_setCell_other _ _ _ _ (by simp)).trans c1)
  replace c2 : w3.cell? ⟨w.heap.size, 2, none⟩ = some (.int .i64 (-1 - m)) := gcell g3 (World.cell?_setCell_same _ _ _ c2)
  replace c3 : w3.cell? ⟨w.heap.size, 3, none⟩ = some (.int .i64 f) := gcell g3 ((World.cell?_setCell_other _ _ _ _ (by simp)).trans c3)
  replace c4 : w3.cell? ⟨w.heap.size, 4, none⟩ = some (.int .i64 k) := gcell g3 ((World.cell?_setCell_other _ _ _ _ (by simp)).trans c4)
  clear fz hs
  replace q1 := gtr (Grown.setCell q1 (Nat.le_refl _) _) g3
  clear g3
  go_wp2_with fail
  refine (Nodes_at _ _ _ _ _ _ _ HN.out).mono ?_; rintro e w4 ⟨rfl, g3⟩
  replace c0 := gcell g3 c0
  replace c1 := gcell g3 c1
  replace c2 := gcell g3 c2
  replace c3 := gcell g3 c3
  replace c4 := gcell g3 c4
  replace q1 := gtr q1 g3
  clear g3
  go_wp2_with fail
  refine (Ops_at _ _ _ _ _ _ _ HO.out).mono ?_; rintro e w5 ⟨rfl, g3⟩
  replace q1 := gtr q1 g3
  clear g3 c0 c1 c2 c3 c4
  go_wp2_with fail
  go_ret
  exact ⟨rfl, q1⟩

set_option maxHeartbeats 1000000 in
theorem ConfLess_3 (t b i f k n m : Int) (w : World) (hk : zMay t b i f k = 0) (hn : n % 6 = 3) (h0 : 0 ≤ n) (h1 : n ≤ 255) (h2 : 0 ≤ m) (h3 : m ≤ 65535) :
    Calls Try.prog 5 #[.agg #[.int .i64 t, .int .i64 b, .int .i64 i, .int .i64 f, .int .i64 k], .int .u8 n, .int .u16 m] w fun e w' => e = .returned (.bool true) ∧ Grown w w' := by
  have HK := Lib.hid hk; clear hk
  obtain ⟨hm, ho, hN⟩ := zMay_no (t := t) (b := b) (i := i) (f := (65537 + m)) (k := k) (.inr (.inr (.inr (.inr (.inl (by omega))))))
  have HM := Lib.hid hm; have HO := Lib.hid ho; have HN := Lib.hid hN
  clear hm ho hN
  go_enter Try.func5, Try.ntmps5
  go_wp2_with fail
  refine (awake_any _).mono ?_; rintro e w1 ⟨rfl, g1⟩
  have c0 : w1.cell? ⟨w.heap.size, 0, none⟩ = some (.int .i64 t) := gcell g1 (by simp)
  have c1 : w1.cell? ⟨w.heap.size, 1, none⟩ = some (.int .i64 b) := gcell g1 (by simp)
  have c2 : w1.cell? ⟨w.heap.size, 2, none⟩ = some (.int .i64 i) := gcell g1 (by simp)
  have c3 : w1.cell? ⟨w.heap.size, 3, none⟩ = some (.int .i64 f) := gcell g1 (by simp)
  have c4 : w1.cell? ⟨w.heap.size, 4, none⟩ = some (.int .i64 k) := gcell g1 (by simp)
  have fz : w1.frozen? ⟨w.heap.size, 3, none⟩ = false := (g1.2.1 _).trans (by simp)
  have hs : w.heap.size < w1.heap.size := by have := g1.2.2; simp at this; omega
  have q1 := galloc g1
  clear g1
  go_wp2_with fail
  refine (rMayC_at _ _ _ _ _ _ _ HK.out).mono ?_; rintro e w2 ⟨rfl, g3⟩
  replace c0 := gcell g3 c0
  replace c1 := gcell g3 c1
  replace c2 := gcell g3 c2
  replace c3 := gcell g3 c3
  replace c4 := gcell g3 c4
  replace fz := (g3.2.1 _).trans fz
  replace hs : w.heap.size < w2.heap.size := by have := g3.2.2; omega
  replace q1 := gtr q1 g3
  clear g3
  go_wp2_with fail
  refine (May_at _ _ _ _ _ _ _ HM.out).mono ?_; rintro e w3 ⟨rfl, g3⟩
  replace c0 : w3.cell? ⟨w.heap.size, 0, none⟩ = some (.int .i64 t) := gcell g3 ((World.cell?_setCell_other _ _ _ _ (by simp)).trans c0)
  replace c1 : w3.cell? ⟨w.heap.size, 1, none⟩ = some (.int .i64 b) := gcell g3 ((World.cell?_setCell_other _ _ _ _ (by simp)).trans c1)
  replace c2 : w3.cell? ⟨w.heap.size, 2, none⟩ = some (.int .i64 i) := gcell g3 ((World.cell?_setCell_other _ _ _ _ (by simp)).trans c2)
  replace c3 : w3.cell? ⟨w.heap.size, 3, none⟩ = some (.int .i64 (65537 + m)) := gcell g3 (World.cell?_setCell_same _ _ _ c3)
  replace c4 : w3.cell? ⟨w.heap.size, 4, none⟩ = some (.int .i64 k) := gcell g3 ((World.cell?_setCell_other _ _ _ _ (by simp)).trans c4)
  clear fz hs
  replace q1 := gtr (Grown.setCell q1 (Nat.le_refl _) _) g3
  clear g3
  go_wp2_with fail
  refine (Nodes_at _ _ _ _ _ _ _ HN.out).mono ?_; rintro e w4 ⟨rfl, g3⟩
  replace c0 := gcell g3 c0
  replace c1 := gcell g3 c1
  replace c2 := gcell g3 c2
  replace c3 := gcell g3 c3
  replace c4 := gcell g3 c4
  replace q1 := gtr q1 g3
  clear g3
  go_wp2_with fail
  refine (Ops_at _ _ _ _ _ _ _ HO.out).mono ?_; rintro e w5 ⟨rfl, g3⟩
  replace q1 := gtr q1 g3
  clear g3 c0 c1 c2 c3 c4
  go_wp2_with fail
  go_ret
  exact ⟨rfl, q1⟩

set_option maxHeartbeats 1000000 in
theorem ConfLess_4 (t b i f k n m : Int) (w : World) (hk : zMay t b i f k = 0) (hn : n % 6 = 4) (h0 : 0 ≤ n) (h1 : n ≤ 255) (h2 : 0 ≤ m) (h3 : m ≤ 65535) :
    Calls Try.prog 5 #[.agg #[.int .i64 t, .int .i64 b, .int .i64 i, .int .i64 f, .int .i64 k], .int .u8 n, .int .u16 m] w fun e w' => e = .returned (.bool true) ∧ Grown w w' := by
  have HK := Lib.hid hk; clear hk
  obtain ⟨hm, ho, hN⟩ := zMay_no (t := t) (b := b) (i := i) (f := f) (k := (-m)) (.inr (.inr (.inr (.inr (.inr (by omega))))))
  have HM := Lib.hid hm; have HO := Lib.hid ho; have HN := Lib.hid hN
  clear hm ho hN
  go_enter Try.func5, Try.ntmps5
  go_wp2_with fail
  refine (awake_any _).mono ?_; rintro e w1 ⟨rfl, g1⟩
  have c0 : w1.cell? ⟨w.heap.size, 0, none⟩ = some (.int .i64 t) := gcell g1 (by simp)
  have c1 : w1.cell? ⟨w.heap.size, 1, none⟩ = some (.int .i64 b) := gcell g1 (by simp)
  have c2 : w1.cell? ⟨w.heap.size, 2, none⟩ = some (.int .i64 i) := gcell g1 (by simp)
  have c3 : w1.cell? ⟨w.heap.size, 3, none⟩ = some (.int .i64 f) := gcell g1 (by simp)
  have c4 : w1.cell? ⟨w.heap.size, 4, none⟩ = some (.int .i64 k) := gcell g1 (by simp)
  have fz : w1.frozen? ⟨w.heap.size, 4, none⟩ = false := (g1.2.1 _).trans (by simp)
  have hs : w.heap.size < w1.heap.size := by have := g1.2.2; simp at this; omega
  have q1 := galloc g1
  clear g1
  go_wp2_with fail
  refine (rMayC_at _ _ _ _ _ _ _ HK.out).mono ?_; rintro e w2 ⟨rfl, g3⟩
  replace c0 := gcell g3 c0
  replace c1 := gcell g3 c1
  replace c2 := gcell g3 c2
  replace c3 := gcell g3 c3
  replace c4 := gcell g3 c4
  replace fz := (g3.2.1 _).trans fz
  replace hs : w.heap.size < w2.heap.size := by have := g3.2.2; omega
  replace q1 := gtr q1 g3
  clear g3
  go_wp2_with fail
  refine (May_at _ _ _ _ _ _ _ HM.out).mono ?_; rintro e w3 ⟨rfl, g3⟩
  replace c0 : w3.cell? ⟨w.heap.size, 0, none⟩ = some (.int .i64 t) := gcell g3 ((World.cell?_setCell_other _ _ _ _ (by simp)).trans c0)
  replace c1 : w3.cell? ⟨w.heap.size, 1, none⟩ = some (.int .i64 b) := gcell g3 ((World.cell?_setCell_other _ _ _ _ (by simp)).trans c1)
  replace c2 : w3.cell? ⟨w.heap.size, 2, none⟩ = some (.int .i64 i) := gcell g3 ((World.cell?_setCell_other _ _ _ _ (by simp)).trans c2)
  replace c3 : w3.cell? ⟨w.heap.size, 3, none⟩ = some (.int .i64 f) := gcell g3 ((World.cell?_setCell_other _ _ _ _ (by simp)).trans c3)
  replace c4 : w3.cell? ⟨w.heap.size, 4, none⟩ = some (.int .i64 (-m)) := gcell g3 (World.cell?_setCell_same _ _ _ c4)
  clear fz hs
  replace q1 := gtr (Grown.setCell q1 (Nat.le_refl _) _) g3
  clear g3
  go_wp2_with fail
  refine (Nodes_at _ _ _ _ _ _ _ HN.out).mono ?_; rintro e w4 ⟨rfl, g3⟩
  replace c0 := gcell g3 c0
  replace c1 := gcell g3 c1
  replace c2 := gcell g3 c2
  replace c3 := gcell g3 c3
  replace c4 := gcell g3 c4
  replace q1 := gtr q1 g3
  clear g3
  go_wp2_with fail
  refine (Ops_at _ _ _ _ _ _ _ HO.out).mono ?_; rintro e w5 ⟨rfl, g3⟩
  replace q1 := gtr q1 g3
  clear g3 c0 c1 c2 c3 c4
  go_wp2_with fail
  go_ret
  exact ⟨rfl, q1⟩

set_option maxHeartbeats 1000000 in
theorem ConfLess_5 (t b i f k n m : Int) (w : World) (hk : zMay t b i f k = 0) (hn : n % 6 = 5) (h0 : 0 ≤ n) (h1 : n ≤ 255) (h2 : 0 ≤ m) (h3 : m ≤ 65535) :
    Calls Try.prog 5 #[.agg #[.int .i64 t, .int .i64 b, .int .i64 i, .int .i64 f, .int .i64 k], .int .u8 n, .int .u16 m] w fun e w' => e = .returned (.bool true) ∧ Grown w w' := by
  have HK := Lib.hid hk; clear hk
  obtain ⟨hm, ho, hN⟩ := zMay_no (t := (-m)) (b := b) (i := i) (f := f) (k := k) (.inl (by omega))
  have HM := Lib.hid hm; have HO := Lib.hid ho; have HN := Lib.hid hN
  clear hm ho hN
  go_enter Try.func5, Try.ntmps5
  go_wp2_with fail
  refine (awake_any _).mono ?_; rintro e w1 ⟨rfl, g1⟩
  have c0 : w1.cell? ⟨w.heap.size, 0, none⟩ = some (.int .i64 t) := gcell g1 (by simp)
  have c1 : w1.cell? ⟨w.heap.size, 1, none⟩ = some (.int .i64 b) := gcell g1 (by simp)
  have c2 : w1.cell? ⟨w.heap.size, 2, none⟩ = some (.int .i64 i) := gcell g1 (by simp)
  have c3 : w1.cell? ⟨w.heap.size, 3, none⟩ = some (.int .i64 f) := gcell g1 (by simp)
  have c4 : w1.cell? ⟨w.heap.size, 4, none⟩ = some (.int .i64 k) := gcell g1 (by simp)
  have fz : w1.frozen? ⟨w.heap.size, 0, none⟩ = false := (g1.2.1 _).trans (by simp)
  have hs : w.heap.size < w1.heap.size := by have := g1.2.2; simp at this; omega
  have q1 := galloc g1
  clear g1
  go_wp2_with fail
  refine (rMayC_at _ _ _ _ _ _ _ HK.out).mono ?_; rintro e w2 ⟨rfl, g3⟩
  replace c0 := gcell g3 c0
  replace c1 := gcell g3 c1
  replace c2 := gcell g3 c2
  replace c3 := gcell g3 c3
  replace c4 := gcell g3 c4
  replace fz := (g3.2.1 _).trans fz
  replace hs : w.heap.size < w2.heap.size := by have := g3.2.2; omega
  replace q1 := gtr q1 g3
  clear g3
  go_wp2_with fail
  refine (May_at _ _ _ _ _ _ _ HM.out).mono ?_; rintro e w3 ⟨rfl, g3⟩
  replace c0 : w3.cell? ⟨w.heap.size, 0, none⟩ = some (.int .i64 (-m)) := gcell g3 (World.cell?_setCell_same _ _ _ c0)
  replace c1 : w3.cell? ⟨w.heap.size, 1, none⟩ = some (.int .i64 b) := gcell g3 ((World.cell?_setCell_other _ _ _ _ (by simp)).trans c1)
  replace c2 : w3.cell? ⟨w.heap.size, 2, none⟩ = some (.int .i64 i) := gcell g3 ((World.cell?_setCell_other _ _ _ _ (by simp)).trans c2)
  replace c3 : w3.cell? ⟨w.heap.size, 3, none⟩ = some (.int .i64 f) := gcell g3 ((World.cell?_setCell_other _ _ _ _ (by simp)).trans c3)
  replace c4 : w3.cell? ⟨w.heap.size, 4, none⟩ = some (.int .i64 k) := gcell g3 ((World.cell?_setCell_other _ _ _ _ (by simp)).trans c4)
  clear fz hs
  replace q1 := gtr (Grown.setCell q1 (Nat.le_refl _) _) g3
  clear g3
  go_wp2_with fail
  refine (Nodes_at _ _ _ _ _ _ _ HN.out).mono ?_; rintro e w4 ⟨rfl, g3⟩
  replace c0 := gcell g3 c0
  replace c1 := gcell g3 c1
  replace c2 := gcell g3 c2
  replace c3 := gcell g3 c3
  replace c4 := gcell g3 c4
  replace q1 := gtr q1 g3
  clear g3
  go_wp2_with fail
  refine (Ops_at _ _ _ _ _ _ _ HO.out).mono ?_; rintro e w5 ⟨rfl, g3⟩
  replace q1 := gtr q1 g3
  clear g3 c0 c1 c2 c3 c4
  go_wp2_with fail
  go_ret
  exact ⟨rfl, q1⟩

theorem law_ConfLess (t b i f k n m : Int) (w : World) (h0 : -9223372036854775808 ≤ t) (h1 : t ≤ 9223372036854775807) (h2 : -9223372036854775808 ≤ b) (h3 : b ≤ 9223372036854775807) (h4 : -9223372036854775808 ≤ i) (h5 : i ≤ 9223372036854775807)
    (h6 : -9223372036854775808 ≤ f) (h7 : f ≤ 9223372036854775807) (h8 : -9223372036854775808 ≤ k) (h9 : k ≤ 9223372036854775807)
    (n0 : 0 ≤ n) (n1 : n ≤ 255) (m0 : 0 ≤ m) (m1 : m ≤ 65535) :
    Calls Try.prog 5 #[.agg #[.int .i64 t, .int .i64 b, .int .i64 i, .int .i64 f, .int .i64 k], .int .u8 n, .int .u16 m] w fun e w' => e = .returned (.bool true) ∧ Grown w w' := by
  clear h0 h1 h2 h3 h4 h5 h6 h7 h8 h9
  by_cases hk : zOk t b i f k = true
  · have hk' : zMay t b i f k = 0 := if_pos hk
    rcases (show n % 6 = 0 ∨ n % 6 = 1 ∨ n % 6 = 2 ∨ n % 6 = 3 ∨ n % 6 = 4 ∨ n % 6 = 5 by omega) with h | h | h | h | h | h
    · exact ConfLess_0 t b i f k n m w hk' h n0 n1 m0 m1
    · exact ConfLess_1 t b i f k n m w hk' h n0 n1 m0 m1
    · exact ConfLess_2 t b i f k n m w hk' h n0 n1 m0 m1
    · exact ConfLess_3 t b i f k n m w hk' h n0 n1 m0 m1
    · exact ConfLess_4 t b i f k n m w hk' h n0 n1 m0 m1
    · exact ConfLess_5 t b i f k n m w hk' h n0 n1 m0 m1
  · have hk' : zMay t b i f k = 1 := if_neg hk
    have HK := Lib.hid hk'; clear hk hk'
    go_enter Try.func5, Try.ntmps5
    go_wp2_with fail
    refine (awake_any _).mono ?_; rintro e w1 ⟨rfl, g1⟩
    have c0 : w1.cell? ⟨w.heap.size, 0, none⟩ = some (.int .i64 t) := gcell g1 (by simp)
    have c1 : w1.cell? ⟨w.heap.size, 1, none⟩ = some (.int .i64 b) := gcell g1 (by simp)
    have c2 : w1.cell? ⟨w.heap.size, 2, none⟩ = some (.int .i64 i) := gcell g1 (by simp)
    have c3 : w1.cell? ⟨w.heap.size, 3, none⟩ = some (.int .i64 f) := gcell g1 (by simp)
    have c4 : w1.cell? ⟨w.heap.size, 4, none⟩ = some (.int .i64 k) := gcell g1 (by simp)
    have q1 := galloc g1
    clear g1
    go_wp2_with fail
    refine (rMayC_at _ _ _ _ _ _ _ HK.out).mono ?_; rintro e w2 ⟨rfl, g3⟩
    replace q1 := gtr q1 g3
    clear g3 c0 c1 c2 c3 c4
    go_wp2_with fail
    go_ret
    exact ⟨rfl, q1⟩

set_option maxHeartbeats 1000000 in
theorem ConfCounts_more (t b i f k : Int) (w : World) (hk : zOk t b i f k = true) (hm : k < 256) :
    Calls Try.prog 6 #[.agg #[.int .i64 t, .int .i64 b, .int .i64 i, .int .i64 f, .int .i64 k]] w fun e w' => e = .returned (.bool true) ∧ Grown w w' := by
  have hs := zOk_spec.1 hk
  have hk' : zMay t b i f k = 0 := if_pos hk
  have HK := Lib.hid hk'
  obtain ⟨p, hp⟩ : ∃ p, t * k = p := ⟨_, rfl⟩
  have ho : zOps t b i f k = p := (if_pos hk).trans hp
  have HO := Lib.hid ho
  have hn : zNodes t b i f k = 1 + b + 2 * p := (if_pos hk).trans (by rw [hp])
  have HN := Lib.hid hn
  clear hk' ho hn hk
  obtain ⟨t1, t2, hb, i1, i2, f1, f2, k1, k2⟩ := hs
  obtain ⟨b1, b2⟩ : 1 ≤ b ∧ b ≤ 64 := by unfold Pow2 at hb; omega
  obtain ⟨p1, p2, p3⟩ : 0 ≤ p ∧ p ≤ 2048 ∧ t ≤ p := by
    rw [← hp]
    refine ⟨Int.mul_nonneg (by omega) (by omega), Int.le_trans (Int.mul_le_mul t2 k2 (by omega) (by omega)) (by omega), ?_⟩
    have := Int.mul_le_mul_of_nonneg_left k1 (show 0 ≤ t by omega)
    omega
  have hd : zOk t b i f (k + 1) = true := zOk_spec.2 ⟨t1, t2, hb, i1, i2, f1, f2, by omega, by omega⟩
  have hd' : zMay t b i f (k + 1) = 0 := if_pos hd
  have hq : zNodes t b i f (k + 1) = 1 + b + 2 * p + 2 * t := (if_pos hd).trans (by rw [Int.mul_add, hp]; omega)
  have HQ := Lib.hid hq; clear hq
  have HD := Lib.hid hd'
  clear hd hd' hp hb
  go_enter Try.func6, Try.ntmps6
  go_wp2_with fail
  refine (awake_any _).mono ?_; rintro e w1 ⟨rfl, g1⟩
  have c0 : w1.cell? ⟨w.heap.size, 0, none⟩ = some (.int .i64 t) := gcell g1 (by simp)
  have c1 : w1.cell? ⟨w.heap.size, 1, none⟩ = some (.int .i64 b) := gcell g1 (by simp)
  have c2 : w1.cell? ⟨w.heap.size, 2, none⟩ = some (.int .i64 i) := gcell g1 (by simp)
  have c3 : w1.cell? ⟨w.heap.size, 3, none⟩ = some (.int .i64 f) := gcell g1 (by simp)
  have c4 : w1.cell? ⟨w.heap.size, 4, none⟩ = some (.int .i64 k) := gcell g1 (by simp)
  have hs : w.heap.size < w1.heap.size := by have := g1.2.2; simp at this; omega
  have q1 := galloc g1
  clear g1
  go_wp2_with fail
  refine (rMayC_at _ _ _ _ _ _ _ HK.out).mono ?_; rintro e w2 ⟨rfl, g3⟩
  replace c0 := gcell g3 c0
  replace c1 := gcell g3 c1
  replace c2 := gcell g3 c2
  replace c3 := gcell g3 c3
  replace c4 := gcell g3 c4
  replace hs : w.heap.size < w2.heap.size := by have := g3.2.2; omega
  replace q1 := gtr q1 g3
  clear g3
  go_wp2_with fail
  refine (May_at _ _ _ _ _ _ _ HD.out).mono ?_; rintro e w3 ⟨rfl, g3⟩
  have e0 : ∀ g : GrW w3, g.w.cell? ⟨w.heap.size, 0, none⟩ = some (.int .i64 t) := GrW.cell (gcell g3 ((World.cell?_alloc_lt _ _ _ (by simpa using hs)).trans c0))
  have e1 : ∀ g : GrW w3, g.w.cell? ⟨w.heap.size, 1, none⟩ = some (.int .i64 b) := GrW.cell (gcell g3 ((World.cell?_alloc_lt _ _ _ (by simpa using hs)).trans c1))
  have e2 : ∀ g : GrW w3, g.w.cell? ⟨w.heap.size, 2, none⟩ = some (.int .i64 i) := GrW.cell (gcell g3 ((World.cell?_alloc_lt _ _ _ (by simpa using hs)).trans c2))
  have e3 : ∀ g : GrW w3, g.w.cell? ⟨w.heap.size, 3, none⟩ = some (.int .i64 f) := GrW.cell (gcell g3 ((World.cell?_alloc_lt _ _ _ (by simpa using hs)).trans c3))
  have e4 : ∀ g : GrW w3, g.w.cell? ⟨w.heap.size, 4, none⟩ = some (.int .i64 k) := GrW.cell (gcell g3 ((World.cell?_alloc_lt _ _ _ (by simpa using hs)).trans c4))
  have d0 : ∀ g : GrW w3, g.w.cell? ⟨w2.heap.size, 0, none⟩ = some (.int .i64 t) := GrW.cell (gcell g3 (by simp))
  have d1 : ∀ g : GrW w3, g.w.cell? ⟨w2.heap.size, 1, none⟩ = some (.int .i64 b) := GrW.cell (gcell g3 (by simp))
  have d2 : ∀ g : GrW w3, g.w.cell? ⟨w2.heap.size, 2, none⟩ = some (.int .i64 i) := GrW.cell (gcell g3 (by simp))
  have d3 : ∀ g : GrW w3, g.w.cell? ⟨w2.heap.size, 3, none⟩ = some (.int .i64 f) := GrW.cell (gcell g3 (by simp))
  have d4 : ∀ g : GrW w3, g.w.cell? ⟨w2.heap.size, 4, none⟩ = some (.int .i64 (k + 1)) := GrW.cell (gcell g3 (by simp))
  replace q1 := gtr q1 (galloc g3)
  clear g3 c0 c1 c2 c3 c4 hs
  go_wp2_with fail
  refine wp_region_grow (by kernel_rfl) (by kernel_rfl) ?_
  repeat (go_big_quiet_step ((first | (go_at_call 13; exact grcall (Ops_at _ _ _ _ _ _ _ HO.out)) | (go_at_call 11; with_reducible exact grcall (Nodes_at _ _ _ _ _ _ _ HN.out)) | (go_at_call 11; with_reducible exact grcall (Nodes_at _ _ _ _ _ _ _ HQ.out)))))
  refine wpQuiet_nil ?_
  rintro _ ⟨⟨w4, g4⟩, rfl⟩
  have g4' := gtr q1 g4
  go_wp2
  go_ret
  exact ⟨rfl, g4'⟩

set_option maxHeartbeats 1000000 in
theorem ConfCounts_last (t b i f k : Int) (w : World) (hk : zOk t b i f k = true) (hm : k = 256) :
    Calls Try.prog 6 #[.agg #[.int .i64 t, .int .i64 b, .int .i64 i, .int .i64 f, .int .i64 k]] w fun e w' => e = .returned (.bool true) ∧ Grown w w' := by
  have hs := zOk_spec.1 hk
  have hk' : zMay t b i f k = 0 := if_pos hk
  have HK := Lib.hid hk'
  obtain ⟨p, hp⟩ : ∃ p, t * k = p := ⟨_, rfl⟩
  have ho : zOps t b i f k = p := (if_pos hk).trans hp
  have HO := Lib.hid ho
  have hn : zNodes t b i f k = 1 + b + 2 * p := (if_pos hk).trans (by rw [hp])
  have HN := Lib.hid hn
  clear hk' ho hn hk
  obtain ⟨t1, t2, hb, i1, i2, f1, f2, k1, k2⟩ := hs
  obtain ⟨b1, b2⟩ : 1 ≤ b ∧ b ≤ 64 := by unfold Pow2 at hb; omega
  obtain ⟨p1, p2, p3⟩ : 0 ≤ p ∧ p ≤ 2048 ∧ t ≤ p := by
    rw [← hp]
    refine ⟨Int.mul_nonneg (by omega) (by omega), Int.le_trans (Int.mul_le_mul t2 k2 (by omega) (by omega)) (by omega), ?_⟩
    have := Int.mul_le_mul_of_nonneg_left k1 (show 0 ≤ t by omega)
    omega
  have hd : ¬ zOk t b i f (k + 1) = true := fun h => by have := zOk_spec.1 h; omega
  have hd' : zMay t b i f (k + 1) = 1 := if_neg hd
  have hlt : decide (k < 256) = false := decide_eq_false (by omega)
  clear hm
  have HD := Lib.hid hd'
  clear hd hd' hp hb
  go_enter Try.func6, Try.ntmps6
  go_wp2_with fail
  refine (awake_any _).mono ?_; rintro e w1 ⟨rfl, g1⟩
  have c0 : w1.cell? ⟨w.heap.size, 0, none⟩ = some (.int .i64 t) := gcell g1 (by simp)
  have c1 : w1.cell? ⟨w.heap.size, 1, none⟩ = some (.int .i64 b) := gcell g1 (by simp)
  have c2 : w1.cell? ⟨w.heap.size, 2, none⟩ = some (.int .i64 i) := gcell g1 (by simp)
  have c3 : w1.cell? ⟨w.heap.size, 3, none⟩ = some (.int .i64 f) := gcell g1 (by simp)
  have c4 : w1.cell? ⟨w.heap.size, 4, none⟩ = some (.int .i64 k) := gcell g1 (by simp)
  have hs : w.heap.size < w1.heap.size := by have := g1.2.2; simp at this; omega
  have q1 := galloc g1
  clear g1
  go_wp2_with fail
  refine (rMayC_at _ _ _ _ _ _ _ HK.out).mono ?_; rintro e w2 ⟨rfl, g3⟩
  replace c0 := gcell g3 c0
  replace c1 := gcell g3 c1
  replace c2 := gcell g3 c2
  replace c3 := gcell g3 c3
  replace c4 := gcell g3 c4
  replace hs : w.heap.size < w2.heap.size := by have := g3.2.2; omega
  replace q1 := gtr q1 g3
  clear g3
  go_wp2_with fail
  refine (May_at _ _ _ _ _ _ _ HD.out).mono ?_; rintro e w3 ⟨rfl, g3⟩
  have e0 : ∀ g : GrW w3, g.w.cell? ⟨w.heap.size, 0, none⟩ = some (.int .i64 t) := GrW.cell (gcell g3 ((World.cell?_alloc_lt _ _ _ (by simpa using hs)).trans c0))
  have e1 : ∀ g : GrW w3, g.w.cell? ⟨w.heap.size, 1, none⟩ = some (.int .i64 b) := GrW.cell (gcell g3 ((World.cell?_alloc_lt _ _ _ (by simpa using hs)).trans c1))
  have e2 : ∀ g : GrW w3, g.w.cell? ⟨w.heap.size, 2, none⟩ = some (.int .i64 i) := GrW.cell (gcell g3 ((World.cell?_alloc_lt _ _ _ (by simpa using hs)).trans c2))
  have e3 : ∀ g : GrW w3, g.w.cell? ⟨w.heap.size, 3, none⟩ = some (.int .i64 f) := GrW.cell (gcell g3 ((World.cell?_alloc_lt _ _ _ (by simpa using hs)).trans c3))
  have e4 : ∀ g : GrW w3, g.w.cell? ⟨w.heap.size, 4, none⟩ = some (.int .i64 k) := GrW.cell (gcell g3 ((World.cell?_alloc_lt _ _ _ (by simpa using hs)).trans c4))
  have d0 : ∀ g : GrW w3, g.w.cell? ⟨w2.heap.size, 0, none⟩ = some (.int .i64 t) := GrW.cell (gcell g3 (by simp))
  have d1 : ∀ g : GrW w3, g.w.cell? ⟨w2.heap.size, 1, none⟩ = some (.int .i64 b) := GrW.cell (gcell g3 (by simp))
  have d2 : ∀ g : GrW w3, g.w.cell? ⟨w2.heap.size, 2, none⟩ = some (.int .i64 i) := GrW.cell (gcell g3 (by simp))
  have d3 : ∀ g : GrW w3, g.w.cell? ⟨w2.heap.size, 3, none⟩ = some (.int .i64 f) := GrW.cell (gcell g3 (by simp))
  have d4 : ∀ g : GrW w3, g.w.cell? ⟨w2.heap.size, 4, none⟩ = some (.int .i64 (k + 1)) := GrW.cell (gcell g3 (by simp))
  replace q1 := gtr q1 (galloc g3)
  clear g3 c0 c1 c2 c3 c4 hs
  go_wp2_with fail
  refine wp_region_grow (by kernel_rfl) (by kernel_rfl) ?_
  repeat (go_big_quiet_step ((first | (go_at_call 13; exact grcall (Ops_at _ _ _ _ _ _ _ HO.out)) | (go_at_call 11; with_reducible exact grcall (Nodes_at _ _ _ _ _ _ _ HN.out)))))
  refine wpQuiet_nil ?_
  rintro _ ⟨⟨w4, g4⟩, rfl⟩
  have g4' := gtr q1 g4
  go_wp2
  go_ret
  exact ⟨rfl, g4'⟩

theorem law_ConfCounts (t b i f k : Int) (w : World) (h0 : -9223372036854775808 ≤ t) (h1 : t ≤ 9223372036854775807) (h2 : -9223372036854775808 ≤ b) (h3 : b ≤ 9223372036854775807) (h4 : -9223372036854775808 ≤ i) (h5 : i ≤ 9223372036854775807)
    (h6 : -9223372036854775808 ≤ f) (h7 : f ≤ 9223372036854775807) (h8 : -9223372036854775808 ≤ k) (h9 : k ≤ 9223372036854775807) :
    Calls Try.prog 6 #[.agg #[.int .i64 t, .int .i64 b, .int .i64 i, .int .i64 f, .int .i64 k]] w fun e w' => e = .returned (.bool true) ∧ Grown w w' := by
  clear h0 h1 h2 h3 h4 h5 h6 h7 h8 h9
  by_cases hk : zOk t b i f k = true
  · by_cases hm : k < 256
    · exact ConfCounts_more t b i f k w hk hm
    · exact ConfCounts_last t b i f k w hk (by have := zOk_spec.1 hk; omega)
  · have hk' : zMay t b i f k = 1 := if_neg hk
    have HK := Lib.hid hk'; clear hk hk'
    go_enter Try.func6, Try.ntmps6
    go_wp2_with fail
    refine (awake_any _).mono ?_; rintro e w1 ⟨rfl, g1⟩
    have c0 : w1.cell? ⟨w.heap.size, 0, none⟩ = some (.int .i64 t) := gcell g1 (by simp)
    have c1 : w1.cell? ⟨w.heap.size, 1, none⟩ = some (.int .i64 b) := gcell g1 (by simp)
    have c2 : w1.cell? ⟨w.heap.size, 2, none⟩ = some (.int .i64 i) := gcell g1 (by simp)
    have c3 : w1.cell? ⟨w.heap.size, 3, none⟩ = some (.int .i64 f) := gcell g1 (by simp)
    have c4 : w1.cell? ⟨w.heap.size, 4, none⟩ = some (.int .i64 k) := gcell g1 (by simp)
    have q1 := galloc g1
    clear g1
    go_wp2_with fail
    refine (rMayC_at _ _ _ _ _ _ _ HK.out).mono ?_; rintro e w2 ⟨rfl, g3⟩
    replace q1 := gtr q1 g3
    clear g3 c0 c1 c2 c3 c4
    go_wp2_with fail
    go_ret
    exact ⟨rfl, q1⟩

set_option maxHeartbeats 1000000 in
theorem ConfFree_no (t b i f k t2 b2 i2 f2 k2 : Int) (w : World) (hk : zOk t b i f k = false) :
    Calls Try.prog 7 #[.agg #[.int .i64 t, .int .i64 b, .int .i64 i, .int .i64 f, .int .i64 k], .agg #[.int .i64 t2, .int .i64 b2, .int .i64 i2, .int .i64 f2, .int .i64 k2]] w fun e w' => e = .returned (.bool true) ∧ Grown w w' := by
  have hm : zMay t b i f k = 1 := by unfold zMay; rw [hk]; rfl
  have HM := Lib.hid hm
  clear hk hm
  go_enter Try.func7, Try.ntmps7
  go_wp2_with fail
  refine (awake_any _).mono ?_; rintro e w1 ⟨rfl, g1⟩
  have c0 : w1.cell? ⟨w.heap.size, 0, none⟩ = some (.int .i64 t) := gcell g1 (by simp)
  have c1 : w1.cell? ⟨w.heap.size, 1, none⟩ = some (.int .i64 b) := gcell g1 (by simp)
  have c2 : w1.cell? ⟨w.heap.size, 2, none⟩ = some (.int .i64 i) := gcell g1 (by simp)
  have c3 : w1.cell? ⟨w.heap.size, 3, none⟩ = some (.int .i64 f) := gcell g1 (by simp)
  have c4 : w1.cell? ⟨w.heap.size, 4, none⟩ = some (.int .i64 k) := gcell g1 (by simp)
  have d0 : w1.cell? ⟨w.heap.size + 1, 0, none⟩ = some (.int .i64 t2) := gcell g1 (by simp)
  have d1 : w1.cell? ⟨w.heap.size + 1, 1, none⟩ = some (.int .i64 b2) := gcell g1 (by simp)
  have d2 : w1.cell? ⟨w.heap.size + 1, 2, none⟩ = some (.int .i64 i2) := gcell g1 (by simp)
  have d3 : w1.cell? ⟨w.heap.size + 1, 3, none⟩ = some (.int .i64 f2) := gcell g1 (by simp)
  have d4 : w1.cell? ⟨w.heap.size + 1, 4, none⟩ = some (.int .i64 k2) := gcell g1 (by simp)
  have hs : w.heap.size + 1 < w1.heap.size := by have := g1.2.2; simp at this; omega
  have hs' : w.heap.size < w1.heap.size := by omega
  have q1 : Grown w w1 := galloc (galloc g1)
  clear g1
  go_wp2_with fail
  refine (rMayC_at _ _ _ _ _ _ _ HM.out).mono ?_; rintro e w2 ⟨rfl, g3⟩
  replace q1 := gtr q1 (galloc g3)
  clear g3 c0 c1 c2 c3 c4 d0 d1 d2 d3 d4
  go_wp2_with fail
  go_ret
  exact ⟨rfl, q1⟩

set_option maxHeartbeats 1000000 in
theorem ConfFree_one (t b i f k t2 b2 i2 f2 k2 : Int) (w : World) (hk : zOk t b i f k = true) (hk2 : zOk t b i2 f2 k = false) :
    Calls Try.prog 7 #[.agg #[.int .i64 t, .int .i64 b, .int .i64 i, .int .i64 f, .int .i64 k], .agg #[.int .i64 t2, .int .i64 b2, .int .i64 i2, .int .i64 f2, .int .i64 k2]] w fun e w' => e = .returned (.bool true) ∧ Grown w w' := by
  have hm : zMay t b i f k = 0 := by unfold zMay; rw [hk]; rfl
  have HM := Lib.hid hm
  have hm2 : zMay t b i2 f2 k = 1 := by unfold zMay; rw [hk2]; rfl
  have HM2 := Lib.hid hm2
  clear hm2
  clear hk2
  clear hk hm
  go_enter Try.func7, Try.ntmps7
  go_wp2_with fail
  refine (awake_any _).mono ?_; rintro e w1 ⟨rfl, g1⟩
  have c0 : w1.cell? ⟨w.heap.size, 0, none⟩ = some (.int .i64 t) := gcell g1 (by simp)
  have c1 : w1.cell? ⟨w.heap.size, 1, none⟩ = some (.int .i64 b) := gcell g1 (by simp)
  have c2 : w1.cell? ⟨w.heap.size, 2, none⟩ = some (.int .i64 i) := gcell g1 (by simp)
  have c3 : w1.cell? ⟨w.heap.size, 3, none⟩ = some (.int .i64 f) := gcell g1 (by simp)
  have c4 : w1.cell? ⟨w.heap.size, 4, none⟩ = some (.int .i64 k) := gcell g1 (by simp)
  have d0 : w1.cell? ⟨w.heap.size + 1, 0, none⟩ = some (.int .i64 t2) := gcell g1 (by simp)
  have d1 : w1.cell? ⟨w.heap.size + 1, 1, none⟩ = some (.int .i64 b2) := gcell g1 (by simp)
  have d2 : w1.cell? ⟨w.heap.size + 1, 2, none⟩ = some (.int .i64 i2) := gcell g1 (by simp)
  have d3 : w1.cell? ⟨w.heap.size + 1, 3, none⟩ = some (.int .i64 f2) := gcell g1 (by simp)
  have d4 : w1.cell? ⟨w.heap.size + 1, 4, none⟩ = some (.int .i64 k2) := gcell g1 (by simp)
  have hs : w.heap.size + 1 < w1.heap.size := by have := g1.2.2; simp at this; omega
  have hs' : w.heap.size < w1.heap.size := by omega
  have q1 : Grown w w1 := galloc (galloc g1)
  clear g1
  go_wp2_with fail
  refine (rMayC_at _ _ _ _ _ _ _ HM.out).mono ?_; rintro e w2 ⟨rfl, g3⟩
  replace c0 : w2.cell? ⟨w.heap.size, 0, none⟩ = some (.int .i64 t) := gcell g3 ((World.cell?_alloc_lt _ _ _ (by simpa using hs')).trans c0)
  replace c1 : w2.cell? ⟨w.heap.size, 1, none⟩ = some (.int .i64 b) := gcell g3 ((World.cell?_alloc_lt _ _ _ (by simpa using hs')).trans c1)
  replace c2 : w2.cell? ⟨w.heap.size, 2, none⟩ = some (.int .i64 i) := gcell g3 ((World.cell?_alloc_lt _ _ _ (by simpa using hs')).trans c2)
  replace c3 : w2.cell? ⟨w.heap.size, 3, none⟩ = some (.int .i64 f) := gcell g3 ((World.cell?_alloc_lt _ _ _ (by simpa using hs')).trans c3)
  replace c4 : w2.cell? ⟨w.heap.size, 4, none⟩ = some (.int .i64 k) := gcell g3 ((World.cell?_alloc_lt _ _ _ (by simpa using hs')).trans c4)
  clear d0 d1 d2 d3 d4
  have d0 : w2.cell? ⟨w1.heap.size, 0, none⟩ = some (.int .i64 t) := gcell g3 (by simp)
  have d1 : w2.cell? ⟨w1.heap.size, 1, none⟩ = some (.int .i64 b) := gcell g3 (by simp)
  have d2 : w2.cell? ⟨w1.heap.size, 2, none⟩ = some (.int .i64 i2) := gcell g3 (by simp)
  have d3 : w2.cell? ⟨w1.heap.size, 3, none⟩ = some (.int .i64 f2) := gcell g3 (by simp)
  have d4 : w2.cell? ⟨w1.heap.size, 4, none⟩ = some (.int .i64 k) := gcell g3 (by simp)
  replace q1 := gtr q1 (galloc g3)
  clear g3 hs hs'
  go_wp2_with fail
  refine (rMayC_at _ _ _ _ _ _ _ HM2.out).mono ?_; rintro e w3 ⟨rfl, g3⟩
  replace q1 := gtr q1 g3
  clear g3 c0 c1 c2 c3 c4 d0 d1 d2 d3 d4
  go_wp2_with fail
  go_ret
  exact ⟨rfl, q1⟩

set_option maxHeartbeats 1000000 in
theorem ConfFree_both (t b i f k t2 b2 i2 f2 k2 : Int) (w : World) (hk : zOk t b i f k = true) (hk2 : zOk t b i2 f2 k = true) :
    Calls Try.prog 7 #[.agg #[.int .i64 t, .int .i64 b, .int .i64 i, .int .i64 f, .int .i64 k], .agg #[.int .i64 t2, .int .i64 b2, .int .i64 i2, .int .i64 f2, .int .i64 k2]] w fun e w' => e = .returned (.bool true) ∧ Grown w w' := by
  have hm : zMay t b i f k = 0 := by unfold zMay; rw [hk]; rfl
  have HM := Lib.hid hm
  have hm2 : zMay t b i2 f2 k = 0 := by unfold zMay; rw [hk2]; rfl
  have HM2 := Lib.hid hm2
  clear hm2
  obtain ⟨p, hp⟩ : ∃ p, zOps t b i f k = p := ⟨_, rfl⟩
  have HP := Lib.hid hp
  have HP2 := Lib.hid (show zOps t b i2 f2 k = p by rw [← hp]; unfold zOps; rw [hk, hk2])
  obtain ⟨q, hq⟩ : ∃ q, zNodes t b i f k = q := ⟨_, rfl⟩
  have HQ := Lib.hid hq
  have HQ2 := Lib.hid (show zNodes t b i2 f2 k = q by rw [← hq]; unfold zNodes; rw [hk, hk2])
  clear hp hq
  clear hk2
  clear hk hm
  go_enter Try.func7, Try.ntmps7
  go_wp2_with fail
  refine (awake_any _).mono ?_; rintro e w1 ⟨rfl, g1⟩
  have c0 : w1.cell? ⟨w.heap.size, 0, none⟩ = some (.int .i64 t) := gcell g1 (by simp)
  have c1 : w1.cell? ⟨w.heap.size, 1, none⟩ = some (.int .i64 b) := gcell g1 (by simp)
  have c2 : w1.cell? ⟨w.heap.size, 2, none⟩ = some (.int .i64 i) := gcell g1 (by simp)
  have c3 : w1.cell? ⟨w.heap.size, 3, none⟩ = some (.int .i64 f) := gcell g1 (by simp)
  have c4 : w1.cell? ⟨w.heap.size, 4, none⟩ = some (.int .i64 k) := gcell g1 (by simp)
  have d0 : w1.cell? ⟨w.heap.size + 1, 0, none⟩ = some (.int .i64 t2) := gcell g1 (by simp)
  have d1 : w1.cell? ⟨w.heap.size + 1, 1, none⟩ = some (.int .i64 b2) := gcell g1 (by simp)
  have d2 : w1.cell? ⟨w.heap.size + 1, 2, none⟩ = some (.int .i64 i2) := gcell g1 (by simp)
  have d3 : w1.cell? ⟨w.heap.size + 1, 3, none⟩ = some (.int .i64 f2) := gcell g1 (by simp)
  have d4 : w1.cell? ⟨w.heap.size + 1, 4, none⟩ = some (.int .i64 k2) := gcell g1 (by simp)
  have hs : w.heap.size + 1 < w1.heap.size := by have := g1.2.2; simp at this; omega
  have hs' : w.heap.size < w1.heap.size := by omega
  have q1 : Grown w w1 := galloc (galloc g1)
  clear g1
  go_wp2_with fail
  refine (rMayC_at _ _ _ _ _ _ _ HM.out).mono ?_; rintro e w2 ⟨rfl, g3⟩
  replace c0 : w2.cell? ⟨w.heap.size, 0, none⟩ = some (.int .i64 t) := gcell g3 ((World.cell?_alloc_lt _ _ _ (by simpa using hs')).trans c0)
  replace c1 : w2.cell? ⟨w.heap.size, 1, none⟩ = some (.int .i64 b) := gcell g3 ((World.cell?_alloc_lt _ _ _ (by simpa using hs')).trans c1)
  replace c2 : w2.cell? ⟨w.heap.size, 2, none⟩ = some (.int .i64 i) := gcell g3 ((World.cell?_alloc_lt _ _ _ (by simpa using hs')).trans c2)
  replace c3 : w2.cell? ⟨w.heap.size, 3, none⟩ = some (.int .i64 f) := gcell g3 ((World.cell?_alloc_lt _ _ _ (by simpa using hs')).trans c3)
  replace c4 : w2.cell? ⟨w.heap.size, 4, none⟩ = some (.int .i64 k) := gcell g3 ((World.cell?_alloc_lt _ _ _ (by simpa using hs')).trans c4)
  clear d0 d1 d2 d3 d4
  have d0 : w2.cell? ⟨w1.heap.size, 0, none⟩ = some (.int .i64 t) := gcell g3 (by simp)
  have d1 : w2.cell? ⟨w1.heap.size, 1, none⟩ = some (.int .i64 b) := gcell g3 (by simp)
  have d2 : w2.cell? ⟨w1.heap.size, 2, none⟩ = some (.int .i64 i2) := gcell g3 (by simp)
  have d3 : w2.cell? ⟨w1.heap.size, 3, none⟩ = some (.int .i64 f2) := gcell g3 (by simp)
  have d4 : w2.cell? ⟨w1.heap.size, 4, none⟩ = some (.int .i64 k) := gcell g3 (by simp)
  replace q1 := gtr q1 (galloc g3)
  clear g3 hs hs'
  go_wp2_with fail
  refine (rMayC_at _ _ _ _ _ _ _ HM2.out).mono ?_; rintro e w3 ⟨rfl, g3⟩
  replace q1 := gtr q1 g3
  have C0 : ∀ g : GrW w3, g.w.cell? ⟨w.heap.size, 0, none⟩ = some (.int .i64 t) := GrW.cell (gcell g3 c0)
  have C1 : ∀ g : GrW w3, g.w.cell? ⟨w.heap.size, 1, none⟩ = some (.int .i64 b) := GrW.cell (gcell g3 c1)
  have C2 : ∀ g : GrW w3, g.w.cell? ⟨w.heap.size, 2, none⟩ = some (.int .i64 i) := GrW.cell (gcell g3 c2)
  have C3 : ∀ g : GrW w3, g.w.cell? ⟨w.heap.size, 3, none⟩ = some (.int .i64 f) := GrW.cell (gcell g3 c3)
  have C4 : ∀ g : GrW w3, g.w.cell? ⟨w.heap.size, 4, none⟩ = some (.int .i64 k) := GrW.cell (gcell g3 c4)
  have D0 : ∀ g : GrW w3, g.w.cell? ⟨w1.heap.size, 0, none⟩ = some (.int .i64 t) := GrW.cell (gcell g3 d0)
  have D1 : ∀ g : GrW w3, g.w.cell? ⟨w1.heap.size, 1, none⟩ = some (.int .i64 b) := GrW.cell (gcell g3 d1)
  have D2 : ∀ g : GrW w3, g.w.cell? ⟨w1.heap.size, 2, none⟩ = some (.int .i64 i2) := GrW.cell (gcell g3 d2)
  have D3 : ∀ g : GrW w3, g.w.cell? ⟨w1.heap.size, 3, none⟩ = some (.int .i64 f2) := GrW.cell (gcell g3 d3)
  have D4 : ∀ g : GrW w3, g.w.cell? ⟨w1.heap.size, 4, none⟩ = some (.int .i64 k) := GrW.cell (gcell g3 d4)
  clear g3 c0 c1 c2 c3 c4 d0 d1 d2 d3 d4
  go_wp2_with fail
  refine wp_region_grow (by kernel_rfl) (by kernel_rfl) ?_
  repeat (go_big_quiet_step ((first | (go_at_call 13; with_reducible exact grcall (Ops_at _ _ _ _ _ _ _ HP.out)) | (go_at_call 13; with_reducible exact grcall (Ops_at _ _ _ _ _ _ _ HP2.out)) | (go_at_call 11; with_reducible exact grcall (Nodes_at _ _ _ _ _ _ _ HQ.out)) | (go_at_call 11; with_reducible exact grcall (Nodes_at _ _ _ _ _ _ _ HQ2.out)))))
  refine wpQuiet_nil ?_
  rintro _ ⟨⟨w4, g4⟩, rfl⟩
  have g4' := gtr q1 g4
  go_wp2
  go_ret
  exact ⟨rfl, g4'⟩

theorem law_ConfFree (t b i f k t2 b2 i2 f2 k2 : Int) (w : World) (h0 : -9223372036854775808 ≤ t) (h1 : t ≤ 9223372036854775807) (h2 : -9223372036854775808 ≤ b) (h3 : b ≤ 9223372036854775807) (h4 : -9223372036854775808 ≤ i) (h5 : i ≤ 9223372036854775807)
    (h6 : -9223372036854775808 ≤ f) (h7 : f ≤ 9223372036854775807) (h8 : -9223372036854775808 ≤ k) (h9 : k ≤ 9223372036854775807)
    (h10 : -9223372036854775808 ≤ t2) (h11 : t2 ≤ 9223372036854775807) (h12 : -9223372036854775808 ≤ b2) (h13 : b2 ≤ 9223372036854775807) (h14 : -9223372036854775808 ≤ i2) (h15 : i2 ≤ 9223372036854775807)
    (h16 : -9223372036854775808 ≤ f2) (h17 : f2 ≤ 9223372036854775807) (h18 : -9223372036854775808 ≤ k2) (h19 : k2 ≤ 9223372036854775807) :
    Calls Try.prog 7 #[.agg #[.int .i64 t, .int .i64 b, .int .i64 i, .int .i64 f, .int .i64 k], .agg #[.int .i64 t2, .int .i64 b2, .int .i64 i2, .int .i64 f2, .int .i64 k2]] w fun e w' => e = .returned (.bool true) ∧ Grown w w' := by
  cases hk : zOk t b i f k
  · exact ConfFree_no t b i f k t2 b2 i2 f2 k2 w hk
  · cases hk2 : zOk t b i2 f2 k
    · exact ConfFree_one t b i f k t2 b2 i2 f2 k2 w hk hk2
    · exact ConfFree_both t b i f k t2 b2 i2 f2 k2 w hk hk2
end Go.Proofs.Ytjekofjmhaehiaa
