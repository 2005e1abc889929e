/- The laws of package layout (corrielaw05), as functions of the program: each call returns true, and leaves all memory that was there as it was. -/
import Derived.Test.YtigkfekkpegcjaaLayRef
namespace Go.Proofs.Ytigkfekkpegcjaa
open Go.ChangeShapes Go.WideShapes Go.ChangeAt Go.RowKit
set_option linter.unusedVariables false

/-- A callee's contract, met in a world that is a variable. -/
theorem grcall0 {P : Program} {f : FuncId} {args : Array Value} {W : World} {v : Value}
    (h : Calls P f args W fun e w' => e = .returned v ∧ Grown W w') : Calls P f args W fun e w'' => e = .returned v ∧ ∃ k : GrW W, w'' = k.w :=
  h.mono fun _ w' ⟨he, hm⟩ => ⟨he, ⟨w', hm⟩, rfl⟩

theorem small_any (w : World) : Calls Try.prog 28 #[] w fun e w' => e = .returned (.agg #[.int .i64 2, .int .i64 4, .int .i64 2, .int .i64 5, .int .i64 3]) ∧ Grown w w' := by
  go_enter Try.func28, Try.ntmps28
  go_wp2
  exact bodyPost_ret (v := .agg #[.int .i64 2, .int .i64 4, .int .i64 2, .int .i64 5, .int .i64 3]) (by simp [results, Try.results28, go_sem]) rfl ⟨rfl, by go_grown⟩

set_option maxHeartbeats 1000000 in
theorem awake_any (w : World) : Calls Try.prog 8 #[] w fun e w' => e = .returned (.bool true) ∧ Grown w w' := by
  go_enter Try.func8, Try.ntmps8
  go_wp2_with fail
  refine (small_any _).mono ?_; rintro e w1 ⟨rfl, g1⟩
  go_wp2_with fail
  refine (Node_at _ _ _ _ _ 1 0 11 _ (by decide +kernel)).mono ?_; rintro e w2 ⟨rfl, g2⟩
  have c0 : ∀ g : GrW w2, g.w.cell? ⟨w1.heap.size, 0, none⟩ = some (.int .i64 2) := GrW.cell (gcell g2 (by simp))
  have c1 : ∀ g : GrW w2, g.w.cell? ⟨w1.heap.size, 1, none⟩ = some (.int .i64 4) := GrW.cell (gcell g2 (by simp))
  have c2 : ∀ g : GrW w2, g.w.cell? ⟨w1.heap.size, 2, none⟩ = some (.int .i64 2) := GrW.cell (gcell g2 (by simp))
  have c3 : ∀ g : GrW w2, g.w.cell? ⟨w1.heap.size, 3, none⟩ = some (.int .i64 5) := GrW.cell (gcell g2 (by simp))
  have c4 : ∀ g : GrW w2, g.w.cell? ⟨w1.heap.size, 4, none⟩ = some (.int .i64 3) := GrW.cell (gcell g2 (by simp))
  have d0 := c0 ⟨w2, Grown.refl _⟩
  have d1 := c1 ⟨w2, Grown.refl _⟩
  have d2 := c2 ⟨w2, Grown.refl _⟩
  have d3 := c3 ⟨w2, Grown.refl _⟩
  have d4 := c4 ⟨w2, Grown.refl _⟩
  have q := gtr g1 (galloc g2); clear g1 g2
  go_wp2_with fail
  clear d0 d1 d2 d3 d4
  refine (grcall0 (Word_at _ _ _ _ _ 0 17 _ (by decide +kernel))).mono ?_; rintro e _ ⟨rfl, g3, rfl⟩
  go_wp2_with fail
  refine (grcall (Ann_at _ _ _ _ _ 1 (24) _ (by decide +kernel))).mono ?_; rintro e _ ⟨rfl, g4, rfl⟩
  go_wp2_with fail
  refine (grcall (Len_at _ _ _ _ _  (25) _ (by decide +kernel))).mono ?_; rintro e _ ⟨rfl, g4, rfl⟩
  go_wp2_with fail
  refine (grcall (Head_at _ _ _ _ _ 3 (4) _ (by decide +kernel))).mono ?_; rintro e _ ⟨rfl, g4, rfl⟩
  go_wp2_with fail
  refine (grcall (Op_at _ _ _ _ _ 1 2 (5) _ (by decide +kernel))).mono ?_; rintro e _ ⟨rfl, g4, rfl⟩
  go_wp2_with fail
  refine (grcall (Thread_at _ _ _ _ _ 5 (1) _ (by decide +kernel))).mono ?_; rintro e _ ⟨rfl, g4, rfl⟩
  go_wp2_with fail
  refine (grcall (Next_at _ _ _ _ _ 17 (-1) _ (by decide +kernel))).mono ?_; rintro e _ ⟨rfl, g4, rfl⟩
  go_wp2_with fail
  go_ret
  exact ⟨rfl, gtr q g4.gr⟩

set_option maxHeartbeats 2000000 in
theorem law_LayoutCells (t b i f k n : Int) (w : World) (h0 : -9223372036854775808 ≤ t) (h1 : t ≤ 9223372036854775807) (h2 : -9223372036854775808 ≤ b) (h3 : b ≤ 9223372036854775807) (h4 : -9223372036854775808 ≤ i) (h5 : i ≤ 9223372036854775807)
    (h6 : -9223372036854775808 ≤ f) (h7 : f ≤ 9223372036854775807) (h8 : -9223372036854775808 ≤ k) (h9 : k ≤ 9223372036854775807) (n0 : -9223372036854775808 ≤ n) (n1 : n ≤ 9223372036854775807) :
    Calls Try.prog 3 #[.agg #[.int .i64 t, .int .i64 b, .int .i64 i, .int .i64 f, .int .i64 k], .int .i64 n] w fun e w' => e = .returned (.bool true) ∧ Grown w w' := by
  clear h0 h1 h2 h3 h4 h5 h6 h7 h8 h9
  clear n0 n1
  obtain ⟨x1, hx1⟩ : ∃ v, vNext t b i f k n = v := ⟨_, rfl⟩
  have Hx1 := Lib.hid hx1; clear hx1
  obtain ⟨x2, hx2⟩ : ∃ v, vWord t b i f k n = v := ⟨_, rfl⟩
  have Hx2 := Lib.hid hx2; clear hx2
  obtain ⟨x3, hx3⟩ : ∃ v, vAnn t b i f k n = v := ⟨_, rfl⟩
  have Hx3 := Lib.hid hx3; clear hx3
  obtain ⟨x4, hx4⟩ : ∃ v, vLen t b i f k = v := ⟨_, rfl⟩
  have Hx4 := Lib.hid hx4; clear hx4
  go_enter Try.func3, Try.ntmps3
  go_wp2_with fail
  refine (awake_any _).mono ?_; rintro e w1 ⟨rfl, g1⟩
  have c0 : ∀ g : GrW w1, g.w.cell? ⟨w.heap.size, 0, none⟩ = some (.int .i64 t) := GrW.cell (gcell g1 (by simp))
  have c1 : ∀ g : GrW w1, g.w.cell? ⟨w.heap.size, 1, none⟩ = some (.int .i64 b) := GrW.cell (gcell g1 (by simp))
  have c2 : ∀ g : GrW w1, g.w.cell? ⟨w.heap.size, 2, none⟩ = some (.int .i64 i) := GrW.cell (gcell g1 (by simp))
  have c3 : ∀ g : GrW w1, g.w.cell? ⟨w.heap.size, 3, none⟩ = some (.int .i64 f) := GrW.cell (gcell g1 (by simp))
  have c4 : ∀ g : GrW w1, g.w.cell? ⟨w.heap.size, 4, none⟩ = some (.int .i64 k) := GrW.cell (gcell g1 (by simp))
  have g1' := galloc g1
  go_wp2_with fail
  refine wp_region_grow (by kernel_rfl) (by kernel_rfl) ?_
  repeat (go_big_quiet_step ((first | (go_at_call 9; exact grcall (Next_at _ _ _ _ _ _ _ _ Hx1.out)) | (go_at_call 10; exact grcall (rNext_at _ _ _ _ _ _ _ _ Hx1.out)) | (go_at_call 11; exact grcall (Word_at _ _ _ _ _ _ _ _ Hx2.out)) | (go_at_call 12; exact grcall (rWord_at _ _ _ _ _ _ _ _ Hx2.out)) | (go_at_call 13; exact grcall (Ann_at _ _ _ _ _ _ _ _ Hx3.out)) | (go_at_call 14; exact grcall (rAnn_at _ _ _ _ _ _ _ _ Hx3.out)) | (go_at_call 15; exact grcall (Len_at _ _ _ _ _ _ _ Hx4.out)) | (go_at_call 16; exact grcall (rLen_at _ _ _ _ _ _ _ Hx4.out)))))
  refine wpQuiet_nil ?_
  rintro _ ⟨⟨w2, g2⟩, rfl⟩
  have g2' := gtr g1' g2
  go_wp2
  go_ret
  exact ⟨rfl, g2'⟩

set_option maxHeartbeats 2000000 in
theorem law_LayoutThings (t b i f k h n : Int) (w : World) (h0 : -9223372036854775808 ≤ t) (h1 : t ≤ 9223372036854775807) (h2 : -9223372036854775808 ≤ b) (h3 : b ≤ 9223372036854775807) (h4 : -9223372036854775808 ≤ i) (h5 : i ≤ 9223372036854775807)
    (h6 : -9223372036854775808 ≤ f) (h7 : f ≤ 9223372036854775807) (h8 : -9223372036854775808 ≤ k) (h9 : k ≤ 9223372036854775807) (m0 : -9223372036854775808 ≤ h) (m1 : h ≤ 9223372036854775807) (n0 : -9223372036854775808 ≤ n) (n1 : n ≤ 9223372036854775807) :
    Calls Try.prog 4 #[.agg #[.int .i64 t, .int .i64 b, .int .i64 i, .int .i64 f, .int .i64 k], .int .i64 h, .int .i64 n] w fun e w' => e = .returned (.bool true) ∧ Grown w w' := by
  clear h0 h1 h2 h3 h4 h5 h6 h7 h8 h9
  clear m0 m1 n0 n1
  obtain ⟨x1, hx1⟩ : ∃ v, vHead t b i f k n = v := ⟨_, rfl⟩
  have Hx1 := Lib.hid hx1; clear hx1
  obtain ⟨x2, hx2⟩ : ∃ v, vNode t b i f k h n = v := ⟨_, rfl⟩
  have Hx2 := Lib.hid hx2; clear hx2
  obtain ⟨x3, hx3⟩ : ∃ v, vOp t b i f k h n = v := ⟨_, rfl⟩
  have Hx3 := Lib.hid hx3; clear hx3
  obtain ⟨x4, hx4⟩ : ∃ v, vThread t b i f k n = v := ⟨_, rfl⟩
  have Hx4 := Lib.hid hx4; clear hx4
  go_enter Try.func4, Try.ntmps4
  go_wp2_with fail
  refine (awake_any _).mono ?_; rintro e w1 ⟨rfl, g1⟩
  have c0 : ∀ g : GrW w1, g.w.cell? ⟨w.heap.size, 0, none⟩ = some (.int .i64 t) := GrW.cell (gcell g1 (by simp))
  have c1 : ∀ g : GrW w1, g.w.cell? ⟨w.heap.size, 1, none⟩ = some (.int .i64 b) := GrW.cell (gcell g1 (by simp))
  have c2 : ∀ g : GrW w1, g.w.cell? ⟨w.heap.size, 2, none⟩ = some (.int .i64 i) := GrW.cell (gcell g1 (by simp))
  have c3 : ∀ g : GrW w1, g.w.cell? ⟨w.heap.size, 3, none⟩ = some (.int .i64 f) := GrW.cell (gcell g1 (by simp))
  have c4 : ∀ g : GrW w1, g.w.cell? ⟨w.heap.size, 4, none⟩ = some (.int .i64 k) := GrW.cell (gcell g1 (by simp))
  have g1' := galloc g1
  go_wp2_with fail
  refine wp_region_grow (by kernel_rfl) (by kernel_rfl) ?_
  repeat (go_big_quiet_step ((first | (go_at_call 17; exact grcall (Head_at _ _ _ _ _ _ _ _ Hx1.out)) | (go_at_call 18; exact grcall (rHead_at _ _ _ _ _ _ _ _ Hx1.out)) | (go_at_call 19; exact grcall (Node_at _ _ _ _ _ _ _ _ _ Hx2.out)) | (go_at_call 20; exact grcall (rNode_at _ _ _ _ _ _ _ _ _ Hx2.out)) | (go_at_call 21; exact grcall (Op_at _ _ _ _ _ _ _ _ _ Hx3.out)) | (go_at_call 22; exact grcall (rOp_at _ _ _ _ _ _ _ _ _ Hx3.out)) | (go_at_call 23; exact grcall (Thread_at _ _ _ _ _ _ _ _ Hx4.out)) | (go_at_call 24; exact grcall (rThread_at _ _ _ _ _ _ _ _ Hx4.out)))))
  refine wpQuiet_nil ?_
  rintro _ ⟨⟨w2, g2⟩, rfl⟩
  have g2' := gtr g1' g2
  go_wp2
  go_ret
  exact ⟨rfl, g2'⟩

set_option maxHeartbeats 2000000 in
theorem LayoutOwn_1 (t b i f k a N O L q : Int) (w : World) (a0 : 0 ≤ a) (a1 : a ≤ 65535) (hk : (if zOk t b i f k = true then 0 else 1) = (0 : Int)) (hN : zNodes t b i f k = N) (hO : zOps t b i f k = O) (hL : vLen t b i f k = L)
    (L0 : 1 ≤ L) (L1 : L ≤ 99999) (N0 : 0 ≤ N) (N1 : N ≤ 99999) (O0 : 0 ≤ O) (O1 : O ≤ 99999) (hq : a % L = q) (q0 : 0 ≤ q) (q1 : q ≤ 99999) (h1 : vNext t b i f k q = q) (h2 : vWord t b i f k (q - N) = -1) (h3 : vAnn t b i f k (q - N - O) = -1) :
    Calls Try.prog 5 #[.agg #[.int .i64 t, .int .i64 b, .int .i64 i, .int .i64 f, .int .i64 k], .int .u16 a] w fun e w' => e = .returned (.bool true) ∧ Grown w w' := by
  have e1 : ((-1 : Int) == q) = false := by simpa using (by omega : ¬ -1 = q)
  have HK := Lib.hid hk; have HN := Lib.hid hN; have HO := Lib.hid hO; have HL := Lib.hid hL; have H1 := Lib.hid h1; have H2 := Lib.hid h2; have H3 := Lib.hid h3
  clear hk hN hO hL h1 h2 h3
  go_enter Try.func5, Try.ntmps5
  go_wp2_with fail
  refine (awake_any _).mono ?_; rintro e w1 ⟨rfl, g1⟩
  have d0 : ∀ g : GrW w1, g.w.cell? ⟨w.heap.size, 0, none⟩ = some (.int .i64 t) := GrW.cell (gcell g1 (by simp))
  have d1 : ∀ g : GrW w1, g.w.cell? ⟨w.heap.size, 1, none⟩ = some (.int .i64 b) := GrW.cell (gcell g1 (by simp))
  have d2 : ∀ g : GrW w1, g.w.cell? ⟨w.heap.size, 2, none⟩ = some (.int .i64 i) := GrW.cell (gcell g1 (by simp))
  have d3 : ∀ g : GrW w1, g.w.cell? ⟨w.heap.size, 3, none⟩ = some (.int .i64 f) := GrW.cell (gcell g1 (by simp))
  have d4 : ∀ g : GrW w1, g.w.cell? ⟨w.heap.size, 4, none⟩ = some (.int .i64 k) := GrW.cell (gcell g1 (by simp))
  have c0 := d0 ⟨w1, Grown.refl _⟩
  have c1 := d1 ⟨w1, Grown.refl _⟩
  have c2 := d2 ⟨w1, Grown.refl _⟩
  have c3 := d3 ⟨w1, Grown.refl _⟩
  have c4 := d4 ⟨w1, Grown.refl _⟩
  have p1 := galloc g1
  clear g1
  go_wp2_with fail
  clear c0 c1 c2 c3 c4
  refine (grcall0 (rMayC_at _ _ _ _ _ _ _ HK.out)).mono ?_; rintro e _ ⟨rfl, g, rfl⟩
  go_wp2_with fail
  refine (grcall (rLen_at _ _ _ _ _ _ _ HL.out)).mono ?_; rintro e _ ⟨rfl, g, rfl⟩
  go_wp2_with fail
  refine (grcall (rNodes_at _ _ _ _ _ _ _ HN.out)).mono ?_; rintro e _ ⟨rfl, g, rfl⟩
  go_wp2_with fail
  refine (grcall (rOps_at _ _ _ _ _ _ _ HO.out)).mono ?_; rintro e _ ⟨rfl, g, rfl⟩
  go_wp2_with fail
  refine (grcall (Next_at _ _ _ _ _ _ _ _ H1.out)).mono ?_; rintro e _ ⟨rfl, g, rfl⟩
  go_wp2_with fail
  refine (grcall (Word_at _ _ _ _ _ _ _ _ H2.out)).mono ?_; rintro e _ ⟨rfl, g, rfl⟩
  go_wp2_with fail
  refine (grcall (Ann_at _ _ _ _ _ _ _ _ H3.out)).mono ?_; rintro e _ ⟨rfl, g, rfl⟩
  go_wp2
  go_ret
  exact ⟨rfl, gtr p1 g.gr⟩

set_option maxHeartbeats 2000000 in
theorem LayoutOwn_2 (t b i f k a N O L q : Int) (w : World) (a0 : 0 ≤ a) (a1 : a ≤ 65535) (hk : (if zOk t b i f k = true then 0 else 1) = (0 : Int)) (hN : zNodes t b i f k = N) (hO : zOps t b i f k = O) (hL : vLen t b i f k = L)
    (L0 : 1 ≤ L) (L1 : L ≤ 99999) (N0 : 0 ≤ N) (N1 : N ≤ 99999) (O0 : 0 ≤ O) (O1 : O ≤ 99999) (hq : a % L = q) (q0 : 0 ≤ q) (q1 : q ≤ 99999) (h1 : vNext t b i f k q = -1) (h2 : vWord t b i f k (q - N) = q) (h3 : vAnn t b i f k (q - N - O) = -1) :
    Calls Try.prog 5 #[.agg #[.int .i64 t, .int .i64 b, .int .i64 i, .int .i64 f, .int .i64 k], .int .u16 a] w fun e w' => e = .returned (.bool true) ∧ Grown w w' := by
  have e1 : ((-1 : Int) == q) = false := by simpa using (by omega : ¬ -1 = q)
  have HK := Lib.hid hk; have HN := Lib.hid hN; have HO := Lib.hid hO; have HL := Lib.hid hL; have H1 := Lib.hid h1; have H2 := Lib.hid h2; have H3 := Lib.hid h3
  clear hk hN hO hL h1 h2 h3
  go_enter Try.func5, Try.ntmps5
  go_wp2_with fail
  refine (awake_any _).mono ?_; rintro e w1 ⟨rfl, g1⟩
  have d0 : ∀ g : GrW w1, g.w.cell? ⟨w.heap.size, 0, none⟩ = some (.int .i64 t) := GrW.cell (gcell g1 (by simp))
  have d1 : ∀ g : GrW w1, g.w.cell? ⟨w.heap.size, 1, none⟩ = some (.int .i64 b) := GrW.cell (gcell g1 (by simp))
  have d2 : ∀ g : GrW w1, g.w.cell? ⟨w.heap.size, 2, none⟩ = some (.int .i64 i) := GrW.cell (gcell g1 (by simp))
  have d3 : ∀ g : GrW w1, g.w.cell? ⟨w.heap.size, 3, none⟩ = some (.int .i64 f) := GrW.cell (gcell g1 (by simp))
  have d4 : ∀ g : GrW w1, g.w.cell? ⟨w.heap.size, 4, none⟩ = some (.int .i64 k) := GrW.cell (gcell g1 (by simp))
  have c0 := d0 ⟨w1, Grown.refl _⟩
  have c1 := d1 ⟨w1, Grown.refl _⟩
  have c2 := d2 ⟨w1, Grown.refl _⟩
  have c3 := d3 ⟨w1, Grown.refl _⟩
  have c4 := d4 ⟨w1, Grown.refl _⟩
  have p1 := galloc g1
  clear g1
  go_wp2_with fail
  clear c0 c1 c2 c3 c4
  refine (grcall0 (rMayC_at _ _ _ _ _ _ _ HK.out)).mono ?_; rintro e _ ⟨rfl, g, rfl⟩
  go_wp2_with fail
  refine (grcall (rLen_at _ _ _ _ _ _ _ HL.out)).mono ?_; rintro e _ ⟨rfl, g, rfl⟩
  go_wp2_with fail
  refine (grcall (rNodes_at _ _ _ _ _ _ _ HN.out)).mono ?_; rintro e _ ⟨rfl, g, rfl⟩
  go_wp2_with fail
  refine (grcall (rOps_at _ _ _ _ _ _ _ HO.out)).mono ?_; rintro e _ ⟨rfl, g, rfl⟩
  go_wp2_with fail
  refine (grcall (Next_at _ _ _ _ _ _ _ _ H1.out)).mono ?_; rintro e _ ⟨rfl, g, rfl⟩
  go_wp2_with fail
  refine (grcall (Word_at _ _ _ _ _ _ _ _ H2.out)).mono ?_; rintro e _ ⟨rfl, g, rfl⟩
  go_wp2_with fail
  refine (grcall (Ann_at _ _ _ _ _ _ _ _ H3.out)).mono ?_; rintro e _ ⟨rfl, g, rfl⟩
  go_wp2
  go_ret
  exact ⟨rfl, gtr p1 g.gr⟩

set_option maxHeartbeats 2000000 in
theorem LayoutOwn_3 (t b i f k a N O L q : Int) (w : World) (a0 : 0 ≤ a) (a1 : a ≤ 65535) (hk : (if zOk t b i f k = true then 0 else 1) = (0 : Int)) (hN : zNodes t b i f k = N) (hO : zOps t b i f k = O) (hL : vLen t b i f k = L)
    (L0 : 1 ≤ L) (L1 : L ≤ 99999) (N0 : 0 ≤ N) (N1 : N ≤ 99999) (O0 : 0 ≤ O) (O1 : O ≤ 99999) (hq : a % L = q) (q0 : 0 ≤ q) (q1 : q ≤ 99999) (h1 : vNext t b i f k q = -1) (h2 : vWord t b i f k (q - N) = -1) (h3 : vAnn t b i f k (q - N - O) = q) :
    Calls Try.prog 5 #[.agg #[.int .i64 t, .int .i64 b, .int .i64 i, .int .i64 f, .int .i64 k], .int .u16 a] w fun e w' => e = .returned (.bool true) ∧ Grown w w' := by
  have e1 : ((-1 : Int) == q) = false := by simpa using (by omega : ¬ -1 = q)
  have HK := Lib.hid hk; have HN := Lib.hid hN; have HO := Lib.hid hO; have HL := Lib.hid hL; have H1 := Lib.hid h1; have H2 := Lib.hid h2; have H3 := Lib.hid h3
  clear hk hN hO hL h1 h2 h3
  go_enter Try.func5, Try.ntmps5
  go_wp2_with fail
  refine (awake_any _).mono ?_; rintro e w1 ⟨rfl, g1⟩
  have d0 : ∀ g : GrW w1, g.w.cell? ⟨w.heap.size, 0, none⟩ = some (.int .i64 t) := GrW.cell (gcell g1 (by simp))
  have d1 : ∀ g : GrW w1, g.w.cell? ⟨w.heap.size, 1, none⟩ = some (.int .i64 b) := GrW.cell (gcell g1 (by simp))
  have d2 : ∀ g : GrW w1, g.w.cell? ⟨w.heap.size, 2, none⟩ = some (.int .i64 i) := GrW.cell (gcell g1 (by simp))
  have d3 : ∀ g : GrW w1, g.w.cell? ⟨w.heap.size, 3, none⟩ = some (.int .i64 f) := GrW.cell (gcell g1 (by simp))
  have d4 : ∀ g : GrW w1, g.w.cell? ⟨w.heap.size, 4, none⟩ = some (.int .i64 k) := GrW.cell (gcell g1 (by simp))
  have c0 := d0 ⟨w1, Grown.refl _⟩
  have c1 := d1 ⟨w1, Grown.refl _⟩
  have c2 := d2 ⟨w1, Grown.refl _⟩
  have c3 := d3 ⟨w1, Grown.refl _⟩
  have c4 := d4 ⟨w1, Grown.refl _⟩
  have p1 := galloc g1
  clear g1
  go_wp2_with fail
  clear c0 c1 c2 c3 c4
  refine (grcall0 (rMayC_at _ _ _ _ _ _ _ HK.out)).mono ?_; rintro e _ ⟨rfl, g, rfl⟩
  go_wp2_with fail
  refine (grcall (rLen_at _ _ _ _ _ _ _ HL.out)).mono ?_; rintro e _ ⟨rfl, g, rfl⟩
  go_wp2_with fail
  refine (grcall (rNodes_at _ _ _ _ _ _ _ HN.out)).mono ?_; rintro e _ ⟨rfl, g, rfl⟩
  go_wp2_with fail
  refine (grcall (rOps_at _ _ _ _ _ _ _ HO.out)).mono ?_; rintro e _ ⟨rfl, g, rfl⟩
  go_wp2_with fail
  refine (grcall (Next_at _ _ _ _ _ _ _ _ H1.out)).mono ?_; rintro e _ ⟨rfl, g, rfl⟩
  go_wp2_with fail
  refine (grcall (Word_at _ _ _ _ _ _ _ _ H2.out)).mono ?_; rintro e _ ⟨rfl, g, rfl⟩
  go_wp2_with fail
  refine (grcall (Ann_at _ _ _ _ _ _ _ _ H3.out)).mono ?_; rintro e _ ⟨rfl, g, rfl⟩
  go_wp2
  go_ret
  exact ⟨rfl, gtr p1 g.gr⟩

set_option maxHeartbeats 2000000 in
theorem law_LayoutOwn (t b i f k a : Int) (w : World) (h0 : -9223372036854775808 ≤ t) (h1 : t ≤ 9223372036854775807) (h2 : -9223372036854775808 ≤ b) (h3 : b ≤ 9223372036854775807) (h4 : -9223372036854775808 ≤ i) (h5 : i ≤ 9223372036854775807)
    (h6 : -9223372036854775808 ≤ f) (h7 : f ≤ 9223372036854775807) (h8 : -9223372036854775808 ≤ k) (h9 : k ≤ 9223372036854775807) (a0 : 0 ≤ a) (a1 : a ≤ 65535) :
    Calls Try.prog 5 #[.agg #[.int .i64 t, .int .i64 b, .int .i64 i, .int .i64 f, .int .i64 k], .int .u16 a] w fun e w' => e = .returned (.bool true) ∧ Grown w w' := by
  clear h0 h1 h2 h3 h4 h5 h6 h7 h8 h9
  by_cases hk : zOk t b i f k = true
  · have hb := z_bd hk
    obtain ⟨⟨t1, t2⟩, ⟨b1, b2⟩, ⟨k1, k2⟩, ⟨p1, p2⟩, hO, hN⟩ := hb
    have hL : vLen t b i f k = zNodes t b i f k + zOps t b i f k + t := if_pos hk
    obtain ⟨N, hN'⟩ : ∃ v, zNodes t b i f k = v := ⟨_, rfl⟩
    obtain ⟨O, hO'⟩ : ∃ v, zOps t b i f k = v := ⟨_, rfl⟩
    have hk' : (if zOk t b i f k = true then 0 else 1) = (0 : Int) := if_pos hk
    obtain ⟨L, hL'⟩ : ∃ v, vLen t b i f k = v := ⟨_, rfl⟩
    obtain ⟨q, hq⟩ : ∃ v, a % L = v := ⟨_, rfl⟩
    have l1 : L = N + O + t := by omega
    have n1 : 0 ≤ N ∧ N ≤ 4161 := by omega
    have o1 : 0 ≤ O ∧ O ≤ 2048 := by omega
    have q0 : 0 ≤ q := by rw [← hq]; exact Int.emod_nonneg _ (by omega)
    have q1 : q < L := by rw [← hq]; exact Int.emod_lt_of_pos _ (by omega)
    have s1 : vNext t b i f k q = if q < N then q else -1 := by
      unfold vNext; rw [hN']
      by_cases h : q < N
      · rw [if_pos ⟨hk, q0, h⟩, if_pos h]
      · rw [if_neg (fun x => h x.2.2), if_neg h]
    have s2 : vWord t b i f k (q - N) = if N ≤ q ∧ q < N + O then q else -1 := by
      unfold vWord; rw [hN', hO']
      by_cases h : N ≤ q ∧ q < N + O
      · rw [if_pos ⟨hk, by omega, by omega⟩, if_pos h]; omega
      · rw [if_neg (fun x => h (by omega)), if_neg h]
    have s3 : vAnn t b i f k (q - N - O) = if N + O ≤ q then q else -1 := by
      unfold vAnn; rw [hN', hO']
      by_cases h : N + O ≤ q
      · rw [if_pos ⟨hk, by omega, by omega⟩, if_pos h]; omega
      · rw [if_neg (fun x => h (by omega)), if_neg h]
    by_cases c1 : q < N
    · exact LayoutOwn_1 t b i f k a N O L q w a0 a1 hk' hN' hO' hL' (by omega) (by omega) n1.1 (by omega) o1.1 (by omega) hq q0 (by omega) (by rw [s1, if_pos c1]) (by rw [s2, if_neg (by omega)]) (by rw [s3, if_neg (by omega)])
    by_cases c2 : q < N + O
    · exact LayoutOwn_2 t b i f k a N O L q w a0 a1 hk' hN' hO' hL' (by omega) (by omega) n1.1 (by omega) o1.1 (by omega) hq q0 (by omega) (by rw [s1, if_neg c1]) (by rw [s2, if_pos (by omega)]) (by rw [s3, if_neg (by omega)])
    · exact LayoutOwn_3 t b i f k a N O L q w a0 a1 hk' hN' hO' hL' (by omega) (by omega) n1.1 (by omega) o1.1 (by omega) hq q0 (by omega) (by rw [s1, if_neg c1]) (by rw [s2, if_neg (by omega)]) (by rw [s3, if_pos (by omega)])
  · have hk' : (if zOk t b i f k = true then 0 else 1) = (1 : Int) := if_neg hk
    have HK := Lib.hid hk'; clear hk hk'
    go_enter Try.func5, Try.ntmps5
    go_wp2_with fail
    refine (awake_any _).mono ?_; rintro e w1 ⟨rfl, g1⟩
    have c0 : w1.cell? ⟨w.heap.size, 0, none⟩ = some (.int .i64 t) := gcell g1 (by simp)
    have c1 : w1.cell? ⟨w.heap.size, 1, none⟩ = some (.int .i64 b) := gcell g1 (by simp)
    have c2 : w1.cell? ⟨w.heap.size, 2, none⟩ = some (.int .i64 i) := gcell g1 (by simp)
    have c3 : w1.cell? ⟨w.heap.size, 3, none⟩ = some (.int .i64 f) := gcell g1 (by simp)
    have c4 : w1.cell? ⟨w.heap.size, 4, none⟩ = some (.int .i64 k) := gcell g1 (by simp)
    have q1 := galloc g1
    clear g1
    go_wp2_with fail
    refine (rMayC_at _ _ _ _ _ _ _ HK.out).mono ?_; rintro e w2 ⟨rfl, g3⟩
    replace q1 := gtr q1 g3
    clear g3 c0 c1 c2 c3 c4
    go_wp2_with fail
    go_ret
    exact ⟨rfl, q1⟩

set_option maxHeartbeats 2000000 in
theorem law_LayoutLast (t b i f k  : Int) (w : World) (h0 : -9223372036854775808 ≤ t) (h1 : t ≤ 9223372036854775807) (h2 : -9223372036854775808 ≤ b) (h3 : b ≤ 9223372036854775807) (h4 : -9223372036854775808 ≤ i) (h5 : i ≤ 9223372036854775807)
    (h6 : -9223372036854775808 ≤ f) (h7 : f ≤ 9223372036854775807) (h8 : -9223372036854775808 ≤ k) (h9 : k ≤ 9223372036854775807) :
    Calls Try.prog 7 #[.agg #[.int .i64 t, .int .i64 b, .int .i64 i, .int .i64 f, .int .i64 k]] w fun e w' => e = .returned (.bool true) ∧ Grown w w' := by
  clear h0 h1 h2 h3 h4 h5 h6 h7 h8 h9
  by_cases hk : zOk t b i f k = true
  · have hb := z_bd hk
    obtain ⟨⟨t1, t2⟩, ⟨b1, b2⟩, ⟨k1, k2⟩, ⟨p1, p2⟩, hO, hN⟩ := hb
    have hk' : (if zOk t b i f k = true then 0 else 1) = (0 : Int) := if_pos hk
    obtain ⟨p, hp⟩ : ∃ v, t * k = v := ⟨_, rfl⟩
    rw [hp] at p1 p2 hO hN
    have m1 : (t - 1) * (2 * k) = 2 * p - 2 * k := by rw [Int.sub_mul, ← hp, Int.mul_left_comm]; omega
    have m2 : (t - 1) * k = p - k := by rw [Int.sub_mul, hp]; omega
    have s1 : vNode t b i f k (t - 1) (2 * k - 1) = b + 2 * p := by
      unfold vNode; rw [if_pos ⟨hk, by omega, by omega, by omega⟩, m1]; omega
    have s2 : vOp t b i f k (t - 1) (k - 1) = p - 1 := by
      unfold vOp; rw [if_pos ⟨hk, by omega, by omega, by omega⟩, m2]; omega
    have s3 : vAnn t b i f k (t - 1) = b + 3 * p + t := by
      unfold vAnn; rw [if_pos ⟨hk, by omega, by omega⟩, hN, hO]; omega
    have s4 : vLen t b i f k = 1 + b + 3 * p + t := by
      unfold vLen; rw [if_pos hk, hN, hO]; omega
    have s5 : vNode t b i f k (t - 1) (2 * k) = -1 := by
      unfold vNode; rw [if_neg (fun x => by omega)]
    have s6 : vOp t b i f k (t - 1) k = -1 := by
      unfold vOp; rw [if_neg (fun x => by omega)]
    have s7 : vHead t b i f k 0 = 1 := by
      unfold vHead; rw [if_pos ⟨hk, by omega, by omega⟩]; rfl
    have HK := Lib.hid hk'; have HN := Lib.hid hN; have HO := Lib.hid hO; have S1 := Lib.hid s1; have S2 := Lib.hid s2; have S3 := Lib.hid s3; have S4 := Lib.hid s4; have S5 := Lib.hid s5; have S6 := Lib.hid s6; have S7 := Lib.hid s7
    clear hk hk' hN hO s1 s2 s3 s4 s5 s6 s7 m1 m2 hp
    have x1 : 1 + b + 2 * p - 1 = b + 2 * p := by omega
    have x2 : 1 + b + 3 * p + t - 1 = b + 3 * p + t := by omega
    go_enter Try.func7, Try.ntmps7
    go_wp2_with fail
    refine (awake_any _).mono ?_; rintro e w1 ⟨rfl, g1⟩
    have d0 : ∀ g : GrW w1, g.w.cell? ⟨w.heap.size, 0, none⟩ = some (.int .i64 t) := GrW.cell (gcell g1 (by simp))
    have d1 : ∀ g : GrW w1, g.w.cell? ⟨w.heap.size, 1, none⟩ = some (.int .i64 b) := GrW.cell (gcell g1 (by simp))
    have d2 : ∀ g : GrW w1, g.w.cell? ⟨w.heap.size, 2, none⟩ = some (.int .i64 i) := GrW.cell (gcell g1 (by simp))
    have d3 : ∀ g : GrW w1, g.w.cell? ⟨w.heap.size, 3, none⟩ = some (.int .i64 f) := GrW.cell (gcell g1 (by simp))
    have d4 : ∀ g : GrW w1, g.w.cell? ⟨w.heap.size, 4, none⟩ = some (.int .i64 k) := GrW.cell (gcell g1 (by simp))
    have c0 := d0 ⟨w1, Grown.refl _⟩
    have c1 := d1 ⟨w1, Grown.refl _⟩
    have c2 := d2 ⟨w1, Grown.refl _⟩
    have c3 := d3 ⟨w1, Grown.refl _⟩
    have c4 := d4 ⟨w1, Grown.refl _⟩
    have q1 := galloc g1
    clear g1
    go_wp2_with fail
    clear c0 c1 c2 c3 c4
    refine (rMayC_at _ _ _ _ _ _ _ HK.out).mono ?_; rintro e w2 ⟨rfl, g2⟩
    replace d0 := GrW.cell (gcell g2 (d0 ⟨w1, Grown.refl _⟩))
    replace d1 := GrW.cell (gcell g2 (d1 ⟨w1, Grown.refl _⟩))
    replace d2 := GrW.cell (gcell g2 (d2 ⟨w1, Grown.refl _⟩))
    replace d3 := GrW.cell (gcell g2 (d3 ⟨w1, Grown.refl _⟩))
    replace d4 := GrW.cell (gcell g2 (d4 ⟨w1, Grown.refl _⟩))
    replace q1 := gtr q1 g2
    have c0 := d0 ⟨w2, Grown.refl _⟩
    clear g2
    go_wp2_with fail
    clear c0
    refine wp_region_grow (by kernel_rfl) (by kernel_rfl) ?_
    repeat (go_big_quiet_step ((first | (go_at_call 19; with_reducible exact grcall (Node_at _ _ _ _ _ _ _ _ _ S1.out)) | (go_at_call 19; with_reducible exact grcall (Node_at _ _ _ _ _ _ _ _ _ S5.out)) | (go_at_call 21; with_reducible exact grcall (Op_at _ _ _ _ _ _ _ _ _ S2.out)) | (go_at_call 21; with_reducible exact grcall (Op_at _ _ _ _ _ _ _ _ _ S6.out)) | (go_at_call 13; with_reducible exact grcall (Ann_at _ _ _ _ _ _ _ _ S3.out)) | (go_at_call 15; with_reducible exact grcall (Len_at _ _ _ _ _ _ _ S4.out)) | (go_at_call 17; with_reducible exact grcall (Head_at _ _ _ _ _ _ _ _ S7.out)) | (go_at_call 26; with_reducible exact grcall (rNodes_at _ _ _ _ _ _ _ HN.out)) | (go_at_call 27; with_reducible exact grcall (rOps_at _ _ _ _ _ _ _ HO.out)))))
    refine wpQuiet_nil ?_
    rintro _ ⟨⟨w3, g3⟩, rfl⟩
    go_wp2
    go_ret
    exact ⟨rfl, gtr q1 g3⟩
  · have hk' : (if zOk t b i f k = true then 0 else 1) = (1 : Int) := if_neg hk
    have HK := Lib.hid hk'; clear hk hk'
    go_enter Try.func7, Try.ntmps7
    go_wp2_with fail
    refine (awake_any _).mono ?_; rintro e w1 ⟨rfl, g1⟩
    have c0 : w1.cell? ⟨w.heap.size, 0, none⟩ = some (.int .i64 t) := gcell g1 (by simp)
    have c1 : w1.cell? ⟨w.heap.size, 1, none⟩ = some (.int .i64 b) := gcell g1 (by simp)
    have c2 : w1.cell? ⟨w.heap.size, 2, none⟩ = some (.int .i64 i) := gcell g1 (by simp)
    have c3 : w1.cell? ⟨w.heap.size, 3, none⟩ = some (.int .i64 f) := gcell g1 (by simp)
    have c4 : w1.cell? ⟨w.heap.size, 4, none⟩ = some (.int .i64 k) := gcell g1 (by simp)
    have q1 := galloc g1
    clear g1
    go_wp2_with fail
    refine (rMayC_at _ _ _ _ _ _ _ HK.out).mono ?_; rintro e w2 ⟨rfl, g3⟩
    replace q1 := gtr q1 g3
    clear g3 c0 c1 c2 c3 c4
    go_wp2_with fail
    go_ret
    exact ⟨rfl, q1⟩

set_option maxHeartbeats 4000000 in
theorem LayoutApart_1 (t b i f k a0 a1 b0 b1 s n x y : Int) (w : World) (A0 : 0 ≤ a0) (A1 : a0 ≤ 255) (A2 : 0 ≤ a1) (A3 : a1 ≤ 255) (B0 : 0 ≤ b0) (B1 : b0 ≤ 65535) (B2 : 0 ≤ b1) (B3 : b1 ≤ 65535)
    (t1 : 1 ≤ t) (t2 : t ≤ 8) (k1 : 1 ≤ k) (k2 : k ≤ 256) (z1 : 1 ≤ b) (z2 : b ≤ 64) (hk : (if zOk t b i f k = true then 0 else 1) = (0 : Int)) (q1 : a0 % t = s) (q2 : a1 % t = s) (q3 : b0 % k = n) (q4 : b1 % k = n) 
    (h1 : vNode t b i f k s n = x) (h3 : vOp t b i f k s n = y) (h5 : vHead t b i f k (b - 1) = b) (h6 : vThread t b i f k y = s) (hlt : b < x) :
    Calls Try.prog 6 #[.agg #[.int .i64 t, .int .i64 b, .int .i64 i, .int .i64 f, .int .i64 k], .agg #[.int .u8 a0, .int .u8 a1], .agg #[.int .u16 b0, .int .u16 b1]] w fun e w' => e = .returned (.bool true) ∧ Grown w w' := by
  have HK := Lib.hid hk; have H1 := Lib.hid h1; have H3 := Lib.hid h3; have H5 := Lib.hid h5; have H6 := Lib.hid h6
  clear hk h1 h3 h5 h6
  go_enter Try.func6, Try.ntmps6
  go_wp2_with fail
  refine (awake_any _).mono ?_; rintro e w1 ⟨rfl, g1⟩
  have d0 : ∀ g : GrW w1, g.w.cell? ⟨w.heap.size, 0, none⟩ = some (.int .i64 t) := GrW.cell (gcell g1 (by simp [go_sem]))
  have d1 : ∀ g : GrW w1, g.w.cell? ⟨w.heap.size, 1, none⟩ = some (.int .i64 b) := GrW.cell (gcell g1 (by simp [go_sem]))
  have d2 : ∀ g : GrW w1, g.w.cell? ⟨w.heap.size, 2, none⟩ = some (.int .i64 i) := GrW.cell (gcell g1 (by simp [go_sem]))
  have d3 : ∀ g : GrW w1, g.w.cell? ⟨w.heap.size, 3, none⟩ = some (.int .i64 f) := GrW.cell (gcell g1 (by simp [go_sem]))
  have d4 : ∀ g : GrW w1, g.w.cell? ⟨w.heap.size, 4, none⟩ = some (.int .i64 k) := GrW.cell (gcell g1 (by simp [go_sem]))
  have c0 := d0 ⟨w1, Grown.refl _⟩
  have c1 := d1 ⟨w1, Grown.refl _⟩
  have c2 := d2 ⟨w1, Grown.refl _⟩
  have c3 := d3 ⟨w1, Grown.refl _⟩
  have c4 := d4 ⟨w1, Grown.refl _⟩
  have r0 : ∀ g : GrW w1, g.w.cell? ⟨w.heap.size + 1, 0, none⟩ = some (.int .u8 a0) := GrW.cell (gcell g1 (by simp [go_sem]))
  have r1 : ∀ g : GrW w1, g.w.cell? ⟨w.heap.size + 1, 1, none⟩ = some (.int .u8 a1) := GrW.cell (gcell g1 (by simp [go_sem]))
  have r2 : ∀ g : GrW w1, g.w.cell? ⟨w.heap.size + 2, 0, none⟩ = some (.int .u16 b0) := GrW.cell (gcell g1 (by simp [go_sem]))
  have r3 : ∀ g : GrW w1, g.w.cell? ⟨w.heap.size + 2, 1, none⟩ = some (.int .u16 b1) := GrW.cell (gcell g1 (by simp [go_sem]))
  have p1 := galloc (galloc (galloc g1))
  clear g1
  go_wp2_with fail
  clear c0 c1 c2 c3 c4
  refine (grcall0 (rMayC_at _ _ _ _ _ _ _ HK.out)).mono ?_; rintro e _ ⟨rfl, g, rfl⟩
  go_wp2_with fail
  obtain ⟨w2, g2⟩ := g
  have g3 := gtr p1 g2
  replace d0 := GrW.cell (d0 ⟨w2, g2⟩)
  replace d1 := GrW.cell (d1 ⟨w2, g2⟩)
  replace d2 := GrW.cell (d2 ⟨w2, g2⟩)
  replace d3 := GrW.cell (d3 ⟨w2, g2⟩)
  replace d4 := GrW.cell (d4 ⟨w2, g2⟩)
  simp only [q1, q2, q3, q4]
  clear r0 r1 r2 r3 p1 q1 q2 q3 q4
  refine wp_region_grow (by kernel_rfl) (by kernel_rfl) ?_
  repeat (go_big_quiet_step ((first | (go_at_call 19; with_reducible exact grcall (Node_at _ _ _ _ _ _ _ _ _ H1.out)) | (go_at_call 21; with_reducible exact grcall (Op_at _ _ _ _ _ _ _ _ _ H3.out)) | (go_at_call 17; with_reducible exact grcall (Head_at _ _ _ _ _ _ _ _ H5.out)) | (go_at_call 23; with_reducible exact grcall (Thread_at _ _ _ _ _ _ _ _ H6.out)))))
  refine wpQuiet_nil ?_
  rintro _ ⟨⟨w3, g4⟩, rfl⟩
  go_wp2
  go_ret
  exact ⟨rfl, gtr g3 g4⟩

set_option maxHeartbeats 4000000 in
theorem LayoutApart_2 (t b i f k a0 a1 b0 b1 s u n m x y x2 y2 : Int) (w : World) (A0 : 0 ≤ a0) (A1 : a0 ≤ 255) (A2 : 0 ≤ a1) (A3 : a1 ≤ 255) (B0 : 0 ≤ b0) (B1 : b0 ≤ 65535) (B2 : 0 ≤ b1) (B3 : b1 ≤ 65535)
    (t1 : 1 ≤ t) (t2 : t ≤ 8) (k1 : 1 ≤ k) (k2 : k ≤ 256) (z1 : 1 ≤ b) (z2 : b ≤ 64) (hk : (if zOk t b i f k = true then 0 else 1) = (0 : Int)) (q1 : a0 % t = s) (q2 : a1 % t = u) (q3 : b0 % k = n) (q4 : b1 % k = m) (es : (s == u) = false)
    (h1 : vNode t b i f k s n = x) (h2 : vNode t b i f k u m = x2) (ex : (x == x2) = false) (h3 : vOp t b i f k s n = y) (h4 : vOp t b i f k u m = y2) (ey : (y == y2) = false) (h5 : vHead t b i f k (b - 1) = b) (h6 : vThread t b i f k y = s) (hlt : b < x) :
    Calls Try.prog 6 #[.agg #[.int .i64 t, .int .i64 b, .int .i64 i, .int .i64 f, .int .i64 k], .agg #[.int .u8 a0, .int .u8 a1], .agg #[.int .u16 b0, .int .u16 b1]] w fun e w' => e = .returned (.bool true) ∧ Grown w w' := by
  have HK := Lib.hid hk; have H1 := Lib.hid h1; have H3 := Lib.hid h3; have H5 := Lib.hid h5; have H6 := Lib.hid h6
  clear hk h1 h3 h5 h6
  have H2 := Lib.hid h2; have H4 := Lib.hid h4; clear h2 h4
  go_enter Try.func6, Try.ntmps6
  go_wp2_with fail
  refine (awake_any _).mono ?_; rintro e w1 ⟨rfl, g1⟩
  have d0 : ∀ g : GrW w1, g.w.cell? ⟨w.heap.size, 0, none⟩ = some (.int .i64 t) := GrW.cell (gcell g1 (by simp [go_sem]))
  have d1 : ∀ g : GrW w1, g.w.cell? ⟨w.heap.size, 1, none⟩ = some (.int .i64 b) := GrW.cell (gcell g1 (by simp [go_sem]))
  have d2 : ∀ g : GrW w1, g.w.cell? ⟨w.heap.size, 2, none⟩ = some (.int .i64 i) := GrW.cell (gcell g1 (by simp [go_sem]))
  have d3 : ∀ g : GrW w1, g.w.cell? ⟨w.heap.size, 3, none⟩ = some (.int .i64 f) := GrW.cell (gcell g1 (by simp [go_sem]))
  have d4 : ∀ g : GrW w1, g.w.cell? ⟨w.heap.size, 4, none⟩ = some (.int .i64 k) := GrW.cell (gcell g1 (by simp [go_sem]))
  have c0 := d0 ⟨w1, Grown.refl _⟩
  have c1 := d1 ⟨w1, Grown.refl _⟩
  have c2 := d2 ⟨w1, Grown.refl _⟩
  have c3 := d3 ⟨w1, Grown.refl _⟩
  have c4 := d4 ⟨w1, Grown.refl _⟩
  have r0 : ∀ g : GrW w1, g.w.cell? ⟨w.heap.size + 1, 0, none⟩ = some (.int .u8 a0) := GrW.cell (gcell g1 (by simp [go_sem]))
  have r1 : ∀ g : GrW w1, g.w.cell? ⟨w.heap.size + 1, 1, none⟩ = some (.int .u8 a1) := GrW.cell (gcell g1 (by simp [go_sem]))
  have r2 : ∀ g : GrW w1, g.w.cell? ⟨w.heap.size + 2, 0, none⟩ = some (.int .u16 b0) := GrW.cell (gcell g1 (by simp [go_sem]))
  have r3 : ∀ g : GrW w1, g.w.cell? ⟨w.heap.size + 2, 1, none⟩ = some (.int .u16 b1) := GrW.cell (gcell g1 (by simp [go_sem]))
  have p1 := galloc (galloc (galloc g1))
  clear g1
  go_wp2_with fail
  clear c0 c1 c2 c3 c4
  refine (grcall0 (rMayC_at _ _ _ _ _ _ _ HK.out)).mono ?_; rintro e _ ⟨rfl, g, rfl⟩
  go_wp2_with fail
  obtain ⟨w2, g2⟩ := g
  have g3 := gtr p1 g2
  replace d0 := GrW.cell (d0 ⟨w2, g2⟩)
  replace d1 := GrW.cell (d1 ⟨w2, g2⟩)
  replace d2 := GrW.cell (d2 ⟨w2, g2⟩)
  replace d3 := GrW.cell (d3 ⟨w2, g2⟩)
  replace d4 := GrW.cell (d4 ⟨w2, g2⟩)
  simp only [q1, q2, q3, q4]
  clear r0 r1 r2 r3 p1 q1 q2 q3 q4
  refine wp_region_grow (by kernel_rfl) (by kernel_rfl) ?_
  repeat (go_big_quiet_step ((first | (go_at_call 19; with_reducible exact grcall (Node_at _ _ _ _ _ _ _ _ _ H1.out)) | (go_at_call 21; with_reducible exact grcall (Op_at _ _ _ _ _ _ _ _ _ H3.out)) | (go_at_call 19; with_reducible exact grcall (Node_at _ _ _ _ _ _ _ _ _ H2.out)) | (go_at_call 21; with_reducible exact grcall (Op_at _ _ _ _ _ _ _ _ _ H4.out)) | (go_at_call 17; with_reducible exact grcall (Head_at _ _ _ _ _ _ _ _ H5.out)) | (go_at_call 23; with_reducible exact grcall (Thread_at _ _ _ _ _ _ _ _ H6.out)))))
  refine wpQuiet_nil ?_
  rintro _ ⟨⟨w3, g4⟩, rfl⟩
  go_wp2
  go_ret
  exact ⟨rfl, gtr g3 g4⟩

set_option maxHeartbeats 4000000 in
theorem LayoutApart_3 (t b i f k a0 a1 b0 b1 s n m x y x2 y2 : Int) (w : World) (A0 : 0 ≤ a0) (A1 : a0 ≤ 255) (A2 : 0 ≤ a1) (A3 : a1 ≤ 255) (B0 : 0 ≤ b0) (B1 : b0 ≤ 65535) (B2 : 0 ≤ b1) (B3 : b1 ≤ 65535)
    (t1 : 1 ≤ t) (t2 : t ≤ 8) (k1 : 1 ≤ k) (k2 : k ≤ 256) (z1 : 1 ≤ b) (z2 : b ≤ 64) (hk : (if zOk t b i f k = true then 0 else 1) = (0 : Int)) (q1 : a0 % t = s) (q2 : a1 % t = s) (q3 : b0 % k = n) (q4 : b1 % k = m) (en : (n == m) = false)
    (h1 : vNode t b i f k s n = x) (h2 : vNode t b i f k s m = x2) (ex : (x == x2) = false) (h3 : vOp t b i f k s n = y) (h4 : vOp t b i f k s m = y2) (ey : (y == y2) = false) (h5 : vHead t b i f k (b - 1) = b) (h6 : vThread t b i f k y = s) (hlt : b < x) :
    Calls Try.prog 6 #[.agg #[.int .i64 t, .int .i64 b, .int .i64 i, .int .i64 f, .int .i64 k], .agg #[.int .u8 a0, .int .u8 a1], .agg #[.int .u16 b0, .int .u16 b1]] w fun e w' => e = .returned (.bool true) ∧ Grown w w' := by
  have HK := Lib.hid hk; have H1 := Lib.hid h1; have H3 := Lib.hid h3; have H5 := Lib.hid h5; have H6 := Lib.hid h6
  clear hk h1 h3 h5 h6
  have H2 := Lib.hid h2; have H4 := Lib.hid h4; clear h2 h4
  go_enter Try.func6, Try.ntmps6
  go_wp2_with fail
  refine (awake_any _).mono ?_; rintro e w1 ⟨rfl, g1⟩
  have d0 : ∀ g : GrW w1, g.w.cell? ⟨w.heap.size, 0, none⟩ = some (.int .i64 t) := GrW.cell (gcell g1 (by simp [go_sem]))
  have d1 : ∀ g : GrW w1, g.w.cell? ⟨w.heap.size, 1, none⟩ = some (.int .i64 b) := GrW.cell (gcell g1 (by simp [go_sem]))
  have d2 : ∀ g : GrW w1, g.w.cell? ⟨w.heap.size, 2, none⟩ = some (.int .i64 i) := GrW.cell (gcell g1 (by simp [go_sem]))
  have d3 : ∀ g : GrW w1, g.w.cell? ⟨w.heap.size, 3, none⟩ = some (.int .i64 f) := GrW.cell (gcell g1 (by simp [go_sem]))
  have d4 : ∀ g : GrW w1, g.w.cell? ⟨w.heap.size, 4, none⟩ = some (.int .i64 k) := GrW.cell (gcell g1 (by simp [go_sem]))
  have c0 := d0 ⟨w1, Grown.refl _⟩
  have c1 := d1 ⟨w1, Grown.refl _⟩
  have c2 := d2 ⟨w1, Grown.refl _⟩
  have c3 := d3 ⟨w1, Grown.refl _⟩
  have c4 := d4 ⟨w1, Grown.refl _⟩
  have r0 : ∀ g : GrW w1, g.w.cell? ⟨w.heap.size + 1, 0, none⟩ = some (.int .u8 a0) := GrW.cell (gcell g1 (by simp [go_sem]))
  have r1 : ∀ g : GrW w1, g.w.cell? ⟨w.heap.size + 1, 1, none⟩ = some (.int .u8 a1) := GrW.cell (gcell g1 (by simp [go_sem]))
  have r2 : ∀ g : GrW w1, g.w.cell? ⟨w.heap.size + 2, 0, none⟩ = some (.int .u16 b0) := GrW.cell (gcell g1 (by simp [go_sem]))
  have r3 : ∀ g : GrW w1, g.w.cell? ⟨w.heap.size + 2, 1, none⟩ = some (.int .u16 b1) := GrW.cell (gcell g1 (by simp [go_sem]))
  have p1 := galloc (galloc (galloc g1))
  clear g1
  go_wp2_with fail
  clear c0 c1 c2 c3 c4
  refine (grcall0 (rMayC_at _ _ _ _ _ _ _ HK.out)).mono ?_; rintro e _ ⟨rfl, g, rfl⟩
  go_wp2_with fail
  obtain ⟨w2, g2⟩ := g
  have g3 := gtr p1 g2
  replace d0 := GrW.cell (d0 ⟨w2, g2⟩)
  replace d1 := GrW.cell (d1 ⟨w2, g2⟩)
  replace d2 := GrW.cell (d2 ⟨w2, g2⟩)
  replace d3 := GrW.cell (d3 ⟨w2, g2⟩)
  replace d4 := GrW.cell (d4 ⟨w2, g2⟩)
  simp only [q1, q2, q3, q4]
  clear r0 r1 r2 r3 p1 q1 q2 q3 q4
  refine wp_region_grow (by kernel_rfl) (by kernel_rfl) ?_
  repeat (go_big_quiet_step ((first | (go_at_call 19; with_reducible exact grcall (Node_at _ _ _ _ _ _ _ _ _ H1.out)) | (go_at_call 21; with_reducible exact grcall (Op_at _ _ _ _ _ _ _ _ _ H3.out)) | (go_at_call 19; with_reducible exact grcall (Node_at _ _ _ _ _ _ _ _ _ H2.out)) | (go_at_call 21; with_reducible exact grcall (Op_at _ _ _ _ _ _ _ _ _ H4.out)) | (go_at_call 17; with_reducible exact grcall (Head_at _ _ _ _ _ _ _ _ H5.out)) | (go_at_call 23; with_reducible exact grcall (Thread_at _ _ _ _ _ _ _ _ H6.out)))))
  refine wpQuiet_nil ?_
  rintro _ ⟨⟨w3, g4⟩, rfl⟩
  go_wp2
  go_ret
  exact ⟨rfl, gtr g3 g4⟩

theorem div_of {k s n : Int} (h0 : 0 ≤ n) (h1 : n < k) : (s * k + n) / k = s := by
  rw [Int.add_comm, Int.add_mul_ediv_right _ _ (by omega), Int.ediv_eq_zero_of_lt h0 h1, Int.zero_add]
theorem pair_of {k s n u m : Int} (h0 : 0 ≤ n) (h1 : n < k) (h2 : 0 ≤ m) (h3 : m < k) (h : s * k + n = u * k + m) : s = u ∧ n = m := by
  have h4 : s = u := by rw [← div_of (s := s) h0 h1, h, div_of h2 h3]
  subst h4
  exact ⟨rfl, by omega⟩

set_option maxHeartbeats 2000000 in
theorem law_LayoutApart (t b i f k a0 a1 b0 b1 : Int) (w : World) (h0 : -9223372036854775808 ≤ t) (h1 : t ≤ 9223372036854775807) (h2 : -9223372036854775808 ≤ b) (h3 : b ≤ 9223372036854775807) (h4 : -9223372036854775808 ≤ i) (h5 : i ≤ 9223372036854775807)
    (h6 : -9223372036854775808 ≤ f) (h7 : f ≤ 9223372036854775807) (h8 : -9223372036854775808 ≤ k) (h9 : k ≤ 9223372036854775807) (A0 : 0 ≤ a0) (A1 : a0 ≤ 255) (A2 : 0 ≤ a1) (A3 : a1 ≤ 255) (B0 : 0 ≤ b0) (B1 : b0 ≤ 65535) (B2 : 0 ≤ b1) (B3 : b1 ≤ 65535) :
    Calls Try.prog 6 #[.agg #[.int .i64 t, .int .i64 b, .int .i64 i, .int .i64 f, .int .i64 k], .agg #[.int .u8 a0, .int .u8 a1], .agg #[.int .u16 b0, .int .u16 b1]] w fun e w' => e = .returned (.bool true) ∧ Grown w w' := by
  clear h0 h1 h2 h3 h4 h5 h6 h7 h8 h9
  by_cases hk : zOk t b i f k = true
  · have hb := z_bd hk
    obtain ⟨⟨t1, t2⟩, ⟨b1', b2'⟩, ⟨k1, k2⟩, ⟨p1, p2⟩, hO, hN⟩ := hb
    have hk' : (if zOk t b i f k = true then 0 else 1) = (0 : Int) := if_pos hk
    obtain ⟨s, hs⟩ : ∃ v, a0 % t = v := ⟨_, rfl⟩
    obtain ⟨u, hu⟩ : ∃ v, a1 % t = v := ⟨_, rfl⟩
    obtain ⟨n, hn⟩ : ∃ v, b0 % k = v := ⟨_, rfl⟩
    obtain ⟨m, hm⟩ : ∃ v, b1 % k = v := ⟨_, rfl⟩
    have s0 : 0 ≤ s ∧ s < t := by rw [← hs]; exact ⟨Int.emod_nonneg _ (by omega), Int.emod_lt_of_pos _ (by omega)⟩
    have u0 : 0 ≤ u ∧ u < t := by rw [← hu]; exact ⟨Int.emod_nonneg _ (by omega), Int.emod_lt_of_pos _ (by omega)⟩
    have n0 : 0 ≤ n ∧ n < k := by rw [← hn]; exact ⟨Int.emod_nonneg _ (by omega), Int.emod_lt_of_pos _ (by omega)⟩
    have m0 : 0 ≤ m ∧ m < k := by rw [← hm]; exact ⟨Int.emod_nonneg _ (by omega), Int.emod_lt_of_pos _ (by omega)⟩
    have e1 : ∀ s n, (0 ≤ s ∧ s < t) → (0 ≤ n ∧ n < k) → vNode t b i f k s n = 1 + b + s * (2 * k) + n := fun s n h1 h2 => by
      unfold vNode; rw [if_pos ⟨hk, h1, h2.1, by omega⟩]
    have e2 : ∀ s n, (0 ≤ s ∧ s < t) → (0 ≤ n ∧ n < k) → vOp t b i f k s n = s * k + n := fun s n h1 h2 => by
      unfold vOp; rw [if_pos ⟨hk, h1, h2⟩]
    have e3 : vHead t b i f k (b - 1) = b := by unfold vHead; rw [if_pos ⟨hk, by omega, by omega⟩]; omega
    have l1 : s * k + n < t * k := by
      have h : (s + 1) * k ≤ t * k := Int.mul_le_mul_of_nonneg_right (by omega) (by omega)
      rw [Int.add_mul, Int.one_mul] at h
      omega
    have l0 : 0 ≤ s * k := Int.mul_nonneg (by omega) (by omega)
    have l2 : 0 ≤ s * (2 * k) := Int.mul_nonneg (by omega) (by omega)
    have e4 : vThread t b i f k (s * k + n) = s := by
      unfold vThread; rw [if_pos ⟨hk, by omega, by rw [hO]; exact l1⟩]; exact div_of n0.1 n0.2
    by_cases c1 : s = u
    · subst c1
      by_cases c2 : n = m
      · subst c2
        exact LayoutApart_1 t b i f k a0 a1 b0 b1 s n _ _ w A0 A1 A2 A3 B0 B1 B2 B3 t1 t2 k1 k2 b1' b2' hk' hs hu hn hm (e1 s n s0 n0) (e2 s n s0 n0) e3 e4 (by omega)
      · refine LayoutApart_3 t b i f k a0 a1 b0 b1 s n m _ _ _ _ w A0 A1 A2 A3 B0 B1 B2 B3 t1 t2 k1 k2 b1' b2' hk' hs hu hn hm (by simpa using c2) (e1 s n s0 n0) (e1 s m s0 m0) ?_ (e2 s n s0 n0) (e2 s m s0 m0) ?_ e3 e4 (by omega)
        · simp only [beq_eq_false_iff_ne, ne_eq]; omega
        · simp only [beq_eq_false_iff_ne, ne_eq]; omega
    · refine LayoutApart_2 t b i f k a0 a1 b0 b1 s u n m _ _ _ _ w A0 A1 A2 A3 B0 B1 B2 B3 t1 t2 k1 k2 b1' b2' hk' hs hu hn hm (by simpa using c1) (e1 s n s0 n0) (e1 u m u0 m0) ?_ (e2 s n s0 n0) (e2 u m u0 m0) ?_ e3 e4 (by omega)
      · simp only [beq_eq_false_iff_ne, ne_eq]
        intro h
        exact c1 (pair_of (k := 2 * k) (n := n) (m := m) (by omega) (by omega) (by omega) (by omega) (by omega)).1
      · simp only [beq_eq_false_iff_ne, ne_eq]
        exact fun h => c1 (pair_of n0.1 n0.2 m0.1 m0.2 h).1
  · have hk' : (if zOk t b i f k = true then 0 else 1) = (1 : Int) := if_neg hk
    have HK := Lib.hid hk'; clear hk hk'
    go_enter Try.func6, Try.ntmps6
    go_wp2_with fail
    refine (awake_any _).mono ?_; rintro e w1 ⟨rfl, g1⟩
    have c0 : w1.cell? ⟨w.heap.size, 0, none⟩ = some (.int .i64 t) := gcell g1 (by simp [go_sem])
    have c1 : w1.cell? ⟨w.heap.size, 1, none⟩ = some (.int .i64 b) := gcell g1 (by simp [go_sem])
    have c2 : w1.cell? ⟨w.heap.size, 2, none⟩ = some (.int .i64 i) := gcell g1 (by simp [go_sem])
    have c3 : w1.cell? ⟨w.heap.size, 3, none⟩ = some (.int .i64 f) := gcell g1 (by simp [go_sem])
    have c4 : w1.cell? ⟨w.heap.size, 4, none⟩ = some (.int .i64 k) := gcell g1 (by simp [go_sem])
    have q1 := galloc (galloc (galloc g1))
    clear g1
    go_wp2_with fail
    refine (rMayC_at _ _ _ _ _ _ _ HK.out).mono ?_; rintro e w2 ⟨rfl, g3⟩
    replace q1 := gtr q1 g3
    clear g3 c0 c1 c2 c3 c4
    go_wp2_with fail
    go_ret
    exact ⟨rfl, q1⟩
end Go.Proofs.Ytigkfekkpegcjaa
