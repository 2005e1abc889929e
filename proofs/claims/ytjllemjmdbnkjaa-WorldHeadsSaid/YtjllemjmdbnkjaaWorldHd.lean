/- The laws of package world, walked: heads. -/
import Derived.Test.YtjllemjmdbnkjaaWorldSt
namespace Go.Proofs.Ytjllemjmdbnkjaa
open Go.ChangeShapes Go.WideShapes Go.ChangeAt Go.RowKit
set_option maxRecDepth 100000
set_option linter.unusedVariables false

set_option maxHeartbeats 1000000 in
theorem law_WorldHeads (t b i f k key : Int) (w : World) (_ : -9223372036854775808 ≤ t) (_ : t ≤ 9223372036854775807) (_ : -9223372036854775808 ≤ b) (_ : b ≤ 9223372036854775807) (_ : -9223372036854775808 ≤ i) (_ : i ≤ 9223372036854775807) (_ : -9223372036854775808 ≤ f) (_ : f ≤ 9223372036854775807) (_ : -9223372036854775808 ≤ k) (_ : k ≤ 9223372036854775807) (_ : 0 ≤ key) (_ : key ≤ 18446744073709551615) :
    Calls Try.prog 6 #[.agg #[.int .i64 t, .int .i64 b, .int .i64 i, .int .i64 f, .int .i64 k], .int .u64 key] w fun e w' => e = .returned (.bool true) ∧ Grown w w' := by
  obtain ⟨fw, hfw⟩ : ∃ v, bFew t b i f k = v := ⟨_, rfl⟩
  have HF := Lib.hid hfw
  cases fw with
  | false =>
    clear hfw
    go_enter Try.func6, Try.ntmps6
    go_wp2_with fail
    refine (wAwake _).mono ?_; rintro e w0 ⟨rfl, g0⟩
    have a0 : w0.cell? ⟨w.heap.size, 0, none⟩ = some (.int .i64 t) := gcell g0 (by simp [go_sem])
    have a1 : w0.cell? ⟨w.heap.size, 1, none⟩ = some (.int .i64 b) := gcell g0 (by simp [go_sem])
    have a2 : w0.cell? ⟨w.heap.size, 2, none⟩ = some (.int .i64 i) := gcell g0 (by simp [go_sem])
    have a3 : w0.cell? ⟨w.heap.size, 3, none⟩ = some (.int .i64 f) := gcell g0 (by simp [go_sem])
    have a4 : w0.cell? ⟨w.heap.size, 4, none⟩ = some (.int .i64 k) := gcell g0 (by simp [go_sem])
    replace g0 : Grown w w0 := gtr (by go_grown) g0
    go_wp2_with fail
    refine (Few_at _ _ _ _ _ _ _ HF.out).mono ?_; rintro e w1 ⟨rfl, g1⟩
    go_wp2_with fail
    go_ret
    exact ⟨rfl, gtr g0 g1⟩
  | true =>
    obtain ⟨c, rfl, rfl, rfl, rfl, rfl, hok, ft, fb, fk⟩ := few_cf hfw
    have HOK := Lib.hid hok
    clear hfw hok
    go_enter Try.func6, Try.ntmps6
    go_wp2_with fail
    refine (wAwake _).mono ?_; rintro e w0 ⟨rfl, g0⟩
    have a0 : w0.cell? ⟨w.heap.size, 0, none⟩ = some (.int .i64 c.t) := gcell g0 (by simp [go_sem])
    have a1 : w0.cell? ⟨w.heap.size, 1, none⟩ = some (.int .i64 c.b) := gcell g0 (by simp [go_sem])
    have a2 : w0.cell? ⟨w.heap.size, 2, none⟩ = some (.int .i64 c.i) := gcell g0 (by simp [go_sem])
    have a3 : w0.cell? ⟨w.heap.size, 3, none⟩ = some (.int .i64 c.f) := gcell g0 (by simp [go_sem])
    have a4 : w0.cell? ⟨w.heap.size, 4, none⟩ = some (.int .i64 c.k) := gcell g0 (by simp [go_sem])
    replace g0 : Grown w w0 := gtr (by go_grown) g0
    go_wp2_with fail
    refine (Few_at _ _ _ _ _ _ _ HF.out).mono ?_; rintro e w1 ⟨rfl, g1⟩
    replace a0 := gcell g1 a0; replace a1 := gcell g1 a1; replace a2 := gcell g1 a2; replace a3 := gcell g1 a3; replace a4 := gcell g1 a4
    replace g1 := gtr g0 g1; clear g0
    go_wp2_with fail
    refine (wNew_at _ c HOK.out).mono ?_; rintro e w2 ⟨d, rfl, g2, h2, hp, hb, -, -⟩
    replace a0 := gcell g2 a0; replace a1 := gcell g2 a1; replace a2 := gcell g2 a2; replace a3 := gcell g2 a3; replace a4 := gcell g2 a4
    replace g2 := gtr g1 g2; clear g1
    have H2 := Lib.hid h2
    clear h2 hp hb
    go_wp2_with fail
    refine (rWNew_at _ 0 c HOK.out (Nat.zero_le _)).mono ?_; rintro e w3 ⟨b3, s1, s2, s3, s4, s5, rfl, hh, hb3, hr, g3⟩
    obtain ⟨⟨A1, m1, j1, rfl⟩, ⟨A2, m2, j2, rfl⟩, ⟨A3, m3, j3, rfl⟩, ⟨A4, m4, j4, rfl⟩, ⟨A5, m5, j5, rfl⟩⟩ := hr.slices
    have H3 := Lib.hid (H2.out.grown g3)
    replace g3 := gtr g2 g3
    clear g2 hh hb3 hr a0 a1 a2 a3 a4 H2
    simp only [WV]
    go_wp2_with fail
    refine (wSet_nil _ _ _).mono ?_; rintro e w4 ⟨rfl, g4⟩
    go_wp2_with fail
    refine (wSay_nil _ _ _).mono ?_; rintro e w5 ⟨rfl, g5⟩
    replace g5 := gtr g4 g5
    have G5 : Grown w3 w5 := galloc g5
    clear g4
    have H5 := Lib.hid (H3.out.grown G5)
    clear H3
    have hq : (headI c key == headI c key) = true := by simp
    have y0 : ∀ g : GrW w5, g.w.cell? ⟨w3.heap.size, 0, none⟩ = some (.int .i64 c.t) := GrW.cell (gcell g5 (by simp))
    have y1 : ∀ g : GrW w5, g.w.cell? ⟨w3.heap.size, 1, none⟩ = some (.int .i64 c.b) := GrW.cell (gcell g5 (by simp))
    have y2 : ∀ g : GrW w5, g.w.cell? ⟨w3.heap.size, 2, none⟩ = some (.int .i64 c.i) := GrW.cell (gcell g5 (by simp))
    have y3 : ∀ g : GrW w5, g.w.cell? ⟨w3.heap.size, 3, none⟩ = some (.int .i64 c.f) := GrW.cell (gcell g5 (by simp))
    have y4 : ∀ g : GrW w5, g.w.cell? ⟨w3.heap.size, 4, none⟩ = some (.int .i64 c.k) := GrW.cell (gcell g5 (by simp))
    have y5 : ∀ g : GrW w5, g.w.cell? ⟨w3.heap.size, 5, none⟩ = some (.slice (some ⟨b3, 0, none⟩) c.len c.len) := GrW.cell (gcell g5 (by simp))
    have y6 : ∀ g : GrW w5, g.w.cell? ⟨w3.heap.size, 6, none⟩ = some (.int .i64 0) := GrW.cell (gcell g5 (by simp))
    have y7 : ∀ g : GrW w5, g.w.cell? ⟨w3.heap.size, 7, none⟩ = some (.int .i64 c.t) := GrW.cell (gcell g5 (by simp))
    have y8 : ∀ g : GrW w5, g.w.cell? ⟨w3.heap.size, 8, none⟩ = some (.int .i64 c.b) := GrW.cell (gcell g5 (by simp))
    have y9 : ∀ g : GrW w5, g.w.cell? ⟨w3.heap.size, 9, none⟩ = some (.int .i64 c.i) := GrW.cell (gcell g5 (by simp))
    have y10 : ∀ g : GrW w5, g.w.cell? ⟨w3.heap.size, 10, none⟩ = some (.int .i64 c.f) := GrW.cell (gcell g5 (by simp))
    have y11 : ∀ g : GrW w5, g.w.cell? ⟨w3.heap.size, 11, none⟩ = some (.int .i64 c.k) := GrW.cell (gcell g5 (by simp))
    have y12 : ∀ g : GrW w5, g.w.cell? ⟨w3.heap.size, 12, none⟩ = some (.slice A1 m1 j1) := GrW.cell (gcell g5 (by simp))
    have y13 : ∀ g : GrW w5, g.w.cell? ⟨w3.heap.size, 13, none⟩ = some (.slice A2 m2 j2) := GrW.cell (gcell g5 (by simp))
    have y14 : ∀ g : GrW w5, g.w.cell? ⟨w3.heap.size, 14, none⟩ = some (.slice A3 m3 j3) := GrW.cell (gcell g5 (by simp))
    have y15 : ∀ g : GrW w5, g.w.cell? ⟨w3.heap.size, 15, none⟩ = some (.slice A4 m4 j4) := GrW.cell (gcell g5 (by simp))
    have y16 : ∀ g : GrW w5, g.w.cell? ⟨w3.heap.size, 16, none⟩ = some (.slice A5 m5 j5) := GrW.cell (gcell g5 (by simp))
    go_wp2_with fail
    refine wp_region_grow (by kernel_rfl) (by kernel_rfl) ?_
    repeat (go_big_quiet_step ((first | (go_at_call 24; with_reducible exact grcall (wHead_any _ c d _ _ _ _ (H5.out.grown (GrW.gr _)))) | (go_at_call 24; with_reducible exact grcall (wHead_nil _ _)) | (go_at_call 25; exact grcall (rWHead_at _ c _ _ _ _ _ _ _ _ _ _ _ _ _ _ _ _ _ _ _ _)) | (go_at_call 22; with_reducible exact grcall (wNext_nil _ _)) | (go_at_call 26; with_reducible exact grcall (wLink_nil _ _ _ _)) | (go_at_call 23; with_reducible exact grcall (wWord_nil _ _)) | (go_at_call 20; with_reducible exact grcall (wTurn_nil _ _ _ _)) | (go_at_call 12; with_reducible exact grcall (wAnn_nil _ _)))))
    refine wpQuiet_nil ?_; intro w8 hw8
    have g8 : Grown w5 w8 := by obtain ⟨g, rfl⟩ := hw8; exact g.gr
    clear hw8
    go_wp2_with fail
    go_ret
    exact ⟨rfl, gtr g3 (gtr G5 g8)⟩

end Go.Proofs.Ytjllemjmdbnkjaa
