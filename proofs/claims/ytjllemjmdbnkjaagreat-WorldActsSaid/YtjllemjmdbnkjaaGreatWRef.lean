/- The document's answers for package world (corrieref08): New and Head. -/
import Derived.Test.YtjllemjmdbnkjaaGreatWorldN
import Derived.Test.YtjllemjmdbnkjaaGreatLayRef
import Derived.Test.YtjllemjmdbnkjaaGreatCellsRun
import Derived.Test.YtjllemjmdbnkjaaGreatBox
namespace Go.Proofs.YtjllemjmdbnkjaaGreat
open Go.ChangeShapes Go.WideShapes Go.ChangeAt Go.RowKit
set_option maxRecDepth 100000
set_option linter.unusedVariables false
/-- The document's World, as a value. -/
def WV (c : Cf) (sw : Value) (n : Int) (s1 s2 s3 s4 s5 : Value) : Value := .agg #[.int .i64 c.t, .int .i64 c.b, .int .i64 c.i, .int .i64 c.f, .int .i64 c.k, sw, .int .i64 n, .int .i64 c.t, .int .i64 c.b, .int .i64 c.i, .int .i64 c.f, .int .i64 c.k, s1, s2, s3, s4, s5]
theorem RefS.mono {w : World} {hi lo : Nat} {c : Cf} {s : St} {s1 s2 s3 s4 s5 : Value} (h : RefS w hi c s s1 s2 s3 s4 s5) (hl : lo ≤ hi) : RefS w lo c s s1 s2 s3 s4 s5 :=
  ⟨h.f1.mono hl, h.f2.mono hl, h.f3.mono hl, h.f4.mono hl, h.f5.mono hl⟩
def RNewW (hi : Nat) (c : Cf) (w : World) (e : Ending) (w' : World) : Prop :=
  ∃ b s1 s2 s3 s4 s5, e = .returned (.tuple #[WV c (.slice (some ⟨b, 0, none⟩) c.len c.len) 0 s1 s2 s3 s4 s5, .int .i64 0]) ∧ Holds w' b (List.replicate c.len 0) ∧ w.heap.size ≤ b ∧ RefS w' hi c (St.new c) s1 s2 s3 s4 s5 ∧ Grown w w'
theorem RefS.slices {w : World} {hi : Nat} {c : Cf} {s : St} {s1 s2 s3 s4 s5 : Value} (h : RefS w hi c s s1 s2 s3 s4 s5) : (∃ A m k, s1 = .slice A m k) ∧ (∃ A m k, s2 = .slice A m k) ∧ (∃ A m k, s3 = .slice A m k) ∧ (∃ A m k, s4 = .slice A m k) ∧ ∃ A m k, s5 = .slice A m k := by
  have K : ∀ {w : World} {lo n : Nat} {v : Value} {cells : List Value}, FlatAt w lo v cells n → ∃ A m k, v = .slice A m k := by
    rintro w lo n v cells (⟨-, -, rfl⟩ | ⟨-, g, cap, rfl, -⟩)
    · exact ⟨_, _, _, rfl⟩
    · exact ⟨_, _, _, rfl⟩
  exact ⟨K h.f1, K h.f2, K h.f3, K h.f4, K h.f5⟩

def zWV : List Value := [.int .i64 0, .int .i64 0, .int .i64 0, .int .i64 0, .int .i64 0, .slice none 0 0, .int .i64 0, .int .i64 0, .int .i64 0, .int .i64 0, .int .i64 0, .int .i64 0, .slice none 0 0, .slice none 0 0, .slice none 0 0, .slice none 0 0, .slice none 0 0]
theorem rWNew_bad (t b i f k : Int) (w : World) (h : ¬ zOk t b i f k = true) :
    Calls Tryz.prog 7 #[.agg #[.int .i64 t, .int .i64 b, .int .i64 i, .int .i64 f, .int .i64 k]] w fun e w' => e = .returned (.tuple #[.agg zWV.toArray, .int .i64 1]) ∧ Grown w w' := by
  have HZ := Lib.hid h
  clear h
  unfold zWV
  go_enter Tryz.func7, Tryz.ntmps7
  go_wp2_with fail
  refine (rNew_bad _ _ _ _ _ _ HZ.out).mono ?_; rintro e w1 ⟨rfl, g1⟩
  have B := (Box.made (w.alloc (.cells #[.int .i64 t, .int .i64 b, .int .i64 i, .int .i64 f, .int .i64 k] 23)) [.int .i64 0, .int .i64 0, .int .i64 0, .int .i64 0, .int .i64 0, .slice none 0 0, .int .i64 0, .int .i64 0, .int .i64 0, .int .i64 0, .int .i64 0, .int .i64 0, .slice none 0 0, .slice none 0 0, .slice none 0 0, .slice none 0 0, .slice none 0 0] 40).grown g1
  have hsz : (w.alloc (.cells #[.int .i64 t, .int .i64 b, .int .i64 i, .int .i64 f, .int .i64 k] 23)).heap.size = w.heap.size + 1 := by simp
  rw [hsz] at B
  clear hsz
  have HB := Lib.hid B
  clear B
  replace g1 := galloc (galloc g1)
  go_wp2_with (first | (refine store_box rfl 40 _ _ rfl (w.heap.size + 1) _ (HB.out.grown (by go_grown)) #[.int .i64 0, .int .i64 0, .int .i64 0, .int .i64 0, .int .i64 0, .slice none 0 0, .int .i64 0, .int .i64 0, .int .i64 0, .int .i64 0, .int .i64 0, .int .i64 0, .slice none 0 0, .slice none 0 0, .slice none 0 0, .slice none 0 0, .slice none 0 0] rfl rfl rfl (by kernel_rfl) rfl ?_; intro w2 B2 q2; have HC := Lib.hid B2; clear B2) | fail)
  have e0 := HC.out.cell 0 _ rfl
  have e1 := HC.out.cell 1 _ rfl
  have e2 := HC.out.cell 2 _ rfl
  have e3 := HC.out.cell 3 _ rfl
  have e4 := HC.out.cell 4 _ rfl
  have e5 := HC.out.cell 5 _ rfl
  have e6 := HC.out.cell 6 _ rfl
  have e7 := HC.out.cell 7 _ rfl
  have e8 := HC.out.cell 8 _ rfl
  have e9 := HC.out.cell 9 _ rfl
  have e10 := HC.out.cell 10 _ rfl
  have e11 := HC.out.cell 11 _ rfl
  have e12 := HC.out.cell 12 _ rfl
  have e13 := HC.out.cell 13 _ rfl
  have e14 := HC.out.cell 14 _ rfl
  have e15 := HC.out.cell 15 _ rfl
  have e16 := HC.out.cell 16 _ rfl
  refine bodyPost_ret (v := .tuple #[.agg #[.int .i64 0, .int .i64 0, .int .i64 0, .int .i64 0, .int .i64 0, .slice none 0 0, .int .i64 0, .int .i64 0, .int .i64 0, .int .i64 0, .int .i64 0, .int .i64 0, .slice none 0 0, .slice none 0 0, .slice none 0 0, .slice none 0 0, .slice none 0 0], .int .i64 1]) (by simp [results, Tryz.results7, go_sem, e0, e1, e2, e3, e4, e5, e6, e7, e8, e9, e10, e11, e12, e13, e14, e15, e16]) rfl ⟨rfl, ?_⟩
  exact But.fresh (gtr g1 (by go_grown)) q2 (fun i hi => by subst hi; omega)

theorem rWNew_at (w : World) (hi : Nat) (c : Cf) (hok : c.Ok) (hw : hi ≤ w.heap.size) : Calls Tryz.prog 7 #[c.v] w (RNewW hi c w) := by
  have HL := Lib.hid (vLen_len hok)
  have HM := Lib.hid (len_le hok)
  have HK := Lib.hid hok
  have HW := Lib.hid hw
  clear hok hw
  unfold Cf.v
  go_enter Tryz.func7, Tryz.ntmps7
  go_wp2_with fail
  refine (rNew_at _ (w.heap.size + 2) c HK.out (by simp)).mono ?_; rintro e w1 ⟨s1, s2, s3, s4, s5, rfl, hr, g1⟩
  obtain ⟨⟨A1, m1, k1, rfl⟩, ⟨A2, m2, k2, rfl⟩, ⟨A3, m3, k3, rfl⟩, ⟨A4, m4, k4, rfl⟩, ⟨A5, m5, k5, rfl⟩⟩ := hr.slices
  have HR := Lib.hid hr
  have c0 : w1.cell? ⟨w.heap.size, 0, none⟩ = some (.int .i64 c.t) := gcell g1 (by simp)
  have c1 : w1.cell? ⟨w.heap.size, 1, none⟩ = some (.int .i64 c.b) := gcell g1 (by simp)
  have c2 : w1.cell? ⟨w.heap.size, 2, none⟩ = some (.int .i64 c.i) := gcell g1 (by simp)
  have c3 : w1.cell? ⟨w.heap.size, 3, none⟩ = some (.int .i64 c.f) := gcell g1 (by simp)
  have c4 : w1.cell? ⟨w.heap.size, 4, none⟩ = some (.int .i64 c.k) := gcell g1 (by simp)
  have B := (Box.made (w.alloc (.cells #[.int .i64 c.t, .int .i64 c.b, .int .i64 c.i, .int .i64 c.f, .int .i64 c.k] 23)) [.int .i64 0, .int .i64 0, .int .i64 0, .int .i64 0, .int .i64 0, .slice none 0 0, .int .i64 0, .int .i64 0, .int .i64 0, .int .i64 0, .int .i64 0, .int .i64 0, .slice none 0 0, .slice none 0 0, .slice none 0 0, .slice none 0 0, .slice none 0 0] 40).grown g1
  have hsz : (w.alloc (.cells #[.int .i64 c.t, .int .i64 c.b, .int .i64 c.i, .int .i64 c.f, .int .i64 c.k] 23)).heap.size = w.heap.size + 1 := by simp
  rw [hsz] at B
  clear hsz
  have HB := Lib.hid B
  clear B hr
  replace g1 := galloc (galloc g1)
  simp only [RV]
  go_wp2_with fail
  refine wp_region_planb (fun i => i = w.heap.size + 1) (.one [0, 1, 4] 2 (.one [] 3 (.one [5] 6 (.fin [7])))) (by kernel_rfl) (by kernel_rfl) (by kernel_rfl) ?_
  intro w2 g2
  have d0 : ∀ g : ButW (fun i => i = w.heap.size + 1) w2, g.w.cell? ⟨w.heap.size, 0, none⟩ = some (.int .i64 c.t) := ButW.cell (by omega) (gcell g2 (by simpa using acell c0))
  have d1 : ∀ g : ButW (fun i => i = w.heap.size + 1) w2, g.w.cell? ⟨w.heap.size, 1, none⟩ = some (.int .i64 c.b) := ButW.cell (by omega) (gcell g2 (by simpa using acell c1))
  have d2 : ∀ g : ButW (fun i => i = w.heap.size + 1) w2, g.w.cell? ⟨w.heap.size, 2, none⟩ = some (.int .i64 c.i) := ButW.cell (by omega) (gcell g2 (by simpa using acell c2))
  have d3 : ∀ g : ButW (fun i => i = w.heap.size + 1) w2, g.w.cell? ⟨w.heap.size, 3, none⟩ = some (.int .i64 c.f) := ButW.cell (by omega) (gcell g2 (by simpa using acell c3))
  have d4 : ∀ g : ButW (fun i => i = w.heap.size + 1) w2, g.w.cell? ⟨w.heap.size, 4, none⟩ = some (.int .i64 c.k) := ButW.cell (by omega) (gcell g2 (by simpa using acell c4))
  have hn1 : ¬ w1.heap.size = w.heap.size + 1 := by have := HB.out.lt; omega
  have b0 : ∀ g : ButW (fun i => i = w.heap.size + 1) w2, g.w.cell? ⟨w1.heap.size, 0, none⟩ = some (.int .i64 c.t) := ButW.cell hn1 (gcell g2 (by simp))
  have b1 : ∀ g : ButW (fun i => i = w.heap.size + 1) w2, g.w.cell? ⟨w1.heap.size, 1, none⟩ = some (.int .i64 c.b) := ButW.cell hn1 (gcell g2 (by simp))
  have b2 : ∀ g : ButW (fun i => i = w.heap.size + 1) w2, g.w.cell? ⟨w1.heap.size, 2, none⟩ = some (.int .i64 c.i) := ButW.cell hn1 (gcell g2 (by simp))
  have b3 : ∀ g : ButW (fun i => i = w.heap.size + 1) w2, g.w.cell? ⟨w1.heap.size, 3, none⟩ = some (.int .i64 c.f) := ButW.cell hn1 (gcell g2 (by simp))
  have b4 : ∀ g : ButW (fun i => i = w.heap.size + 1) w2, g.w.cell? ⟨w1.heap.size, 4, none⟩ = some (.int .i64 c.k) := ButW.cell hn1 (gcell g2 (by simp))
  have b5 : ∀ g : ButW (fun i => i = w.heap.size + 1) w2, g.w.cell? ⟨w1.heap.size, 5, none⟩ = some (.slice A1 m1 k1) := ButW.cell hn1 (gcell g2 (by simp))
  have b6 : ∀ g : ButW (fun i => i = w.heap.size + 1) w2, g.w.cell? ⟨w1.heap.size, 6, none⟩ = some (.slice A2 m2 k2) := ButW.cell hn1 (gcell g2 (by simp))
  have b7 : ∀ g : ButW (fun i => i = w.heap.size + 1) w2, g.w.cell? ⟨w1.heap.size, 7, none⟩ = some (.slice A3 m3 k3) := ButW.cell hn1 (gcell g2 (by simp))
  have b8 : ∀ g : ButW (fun i => i = w.heap.size + 1) w2, g.w.cell? ⟨w1.heap.size, 8, none⟩ = some (.slice A4 m4 k4) := ButW.cell hn1 (gcell g2 (by simp))
  have b9 : ∀ g : ButW (fun i => i = w.heap.size + 1) w2, g.w.cell? ⟨w1.heap.size, 9, none⟩ = some (.slice A5 m5 k5) := ButW.cell hn1 (gcell g2 (by simp))
  refine plan_one ?_
  simp only [nths, nth, List.map_cons, List.map_nil, List.getD_cons_zero, List.getD_cons_succ]
  repeat go_big_quiet_step (fail)
  clear d0 d1 d2 d3 d4 b0 b1 b2 b3 b4 b5 b6 b7 b8 b9 c0 c1 c2 c3 c4
  have G2 : Grown w1 w2 := gtr (by go_grown) g2
  refine wpQuiet_nil ?_
  go_wp2_with fail
  refine (rLen_at _ _ _ _ _ _ _ HL.out).mono ?_; rintro e u3 ⟨rfl, g3⟩
  go_wp2_with fail
  refine nxt_but (But.of_grown g3) (plan_one ?_)
  simp only [nths, nth, List.map_nil, List.getD_cons_zero, List.getD_cons_succ]
  refine wpQuiet_nil ?_
  go_wp2_with fail
  refine (cNewR_at _ c.len HM.out).mono ?_; rintro e u4 ⟨b, rfl, g4, h4, hb⟩
  have H4 := Lib.hid h4
  have hbb : w1.heap.size ≤ b := by have := (gtr G2 g3).2.2; omega
  have hlt := HB.out.lt
  have HC := Lib.hid (HB.out.grown (gtr G2 (gtr g3 g4)))
  clear h4 hb
  go_wp2_with fail
  refine nxt_but (But.of_grown (gtr g3 g4)) (plan_one ?_)
  simp only [nths, nth, List.map_cons, List.map_nil, List.getD_cons_zero, List.getD_cons_succ]
  repeat go_big_quiet_step (fail)
  refine wpQuiet_nil ?_
  go_wp2_with (first | (refine store_box rfl 40 _ _ rfl (w.heap.size + 1) _ HC.out #[.int .i64 c.t, .int .i64 c.b, .int .i64 c.i, .int .i64 c.f, .int .i64 c.k, .slice (some ⟨b, 0, none⟩) c.len c.len, .int .i64 0, .int .i64 c.t, .int .i64 c.b, .int .i64 c.i, .int .i64 c.f, .int .i64 c.k, .slice A1 m1 k1, .slice A2 m2 k2, .slice A3 m3 k3, .slice A4 m4 k4, .slice A5 m5 k5] rfl rfl rfl (by kernel_rfl) rfl ?_; intro u5 B5 q5; have HD := Lib.hid B5; clear B5) | fail)
  refine nxt_but ((But.of_grown (gtr g3 g4)).trans q5) (plan_fin ?_)
  simp only [nths, nth, List.map_cons, List.map_nil, List.getD_cons_zero, List.getD_cons_succ]
  repeat go_big_quiet_step (fail)
  refine wpQuiet_nil ?_
  go_wp2_with fail
  have e0 := HD.out.cell 0 _ rfl
  have e1 := HD.out.cell 1 _ rfl
  have e2 := HD.out.cell 2 _ rfl
  have e3 := HD.out.cell 3 _ rfl
  have e4 := HD.out.cell 4 _ rfl
  have e5 := HD.out.cell 5 _ rfl
  have e6 := HD.out.cell 6 _ rfl
  have e7 := HD.out.cell 7 _ rfl
  have e8 := HD.out.cell 8 _ rfl
  have e9 := HD.out.cell 9 _ rfl
  have e10 := HD.out.cell 10 _ rfl
  have e11 := HD.out.cell 11 _ rfl
  have e12 := HD.out.cell 12 _ rfl
  have e13 := HD.out.cell 13 _ rfl
  have e14 := HD.out.cell 14 _ rfl
  have e15 := HD.out.cell 15 _ rfl
  have e16 := HD.out.cell 16 _ rfl
  refine bodyPost_ret (v := .tuple #[.agg #[.int .i64 c.t, .int .i64 c.b, .int .i64 c.i, .int .i64 c.f, .int .i64 c.k, .slice (some ⟨b, 0, none⟩) c.len c.len, .int .i64 0, .int .i64 c.t, .int .i64 c.b, .int .i64 c.i, .int .i64 c.f, .int .i64 c.k, .slice A1 m1 k1, .slice A2 m2 k2, .slice A3 m3 k3, .slice A4 m4 k4, .slice A5 m5 k5], .int .i64 0]) (by simp [results, Tryz.results7, go_sem, e0, e1, e2, e3, e4, e5, e6, e7, e8, e9, e10, e11, e12, e13, e14, e15, e16]) rfl ?_
  refine ⟨b, _, _, _, _, _, rfl, fun j hj => q5.cell (by omega) (H4.out j hj), by omega, ?_, But.fresh (gtr g1 (gtr G2 (gtr g3 g4))) q5 (fun i hi => by subst hi; omega)⟩
  exact ((HR.out.grown (gtr G2 (gtr g3 g4))).but q5 (fun i hi e => by omega)).mono (by have := HW.out; omega)

end Go.Proofs.YtjllemjmdbnkjaaGreat
