/- Package world, the rest: what threads announce, heads, and a new World. -/
import Derived.Test.YtagapfejgmmppaaGreatWorldM
namespace Go.Proofs.YtagapfejgmmppaaGreat
open Go.ChangeShapes Go.WideShapes Go.ChangeAt Go.RowKit
set_option maxRecDepth 100000
set_option linter.unusedVariables false
theorem opOf_eq (v : Int) : wrap64 (IntKind.u64.wrap (v - 1)) = opOf v := by
  simp [IntKind.wrap, IntKind.signed, IntKind.bits, opOf, wrap64]
theorem wdOf_eq (v : Int) : IntKind.u64.wrap (IntKind.u64.wrap v + 1) = wdOf v := by
  simp [IntKind.wrap, IntKind.signed, IntKind.bits, wdOf]

/-- A new World. -/
def NewWd (c : Cf) (w : World) (e : Ending) (w' : World) : Prop :=
  ∃ d : Wd, e = .returned (.tuple #[.pointer (some ⟨d.x, 0, none⟩), .int .i64 0]) ∧ Grown w w' ∧ WdAt w' c d (List.replicate c.len 0) 0 (St.new c) ∧ w.heap.size ≤ d.p ∧ w.heap.size ≤ d.b ∧ w.heap.size ≤ d.x ∧ d.a.lo = w.heap.size + 1

theorem wNew_bad (t b i f k : Int) (w : World) (h : ¬ zOk t b i f k = true) :
    Calls Tryz.prog 22 #[.agg #[.int .i64 t, .int .i64 b, .int .i64 i, .int .i64 f, .int .i64 k]] w fun e w' => e = .returned (.tuple #[.pointer none, .int .i64 1]) ∧ Grown w w' := by
  have HZ := Lib.hid h
  clear h
  go_enter Tryz.func22, Tryz.ntmps22
  go_wp2_with fail
  refine (New_bad _ _ _ _ _ _ HZ.out).mono ?_; rintro e w1 ⟨rfl, g1⟩
  go_wp2_with fail
  go_ret2
  exact ⟨rfl, gtr (by go_grown) g1⟩

theorem vLen_len {c : Cf} (hok : c.Ok) : vLen c.t c.b c.i c.f c.k = ((c.len : Nat) : Int) := by
  unfold vLen
  rw [if_pos hok.z]
  have h1 : zOps c.t c.b c.i c.f c.k = ((c.ops : Nat) : Int) := (if_pos hok.z).trans (by simp [Cf.ops])
  have h2 : zNodes c.t c.b c.i c.f c.k = ((c.nodes : Nat) : Int) := (if_pos hok.z).trans (by simp [Cf.nodes])
  rw [h1, h2]
  unfold Cf.len
  omega
theorem len_le {c : Cf} (hok : c.Ok) : c.len ≤ 1048576 := by
  have := hok.tk
  have := hok.b64
  have := hok.t8
  unfold Cf.len Cf.nodes Cf.ops
  omega

theorem wNew_at (w : World) (c : Cf) (hok : c.Ok) : Calls Tryz.prog 22 #[c.v] w (NewWd c w) := by
  have HL := Lib.hid (vLen_len hok)
  have HM := Lib.hid (len_le hok)
  have HK := Lib.hid hok
  clear hok
  unfold Cf.v
  go_enter Tryz.func22, Tryz.ntmps22
  go_wp2_with fail
  refine (New_at _ c HK.out).mono ?_; rintro e w1 ⟨a, rfl, g1, h1, hlo, hhi⟩
  have c0 : w1.cell? ⟨w.heap.size, 0, none⟩ = some (.int .i64 c.t) := gcell g1 (by simp)
  have c1 : w1.cell? ⟨w.heap.size, 1, none⟩ = some (.int .i64 c.b) := gcell g1 (by simp)
  have c2 : w1.cell? ⟨w.heap.size, 2, none⟩ = some (.int .i64 c.i) := gcell g1 (by simp)
  have c3 : w1.cell? ⟨w.heap.size, 3, none⟩ = some (.int .i64 c.f) := gcell g1 (by simp)
  have c4 : w1.cell? ⟨w.heap.size, 4, none⟩ = some (.int .i64 c.k) := gcell g1 (by simp)
  replace hlo : a.lo = w.heap.size + 1 := by simpa using hlo
  replace g1 := galloc g1
  have H1 := Lib.hid h1
  have HHI := Lib.hid hhi
  have HLO := Lib.hid hlo
  clear h1 hhi hlo
  go_wp2_with fail
  refine wp_region_plang (.one [0, 1, 4] 2 (.one [] 3 (.one [5] 6 (.fin [7, 8])))) (by kernel_rfl) (by kernel_rfl) (by kernel_rfl) ?_
  intro w2 g2
  have d0 : ∀ g : GrW w2, g.w.cell? ⟨w.heap.size, 0, none⟩ = some (.int .i64 c.t) := GrW.cell (gcell g2 c0)
  have d1 : ∀ g : GrW w2, g.w.cell? ⟨w.heap.size, 1, none⟩ = some (.int .i64 c.b) := GrW.cell (gcell g2 c1)
  have d2 : ∀ g : GrW w2, g.w.cell? ⟨w.heap.size, 2, none⟩ = some (.int .i64 c.i) := GrW.cell (gcell g2 c2)
  have d3 : ∀ g : GrW w2, g.w.cell? ⟨w.heap.size, 3, none⟩ = some (.int .i64 c.f) := GrW.cell (gcell g2 c3)
  have d4 : ∀ g : GrW w2, g.w.cell? ⟨w.heap.size, 4, none⟩ = some (.int .i64 c.k) := GrW.cell (gcell g2 c4)
  refine plan_one ?_
  simp only [nths, nth, List.map_cons, List.map_nil, List.getD_cons_zero, List.getD_cons_succ]
  repeat go_big_quiet_step (fail)
  clear d0 d1 d2 d3 d4 c0 c1 c2 c3 c4
  refine wpQuiet_nil ?_
  go_wp2_with fail
  refine (Len_at _ _ _ _ _ _ _ HL.out).mono ?_; rintro e u3 ⟨rfl, g3⟩
  go_wp2_with fail
  refine nxt_grow g3 (plan_one ?_)
  simp only [nths, nth, List.map_nil, List.getD_cons_zero, List.getD_cons_succ]
  refine wpQuiet_nil ?_
  go_wp2_with fail
  refine (cNew_at _ c.len HM.out).mono ?_; rintro e u4 ⟨p, b, rfl, g4, hp, hb, hbank⟩
  have HB := Lib.hid hbank
  have HP := Lib.hid hp
  have HBB := Lib.hid hb
  clear hbank hp hb
  go_wp2_with fail
  refine nxt_grow g4 (plan_one ?_)
  simp only [nths, nth, List.map_cons, List.map_nil, List.getD_cons_zero, List.getD_cons_succ]
  repeat go_big_quiet_step (fail)
  refine wpQuiet_nil ?_
  go_wp2_with fail
  refine nxt_grow (by go_grown) (plan_fin ?_)
  simp only [nths, nth, List.map_cons, List.map_nil, List.getD_cons_zero, List.getD_cons_succ]
  repeat go_big_quiet_step (fail)
  refine wpQuiet_nil ?_
  go_wp2_with fail
  go_ret2
  have G : Grown w1 u4 := gtr g2 (gtr g3 g4)
  have gl : Grown u4 (u4.alloc (.cells #[.int .i64 c.t, .int .i64 c.b, .int .i64 c.i, .int .i64 c.f, .int .i64 c.k, .pointer (some ⟨p, 0, none⟩), .pointer (some ⟨a.p, 0, none⟩)] 56)) := by go_grown
  have s1 := g1.2.2
  have s2 := (gtr g2 g3).2.2
  have hhi := HHI.out
  have hp := HP.out
  have hb := HBB.out
  have hu := g4.2.2
  refine ⟨⟨u4.heap.size, p, b, a⟩, rfl, gtr g1 (gtr G gl), ⟨by simp, by simp, by simp, by simp, by simp, by simp, by simp, HB.out.grown gl, H1.out.grown (gtr G gl), by simp, HB.out.mine (Nat.le_refl _), ?_, ?_, ?_⟩, ?_, ?_, ?_, HLO.out⟩
  all_goals (simp only; omega)

end Go.Proofs.YtagapfejgmmppaaGreat
