/- Package world, the rest: what threads announce, heads, and a new World. -/
import Derived.Test.YtjllemjmdbnkjaaGreatWorldM
namespace Go.Proofs.YtjllemjmdbnkjaaGreat
open Go.ChangeShapes Go.WideShapes Go.ChangeAt Go.RowKit
set_option maxRecDepth 100000
set_option linter.unusedVariables false
theorem opOf_eq (v : Int) : wrap64 (IntKind.u64.wrap (v - 1)) = opOf v := by
  simp [IntKind.wrap, IntKind.signed, IntKind.bits, opOf, wrap64]
theorem wdOf_eq (v : Int) : IntKind.u64.wrap (IntKind.u64.wrap v + 1) = wdOf v := by
  simp [IntKind.wrap, IntKind.signed, IntKind.bits, wdOf]

theorem wAnn_any (w : World) (c : Cf) (d : Wd) (ws : List Int) (n : Int) (s : St) (i : Int) (h : WdAt w c d ws n s) (hn : 0 ≤ n) (hn' : n < 4611686018427387904) :
    Calls Tryz.prog 18 #[.pointer (some ⟨d.x, 0, none⟩), .int .i64 i] w fun e w' => e = .returned (.int .i64 (opOf (rd ws (annI c i)))) ∧ LeftW c d ws (n + cnt ws (annI c i)) s w w' := by
  have HD := Lib.hid h
  clear h
  go_enter Tryz.func18, Tryz.ntmps18
  go_wp2_with fail
  refine (load_any _ c d ws n s (HD.out.grown (by go_grown)) hn hn' _ i (annI c i) (fun _ _ => rfl) (fun _ => Ann_at _ _ _ _ _ _ _ _ rfl)).mono ?_; rintro e w1 ⟨rfl, q, h1⟩
  go_wp2_with fail
  go_ret
  exact ⟨ret_int (opOf_eq _), (But.of_grown (by go_grown)).trans q, h1⟩
theorem wAnn_nil (w : World) (i : Int) :
    Calls Tryz.prog 18 #[.pointer none, .int .i64 i] w fun e w' => e = .returned (.int .i64 (-1)) ∧ Grown w w' := by
  go_enter Tryz.func18, Tryz.ntmps18
  go_wp2_with fail
  refine (load_nil _ _ _).mono ?_; rintro e w1 ⟨rfl, g1⟩
  go_wp2_with fail
  go_ret
  exact ⟨ret_int (by decide +kernel), gtr (by go_grown) g1⟩

theorem wSay_any (w : World) (c : Cf) (d : Wd) (ws : List Int) (n : Int) (s : St) (i v : Int) (h : WdAt w c d ws n s) (hn : 0 ≤ n) (hn' : n < 4611686018427387904) :
    Calls Tryz.prog 14 #[.pointer (some ⟨d.x, 0, none⟩), .int .i64 i, .int .i64 v] w fun e w' => e = .returned (.tuple #[]) ∧ LeftW c d (wr ws (annI c i) (wdOf v)) (n + cnt ws (annI c i)) s w w' := by
  have HD := Lib.hid h
  clear h
  have HW := Lib.hid (wdOf_eq v)
  go_enter Tryz.func14, Tryz.ntmps14
  go_wp2_with fail
  refine (store_any _ c d ws n s (HD.out.grown (by go_grown)) hn hn' _ i (annI c i) _ (fun _ _ => rfl) (fun _ => Ann_at _ _ _ _ _ _ _ _ rfl)).mono ?_; rintro e w1 ⟨rfl, q, h1⟩
  rw [HW.out] at h1
  go_wp2_with fail
  go_end0
  exact ⟨rfl, (But.of_grown (by go_grown)).trans q, h1⟩
theorem wSay_nil (w : World) (i v : Int) :
    Calls Tryz.prog 14 #[.pointer none, .int .i64 i, .int .i64 v] w fun e w' => e = .returned (.tuple #[]) ∧ Grown w w' := by
  go_enter Tryz.func14, Tryz.ntmps14
  go_wp2_with fail
  refine (store_nil _ _ _ _).mono ?_; rintro e w1 ⟨rfl, g1⟩
  go_wp2_with fail
  go_end0
  exact ⟨rfl, gtr (by go_grown) g1⟩

theorem Head1_at (w : World) (c : Cf) (d : Wd) (ws : List Int) (n : Int) (s : St) (h : WdAt w c d ws n s) (key : Int) (r0 r1 r2 : Nat)
    (c0 : w.cell? ⟨r0, 0, none⟩ = some (.pointer (some ⟨d.x, 0, none⟩))) (c1 : w.cell? ⟨r1, 0, none⟩ = some (.int .u64 key)) (c2 : w.cell? ⟨r2, 0, none⟩ = some (.int .i64 (-1)))
    (f2 : w.frozen? ⟨r2, 0, none⟩ = false) (x2 : ¬ d.x = r2) (m0 : ¬ r0 = r2) (m1 : ¬ r1 = r2) :
    Calls Tryz.prog 47 #[.pointer (some ⟨r0, 0, none⟩), .pointer (some ⟨r1, 0, none⟩), .pointer (some ⟨r2, 0, none⟩)] w
      fun e w' => e = .returned (.tuple #[]) ∧ But (fun i => i = r2) w w' ∧ w'.cell? ⟨r2, 0, none⟩ = some (.int .i64 (headI c key)) := by
  have k0 := h.k0
  have k1 := h.k1
  have k2 := h.k2
  have k3 := h.k3
  have k4 := h.k4
  have HH : Hid (vHead c.t c.b c.i c.f c.k (zBucket key c.b) = headI c key) := Lib.hid rfl
  clear h
  go_enter Tryz.func47, Tryz.ntmps47
  go_wp2_with fail
  refine wp_region_planb (fun i => i = r2) (.one [0, 1, 2, 3, 4, 5, 6, 7, 8, 9] 10 (.one [] 11 (.one [] 12 (.fin [])))) (by kernel_rfl) (by kernel_rfl) (by kernel_rfl) ?_
  intro w2 g2
  have mx : ¬ d.x = r2 := x2
  have d0 : ∀ g : ButW (fun i => i = r2) w2, g.w.cell? ⟨r0, 0, none⟩ = some (.pointer (some ⟨d.x, 0, none⟩)) := ButW.cell m0 (gcell g2 c0)
  have d1 : ∀ g : ButW (fun i => i = r2) w2, g.w.cell? ⟨r1, 0, none⟩ = some (.int .u64 key) := ButW.cell m1 (gcell g2 c1)
  have e0 : ∀ g : ButW (fun i => i = r2) w2, g.w.cell? ⟨d.x, 0, none⟩ = some (.int .i64 c.t) := ButW.cell mx (gcell g2 k0)
  have e1 : ∀ g : ButW (fun i => i = r2) w2, g.w.cell? ⟨d.x, 1, none⟩ = some (.int .i64 c.b) := ButW.cell mx (gcell g2 k1)
  have e2 : ∀ g : ButW (fun i => i = r2) w2, g.w.cell? ⟨d.x, 2, none⟩ = some (.int .i64 c.i) := ButW.cell mx (gcell g2 k2)
  have e3 : ∀ g : ButW (fun i => i = r2) w2, g.w.cell? ⟨d.x, 3, none⟩ = some (.int .i64 c.f) := ButW.cell mx (gcell g2 k3)
  have e4 : ∀ g : ButW (fun i => i = r2) w2, g.w.cell? ⟨d.x, 4, none⟩ = some (.int .i64 c.k) := ButW.cell mx (gcell g2 k4)
  refine plan_one ?_
  simp only [nths, nth, List.map_cons, List.map_nil, List.getD_cons_zero, List.getD_cons_succ]
  repeat go_big_quiet_step (fail)
  clear d0 d1 e0 e1 e2 e3 e4
  refine wpQuiet_nil ?_
  go_wp2_with fail
  refine (Bucket_any _ _ _).mono ?_; rintro e u3 ⟨rfl, g3⟩
  go_wp2_with fail
  refine nxt_but (But.of_grown g3) (plan_one ?_)
  simp only [nths, nth, List.map_nil, List.getD_cons_zero, List.getD_cons_succ]
  refine wpQuiet_nil ?_
  go_wp2_with fail
  refine (Head_at _ _ _ _ _ _ _ _ HH.out).mono ?_; rintro e u4 ⟨rfl, g4⟩
  have G4 := gtr g2 (gtr g3 g4)
  replace c2 := gcell G4 c2
  replace f2 : u4.frozen? ⟨r2, 0, none⟩ = false := (G4.2.1 _).trans f2
  go_wp2_with fail
  have qB : But (fun i => i = r2) w2 u4 := But.of_grown (gtr g3 g4)
  refine nxt_but qB (plan_one ?_)
  simp only [nths, nth, List.map_nil, List.getD_cons_zero, List.getD_cons_succ]
  refine wpQuiet_nil ?_
  go_wp2_with fail
  refine nxt_but (qB.setCell (.inl rfl) _) (plan_fin ?_)
  simp only [nths, List.map_nil]
  refine wpQuiet_nil ?_
  go_wp2_with fail
  go_end0
  exact ⟨rfl, But.setCell (S := fun i => i = r2) (But.of_grown G4) (.inl rfl) _, World.cell?_setCell_same _ _ _ c2⟩

theorem wHead_any (w : World) (c : Cf) (d : Wd) (ws : List Int) (n : Int) (s : St) (key : Int) (h : WdAt w c d ws n s) :
    Calls Tryz.prog 21 #[.pointer (some ⟨d.x, 0, none⟩), .int .u64 key] w fun e w' => e = .returned (.int .i64 (headI c key)) ∧ Grown w w' := by
  have hmf := mkFunc
  have HD := Lib.hid h
  clear h
  go_enter Tryz.func21, Tryz.ntmps21
  go_wp2_with fail
  refine (there_at _ d.x _ _ _ (fun _ _ => rfl) (Head1_at _ c d ws n s (HD.out.grown (by go_grown)) key _ _ _ (by simp [go_sem]) (by simp [go_sem]) (by simp [go_sem]) (by simp [go_sem]) (by have := HD.out.xlt; omega) (by omega) (by omega))).mono ?_
  rintro e w2 ⟨rfl, q, c2⟩
  go_wp2
  go_ret
  exact ⟨rfl, But.fresh (by go_grown) q (fun i hi => by subst hi; omega)⟩
theorem wHead_nil (w : World) (key : Int) :
    Calls Tryz.prog 21 #[.pointer none, .int .u64 key] w fun e w' => e = .returned (.int .i64 (-1)) ∧ Grown w w' := by
  have hmf := mkFunc
  go_enter Tryz.func21, Tryz.ntmps21
  go_wp2_with fail
  refine (there_nil _ _).mono ?_; rintro e w1 ⟨rfl, g1⟩
  have c2 : w1.cell? ⟨w.heap.size + 1 + 1, 0, none⟩ = some (.int .i64 (-1)) := gcell g1 (by simp [go_sem])
  go_wp2
  go_ret
  exact ⟨rfl, gtr (by go_grown) g1⟩

/-- A new World. -/
def NewWd (c : Cf) (w : World) (e : Ending) (w' : World) : Prop :=
  ∃ d : Wd, e = .returned (.tuple #[.pointer (some ⟨d.x, 0, none⟩), .int .i64 0]) ∧ Grown w w' ∧ WdAt w' c d (List.replicate c.len 0) 0 (St.new c) ∧ w.heap.size ≤ d.p ∧ w.heap.size ≤ d.b ∧ w.heap.size ≤ d.x ∧ d.a.lo = w.heap.size + 1

theorem wNew_bad (t b i f k : Int) (w : World) (h : ¬ zOk t b i f k = true) :
    Calls Tryz.prog 6 #[.agg #[.int .i64 t, .int .i64 b, .int .i64 i, .int .i64 f, .int .i64 k]] w fun e w' => e = .returned (.tuple #[.pointer none, .int .i64 1]) ∧ Grown w w' := by
  have HZ := Lib.hid h
  clear h
  go_enter Tryz.func6, Tryz.ntmps6
  go_wp2_with fail
  refine (New_bad _ _ _ _ _ _ HZ.out).mono ?_; rintro e w1 ⟨rfl, g1⟩
  go_wp2_with fail
  go_ret2
  exact ⟨rfl, gtr (by go_grown) g1⟩

theorem vLen_len {c : Cf} (hok : c.Ok) : vLen c.t c.b c.i c.f c.k = ((c.len : Nat) : Int) := by
  unfold vLen
  rw [if_pos hok.z]
  have h1 : zOps c.t c.b c.i c.f c.k = ((c.ops : Nat) : Int) := (if_pos hok.z).trans (by simp [Cf.ops])
  have h2 : zNodes c.t c.b c.i c.f c.k = ((c.nodes : Nat) : Int) := (if_pos hok.z).trans (by simp [Cf.nodes])
  rw [h1, h2]
  unfold Cf.len
  omega
theorem len_le {c : Cf} (hok : c.Ok) : c.len ≤ 1048576 := by
  have := hok.tk
  have := hok.b64
  have := hok.t8
  unfold Cf.len Cf.nodes Cf.ops
  omega

theorem wNew_at (w : World) (c : Cf) (hok : c.Ok) : Calls Tryz.prog 6 #[c.v] w (NewWd c w) := by
  have HL := Lib.hid (vLen_len hok)
  have HM := Lib.hid (len_le hok)
  have HK := Lib.hid hok
  clear hok
  unfold Cf.v
  go_enter Tryz.func6, Tryz.ntmps6
  go_wp2_with fail
  refine (New_at _ c HK.out).mono ?_; rintro e w1 ⟨a, rfl, g1, h1, hlo, hhi⟩
  have c0 : w1.cell? ⟨w.heap.size, 0, none⟩ = some (.int .i64 c.t) := gcell g1 (by simp)
  have c1 : w1.cell? ⟨w.heap.size, 1, none⟩ = some (.int .i64 c.b) := gcell g1 (by simp)
  have c2 : w1.cell? ⟨w.heap.size, 2, none⟩ = some (.int .i64 c.i) := gcell g1 (by simp)
  have c3 : w1.cell? ⟨w.heap.size, 3, none⟩ = some (.int .i64 c.f) := gcell g1 (by simp)
  have c4 : w1.cell? ⟨w.heap.size, 4, none⟩ = some (.int .i64 c.k) := gcell g1 (by simp)
  replace hlo : a.lo = w.heap.size + 1 := by simpa using hlo
  replace g1 := galloc g1
  have H1 := Lib.hid h1
  have HHI := Lib.hid hhi
  have HLO := Lib.hid hlo
  clear h1 hhi hlo
  go_wp2_with fail
  refine wp_region_plang (.one [0, 1, 4] 2 (.one [] 3 (.one [5] 6 (.fin [7, 8])))) (by kernel_rfl) (by kernel_rfl) (by kernel_rfl) ?_
  intro w2 g2
  have d0 : ∀ g : GrW w2, g.w.cell? ⟨w.heap.size, 0, none⟩ = some (.int .i64 c.t) := GrW.cell (gcell g2 c0)
  have d1 : ∀ g : GrW w2, g.w.cell? ⟨w.heap.size, 1, none⟩ = some (.int .i64 c.b) := GrW.cell (gcell g2 c1)
  have d2 : ∀ g : GrW w2, g.w.cell? ⟨w.heap.size, 2, none⟩ = some (.int .i64 c.i) := GrW.cell (gcell g2 c2)
  have d3 : ∀ g : GrW w2, g.w.cell? ⟨w.heap.size, 3, none⟩ = some (.int .i64 c.f) := GrW.cell (gcell g2 c3)
  have d4 : ∀ g : GrW w2, g.w.cell? ⟨w.heap.size, 4, none⟩ = some (.int .i64 c.k) := GrW.cell (gcell g2 c4)
  refine plan_one ?_
  simp only [nths, nth, List.map_cons, List.map_nil, List.getD_cons_zero, List.getD_cons_succ]
  repeat go_big_quiet_step (fail)
  clear d0 d1 d2 d3 d4 c0 c1 c2 c3 c4
  refine wpQuiet_nil ?_
  go_wp2_with fail
  refine (Len_at _ _ _ _ _ _ _ HL.out).mono ?_; rintro e u3 ⟨rfl, g3⟩
  go_wp2_with fail
  refine nxt_grow g3 (plan_one ?_)
  simp only [nths, nth, List.map_nil, List.getD_cons_zero, List.getD_cons_succ]
  refine wpQuiet_nil ?_
  go_wp2_with fail
  refine (cNew_at _ c.len HM.out).mono ?_; rintro e u4 ⟨p, b, rfl, g4, hp, hb, hbank⟩
  have HB := Lib.hid hbank
  have HP := Lib.hid hp
  have HBB := Lib.hid hb
  clear hbank hp hb
  go_wp2_with fail
  refine nxt_grow g4 (plan_one ?_)
  simp only [nths, nth, List.map_cons, List.map_nil, List.getD_cons_zero, List.getD_cons_succ]
  repeat go_big_quiet_step (fail)
  refine wpQuiet_nil ?_
  go_wp2_with fail
  refine nxt_grow (by go_grown) (plan_fin ?_)
  simp only [nths, nth, List.map_cons, List.map_nil, List.getD_cons_zero, List.getD_cons_succ]
  repeat go_big_quiet_step (fail)
  refine wpQuiet_nil ?_
  go_wp2_with fail
  go_ret2
  have G : Grown w1 u4 := gtr g2 (gtr g3 g4)
  have gl : Grown u4 (u4.alloc (.cells #[.int .i64 c.t, .int .i64 c.b, .int .i64 c.i, .int .i64 c.f, .int .i64 c.k, .pointer (some ⟨p, 0, none⟩), .pointer (some ⟨a.p, 0, none⟩)] 54)) := by go_grown
  have s1 := g1.2.2
  have s2 := (gtr g2 g3).2.2
  have hhi := HHI.out
  have hp := HP.out
  have hb := HBB.out
  have hu := g4.2.2
  refine ⟨⟨u4.heap.size, p, b, a⟩, rfl, gtr g1 (gtr G gl), ⟨by simp, by simp, by simp, by simp, by simp, by simp, by simp, HB.out.grown gl, H1.out.grown (gtr G gl), by simp, HB.out.mine (Nat.le_refl _), ?_, ?_, ?_⟩, ?_, ?_, ?_, HLO.out⟩
  all_goals (simp only; omega)

end Go.Proofs.YtjllemjmdbnkjaaGreat
