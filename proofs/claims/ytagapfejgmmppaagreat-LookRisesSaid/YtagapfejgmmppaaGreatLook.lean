/- Package look: a node that one comes to, with all that is asked of it. -/
import Derived.Test.YtagapfejgmmppaaGreatWorldM
import Derived.Test.YtagapfejgmmppaaGreatBox
import Derived.Test.YtagapfejgmmppaaGreatRef
import Derived.Test.YtagapfejgmmppaaGreatWord
import Derived.Test.YtagapfejgmmppaaGreatRoute
import Derived.Test.YtagapfejgmmppaaGreatConfB
import Derived.Test.YtagapfejgmmppaaGreatFlags
namespace Go.Proofs.YtagapfejgmmppaaGreat
open Go.ChangeShapes Go.WideShapes Go.ChangeAt Go.RowKit
set_option maxRecDepth 100000
set_option linter.unusedVariables false

theorem Box.kept {U : Nat → Prop} {A B : World} {b : Nat} {l : List Value} (h : Box A b l) (q : Kept U A B) (hu : ¬ U b) : Box B b l :=
  ⟨fun j u hj => q.cell hu (h.cell j u hj), fun j => (q.free _).trans (h.free j), Nat.lt_of_lt_of_le h.lt q.size⟩

/-- The reference of a node; the operation that it carries, and its call; that operation's word. -/
def refOf (c : Cf) (ws : List Int) (i : Int) : Int := rd ws (nxtI c i)
def opAt (s : St) (i : Int) : Int := carriedOf (lookI s.nodes i)
def calAt (s : St) (op : Int) : Cal := (lookI s.ops op).getD Cal.zero
def wrdOf (c : Cf) (ws : List Int) (op : Int) : Int := rd ws (wrdI c op)
def nodeL (c : Cf) (ws : List Int) (s : St) (i : Int) : List Value :=
  [.int .i64 i, .int .u64 (refOf c ws i), .int .i64 (opAt s i), .int .i64 (calAt s (opAt s i)).kind, .int .u64 (calAt s (opAt s i)).key, .int .u64 (calAt s (opAt s i)).val, .int .i64 (calAt s (opAt s i)).lim, .int .u64 (wrdOf c ws (opAt s i))]

theorem peek_g {W : World} {c : Cf} {d : Wd} {ws : List Int} {n : Int} {s : St} (h : WdAt W c d ws n s) (i y : Int) (hy : rd ws i = y) (g : GrW W) :
    Calls Tryz.prog 24 #[.pointer (some ⟨d.p, 0, none⟩), .int .i64 i] g.w fun e w' => e = .returned (.int .u64 y) ∧ Grown g.w w' := by
  subst hy
  exact Peek_any _ d.p d.b ws n i (h.bank.grown g.gr)

theorem reference_at (w : World) (c : Cf) (d : Wd) (ws : List Int) (n : Int) (s : St) (h : WdAt w c d ws n s) (i v : Int) (hv : refOf c ws i = v) :
    Calls Tryz.prog 90 #[.pointer (some ⟨d.x, 0, none⟩), .int .i64 i] w fun e w' => e = .returned (.int .u64 v) ∧ Grown w w' := by
  have k0 : ∀ g : GrW w, g.w.cell? ⟨d.x, 0, none⟩ = some (.int .i64 c.t) := GrW.cell h.k0
  have k1 : ∀ g : GrW w, g.w.cell? ⟨d.x, 1, none⟩ = some (.int .i64 c.b) := GrW.cell h.k1
  have k2 : ∀ g : GrW w, g.w.cell? ⟨d.x, 2, none⟩ = some (.int .i64 c.i) := GrW.cell h.k2
  have k3 : ∀ g : GrW w, g.w.cell? ⟨d.x, 3, none⟩ = some (.int .i64 c.f) := GrW.cell h.k3
  have k4 : ∀ g : GrW w, g.w.cell? ⟨d.x, 4, none⟩ = some (.int .i64 c.k) := GrW.cell h.k4
  have k5 : ∀ g : GrW w, g.w.cell? ⟨d.x, 5, none⟩ = some (.pointer (some ⟨d.p, 0, none⟩)) := GrW.cell h.k5
  have HD := Lib.hid h
  have HN : Hid (vNext c.t c.b c.i c.f c.k i = nxtI c i) := Lib.hid rfl
  have HV : Hid (rd ws (nxtI c i) = v) := Lib.hid hv
  clear h hv
  go_enter Tryz.func90, Tryz.ntmps90
  go_wp2_with fail
  refine wp_region_grow (by kernel_rfl) (by kernel_rfl) ?_
  repeat (go_big_quiet_step ((first | (go_at_call 77; with_reducible exact grcall (Next_at _ _ _ _ _ _ _ _ HN.out)) | (go_at_call 24; with_reducible exact grcall (peek_g HD.out _ _ HV.out _)))))
  refine wpQuiet_nil ?_
  rintro _ ⟨⟨w2, g2⟩, rfl⟩
  clear k0 k1 k2 k3 k4 k5
  go_wp2
  go_ret
  exact ⟨rfl, g2⟩

theorem zNode : (Tryz.prog.info? 102).map (·.size) = some 8 := by kernel_rfl

set_option maxHeartbeats 4000000 in
theorem lookUp_at (w : World) (c : Cf) (d : Wd) (ws : List Int) (n : Int) (s : St) (h : WdAt w c d ws n s) (hI : Inv c s) (i : Int) :
    Calls Tryz.prog 94 #[.pointer (some ⟨d.x, 0, none⟩), .int .i64 i] w fun e w' => e = .returned (.agg (nodeL c ws s i).toArray) ∧ Grown w w' := by
  have k0 := h.k0
  have k1 := h.k1
  have k2 := h.k2
  have k3 := h.k3
  have k4 := h.k4
  have k5 := h.k5
  have k6 := h.k6
  obtain ⟨op, hop⟩ : ∃ op, opAt s i = op := ⟨_, rfl⟩
  obtain ⟨x, hx⟩ : ∃ x, calAt s op = x := ⟨_, rfl⟩
  obtain ⟨rf, hrf⟩ : ∃ rf, refOf c ws i = rf := ⟨_, rfl⟩
  obtain ⟨wv, hwv⟩ : ∃ wv, wrdOf c ws op = wv := ⟨_, rfl⟩
  obtain ⟨xk, xy, xv, xl⟩ := x
  unfold nodeL
  rw [hop, hx, hrf, hwv]
  have HD := Lib.hid h
  have HI := Lib.hid hI
  have HO := Lib.hid hop
  have HX := Lib.hid hx
  have HR := Lib.hid hrf
  have HW := Lib.hid hwv
  have HN : Hid (vWord c.t c.b c.i c.f c.k op = wrdI c op) := Lib.hid rfl
  clear hop hx hrf hwv hI
  have hlx := h.xlt
  clear h
  go_enter Tryz.func94, Tryz.ntmps94
  go_wp2_with fail
  refine (Carried_at _ c d.a s (HD.out.book.grown (by go_grown)) HI.out i _ rfl).mono ?_; rintro e w1 ⟨rfl, g1⟩
  have c6 : w1.cell? ⟨d.x, 6, none⟩ = some (.pointer (some ⟨d.a.p, 0, none⟩)) := gcell g1 (acell k6)
  have B1 := (Box.made w [.int .i64 0, .int .u64 0, .int .i64 0, .int .i64 0, .int .u64 0, .int .u64 0, .int .i64 0, .int .u64 0] 102).grown g1
  have HB := Lib.hid B1
  have G1 := Lib.hid (galloc g1)
  clear B1 g1 k6
  rw [show carriedOf (lookI s.nodes i) = op from HO.out]
  go_wp2_with fail
  refine (Call_at _ c d.a s (HD.out.book.grown G1.out) HI.out op _ rfl).mono ?_; rintro e w2 ⟨rfl, g2⟩
  rw [show (lookI s.ops op).getD Cal.zero = ⟨xk, xy, xv, xl⟩ from HX.out]
  unfold Cal.v
  simp only
  have G2 := Lib.hid (gtr G1.out g2)
  have HB2 := Lib.hid (HB.out.grown g2)
  clear HB G1 g2
  have hlt := G2.out.2.2
  go_wp2_with fail
  refine wp_region_planb (fun i => i = w.heap.size) (.one [0, 1, 2, 4, 5, 6, 7, 8, 9, 10, 11, 12, 13, 14] 3 (.one [] 15 (.one [] 16 (.one [17] 18 (.fin []))))) (by kernel_rfl) (by kernel_rfl) (by kernel_rfl) ?_
  intro w3 g3
  have hx : ¬ d.x = w.heap.size := by omega
  have d0 : ∀ g : ButW (fun i => i = w.heap.size) w3, g.w.cell? ⟨d.x, 0, none⟩ = some (.int .i64 c.t) := ButW.cell hx (gcell g3 (acell (gcell G2.out k0)))
  have d1 : ∀ g : ButW (fun i => i = w.heap.size) w3, g.w.cell? ⟨d.x, 1, none⟩ = some (.int .i64 c.b) := ButW.cell hx (gcell g3 (acell (gcell G2.out k1)))
  have d2 : ∀ g : ButW (fun i => i = w.heap.size) w3, g.w.cell? ⟨d.x, 2, none⟩ = some (.int .i64 c.i) := ButW.cell hx (gcell g3 (acell (gcell G2.out k2)))
  have d3 : ∀ g : ButW (fun i => i = w.heap.size) w3, g.w.cell? ⟨d.x, 3, none⟩ = some (.int .i64 c.f) := ButW.cell hx (gcell g3 (acell (gcell G2.out k3)))
  have d4 : ∀ g : ButW (fun i => i = w.heap.size) w3, g.w.cell? ⟨d.x, 4, none⟩ = some (.int .i64 c.k) := ButW.cell hx (gcell g3 (acell (gcell G2.out k4)))
  have d5 : ∀ g : ButW (fun i => i = w.heap.size) w3, g.w.cell? ⟨d.x, 5, none⟩ = some (.pointer (some ⟨d.p, 0, none⟩)) := ButW.cell hx (gcell g3 (acell (gcell G2.out k5)))
  have hz : ¬ w2.heap.size = w.heap.size := by have := HB2.out.lt; omega
  have e0 : ∀ g : ButW (fun i => i = w.heap.size) w3, g.w.cell? ⟨w2.heap.size, 0, none⟩ = some (.int .i64 xk) := ButW.cell hz (gcell g3 (by simp [go_sem]))
  have e1 : ∀ g : ButW (fun i => i = w.heap.size) w3, g.w.cell? ⟨w2.heap.size, 1, none⟩ = some (.int .u64 xy) := ButW.cell hz (gcell g3 (by simp [go_sem]))
  have e2 : ∀ g : ButW (fun i => i = w.heap.size) w3, g.w.cell? ⟨w2.heap.size, 2, none⟩ = some (.int .u64 xv) := ButW.cell hz (gcell g3 (by simp [go_sem]))
  have e3 : ∀ g : ButW (fun i => i = w.heap.size) w3, g.w.cell? ⟨w2.heap.size, 3, none⟩ = some (.int .i64 xl) := ButW.cell hz (gcell g3 (by simp [go_sem]))
  refine plan_one ?_
  simp only [nths, nth, List.map_cons, List.map_nil, List.getD_cons_zero, List.getD_cons_succ]
  repeat go_big_quiet_step (fail)
  clear d0 d1 d2 d3 d4 d5 e0 e1 e2 e3 k0 k1 k2 k3 k4 k5
  have G3 := Lib.hid (gtr G2.out (galloc g3))
  have HB3 := Lib.hid (HB2.out.grown (galloc g3))
  clear HB2
  refine wpQuiet_nil ?_
  go_wp2_with fail
  refine (reference_at _ c d ws n s (HD.out.grown G3.out) i _ HR.out).mono ?_; rintro e u4 ⟨rfl, g4⟩
  go_wp2_with fail
  refine nxt_but (But.of_grown g4) (plan_one ?_)
  simp only [nths, nth, List.map_nil, List.getD_cons_zero, List.getD_cons_succ]
  refine wpQuiet_nil ?_
  go_wp2_with fail
  refine (Word_at _ _ _ _ _ _ _ _ HN.out).mono ?_; rintro e u5 ⟨rfl, g5⟩
  go_wp2_with fail
  refine nxt_but (But.of_grown (gtr g4 g5)) (plan_one ?_)
  simp only [nths, nth, List.map_nil, List.getD_cons_zero, List.getD_cons_succ]
  refine wpQuiet_nil ?_
  go_wp2_with fail
  have G5 := Lib.hid (gtr G3.out (gtr g4 g5))
  refine (Peek_any _ d.p d.b ws n (wrdI c op) (HD.out.grown G5.out).bank).mono ?_; rintro e u6 ⟨rfl, g6⟩
  rw [show rd ws (wrdI c op) = wv from HW.out]
  have G6 := Lib.hid (gtr G5.out g6)
  have HB6 := Lib.hid (HB3.out.grown (gtr g4 (gtr g5 g6)))
  clear HB3 G5
  have G46 := Lib.hid (gtr g4 (gtr g5 g6))
  clear g4 g5 g6
  go_wp2_with fail
  refine nxt_but (But.of_grown G46.out) (plan_one ?_)
  simp only [nths, nth, List.map_cons, List.map_nil, List.getD_cons_zero, List.getD_cons_succ]
  repeat go_big_quiet_step (fail)
  refine wpQuiet_nil ?_
  go_wp2_with (first | (refine store_box rfl 102 _ _ rfl w.heap.size _ HB6.out #[.int .i64 i, .int .u64 rf, .int .i64 op, .int .i64 xk, .int .u64 xy, .int .u64 xv, .int .i64 xl, .int .u64 wv] rfl rfl rfl (by kernel_rfl) rfl ?_; intro u7 B7 q7; have HC := Lib.hid B7; clear B7) | fail)
  refine nxt_but ((But.of_grown G46.out).trans q7) (plan_fin ?_)
  simp only [nths, List.map_nil]
  refine wpQuiet_nil ?_
  go_wp2_with fail
  refine bodyPost_ret (v := .agg #[.int .i64 i, .int .u64 rf, .int .i64 op, .int .i64 xk, .int .u64 xy, .int .u64 xv, .int .i64 xl, .int .u64 wv]) ?_ rfl ?_
  · exact results_c Tryz.results94 rfl (load_run HC.out 102 _ Tryz.underlying102 rfl (by kernel_rfl))
  · exact ⟨rfl, But.fresh G6.out q7 (fun i hi => by subst hi; exact Nat.le_refl _)⟩
end Go.Proofs.YtagapfejgmmppaaGreat
