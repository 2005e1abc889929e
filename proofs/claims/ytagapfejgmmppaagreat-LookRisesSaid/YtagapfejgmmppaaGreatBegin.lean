/- Package book: Begin and Make. -/
import Derived.Test.YtagapfejgmmppaaGreatBookM
namespace Go.Proofs.YtagapfejgmmppaaGreat
open Go.ChangeShapes Go.WideShapes Go.ChangeAt Go.RowKit
set_option maxRecDepth 100000
theorem vOp_nat {c : Cf} (h : c.Ok) {i n : Nat} (hi : i < c.t) (hn : n < c.k) : vOp c.t c.b c.i c.f c.k i n = ((i * c.k + n : Nat) : Int) := by
  unfold vOp
  rw [if_pos ⟨h.z, by omega, by omega, by omega⟩]
  simp
theorem vNode_nat {c : Cf} (h : c.Ok) {i n : Nat} (hi : i < c.t) (hn : n < 2 * c.k) : vNode c.t c.b c.i c.f c.k i n = ((1 + c.b + i * (2 * c.k) + n : Nat) : Int) := by
  unfold vNode
  rw [if_pos ⟨h.z, by omega, by omega, by omega⟩]
  simp

/-- Begin, and Make, of the document: what is written down, what is told, and what is wrong. -/
def kindOk (x : Cal) : Prop := 1 ≤ x.kind ∧ x.kind ≤ 4
instance (x : Cal) : Decidable (kindOk x) := inferInstanceAs (Decidable (_ ∧ _))
def beginS (c : Cf) (s : St) (i : Nat) (x : Cal) : St × Nat × Nat :=
  if at_ s.calls i = c.k then (s, 0, 2)
  else if x.kind = 1 ∧ at_ s.ins i = c.i then ({ s with calls := bump s.calls i }, 0, 3)
  else ({ s with calls := bump s.calls i, ins := if x.kind = 1 then bump s.ins i else s.ins, ops := s.ops ++ [(i * c.k + at_ s.calls i, x)] }, i * c.k + at_ s.calls i, 0)
def beginI (c : Cf) (s : St) (th : Int) (x : Cal) : St × Nat × Nat :=
  if th < 0 ∨ c.t ≤ th ∨ ¬ kindOk x then (s, 0, 1) else beginS c s th.toNat x
def makeS (c : Cf) (s : St) (i op : Nat) : St × Nat × Nat :=
  if at_ s.made i = 2 * c.k then (s, 0, 3)
  else ({ s with made := bump s.made i, nodes := s.nodes ++ [(1 + c.b + i * (2 * c.k) + at_ s.made i, op)] }, 1 + c.b + i * (2 * c.k) + at_ s.made i, 0)
def makeI (c : Cf) (s : St) (th op : Int) : St × Nat × Nat :=
  if th < 0 ∨ c.t ≤ th ∨ (lookI s.ops op).isNone then (s, 0, 1) else makeS c s th.toNat op.toNat

/-- The blocks that may be written. -/
def Wr (c : Cf) (a : Ad) : Nat → Prop := fun i => (a.bc ≤ i ∧ i < a.bc + c.ops) ∨ (a.bn ≤ i ∧ i < a.bn + c.nodes) ∨ (a.bw ≤ i ∧ i < a.bw + c.t)
theorem BookAt.wr_own {w : World} {c : Cf} {a : Ad} {s : St} (h : BookAt w c a s) : ∀ i, Wr c a i → Own a i := by
  have o1 := h.o1; have o2 := h.o2; have o3 := h.o3; have o4 := h.o4; have o5 := h.o5
  rintro i (h | h | h) <;> exact ⟨by omega, by omega⟩
theorem BookAt.wr_p {w : World} {c : Cf} {a : Ad} {s : St} (h : BookAt w c a s) : ¬ Wr c a a.p := by
  have o1 := h.o1; have o2 := h.o2; have o3 := h.o3; have o4 := h.o4; have o5 := h.o5
  rintro (h | h | h) <;> omega
theorem BookAt.wr_new {w : World} {c : Cf} {a : Ad} {s : St} (h : BookAt w c a s) {i : Nat} (hi : w.heap.size ≤ i) : ¬ Wr c a i := by
  have o1 := h.o1; have o2 := h.o2; have o3 := h.o3; have o4 := h.o4; have o5 := h.o5; have o6 := h.o6
  rintro (h | h | h) <;> omega
/-- What Begin and Make leave. -/
def Told (c : Cf) (a : Ad) (r : St × Nat × Nat) (w : World) (e : Ending) (w' : World) : Prop :=
  e = .returned (.tuple #[.int .i64 r.2.1, .int .i64 r.2.2]) ∧ But (Own a) w w' ∧ BookAt w' c a r.1

theorem isKind_at (w : World) (n : Int) (v : Bool) (hv : decide (1 ≤ n ∧ n ≤ 4) = v) :
    Calls Tryz.prog 69 #[.int .i64 n] w fun e w' => e = .returned (.bool v) ∧ Grown w w' := by
  subst hv
  by_cases h1 : 1 ≤ n <;> by_cases h2 : n ≤ 4
  all_goals
    simp only [h1, h2, and_self, and_true, and_false, decide_true, decide_false]
    go_enter Tryz.func69, Tryz.ntmps69
    go_wp2
    go_ret
    exact ⟨rfl, by go_grown⟩

theorem Begin_nil (w : World) (th : Int) (x : Cal) :
    Calls Tryz.prog 29 #[.pointer none, .int .i64 th, x.v] w fun e w' => e = .returned (.tuple #[.int .i64 0, .int .i64 1]) ∧ Grown w w' := by
  unfold Cal.v
  go_enter Tryz.func29, Tryz.ntmps29
  go_wp2_with fail
  refine (writer_nil _ th).mono ?_; rintro e w1 ⟨rfl, g1⟩
  go_wp2_with fail
  go_ret2
  exact ⟨rfl, gtr (by go_grown) g1⟩

theorem Begin_noThread (w : World) (c : Cf) (a : Ad) (s : St) (h : BookAt w c a s) (th : Int) (x : Cal) (ht : th < 0 ∨ c.t ≤ th) :
    Calls Tryz.prog 29 #[.pointer (some ⟨a.p, 0, none⟩), .int .i64 th, x.v] w (Told c a (s, 0, 1) w) := by
  have H := Lib.hid h
  have HT := Lib.hid ht
  clear h ht
  unfold Cal.v
  go_enter Tryz.func29, Tryz.ntmps29
  go_wp2_with fail
  refine (writer_out _ c a s (H.out.grown (by go_grown)) th HT.out).mono ?_; rintro e w1 ⟨rfl, g1⟩
  go_wp2_with fail
  go_ret2
  have g : Grown w w1 := gtr (by go_grown) g1
  exact ⟨rfl, But.of_grown g, H.out.grown g⟩

theorem Begin_noKind (w : World) (c : Cf) (a : Ad) (s : St) (h : BookAt w c a s) (i : Nat) (hi : i < c.t) (x : Cal) (hk : ¬ kindOk x) :
    Calls Tryz.prog 29 #[.pointer (some ⟨a.p, 0, none⟩), .int .i64 i, x.v] w (Told c a (s, 0, 1) w) := by
  have H := Lib.hid h
  have HI := Lib.hid hi
  have HK : Hid (decide (1 ≤ x.kind ∧ x.kind ≤ 4) = false) := Lib.hid (decide_eq_false hk)
  clear h hi hk
  unfold Cal.v
  go_enter Tryz.func29, Tryz.ntmps29
  go_wp2_with fail
  refine (writer_in _ c a s (H.out.grown (by go_grown)) i HI.out).mono ?_; rintro e w1 ⟨rfl, g1⟩
  have z0 : w1.cell? ⟨w.heap.size, 0, none⟩ = some (.int .i64 x.kind) := gcell g1 (by simp)
  go_wp2_with fail
  refine (isKind_at _ _ _ HK.out).mono ?_; rintro e w2 ⟨rfl, g2⟩
  go_wp2_with fail
  go_ret2
  have g : Grown w w2 := gtr (gtr (by go_grown) g1) g2
  exact ⟨rfl, But.of_grown g, H.out.grown g⟩


/- BEGIN, way by way. -/
theorem Begin_retired (w : World) (c : Cf) (a : Ad) (s : St) (h : BookAt w c a s) (hI : Inv c s) (i : Nat) (hi : i < c.t) (x : Cal) (hk : kindOk x) (e1 : at_ s.calls i = c.k) :
    Calls Tryz.prog 29 #[.pointer (some ⟨a.p, 0, none⟩), .int .i64 i, x.v] w (Told c a (s, 0, 2) w) := by
  have H := Lib.hid h
  have HN := Lib.hid hI
  have HI := Lib.hid hi
  have HK : Hid (decide (1 ≤ x.kind ∧ x.kind ≤ 4) = true) := Lib.hid (decide_eq_true hk)
  have OK := h.ok
  have k2 := OK.k2
  have b1 := hI.b1 i hi
  have i2 := OK.i2
  have b2 := hI.b2 i hi
  clear h hi hk hI
  unfold Cal.v
  go_enter Tryz.func29, Tryz.ntmps29
  go_wp2_with fail
  refine (writer_in _ c a s (H.out.grown (by go_grown)) i HI.out).mono ?_; rintro e w1 ⟨rfl, g1⟩
  have z0 : w1.cell? ⟨w.heap.size, 0, none⟩ = some (.int .i64 x.kind) := gcell g1 (by simp)
  go_wp2_with fail
  refine (isKind_at _ _ _ HK.out).mono ?_; rintro e w2 ⟨rfl, g2⟩
  replace z0 := gcell g2 z0
  have z1 : w2.cell? ⟨w.heap.size, 1, none⟩ = some (.int .u64 x.key) := gcell g2 (gcell g1 (by simp))
  have z2 : w2.cell? ⟨w.heap.size, 2, none⟩ = some (.int .u64 x.val) := gcell g2 (gcell g1 (by simp))
  have z3 : w2.cell? ⟨w.heap.size, 3, none⟩ = some (.int .i64 x.lim) := gcell g2 (gcell g1 (by simp))
  have g : Grown w w2 := gtr (gtr (by go_grown) g1) g2
  have H2 := Lib.hid (H.out.grown g)
  have hT : ¬ Wr c a w.heap.size := H.out.wr_new (Nat.le_refl _)
  go_wp2_with fail
  refine wp_region_planb (Wr c a) (.one [0, 1, 2, 3, 4, 5, 6, 7, 8] 9 (.fin [10, 11, 12, 13, 14])) (by kernel_rfl) (by kernel_rfl) (by kernel_rfl) ?_
  intro w3 g3
  have H3 := Lib.hid (H2.out.grown g3)
  replace g := gtr g g3
  have d4 : ∀ g : ButW (Wr c a) w3, g.w.cell? ⟨a.p, 4, none⟩ = some (.int .i64 c.k) := ButW.cell H3.out.wr_p H3.out.c4
  replace z0 := gcell g3 z0
  replace z1 := gcell g3 z1
  replace z2 := gcell g3 z2
  replace z3 := gcell g3 z3
  clear g1 g2 g3 H2 H
  refine plan_one ?_
  simp only [nths, nth, List.map_cons, List.map_nil, List.getD_cons_zero, List.getD_cons_succ]
  repeat go_big_quiet_step (fail)
  refine wpQuiet_nil ?_
  clear d4
  go_wp2_with fail
  refine (next_none _ _ _ _ _ (H3.out.w1 i HI.out) (by omega)).mono ?_; rintro e w4 ⟨rfl, g4⟩
  go_wp2_with fail
  refine nxt_but (But.of_grown g4) (plan_fin ?_)
  simp only [nths, nth, List.map_cons, List.map_nil, List.getD_cons_zero, List.getD_cons_succ]
  repeat go_big_quiet_step (fail)
  refine wpQuiet_nil ?_
  go_wp2_with fail
  go_ret2
  exact ⟨rfl, But.of_grown (gtr g g4), H3.out.grown g4⟩

theorem Begin_full (w : World) (c : Cf) (a : Ad) (s : St) (h : BookAt w c a s) (hI : Inv c s) (i : Nat) (hi : i < c.t) (x : Cal) (hk : kindOk x) (e1 : ¬ at_ s.calls i = c.k) (h2 : Hid (x.kind = 1)) (e3 : at_ s.ins i = c.i) :
    Calls Tryz.prog 29 #[.pointer (some ⟨a.p, 0, none⟩), .int .i64 i, x.v] w (Told c a ({ s with calls := bump s.calls i }, 0, 3) w) := by
  have H := Lib.hid h
  have HN := Lib.hid hI
  have HI := Lib.hid hi
  have HK : Hid (decide (1 ≤ x.kind ∧ x.kind ≤ 4) = true) := Lib.hid (decide_eq_true hk)
  have OK := h.ok
  have k2 := OK.k2
  have b1 := hI.b1 i hi
  have i2 := OK.i2
  have b2 := hI.b2 i hi
  clear h hi hk hI
  unfold Cal.v
  go_enter Tryz.func29, Tryz.ntmps29
  go_wp2_with fail
  refine (writer_in _ c a s (H.out.grown (by go_grown)) i HI.out).mono ?_; rintro e w1 ⟨rfl, g1⟩
  have z0 : w1.cell? ⟨w.heap.size, 0, none⟩ = some (.int .i64 x.kind) := gcell g1 (by simp)
  go_wp2_with fail
  refine (isKind_at _ _ _ HK.out).mono ?_; rintro e w2 ⟨rfl, g2⟩
  replace z0 := gcell g2 z0
  have z1 : w2.cell? ⟨w.heap.size, 1, none⟩ = some (.int .u64 x.key) := gcell g2 (gcell g1 (by simp))
  have z2 : w2.cell? ⟨w.heap.size, 2, none⟩ = some (.int .u64 x.val) := gcell g2 (gcell g1 (by simp))
  have z3 : w2.cell? ⟨w.heap.size, 3, none⟩ = some (.int .i64 x.lim) := gcell g2 (gcell g1 (by simp))
  have g : Grown w w2 := gtr (gtr (by go_grown) g1) g2
  have H2 := Lib.hid (H.out.grown g)
  have hT : ¬ Wr c a w.heap.size := H.out.wr_new (Nat.le_refl _)
  go_wp2_with fail
  refine wp_region_planb (Wr c a) (.one [0, 1, 2, 3, 4, 5, 6, 7, 8] 9 (.fin [10, 11, 12, 13, 14])) (by kernel_rfl) (by kernel_rfl) (by kernel_rfl) ?_
  intro w3 g3
  have H3 := Lib.hid (H2.out.grown g3)
  replace g := gtr g g3
  have d4 : ∀ g : ButW (Wr c a) w3, g.w.cell? ⟨a.p, 4, none⟩ = some (.int .i64 c.k) := ButW.cell H3.out.wr_p H3.out.c4
  replace z0 := gcell g3 z0
  replace z1 := gcell g3 z1
  replace z2 := gcell g3 z2
  replace z3 := gcell g3 z3
  clear g1 g2 g3 H2 H
  refine plan_one ?_
  simp only [nths, nth, List.map_cons, List.map_nil, List.getD_cons_zero, List.getD_cons_succ]
  repeat go_big_quiet_step (fail)
  refine wpQuiet_nil ?_
  clear d4
  go_wp2_with fail
  refine (next_more _ _ _ _ _ (H3.out.w1 i HI.out) (H3.out.wf i 1 HI.out) (show at_ s.calls i < c.k by omega) (by omega)).mono ?_; rintro e w5 ⟨rfl, w4, g4, rfl⟩
  have H5 := Lib.hid ((H3.out.grown g4).bumpC i HI.out HN.out.l1)
  have q5 : But (Wr c a) w3 (w4.setCell ⟨a.bw + i, 1, none⟩ (.int .i64 ((at_ s.calls i + 1 : Nat) : Int))) := (But.of_grown g4).setCell (.inl (.inr (.inr ⟨by show a.bw ≤ a.bw + i; omega, by show a.bw + i < a.bw + c.t; have := HI.out; omega⟩))) _
  generalize w4.setCell ⟨a.bw + i, 1, none⟩ (.int .i64 ((at_ s.calls i + 1 : Nat) : Int)) = w5 at *
  go_wp2_with fail
  refine nxt_but q5 (plan_fin ?_)
  simp only [nths, nth, List.map_cons, List.map_nil, List.getD_cons_zero, List.getD_cons_succ]
  repeat go_big_quiet_step (fail)
  refine wpQuiet_nil ?_
  replace z0 := q5.cell hT z0
  replace z1 := q5.cell hT z1
  replace z2 := q5.cell hT z2
  replace z3 := q5.cell hT z3
  have Q5 : But (Wr c a) w w5 := (But.of_grown g).trans q5
  clear g4 q5 H3 g
  have e4 : (x.kind == 1) = true := by simp [h2.out]
  go_wp2_with fail
  refine wp_region_planb (Wr c a) (.one [0, 1, 2, 3, 4, 5, 6, 7, 8] 9 (.fin [10, 11, 12, 13, 14])) (by kernel_rfl) (by kernel_rfl) (by kernel_rfl) ?_
  intro w6 g6
  have H6 := Lib.hid (H5.out.grown g6)
  have d2 : ∀ g : ButW (Wr c a) w6, g.w.cell? ⟨a.p, 2, none⟩ = some (.int .i64 c.i) := ButW.cell H6.out.wr_p H6.out.c2
  replace z0 := gcell g6 z0
  replace z1 := gcell g6 z1
  replace z2 := gcell g6 z2
  replace z3 := gcell g6 z3
  replace Q5 := Q5.trans (But.of_grown g6)
  clear g6 H5
  refine plan_one ?_
  simp only [nths, nth, List.map_cons, List.map_nil, List.getD_cons_zero, List.getD_cons_succ]
  repeat go_big_quiet_step (fail)
  refine wpQuiet_nil ?_
  clear d2
  go_wp2_with fail
  refine (next_none _ _ _ _ _ (H6.out.w2 i HI.out) (show c.i ≤ at_ s.ins i by omega)).mono ?_; rintro e w7 ⟨rfl, g7⟩
  go_wp2_with fail
  refine nxt_but (But.of_grown g7) (plan_fin ?_)
  simp only [nths, nth, List.map_cons, List.map_nil, List.getD_cons_zero, List.getD_cons_succ]
  repeat go_big_quiet_step (fail)
  refine wpQuiet_nil ?_
  go_wp2_with fail
  go_ret2
  exact ⟨rfl, (Q5.trans (But.of_grown g7)).mono H6.out.wr_own, H6.out.grown g7⟩

theorem Begin_insert (w : World) (c : Cf) (a : Ad) (s : St) (h : BookAt w c a s) (hI : Inv c s) (i : Nat) (hi : i < c.t) (x : Cal) (hk : kindOk x) (e1 : ¬ at_ s.calls i = c.k) (h2 : Hid (x.kind = 1)) (e3 : ¬ at_ s.ins i = c.i) (op : Nat) (hop : i * c.k + at_ s.calls i = op) :
    Calls Tryz.prog 29 #[.pointer (some ⟨a.p, 0, none⟩), .int .i64 i, x.v] w (Told c a ({ s with calls := bump s.calls i, ins := bump s.ins i, ops := s.ops ++ [(op, x)] }, op, 0) w) := by
  have HV : Hid (vOp c.t c.b c.i c.f c.k i (at_ s.calls i) = (op : Int)) := Lib.hid (by rw [← hop]; exact vOp_nat h.ok hi (by have := hI.b1 i hi; omega))
  have HL : Hid (op < c.ops) := Lib.hid (by rw [← hop]; exact row_lt hi (by have := hI.b1 i hi; omega))
  have HO : Hid (look s.ops op = none) := Lib.hid (by rw [← hop]; exact hI.newOp hi (by have := hI.b1 i hi; omega))
  clear hop
  have H := Lib.hid h
  have HN := Lib.hid hI
  have HI := Lib.hid hi
  have HK : Hid (decide (1 ≤ x.kind ∧ x.kind ≤ 4) = true) := Lib.hid (decide_eq_true hk)
  have OK := h.ok
  have k2 := OK.k2
  have b1 := hI.b1 i hi
  have i2 := OK.i2
  have b2 := hI.b2 i hi
  clear h hi hk hI
  unfold Cal.v
  go_enter Tryz.func29, Tryz.ntmps29
  go_wp2_with fail
  refine (writer_in _ c a s (H.out.grown (by go_grown)) i HI.out).mono ?_; rintro e w1 ⟨rfl, g1⟩
  have z0 : w1.cell? ⟨w.heap.size, 0, none⟩ = some (.int .i64 x.kind) := gcell g1 (by simp)
  go_wp2_with fail
  refine (isKind_at _ _ _ HK.out).mono ?_; rintro e w2 ⟨rfl, g2⟩
  replace z0 := gcell g2 z0
  have z1 : w2.cell? ⟨w.heap.size, 1, none⟩ = some (.int .u64 x.key) := gcell g2 (gcell g1 (by simp))
  have z2 : w2.cell? ⟨w.heap.size, 2, none⟩ = some (.int .u64 x.val) := gcell g2 (gcell g1 (by simp))
  have z3 : w2.cell? ⟨w.heap.size, 3, none⟩ = some (.int .i64 x.lim) := gcell g2 (gcell g1 (by simp))
  have g : Grown w w2 := gtr (gtr (by go_grown) g1) g2
  have H2 := Lib.hid (H.out.grown g)
  have hT : ¬ Wr c a w.heap.size := H.out.wr_new (Nat.le_refl _)
  go_wp2_with fail
  refine wp_region_planb (Wr c a) (.one [0, 1, 2, 3, 4, 5, 6, 7, 8] 9 (.fin [10, 11, 12, 13, 14])) (by kernel_rfl) (by kernel_rfl) (by kernel_rfl) ?_
  intro w3 g3
  have H3 := Lib.hid (H2.out.grown g3)
  replace g := gtr g g3
  have d4 : ∀ g : ButW (Wr c a) w3, g.w.cell? ⟨a.p, 4, none⟩ = some (.int .i64 c.k) := ButW.cell H3.out.wr_p H3.out.c4
  replace z0 := gcell g3 z0
  replace z1 := gcell g3 z1
  replace z2 := gcell g3 z2
  replace z3 := gcell g3 z3
  clear g1 g2 g3 H2 H
  refine plan_one ?_
  simp only [nths, nth, List.map_cons, List.map_nil, List.getD_cons_zero, List.getD_cons_succ]
  repeat go_big_quiet_step (fail)
  refine wpQuiet_nil ?_
  clear d4
  go_wp2_with fail
  refine (next_more _ _ _ _ _ (H3.out.w1 i HI.out) (H3.out.wf i 1 HI.out) (show at_ s.calls i < c.k by omega) (by omega)).mono ?_; rintro e w5 ⟨rfl, w4, g4, rfl⟩
  have H5 := Lib.hid ((H3.out.grown g4).bumpC i HI.out HN.out.l1)
  have q5 : But (Wr c a) w3 (w4.setCell ⟨a.bw + i, 1, none⟩ (.int .i64 ((at_ s.calls i + 1 : Nat) : Int))) := (But.of_grown g4).setCell (.inl (.inr (.inr ⟨by show a.bw ≤ a.bw + i; omega, by show a.bw + i < a.bw + c.t; have := HI.out; omega⟩))) _
  generalize w4.setCell ⟨a.bw + i, 1, none⟩ (.int .i64 ((at_ s.calls i + 1 : Nat) : Int)) = w5 at *
  go_wp2_with fail
  refine nxt_but q5 (plan_fin ?_)
  simp only [nths, nth, List.map_cons, List.map_nil, List.getD_cons_zero, List.getD_cons_succ]
  repeat go_big_quiet_step (fail)
  refine wpQuiet_nil ?_
  replace z0 := q5.cell hT z0
  replace z1 := q5.cell hT z1
  replace z2 := q5.cell hT z2
  replace z3 := q5.cell hT z3
  have Q5 : But (Wr c a) w w5 := (But.of_grown g).trans q5
  clear g4 q5 H3 g
  have e4 : (x.kind == 1) = true := by simp [h2.out]
  go_wp2_with fail
  refine wp_region_planb (Wr c a) (.one [0, 1, 2, 3, 4, 5, 6, 7, 8] 9 (.fin [10, 11, 12, 13, 14])) (by kernel_rfl) (by kernel_rfl) (by kernel_rfl) ?_
  intro w6 g6
  have H6 := Lib.hid (H5.out.grown g6)
  have d2 : ∀ g : ButW (Wr c a) w6, g.w.cell? ⟨a.p, 2, none⟩ = some (.int .i64 c.i) := ButW.cell H6.out.wr_p H6.out.c2
  replace z0 := gcell g6 z0
  replace z1 := gcell g6 z1
  replace z2 := gcell g6 z2
  replace z3 := gcell g6 z3
  replace Q5 := Q5.trans (But.of_grown g6)
  clear g6 H5
  refine plan_one ?_
  simp only [nths, nth, List.map_cons, List.map_nil, List.getD_cons_zero, List.getD_cons_succ]
  repeat go_big_quiet_step (fail)
  refine wpQuiet_nil ?_
  clear d2
  go_wp2_with fail
  refine (next_more _ _ _ _ _ (H6.out.w2 i HI.out) (H6.out.wf i 2 HI.out) (show at_ s.ins i < c.i by omega) (by omega)).mono ?_; rintro e w8 ⟨rfl, w7, g7, rfl⟩
  have H7 := Lib.hid ((H6.out.grown g7).bumpI i HI.out HN.out.l2)
  have q8 : But (Wr c a) w6 (w7.setCell ⟨a.bw + i, 2, none⟩ (.int .i64 ((at_ s.ins i + 1 : Nat) : Int))) := (But.of_grown g7).setCell (.inl (.inr (.inr ⟨by show a.bw ≤ a.bw + i; omega, by show a.bw + i < a.bw + c.t; have := HI.out; omega⟩))) _
  replace H7 : Hid (BookAt (w7.setCell ⟨a.bw + i, 2, none⟩ (.int .i64 ((at_ s.ins i + 1 : Nat) : Int))) c a { s with calls := bump s.calls i, ins := bump s.ins i }) := H7
  generalize w7.setCell ⟨a.bw + i, 2, none⟩ (.int .i64 ((at_ s.ins i + 1 : Nat) : Int)) = w8 at *
  go_wp2_with fail
  refine nxt_but q8 (plan_fin ?_)
  simp only [nths, nth, List.map_cons, List.map_nil, List.getD_cons_zero, List.getD_cons_succ]
  repeat go_big_quiet_step (fail)
  refine wpQuiet_nil ?_
  replace z0 := q8.cell hT z0
  replace z1 := q8.cell hT z1
  replace z2 := q8.cell hT z2
  replace z3 := q8.cell hT z3
  replace Q5 := Q5.trans q8
  clear g7 q8 H6

  go_wp2_with fail
  refine wp_region_plang (.one [0, 1, 2, 3, 4, 5, 6, 7, 8] 9 (.fin [10])) (by kernel_rfl) (by kernel_rfl) (by kernel_rfl) ?_
  intro v1 k1
  have HB := Lib.hid (H7.out.grown k1)
  have d0 : ∀ g : GrW v1, g.w.cell? ⟨a.p, 0, none⟩ = some (.int .i64 c.t) := GrW.cell HB.out.c0
  have d1 : ∀ g : GrW v1, g.w.cell? ⟨a.p, 1, none⟩ = some (.int .i64 c.b) := GrW.cell HB.out.c1
  have d2 : ∀ g : GrW v1, g.w.cell? ⟨a.p, 2, none⟩ = some (.int .i64 c.i) := GrW.cell HB.out.c2
  have d3 : ∀ g : GrW v1, g.w.cell? ⟨a.p, 3, none⟩ = some (.int .i64 c.f) := GrW.cell HB.out.c3
  have d4 : ∀ g : GrW v1, g.w.cell? ⟨a.p, 4, none⟩ = some (.int .i64 c.k) := GrW.cell HB.out.c4
  have d5 : ∀ g : GrW v1, g.w.cell? ⟨a.bw + i, 0, none⟩ = some (.int .i64 i) := GrW.cell (HB.out.w0 i HI.out)
  replace z0 := gcell k1 z0
  replace z1 := gcell k1 z1
  replace z2 := gcell k1 z2
  replace z3 := gcell k1 z3
  replace Q5 := Q5.trans (But.of_grown k1)
  clear k1 H7
  refine plan_one ?_
  simp only [nths, nth, List.map_cons, List.map_nil, List.getD_cons_zero, List.getD_cons_succ]
  repeat go_big_quiet_step (fail)
  refine wpQuiet_nil ?_
  clear d0 d1 d2 d3 d4 d5
  go_wp2_with fail
  refine (Op_at _ _ _ _ _ _ _ _ _ HV.out).mono ?_; rintro e v2 ⟨rfl, k2'⟩
  go_wp2_with fail
  refine nxt_grow k2' (plan_fin ?_)
  simp only [nths, nth, List.map_cons, List.map_nil, List.getD_cons_zero, List.getD_cons_succ]
  repeat go_big_quiet_step (fail)
  refine wpQuiet_nil ?_
  replace z0 := gcell k2' z0
  replace z1 := gcell k2' z1
  replace z2 := gcell k2' z2
  replace z3 := gcell k2' z3
  replace Q5 := Q5.trans (But.of_grown k2')
  have HC := Lib.hid (HB.out.grown k2')
  clear k2' HB
  go_wp2_with fail
  refine wp_region_planb (Wr c a) (.one [0, 1, 2, 3, 4, 5] 6 (.fin [])) (by kernel_rfl) (by kernel_rfl) (by kernel_rfl) ?_
  intro v3 k3
  have HD := Lib.hid (HC.out.grown k3)
  have d6 : ∀ g : ButW (Wr c a) v3, g.w.cell? ⟨a.p, 6, none⟩ = some (.map (some a.mc)) := ButW.cell HD.out.wr_p HD.out.c6
  replace z0 : ∀ g : ButW (Wr c a) v3, g.w.cell? ⟨w.heap.size, 0, none⟩ = some (.int .i64 x.kind) := ButW.cell hT (gcell k3 z0)
  replace z1 : ∀ g : ButW (Wr c a) v3, g.w.cell? ⟨w.heap.size, 1, none⟩ = some (.int .u64 x.key) := ButW.cell hT (gcell k3 z1)
  replace z2 : ∀ g : ButW (Wr c a) v3, g.w.cell? ⟨w.heap.size, 2, none⟩ = some (.int .u64 x.val) := ButW.cell hT (gcell k3 z2)
  replace z3 : ∀ g : ButW (Wr c a) v3, g.w.cell? ⟨w.heap.size, 3, none⟩ = some (.int .i64 x.lim) := ButW.cell hT (gcell k3 z3)
  replace Q5 := Q5.trans (But.of_grown k3)
  clear k3 HC
  refine plan_one ?_
  simp only [nths, nth, List.map_cons, List.map_nil, List.getD_cons_zero, List.getD_cons_succ]
  repeat go_big_quiet_step (fail)
  refine wpQuiet_nil ?_
  clear z0 z1 z2 z3 d6
  obtain ⟨u, hu⟩ := (HD.out.sc op HL.out).any
  go_wp2_with fail
  refine (putC_at _ _ _ _ op x u HD.out.mc HL.out hu (HD.out.sf op HL.out)).mono ?_; rintro e v4 ⟨rfl, rfl⟩
  have HE := Lib.hid (HD.out.putOp op HL.out x HO.out)
  have q9 : But (Wr c a) v3 ((v3.alloc (.cells #[.int .i64 x.kind, .int .u64 x.key, .int .u64 x.val, .int .i64 x.lim] 73)).setCell ⟨a.bc + op, 0, none⟩ (.pointer (some ⟨v3.heap.size, 0, none⟩))) :=
    ((But.refl _ _).alloc _ _).setCell (.inl (.inl ⟨by show a.bc ≤ a.bc + op; omega, by show a.bc + op < a.bc + c.ops; have := HL.out; omega⟩)) _
  generalize (v3.alloc (.cells #[.int .i64 x.kind, .int .u64 x.key, .int .u64 x.val, .int .i64 x.lim] 73)).setCell ⟨a.bc + op, 0, none⟩ (.pointer (some ⟨v3.heap.size, 0, none⟩)) = v5 at *
  go_wp2_with fail
  refine nxt_but q9 (plan_fin ?_)
  simp only [nths, List.map_nil]
  refine wpQuiet_nil ?_
  replace Q5 := Q5.trans q9
  clear q9 hu HD
  go_wp2_with fail
  go_ret2
  exact ⟨rfl, Q5.mono HE.out.wr_own, HE.out⟩

theorem Begin_other (w : World) (c : Cf) (a : Ad) (s : St) (h : BookAt w c a s) (hI : Inv c s) (i : Nat) (hi : i < c.t) (x : Cal) (hk : kindOk x) (e1 : ¬ at_ s.calls i = c.k) (h2 : Hid (¬ x.kind = 1)) (op : Nat) (hop : i * c.k + at_ s.calls i = op) :
    Calls Tryz.prog 29 #[.pointer (some ⟨a.p, 0, none⟩), .int .i64 i, x.v] w (Told c a ({ s with calls := bump s.calls i, ops := s.ops ++ [(op, x)] }, op, 0) w) := by
  have HV : Hid (vOp c.t c.b c.i c.f c.k i (at_ s.calls i) = (op : Int)) := Lib.hid (by rw [← hop]; exact vOp_nat h.ok hi (by have := hI.b1 i hi; omega))
  have HL : Hid (op < c.ops) := Lib.hid (by rw [← hop]; exact row_lt hi (by have := hI.b1 i hi; omega))
  have HO : Hid (look s.ops op = none) := Lib.hid (by rw [← hop]; exact hI.newOp hi (by have := hI.b1 i hi; omega))
  clear hop
  have H := Lib.hid h
  have HN := Lib.hid hI
  have HI := Lib.hid hi
  have HK : Hid (decide (1 ≤ x.kind ∧ x.kind ≤ 4) = true) := Lib.hid (decide_eq_true hk)
  have OK := h.ok
  have k2 := OK.k2
  have b1 := hI.b1 i hi
  have i2 := OK.i2
  have b2 := hI.b2 i hi
  clear h hi hk hI
  unfold Cal.v
  go_enter Tryz.func29, Tryz.ntmps29
  go_wp2_with fail
  refine (writer_in _ c a s (H.out.grown (by go_grown)) i HI.out).mono ?_; rintro e w1 ⟨rfl, g1⟩
  have z0 : w1.cell? ⟨w.heap.size, 0, none⟩ = some (.int .i64 x.kind) := gcell g1 (by simp)
  go_wp2_with fail
  refine (isKind_at _ _ _ HK.out).mono ?_; rintro e w2 ⟨rfl, g2⟩
  replace z0 := gcell g2 z0
  have z1 : w2.cell? ⟨w.heap.size, 1, none⟩ = some (.int .u64 x.key) := gcell g2 (gcell g1 (by simp))
  have z2 : w2.cell? ⟨w.heap.size, 2, none⟩ = some (.int .u64 x.val) := gcell g2 (gcell g1 (by simp))
  have z3 : w2.cell? ⟨w.heap.size, 3, none⟩ = some (.int .i64 x.lim) := gcell g2 (gcell g1 (by simp))
  have g : Grown w w2 := gtr (gtr (by go_grown) g1) g2
  have H2 := Lib.hid (H.out.grown g)
  have hT : ¬ Wr c a w.heap.size := H.out.wr_new (Nat.le_refl _)
  go_wp2_with fail
  refine wp_region_planb (Wr c a) (.one [0, 1, 2, 3, 4, 5, 6, 7, 8] 9 (.fin [10, 11, 12, 13, 14])) (by kernel_rfl) (by kernel_rfl) (by kernel_rfl) ?_
  intro w3 g3
  have H3 := Lib.hid (H2.out.grown g3)
  replace g := gtr g g3
  have d4 : ∀ g : ButW (Wr c a) w3, g.w.cell? ⟨a.p, 4, none⟩ = some (.int .i64 c.k) := ButW.cell H3.out.wr_p H3.out.c4
  replace z0 := gcell g3 z0
  replace z1 := gcell g3 z1
  replace z2 := gcell g3 z2
  replace z3 := gcell g3 z3
  clear g1 g2 g3 H2 H
  refine plan_one ?_
  simp only [nths, nth, List.map_cons, List.map_nil, List.getD_cons_zero, List.getD_cons_succ]
  repeat go_big_quiet_step (fail)
  refine wpQuiet_nil ?_
  clear d4
  go_wp2_with fail
  refine (next_more _ _ _ _ _ (H3.out.w1 i HI.out) (H3.out.wf i 1 HI.out) (show at_ s.calls i < c.k by omega) (by omega)).mono ?_; rintro e w5 ⟨rfl, w4, g4, rfl⟩
  have H5 := Lib.hid ((H3.out.grown g4).bumpC i HI.out HN.out.l1)
  have q5 : But (Wr c a) w3 (w4.setCell ⟨a.bw + i, 1, none⟩ (.int .i64 ((at_ s.calls i + 1 : Nat) : Int))) := (But.of_grown g4).setCell (.inl (.inr (.inr ⟨by show a.bw ≤ a.bw + i; omega, by show a.bw + i < a.bw + c.t; have := HI.out; omega⟩))) _
  generalize w4.setCell ⟨a.bw + i, 1, none⟩ (.int .i64 ((at_ s.calls i + 1 : Nat) : Int)) = w5 at *
  go_wp2_with fail
  refine nxt_but q5 (plan_fin ?_)
  simp only [nths, nth, List.map_cons, List.map_nil, List.getD_cons_zero, List.getD_cons_succ]
  repeat go_big_quiet_step (fail)
  refine wpQuiet_nil ?_
  replace z0 := q5.cell hT z0
  replace z1 := q5.cell hT z1
  replace z2 := q5.cell hT z2
  replace z3 := q5.cell hT z3
  have Q5 : But (Wr c a) w w5 := (But.of_grown g).trans q5
  clear g4 q5 H3 g
  have e4 : (x.kind == 1) = false := by simp [h2.out]
  have H7 := H5

  go_wp2_with fail
  refine wp_region_plang (.one [0, 1, 2, 3, 4, 5, 6, 7, 8] 9 (.fin [10])) (by kernel_rfl) (by kernel_rfl) (by kernel_rfl) ?_
  intro v1 k1
  have HB := Lib.hid (H7.out.grown k1)
  have d0 : ∀ g : GrW v1, g.w.cell? ⟨a.p, 0, none⟩ = some (.int .i64 c.t) := GrW.cell HB.out.c0
  have d1 : ∀ g : GrW v1, g.w.cell? ⟨a.p, 1, none⟩ = some (.int .i64 c.b) := GrW.cell HB.out.c1
  have d2 : ∀ g : GrW v1, g.w.cell? ⟨a.p, 2, none⟩ = some (.int .i64 c.i) := GrW.cell HB.out.c2
  have d3 : ∀ g : GrW v1, g.w.cell? ⟨a.p, 3, none⟩ = some (.int .i64 c.f) := GrW.cell HB.out.c3
  have d4 : ∀ g : GrW v1, g.w.cell? ⟨a.p, 4, none⟩ = some (.int .i64 c.k) := GrW.cell HB.out.c4
  have d5 : ∀ g : GrW v1, g.w.cell? ⟨a.bw + i, 0, none⟩ = some (.int .i64 i) := GrW.cell (HB.out.w0 i HI.out)
  replace z0 := gcell k1 z0
  replace z1 := gcell k1 z1
  replace z2 := gcell k1 z2
  replace z3 := gcell k1 z3
  replace Q5 := Q5.trans (But.of_grown k1)
  clear k1 H7
  refine plan_one ?_
  simp only [nths, nth, List.map_cons, List.map_nil, List.getD_cons_zero, List.getD_cons_succ]
  repeat go_big_quiet_step (fail)
  refine wpQuiet_nil ?_
  clear d0 d1 d2 d3 d4 d5
  go_wp2_with fail
  refine (Op_at _ _ _ _ _ _ _ _ _ HV.out).mono ?_; rintro e v2 ⟨rfl, k2'⟩
  go_wp2_with fail
  refine nxt_grow k2' (plan_fin ?_)
  simp only [nths, nth, List.map_cons, List.map_nil, List.getD_cons_zero, List.getD_cons_succ]
  repeat go_big_quiet_step (fail)
  refine wpQuiet_nil ?_
  replace z0 := gcell k2' z0
  replace z1 := gcell k2' z1
  replace z2 := gcell k2' z2
  replace z3 := gcell k2' z3
  replace Q5 := Q5.trans (But.of_grown k2')
  have HC := Lib.hid (HB.out.grown k2')
  clear k2' HB
  go_wp2_with fail
  refine wp_region_planb (Wr c a) (.one [0, 1, 2, 3, 4, 5] 6 (.fin [])) (by kernel_rfl) (by kernel_rfl) (by kernel_rfl) ?_
  intro v3 k3
  have HD := Lib.hid (HC.out.grown k3)
  have d6 : ∀ g : ButW (Wr c a) v3, g.w.cell? ⟨a.p, 6, none⟩ = some (.map (some a.mc)) := ButW.cell HD.out.wr_p HD.out.c6
  replace z0 : ∀ g : ButW (Wr c a) v3, g.w.cell? ⟨w.heap.size, 0, none⟩ = some (.int .i64 x.kind) := ButW.cell hT (gcell k3 z0)
  replace z1 : ∀ g : ButW (Wr c a) v3, g.w.cell? ⟨w.heap.size, 1, none⟩ = some (.int .u64 x.key) := ButW.cell hT (gcell k3 z1)
  replace z2 : ∀ g : ButW (Wr c a) v3, g.w.cell? ⟨w.heap.size, 2, none⟩ = some (.int .u64 x.val) := ButW.cell hT (gcell k3 z2)
  replace z3 : ∀ g : ButW (Wr c a) v3, g.w.cell? ⟨w.heap.size, 3, none⟩ = some (.int .i64 x.lim) := ButW.cell hT (gcell k3 z3)
  replace Q5 := Q5.trans (But.of_grown k3)
  clear k3 HC
  refine plan_one ?_
  simp only [nths, nth, List.map_cons, List.map_nil, List.getD_cons_zero, List.getD_cons_succ]
  repeat go_big_quiet_step (fail)
  refine wpQuiet_nil ?_
  clear z0 z1 z2 z3 d6
  obtain ⟨u, hu⟩ := (HD.out.sc op HL.out).any
  go_wp2_with fail
  refine (putC_at _ _ _ _ op x u HD.out.mc HL.out hu (HD.out.sf op HL.out)).mono ?_; rintro e v4 ⟨rfl, rfl⟩
  have HE := Lib.hid (HD.out.putOp op HL.out x HO.out)
  have q9 : But (Wr c a) v3 ((v3.alloc (.cells #[.int .i64 x.kind, .int .u64 x.key, .int .u64 x.val, .int .i64 x.lim] 73)).setCell ⟨a.bc + op, 0, none⟩ (.pointer (some ⟨v3.heap.size, 0, none⟩))) :=
    ((But.refl _ _).alloc _ _).setCell (.inl (.inl ⟨by show a.bc ≤ a.bc + op; omega, by show a.bc + op < a.bc + c.ops; have := HL.out; omega⟩)) _
  generalize (v3.alloc (.cells #[.int .i64 x.kind, .int .u64 x.key, .int .u64 x.val, .int .i64 x.lim] 73)).setCell ⟨a.bc + op, 0, none⟩ (.pointer (some ⟨v3.heap.size, 0, none⟩)) = v5 at *
  go_wp2_with fail
  refine nxt_but q9 (plan_fin ?_)
  simp only [nths, List.map_nil]
  refine wpQuiet_nil ?_
  replace Q5 := Q5.trans q9
  clear q9 hu HD
  go_wp2_with fail
  go_ret2
  exact ⟨rfl, Q5.mono HE.out.wr_own, HE.out⟩

theorem Begin_any (w : World) (c : Cf) (a : Ad) (s : St) (h : BookAt w c a s) (hI : Inv c s) (th : Int) (x : Cal) (r : St × Nat × Nat) (hr : beginI c s th x = r) :
    Calls Tryz.prog 29 #[.pointer (some ⟨a.p, 0, none⟩), .int .i64 th, x.v] w (Told c a r w) := by
  subst hr
  unfold beginI
  by_cases ht : th < 0 ∨ c.t ≤ th
  · rw [if_pos (ht.elim .inl (fun q => .inr (.inl q)))]
    exact Begin_noThread w c a s h th x ht
  · obtain ⟨i, rfl⟩ : ∃ i : Nat, th = i := ⟨th.toNat, by omega⟩
    have hi : i < c.t := by omega
    by_cases hk : kindOk x
    · rw [if_neg (by simp [hk]; omega)]
      simp only [Int.toNat_natCast]
      unfold beginS
      by_cases e1 : at_ s.calls i = c.k
      · rw [if_pos e1]; exact Begin_retired w c a s h hI i hi x hk e1
      · rw [if_neg e1]
        by_cases e2 : x.kind = 1
        · by_cases e3 : at_ s.ins i = c.i
          · rw [if_pos ⟨e2, e3⟩]; exact Begin_full w c a s h hI i hi x hk e1 (Lib.hid e2) e3
          · rw [if_neg (fun q => e3 q.2), if_pos e2]; exact Begin_insert w c a s h hI i hi x hk e1 (Lib.hid e2) e3 _ rfl
        · rw [if_neg (fun q => e2 q.1), if_neg e2]; exact Begin_other w c a s h hI i hi x hk e1 (Lib.hid e2) _ rfl
    · rw [if_pos (.inr (.inr hk))]
      exact Begin_noKind w c a s h i hi x hk

theorem Make_noThread (w : World) (c : Cf) (a : Ad) (s : St) (h : BookAt w c a s) (hI : Inv c s) (th op : Int) (ht : th < 0 ∨ c.t ≤ th) :
    Calls Tryz.prog 30 #[.pointer (some ⟨a.p, 0, none⟩), .int .i64 th, .int .i64 op] w (Told c a (s, 0, 1) w) := by
  obtain ⟨o, ho⟩ : ∃ o, lookI s.ops op = o := ⟨_, rfl⟩
  have H := Lib.hid h
  have HN := Lib.hid hI
  have HO := Lib.hid ho
  have HT := Lib.hid ht
  clear h hI ho ht
  go_enter Tryz.func30, Tryz.ntmps30
  go_wp2_with fail
  refine (writer_out _ c a s H.out th HT.out).mono ?_; rintro e w1 ⟨rfl, g1⟩
  go_wp2_with fail
  refine (Call_at _ c a s (H.out.grown g1) HN.out op o HO.out).mono ?_; rintro e w2 ⟨rfl, g2⟩
  simp only [Cal.v]
  go_wp2
  go_ret2
  have g : Grown w w2 := gtr g1 g2
  exact ⟨rfl, But.of_grown (by go_grown), H.out.grown (by go_grown)⟩

theorem Make_noOp (w : World) (c : Cf) (a : Ad) (s : St) (h : BookAt w c a s) (hI : Inv c s) (i : Nat) (hi : i < c.t) (op : Int) (ho : lookI s.ops op = none) :
    Calls Tryz.prog 30 #[.pointer (some ⟨a.p, 0, none⟩), .int .i64 i, .int .i64 op] w (Told c a (s, 0, 1) w) := by
  have H := Lib.hid h
  have HN := Lib.hid hI
  have HO := Lib.hid ho
  have HI := Lib.hid hi
  clear h hI ho hi
  go_enter Tryz.func30, Tryz.ntmps30
  go_wp2_with fail
  refine (writer_in _ c a s H.out i HI.out).mono ?_; rintro e w1 ⟨rfl, g1⟩
  go_wp2_with fail
  refine (Call_at _ c a s (H.out.grown g1) HN.out op none HO.out).mono ?_; rintro e w2 ⟨rfl, g2⟩
  simp only [Option.getD_none, Cal.v, Cal.zero, show errOf (none : Option Cal) = 4 from rfl]
  go_wp2
  go_ret2
  have g : Grown w w2 := gtr g1 g2
  exact ⟨rfl, But.of_grown (by go_grown), H.out.grown (by go_grown)⟩

theorem Make_full (w : World) (c : Cf) (a : Ad) (s : St) (h : BookAt w c a s) (hI : Inv c s) (i : Nat) (hi : i < c.t) (op : Int) (x : Cal) (ho : lookI s.ops op = some x) (e1 : at_ s.made i = 2 * c.k) :
    Calls Tryz.prog 30 #[.pointer (some ⟨a.p, 0, none⟩), .int .i64 i, .int .i64 op] w (Told c a (s, 0, 3) w) := by
  have OK := h.ok
  have k2 := OK.k2
  have k1 := OK.k1
  have b3 := hI.b3 i hi
  have H := Lib.hid h
  have HN := Lib.hid hI
  have HO := Lib.hid ho
  have HI := Lib.hid hi
  clear h hI ho hi
  go_enter Tryz.func30, Tryz.ntmps30
  go_wp2_with fail
  refine (writer_in _ c a s H.out i HI.out).mono ?_; rintro e w1 ⟨rfl, g1⟩
  go_wp2_with fail
  refine (Call_at _ c a s (H.out.grown g1) HN.out op (some x) HO.out).mono ?_; rintro e w2 ⟨rfl, g2⟩
  simp only [Option.getD_some, Cal.v, show errOf (some x) = 0 from rfl]
  have g : Grown w w2 := gtr g1 g2
  go_wp2_with fail
  refine wp_region_planb (Wr c a) (.one [0, 1, 2, 3, 4, 5, 6, 7, 8, 9] 10 (.fin [11, 12, 13, 14, 15])) (by kernel_rfl) (by kernel_rfl) (by kernel_rfl) ?_
  intro w3 g3
  replace g : Grown w w3 := gtr (gtr g (by go_grown)) g3
  have H3 := Lib.hid (H.out.grown g)
  have d4 : ∀ g : ButW (Wr c a) w3, g.w.cell? ⟨a.p, 4, none⟩ = some (.int .i64 c.k) := ButW.cell H3.out.wr_p H3.out.c4
  clear g1 g2 g3
  refine plan_one ?_
  simp only [nths, nth, List.map_cons, List.map_nil, List.getD_cons_zero, List.getD_cons_succ]
  repeat go_big_quiet_step (fail)
  refine wpQuiet_nil ?_
  clear d4
  go_wp2_with fail
  rw [show 2 * (c.k : Int) = ((2 * c.k : Nat) : Int) by omega]
  refine (next_none _ _ _ _ _ (H3.out.w3 i HI.out) (by omega)).mono ?_; rintro e w4 ⟨rfl, g4⟩
  go_wp2_with fail
  refine nxt_but (But.of_grown g4) (plan_fin ?_)
  simp only [nths, nth, List.map_cons, List.map_nil, List.getD_cons_zero, List.getD_cons_succ]
  repeat go_big_quiet_step (fail)
  refine wpQuiet_nil ?_
  go_wp2_with fail
  go_ret2
  exact ⟨rfl, But.of_grown (gtr g g4), H3.out.grown g4⟩

theorem Make_ok (w : World) (c : Cf) (a : Ad) (s : St) (h : BookAt w c a s) (hI : Inv c s) (i : Nat) (hi : i < c.t) (op : Nat) (x : Cal) (ho : lookI s.ops op = some x) (e1 : ¬ at_ s.made i = 2 * c.k) (nd : Nat) (hnd : 1 + c.b + i * (2 * c.k) + at_ s.made i = nd) :
    Calls Tryz.prog 30 #[.pointer (some ⟨a.p, 0, none⟩), .int .i64 i, .int .i64 op] w (Told c a ({ s with made := bump s.made i, nodes := s.nodes ++ [(nd, op)] }, nd, 0) w) := by
  have HV : Hid (vNode c.t c.b c.i c.f c.k i (at_ s.made i) = (nd : Int)) := Lib.hid (by rw [← hnd]; exact vNode_nat h.ok hi (by have := hI.b3 i hi; omega))
  have HL : Hid (nd < c.nodes) := Lib.hid (by
    have q := row_lt (k := 2 * c.k) hi (show at_ s.made i < 2 * c.k by have := hI.b3 i hi; omega)
    have e2 : c.t * (2 * c.k) = 2 * (c.t * c.k) := by rw [Nat.mul_left_comm]
    unfold Cf.nodes
    omega)
  have HM : Hid (look s.nodes nd = none) := Lib.hid (by rw [← hnd]; exact hI.newNode hi (by have := hI.b3 i hi; omega))
  clear hnd
  have OK := h.ok
  have k2 := OK.k2
  have k1 := OK.k1
  have b3 := hI.b3 i hi
  have H := Lib.hid h
  have HN := Lib.hid hI
  have HO := Lib.hid ho
  have HI := Lib.hid hi
  clear h hI ho hi
  go_enter Tryz.func30, Tryz.ntmps30
  go_wp2_with fail
  refine (writer_in _ c a s H.out i HI.out).mono ?_; rintro e w1 ⟨rfl, g1⟩
  go_wp2_with fail
  refine (Call_at _ c a s (H.out.grown g1) HN.out op (some x) HO.out).mono ?_; rintro e w2 ⟨rfl, g2⟩
  simp only [Option.getD_some, Cal.v, show errOf (some x) = 0 from rfl]
  have g : Grown w w2 := gtr g1 g2
  go_wp2_with fail
  refine wp_region_planb (Wr c a) (.one [0, 1, 2, 3, 4, 5, 6, 7, 8, 9] 10 (.fin [11, 12, 13, 14, 15])) (by kernel_rfl) (by kernel_rfl) (by kernel_rfl) ?_
  intro w3 g3
  replace g : Grown w w3 := gtr (gtr g (by go_grown)) g3
  have H3 := Lib.hid (H.out.grown g)
  have d4 : ∀ g : ButW (Wr c a) w3, g.w.cell? ⟨a.p, 4, none⟩ = some (.int .i64 c.k) := ButW.cell H3.out.wr_p H3.out.c4
  clear g1 g2 g3
  refine plan_one ?_
  simp only [nths, nth, List.map_cons, List.map_nil, List.getD_cons_zero, List.getD_cons_succ]
  repeat go_big_quiet_step (fail)
  refine wpQuiet_nil ?_
  clear d4
  go_wp2_with fail
  rw [show 2 * (c.k : Int) = ((2 * c.k : Nat) : Int) by omega]
  refine (next_more _ _ _ _ _ (H3.out.w3 i HI.out) (H3.out.wf i 3 HI.out) (show at_ s.made i < 2 * c.k by omega) (by omega)).mono ?_; rintro e w5 ⟨rfl, w4, g4, rfl⟩
  have H5 := Lib.hid ((H3.out.grown g4).bumpM i HI.out HN.out.l3)
  have q5 : But (Wr c a) w3 (w4.setCell ⟨a.bw + i, 3, none⟩ (.int .i64 ((at_ s.made i + 1 : Nat) : Int))) := (But.of_grown g4).setCell (.inl (.inr (.inr ⟨by show a.bw ≤ a.bw + i; omega, by show a.bw + i < a.bw + c.t; have := HI.out; omega⟩))) _
  generalize w4.setCell ⟨a.bw + i, 3, none⟩ (.int .i64 ((at_ s.made i + 1 : Nat) : Int)) = w5 at *
  go_wp2_with fail
  refine nxt_but q5 (plan_fin ?_)
  simp only [nths, nth, List.map_cons, List.map_nil, List.getD_cons_zero, List.getD_cons_succ]
  repeat go_big_quiet_step (fail)
  refine wpQuiet_nil ?_
  have Q5 : But (Wr c a) w w5 := (But.of_grown g).trans q5
  clear g4 q5 H3 g
  go_wp2_with fail
  refine wp_region_plang (.one [0, 1, 2, 3, 4, 5, 6, 7, 8] 9 (.fin [10])) (by kernel_rfl) (by kernel_rfl) (by kernel_rfl) ?_
  intro v1 k1
  have HB := Lib.hid (H5.out.grown k1)
  have d0 : ∀ g : GrW v1, g.w.cell? ⟨a.p, 0, none⟩ = some (.int .i64 c.t) := GrW.cell HB.out.c0
  have d1 : ∀ g : GrW v1, g.w.cell? ⟨a.p, 1, none⟩ = some (.int .i64 c.b) := GrW.cell HB.out.c1
  have d2 : ∀ g : GrW v1, g.w.cell? ⟨a.p, 2, none⟩ = some (.int .i64 c.i) := GrW.cell HB.out.c2
  have d3 : ∀ g : GrW v1, g.w.cell? ⟨a.p, 3, none⟩ = some (.int .i64 c.f) := GrW.cell HB.out.c3
  have d4 : ∀ g : GrW v1, g.w.cell? ⟨a.p, 4, none⟩ = some (.int .i64 c.k) := GrW.cell HB.out.c4
  have d5 : ∀ g : GrW v1, g.w.cell? ⟨a.bw + i, 0, none⟩ = some (.int .i64 i) := GrW.cell (HB.out.w0 i HI.out)
  replace Q5 := Q5.trans (But.of_grown k1)
  clear k1 H5
  refine plan_one ?_
  simp only [nths, nth, List.map_cons, List.map_nil, List.getD_cons_zero, List.getD_cons_succ]
  repeat go_big_quiet_step (fail)
  refine wpQuiet_nil ?_
  clear d0 d1 d2 d3 d4 d5
  go_wp2_with fail
  refine (Node_at _ _ _ _ _ _ _ _ _ HV.out).mono ?_; rintro e v2 ⟨rfl, k2'⟩
  go_wp2_with fail
  refine nxt_grow k2' (plan_fin ?_)
  simp only [nths, nth, List.map_cons, List.map_nil, List.getD_cons_zero, List.getD_cons_succ]
  repeat go_big_quiet_step (fail)
  refine wpQuiet_nil ?_
  replace Q5 := Q5.trans (But.of_grown k2')
  have HC := Lib.hid (HB.out.grown k2')
  clear k2' HB
  have c7 := HC.out.c7
  go_wp2_with fail
  obtain ⟨u, hu⟩ := (HC.out.sn nd HL.out).any
  refine (putN_at _ _ _ _ nd op u HC.out.mn HL.out hu (HC.out.nf nd HL.out)).mono ?_; rintro e v4 ⟨rfl, rfl⟩
  have HE := Lib.hid (HC.out.putNode nd HL.out op HM.out)
  have q9 : But (Wr c a) v2 ((v2.alloc (.cells #[.int .i64 op] 3)).setCell ⟨a.bn + nd, 0, none⟩ (.pointer (some ⟨v2.heap.size, 0, none⟩))) :=
    ((But.refl _ _).alloc _ _).setCell (.inl (.inr (.inl ⟨by show a.bn ≤ a.bn + nd; omega, by show a.bn + nd < a.bn + c.nodes; have := HL.out; omega⟩))) _
  generalize (v2.alloc (.cells #[.int .i64 op] 3)).setCell ⟨a.bn + nd, 0, none⟩ (.pointer (some ⟨v2.heap.size, 0, none⟩)) = v5 at *
  replace Q5 := Q5.trans q9
  clear q9 hu HC c7
  go_wp2_with fail
  go_ret2
  exact ⟨rfl, Q5.mono HE.out.wr_own, HE.out⟩

theorem Make_any (w : World) (c : Cf) (a : Ad) (s : St) (h : BookAt w c a s) (hI : Inv c s) (th op : Int) (r : St × Nat × Nat) (hr : makeI c s th op = r) :
    Calls Tryz.prog 30 #[.pointer (some ⟨a.p, 0, none⟩), .int .i64 th, .int .i64 op] w (Told c a r w) := by
  subst hr
  unfold makeI
  by_cases ht : th < 0 ∨ c.t ≤ th
  · rw [if_pos (ht.elim .inl (fun q => .inr (.inl q)))]
    exact Make_noThread w c a s h hI th op ht
  · obtain ⟨i, rfl⟩ : ∃ i : Nat, th = i := ⟨th.toNat, by omega⟩
    have hi : i < c.t := by omega
    cases ho : lookI s.ops op with
    | none =>
      rw [if_pos (.inr (.inr rfl))]
      exact Make_noOp w c a s h hI i hi op ho
    | some x =>
      rw [if_neg (by simp; omega)]
      obtain ⟨n, rfl⟩ : ∃ n : Nat, op = n := by
        by_cases h0 : op < 0
        · simp [lookI, h0] at ho
        · exact ⟨op.toNat, by omega⟩
      simp only [Int.toNat_natCast]
      unfold makeS
      by_cases e1 : at_ s.made i = 2 * c.k
      · rw [if_pos e1]; exact Make_full w c a s h hI i hi n x ho e1
      · rw [if_neg e1]; exact Make_ok w c a s h hI i hi n x ho e1 _ rfl
theorem Make_nil (w : World) (th op : Int) :
    Calls Tryz.prog 30 #[.pointer none, .int .i64 th, .int .i64 op] w fun e w' => e = .returned (.tuple #[.int .i64 0, .int .i64 1]) ∧ Grown w w' := by
  go_enter Tryz.func30, Tryz.ntmps30
  go_wp2_with fail
  refine (writer_nil _ _).mono ?_; rintro e w1 ⟨rfl, g1⟩
  go_wp2_with fail
  refine (Call_nil _ _).mono ?_; rintro e w2 ⟨rfl, g2⟩
  simp only [Cal.v, Cal.zero]
  go_wp2
  go_ret2
  exact ⟨rfl, by have := gtr g1 g2; go_grown⟩
end Go.Proofs.YtagapfejgmmppaaGreat
