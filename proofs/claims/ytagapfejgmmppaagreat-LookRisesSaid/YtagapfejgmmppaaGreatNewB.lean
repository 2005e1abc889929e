/- Package book: New. -/
import Derived.Test.YtagapfejgmmppaaGreatBegin
namespace Go.Proofs.YtagapfejgmmppaaGreat
open Go.ChangeShapes Go.WideShapes Go.ChangeAt Go.RowKit
set_option maxRecDepth 100000
def St.new (c : Cf) : St := ⟨List.replicate c.t 0, List.replicate c.t 0, List.replicate c.t 0, [], []⟩
theorem at_zeros (n h : Nat) : at_ (List.replicate n 0) h = 0 := by
  unfold at_
  simp only [List.getD, List.getElem?_replicate]
  split <;> rfl
theorem Inv.new {c : Cf} : Inv c (St.new c) := by
  refine ⟨by simp [St.new], by simp [St.new], by simp [St.new], fun h _ => ?_, fun h _ => ?_, fun h _ => ?_, by simp [St.new], by simp [St.new], by simp [St.new], by simp [St.new]⟩
  all_goals (simp only [St.new, at_zeros]; omega)

/-- A map of empty slots. -/
structure SlotsAt (w : World) (mb base n : Nat) : Prop where
  map : MapAt w mb base n
  cell : ∀ j, j < n → w.cell? ⟨base + j, 0, none⟩ = some (.pointer none)
  free : ∀ j, j < n → w.frozen? ⟨base + j, 0, none⟩ = false
  lt : base + n ≤ w.heap.size
theorem Slots.at_ {w w' : World} {mb base n : Nat} (h : Slots w w' mb base n) : SlotsAt w' mb base n := ⟨h.map, h.cell, h.free, by have := h.size; omega⟩
theorem SlotsAt.grown {w w' : World} {mb base n : Nat} (h : SlotsAt w mb base n) (g : Grown w w') : SlotsAt w' mb base n :=
  ⟨h.map.grown g, fun j hj => gcell g (h.cell j hj), fun j hj => (g.2.1 _).trans (h.free j hj), Nat.le_trans h.lt g.2.2⟩
theorem MapAt.apart {w : World} {m m' b b' n n' : Nat} (h : MapAt w m b n) (h' : MapAt w m' b' n') (hn : n ≠ n') : m ≠ m' := by
  rintro rfl
  have e := h.symm.trans h'
  simp only [Option.some.injEq, Obj.map.injEq] at e
  exact hn e.2
theorem MapAt.zero {w : World} {mb base base' : Nat} (h : MapAt w mb base 0) : MapAt w mb base' 0 := h

theorem New_bad (t b i f k : Int) (w : World) (h : ¬ zOk t b i f k = true) :
    Calls Tryz.prog 58 #[.agg #[.int .i64 t, .int .i64 b, .int .i64 i, .int .i64 f, .int .i64 k]] w fun e w' => e = .returned (.tuple #[.pointer none, .int .i64 1]) ∧ Grown w w' := by
  have hu : (if zOk t b i f k = true then 0 else 1) = (1 : Int) := if_neg h
  have HU := Lib.hid hu; clear hu h
  go_enter Tryz.func58, Tryz.ntmps58
  go_wp2_with fail
  refine (May_at _ _ _ _ _ _ _ HU.out).mono ?_; rintro e w1 ⟨rfl, g1⟩
  go_wp2_with fail
  go_ret2
  exact ⟨rfl, gtr (by go_grown) g1⟩

/-- The loop that makes the writers. -/
structure WLoop (v0 wr : World) (mw k : Nat) : Prop where
  but : But (· = mw) v0 wr
  map : MapAt wr mw v0.heap.size k
  size : wr.heap.size = v0.heap.size + k
  c0 : ∀ j, j < k → wr.cell? ⟨v0.heap.size + j, 0, none⟩ = some (.int .i64 j)
  c1 : ∀ j o, j < k → 1 ≤ o → o < 4 → wr.cell? ⟨v0.heap.size + j, o, none⟩ = some (.int .i64 0)
  free : ∀ j o, j < k → wr.frozen? ⟨v0.heap.size + j, o, none⟩ = false
theorem WLoop.more {v0 wr w2 : World} {mw k : Nat} {t : TypeId} (h : WLoop v0 wr mw k) (h2 : MapAt w2 mw v0.heap.size (k + 1)) (hm : mw < v0.heap.size)
    (q : But (· = mw) (wr.alloc (.cells #[.int .i64 k, .int .i64 0, .int .i64 0, .int .i64 0] t)) w2) (hs : w2.heap.size = wr.heap.size + 1) : WLoop v0 w2 mw (k + 1) := by
  have sz := h.size
  refine ⟨(h.but.alloc _ _).trans q, h2, by omega, fun j hj => ?_, fun j o hj o1 o4 => ?_, fun j o hj => ?_⟩
  · refine q.cell (by omega) ?_
    by_cases hjk : j < k
    · exact acell (h.c0 j hjk)
    · obtain rfl : j = k := by omega
      rw [← sz]; simp
  · refine q.cell (by omega) ?_
    by_cases hjk : j < k
    · exact acell (h.c1 j o hjk o1 o4)
    · obtain rfl : j = k := by omega
      rw [← sz]
      have : o = 1 ∨ o = 2 ∨ o = 3 := by omega
      rcases this with rfl | rfl | rfl <;> simp
  · refine q.frozen ?_
    by_cases hjk : j < k
    · exact (frozen?_alloc_cells _ _ _ _).trans (h.free j o hjk)
    · obtain rfl : j = k := by omega
      exact (frozen?_alloc_cells _ _ _ _).trans (by
        have : wr.heap[v0.heap.size + j]? = none := Array.getElem?_eq_none (by omega)
        simp [World.frozen?, this])

/-- What New tells. -/
def NewBook (c : Cf) (w : World) (e : Ending) (w' : World) : Prop :=
  ∃ a : Ad, e = .returned (.tuple #[.pointer (some ⟨a.p, 0, none⟩), .int .i64 0]) ∧ Grown w w' ∧ BookAt w' c a (St.new c) ∧ a.lo = w.heap.size ∧ a.hi = w'.heap.size

/-- What there is ahead of that loop. -/
structure Pre (w v : World) (c : Cf) (p mw mc mn bc bn : Nat) : Prop where
  gr : Grown w v
  pw : ∀ base, MapAt v mw base 0
  pc : SlotsAt v mc bc c.ops
  pn : SlotsAt v mn bn c.nodes
  lo : w.heap.size ≤ bc
  o2 : bc + c.ops ≤ bn
  o3 : bn + c.nodes ≤ p
  lm : w.heap.size ≤ mw
  pv : v.heap.size = p + 1
  cells : v.cell? ⟨p, 0, none⟩ = some (.int .i64 c.t) ∧ v.cell? ⟨p, 1, none⟩ = some (.int .i64 c.b) ∧ v.cell? ⟨p, 2, none⟩ = some (.int .i64 c.i) ∧ v.cell? ⟨p, 3, none⟩ = some (.int .i64 c.f) ∧ v.cell? ⟨p, 4, none⟩ = some (.int .i64 c.k) ∧
    v.cell? ⟨p, 5, none⟩ = some (.map (some mw)) ∧ v.cell? ⟨p, 6, none⟩ = some (.map (some mc)) ∧ v.cell? ⟨p, 7, none⟩ = some (.map (some mn))
theorem Pre.lt {w v : World} {c : Cf} {p mw mc mn bc bn : Nat} (h : Pre w v c p mw mc mn bc bn) : mw < v.heap.size := (h.pw 0).lt

theorem Pre.book {w v wr : World} {c : Cf} {p mw mc mn bc bn : Nat} (h : Pre w v c p mw mc mn bc bn) (hok : c.Ok) (L : WLoop v wr mw c.t)   :
    Grown w wr ∧ BookAt wr c ⟨w.heap.size, wr.heap.size, p, mw, mc, mn, v.heap.size, bc, bn⟩ (St.new c) := by
  obtain ⟨e0, e1, e2, e3, e4, e5, e6, e7⟩ := h.cells
  have hne : mw ≠ mc := (h.pw 0).apart h.pc.map (by have := Nat.mul_pos (show 0 < c.t from hok.t1) (show 0 < c.k from hok.k1); unfold Cf.ops; omega)
  have hne' : mw ≠ mn := (h.pw 0).apart h.pn.map (by unfold Cf.nodes; omega)
  have hp : ¬ p = mw := (h.pw 0).ne e0
  have hl := h.lo; have h2 := h.o2; have h3 := h.o3; have pv := h.pv; have sz := L.size
  refine ⟨L.but.fresh h.gr (fun i hi => by have := h.lm; omega), ⟨hok, L.but.cell hp e0, L.but.cell hp e1, L.but.cell hp e2, L.but.cell hp e3, L.but.cell hp e4, L.but.cell hp e5, L.but.cell hp e6, L.but.cell hp e7,
    L.map, h.pc.map.but L.but (fun e => hne e.symm), h.pn.map.but L.but (fun e => hne' e.symm), L.c0, fun j hj => ?_, fun j hj => ?_, fun j hj => ?_, fun j o hj => L.free j o hj, fun n hn => ?_, fun n hn => ?_, fun n hn => ?_, fun n hn => ?_,
    hl, h2, h3, ?_, ?_, Nat.le_refl _⟩⟩
  · simp only [St.new, at_zeros]; exact L.c1 j 1 hj (by omega) (by omega)
  · simp only [St.new, at_zeros]; exact L.c1 j 2 hj (by omega) (by omega)
  · simp only [St.new, at_zeros]; exact L.c1 j 3 hj (by omega) (by omega)
  · exact L.but.cell (fun e => (h.pw 0).ne (h.pc.cell n hn) e) (h.pc.cell n hn)
  · exact L.but.frozen (h.pc.free n hn)
  · exact L.but.cell (fun e => (h.pw 0).ne (h.pn.cell n hn) e) (h.pn.cell n hn)
  · exact L.but.frozen (h.pn.free n hn)
  · show p < v.heap.size; omega
  · show v.heap.size + c.t ≤ wr.heap.size; omega

set_option maxHeartbeats 4000000 in
theorem New_at (w : World) (c : Cf) (hok : c.Ok) : Calls Tryz.prog 58 #[c.v] w (NewBook c w) := by
  have hu : (if zOk c.t c.b c.i c.f c.k = true then 0 else 1) = (0 : Int) := if_pos hok.z
  have HU := Lib.hid hu; clear hu
  have HO : Hid (zOps c.t c.b c.i c.f c.k = ((c.ops : Nat) : Int)) := Lib.hid ((if_pos hok.z).trans (by simp [Cf.ops]))
  have HN : Hid (zNodes c.t c.b c.i c.f c.k = ((c.nodes : Nat) : Int)) := Lib.hid ((if_pos hok.z).trans (by simp [Cf.nodes]))
  have tk := hok.tk
  have b64 := hok.b64
  have hops : c.ops ≤ 99999 := by unfold Cf.ops; omega
  have hnod : c.nodes ≤ 99999 := by unfold Cf.nodes; omega
  have HK := Lib.hid hok
  have t8 := hok.t8
  clear hok tk b64
  have hmm := fun (w : World) => run_makeMap_hint (P := Tryz.prog) (w := w) Tryz.underlying147 c.t
  unfold Cf.v
  go_enter Tryz.func58, Tryz.ntmps58
  go_wp2_with fail
  refine (May_at _ _ _ _ _ _ _ HU.out).mono ?_; rintro e w1 ⟨rfl, g1⟩
  have c0 : w1.cell? ⟨w.heap.size, 0, none⟩ = some (.int .i64 c.t) := gcell g1 (by simp)
  have c1 : w1.cell? ⟨w.heap.size, 1, none⟩ = some (.int .i64 c.b) := gcell g1 (by simp)
  have c2 : w1.cell? ⟨w.heap.size, 2, none⟩ = some (.int .i64 c.i) := gcell g1 (by simp)
  have c3 : w1.cell? ⟨w.heap.size, 3, none⟩ = some (.int .i64 c.f) := gcell g1 (by simp)
  have c4 : w1.cell? ⟨w.heap.size, 4, none⟩ = some (.int .i64 c.k) := gcell g1 (by simp)
  replace g1 := galloc g1
  go_wp2_with fail
  refine wp_region_plang (.two [0, 1, 2, 4, 7] 3 (.one [] 5 (.one [] 6 (.one [] 8 (.one [] 9 (.one [10] 11 (.fin [12])))))) 5 (.two [] 3 (.one [] 6 (.one [] 8 (.one [] 9 (.one [10] 11 (.fin [12]))))) 6 (.two [] 3 (.one [] 8 (.one [] 9 (.one [10] 11 (.fin [12])))) 8 (.two [] 3 (.one [] 9 (.one [10] 11 (.fin [12]))) 9 (.one [] 3 (.one [10] 11 (.fin [12]))))))) (by kernel_rfl) (by kernel_rfl) (by kernel_rfl) ?_
  intro w2 g2
  have d0 : ∀ g : GrW w2, g.w.cell? ⟨w.heap.size, 0, none⟩ = some (.int .i64 c.t) := GrW.cell (gcell g2 c0)
  have d1 : ∀ g : GrW w2, g.w.cell? ⟨w.heap.size, 1, none⟩ = some (.int .i64 c.b) := GrW.cell (gcell g2 c1)
  have d2 : ∀ g : GrW w2, g.w.cell? ⟨w.heap.size, 2, none⟩ = some (.int .i64 c.i) := GrW.cell (gcell g2 c2)
  have d3 : ∀ g : GrW w2, g.w.cell? ⟨w.heap.size, 3, none⟩ = some (.int .i64 c.f) := GrW.cell (gcell g2 c3)
  have d4 : ∀ g : GrW w2, g.w.cell? ⟨w.heap.size, 4, none⟩ = some (.int .i64 c.k) := GrW.cell (gcell g2 c4)
  have G : Grown w w2 := gtr g1 g2
  have cT := gcell g2 c0
  clear g1 g2 c0 c1 c2 c3 c4
  refine plan_two ?_
  simp only [nths, nth, List.map_cons, List.map_nil, List.getD_cons_zero, List.getD_cons_succ]
  repeat go_big_quiet_step (fail)
  clear d0 d1 d2 d3 d4
  refine wpQuiet_nil ⟨?_, ?_⟩
  · go_wp2_with fail
    have ku1 : Grown w2 (w2.alloc (.map #[] 0)) := (Grown.refl _).allocMap _ _
    have M := fun base => MapAt.made w2 base
    have lm : w.heap.size ≤ w2.heap.size := G.2.2
    replace G := gtr G ku1
    replace cT := gcell ku1 cT
    generalize w2.alloc (.map #[] 0) = u1 at *
    refine nxt_grow ku1 (plan_one ?_)
    simp only [nths, nth, List.map_nil, List.getD_cons_zero, List.getD_cons_succ]
    refine wpQuiet_nil ?_
    go_wp2_with fail
    refine (Ops_at _ _ _ _ _ _ _ HO.out).mono ?_; rintro e u2 ⟨rfl, ku2⟩
    go_wp2_with fail
    replace M := fun base => (M base).grown ku2
    replace G := gtr G ku2
    replace cT := gcell ku2 cT
    refine nxt_grow ku2 (plan_one ?_)
    simp only [nths, nth, List.map_nil, List.getD_cons_zero, List.getD_cons_succ]
    refine wpQuiet_nil ?_
    go_wp2_with fail
    refine (emptyC_at _ c.ops hops).mono ?_; rintro e u3 ⟨rfl, S⟩
    have ku3 := S.gr
    have C := S.at_
    have sc : u2.heap.size + 1 + c.ops ≤ u3.heap.size := Nat.le_of_eq S.size.symm
    have lc : w.heap.size ≤ u2.heap.size + 1 := by have := G.2.2; omega
    clear S
    go_wp2_with fail
    replace M := fun base => (M base).grown ku3
    replace G := gtr G ku3
    replace cT := gcell ku3 cT
    refine nxt_grow ku3 (plan_one ?_)
    simp only [nths, nth, List.map_nil, List.getD_cons_zero, List.getD_cons_succ]
    refine wpQuiet_nil ?_
    go_wp2_with fail
    refine (Nodes_at _ _ _ _ _ _ _ HN.out).mono ?_; rintro e u4 ⟨rfl, ku4⟩
    go_wp2_with fail
    replace M := fun base => (M base).grown ku4
    replace C := C.grown ku4
    replace sc := Nat.le_trans sc ku4.2.2
    replace G := gtr G ku4
    replace cT := gcell ku4 cT
    refine nxt_grow ku4 (plan_one ?_)
    simp only [nths, nth, List.map_nil, List.getD_cons_zero, List.getD_cons_succ]
    refine wpQuiet_nil ?_
    go_wp2_with fail
    refine (emptyN_at _ c.nodes hnod).mono ?_; rintro e u5 ⟨rfl, S⟩
    have ku5 := S.gr
    have N := S.at_
    have sn : u4.heap.size + 1 + c.nodes ≤ u5.heap.size := Nat.le_of_eq S.size.symm
    have so : u2.heap.size + 1 + c.ops ≤ u4.heap.size + 1 := by have q := sc; omega
    clear S
    go_wp2_with fail
    replace M := fun base => (M base).grown ku5
    replace C := C.grown ku5
    replace sc := Nat.le_trans sc ku5.2.2
    replace G := gtr G ku5
    replace cT := gcell ku5 cT
    refine nxt_grow ku5 (plan_one ?_)
    simp only [nths, nth, List.map_cons, List.map_nil, List.getD_cons_zero, List.getD_cons_succ]
    repeat go_big_quiet_step (fail)
    refine wpQuiet_nil ?_
    go_wp2_with fail
    have kf : Grown u5 (u5.alloc (.cells #[.int .i64 c.t, .int .i64 c.b, .int .i64 c.i, .int .i64 c.f, .int .i64 c.k, .map (some w2.heap.size), .map (some u2.heap.size), .map (some u4.heap.size)] 153)) := by go_grown
    have P : Pre w (u5.alloc (.cells #[.int .i64 c.t, .int .i64 c.b, .int .i64 c.i, .int .i64 c.f, .int .i64 c.k, .map (some w2.heap.size), .map (some u2.heap.size), .map (some u4.heap.size)] 153)) c u5.heap.size w2.heap.size u2.heap.size u4.heap.size (u2.heap.size + 1) (u4.heap.size + 1) :=
      ⟨gtr G kf, fun base => (M base).grown kf, C.grown kf, N.grown kf, lc, so, sn, lm, by simp, ⟨by simp, by simp, by simp, by simp, by simp, by simp, by simp, by simp⟩⟩
    have bT : (u5.alloc (.cells #[.int .i64 c.t, .int .i64 c.b, .int .i64 c.i, .int .i64 c.f, .int .i64 c.k, .map (some w2.heap.size), .map (some u2.heap.size), .map (some u4.heap.size)] 153)).cell? ⟨w.heap.size, 0, none⟩ = some (.int .i64 c.t) := gcell kf cT
    refine nxt_grow kf (plan_fin ?_)
    clear kf M C N G lc so sc sn lm cT
    simp only [nths, nth, List.map_cons, List.map_nil, List.getD_cons_zero, List.getD_cons_succ]
    repeat go_big_quiet_step (fail)
    refine wpQuiet_nil ?_
    obtain ⟨mw, hmw⟩ : ∃ m, w2.heap.size = m := ⟨_, rfl⟩
    rw [hmw] at P bT ⊢
    clear hmw
    obtain ⟨mc, hmc⟩ : ∃ m, u2.heap.size = m := ⟨_, rfl⟩
    rw [hmc] at P bT ⊢
    clear hmc
    obtain ⟨mn, hmn⟩ : ∃ m, u4.heap.size = m := ⟨_, rfl⟩
    rw [hmn] at P bT ⊢
    clear hmn
    obtain ⟨p, hp⟩ : ∃ m, u5.heap.size = m := ⟨_, rfl⟩
    rw [hp] at P ⊢
    clear hp
    generalize u5.alloc (.cells #[.int .i64 c.t, .int .i64 c.b, .int .i64 c.i, .int .i64 c.f, .int .i64 c.k, .map (some mw), .map (some mc), .map (some mn)] 153) = v at *
    have HP := Lib.hid P
    clear P
    go_wp2_with fail
    clear bT
    have hlt := HP.out.lt
    have p5 := HP.out.cells.2.2.2.2.2.1
    have hp : ¬ p = mw := (HP.out.pw 0).ne p5
    go_loopw [26] (fun i wr => ∃ k : Nat, k ≤ c.t ∧ i = .int .i64 k ∧ WLoop v wr mw k) (fun i _ => c.t - (intOf i).toNat)
    case atStart =>
      exact ⟨0, Nat.zero_le _, rfl, But.refl _ _, HP.out.pw _, by simp, fun j hj => absurd hj (by omega), fun j o hj => absurd hj (by omega), fun j o hj => absurd hj (by omega)⟩
    case round =>
      obtain ⟨k, hk, rfl, hR⟩ := hrel
      have HR := Lib.hid hR
      have q5 := hR.but.cell hp p5
      clear hR p5
      by_cases hkt : k < c.t
      · have ed : decide (k < c.t) = true := decide_eq_true hkt
        go_wp2_with (first | (at_mapUpdate; refine wpList_put rfl _ _ _ 147 rfl 3 _ Tryz.underlying147 Tryz.underlying3 mw v.heap.size k _ (HR.out.map.grown (by go_grown)) rfl rfl rfl HR.out.size ?_) | fail)
        intro w9 h9 q9 s9
        have R9 := HR.out.more h9 hlt q9 s9
        go_wp2_with fail
        exact ⟨⟨k + 1, hkt, by simp, R9⟩, by simp [intOf]; omega⟩
      · obtain rfl : k = c.t := by omega
        have ed : decide (c.t < c.t) = false := decide_eq_false (by omega)
        clear hkt
        go_wp2_with fail
        go_ret2
        obtain ⟨B1, B2⟩ := HP.out.book HK.out HR.out
        exact ⟨_, rfl, B1, B2, rfl, rfl⟩
  · go_wp2_with fail
    refine (Ops_at _ _ _ _ _ _ _ HO.out).mono ?_; rintro e u6 ⟨rfl, ku6⟩
    go_wp2_with fail
    replace G := gtr G ku6
    replace cT := gcell ku6 cT
    refine nxt_grow ku6 (plan_two ?_)
    simp only [nths, nth, List.map_nil, List.getD_cons_zero, List.getD_cons_succ]
    refine wpQuiet_nil ⟨?_, ?_⟩
    · go_wp2_with fail
      have ku7 : Grown u6 (u6.alloc (.map #[] 0)) := (Grown.refl _).allocMap _ _
      have M := fun base => MapAt.made u6 base
      have lm : w.heap.size ≤ u6.heap.size := G.2.2
      replace G := gtr G ku7
      replace cT := gcell ku7 cT
      generalize u6.alloc (.map #[] 0) = u7 at *
      refine nxt_grow ku7 (plan_one ?_)
      simp only [nths, nth, List.map_nil, List.getD_cons_zero, List.getD_cons_succ]
      refine wpQuiet_nil ?_
      go_wp2_with fail
      refine (emptyC_at _ c.ops hops).mono ?_; rintro e u8 ⟨rfl, S⟩
      have ku8 := S.gr
      have C := S.at_
      have sc : u7.heap.size + 1 + c.ops ≤ u8.heap.size := Nat.le_of_eq S.size.symm
      have lc : w.heap.size ≤ u7.heap.size + 1 := by have := G.2.2; omega
      clear S
      go_wp2_with fail
      replace M := fun base => (M base).grown ku8
      replace G := gtr G ku8
      replace cT := gcell ku8 cT
      refine nxt_grow ku8 (plan_one ?_)
      simp only [nths, nth, List.map_nil, List.getD_cons_zero, List.getD_cons_succ]
      refine wpQuiet_nil ?_
      go_wp2_with fail
      refine (Nodes_at _ _ _ _ _ _ _ HN.out).mono ?_; rintro e u9 ⟨rfl, ku9⟩
      go_wp2_with fail
      replace M := fun base => (M base).grown ku9
      replace C := C.grown ku9
      replace sc := Nat.le_trans sc ku9.2.2
      replace G := gtr G ku9
      replace cT := gcell ku9 cT
      refine nxt_grow ku9 (plan_one ?_)
      simp only [nths, nth, List.map_nil, List.getD_cons_zero, List.getD_cons_succ]
      refine wpQuiet_nil ?_
      go_wp2_with fail
      refine (emptyN_at _ c.nodes hnod).mono ?_; rintro e u10 ⟨rfl, S⟩
      have ku10 := S.gr
      have N := S.at_
      have sn : u9.heap.size + 1 + c.nodes ≤ u10.heap.size := Nat.le_of_eq S.size.symm
      have so : u7.heap.size + 1 + c.ops ≤ u9.heap.size + 1 := by have q := sc; omega
      clear S
      go_wp2_with fail
      replace M := fun base => (M base).grown ku10
      replace C := C.grown ku10
      replace sc := Nat.le_trans sc ku10.2.2
      replace G := gtr G ku10
      replace cT := gcell ku10 cT
      refine nxt_grow ku10 (plan_one ?_)
      simp only [nths, nth, List.map_cons, List.map_nil, List.getD_cons_zero, List.getD_cons_succ]
      repeat go_big_quiet_step (fail)
      refine wpQuiet_nil ?_
      go_wp2_with fail
      have kf : Grown u10 (u10.alloc (.cells #[.int .i64 c.t, .int .i64 c.b, .int .i64 c.i, .int .i64 c.f, .int .i64 c.k, .map (some u6.heap.size), .map (some u7.heap.size), .map (some u9.heap.size)] 153)) := by go_grown
      have P : Pre w (u10.alloc (.cells #[.int .i64 c.t, .int .i64 c.b, .int .i64 c.i, .int .i64 c.f, .int .i64 c.k, .map (some u6.heap.size), .map (some u7.heap.size), .map (some u9.heap.size)] 153)) c u10.heap.size u6.heap.size u7.heap.size u9.heap.size (u7.heap.size + 1) (u9.heap.size + 1) :=
        ⟨gtr G kf, fun base => (M base).grown kf, C.grown kf, N.grown kf, lc, so, sn, lm, by simp, ⟨by simp, by simp, by simp, by simp, by simp, by simp, by simp, by simp⟩⟩
      have bT : (u10.alloc (.cells #[.int .i64 c.t, .int .i64 c.b, .int .i64 c.i, .int .i64 c.f, .int .i64 c.k, .map (some u6.heap.size), .map (some u7.heap.size), .map (some u9.heap.size)] 153)).cell? ⟨w.heap.size, 0, none⟩ = some (.int .i64 c.t) := gcell kf cT
      refine nxt_grow kf (plan_fin ?_)
      clear kf M C N G lc so sc sn lm cT
      simp only [nths, nth, List.map_cons, List.map_nil, List.getD_cons_zero, List.getD_cons_succ]
      repeat go_big_quiet_step (fail)
      refine wpQuiet_nil ?_
      obtain ⟨mw, hmw⟩ : ∃ m, u6.heap.size = m := ⟨_, rfl⟩
      rw [hmw] at P bT ⊢
      clear hmw
      obtain ⟨mc, hmc⟩ : ∃ m, u7.heap.size = m := ⟨_, rfl⟩
      rw [hmc] at P bT ⊢
      clear hmc
      obtain ⟨mn, hmn⟩ : ∃ m, u9.heap.size = m := ⟨_, rfl⟩
      rw [hmn] at P bT ⊢
      clear hmn
      obtain ⟨p, hp⟩ : ∃ m, u10.heap.size = m := ⟨_, rfl⟩
      rw [hp] at P ⊢
      clear hp
      generalize u10.alloc (.cells #[.int .i64 c.t, .int .i64 c.b, .int .i64 c.i, .int .i64 c.f, .int .i64 c.k, .map (some mw), .map (some mc), .map (some mn)] 153) = v at *
      have HP := Lib.hid P
      clear P
      go_wp2_with fail
      clear bT
      have hlt := HP.out.lt
      have p5 := HP.out.cells.2.2.2.2.2.1
      have hp : ¬ p = mw := (HP.out.pw 0).ne p5
      go_loopw [26] (fun i wr => ∃ k : Nat, k ≤ c.t ∧ i = .int .i64 k ∧ WLoop v wr mw k) (fun i _ => c.t - (intOf i).toNat)
      case atStart =>
        exact ⟨0, Nat.zero_le _, rfl, But.refl _ _, HP.out.pw _, by simp, fun j hj => absurd hj (by omega), fun j o hj => absurd hj (by omega), fun j o hj => absurd hj (by omega)⟩
      case round =>
        obtain ⟨k, hk, rfl, hR⟩ := hrel
        have HR := Lib.hid hR
        have q5 := hR.but.cell hp p5
        clear hR p5
        by_cases hkt : k < c.t
        · have ed : decide (k < c.t) = true := decide_eq_true hkt
          go_wp2_with (first | (at_mapUpdate; refine wpList_put rfl _ _ _ 147 rfl 3 _ Tryz.underlying147 Tryz.underlying3 mw v.heap.size k _ (HR.out.map.grown (by go_grown)) rfl rfl rfl HR.out.size ?_) | fail)
          intro w9 h9 q9 s9
          have R9 := HR.out.more h9 hlt q9 s9
          go_wp2_with fail
          exact ⟨⟨k + 1, hkt, by simp, R9⟩, by simp [intOf]; omega⟩
        · obtain rfl : k = c.t := by omega
          have ed : decide (c.t < c.t) = false := decide_eq_false (by omega)
          clear hkt
          go_wp2_with fail
          go_ret2
          obtain ⟨B1, B2⟩ := HP.out.book HK.out HR.out
          exact ⟨_, rfl, B1, B2, rfl, rfl⟩
    · go_wp2_with fail
      refine (emptyC_at _ c.ops hops).mono ?_; rintro e u11 ⟨rfl, S⟩
      have ku11 := S.gr
      have C := S.at_
      have sc : u6.heap.size + 1 + c.ops ≤ u11.heap.size := Nat.le_of_eq S.size.symm
      have lc : w.heap.size ≤ u6.heap.size + 1 := by have := G.2.2; omega
      clear S
      go_wp2_with fail
      replace G := gtr G ku11
      replace cT := gcell ku11 cT
      refine nxt_grow ku11 (plan_two ?_)
      simp only [nths, nth, List.map_nil, List.getD_cons_zero, List.getD_cons_succ]
      refine wpQuiet_nil ⟨?_, ?_⟩
      · go_wp2_with fail
        have ku12 : Grown u11 (u11.alloc (.map #[] 0)) := (Grown.refl _).allocMap _ _
        have M := fun base => MapAt.made u11 base
        have lm : w.heap.size ≤ u11.heap.size := G.2.2
        replace C := C.grown ku12
        replace sc := Nat.le_trans sc ku12.2.2
        replace G := gtr G ku12
        replace cT := gcell ku12 cT
        generalize u11.alloc (.map #[] 0) = u12 at *
        refine nxt_grow ku12 (plan_one ?_)
        simp only [nths, nth, List.map_nil, List.getD_cons_zero, List.getD_cons_succ]
        refine wpQuiet_nil ?_
        go_wp2_with fail
        refine (Nodes_at _ _ _ _ _ _ _ HN.out).mono ?_; rintro e u13 ⟨rfl, ku13⟩
        go_wp2_with fail
        replace M := fun base => (M base).grown ku13
        replace C := C.grown ku13
        replace sc := Nat.le_trans sc ku13.2.2
        replace G := gtr G ku13
        replace cT := gcell ku13 cT
        refine nxt_grow ku13 (plan_one ?_)
        simp only [nths, nth, List.map_nil, List.getD_cons_zero, List.getD_cons_succ]
        refine wpQuiet_nil ?_
        go_wp2_with fail
        refine (emptyN_at _ c.nodes hnod).mono ?_; rintro e u14 ⟨rfl, S⟩
        have ku14 := S.gr
        have N := S.at_
        have sn : u13.heap.size + 1 + c.nodes ≤ u14.heap.size := Nat.le_of_eq S.size.symm
        have so : u6.heap.size + 1 + c.ops ≤ u13.heap.size + 1 := by have q := sc; omega
        clear S
        go_wp2_with fail
        replace M := fun base => (M base).grown ku14
        replace C := C.grown ku14
        replace sc := Nat.le_trans sc ku14.2.2
        replace G := gtr G ku14
        replace cT := gcell ku14 cT
        refine nxt_grow ku14 (plan_one ?_)
        simp only [nths, nth, List.map_cons, List.map_nil, List.getD_cons_zero, List.getD_cons_succ]
        repeat go_big_quiet_step (fail)
        refine wpQuiet_nil ?_
        go_wp2_with fail
        have kf : Grown u14 (u14.alloc (.cells #[.int .i64 c.t, .int .i64 c.b, .int .i64 c.i, .int .i64 c.f, .int .i64 c.k, .map (some u11.heap.size), .map (some u6.heap.size), .map (some u13.heap.size)] 153)) := by go_grown
        have P : Pre w (u14.alloc (.cells #[.int .i64 c.t, .int .i64 c.b, .int .i64 c.i, .int .i64 c.f, .int .i64 c.k, .map (some u11.heap.size), .map (some u6.heap.size), .map (some u13.heap.size)] 153)) c u14.heap.size u11.heap.size u6.heap.size u13.heap.size (u6.heap.size + 1) (u13.heap.size + 1) :=
          ⟨gtr G kf, fun base => (M base).grown kf, C.grown kf, N.grown kf, lc, so, sn, lm, by simp, ⟨by simp, by simp, by simp, by simp, by simp, by simp, by simp, by simp⟩⟩
        have bT : (u14.alloc (.cells #[.int .i64 c.t, .int .i64 c.b, .int .i64 c.i, .int .i64 c.f, .int .i64 c.k, .map (some u11.heap.size), .map (some u6.heap.size), .map (some u13.heap.size)] 153)).cell? ⟨w.heap.size, 0, none⟩ = some (.int .i64 c.t) := gcell kf cT
        refine nxt_grow kf (plan_fin ?_)
        clear kf M C N G lc so sc sn lm cT
        simp only [nths, nth, List.map_cons, List.map_nil, List.getD_cons_zero, List.getD_cons_succ]
        repeat go_big_quiet_step (fail)
        refine wpQuiet_nil ?_
        obtain ⟨mw, hmw⟩ : ∃ m, u11.heap.size = m := ⟨_, rfl⟩
        rw [hmw] at P bT ⊢
        clear hmw
        obtain ⟨mc, hmc⟩ : ∃ m, u6.heap.size = m := ⟨_, rfl⟩
        rw [hmc] at P bT ⊢
        clear hmc
        obtain ⟨mn, hmn⟩ : ∃ m, u13.heap.size = m := ⟨_, rfl⟩
        rw [hmn] at P bT ⊢
        clear hmn
        obtain ⟨p, hp⟩ : ∃ m, u14.heap.size = m := ⟨_, rfl⟩
        rw [hp] at P ⊢
        clear hp
        generalize u14.alloc (.cells #[.int .i64 c.t, .int .i64 c.b, .int .i64 c.i, .int .i64 c.f, .int .i64 c.k, .map (some mw), .map (some mc), .map (some mn)] 153) = v at *
        have HP := Lib.hid P
        clear P
        go_wp2_with fail
        clear bT
        have hlt := HP.out.lt
        have p5 := HP.out.cells.2.2.2.2.2.1
        have hp : ¬ p = mw := (HP.out.pw 0).ne p5
        go_loopw [26] (fun i wr => ∃ k : Nat, k ≤ c.t ∧ i = .int .i64 k ∧ WLoop v wr mw k) (fun i _ => c.t - (intOf i).toNat)
        case atStart =>
          exact ⟨0, Nat.zero_le _, rfl, But.refl _ _, HP.out.pw _, by simp, fun j hj => absurd hj (by omega), fun j o hj => absurd hj (by omega), fun j o hj => absurd hj (by omega)⟩
        case round =>
          obtain ⟨k, hk, rfl, hR⟩ := hrel
          have HR := Lib.hid hR
          have q5 := hR.but.cell hp p5
          clear hR p5
          by_cases hkt : k < c.t
          · have ed : decide (k < c.t) = true := decide_eq_true hkt
            go_wp2_with (first | (at_mapUpdate; refine wpList_put rfl _ _ _ 147 rfl 3 _ Tryz.underlying147 Tryz.underlying3 mw v.heap.size k _ (HR.out.map.grown (by go_grown)) rfl rfl rfl HR.out.size ?_) | fail)
            intro w9 h9 q9 s9
            have R9 := HR.out.more h9 hlt q9 s9
            go_wp2_with fail
            exact ⟨⟨k + 1, hkt, by simp, R9⟩, by simp [intOf]; omega⟩
          · obtain rfl : k = c.t := by omega
            have ed : decide (c.t < c.t) = false := decide_eq_false (by omega)
            clear hkt
            go_wp2_with fail
            go_ret2
            obtain ⟨B1, B2⟩ := HP.out.book HK.out HR.out
            exact ⟨_, rfl, B1, B2, rfl, rfl⟩
      · go_wp2_with fail
        refine (Nodes_at _ _ _ _ _ _ _ HN.out).mono ?_; rintro e u15 ⟨rfl, ku15⟩
        go_wp2_with fail
        replace C := C.grown ku15
        replace sc := Nat.le_trans sc ku15.2.2
        replace G := gtr G ku15
        replace cT := gcell ku15 cT
        refine nxt_grow ku15 (plan_two ?_)
        simp only [nths, nth, List.map_nil, List.getD_cons_zero, List.getD_cons_succ]
        refine wpQuiet_nil ⟨?_, ?_⟩
        · go_wp2_with fail
          have ku16 : Grown u15 (u15.alloc (.map #[] 0)) := (Grown.refl _).allocMap _ _
          have M := fun base => MapAt.made u15 base
          have lm : w.heap.size ≤ u15.heap.size := G.2.2
          replace C := C.grown ku16
          replace sc := Nat.le_trans sc ku16.2.2
          replace G := gtr G ku16
          replace cT := gcell ku16 cT
          generalize u15.alloc (.map #[] 0) = u16 at *
          refine nxt_grow ku16 (plan_one ?_)
          simp only [nths, nth, List.map_nil, List.getD_cons_zero, List.getD_cons_succ]
          refine wpQuiet_nil ?_
          go_wp2_with fail
          refine (emptyN_at _ c.nodes hnod).mono ?_; rintro e u17 ⟨rfl, S⟩
          have ku17 := S.gr
          have N := S.at_
          have sn : u16.heap.size + 1 + c.nodes ≤ u17.heap.size := Nat.le_of_eq S.size.symm
          have so : u6.heap.size + 1 + c.ops ≤ u16.heap.size + 1 := by have q := sc; omega
          clear S
          go_wp2_with fail
          replace M := fun base => (M base).grown ku17
          replace C := C.grown ku17
          replace sc := Nat.le_trans sc ku17.2.2
          replace G := gtr G ku17
          replace cT := gcell ku17 cT
          refine nxt_grow ku17 (plan_one ?_)
          simp only [nths, nth, List.map_cons, List.map_nil, List.getD_cons_zero, List.getD_cons_succ]
          repeat go_big_quiet_step (fail)
          refine wpQuiet_nil ?_
          go_wp2_with fail
          have kf : Grown u17 (u17.alloc (.cells #[.int .i64 c.t, .int .i64 c.b, .int .i64 c.i, .int .i64 c.f, .int .i64 c.k, .map (some u15.heap.size), .map (some u6.heap.size), .map (some u16.heap.size)] 153)) := by go_grown
          have P : Pre w (u17.alloc (.cells #[.int .i64 c.t, .int .i64 c.b, .int .i64 c.i, .int .i64 c.f, .int .i64 c.k, .map (some u15.heap.size), .map (some u6.heap.size), .map (some u16.heap.size)] 153)) c u17.heap.size u15.heap.size u6.heap.size u16.heap.size (u6.heap.size + 1) (u16.heap.size + 1) :=
            ⟨gtr G kf, fun base => (M base).grown kf, C.grown kf, N.grown kf, lc, so, sn, lm, by simp, ⟨by simp, by simp, by simp, by simp, by simp, by simp, by simp, by simp⟩⟩
          have bT : (u17.alloc (.cells #[.int .i64 c.t, .int .i64 c.b, .int .i64 c.i, .int .i64 c.f, .int .i64 c.k, .map (some u15.heap.size), .map (some u6.heap.size), .map (some u16.heap.size)] 153)).cell? ⟨w.heap.size, 0, none⟩ = some (.int .i64 c.t) := gcell kf cT
          refine nxt_grow kf (plan_fin ?_)
          clear kf M C N G lc so sc sn lm cT
          simp only [nths, nth, List.map_cons, List.map_nil, List.getD_cons_zero, List.getD_cons_succ]
          repeat go_big_quiet_step (fail)
          refine wpQuiet_nil ?_
          obtain ⟨mw, hmw⟩ : ∃ m, u15.heap.size = m := ⟨_, rfl⟩
          rw [hmw] at P bT ⊢
          clear hmw
          obtain ⟨mc, hmc⟩ : ∃ m, u6.heap.size = m := ⟨_, rfl⟩
          rw [hmc] at P bT ⊢
          clear hmc
          obtain ⟨mn, hmn⟩ : ∃ m, u16.heap.size = m := ⟨_, rfl⟩
          rw [hmn] at P bT ⊢
          clear hmn
          obtain ⟨p, hp⟩ : ∃ m, u17.heap.size = m := ⟨_, rfl⟩
          rw [hp] at P ⊢
          clear hp
          generalize u17.alloc (.cells #[.int .i64 c.t, .int .i64 c.b, .int .i64 c.i, .int .i64 c.f, .int .i64 c.k, .map (some mw), .map (some mc), .map (some mn)] 153) = v at *
          have HP := Lib.hid P
          clear P
          go_wp2_with fail
          clear bT
          have hlt := HP.out.lt
          have p5 := HP.out.cells.2.2.2.2.2.1
          have hp : ¬ p = mw := (HP.out.pw 0).ne p5
          go_loopw [26] (fun i wr => ∃ k : Nat, k ≤ c.t ∧ i = .int .i64 k ∧ WLoop v wr mw k) (fun i _ => c.t - (intOf i).toNat)
          case atStart =>
            exact ⟨0, Nat.zero_le _, rfl, But.refl _ _, HP.out.pw _, by simp, fun j hj => absurd hj (by omega), fun j o hj => absurd hj (by omega), fun j o hj => absurd hj (by omega)⟩
          case round =>
            obtain ⟨k, hk, rfl, hR⟩ := hrel
            have HR := Lib.hid hR
            have q5 := hR.but.cell hp p5
            clear hR p5
            by_cases hkt : k < c.t
            · have ed : decide (k < c.t) = true := decide_eq_true hkt
              go_wp2_with (first | (at_mapUpdate; refine wpList_put rfl _ _ _ 147 rfl 3 _ Tryz.underlying147 Tryz.underlying3 mw v.heap.size k _ (HR.out.map.grown (by go_grown)) rfl rfl rfl HR.out.size ?_) | fail)
              intro w9 h9 q9 s9
              have R9 := HR.out.more h9 hlt q9 s9
              go_wp2_with fail
              exact ⟨⟨k + 1, hkt, by simp, R9⟩, by simp [intOf]; omega⟩
            · obtain rfl : k = c.t := by omega
              have ed : decide (c.t < c.t) = false := decide_eq_false (by omega)
              clear hkt
              go_wp2_with fail
              go_ret2
              obtain ⟨B1, B2⟩ := HP.out.book HK.out HR.out
              exact ⟨_, rfl, B1, B2, rfl, rfl⟩
        · go_wp2_with fail
          refine (emptyN_at _ c.nodes hnod).mono ?_; rintro e u18 ⟨rfl, S⟩
          have ku18 := S.gr
          have N := S.at_
          have sn : u15.heap.size + 1 + c.nodes ≤ u18.heap.size := Nat.le_of_eq S.size.symm
          have so : u6.heap.size + 1 + c.ops ≤ u15.heap.size + 1 := by have q := sc; omega
          clear S
          go_wp2_with fail
          replace C := C.grown ku18
          replace sc := Nat.le_trans sc ku18.2.2
          replace G := gtr G ku18
          replace cT := gcell ku18 cT
          refine nxt_grow ku18 (plan_one ?_)
          simp only [nths, nth, List.map_nil, List.getD_cons_zero, List.getD_cons_succ]
          refine wpQuiet_nil ?_
          go_wp2_with fail
          have ku19 : Grown u18 (u18.alloc (.map #[] 0)) := (Grown.refl _).allocMap _ _
          have M := fun base => MapAt.made u18 base
          have lm : w.heap.size ≤ u18.heap.size := G.2.2
          replace C := C.grown ku19
          replace sc := Nat.le_trans sc ku19.2.2
          replace N := N.grown ku19
          replace sn := Nat.le_trans sn ku19.2.2
          replace G := gtr G ku19
          replace cT := gcell ku19 cT
          generalize u18.alloc (.map #[] 0) = u19 at *
          refine nxt_grow ku19 (plan_one ?_)
          simp only [nths, nth, List.map_cons, List.map_nil, List.getD_cons_zero, List.getD_cons_succ]
          repeat go_big_quiet_step (fail)
          refine wpQuiet_nil ?_
          go_wp2_with fail
          have kf : Grown u19 (u19.alloc (.cells #[.int .i64 c.t, .int .i64 c.b, .int .i64 c.i, .int .i64 c.f, .int .i64 c.k, .map (some u18.heap.size), .map (some u6.heap.size), .map (some u15.heap.size)] 153)) := by go_grown
          have P : Pre w (u19.alloc (.cells #[.int .i64 c.t, .int .i64 c.b, .int .i64 c.i, .int .i64 c.f, .int .i64 c.k, .map (some u18.heap.size), .map (some u6.heap.size), .map (some u15.heap.size)] 153)) c u19.heap.size u18.heap.size u6.heap.size u15.heap.size (u6.heap.size + 1) (u15.heap.size + 1) :=
            ⟨gtr G kf, fun base => (M base).grown kf, C.grown kf, N.grown kf, lc, so, sn, lm, by simp, ⟨by simp, by simp, by simp, by simp, by simp, by simp, by simp, by simp⟩⟩
          have bT : (u19.alloc (.cells #[.int .i64 c.t, .int .i64 c.b, .int .i64 c.i, .int .i64 c.f, .int .i64 c.k, .map (some u18.heap.size), .map (some u6.heap.size), .map (some u15.heap.size)] 153)).cell? ⟨w.heap.size, 0, none⟩ = some (.int .i64 c.t) := gcell kf cT
          refine nxt_grow kf (plan_fin ?_)
          clear kf M C N G lc so sc sn lm cT
          simp only [nths, nth, List.map_cons, List.map_nil, List.getD_cons_zero, List.getD_cons_succ]
          repeat go_big_quiet_step (fail)
          refine wpQuiet_nil ?_
          obtain ⟨mw, hmw⟩ : ∃ m, u18.heap.size = m := ⟨_, rfl⟩
          rw [hmw] at P bT ⊢
          clear hmw
          obtain ⟨mc, hmc⟩ : ∃ m, u6.heap.size = m := ⟨_, rfl⟩
          rw [hmc] at P bT ⊢
          clear hmc
          obtain ⟨mn, hmn⟩ : ∃ m, u15.heap.size = m := ⟨_, rfl⟩
          rw [hmn] at P bT ⊢
          clear hmn
          obtain ⟨p, hp⟩ : ∃ m, u19.heap.size = m := ⟨_, rfl⟩
          rw [hp] at P ⊢
          clear hp
          generalize u19.alloc (.cells #[.int .i64 c.t, .int .i64 c.b, .int .i64 c.i, .int .i64 c.f, .int .i64 c.k, .map (some mw), .map (some mc), .map (some mn)] 153) = v at *
          have HP := Lib.hid P
          clear P
          go_wp2_with fail
          clear bT
          have hlt := HP.out.lt
          have p5 := HP.out.cells.2.2.2.2.2.1
          have hp : ¬ p = mw := (HP.out.pw 0).ne p5
          go_loopw [26] (fun i wr => ∃ k : Nat, k ≤ c.t ∧ i = .int .i64 k ∧ WLoop v wr mw k) (fun i _ => c.t - (intOf i).toNat)
          case atStart =>
            exact ⟨0, Nat.zero_le _, rfl, But.refl _ _, HP.out.pw _, by simp, fun j hj => absurd hj (by omega), fun j o hj => absurd hj (by omega), fun j o hj => absurd hj (by omega)⟩
          case round =>
            obtain ⟨k, hk, rfl, hR⟩ := hrel
            have HR := Lib.hid hR
            have q5 := hR.but.cell hp p5
            clear hR p5
            by_cases hkt : k < c.t
            · have ed : decide (k < c.t) = true := decide_eq_true hkt
              go_wp2_with (first | (at_mapUpdate; refine wpList_put rfl _ _ _ 147 rfl 3 _ Tryz.underlying147 Tryz.underlying3 mw v.heap.size k _ (HR.out.map.grown (by go_grown)) rfl rfl rfl HR.out.size ?_) | fail)
              intro w9 h9 q9 s9
              have R9 := HR.out.more h9 hlt q9 s9
              go_wp2_with fail
              exact ⟨⟨k + 1, hkt, by simp, R9⟩, by simp [intOf]; omega⟩
            · obtain rfl : k = c.t := by omega
              have ed : decide (c.t < c.t) = false := decide_eq_false (by omega)
              clear hkt
              go_wp2_with fail
              go_ret2
              obtain ⟨B1, B2⟩ := HP.out.book HK.out HR.out
              exact ⟨_, rfl, B1, B2, rfl, rfl⟩
end Go.Proofs.YtagapfejgmmppaaGreat
