/- The document's answers for package book (corrieref07): New, Begin, Make. -/
import Derived.Test.YtagapfejgmmppaaGreatBookRef
namespace Go.Proofs.YtagapfejgmmppaaGreat
open Go.ChangeShapes Go.WideShapes Go.ChangeAt Go.RowKit
set_option maxRecDepth 100000
set_option linter.unusedVariables false
/-- A variable's block: its cells, which may be written. -/
structure Box (w : World) (b : Nat) (l : List Value) : Prop where
  cell : ∀ j u, l[j]? = some u → w.cell? ⟨b, j, none⟩ = some u
  free : ∀ j, w.frozen? ⟨b, j, none⟩ = false
  lt : b < w.heap.size
theorem Box.made (w : World) (l : List Value) (t : TypeId) : Box (w.alloc (.cells l.toArray t)) w.heap.size l :=
  ⟨fun j u hu => by rw [World.cell?_alloc_new]; simpa using hu, fun j => by simp, by simp⟩
theorem Box.but {S : Nat → Prop} {w w' : World} {b : Nat} {l : List Value} (h : Box w b l) (q : But S w w') (hs : ¬ S b) : Box w' b l :=
  ⟨fun j u hu => q.cell hs (h.cell j u hu), fun j => q.frozen (h.free j), Nat.lt_of_lt_of_le h.lt q.2.2⟩
theorem Box.grown {w w' : World} {b : Nat} {l : List Value} (h : Box w b l) (q : Grown w w') : Box w' b l := h.but (S := fun _ => False) q (fun f => f)
theorem Box.set {w : World} {b : Nat} {l : List Value} (h : Box w b l) {j : Nat} (hj : j < l.length) (v : Value) : Box (w.setCell ⟨b, j, none⟩ v) b (l.set j v) := by
  refine ⟨fun i u hu => ?_, fun i => (World.frozen?_setCell _ _ _ _).trans (h.free i), by simpa using h.lt⟩
  by_cases e : j = i
  · subst e
    rw [List.getElem?_set_self hj] at hu
    cases hu
    exact World.cell?_setCell_same _ _ _ (h.cell j _ (List.getElem?_eq_getElem hj))
  · rw [List.getElem?_set_ne e] at hu
    exact (World.cell?_setCell_other _ _ _ _ (fun q => e (congrArg Addr.off q))).trans (h.cell i u hu)
theorem Box.put {w : World} {b : Nat} {l : List Value} (h : Box w b l) {a : Addr} (ha : a.block ≠ b) (v : Value) : Box (w.setCell a v) b l :=
  ⟨fun i u hu => oth ha (h.cell i u hu), fun i => (World.frozen?_setCell _ _ _ _).trans (h.free i), by simpa using h.lt⟩
/-- A list of counts, handed on with one of them one more. -/
def More (w : World) (hi : Nat) (l : List Nat) (h : Nat) (e : Ending) (w' : World) : Prop :=
  ∃ v, e = .returned v ∧ FlatAt w' hi v (vNat (bump l h)) l.length ∧ Grown w w'
theorem info_int : (Tryz.prog.info? 3).map (fun i => (i.zero, i.size, i.bytes)) = some (some (.int .i64 0), 1, 8) := by kernel_rfl
theorem vNat_arr {l : List Nat} {j : Nat} (hj : j < l.length) (Z : Array Value) : ((vNat l).toArray ++ Z)[j]? = some (.int .i64 (at_ l j : Int)) := by
  rw [Array.getElem?_append_left (by simpa [vNat] using hj)]
  simpa using vNat_at hj
theorem vNat_bump {l : List Nat} {j : Nat} (hj : j < l.length) (Z : Array Value) : ((vNat l).toArray ++ Z).setIfInBounds j (.int .i64 ((at_ l j : Int) + 1)) = (vNat (bump l j)).toArray ++ Z := by
  rw [Array.setIfInBounds_append_left (by simpa [vNat] using hj)]
  simp [vNat, bump, List.map_set]
theorem more_at (w : World) (lo hi : Nat) (v : Value) (l : List Nat) (h : Nat) (hh : h < l.length) (hv : FlatAt w lo v (vNat l) l.length) (hw : hi ≤ w.heap.size) (hl : l.length ≤ 9999) (hs : at_ l h ≤ 99999) :
    Calls Tryz.prog 82 #[v, .int .i64 h] w (More w hi l h) := by
  rcases hv with ⟨h0, -⟩ | ⟨hn, g, cap, rfl, hlo, hc⟩
  · omega
  · have hnews : ∀ w', Grown w w' → ∀ j u, (vNat l)[j]? = some u → w'.cell? ((⟨g, 0, none⟩ : Addr).add j) = some u := fun w' g' j u hu => by rw [add0]; exact gcell g' (hc j u hu)
    have HN := Lib.hid hnews
    have HH := Lib.hid hh
    have hd : decide (h < l.length) = true := decide_eq_true hh
    have hw1 : IntKind.i64.wrap ((at_ l h : Int) + 1) = (at_ l h : Int) + 1 := IntWalk.i64_in _ (by omega)
    have HL : Hid ((vNat l).length = l.length) := Lib.hid (by simp [vNat])
    clear hc hnews
    go_enter Tryz.func82, Tryz.ntmps82
    go_wp2_with (at_builtin; refine wpList_append_copy rfl _ _ 36 rfl 3 (.int .i64 0) 8 Tryz.underlying36 info_int _ rfl ⟨g, 0, none⟩ l.length _ (vNat l) rfl hn HL.out (HN.out _ (by go_grown)) (by omega) (by omega) ?_; intro cap' Z hcap; have hz := vNat_arr HH.out Z)
    go_ret
    rw [vNat_bump HH.out]
    refine ⟨_, rfl, .inr ⟨hn, _, _, rfl, by omega, fun j u hu => ?_⟩, by go_grown⟩
    have e : (w.alloc (.cells #[] 3)).heap.size = w.heap.size + 1 := by simp
    show ((w.alloc (.cells #[] 3)).alloc (.cells ((vNat (bump l h)).toArray ++ Z) 3)).cell? ⟨w.heap.size + 1, j, none⟩ = some u
    rw [← e, World.cell?_alloc_new, Array.getElem?_append_left (by have := (List.getElem?_eq_some_iff.1 hu).1; simpa using this)]
    simpa using hu

theorem Box.fill {w : World} {b : Nat} {l : List Value} (h : Box w b l) (hl : l.length = 10) (x0 x1 x2 x3 x4 x5 x6 x7 x8 x9 : Value) : Box ((((((((((w.setCell ⟨b, 0, none⟩ x0).setCell ⟨b, 1, none⟩ x1).setCell ⟨b, 2, none⟩ x2).setCell ⟨b, 3, none⟩ x3).setCell ⟨b, 4, none⟩ x4).setCell ⟨b, 5, none⟩ x5).setCell ⟨b, 6, none⟩ x6).setCell ⟨b, 7, none⟩ x7).setCell ⟨b, 8, none⟩ x8).setCell ⟨b, 9, none⟩ x9) b [x0, x1, x2, x3, x4, x5, x6, x7, x8, x9] := by
  have e : ((((((((((l.set 0 x0).set 1 x1).set 2 x2).set 3 x3).set 4 x4).set 5 x5).set 6 x6).set 7 x7).set 8 x8).set 9 x9) = [x0, x1, x2, x3, x4, x5, x6, x7, x8, x9] := by
    match l, hl with
    | [a0, a1, a2, a3, a4, a5, a6, a7, a8, a9], _ => rfl
  rw [← e]
  exact ((((((((((h.set (by simp [hl]) x0).set (by simp [hl]) x1).set (by simp [hl]) x2).set (by simp [hl]) x3).set (by simp [hl]) x4).set (by simp [hl]) x5).set (by simp [hl]) x6).set (by simp [hl]) x7).set (by simp [hl]) x8).set (by simp [hl]) x9)
theorem FlatAt.mono {w : World} {lo lo' n : Nat} {v : Value} {cells : List Value} (h : FlatAt w lo v cells n) (hl : lo' ≤ lo) : FlatAt w lo' v cells n := by
  rcases h with h | ⟨h0, g, cap, hv, hlo, hc⟩
  · exact .inl h
  · exact .inr ⟨h0, g, cap, hv, Nat.le_trans hl hlo, hc⟩
theorem But.fill {S : Nat → Prop} {W w : World} {b : Nat} (g : But S W w) (hb : S b ∨ W.heap.size ≤ b) (x0 x1 x2 x3 x4 x5 x6 x7 x8 x9 : Value) : But S W ((((((((((w.setCell ⟨b, 0, none⟩ x0).setCell ⟨b, 1, none⟩ x1).setCell ⟨b, 2, none⟩ x2).setCell ⟨b, 3, none⟩ x3).setCell ⟨b, 4, none⟩ x4).setCell ⟨b, 5, none⟩ x5).setCell ⟨b, 6, none⟩ x6).setCell ⟨b, 7, none⟩ x7).setCell ⟨b, 8, none⟩ x8).setCell ⟨b, 9, none⟩ x9) :=
  (((((((((g.setCell hb x0).setCell hb x1).setCell hb x2).setCell hb x3).setCell hb x4).setCell hb x5).setCell hb x6).setCell hb x7).setCell hb x8).setCell hb x9
theorem Grown.fill {W w : World} {b : Nat} (g : Grown W w) (hb : W.heap.size ≤ b) (x0 x1 x2 x3 x4 x5 x6 x7 x8 x9 : Value) : Grown W ((((((((((w.setCell ⟨b, 0, none⟩ x0).setCell ⟨b, 1, none⟩ x1).setCell ⟨b, 2, none⟩ x2).setCell ⟨b, 3, none⟩ x3).setCell ⟨b, 4, none⟩ x4).setCell ⟨b, 5, none⟩ x5).setCell ⟨b, 6, none⟩ x6).setCell ⟨b, 7, none⟩ x7).setCell ⟨b, 8, none⟩ x8).setCell ⟨b, 9, none⟩ x9) :=
  (((((((((g.setCell hb x0).setCell hb x1).setCell hb x2).setCell hb x3).setCell hb x4).setCell hb x5).setCell hb x6).setCell hb x7).setCell hb x8).setCell hb x9

/-- What New, Begin and Make of the document tell. -/
def RTold (hi : Nat) (c : Cf) (r : St × Nat × Nat) (w : World) (e : Ending) (w' : World) : Prop :=
  ∃ s1 s2 s3 s4 s5, e = .returned (.tuple #[RV c s1 s2 s3 s4 s5, .int .i64 r.2.1, .int .i64 r.2.2]) ∧ RefS w' hi c r.1 s1 s2 s3 s4 s5 ∧ Grown w w'
def RNew (hi : Nat) (c : Cf) (w : World) (e : Ending) (w' : World) : Prop :=
  ∃ s1 s2 s3 s4 s5, e = .returned (.tuple #[RV c s1 s2 s3 s4 s5, .int .i64 0]) ∧ RefS w' hi c (St.new c) s1 s2 s3 s4 s5 ∧ Grown w w'
theorem vNat_zeros (n : Nat) (j : Nat) (u : Value) (hu : (vNat (List.replicate n 0))[j]? = some u) : (madeCells (Value.int .i64 0).cells (n * 1))[j]? = some u := by
  have hj := (List.getElem?_eq_some_iff.1 hu).1
  have hjn : j < n := by simpa [vNat] using hj
  rw [List.getElem?_eq_getElem hj] at hu
  simp only [vNat, List.getElem_map, List.getElem_replicate] at hu
  simp [madeCells, hjn, Value.cells, ← hu, Nat.mod_one]

theorem made_zeros {n : Nat} {Z : Array Value} (hZ : madeCells (Value.int .i64 0).cells (n * 1) = Z) (w : World) (hi : Nat) (hn : 1 ≤ n) (hw : hi ≤ w.heap.size) : FlatAt (w.alloc (.cells Z 3)) hi (.slice (some ⟨w.heap.size, 0, none⟩) n n) (vNat (List.replicate n 0)) n :=
  .inr ⟨hn, _, _, rfl, hw, fun j u hu => by rw [World.cell?_alloc_new, ← hZ]; exact vNat_zeros n j u hu⟩

theorem rNew_bad (t b i f k : Int) (w : World) (h : ¬ zOk t b i f k = true) :
    Calls Tryz.prog 78 #[.agg #[.int .i64 t, .int .i64 b, .int .i64 i, .int .i64 f, .int .i64 k]] w fun e w' => e = .returned (.tuple #[.agg #[.int .i64 0, .int .i64 0, .int .i64 0, .int .i64 0, .int .i64 0, .slice none 0 0, .slice none 0 0, .slice none 0 0, .slice none 0 0, .slice none 0 0], .int .i64 1]) ∧ Grown w w' := by
  have hu : (if zOk t b i f k = true then 0 else 1) = (1 : Int) := if_neg h
  have HU := Lib.hid hu; clear hu h
  go_enter Tryz.func78, Tryz.ntmps78
  go_wp2_with fail
  refine (rMayC_at _ _ _ _ _ _ _ HU.out).mono ?_; rintro e w1 ⟨rfl, g1⟩
  have B := (Box.made (w.alloc (.cells #[.int .i64 t, .int .i64 b, .int .i64 i, .int .i64 f, .int .i64 k] 32)) [.int .i64 0, .int .i64 0, .int .i64 0, .int .i64 0, .int .i64 0, .slice none 0 0, .slice none 0 0, .slice none 0 0, .slice none 0 0, .slice none 0 0] 40).grown g1
  have hsz : (w.alloc (.cells #[.int .i64 t, .int .i64 b, .int .i64 i, .int .i64 f, .int .i64 k] 32)).heap.size = w.heap.size + 1 := by simp
  rw [hsz] at B
  clear hsz
  have c0 := B.cell 0 _ rfl
  have f0 := B.free 0
  have c1 := B.cell 1 _ rfl
  have f1 := B.free 1
  have c2 := B.cell 2 _ rfl
  have f2 := B.free 2
  have c3 := B.cell 3 _ rfl
  have f3 := B.free 3
  have c4 := B.cell 4 _ rfl
  have f4 := B.free 4
  have c5 := B.cell 5 _ rfl
  have f5 := B.free 5
  have c6 := B.cell 6 _ rfl
  have f6 := B.free 6
  have c7 := B.cell 7 _ rfl
  have f7 := B.free 7
  have c8 := B.cell 8 _ rfl
  have f8 := B.free 8
  have c9 := B.cell 9 _ rfl
  have f9 := B.free 9
  have hlt := B.lt
  replace g1 := galloc (galloc g1)
  go_wp2_with fail
  have B2 := B.fill rfl (.int .i64 0) (.int .i64 0) (.int .i64 0) (.int .i64 0) (.int .i64 0) (.slice none 0 0) (.slice none 0 0) (.slice none 0 0) (.slice none 0 0) (.slice none 0 0)
  have e0 := B2.cell 0 _ rfl
  have e1 := B2.cell 1 _ rfl
  have e2 := B2.cell 2 _ rfl
  have e3 := B2.cell 3 _ rfl
  have e4 := B2.cell 4 _ rfl
  have e5 := B2.cell 5 _ rfl
  have e6 := B2.cell 6 _ rfl
  have e7 := B2.cell 7 _ rfl
  have e8 := B2.cell 8 _ rfl
  have e9 := B2.cell 9 _ rfl
  refine bodyPost_ret (v := .tuple #[.agg #[.int .i64 0, .int .i64 0, .int .i64 0, .int .i64 0, .int .i64 0, .slice none 0 0, .slice none 0 0, .slice none 0 0, .slice none 0 0, .slice none 0 0], .int .i64 1]) (by simp [results, Tryz.results78, go_sem, e0, e1, e2, e3, e4, e5, e6, e7, e8, e9]) rfl ⟨rfl, ?_⟩
  exact Grown.fill g1 (by omega) _ _ _ _ _ _ _ _ _ _

set_option maxHeartbeats 2000000 in
theorem rNew_at (w : World) (hi : Nat) (c : Cf) (hok : c.Ok) (hw : hi ≤ w.heap.size) : Calls Tryz.prog 78 #[c.v] w (RNew hi c w) := by
  have hu : (if zOk c.t c.b c.i c.f c.k = true then 0 else 1) = (0 : Int) := if_pos hok.z
  have HU := Lib.hid hu; clear hu
  have t8 := hok.t8
  have t1 := hok.t1
  have hmk : ∀ w : World, (Instr.makeSlice 36 (.int .i64 c.t) (.int .i64 c.t)).run Tryz.prog w = .ok (.slice (some ⟨w.heap.size, 0, none⟩) c.t c.t) (w.alloc (.cells (madeCells (Value.int .i64 0).cells (c.t * 1)) 3)) := by
    intro w
    obtain ⟨i, hi1, hi2, hi3, hi4⟩ := info_parts info_int
    have := run_make (P := Tryz.prog) w 36 3 i (.int .i64 0) Tryz.underlying36 hi1 hi2 .i64 .i64 c.t c.t (by omega) (by omega) (by rw [hi4]; omega) (by omega)
    rw [hi3] at this
    simpa using this
  obtain ⟨Z, hZ⟩ : ∃ Z, madeCells (Value.int .i64 0).cells (c.t * 1) = Z := ⟨_, rfl⟩
  rw [hZ] at hmk
  have HZ := Lib.hid hZ
  clear hZ
  unfold Cf.v
  clear hok
  go_enter Tryz.func78, Tryz.ntmps78
  go_wp2_with fail
  refine (rMayC_at _ _ _ _ _ _ _ HU.out).mono ?_; rintro e w1 ⟨rfl, g1⟩
  have a0 : w1.cell? ⟨w.heap.size, 0, none⟩ = some (.int .i64 c.t) := gcell g1 (by simp)
  have a1 : w1.cell? ⟨w.heap.size, 1, none⟩ = some (.int .i64 c.b) := gcell g1 (by simp)
  have a2 : w1.cell? ⟨w.heap.size, 2, none⟩ = some (.int .i64 c.i) := gcell g1 (by simp)
  have a3 : w1.cell? ⟨w.heap.size, 3, none⟩ = some (.int .i64 c.f) := gcell g1 (by simp)
  have a4 : w1.cell? ⟨w.heap.size, 4, none⟩ = some (.int .i64 c.k) := gcell g1 (by simp)
  have B := (Box.made (w.alloc (.cells #[.int .i64 c.t, .int .i64 c.b, .int .i64 c.i, .int .i64 c.f, .int .i64 c.k] 32)) [.int .i64 0, .int .i64 0, .int .i64 0, .int .i64 0, .int .i64 0, .slice none 0 0, .slice none 0 0, .slice none 0 0, .slice none 0 0, .slice none 0 0] 40).grown g1
  have hsz : (w.alloc (.cells #[.int .i64 c.t, .int .i64 c.b, .int .i64 c.i, .int .i64 c.f, .int .i64 c.k] 32)).heap.size = w.heap.size + 1 := by simp
  rw [hsz] at B
  clear hsz
  have HB := Lib.hid B
  clear B
  replace g1 := galloc (galloc g1)
  go_wp2_with fail
  refine wp_region_planb (· = w.heap.size + 1) (.three [0, 1, 2, 4, 5, 7, 8] 3 (.two [] 6 (.one [] 9 (.one [10] 11 (.fin [12]))) 9 (.one [] 6 (.one [10] 11 (.fin [12])))) 6 (.two [] 3 (.one [] 9 (.one [10] 11 (.fin [12]))) 9 (.one [] 3 (.one [10] 11 (.fin [12])))) 9 (.two [] 3 (.one [] 6 (.one [10] 11 (.fin [12]))) 6 (.one [] 3 (.one [10] 11 (.fin [12]))))) (by kernel_rfl) (by kernel_rfl) (by kernel_rfl) ?_
  intro w2 g2
  have d0 : ∀ g : ButW (· = w.heap.size + 1) w2, g.w.cell? ⟨w.heap.size, 0, none⟩ = some (.int .i64 c.t) := ButW.cell (by omega) (gcell g2 a0)
  have d1 : ∀ g : ButW (· = w.heap.size + 1) w2, g.w.cell? ⟨w.heap.size, 1, none⟩ = some (.int .i64 c.b) := ButW.cell (by omega) (gcell g2 a1)
  have d2 : ∀ g : ButW (· = w.heap.size + 1) w2, g.w.cell? ⟨w.heap.size, 2, none⟩ = some (.int .i64 c.i) := ButW.cell (by omega) (gcell g2 a2)
  have d3 : ∀ g : ButW (· = w.heap.size + 1) w2, g.w.cell? ⟨w.heap.size, 3, none⟩ = some (.int .i64 c.f) := ButW.cell (by omega) (gcell g2 a3)
  have d4 : ∀ g : ButW (· = w.heap.size + 1) w2, g.w.cell? ⟨w.heap.size, 4, none⟩ = some (.int .i64 c.k) := ButW.cell (by omega) (gcell g2 a4)
  replace g1 := gtr g1 g2
  replace HB := Lib.hid (HB.out.grown g2)
  clear g2 a0 a1 a2 a3 a4
  refine plan_three ?_
  simp only [nths, nth, List.map_cons, List.map_nil, List.getD_cons_zero, List.getD_cons_succ]
  repeat go_big_quiet_step (fail)
  clear d0 d1 d2 d3 d4
  refine wpQuiet_nil ⟨?_, ?_, ?_⟩
  all_goals have G : Grown w2 w2 := Grown.refl _
  · go_wp2_with fail
    have ku1 : Grown w2 (w2.alloc (.cells Z 3)) := by go_grown
    have Fx : FlatAt (w2.alloc (.cells Z 3)) w2.heap.size (.slice (some ⟨w2.heap.size, 0, none⟩) c.t c.t) (vNat (List.replicate c.t 0)) c.t := made_zeros HZ.out w2 w2.heap.size t1 G.2.2
    replace G := gtr G ku1
    generalize w2.alloc (.cells Z 3) = u1 at *
    obtain ⟨px, hsx⟩ : ∃ q, w2.heap.size = q := ⟨_, rfl⟩
    replace Fx : FlatAt u1 w2.heap.size (.slice (some ⟨px, 0, none⟩) c.t c.t) (vNat (List.replicate c.t 0)) c.t := by rw [← hsx]; exact Fx
    rw [hsx]
    clear hsx
    refine nxt_but (But.of_grown G) (plan_two ?_)
    simp only [nths, nth, List.map_nil, List.getD_cons_zero, List.getD_cons_succ]
    refine wpQuiet_nil ⟨?_, ?_⟩
    · go_wp2_with fail
      have ku2 : Grown u1 (u1.alloc (.cells Z 3)) := by go_grown
      have Fy : FlatAt (u1.alloc (.cells Z 3)) w2.heap.size (.slice (some ⟨u1.heap.size, 0, none⟩) c.t c.t) (vNat (List.replicate c.t 0)) c.t := made_zeros HZ.out u1 w2.heap.size t1 G.2.2
      replace Fx := Fx.grown ku2
      replace G := gtr G ku2
      generalize u1.alloc (.cells Z 3) = u2 at *
      obtain ⟨py, hsy⟩ : ∃ q, u1.heap.size = q := ⟨_, rfl⟩
      replace Fy : FlatAt u2 w2.heap.size (.slice (some ⟨py, 0, none⟩) c.t c.t) (vNat (List.replicate c.t 0)) c.t := by rw [← hsy]; exact Fy
      rw [hsy]
      clear hsy
      refine nxt_but (But.of_grown G) (plan_one ?_)
      simp only [nths, nth, List.map_nil, List.getD_cons_zero, List.getD_cons_succ]
      refine wpQuiet_nil ?_
      go_wp2_with fail
      have ku3 : Grown u2 (u2.alloc (.cells Z 3)) := by go_grown
      have Fz : FlatAt (u2.alloc (.cells Z 3)) w2.heap.size (.slice (some ⟨u2.heap.size, 0, none⟩) c.t c.t) (vNat (List.replicate c.t 0)) c.t := made_zeros HZ.out u2 w2.heap.size t1 G.2.2
      replace Fx := Fx.grown ku3
      replace Fy := Fy.grown ku3
      replace G := gtr G ku3
      generalize u2.alloc (.cells Z 3) = u3 at *
      obtain ⟨pz, hsz⟩ : ∃ q, u2.heap.size = q := ⟨_, rfl⟩
      replace Fz : FlatAt u3 w2.heap.size (.slice (some ⟨pz, 0, none⟩) c.t c.t) (vNat (List.replicate c.t 0)) c.t := by rw [← hsz]; exact Fz
      rw [hsz]
      clear hsz
      refine nxt_but (But.of_grown G) (plan_one ?_)
      simp only [nths, nth, List.map_cons, List.map_nil, List.getD_cons_zero, List.getD_cons_succ]
      repeat go_big_quiet_step (fail)
      refine wpQuiet_nil ?_
      have HC := Lib.hid (HB.out.grown G)
      have c0 := HC.out.cell 0 _ rfl; have f0 := HC.out.free 0
      have c1 := HC.out.cell 1 _ rfl; have f1 := HC.out.free 1
      have c2 := HC.out.cell 2 _ rfl; have f2 := HC.out.free 2
      have c3 := HC.out.cell 3 _ rfl; have f3 := HC.out.free 3
      have c4 := HC.out.cell 4 _ rfl; have f4 := HC.out.free 4
      have c5 := HC.out.cell 5 _ rfl; have f5 := HC.out.free 5
      have c6 := HC.out.cell 6 _ rfl; have f6 := HC.out.free 6
      have c7 := HC.out.cell 7 _ rfl; have f7 := HC.out.free 7
      have c8 := HC.out.cell 8 _ rfl; have f8 := HC.out.free 8
      have c9 := HC.out.cell 9 _ rfl; have f9 := HC.out.free 9
      have hlt := HC.out.lt
      have hlt2 := HB.out.lt
      go_wp2_with fail
      have B2 := HC.out.fill rfl (.int .i64 c.t) (.int .i64 c.b) (.int .i64 c.i) (.int .i64 c.f) (.int .i64 c.k) ((.slice (some ⟨px, 0, none⟩) c.t c.t)) ((.slice (some ⟨py, 0, none⟩) c.t c.t)) ((.slice (some ⟨pz, 0, none⟩) c.t c.t)) (.slice none 0 0) (.slice none 0 0)
      have kS := (But.refl (· = w.heap.size + 1) u3).fill (b := w.heap.size + 1) (.inl rfl) (.int .i64 c.t) (.int .i64 c.b) (.int .i64 c.i) (.int .i64 c.f) (.int .i64 c.k) ((.slice (some ⟨px, 0, none⟩) c.t c.t)) ((.slice (some ⟨py, 0, none⟩) c.t c.t)) ((.slice (some ⟨pz, 0, none⟩) c.t c.t)) (.slice none 0 0) (.slice none 0 0)
      have qS := (But.of_grown G).trans kS
      replace Fx := (Fx.but kS (fun i hi e => by omega)).mono (lo' := hi) (by have := g1.2.2; omega)
      replace Fy := (Fy.but kS (fun i hi e => by omega)).mono (lo' := hi) (by have := g1.2.2; omega)
      replace Fz := (Fz.but kS (fun i hi e => by omega)).mono (lo' := hi) (by have := g1.2.2; omega)
      refine nxt_but qS (plan_fin ?_)
      clear kS c0 f0 c1 f1 c2 f2 c3 f3 c4 f4 c5 f5 c6 f6 c7 f7 c8 f8 c9 f9
      simp only [nths, nth, List.map_cons, List.map_nil, List.getD_cons_zero, List.getD_cons_succ]
      repeat go_big_quiet_step (fail)
      refine wpQuiet_nil ?_
      have e0 := B2.cell 0 _ rfl
      have e1 := B2.cell 1 _ rfl
      have e2 := B2.cell 2 _ rfl
      have e3 := B2.cell 3 _ rfl
      have e4 := B2.cell 4 _ rfl
      have e5 := B2.cell 5 _ rfl
      have e6 := B2.cell 6 _ rfl
      have e7 := B2.cell 7 _ rfl
      have e8 := B2.cell 8 _ rfl
      have e9 := B2.cell 9 _ rfl
      have gE := But.fresh g1 qS (fun i hi => by omega)
      clear B2 qS G HC
      go_wp2_with fail
      refine bodyPost_ret (v := .tuple #[RV c (.slice (some ⟨px, 0, none⟩) c.t c.t) (.slice (some ⟨py, 0, none⟩) c.t c.t) (.slice (some ⟨pz, 0, none⟩) c.t c.t) (.slice none 0 0) (.slice none 0 0), .int .i64 0]) (by simp [results, Tryz.results78, go_sem, RV, e0, e1, e2, e3, e4, e5, e6, e7, e8, e9]) rfl ?_
      exact ⟨_, _, _, _, _, rfl, ⟨Fx, Fy, Fz, .inl ⟨rfl, rfl, rfl⟩, .inl ⟨rfl, rfl, rfl⟩⟩, gE⟩
    · go_wp2_with fail
      have ku4 : Grown u1 (u1.alloc (.cells Z 3)) := by go_grown
      have Fz : FlatAt (u1.alloc (.cells Z 3)) w2.heap.size (.slice (some ⟨u1.heap.size, 0, none⟩) c.t c.t) (vNat (List.replicate c.t 0)) c.t := made_zeros HZ.out u1 w2.heap.size t1 G.2.2
      replace Fx := Fx.grown ku4
      replace G := gtr G ku4
      generalize u1.alloc (.cells Z 3) = u4 at *
      obtain ⟨pz, hsz⟩ : ∃ q, u1.heap.size = q := ⟨_, rfl⟩
      replace Fz : FlatAt u4 w2.heap.size (.slice (some ⟨pz, 0, none⟩) c.t c.t) (vNat (List.replicate c.t 0)) c.t := by rw [← hsz]; exact Fz
      rw [hsz]
      clear hsz
      refine nxt_but (But.of_grown G) (plan_one ?_)
      simp only [nths, nth, List.map_nil, List.getD_cons_zero, List.getD_cons_succ]
      refine wpQuiet_nil ?_
      go_wp2_with fail
      have ku5 : Grown u4 (u4.alloc (.cells Z 3)) := by go_grown
      have Fy : FlatAt (u4.alloc (.cells Z 3)) w2.heap.size (.slice (some ⟨u4.heap.size, 0, none⟩) c.t c.t) (vNat (List.replicate c.t 0)) c.t := made_zeros HZ.out u4 w2.heap.size t1 G.2.2
      replace Fx := Fx.grown ku5
      replace Fz := Fz.grown ku5
      replace G := gtr G ku5
      generalize u4.alloc (.cells Z 3) = u5 at *
      obtain ⟨py, hsy⟩ : ∃ q, u4.heap.size = q := ⟨_, rfl⟩
      replace Fy : FlatAt u5 w2.heap.size (.slice (some ⟨py, 0, none⟩) c.t c.t) (vNat (List.replicate c.t 0)) c.t := by rw [← hsy]; exact Fy
      rw [hsy]
      clear hsy
      refine nxt_but (But.of_grown G) (plan_one ?_)
      simp only [nths, nth, List.map_cons, List.map_nil, List.getD_cons_zero, List.getD_cons_succ]
      repeat go_big_quiet_step (fail)
      refine wpQuiet_nil ?_
      have HC := Lib.hid (HB.out.grown G)
      have c0 := HC.out.cell 0 _ rfl; have f0 := HC.out.free 0
      have c1 := HC.out.cell 1 _ rfl; have f1 := HC.out.free 1
      have c2 := HC.out.cell 2 _ rfl; have f2 := HC.out.free 2
      have c3 := HC.out.cell 3 _ rfl; have f3 := HC.out.free 3
      have c4 := HC.out.cell 4 _ rfl; have f4 := HC.out.free 4
      have c5 := HC.out.cell 5 _ rfl; have f5 := HC.out.free 5
      have c6 := HC.out.cell 6 _ rfl; have f6 := HC.out.free 6
      have c7 := HC.out.cell 7 _ rfl; have f7 := HC.out.free 7
      have c8 := HC.out.cell 8 _ rfl; have f8 := HC.out.free 8
      have c9 := HC.out.cell 9 _ rfl; have f9 := HC.out.free 9
      have hlt := HC.out.lt
      have hlt2 := HB.out.lt
      go_wp2_with fail
      have B2 := HC.out.fill rfl (.int .i64 c.t) (.int .i64 c.b) (.int .i64 c.i) (.int .i64 c.f) (.int .i64 c.k) ((.slice (some ⟨px, 0, none⟩) c.t c.t)) ((.slice (some ⟨py, 0, none⟩) c.t c.t)) ((.slice (some ⟨pz, 0, none⟩) c.t c.t)) (.slice none 0 0) (.slice none 0 0)
      have kS := (But.refl (· = w.heap.size + 1) u5).fill (b := w.heap.size + 1) (.inl rfl) (.int .i64 c.t) (.int .i64 c.b) (.int .i64 c.i) (.int .i64 c.f) (.int .i64 c.k) ((.slice (some ⟨px, 0, none⟩) c.t c.t)) ((.slice (some ⟨py, 0, none⟩) c.t c.t)) ((.slice (some ⟨pz, 0, none⟩) c.t c.t)) (.slice none 0 0) (.slice none 0 0)
      have qS := (But.of_grown G).trans kS
      replace Fx := (Fx.but kS (fun i hi e => by omega)).mono (lo' := hi) (by have := g1.2.2; omega)
      replace Fy := (Fy.but kS (fun i hi e => by omega)).mono (lo' := hi) (by have := g1.2.2; omega)
      replace Fz := (Fz.but kS (fun i hi e => by omega)).mono (lo' := hi) (by have := g1.2.2; omega)
      refine nxt_but qS (plan_fin ?_)
      clear kS c0 f0 c1 f1 c2 f2 c3 f3 c4 f4 c5 f5 c6 f6 c7 f7 c8 f8 c9 f9
      simp only [nths, nth, List.map_cons, List.map_nil, List.getD_cons_zero, List.getD_cons_succ]
      repeat go_big_quiet_step (fail)
      refine wpQuiet_nil ?_
      have e0 := B2.cell 0 _ rfl
      have e1 := B2.cell 1 _ rfl
      have e2 := B2.cell 2 _ rfl
      have e3 := B2.cell 3 _ rfl
      have e4 := B2.cell 4 _ rfl
      have e5 := B2.cell 5 _ rfl
      have e6 := B2.cell 6 _ rfl
      have e7 := B2.cell 7 _ rfl
      have e8 := B2.cell 8 _ rfl
      have e9 := B2.cell 9 _ rfl
      have gE := But.fresh g1 qS (fun i hi => by omega)
      clear B2 qS G HC
      go_wp2_with fail
      refine bodyPost_ret (v := .tuple #[RV c (.slice (some ⟨px, 0, none⟩) c.t c.t) (.slice (some ⟨py, 0, none⟩) c.t c.t) (.slice (some ⟨pz, 0, none⟩) c.t c.t) (.slice none 0 0) (.slice none 0 0), .int .i64 0]) (by simp [results, Tryz.results78, go_sem, RV, e0, e1, e2, e3, e4, e5, e6, e7, e8, e9]) rfl ?_
      exact ⟨_, _, _, _, _, rfl, ⟨Fx, Fy, Fz, .inl ⟨rfl, rfl, rfl⟩, .inl ⟨rfl, rfl, rfl⟩⟩, gE⟩
  · go_wp2_with fail
    have ku6 : Grown w2 (w2.alloc (.cells Z 3)) := by go_grown
    have Fy : FlatAt (w2.alloc (.cells Z 3)) w2.heap.size (.slice (some ⟨w2.heap.size, 0, none⟩) c.t c.t) (vNat (List.replicate c.t 0)) c.t := made_zeros HZ.out w2 w2.heap.size t1 G.2.2
    replace G := gtr G ku6
    generalize w2.alloc (.cells Z 3) = u6 at *
    obtain ⟨py, hsy⟩ : ∃ q, w2.heap.size = q := ⟨_, rfl⟩
    replace Fy : FlatAt u6 w2.heap.size (.slice (some ⟨py, 0, none⟩) c.t c.t) (vNat (List.replicate c.t 0)) c.t := by rw [← hsy]; exact Fy
    rw [hsy]
    clear hsy
    refine nxt_but (But.of_grown G) (plan_two ?_)
    simp only [nths, nth, List.map_nil, List.getD_cons_zero, List.getD_cons_succ]
    refine wpQuiet_nil ⟨?_, ?_⟩
    · go_wp2_with fail
      have ku7 : Grown u6 (u6.alloc (.cells Z 3)) := by go_grown
      have Fx : FlatAt (u6.alloc (.cells Z 3)) w2.heap.size (.slice (some ⟨u6.heap.size, 0, none⟩) c.t c.t) (vNat (List.replicate c.t 0)) c.t := made_zeros HZ.out u6 w2.heap.size t1 G.2.2
      replace Fy := Fy.grown ku7
      replace G := gtr G ku7
      generalize u6.alloc (.cells Z 3) = u7 at *
      obtain ⟨px, hsx⟩ : ∃ q, u6.heap.size = q := ⟨_, rfl⟩
      replace Fx : FlatAt u7 w2.heap.size (.slice (some ⟨px, 0, none⟩) c.t c.t) (vNat (List.replicate c.t 0)) c.t := by rw [← hsx]; exact Fx
      rw [hsx]
      clear hsx
      refine nxt_but (But.of_grown G) (plan_one ?_)
      simp only [nths, nth, List.map_nil, List.getD_cons_zero, List.getD_cons_succ]
      refine wpQuiet_nil ?_
      go_wp2_with fail
      have ku8 : Grown u7 (u7.alloc (.cells Z 3)) := by go_grown
      have Fz : FlatAt (u7.alloc (.cells Z 3)) w2.heap.size (.slice (some ⟨u7.heap.size, 0, none⟩) c.t c.t) (vNat (List.replicate c.t 0)) c.t := made_zeros HZ.out u7 w2.heap.size t1 G.2.2
      replace Fy := Fy.grown ku8
      replace Fx := Fx.grown ku8
      replace G := gtr G ku8
      generalize u7.alloc (.cells Z 3) = u8 at *
      obtain ⟨pz, hsz⟩ : ∃ q, u7.heap.size = q := ⟨_, rfl⟩
      replace Fz : FlatAt u8 w2.heap.size (.slice (some ⟨pz, 0, none⟩) c.t c.t) (vNat (List.replicate c.t 0)) c.t := by rw [← hsz]; exact Fz
      rw [hsz]
      clear hsz
      refine nxt_but (But.of_grown G) (plan_one ?_)
      simp only [nths, nth, List.map_cons, List.map_nil, List.getD_cons_zero, List.getD_cons_succ]
      repeat go_big_quiet_step (fail)
      refine wpQuiet_nil ?_
      have HC := Lib.hid (HB.out.grown G)
      have c0 := HC.out.cell 0 _ rfl; have f0 := HC.out.free 0
      have c1 := HC.out.cell 1 _ rfl; have f1 := HC.out.free 1
      have c2 := HC.out.cell 2 _ rfl; have f2 := HC.out.free 2
      have c3 := HC.out.cell 3 _ rfl; have f3 := HC.out.free 3
      have c4 := HC.out.cell 4 _ rfl; have f4 := HC.out.free 4
      have c5 := HC.out.cell 5 _ rfl; have f5 := HC.out.free 5
      have c6 := HC.out.cell 6 _ rfl; have f6 := HC.out.free 6
      have c7 := HC.out.cell 7 _ rfl; have f7 := HC.out.free 7
      have c8 := HC.out.cell 8 _ rfl; have f8 := HC.out.free 8
      have c9 := HC.out.cell 9 _ rfl; have f9 := HC.out.free 9
      have hlt := HC.out.lt
      have hlt2 := HB.out.lt
      go_wp2_with fail
      have B2 := HC.out.fill rfl (.int .i64 c.t) (.int .i64 c.b) (.int .i64 c.i) (.int .i64 c.f) (.int .i64 c.k) ((.slice (some ⟨px, 0, none⟩) c.t c.t)) ((.slice (some ⟨py, 0, none⟩) c.t c.t)) ((.slice (some ⟨pz, 0, none⟩) c.t c.t)) (.slice none 0 0) (.slice none 0 0)
      have kS := (But.refl (· = w.heap.size + 1) u8).fill (b := w.heap.size + 1) (.inl rfl) (.int .i64 c.t) (.int .i64 c.b) (.int .i64 c.i) (.int .i64 c.f) (.int .i64 c.k) ((.slice (some ⟨px, 0, none⟩) c.t c.t)) ((.slice (some ⟨py, 0, none⟩) c.t c.t)) ((.slice (some ⟨pz, 0, none⟩) c.t c.t)) (.slice none 0 0) (.slice none 0 0)
      have qS := (But.of_grown G).trans kS
      replace Fx := (Fx.but kS (fun i hi e => by omega)).mono (lo' := hi) (by have := g1.2.2; omega)
      replace Fy := (Fy.but kS (fun i hi e => by omega)).mono (lo' := hi) (by have := g1.2.2; omega)
      replace Fz := (Fz.but kS (fun i hi e => by omega)).mono (lo' := hi) (by have := g1.2.2; omega)
      refine nxt_but qS (plan_fin ?_)
      clear kS c0 f0 c1 f1 c2 f2 c3 f3 c4 f4 c5 f5 c6 f6 c7 f7 c8 f8 c9 f9
      simp only [nths, nth, List.map_cons, List.map_nil, List.getD_cons_zero, List.getD_cons_succ]
      repeat go_big_quiet_step (fail)
      refine wpQuiet_nil ?_
      have e0 := B2.cell 0 _ rfl
      have e1 := B2.cell 1 _ rfl
      have e2 := B2.cell 2 _ rfl
      have e3 := B2.cell 3 _ rfl
      have e4 := B2.cell 4 _ rfl
      have e5 := B2.cell 5 _ rfl
      have e6 := B2.cell 6 _ rfl
      have e7 := B2.cell 7 _ rfl
      have e8 := B2.cell 8 _ rfl
      have e9 := B2.cell 9 _ rfl
      have gE := But.fresh g1 qS (fun i hi => by omega)
      clear B2 qS G HC
      go_wp2_with fail
      refine bodyPost_ret (v := .tuple #[RV c (.slice (some ⟨px, 0, none⟩) c.t c.t) (.slice (some ⟨py, 0, none⟩) c.t c.t) (.slice (some ⟨pz, 0, none⟩) c.t c.t) (.slice none 0 0) (.slice none 0 0), .int .i64 0]) (by simp [results, Tryz.results78, go_sem, RV, e0, e1, e2, e3, e4, e5, e6, e7, e8, e9]) rfl ?_
      exact ⟨_, _, _, _, _, rfl, ⟨Fx, Fy, Fz, .inl ⟨rfl, rfl, rfl⟩, .inl ⟨rfl, rfl, rfl⟩⟩, gE⟩
    · go_wp2_with fail
      have ku9 : Grown u6 (u6.alloc (.cells Z 3)) := by go_grown
      have Fz : FlatAt (u6.alloc (.cells Z 3)) w2.heap.size (.slice (some ⟨u6.heap.size, 0, none⟩) c.t c.t) (vNat (List.replicate c.t 0)) c.t := made_zeros HZ.out u6 w2.heap.size t1 G.2.2
      replace Fy := Fy.grown ku9
      replace G := gtr G ku9
      generalize u6.alloc (.cells Z 3) = u9 at *
      obtain ⟨pz, hsz⟩ : ∃ q, u6.heap.size = q := ⟨_, rfl⟩
      replace Fz : FlatAt u9 w2.heap.size (.slice (some ⟨pz, 0, none⟩) c.t c.t) (vNat (List.replicate c.t 0)) c.t := by rw [← hsz]; exact Fz
      rw [hsz]
      clear hsz
      refine nxt_but (But.of_grown G) (plan_one ?_)
      simp only [nths, nth, List.map_nil, List.getD_cons_zero, List.getD_cons_succ]
      refine wpQuiet_nil ?_
      go_wp2_with fail
      have ku10 : Grown u9 (u9.alloc (.cells Z 3)) := by go_grown
      have Fx : FlatAt (u9.alloc (.cells Z 3)) w2.heap.size (.slice (some ⟨u9.heap.size, 0, none⟩) c.t c.t) (vNat (List.replicate c.t 0)) c.t := made_zeros HZ.out u9 w2.heap.size t1 G.2.2
      replace Fy := Fy.grown ku10
      replace Fz := Fz.grown ku10
      replace G := gtr G ku10
      generalize u9.alloc (.cells Z 3) = u10 at *
      obtain ⟨px, hsx⟩ : ∃ q, u9.heap.size = q := ⟨_, rfl⟩
      replace Fx : FlatAt u10 w2.heap.size (.slice (some ⟨px, 0, none⟩) c.t c.t) (vNat (List.replicate c.t 0)) c.t := by rw [← hsx]; exact Fx
      rw [hsx]
      clear hsx
      refine nxt_but (But.of_grown G) (plan_one ?_)
      simp only [nths, nth, List.map_cons, List.map_nil, List.getD_cons_zero, List.getD_cons_succ]
      repeat go_big_quiet_step (fail)
      refine wpQuiet_nil ?_
      have HC := Lib.hid (HB.out.grown G)
      have c0 := HC.out.cell 0 _ rfl; have f0 := HC.out.free 0
      have c1 := HC.out.cell 1 _ rfl; have f1 := HC.out.free 1
      have c2 := HC.out.cell 2 _ rfl; have f2 := HC.out.free 2
      have c3 := HC.out.cell 3 _ rfl; have f3 := HC.out.free 3
      have c4 := HC.out.cell 4 _ rfl; have f4 := HC.out.free 4
      have c5 := HC.out.cell 5 _ rfl; have f5 := HC.out.free 5
      have c6 := HC.out.cell 6 _ rfl; have f6 := HC.out.free 6
      have c7 := HC.out.cell 7 _ rfl; have f7 := HC.out.free 7
      have c8 := HC.out.cell 8 _ rfl; have f8 := HC.out.free 8
      have c9 := HC.out.cell 9 _ rfl; have f9 := HC.out.free 9
      have hlt := HC.out.lt
      have hlt2 := HB.out.lt
      go_wp2_with fail
      have B2 := HC.out.fill rfl (.int .i64 c.t) (.int .i64 c.b) (.int .i64 c.i) (.int .i64 c.f) (.int .i64 c.k) ((.slice (some ⟨px, 0, none⟩) c.t c.t)) ((.slice (some ⟨py, 0, none⟩) c.t c.t)) ((.slice (some ⟨pz, 0, none⟩) c.t c.t)) (.slice none 0 0) (.slice none 0 0)
      have kS := (But.refl (· = w.heap.size + 1) u10).fill (b := w.heap.size + 1) (.inl rfl) (.int .i64 c.t) (.int .i64 c.b) (.int .i64 c.i) (.int .i64 c.f) (.int .i64 c.k) ((.slice (some ⟨px, 0, none⟩) c.t c.t)) ((.slice (some ⟨py, 0, none⟩) c.t c.t)) ((.slice (some ⟨pz, 0, none⟩) c.t c.t)) (.slice none 0 0) (.slice none 0 0)
      have qS := (But.of_grown G).trans kS
      replace Fx := (Fx.but kS (fun i hi e => by omega)).mono (lo' := hi) (by have := g1.2.2; omega)
      replace Fy := (Fy.but kS (fun i hi e => by omega)).mono (lo' := hi) (by have := g1.2.2; omega)
      replace Fz := (Fz.but kS (fun i hi e => by omega)).mono (lo' := hi) (by have := g1.2.2; omega)
      refine nxt_but qS (plan_fin ?_)
      clear kS c0 f0 c1 f1 c2 f2 c3 f3 c4 f4 c5 f5 c6 f6 c7 f7 c8 f8 c9 f9
      simp only [nths, nth, List.map_cons, List.map_nil, List.getD_cons_zero, List.getD_cons_succ]
      repeat go_big_quiet_step (fail)
      refine wpQuiet_nil ?_
      have e0 := B2.cell 0 _ rfl
      have e1 := B2.cell 1 _ rfl
      have e2 := B2.cell 2 _ rfl
      have e3 := B2.cell 3 _ rfl
      have e4 := B2.cell 4 _ rfl
      have e5 := B2.cell 5 _ rfl
      have e6 := B2.cell 6 _ rfl
      have e7 := B2.cell 7 _ rfl
      have e8 := B2.cell 8 _ rfl
      have e9 := B2.cell 9 _ rfl
      have gE := But.fresh g1 qS (fun i hi => by omega)
      clear B2 qS G HC
      go_wp2_with fail
      refine bodyPost_ret (v := .tuple #[RV c (.slice (some ⟨px, 0, none⟩) c.t c.t) (.slice (some ⟨py, 0, none⟩) c.t c.t) (.slice (some ⟨pz, 0, none⟩) c.t c.t) (.slice none 0 0) (.slice none 0 0), .int .i64 0]) (by simp [results, Tryz.results78, go_sem, RV, e0, e1, e2, e3, e4, e5, e6, e7, e8, e9]) rfl ?_
      exact ⟨_, _, _, _, _, rfl, ⟨Fx, Fy, Fz, .inl ⟨rfl, rfl, rfl⟩, .inl ⟨rfl, rfl, rfl⟩⟩, gE⟩
  · go_wp2_with fail
    have ku11 : Grown w2 (w2.alloc (.cells Z 3)) := by go_grown
    have Fz : FlatAt (w2.alloc (.cells Z 3)) w2.heap.size (.slice (some ⟨w2.heap.size, 0, none⟩) c.t c.t) (vNat (List.replicate c.t 0)) c.t := made_zeros HZ.out w2 w2.heap.size t1 G.2.2
    replace G := gtr G ku11
    generalize w2.alloc (.cells Z 3) = u11 at *
    obtain ⟨pz, hsz⟩ : ∃ q, w2.heap.size = q := ⟨_, rfl⟩
    replace Fz : FlatAt u11 w2.heap.size (.slice (some ⟨pz, 0, none⟩) c.t c.t) (vNat (List.replicate c.t 0)) c.t := by rw [← hsz]; exact Fz
    rw [hsz]
    clear hsz
    refine nxt_but (But.of_grown G) (plan_two ?_)
    simp only [nths, nth, List.map_nil, List.getD_cons_zero, List.getD_cons_succ]
    refine wpQuiet_nil ⟨?_, ?_⟩
    · go_wp2_with fail
      have ku12 : Grown u11 (u11.alloc (.cells Z 3)) := by go_grown
      have Fx : FlatAt (u11.alloc (.cells Z 3)) w2.heap.size (.slice (some ⟨u11.heap.size, 0, none⟩) c.t c.t) (vNat (List.replicate c.t 0)) c.t := made_zeros HZ.out u11 w2.heap.size t1 G.2.2
      replace Fz := Fz.grown ku12
      replace G := gtr G ku12
      generalize u11.alloc (.cells Z 3) = u12 at *
      obtain ⟨px, hsx⟩ : ∃ q, u11.heap.size = q := ⟨_, rfl⟩
      replace Fx : FlatAt u12 w2.heap.size (.slice (some ⟨px, 0, none⟩) c.t c.t) (vNat (List.replicate c.t 0)) c.t := by rw [← hsx]; exact Fx
      rw [hsx]
      clear hsx
      refine nxt_but (But.of_grown G) (plan_one ?_)
      simp only [nths, nth, List.map_nil, List.getD_cons_zero, List.getD_cons_succ]
      refine wpQuiet_nil ?_
      go_wp2_with fail
      have ku13 : Grown u12 (u12.alloc (.cells Z 3)) := by go_grown
      have Fy : FlatAt (u12.alloc (.cells Z 3)) w2.heap.size (.slice (some ⟨u12.heap.size, 0, none⟩) c.t c.t) (vNat (List.replicate c.t 0)) c.t := made_zeros HZ.out u12 w2.heap.size t1 G.2.2
      replace Fz := Fz.grown ku13
      replace Fx := Fx.grown ku13
      replace G := gtr G ku13
      generalize u12.alloc (.cells Z 3) = u13 at *
      obtain ⟨py, hsy⟩ : ∃ q, u12.heap.size = q := ⟨_, rfl⟩
      replace Fy : FlatAt u13 w2.heap.size (.slice (some ⟨py, 0, none⟩) c.t c.t) (vNat (List.replicate c.t 0)) c.t := by rw [← hsy]; exact Fy
      rw [hsy]
      clear hsy
      refine nxt_but (But.of_grown G) (plan_one ?_)
      simp only [nths, nth, List.map_cons, List.map_nil, List.getD_cons_zero, List.getD_cons_succ]
      repeat go_big_quiet_step (fail)
      refine wpQuiet_nil ?_
      have HC := Lib.hid (HB.out.grown G)
      have c0 := HC.out.cell 0 _ rfl; have f0 := HC.out.free 0
      have c1 := HC.out.cell 1 _ rfl; have f1 := HC.out.free 1
      have c2 := HC.out.cell 2 _ rfl; have f2 := HC.out.free 2
      have c3 := HC.out.cell 3 _ rfl; have f3 := HC.out.free 3
      have c4 := HC.out.cell 4 _ rfl; have f4 := HC.out.free 4
      have c5 := HC.out.cell 5 _ rfl; have f5 := HC.out.free 5
      have c6 := HC.out.cell 6 _ rfl; have f6 := HC.out.free 6
      have c7 := HC.out.cell 7 _ rfl; have f7 := HC.out.free 7
      have c8 := HC.out.cell 8 _ rfl; have f8 := HC.out.free 8
      have c9 := HC.out.cell 9 _ rfl; have f9 := HC.out.free 9
      have hlt := HC.out.lt
      have hlt2 := HB.out.lt
      go_wp2_with fail
      have B2 := HC.out.fill rfl (.int .i64 c.t) (.int .i64 c.b) (.int .i64 c.i) (.int .i64 c.f) (.int .i64 c.k) ((.slice (some ⟨px, 0, none⟩) c.t c.t)) ((.slice (some ⟨py, 0, none⟩) c.t c.t)) ((.slice (some ⟨pz, 0, none⟩) c.t c.t)) (.slice none 0 0) (.slice none 0 0)
      have kS := (But.refl (· = w.heap.size + 1) u13).fill (b := w.heap.size + 1) (.inl rfl) (.int .i64 c.t) (.int .i64 c.b) (.int .i64 c.i) (.int .i64 c.f) (.int .i64 c.k) ((.slice (some ⟨px, 0, none⟩) c.t c.t)) ((.slice (some ⟨py, 0, none⟩) c.t c.t)) ((.slice (some ⟨pz, 0, none⟩) c.t c.t)) (.slice none 0 0) (.slice none 0 0)
      have qS := (But.of_grown G).trans kS
      replace Fx := (Fx.but kS (fun i hi e => by omega)).mono (lo' := hi) (by have := g1.2.2; omega)
      replace Fy := (Fy.but kS (fun i hi e => by omega)).mono (lo' := hi) (by have := g1.2.2; omega)
      replace Fz := (Fz.but kS (fun i hi e => by omega)).mono (lo' := hi) (by have := g1.2.2; omega)
      refine nxt_but qS (plan_fin ?_)
      clear kS c0 f0 c1 f1 c2 f2 c3 f3 c4 f4 c5 f5 c6 f6 c7 f7 c8 f8 c9 f9
      simp only [nths, nth, List.map_cons, List.map_nil, List.getD_cons_zero, List.getD_cons_succ]
      repeat go_big_quiet_step (fail)
      refine wpQuiet_nil ?_
      have e0 := B2.cell 0 _ rfl
      have e1 := B2.cell 1 _ rfl
      have e2 := B2.cell 2 _ rfl
      have e3 := B2.cell 3 _ rfl
      have e4 := B2.cell 4 _ rfl
      have e5 := B2.cell 5 _ rfl
      have e6 := B2.cell 6 _ rfl
      have e7 := B2.cell 7 _ rfl
      have e8 := B2.cell 8 _ rfl
      have e9 := B2.cell 9 _ rfl
      have gE := But.fresh g1 qS (fun i hi => by omega)
      clear B2 qS G HC
      go_wp2_with fail
      refine bodyPost_ret (v := .tuple #[RV c (.slice (some ⟨px, 0, none⟩) c.t c.t) (.slice (some ⟨py, 0, none⟩) c.t c.t) (.slice (some ⟨pz, 0, none⟩) c.t c.t) (.slice none 0 0) (.slice none 0 0), .int .i64 0]) (by simp [results, Tryz.results78, go_sem, RV, e0, e1, e2, e3, e4, e5, e6, e7, e8, e9]) rfl ?_
      exact ⟨_, _, _, _, _, rfl, ⟨Fx, Fy, Fz, .inl ⟨rfl, rfl, rfl⟩, .inl ⟨rfl, rfl, rfl⟩⟩, gE⟩
    · go_wp2_with fail
      have ku14 : Grown u11 (u11.alloc (.cells Z 3)) := by go_grown
      have Fy : FlatAt (u11.alloc (.cells Z 3)) w2.heap.size (.slice (some ⟨u11.heap.size, 0, none⟩) c.t c.t) (vNat (List.replicate c.t 0)) c.t := made_zeros HZ.out u11 w2.heap.size t1 G.2.2
      replace Fz := Fz.grown ku14
      replace G := gtr G ku14
      generalize u11.alloc (.cells Z 3) = u14 at *
      obtain ⟨py, hsy⟩ : ∃ q, u11.heap.size = q := ⟨_, rfl⟩
      replace Fy : FlatAt u14 w2.heap.size (.slice (some ⟨py, 0, none⟩) c.t c.t) (vNat (List.replicate c.t 0)) c.t := by rw [← hsy]; exact Fy
      rw [hsy]
      clear hsy
      refine nxt_but (But.of_grown G) (plan_one ?_)
      simp only [nths, nth, List.map_nil, List.getD_cons_zero, List.getD_cons_succ]
      refine wpQuiet_nil ?_
      go_wp2_with fail
      have ku15 : Grown u14 (u14.alloc (.cells Z 3)) := by go_grown
      have Fx : FlatAt (u14.alloc (.cells Z 3)) w2.heap.size (.slice (some ⟨u14.heap.size, 0, none⟩) c.t c.t) (vNat (List.replicate c.t 0)) c.t := made_zeros HZ.out u14 w2.heap.size t1 G.2.2
      replace Fz := Fz.grown ku15
      replace Fy := Fy.grown ku15
      replace G := gtr G ku15
      generalize u14.alloc (.cells Z 3) = u15 at *
      obtain ⟨px, hsx⟩ : ∃ q, u14.heap.size = q := ⟨_, rfl⟩
      replace Fx : FlatAt u15 w2.heap.size (.slice (some ⟨px, 0, none⟩) c.t c.t) (vNat (List.replicate c.t 0)) c.t := by rw [← hsx]; exact Fx
      rw [hsx]
      clear hsx
      refine nxt_but (But.of_grown G) (plan_one ?_)
      simp only [nths, nth, List.map_cons, List.map_nil, List.getD_cons_zero, List.getD_cons_succ]
      repeat go_big_quiet_step (fail)
      refine wpQuiet_nil ?_
      have HC := Lib.hid (HB.out.grown G)
      have c0 := HC.out.cell 0 _ rfl; have f0 := HC.out.free 0
      have c1 := HC.out.cell 1 _ rfl; have f1 := HC.out.free 1
      have c2 := HC.out.cell 2 _ rfl; have f2 := HC.out.free 2
      have c3 := HC.out.cell 3 _ rfl; have f3 := HC.out.free 3
      have c4 := HC.out.cell 4 _ rfl; have f4 := HC.out.free 4
      have c5 := HC.out.cell 5 _ rfl; have f5 := HC.out.free 5
      have c6 := HC.out.cell 6 _ rfl; have f6 := HC.out.free 6
      have c7 := HC.out.cell 7 _ rfl; have f7 := HC.out.free 7
      have c8 := HC.out.cell 8 _ rfl; have f8 := HC.out.free 8
      have c9 := HC.out.cell 9 _ rfl; have f9 := HC.out.free 9
      have hlt := HC.out.lt
      have hlt2 := HB.out.lt
      go_wp2_with fail
      have B2 := HC.out.fill rfl (.int .i64 c.t) (.int .i64 c.b) (.int .i64 c.i) (.int .i64 c.f) (.int .i64 c.k) ((.slice (some ⟨px, 0, none⟩) c.t c.t)) ((.slice (some ⟨py, 0, none⟩) c.t c.t)) ((.slice (some ⟨pz, 0, none⟩) c.t c.t)) (.slice none 0 0) (.slice none 0 0)
      have kS := (But.refl (· = w.heap.size + 1) u15).fill (b := w.heap.size + 1) (.inl rfl) (.int .i64 c.t) (.int .i64 c.b) (.int .i64 c.i) (.int .i64 c.f) (.int .i64 c.k) ((.slice (some ⟨px, 0, none⟩) c.t c.t)) ((.slice (some ⟨py, 0, none⟩) c.t c.t)) ((.slice (some ⟨pz, 0, none⟩) c.t c.t)) (.slice none 0 0) (.slice none 0 0)
      have qS := (But.of_grown G).trans kS
      replace Fx := (Fx.but kS (fun i hi e => by omega)).mono (lo' := hi) (by have := g1.2.2; omega)
      replace Fy := (Fy.but kS (fun i hi e => by omega)).mono (lo' := hi) (by have := g1.2.2; omega)
      replace Fz := (Fz.but kS (fun i hi e => by omega)).mono (lo' := hi) (by have := g1.2.2; omega)
      refine nxt_but qS (plan_fin ?_)
      clear kS c0 f0 c1 f1 c2 f2 c3 f3 c4 f4 c5 f5 c6 f6 c7 f7 c8 f8 c9 f9
      simp only [nths, nth, List.map_cons, List.map_nil, List.getD_cons_zero, List.getD_cons_succ]
      repeat go_big_quiet_step (fail)
      refine wpQuiet_nil ?_
      have e0 := B2.cell 0 _ rfl
      have e1 := B2.cell 1 _ rfl
      have e2 := B2.cell 2 _ rfl
      have e3 := B2.cell 3 _ rfl
      have e4 := B2.cell 4 _ rfl
      have e5 := B2.cell 5 _ rfl
      have e6 := B2.cell 6 _ rfl
      have e7 := B2.cell 7 _ rfl
      have e8 := B2.cell 8 _ rfl
      have e9 := B2.cell 9 _ rfl
      have gE := But.fresh g1 qS (fun i hi => by omega)
      clear B2 qS G HC
      go_wp2_with fail
      refine bodyPost_ret (v := .tuple #[RV c (.slice (some ⟨px, 0, none⟩) c.t c.t) (.slice (some ⟨py, 0, none⟩) c.t c.t) (.slice (some ⟨pz, 0, none⟩) c.t c.t) (.slice none 0 0) (.slice none 0 0), .int .i64 0]) (by simp [results, Tryz.results78, go_sem, RV, e0, e1, e2, e3, e4, e5, e6, e7, e8, e9]) rfl ?_
      exact ⟨_, _, _, _, _, rfl, ⟨Fx, Fy, Fz, .inl ⟨rfl, rfl, rfl⟩, .inl ⟨rfl, rfl, rfl⟩⟩, gE⟩
end Go.Proofs.YtagapfejgmmppaaGreat
