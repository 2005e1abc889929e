/- Package world, method by method: what each call returns, and what becomes of the cells. -/
import Derived.Test.YtagapfejgmmppaaGreatWorld
import Derived.Test.YtagapfejgmmppaaGreatRoute
namespace Go.Proofs.YtagapfejgmmppaaGreat
open Go.ChangeShapes Go.WideShapes Go.ChangeAt Go.RowKit
set_option maxRecDepth 100000
set_option linter.unusedVariables false
theorem length_sw_ (ws : List Int) (i old v : Int) : (sw ws i old v).length = ws.length := by
  unfold sw; split
  · exact length_wr _ _ _
  · rfl

theorem store1_at (w : World) (c : Cf) (d : Wd) (ws : List Int) (n : Int) (s : St) (h : WdAt w c d ws n s) (hn : 0 ≤ n) (hn' : n < 4611686018427387904) (kf : Nat) (i at_ v : Int) (r0 r1 r2 r3 : Nat)
    (hcf : ∀ (xs : Array Value) (w : World), (callFunc kf xs).run Tryz.prog w = .ok (.enter kf xs) w)
    (hof : ∀ w1, Calls Tryz.prog kf #[c.v, .int .i64 i] w1 fun e w' => e = .returned (.int .i64 at_) ∧ Grown w1 w')
    (c0 : w.cell? ⟨r0, 0, none⟩ = some (.pointer (some ⟨d.x, 0, none⟩))) (c1 : w.cell? ⟨r1, 0, none⟩ = some (.func (.func kf) #[] #[])) (c2 : w.cell? ⟨r2, 0, none⟩ = some (.int .i64 i)) (c3 : w.cell? ⟨r3, 0, none⟩ = some (.int .u64 v))
    (m0 : ¬ Mine d.p d.b r0) (m1 : ¬ Mine d.p d.b r1) (m2 : ¬ Mine d.p d.b r2) (m3 : ¬ Mine d.p d.b r3) :
    Calls Tryz.prog 127 #[.pointer (some ⟨r0, 0, none⟩), .pointer (some ⟨r1, 0, none⟩), .pointer (some ⟨r2, 0, none⟩), .pointer (some ⟨r3, 0, none⟩)] w
      fun e w' => e = .returned (.tuple #[]) ∧ LeftW c d (wr ws at_ v) (n + cnt ws at_) s w w' := by
  have hmf := mkFunc
  have k0 := h.k0
  have k1 := h.k1
  have k2 := h.k2
  have k3 := h.k3
  have k4 := h.k4
  have k5 := h.k5
  have HD := Lib.hid h
  have HOF := Lib.hid hof
  clear h hof
  go_enter Tryz.func127, Tryz.ntmps127
  go_wp2_with fail
  refine wp_region_planb (Mine d.p d.b) (.one [0, 1, 2, 3, 4, 5, 6, 8] 7 (.one [] 9 (.fin []))) (by kernel_rfl) (by kernel_rfl) (by kernel_rfl) ?_
  intro w2 g2
  have mx := HD.out.mine
  have d0 : ∀ g : ButW (Mine d.p d.b) w2, g.w.cell? ⟨r0, 0, none⟩ = some (.pointer (some ⟨d.x, 0, none⟩)) := ButW.cell m0 (gcell g2 c0)
  have d1 : ∀ g : ButW (Mine d.p d.b) w2, g.w.cell? ⟨r1, 0, none⟩ = some (.func (.func kf) #[] #[]) := ButW.cell m1 (gcell g2 c1)
  have d2 : ∀ g : ButW (Mine d.p d.b) w2, g.w.cell? ⟨r2, 0, none⟩ = some (.int .i64 i) := ButW.cell m2 (gcell g2 c2)
  have d3 : ∀ g : ButW (Mine d.p d.b) w2, g.w.cell? ⟨r3, 0, none⟩ = some (.int .u64 v) := ButW.cell m3 (gcell g2 c3)
  have e0 : ∀ g : ButW (Mine d.p d.b) w2, g.w.cell? ⟨d.x, 0, none⟩ = some (.int .i64 c.t) := ButW.cell mx (gcell g2 k0)
  have e1 : ∀ g : ButW (Mine d.p d.b) w2, g.w.cell? ⟨d.x, 1, none⟩ = some (.int .i64 c.b) := ButW.cell mx (gcell g2 k1)
  have e2 : ∀ g : ButW (Mine d.p d.b) w2, g.w.cell? ⟨d.x, 2, none⟩ = some (.int .i64 c.i) := ButW.cell mx (gcell g2 k2)
  have e3 : ∀ g : ButW (Mine d.p d.b) w2, g.w.cell? ⟨d.x, 3, none⟩ = some (.int .i64 c.f) := ButW.cell mx (gcell g2 k3)
  have e4 : ∀ g : ButW (Mine d.p d.b) w2, g.w.cell? ⟨d.x, 4, none⟩ = some (.int .i64 c.k) := ButW.cell mx (gcell g2 k4)
  refine plan_one ?_
  simp only [nths, nth, List.map_cons, List.map_nil, List.getD_cons_zero, List.getD_cons_succ]
  repeat go_big_quiet_step (fail)
  clear d0 d1 d2 d3 e0 e1 e2 e3 e4
  refine wpQuiet_nil ?_
  go_wp2_with fail
  refine (HOF.out _).mono ?_; rintro e u3 ⟨rfl, g3⟩
  go_wp2_with fail
  refine nxt_but (But.of_grown g3) (plan_one ?_)
  simp only [nths, nth, List.map_nil, List.getD_cons_zero, List.getD_cons_succ]
  refine wpQuiet_nil ?_
  go_wp2_with fail
  have G3 := gtr g2 g3
  have HD3 := Lib.hid (HD.out.grown G3)
  refine (Store_any _ _ _ _ _ _ v HD3.out.bank hn hn').mono ?_; rintro e u4 ⟨rfl, q4, b4⟩
  have W4 := Lib.hid (HD3.out.step q4 b4 (length_wr _ _ _))
  have q5 : But (Mine d.p d.b) w u4 := (But.of_grown G3).trans q4
  have qB : But (Mine d.p d.b) w2 u4 := (But.of_grown g3).trans q4
  clear b4 HD3 HD HOF
  go_wp2_with fail
  refine nxt_but qB (plan_fin ?_)
  simp only [nths, List.map_nil]
  refine wpQuiet_nil ?_
  go_wp2_with fail
  go_end0
  exact ⟨rfl, q5, W4.out⟩

theorem store_any (w : World) (c : Cf) (d : Wd) (ws : List Int) (n : Int) (s : St) (h : WdAt w c d ws n s) (hn : 0 ≤ n) (hn' : n < 4611686018427387904) (kf : Nat) (i at_ v : Int)
    (hcf : ∀ (xs : Array Value) (w : World), (callFunc kf xs).run Tryz.prog w = .ok (.enter kf xs) w)
    (hof : ∀ w1, Calls Tryz.prog kf #[c.v, .int .i64 i] w1 fun e w' => e = .returned (.int .i64 at_) ∧ Grown w1 w')
    :
    Calls Tryz.prog 76 #[.pointer (some ⟨d.x, 0, none⟩), .func (.func kf) #[] #[], .int .i64 i, .int .u64 v] w fun e w' => e = .returned (.tuple #[]) ∧ LeftW c d (wr ws at_ v) (n + cnt ws at_) s w w' := by
  have hmf := mkFunc
  have HD := Lib.hid h
  have HOF := Lib.hid hof
  clear h hof
  go_enter Tryz.func76, Tryz.ntmps76
  go_wp2_with fail
  refine (there_at _ d.x _ _ (LeftW c d (wr ws at_ v) (n + cnt ws at_) s _) (fun _ _ => rfl) (store1_at _ c d ws n s (HD.out.grown (by go_grown)) hn hn' kf i at_ v _ _ _ _ hcf HOF.out (by simp [go_sem]) (by simp [go_sem]) (by simp [go_sem]) (by simp [go_sem]) (HD.out.new (by omega)) (HD.out.new (by omega)) (HD.out.new (by omega)) (HD.out.new (by omega)))).mono ?_
  rintro e w2 ⟨rfl, q, h2⟩
  go_wp2
  go_end0
  exact ⟨rfl, (But.of_grown (by go_grown)).trans q, h2⟩

theorem swap1_at (w : World) (c : Cf) (d : Wd) (ws : List Int) (n : Int) (s : St) (h : WdAt w c d ws n s) (hn : 0 ≤ n) (hn' : n < 4611686018427387904) (kf : Nat) (i at_ old v : Int) (r0 r1 r2 r3 r4 r5 : Nat)
    (hcf : ∀ (xs : Array Value) (w : World), (callFunc kf xs).run Tryz.prog w = .ok (.enter kf xs) w)
    (hof : ∀ w1, Calls Tryz.prog kf #[c.v, .int .i64 i] w1 fun e w' => e = .returned (.int .i64 at_) ∧ Grown w1 w')
    (c0 : w.cell? ⟨r0, 0, none⟩ = some (.pointer (some ⟨d.x, 0, none⟩))) (c1 : w.cell? ⟨r1, 0, none⟩ = some (.func (.func kf) #[] #[])) (c2 : w.cell? ⟨r2, 0, none⟩ = some (.int .i64 i)) (c3 : w.cell? ⟨r3, 0, none⟩ = some (.int .u64 old)) (c4 : w.cell? ⟨r4, 0, none⟩ = some (.int .u64 v)) (c5 : w.cell? ⟨r5, 0, none⟩ = some (.bool false))
    (f5 : w.frozen? ⟨r5, 0, none⟩ = false) (m5 : ¬ Mine d.p d.b r5) (x5 : r5 ≠ d.x) (m0 : ¬ (Mine d.p d.b r0 ∨ r0 = r5)) (m1 : ¬ (Mine d.p d.b r1 ∨ r1 = r5)) (m2 : ¬ (Mine d.p d.b r2 ∨ r2 = r5)) (m3 : ¬ (Mine d.p d.b r3 ∨ r3 = r5)) (m4 : ¬ (Mine d.p d.b r4 ∨ r4 = r5)) :
    Calls Tryz.prog 113 #[.pointer (some ⟨r0, 0, none⟩), .pointer (some ⟨r1, 0, none⟩), .pointer (some ⟨r2, 0, none⟩), .pointer (some ⟨r3, 0, none⟩), .pointer (some ⟨r4, 0, none⟩), .pointer (some ⟨r5, 0, none⟩)] w
      fun e w' => e = .returned (.tuple #[]) ∧ LeftR c d (sw ws at_ old v) (n + cnt ws at_) s r5 (.bool (may ws at_ old)) w w' := by
  obtain ⟨done, hdn⟩ : ∃ dn, may ws at_ old = dn := ⟨_, rfl⟩
  rw [hdn]
  have HDN := Lib.hid hdn
  clear hdn
  have hmf := mkFunc
  have k0 := h.k0
  have k1 := h.k1
  have k2 := h.k2
  have k3 := h.k3
  have k4 := h.k4
  have k5 := h.k5
  have HD := Lib.hid h
  have HOF := Lib.hid hof
  clear h hof
  go_enter Tryz.func113, Tryz.ntmps113
  go_wp2_with fail
  refine wp_region_planb (fun i => Mine d.p d.b i ∨ i = r5) (.one [0, 1, 2, 3, 4, 5, 6, 8, 9] 7 (.one [] 10 (.one [] 11 (.fin [])))) (by kernel_rfl) (by kernel_rfl) (by kernel_rfl) ?_
  intro w2 g2
  have mx : ¬ (Mine d.p d.b d.x ∨ d.x = r5) := by rintro (h | h); exact HD.out.mine h; exact x5 h.symm
  have d0 : ∀ g : ButW (fun i => Mine d.p d.b i ∨ i = r5) w2, g.w.cell? ⟨r0, 0, none⟩ = some (.pointer (some ⟨d.x, 0, none⟩)) := ButW.cell m0 (gcell g2 c0)
  have d1 : ∀ g : ButW (fun i => Mine d.p d.b i ∨ i = r5) w2, g.w.cell? ⟨r1, 0, none⟩ = some (.func (.func kf) #[] #[]) := ButW.cell m1 (gcell g2 c1)
  have d2 : ∀ g : ButW (fun i => Mine d.p d.b i ∨ i = r5) w2, g.w.cell? ⟨r2, 0, none⟩ = some (.int .i64 i) := ButW.cell m2 (gcell g2 c2)
  have d3 : ∀ g : ButW (fun i => Mine d.p d.b i ∨ i = r5) w2, g.w.cell? ⟨r3, 0, none⟩ = some (.int .u64 old) := ButW.cell m3 (gcell g2 c3)
  have d4 : ∀ g : ButW (fun i => Mine d.p d.b i ∨ i = r5) w2, g.w.cell? ⟨r4, 0, none⟩ = some (.int .u64 v) := ButW.cell m4 (gcell g2 c4)
  have e0 : ∀ g : ButW (fun i => Mine d.p d.b i ∨ i = r5) w2, g.w.cell? ⟨d.x, 0, none⟩ = some (.int .i64 c.t) := ButW.cell mx (gcell g2 k0)
  have e1 : ∀ g : ButW (fun i => Mine d.p d.b i ∨ i = r5) w2, g.w.cell? ⟨d.x, 1, none⟩ = some (.int .i64 c.b) := ButW.cell mx (gcell g2 k1)
  have e2 : ∀ g : ButW (fun i => Mine d.p d.b i ∨ i = r5) w2, g.w.cell? ⟨d.x, 2, none⟩ = some (.int .i64 c.i) := ButW.cell mx (gcell g2 k2)
  have e3 : ∀ g : ButW (fun i => Mine d.p d.b i ∨ i = r5) w2, g.w.cell? ⟨d.x, 3, none⟩ = some (.int .i64 c.f) := ButW.cell mx (gcell g2 k3)
  have e4 : ∀ g : ButW (fun i => Mine d.p d.b i ∨ i = r5) w2, g.w.cell? ⟨d.x, 4, none⟩ = some (.int .i64 c.k) := ButW.cell mx (gcell g2 k4)
  refine plan_one ?_
  simp only [nths, nth, List.map_cons, List.map_nil, List.getD_cons_zero, List.getD_cons_succ]
  repeat go_big_quiet_step (fail)
  clear d0 d1 d2 d3 d4 e0 e1 e2 e3 e4
  refine wpQuiet_nil ?_
  go_wp2_with fail
  refine (HOF.out _).mono ?_; rintro e u3 ⟨rfl, g3⟩
  go_wp2_with fail
  refine nxt_but (But.of_grown g3) (plan_one ?_)
  simp only [nths, nth, List.map_nil, List.getD_cons_zero, List.getD_cons_succ]
  refine wpQuiet_nil ?_
  go_wp2_with fail
  have G3 := gtr g2 g3
  have HD3 := Lib.hid (HD.out.grown G3)
  replace c5 := gcell G3 c5
  replace f5 : u3.frozen? ⟨r5, 0, none⟩ = false := (G3.2.1 _).trans f5
  refine (Swap_any _ _ _ _ _ _ old v HD3.out.bank hn hn').mono ?_; rintro e u4 ⟨rfl, q4, b4⟩
  have W4 := Lib.hid (HD3.out.step q4 b4 (length_sw_ _ _ _ _))
  replace c5 := q4.cell m5 c5
  replace f5 := q4.frozen f5
  have q5 : But (Mine d.p d.b) w u4 := (But.of_grown G3).trans q4
  have qB : But (fun i => Mine d.p d.b i ∨ i = r5) w2 u4 := ((But.of_grown g3).trans q4).mono (fun _ h => .inl h)
  clear b4 HD3 HD HOF
  rw [HDN.out]
  go_wp2_with fail
  refine nxt_but qB (plan_one ?_)
  simp only [nths, nth, List.map_nil, List.getD_cons_zero, List.getD_cons_succ]
  refine wpQuiet_nil ?_
  go_wp2_with fail
  refine nxt_but (qB.setCell (.inl (.inr rfl)) _) (plan_fin ?_)
  simp only [nths, List.map_nil]
  refine wpQuiet_nil ?_
  go_wp2_with fail
  go_end0
  exact ⟨rfl, (q5.mono (fun _ h => .inl h)).setCell (.inl (.inr rfl)) _, W4.out.put c5 m5 x5 (by simp) (by simp), World.cell?_setCell_same _ _ _ c5⟩

theorem swap_any (w : World) (c : Cf) (d : Wd) (ws : List Int) (n : Int) (s : St) (h : WdAt w c d ws n s) (hn : 0 ≤ n) (hn' : n < 4611686018427387904) (kf : Nat) (i at_ old v : Int)
    (hcf : ∀ (xs : Array Value) (w : World), (callFunc kf xs).run Tryz.prog w = .ok (.enter kf xs) w)
    (hof : ∀ w1, Calls Tryz.prog kf #[c.v, .int .i64 i] w1 fun e w' => e = .returned (.int .i64 at_) ∧ Grown w1 w')
    :
    Calls Tryz.prog 66 #[.pointer (some ⟨d.x, 0, none⟩), .func (.func kf) #[] #[], .int .i64 i, .int .u64 old, .int .u64 v] w fun e w' => e = .returned (.bool (may ws at_ old)) ∧ LeftW c d (sw ws at_ old v) (n + cnt ws at_) s w w' := by
  obtain ⟨done, hdn⟩ : ∃ dn, may ws at_ old = dn := ⟨_, rfl⟩
  rw [hdn]
  have HDN := Lib.hid hdn
  clear hdn
  have hmf := mkFunc
  have HD := Lib.hid h
  have HOF := Lib.hid hof
  clear h hof
  go_enter Tryz.func66, Tryz.ntmps66
  go_wp2_with fail
  refine (there_at _ d.x _ _ (LeftR c d (sw ws at_ old v) (n + cnt ws at_) s (w.heap.size + 1 + 1 + 1 + 1 + 1) (.bool (may ws at_ old)) _) (fun _ _ => rfl) (swap1_at _ c d ws n s (HD.out.grown (by go_grown)) hn hn' kf i at_ old v _ _ _ _ _ _ hcf HOF.out (by simp [go_sem]) (by simp [go_sem]) (by simp [go_sem]) (by simp [go_sem]) (by simp [go_sem]) (by simp [go_sem]) (by simp [go_sem]) (HD.out.new (by omega)) (by have := HD.out.xlt; omega) (HD.out.new2 (by omega) (by omega)) (HD.out.new2 (by omega) (by omega)) (HD.out.new2 (by omega) (by omega)) (HD.out.new2 (by omega) (by omega)) (HD.out.new2 (by omega) (by omega)))).mono ?_
  rintro e w2 ⟨rfl, q, h2, c3⟩
  rw [HDN.out] at c3
  have f0 : w2.frozen? ⟨w.heap.size + 1 + 1 + 1 + 1 + 1, 0, none⟩ = false := q.frozen (by simp [go_sem])
  go_wp2
  have c9 : (w2.setCell ⟨w.heap.size + 1 + 1 + 1 + 1 + 1, 0, none⟩ (.bool done)).cell? ⟨w.heap.size + 1 + 1 + 1 + 1 + 1, 0, none⟩ = some (.bool done) := World.cell?_setCell_same _ _ _ c3
  exact bodyPost_ret (v := .bool done) (by simp [results, Tryz.results66, go_sem, c9]) rfl ⟨rfl, HD.out.left q h2 c3 (by omega) (by simp) (by simp) (by go_grown)⟩

theorem swap_nil (w : World) (kf : Nat) (i old v : Int) :
    Calls Tryz.prog 66 #[.pointer none, .func (.func kf) #[] #[], .int .i64 i, .int .u64 old, .int .u64 v] w fun e w' => e = .returned (.bool false) ∧ Grown w w' := by
  have hmf := mkFunc
  go_enter Tryz.func66, Tryz.ntmps66
  go_wp2_with fail
  refine (there_nil _ _).mono ?_
  rintro e w2 ⟨rfl, g2⟩
  have c3 : w2.cell? ⟨w.heap.size + 1 + 1 + 1 + 1 + 1, 0, none⟩ = some (.bool false) := gcell g2 (by simp [go_sem])
  have f0 : w2.frozen? ⟨w.heap.size + 1 + 1 + 1 + 1 + 1, 0, none⟩ = false := (g2.2.1 _).trans (by simp [go_sem])
  go_wp2
  have c9 : (w2.setCell ⟨w.heap.size + 1 + 1 + 1 + 1 + 1, 0, none⟩ (.bool false)).cell? ⟨w.heap.size + 1 + 1 + 1 + 1 + 1, 0, none⟩ = some (.bool false) := World.cell?_setCell_same _ _ _ c3
  exact bodyPost_ret (v := .bool false) (by simp [results, Tryz.results66, go_sem, c9]) rfl ⟨rfl, (gtr (by go_grown) g2).setCell (by show _ ≤ w.heap.size + 1 + 1 + 1 + 1 + 1; omega) _⟩

theorem store_nil (w : World) (kf : Nat) (i v : Int) :
    Calls Tryz.prog 76 #[.pointer none, .func (.func kf) #[] #[], .int .i64 i, .int .u64 v] w fun e w' => e = .returned (.tuple #[]) ∧ Grown w w' := by
  have hmf := mkFunc
  go_enter Tryz.func76, Tryz.ntmps76
  go_wp2_with fail
  refine (there_nil _ _).mono ?_
  rintro e w2 ⟨rfl, g2⟩
  go_wp2
  go_end0
  exact ⟨rfl, gtr (by go_grown) g2⟩

/- The cell of a node, an operation, a thread; the node ahead of a bucket. -/
def nxtI (c : Cf) (i : Int) : Int := vNext c.t c.b c.i c.f c.k i
def wrdI (c : Cf) (i : Int) : Int := vWord c.t c.b c.i c.f c.k i
def annI (c : Cf) (i : Int) : Int := vAnn c.t c.b c.i c.f c.k i
def headI (c : Cf) (key : Int) : Int := vHead c.t c.b c.i c.f c.k (zBucket key c.b)
/-- The operation of a word of a thread's; the word of an operation. -/
def opOf (v : Int) : Int := wrap64 (v - 1)
def wdOf (o : Int) : Int := IntKind.u64.wrap (o + 1)

theorem wSet_any (w : World) (c : Cf) (d : Wd) (ws : List Int) (n : Int) (s : St) (i v : Int) (h : WdAt w c d ws n s) (hn : 0 ≤ n) (hn' : n < 4611686018427387904) :
    Calls Tryz.prog 31 #[.pointer (some ⟨d.x, 0, none⟩), .int .i64 i, .int .u64 v] w fun e w' => e = .returned (.tuple #[]) ∧ LeftW c d (wr ws (nxtI c i) v) (n + cnt ws (nxtI c i)) s w w' := by
  have HD := Lib.hid h
  clear h
  go_enter Tryz.func31, Tryz.ntmps31
  go_wp2_with fail
  refine (store_any _ c d ws n s (HD.out.grown (by go_grown)) hn hn' _ i (nxtI c i) v (fun _ _ => rfl) (fun _ => Next_at _ _ _ _ _ _ _ _ rfl)).mono ?_; rintro e w1 ⟨rfl, q, h1⟩
  go_wp2_with fail
  go_end0
  exact ⟨rfl, (But.of_grown (by go_grown)).trans q, h1⟩

theorem wTurn_any (w : World) (c : Cf) (d : Wd) (ws : List Int) (n : Int) (s : St) (i old v : Int) (h : WdAt w c d ws n s) (hn : 0 ≤ n) (hn' : n < 4611686018427387904) :
    Calls Tryz.prog 26 #[.pointer (some ⟨d.x, 0, none⟩), .int .i64 i, .int .u64 old, .int .u64 v] w fun e w' => e = .returned (.bool (may ws (wrdI c i) old)) ∧ LeftW c d (sw ws (wrdI c i) old v) (n + cnt ws (wrdI c i)) s w w' := by
  have HD := Lib.hid h
  clear h
  go_enter Tryz.func26, Tryz.ntmps26
  go_wp2_with fail
  refine (swap_any _ c d ws n s (HD.out.grown (by go_grown)) hn hn' _ i (wrdI c i) old v (fun _ _ => rfl) (fun _ => Word_at _ _ _ _ _ _ _ _ rfl)).mono ?_; rintro e w1 ⟨rfl, q, h1⟩
  go_wp2_with fail
  go_ret
  exact ⟨rfl, (But.of_grown (by go_grown)).trans q, h1⟩

theorem wTurn_nil (w : World) (i old v : Int) :
    Calls Tryz.prog 26 #[.pointer none, .int .i64 i, .int .u64 old, .int .u64 v] w fun e w' => e = .returned (.bool false) ∧ Grown w w' := by
  go_enter Tryz.func26, Tryz.ntmps26
  go_wp2_with fail
  refine (swap_nil _ _ _ _ _).mono ?_; rintro e w1 ⟨rfl, g1⟩
  go_wp2_with fail
  go_ret
  exact ⟨rfl, gtr (by go_grown) g1⟩

theorem wSet_nil (w : World) (i v : Int) :
    Calls Tryz.prog 31 #[.pointer none, .int .i64 i, .int .u64 v] w fun e w' => e = .returned (.tuple #[]) ∧ Grown w w' := by
  go_enter Tryz.func31, Tryz.ntmps31
  go_wp2_with fail
  refine (store_nil _ _ _ _).mono ?_; rintro e w1 ⟨rfl, g1⟩
  go_wp2_with fail
  go_end0
  exact ⟨rfl, gtr (by go_grown) g1⟩

end Go.Proofs.YtagapfejgmmppaaGreat
