/- Package world, function by function: a layout, cells and a book behind one pointer; each step is of a thing's cell. -/
import Derived.Test.YtagapfejgmmppaaGreatCells
import Derived.Test.YtagapfejgmmppaaGreatLay
import Derived.Test.YtagapfejgmmppaaGreatNewB
import Derived.Test.YtagapfejgmmppaaGreatPlan
namespace Go.Proofs.YtagapfejgmmppaaGreat
open Go.ChangeShapes Go.WideShapes Go.ChangeAt Go.RowKit
set_option maxRecDepth 100000
set_option linter.unusedVariables false
/-- x: the block of a World; p, b: of its Cells and of their words; a: of its Book. -/
structure Wd where
  x : Nat
  p : Nat
  b : Nat
  a : Ad

/-- How many cells a layout has. -/
def Cf.len (c : Cf) : Nat := c.nodes + c.ops + c.t

/-- A World, as it lies in memory. -/
structure WdAt (w : World) (c : Cf) (d : Wd) (ws : List Int) (n : Int) (s : St) : Prop where
  k0 : w.cell? ⟨d.x, 0, none⟩ = some (.int .i64 c.t)
  k1 : w.cell? ⟨d.x, 1, none⟩ = some (.int .i64 c.b)
  k2 : w.cell? ⟨d.x, 2, none⟩ = some (.int .i64 c.i)
  k3 : w.cell? ⟨d.x, 3, none⟩ = some (.int .i64 c.f)
  k4 : w.cell? ⟨d.x, 4, none⟩ = some (.int .i64 c.k)
  k5 : w.cell? ⟨d.x, 5, none⟩ = some (.pointer (some ⟨d.p, 0, none⟩))
  k6 : w.cell? ⟨d.x, 6, none⟩ = some (.pointer (some ⟨d.a.p, 0, none⟩))
  bank : Bank w d.p d.b ws n
  book : BookAt w c d.a s
  len : ws.length = c.len
  mine : ¬ Mine d.p d.b d.x
  o1 : d.a.hi ≤ d.p
  o2 : d.a.hi ≤ d.b
  o3 : d.a.hi ≤ d.x

theorem WdAt.grown {w w' : World} {c : Cf} {d : Wd} {ws : List Int} {n : Int} {s : St} (h : WdAt w c d ws n s) (g : Grown w w') : WdAt w' c d ws n s :=
  ⟨gcell g h.k0, gcell g h.k1, gcell g h.k2, gcell g h.k3, gcell g h.k4, gcell g h.k5, gcell g h.k6, h.bank.grown g, h.book.grown g, h.len, h.mine, h.o1, h.o2, h.o3⟩

/-- A book stays as it is where blocks are written whose first cell is neither a number of kind int nor a pointer. -/
theorem SlotC.odd {S : Nat → Prop} {w w' : World} {hi b : Nat} (q : But S w w') (hS : ∀ i, S i → ∃ v, w.cell? ⟨i, 0, none⟩ = some v ∧ (∀ n, v ≠ .int .i64 n) ∧ ∀ a, v ≠ .pointer a) :
    ∀ {o : Option Cal}, SlotC w hi b o → SlotC w' hi b o := by
  have K : ∀ {i v}, w.cell? ⟨i, 0, none⟩ = some v → ((∃ n, v = .int .i64 n) ∨ ∃ a, v = .pointer a) → ¬ S i := by
    rintro i v hv hx hi
    obtain ⟨u, hu, h1, h2⟩ := hS i hi
    rw [hv] at hu
    cases hu
    rcases hx with ⟨n, rfl⟩ | ⟨a, rfl⟩
    · exact h1 _ rfl
    · exact h2 _ rfl
  intro o
  cases o with
  | none => intro h; exact q.cell (K h (.inr ⟨_, rfl⟩)) h
  | some x =>
    rintro ⟨p, h0, h1, h2, h3, h4, h5, h6⟩
    have k1 := K h1 (.inr ⟨_, rfl⟩)
    have k2 := K h2 (.inl ⟨_, rfl⟩)
    exact ⟨p, h0, q.cell k1 h1, q.cell k2 h2, q.cell k2 h3, q.cell k2 h4, q.cell k2 h5, (shape_block (q.1.block (World.block_lt_of_cell? w _ h2) (fun m hm hp => by subst hp; exact k2 hm))).trans h6⟩
theorem SlotN.odd {S : Nat → Prop} {w w' : World} {hi b : Nat} (q : But S w w') (hS : ∀ i, S i → ∃ v, w.cell? ⟨i, 0, none⟩ = some v ∧ (∀ n, v ≠ .int .i64 n) ∧ ∀ a, v ≠ .pointer a) :
    ∀ {o : Option Nat}, SlotN w hi b o → SlotN w' hi b o := by
  have K : ∀ {i v}, w.cell? ⟨i, 0, none⟩ = some v → ((∃ n, v = .int .i64 n) ∨ ∃ a, v = .pointer a) → ¬ S i := by
    rintro i v hv hx hi
    obtain ⟨u, hu, h1, h2⟩ := hS i hi
    rw [hv] at hu
    cases hu
    rcases hx with ⟨n, rfl⟩ | ⟨a, rfl⟩
    · exact h1 _ rfl
    · exact h2 _ rfl
  intro o
  cases o with
  | none => intro h; exact q.cell (K h (.inr ⟨_, rfl⟩)) h
  | some x =>
    rintro ⟨p, h0, h1, h2, h3⟩
    have k1 := K h1 (.inr ⟨_, rfl⟩)
    have k2 := K h2 (.inl ⟨_, rfl⟩)
    exact ⟨p, h0, q.cell k1 h1, q.cell k2 h2, (shape_block (q.1.block (World.block_lt_of_cell? w _ h2) (fun m hm hp => by subst hp; exact k2 hm))).trans h3⟩
theorem BookAt.odd {S : Nat → Prop} {w w' : World} {c : Cf} {a : Ad} {s : St} (h : BookAt w c a s) (q : But S w w')
    (hS : ∀ i, S i → ∃ v, w.cell? ⟨i, 0, none⟩ = some v ∧ (∀ n, v ≠ .int .i64 n) ∧ ∀ a, v ≠ .pointer a) : BookAt w' c a s := by
  have K : ∀ {i v}, w.cell? ⟨i, 0, none⟩ = some v → ((∃ n, v = .int .i64 n) ∨ ∃ a, v = .pointer a) → ¬ S i := by
    rintro i v hv hx hi
    obtain ⟨u, hu, h1, h2⟩ := hS i hi
    rw [hv] at hu
    cases hu
    rcases hx with ⟨n, rfl⟩ | ⟨a, rfl⟩
    · exact h1 _ rfl
    · exact h2 _ rfl
  have kp := K h.c0 (.inl ⟨_, rfl⟩)
  have kw : ∀ j, j < c.t → ¬ S (a.bw + j) := fun j hj => K (h.w0 j hj) (.inl ⟨_, rfl⟩)
  have km : ∀ {mb base n : Nat}, MapAt w mb base n → ¬ S mb := fun hm hi => by
    obtain ⟨v, hv, -⟩ := hS _ hi
    exact hm.ne hv rfl
  exact ⟨h.ok, q.cell kp h.c0, q.cell kp h.c1, q.cell kp h.c2, q.cell kp h.c3, q.cell kp h.c4, q.cell kp h.c5, q.cell kp h.c6, q.cell kp h.c7, h.mw.but q (km h.mw), h.mc.but q (km h.mc), h.mn.but q (km h.mn),
    fun j hj => q.cell (kw j hj) (h.w0 j hj), fun j hj => q.cell (kw j hj) (h.w1 j hj), fun j hj => q.cell (kw j hj) (h.w2 j hj), fun j hj => q.cell (kw j hj) (h.w3 j hj), fun j i hj => q.frozen (h.wf j i hj),
    fun n hn => (h.sc n hn).odd q hS, fun n hn => q.frozen (h.sf n hn), fun n hn => (h.sn n hn).odd q hS, fun n hn => q.frozen (h.nf n hn), h.o1, h.o2, h.o3, h.o4, h.o5, Nat.le_trans h.o6 q.2.2⟩

theorem Bank.odd {w : World} {p b : Nat} {ws : List Int} {n : Int} (h : Bank w p b ws n) (hl : 0 < ws.length) : ∀ i, Mine p b i → ∃ v, w.cell? ⟨i, 0, none⟩ = some v ∧ (∀ n, v ≠ .int .i64 n) ∧ ∀ a, v ≠ .pointer a := by
  rintro i (rfl | rfl)
  · exact ⟨_, h.words, by simp, by simp⟩
  · exact ⟨_, h.cells 0 hl, by simp, by simp⟩

theorem WdAt.pos {w : World} {c : Cf} {d : Wd} {ws : List Int} {n : Int} {s : St} (h : WdAt w c d ws n s) : 0 < ws.length := by
  have := h.len
  have := h.book.ok.t1
  unfold Cf.len at *
  omega

/-- Behind a step: the words and the count are new, and all else is as it was. -/
theorem WdAt.step {w w' : World} {c : Cf} {d : Wd} {ws ws' : List Int} {n n' : Int} {s : St} (h : WdAt w c d ws n s) (q : But (Mine d.p d.b) w w') (hb : Bank w' d.p d.b ws' n') (hl : ws'.length = ws.length) : WdAt w' c d ws' n' s :=
  ⟨q.cell h.mine h.k0, q.cell h.mine h.k1, q.cell h.mine h.k2, q.cell h.mine h.k3, q.cell h.mine h.k4, q.cell h.mine h.k5, q.cell h.mine h.k6, hb, h.book.odd q (h.bank.odd h.pos), hl.trans h.len, h.mine, h.o1, h.o2, h.o3⟩

/-- What a step leaves. -/
def LeftW (c : Cf) (d : Wd) (ws : List Int) (n : Int) (s : St) (w w' : World) : Prop := But (Mine d.p d.b) w w' ∧ WdAt w' c d ws n s

theorem there_at (w : World) (x : Nat) (kf : Nat) (cap : Array Value) (R : World → Prop)
    (hcf : ∀ (xs : Array Value) (w : World), (callFunc kf xs).run Tryz.prog w = .ok (.enter kf xs) w)
    (hk : Calls Tryz.prog kf cap w fun e w' => e = .returned (.tuple #[]) ∧ R w') :
    Calls Tryz.prog 112 #[.pointer (some ⟨x, 0, none⟩), .func (.func kf) #[] cap] w fun e w' => e = .returned (.tuple #[]) ∧ R w' := by
  have HK := Lib.hid hk
  clear hk
  go_enter Tryz.func112, Tryz.ntmps112
  go_wp2_with fail
  refine HK.out.mono ?_; rintro e w2 ⟨rfl, hr⟩
  go_wp2
  go_end0
  exact ⟨rfl, hr⟩
theorem there_nil (w : World) (f : Value) :
    Calls Tryz.prog 112 #[.pointer none, f] w fun e w' => e = .returned (.tuple #[]) ∧ Grown w w' := by
  go_enter Tryz.func112, Tryz.ntmps112
  go_wp2
  go_end0
  exact ⟨rfl, by go_grown⟩

/-- What a closure that asks for a step leaves: its own cell is written, too. -/
def LeftR (c : Cf) (d : Wd) (ws : List Int) (n : Int) (s : St) (r : Nat) (v : Value) (w w' : World) : Prop := But (fun i => Mine d.p d.b i ∨ i = r) w w' ∧ WdAt w' c d ws n s ∧ w'.cell? ⟨r, 0, none⟩ = some v

theorem WdAt.put {w : World} {c : Cf} {d : Wd} {ws : List Int} {n : Int} {s : St} (h : WdAt w c d ws n s) {r : Nat} {u v : Value} (hr : w.cell? ⟨r, 0, none⟩ = some u) (hm : ¬ Mine d.p d.b r) (hx : r ≠ d.x) (h1 : ∀ n, u ≠ .int .i64 n) (h2 : ∀ a, u ≠ .pointer a) : WdAt (w.setCell ⟨r, 0, none⟩ v) c d ws n s := by
  have q : But (fun i => i = r) w (w.setCell ⟨r, 0, none⟩ v) := But.setCell (S := fun i => i = r) (But.refl _ w) (.inl rfl) _
  have k : ¬ d.x = r := fun e => hx e.symm
  exact ⟨q.cell k h.k0, q.cell k h.k1, q.cell k h.k2, q.cell k h.k3, q.cell k h.k4, q.cell k h.k5, q.cell k h.k6, h.bank.put hm v, h.book.odd q (fun i hi => by subst hi; exact ⟨u, hr, h1, h2⟩), h.len, h.mine, h.o1, h.o2, h.o3⟩

theorem WdAt.xlt {w : World} {c : Cf} {d : Wd} {ws : List Int} {n : Int} {s : St} (h : WdAt w c d ws n s) : d.x < w.heap.size := World.block_lt_of_cell? w _ h.k0
theorem WdAt.new {w : World} {c : Cf} {d : Wd} {ws : List Int} {n : Int} {s : St} (h : WdAt w c d ws n s) {i : Nat} (hi : w.heap.size ≤ i) : ¬ Mine d.p d.b i := h.bank.mine hi
theorem WdAt.new2 {w : World} {c : Cf} {d : Wd} {ws : List Int} {n : Int} {s : St} (h : WdAt w c d ws n s) {i j : Nat} (hi : w.heap.size ≤ i) (hj : i ≠ j) : ¬ (Mine d.p d.b i ∨ i = j) := by
  rintro (k | k)
  · exact h.new hi k
  · exact hj k
/-- What was written in a new block doesn't count. -/
theorem But.only {S : Nat → Prop} {w w' : World} {r : Nat} (h : But (fun i => S i ∨ i = r) w w') (hr : w.heap.size ≤ r) : But S w w' := by
  refine ⟨⟨h.1.1, h.1.2.1, fun i hi => ?_⟩, h.2.1, h.2.2⟩
  have e := h.1.2.2 i hi
  have hne : i ≠ r := by omega
  simpa [MemPlace.block, hne] using e
/-- The closure's own cell, laid once more, lies in a new block. -/
theorem WdAt.left {w w1 w2 : World} {c : Cf} {d : Wd} {ws ws' : List Int} {n n' : Int} {s s' : St} {r : Nat} {u v : Value} (h : WdAt w c d ws n s) (q : But (fun i => Mine d.p d.b i ∨ i = r) w1 w2) (h2 : WdAt w2 c d ws' n' s') (c3 : w2.cell? ⟨r, 0, none⟩ = some u)
    (hr : w.heap.size ≤ r) (h1 : ∀ n, u ≠ .int .i64 n) (h3 : ∀ a, u ≠ .pointer a) (g : Grown w w1) : LeftW c d ws' n' s' w (w2.setCell ⟨r, 0, none⟩ v) := by
  refine ⟨?_, h2.put c3 (h.new hr) (by have := h.xlt; omega) h1 h3⟩
  have q2 : But (fun i => Mine d.p d.b i ∨ i = r) w (w2.setCell ⟨r, 0, none⟩ v) := ((But.of_grown g).trans q).setCell (.inl (.inr rfl)) _
  exact q2.only hr

end Go.Proofs.YtagapfejgmmppaaGreat
