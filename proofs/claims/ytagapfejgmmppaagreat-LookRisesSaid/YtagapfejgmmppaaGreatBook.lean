/- Package book: what a book is in memory, and what may be done to it. -/
import Derived.Test.YtagapfejgmmppaaGreatSlots
namespace Go.Proofs.YtagapfejgmmppaaGreat
open Go.ChangeShapes Go.WideShapes Go.ChangeAt Go.RowKit
set_option maxRecDepth 100000
theorem putC_at (w : World) (mb base N n : Nat) (x : Cal) (u : Value) (h : MapAt w mb base N) (hn : n < N) (hc : w.cell? ⟨base + n, 0, none⟩ = some u) (hf : w.frozen? ⟨base + n, 0, none⟩ = false) :
    Calls Tryz.prog 72 #[.map (some mb), .int .i64 n, x.v] w fun e w' => e = .returned (.tuple #[]) ∧
      w' = (w.alloc (.cells #[.int .i64 x.kind, .int .u64 x.key, .int .u64 x.val, .int .i64 x.lim] 73)).setCell ⟨base + n, 0, none⟩ (.pointer (some ⟨w.heap.size, 0, none⟩)) := by
  have g : Grown w (w.alloc (.cells #[.int .i64 x.kind, .int .u64 x.key, .int .u64 x.val, .int .i64 x.lim] 73)) := by go_grown
  have hl1 := look_in (P := Tryz.prog) (h.grown g) Tryz.underlying149 Tryz.underlying3 n hn
  have hp := storesp _ (gcell g hc) ((g.2.1 _).trans hf) (y := some ⟨w.heap.size, 0, none⟩)
  have hsh : (w.alloc (.cells #[.int .i64 x.kind, .int .u64 x.key, .int .u64 x.val, .int .i64 x.lim] 73)).shape? w.heap.size = some (73, 4) := by
    unfold World.shape?; rw [(MapKept.heap_alloc w _).1]; rfl
  have hcv := to_unsafe (P := Tryz.prog) w.heap.size Tryz.underlying204 Tryz.underlying224 (by kernel_rfl) hsh (by decide)
  unfold Cal.v
  clear h hc hf hn g hsh
  go_enter Tryz.func72, Tryz.ntmps72
  go_wp2
  go_end0
  exact ⟨rfl, rfl⟩

theorem putN_at (w : World) (mb base N n x : Nat) (u : Value) (h : MapAt w mb base N) (hn : n < N) (hc : w.cell? ⟨base + n, 0, none⟩ = some u) (hf : w.frozen? ⟨base + n, 0, none⟩ = false) :
    Calls Tryz.prog 75 #[.map (some mb), .int .i64 n, .int .i64 x] w fun e w' => e = .returned (.tuple #[]) ∧
      w' = (w.alloc (.cells #[.int .i64 x] 3)).setCell ⟨base + n, 0, none⟩ (.pointer (some ⟨w.heap.size, 0, none⟩)) := by
  have g : Grown w (w.alloc (.cells #[.int .i64 x] 3)) := by go_grown
  have hl1 := look_in (P := Tryz.prog) (h.grown g) Tryz.underlying151 Tryz.underlying3 n hn
  have hp := storesp _ (gcell g hc) ((g.2.1 _).trans hf) (y := some ⟨w.heap.size, 0, none⟩)
  have hsh : (w.alloc (.cells #[.int .i64 x] 3)).shape? w.heap.size = some (3, 1) := by
    unfold World.shape?; rw [(MapKept.heap_alloc w _).1]; rfl
  have hcv := to_unsafe (P := Tryz.prog) w.heap.size Tryz.underlying209 Tryz.underlying224 (by kernel_rfl) hsh (by decide)
  clear h hc hf hn g hsh
  go_enter Tryz.func75, Tryz.ntmps75
  go_wp2
  go_end0
  exact ⟨rfl, rfl⟩

/-- A layout. -/
structure Cf where
  t : Nat
  b : Nat
  i : Nat
  f : Nat
  k : Nat
def Cf.v (c : Cf) : Value := .agg #[.int .i64 c.t, .int .i64 c.b, .int .i64 c.i, .int .i64 c.f, .int .i64 c.k]
def Cf.ops (c : Cf) : Nat := c.t * c.k
def Cf.nodes (c : Cf) : Nat := 1 + c.b + 2 * (c.t * c.k)
structure Cf.Ok (c : Cf) : Prop where
  z : zOk c.t c.b c.i c.f c.k = true
  t1 : 1 ≤ c.t
  t8 : c.t ≤ 8
  b1 : 1 ≤ c.b
  b64 : c.b ≤ 64
  i2 : c.i ≤ 256
  k1 : 1 ≤ c.k
  k2 : c.k ≤ 256
  tk : c.t * c.k ≤ 2048
theorem cf_ok {c : Cf} (h : zOk c.t c.b c.i c.f c.k = true) : c.Ok := by
  obtain ⟨t1, t2, hb, i1, i2, f1, f2, k1, k2⟩ := zOk_spec.1 h
  have b1 : (1 : Int) ≤ c.b ∧ (c.b : Int) ≤ 64 := by unfold Pow2 at hb; omega
  have := Nat.mul_le_mul (show c.t ≤ 8 by omega) (show c.k ≤ 256 by omega)
  exact ⟨h, by omega, by omega, by omega, by omega, by omega, by omega, by omega, this⟩

/-- What was done: how many calls, inserts and nodes of each thread; operations, and nodes. -/
structure St where
  calls : List Nat
  ins : List Nat
  made : List Nat
  ops : List (Nat × Cal)
  nodes : List (Nat × Nat)
def at_ (l : List Nat) (h : Nat) : Nat := l.getD h 0
def bump (l : List Nat) (h : Nat) : List Nat := l.set h (at_ l h + 1)
def look {α : Type} : List (Nat × α) → Nat → Option α
  | [], _ => none
  | (m, x) :: r, n => if m = n then some x else look r n
theorem at_bump {l : List Nat} {h j : Nat} (hl : h < l.length) : at_ (bump l h) j = if j = h then at_ l h + 1 else at_ l j := by
  unfold at_ bump
  by_cases e : j = h
  · subst e; rw [if_pos rfl]; simp [List.getD, hl, at_]
  · rw [if_neg e]; simp [List.getD, List.getElem?_set_ne (Ne.symm e)]
theorem length_bump (l : List Nat) (h : Nat) : (bump l h).length = l.length := by simp [bump]
theorem look_app {α : Type} (x : Nat × α) (n : Nat) : ∀ l : List (Nat × α), look (l ++ [x]) n = (look l n).or (if x.1 = n then some x.2 else none)
  | [] => by simp [look]
  | (m, y) :: r => by
    simp only [List.cons_append, look]
    by_cases h : m = n
    · simp [h]
    · simp [h, look_app x n r]

/-- Where a book is. -/
structure Ad where
  lo : Nat
  hi : Nat
  p : Nat
  mw : Nat
  mc : Nat
  mn : Nat
  bw : Nat
  bc : Nat
  bn : Nat

structure BookAt (w : World) (c : Cf) (a : Ad) (s : St) : Prop where
  ok : c.Ok
  c0 : w.cell? ⟨a.p, 0, none⟩ = some (.int .i64 c.t)
  c1 : w.cell? ⟨a.p, 1, none⟩ = some (.int .i64 c.b)
  c2 : w.cell? ⟨a.p, 2, none⟩ = some (.int .i64 c.i)
  c3 : w.cell? ⟨a.p, 3, none⟩ = some (.int .i64 c.f)
  c4 : w.cell? ⟨a.p, 4, none⟩ = some (.int .i64 c.k)
  c5 : w.cell? ⟨a.p, 5, none⟩ = some (.map (some a.mw))
  c6 : w.cell? ⟨a.p, 6, none⟩ = some (.map (some a.mc))
  c7 : w.cell? ⟨a.p, 7, none⟩ = some (.map (some a.mn))
  mw : MapAt w a.mw a.bw c.t
  mc : MapAt w a.mc a.bc c.ops
  mn : MapAt w a.mn a.bn c.nodes
  w0 : ∀ h, h < c.t → w.cell? ⟨a.bw + h, 0, none⟩ = some (.int .i64 h)
  w1 : ∀ h, h < c.t → w.cell? ⟨a.bw + h, 1, none⟩ = some (.int .i64 (at_ s.calls h))
  w2 : ∀ h, h < c.t → w.cell? ⟨a.bw + h, 2, none⟩ = some (.int .i64 (at_ s.ins h))
  w3 : ∀ h, h < c.t → w.cell? ⟨a.bw + h, 3, none⟩ = some (.int .i64 (at_ s.made h))
  wf : ∀ h j, h < c.t → w.frozen? ⟨a.bw + h, j, none⟩ = false
  sc : ∀ n, n < c.ops → SlotC w a.hi (a.bc + n) (look s.ops n)
  sf : ∀ n, n < c.ops → w.frozen? ⟨a.bc + n, 0, none⟩ = false
  sn : ∀ n, n < c.nodes → SlotN w a.hi (a.bn + n) (look s.nodes n)
  nf : ∀ n, n < c.nodes → w.frozen? ⟨a.bn + n, 0, none⟩ = false
  o1 : a.lo ≤ a.bc
  o2 : a.bc + c.ops ≤ a.bn
  o3 : a.bn + c.nodes ≤ a.p
  o4 : a.p < a.bw
  o5 : a.bw + c.t ≤ a.hi
  o6 : a.hi ≤ w.heap.size

/-- The blocks of a book. -/
def Own (a : Ad) : Nat → Prop := fun i => a.lo ≤ i ∧ i < a.hi

theorem oth {w : World} {a : Addr} {v x : Value} {i o : Nat} (hb : a.block ≠ i) (k : w.cell? ⟨i, o, none⟩ = some x) : (w.setCell a v).cell? ⟨i, o, none⟩ = some x :=
  (World.cell?_setCell_other _ _ _ _ (fun h => hb (by rw [h]))).trans k
theorem set_block {w : World} {a : Addr} {v : Value} {i : Nat} (hb : a.block ≠ i) : (w.setCell a v).heap[i]? = w.heap[i]? := by
  simp only [World.setCell, Array.getElem?_modify]; rw [if_neg hb]
theorem MapAt.set {w : World} {mb base n : Nat} (h : MapAt w mb base n) {a : Addr} {v : Value} (hb : a.block ≠ mb) : MapAt (w.setCell a v) mb base n := (set_block hb).trans h
theorem SlotC.grown {w w' : World} {hi b : Nat} (g : Grown w w') : ∀ {o : Option Cal}, SlotC w hi b o → SlotC w' hi b o
  | none, h => gcell g h
  | some _, ⟨q, h0, h1, h2, h3, h4, h5, h6⟩ => ⟨q, h0, gcell g h1, gcell g h2, gcell g h3, gcell g h4, gcell g h5, gshape g h6⟩
theorem SlotN.grown {w w' : World} {hi b : Nat} (g : Grown w w') : ∀ {o : Option Nat}, SlotN w hi b o → SlotN w' hi b o
  | none, h => gcell g h
  | some _, ⟨q, h0, h1, h2, h3⟩ => ⟨q, h0, gcell g h1, gcell g h2, gshape g h3⟩
theorem SlotC.set {w : World} {hi b : Nat} {a : Addr} {v : Value} (ha : a.block < hi) (hb : a.block ≠ b) : ∀ {o : Option Cal}, SlotC w hi b o → SlotC (w.setCell a v) hi b o
  | none, h => oth hb h
  | some _, ⟨q, h0, h1, h2, h3, h4, h5, h6⟩ => have hq : a.block ≠ q := by omega
    ⟨q, h0, oth hb h1, oth hq h2, oth hq h3, oth hq h4, oth hq h5, (shape_block (set_block hq)).trans h6⟩
theorem SlotN.set {w : World} {hi b : Nat} {a : Addr} {v : Value} (ha : a.block < hi) (hb : a.block ≠ b) : ∀ {o : Option Nat}, SlotN w hi b o → SlotN (w.setCell a v) hi b o
  | none, h => oth hb h
  | some _, ⟨q, h0, h1, h2, h3⟩ => have hq : a.block ≠ q := by omega
    ⟨q, h0, oth hb h1, oth hq h2, (shape_block (set_block hq)).trans h3⟩
theorem SlotC.any {w : World} {hi b : Nat} : ∀ {o : Option Cal}, SlotC w hi b o → ∃ u, w.cell? ⟨b, 0, none⟩ = some u
  | none, h => ⟨_, h⟩
  | some _, ⟨_, _, h, _⟩ => ⟨_, h⟩
theorem SlotN.any {w : World} {hi b : Nat} : ∀ {o : Option Nat}, SlotN w hi b o → ∃ u, w.cell? ⟨b, 0, none⟩ = some u
  | none, h => ⟨_, h⟩
  | some _, ⟨_, _, h, _⟩ => ⟨_, h⟩

theorem BookAt.grown {w w' : World} {c : Cf} {a : Ad} {s : St} (h : BookAt w c a s) (g : Grown w w') : BookAt w' c a s :=
  ⟨h.ok, gcell g h.c0, gcell g h.c1, gcell g h.c2, gcell g h.c3, gcell g h.c4, gcell g h.c5, gcell g h.c6, gcell g h.c7, h.mw.grown g, h.mc.grown g, h.mn.grown g, fun j hj => gcell g (h.w0 j hj), fun j hj => gcell g (h.w1 j hj), fun j hj => gcell g (h.w2 j hj), fun j hj => gcell g (h.w3 j hj),
    fun j i hj => (g.2.1 _).trans (h.wf j i hj), fun n hn => (h.sc n hn).grown g, fun n hn => (g.2.1 _).trans (h.sf n hn), fun n hn => (h.sn n hn).grown g, fun n hn => (g.2.1 _).trans (h.nf n hn),
    h.o1, h.o2, h.o3, h.o4, h.o5, Nat.le_trans h.o6 g.2.2⟩
theorem BookAt.own {w : World} {c : Cf} {a : Ad} {s : St} (h : BookAt w c a s) {i : Nat} (hi : w.heap.size ≤ i) : ¬ Own a i := by
  have := h.o6
  rintro ⟨_, _⟩; omega

theorem BookAt.bumpC {w : World} {c : Cf} {a : Ad} {s : St} (h : BookAt w c a s) (i : Nat) (hi : i < c.t) (hl : s.calls.length = c.t) :
    BookAt (w.setCell ⟨a.bw + i, 1, none⟩ (.int .i64 ((at_ s.calls i + 1 : Nat) : Int))) c a { s with calls := bump s.calls i } := by
  have o1 := h.o1; have o2 := h.o2; have o3 := h.o3; have o4 := h.o4; have o5 := h.o5; have o6 := h.o6
  have hp : a.bw + i ≠ a.p := by omega
  have m1 : a.bw + i ≠ a.mw := h.mw.ne (h.w0 i hi)
  have m2 : a.bw + i ≠ a.mc := h.mc.ne (h.w0 i hi)
  have m3 : a.bw + i ≠ a.mn := h.mn.ne (h.w0 i hi)
  refine ⟨h.ok, oth hp h.c0, oth hp h.c1, oth hp h.c2, oth hp h.c3, oth hp h.c4, oth hp h.c5, oth hp h.c6, oth hp h.c7, h.mw.set m1, h.mc.set m2, h.mn.set m3, fun q hq => by have := h.w0 q hq; exact (World.cell?_setCell_other _ _ _ _ (fun hx => by simp at hx)).trans this, fun q hq => by
      show (w.setCell ⟨a.bw + i, 1, none⟩ (.int .i64 ((at_ s.calls i + 1 : Nat) : Int))).cell? ⟨a.bw + q, 1, none⟩ = some (.int .i64 (at_ (bump s.calls i) q))
      rw [at_bump (by omega)]
      by_cases e : q = i
      · subst e; rw [if_pos rfl]; exact World.cell?_setCell_same _ _ _ (h.w1 q hq)
      · rw [if_neg e]; exact oth (by show a.bw + i ≠ a.bw + q; omega) (h.w1 q hq), fun q hq => by have := h.w2 q hq; exact (World.cell?_setCell_other _ _ _ _ (fun hx => by simp at hx)).trans this, fun q hq => by have := h.w3 q hq; exact (World.cell?_setCell_other _ _ _ _ (fun hx => by simp at hx)).trans this,
    fun q r hq => (World.frozen?_setCell _ _ _ _).trans (h.wf q r hq), fun n hn => (h.sc n hn).set (by show a.bw + i < a.hi; omega) (by show a.bw + i ≠ a.bc + n; omega), fun n hn => (World.frozen?_setCell _ _ _ _).trans (h.sf n hn),
    fun n hn => (h.sn n hn).set (by show a.bw + i < a.hi; omega) (by show a.bw + i ≠ a.bn + n; omega), fun n hn => (World.frozen?_setCell _ _ _ _).trans (h.nf n hn), o1, o2, o3, o4, o5, by simpa using o6⟩

theorem BookAt.bumpI {w : World} {c : Cf} {a : Ad} {s : St} (h : BookAt w c a s) (i : Nat) (hi : i < c.t) (hl : s.ins.length = c.t) :
    BookAt (w.setCell ⟨a.bw + i, 2, none⟩ (.int .i64 ((at_ s.ins i + 1 : Nat) : Int))) c a { s with ins := bump s.ins i } := by
  have o1 := h.o1; have o2 := h.o2; have o3 := h.o3; have o4 := h.o4; have o5 := h.o5; have o6 := h.o6
  have hp : a.bw + i ≠ a.p := by omega
  have m1 : a.bw + i ≠ a.mw := h.mw.ne (h.w0 i hi)
  have m2 : a.bw + i ≠ a.mc := h.mc.ne (h.w0 i hi)
  have m3 : a.bw + i ≠ a.mn := h.mn.ne (h.w0 i hi)
  refine ⟨h.ok, oth hp h.c0, oth hp h.c1, oth hp h.c2, oth hp h.c3, oth hp h.c4, oth hp h.c5, oth hp h.c6, oth hp h.c7, h.mw.set m1, h.mc.set m2, h.mn.set m3, fun q hq => by have := h.w0 q hq; exact (World.cell?_setCell_other _ _ _ _ (fun hx => by simp at hx)).trans this, fun q hq => by have := h.w1 q hq; exact (World.cell?_setCell_other _ _ _ _ (fun hx => by simp at hx)).trans this, fun q hq => by
      show (w.setCell ⟨a.bw + i, 2, none⟩ (.int .i64 ((at_ s.ins i + 1 : Nat) : Int))).cell? ⟨a.bw + q, 2, none⟩ = some (.int .i64 (at_ (bump s.ins i) q))
      rw [at_bump (by omega)]
      by_cases e : q = i
      · subst e; rw [if_pos rfl]; exact World.cell?_setCell_same _ _ _ (h.w2 q hq)
      · rw [if_neg e]; exact oth (by show a.bw + i ≠ a.bw + q; omega) (h.w2 q hq), fun q hq => by have := h.w3 q hq; exact (World.cell?_setCell_other _ _ _ _ (fun hx => by simp at hx)).trans this,
    fun q r hq => (World.frozen?_setCell _ _ _ _).trans (h.wf q r hq), fun n hn => (h.sc n hn).set (by show a.bw + i < a.hi; omega) (by show a.bw + i ≠ a.bc + n; omega), fun n hn => (World.frozen?_setCell _ _ _ _).trans (h.sf n hn),
    fun n hn => (h.sn n hn).set (by show a.bw + i < a.hi; omega) (by show a.bw + i ≠ a.bn + n; omega), fun n hn => (World.frozen?_setCell _ _ _ _).trans (h.nf n hn), o1, o2, o3, o4, o5, by simpa using o6⟩

theorem BookAt.bumpM {w : World} {c : Cf} {a : Ad} {s : St} (h : BookAt w c a s) (i : Nat) (hi : i < c.t) (hl : s.made.length = c.t) :
    BookAt (w.setCell ⟨a.bw + i, 3, none⟩ (.int .i64 ((at_ s.made i + 1 : Nat) : Int))) c a { s with made := bump s.made i } := by
  have o1 := h.o1; have o2 := h.o2; have o3 := h.o3; have o4 := h.o4; have o5 := h.o5; have o6 := h.o6
  have hp : a.bw + i ≠ a.p := by omega
  have m1 : a.bw + i ≠ a.mw := h.mw.ne (h.w0 i hi)
  have m2 : a.bw + i ≠ a.mc := h.mc.ne (h.w0 i hi)
  have m3 : a.bw + i ≠ a.mn := h.mn.ne (h.w0 i hi)
  refine ⟨h.ok, oth hp h.c0, oth hp h.c1, oth hp h.c2, oth hp h.c3, oth hp h.c4, oth hp h.c5, oth hp h.c6, oth hp h.c7, h.mw.set m1, h.mc.set m2, h.mn.set m3, fun q hq => by have := h.w0 q hq; exact (World.cell?_setCell_other _ _ _ _ (fun hx => by simp at hx)).trans this, fun q hq => by have := h.w1 q hq; exact (World.cell?_setCell_other _ _ _ _ (fun hx => by simp at hx)).trans this, fun q hq => by have := h.w2 q hq; exact (World.cell?_setCell_other _ _ _ _ (fun hx => by simp at hx)).trans this, fun q hq => by
      show (w.setCell ⟨a.bw + i, 3, none⟩ (.int .i64 ((at_ s.made i + 1 : Nat) : Int))).cell? ⟨a.bw + q, 3, none⟩ = some (.int .i64 (at_ (bump s.made i) q))
      rw [at_bump (by omega)]
      by_cases e : q = i
      · subst e; rw [if_pos rfl]; exact World.cell?_setCell_same _ _ _ (h.w3 q hq)
      · rw [if_neg e]; exact oth (by show a.bw + i ≠ a.bw + q; omega) (h.w3 q hq),
    fun q r hq => (World.frozen?_setCell _ _ _ _).trans (h.wf q r hq), fun n hn => (h.sc n hn).set (by show a.bw + i < a.hi; omega) (by show a.bw + i ≠ a.bc + n; omega), fun n hn => (World.frozen?_setCell _ _ _ _).trans (h.sf n hn),
    fun n hn => (h.sn n hn).set (by show a.bw + i < a.hi; omega) (by show a.bw + i ≠ a.bn + n; omega), fun n hn => (World.frozen?_setCell _ _ _ _).trans (h.nf n hn), o1, o2, o3, o4, o5, by simpa using o6⟩

theorem BookAt.putOp {w : World} {c : Cf} {a : Ad} {s : St} (h : BookAt w c a s) (i : Nat) (hi : i < c.ops) (x : Cal) (hno : look s.ops i = none) :
    BookAt ((w.alloc (.cells #[.int .i64 x.kind, .int .u64 x.key, .int .u64 x.val, .int .i64 x.lim] 73)).setCell ⟨a.bc + i, 0, none⟩ (.pointer (some ⟨w.heap.size, 0, none⟩))) c a { s with ops := s.ops ++ [(i, x)] } := by
  have o1 := h.o1; have o2 := h.o2; have o3 := h.o3; have o4 := h.o4; have o5 := h.o5; have o6 := h.o6
  obtain ⟨u, hu⟩ := (h.sc i hi).any
  have hlt := World.block_lt_of_cell? w _ hu
  have hsh : (w.alloc (.cells #[.int .i64 x.kind, .int .u64 x.key, .int .u64 x.val, .int .i64 x.lim] 73)).shape? w.heap.size = some (73, 4) := by unfold World.shape?; rw [(MapKept.heap_alloc w _).1]; rfl
  have hp : a.bc + i ≠ a.p := by omega
  have m1 : a.bc + i ≠ a.mw := h.mw.ne hu
  have m2 : a.bc + i ≠ a.mc := h.mc.ne hu
  have m3 : a.bc + i ≠ a.mn := h.mn.ne hu
  have g : Grown w (w.alloc (.cells #[.int .i64 x.kind, .int .u64 x.key, .int .u64 x.val, .int .i64 x.lim] 73)) := by go_grown
  have h' := h.grown g
  have hb : a.bc + i < a.hi := by omega
  refine ⟨h.ok, oth hp h'.c0, oth hp h'.c1, oth hp h'.c2, oth hp h'.c3, oth hp h'.c4, oth hp h'.c5, oth hp h'.c6, oth hp h'.c7, h'.mw.set m1, h'.mc.set m2, h'.mn.set m3, fun q hq => oth (by show a.bc + i ≠ a.bw + q; omega) (h'.w0 q hq), fun q hq => oth (by show a.bc + i ≠ a.bw + q; omega) (h'.w1 q hq), fun q hq => oth (by show a.bc + i ≠ a.bw + q; omega) (h'.w2 q hq), fun q hq => oth (by show a.bc + i ≠ a.bw + q; omega) (h'.w3 q hq),
    fun q r hq => (World.frozen?_setCell _ _ _ _).trans (h'.wf q r hq), ?_, fun n hn => (World.frozen?_setCell _ _ _ _).trans (h'.sf n hn), fun n hn => (h'.sn n hn).set hb (by show a.bc + i ≠ a.bn + n; omega), fun n hn => (World.frozen?_setCell _ _ _ _).trans (h'.nf n hn), o1, o2, o3, o4, o5, by simpa using h'.o6⟩
  intro n hn
  show SlotC _ _ _ (look (s.ops ++ [(i, x)]) n)
  rw [look_app]
  by_cases e : i = n
  · subst e
    rw [hno]
    simp only [Option.none_or, if_true]
    exact ⟨w.heap.size, o6, World.cell?_setCell_same _ _ _ (gcell g hu), oth (by show a.bc + i ≠ w.heap.size; omega) (by simp), oth (by show a.bc + i ≠ w.heap.size; omega) (by simp), oth (by show a.bc + i ≠ w.heap.size; omega) (by simp), oth (by show a.bc + i ≠ w.heap.size; omega) (by simp), (shape_block (set_block (by show a.bc + i ≠ w.heap.size; omega))).trans hsh⟩
  · rw [if_neg e, Option.or_none]
    exact (h'.sc n hn).set hb (by show a.bc + i ≠ a.bc + n; omega)

theorem BookAt.putNode {w : World} {c : Cf} {a : Ad} {s : St} (h : BookAt w c a s) (i : Nat) (hi : i < c.nodes) (x : Nat) (hno : look s.nodes i = none) :
    BookAt ((w.alloc (.cells #[.int .i64 x] 3)).setCell ⟨a.bn + i, 0, none⟩ (.pointer (some ⟨w.heap.size, 0, none⟩))) c a { s with nodes := s.nodes ++ [(i, x)] } := by
  have o1 := h.o1; have o2 := h.o2; have o3 := h.o3; have o4 := h.o4; have o5 := h.o5; have o6 := h.o6
  obtain ⟨u, hu⟩ := (h.sn i hi).any
  have hlt := World.block_lt_of_cell? w _ hu
  have hsh : (w.alloc (.cells #[.int .i64 x] 3)).shape? w.heap.size = some (3, 1) := by unfold World.shape?; rw [(MapKept.heap_alloc w _).1]; rfl
  have hp : a.bn + i ≠ a.p := by omega
  have m1 : a.bn + i ≠ a.mw := h.mw.ne hu
  have m2 : a.bn + i ≠ a.mc := h.mc.ne hu
  have m3 : a.bn + i ≠ a.mn := h.mn.ne hu
  have g : Grown w (w.alloc (.cells #[.int .i64 x] 3)) := by go_grown
  have h' := h.grown g
  have hb : a.bn + i < a.hi := by omega
  refine ⟨h.ok, oth hp h'.c0, oth hp h'.c1, oth hp h'.c2, oth hp h'.c3, oth hp h'.c4, oth hp h'.c5, oth hp h'.c6, oth hp h'.c7, h'.mw.set m1, h'.mc.set m2, h'.mn.set m3, fun q hq => oth (by show a.bn + i ≠ a.bw + q; omega) (h'.w0 q hq), fun q hq => oth (by show a.bn + i ≠ a.bw + q; omega) (h'.w1 q hq), fun q hq => oth (by show a.bn + i ≠ a.bw + q; omega) (h'.w2 q hq), fun q hq => oth (by show a.bn + i ≠ a.bw + q; omega) (h'.w3 q hq),
    fun q r hq => (World.frozen?_setCell _ _ _ _).trans (h'.wf q r hq), fun n hn => (h'.sc n hn).set hb (by show a.bn + i ≠ a.bc + n; omega), fun n hn => (World.frozen?_setCell _ _ _ _).trans (h'.sf n hn), ?_, fun n hn => (World.frozen?_setCell _ _ _ _).trans (h'.nf n hn), o1, o2, o3, o4, o5, by simpa using h'.o6⟩
  intro n hn
  show SlotN _ _ _ (look (s.nodes ++ [(i, x)]) n)
  rw [look_app]
  by_cases e : i = n
  · subst e
    rw [hno]
    simp only [Option.none_or, if_true]
    exact ⟨w.heap.size, o6, World.cell?_setCell_same _ _ _ (gcell g hu), oth (by show a.bn + i ≠ w.heap.size; omega) (by simp), (shape_block (set_block (by show a.bn + i ≠ w.heap.size; omega))).trans hsh⟩
  · rw [if_neg e, Option.or_none]
    exact (h'.sn n hn).set hb (by show a.bn + i ≠ a.bn + n; omega)
end Go.Proofs.YtagapfejgmmppaaGreat
