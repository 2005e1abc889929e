/- Package book: what a book is in memory, and its slots and counts. -/
import Derived.Test.YtagapfejgmmppaaGreatEmpty
import Derived.Test.YtagapfejgmmppaaGreatLay
import Derived.Lib.Builder
namespace Go.Proofs.YtagapfejgmmppaaGreat
open Go.ChangeShapes Go.WideShapes Go.ChangeAt Go.RowKit
set_option maxRecDepth 100000
theorem loads64 (w : World) {a : Addr} {x : Int} (hc : w.cell? a = some (.int .i64 x)) : (callFunc 96 #[.pointer (some a)]).run Tryz.prog w = .ok (.value (.int .i64 x)) w :=
  run_call_load (P := Tryz.prog) Tryz.func96 (by kernel_rfl) (by kernel_rfl) (by kernel_rfl) .i64 (by kernel_rfl) hc
theorem adds (w : World) {a : Addr} {x y : Int} (hc : w.cell? a = some (.int .i64 x)) (hz : w.frozen? a = false) : (callFunc 145 #[.pointer (some a), .int .i64 y]).run Tryz.prog w = .ok (.value (.int .i64 (IntKind.i64.wrap (x + y)))) (w.setCell a (.int .i64 (IntKind.i64.wrap (x + y)))) :=
  run_call_add (P := Tryz.prog) Tryz.func145 (by kernel_rfl) (by kernel_rfl) (by kernel_rfl) .i64 (by kernel_rfl) hc hz rfl
theorem loadsp (w : World) {a : Addr} {x : Option Addr} (hc : w.cell? a = some (.pointer x)) : (callFunc 160 #[.pointer (some a)]).run Tryz.prog w = .ok (.value (.pointer x)) w := by
  rw [run_callFunc_extern Tryz.func160 (by kernel_rfl) (by kernel_rfl) (by kernel_rfl) (show Extern.find _ = some (Extern.Atomic.loadT .ptr) by kernel_rfl)]
  change (Sem.run _ (do Extern.Atomic.read .ptr (← asAddr (.pointer (some a)))) w).andThen _ = _
  simp [Extern.Atomic.read, asAddr, hc, Result.andThen]
theorem storesp (w : World) {a : Addr} {y : Option Addr} {u : Value} (hc : w.cell? a = some u) (hz : w.frozen? a = false) : (callFunc 148 #[.pointer (some a), .pointer y]).run Tryz.prog w = .ok (.value (.tuple #[])) (w.setCell a (.pointer y)) := by
  rw [run_callFunc_extern Tryz.func148 (by kernel_rfl) (by kernel_rfl) (by kernel_rfl) (show Extern.find _ = some Extern.Atomic.storeT by kernel_rfl)]
  change (Sem.run _ (do
    store (← asAddr (.pointer (some a))) (.pointer y) .atomic
    pure Extern.Atomic.none_) w).andThen _ = _
  simp [asAddr, hc, hz, run_store Tryz.prog w a (.pointer y) .atomic rfl, Result.andThen, Extern.Atomic.none_]

/-- A call. -/
structure Cal where
  kind : Int
  key : Int
  val : Int
  lim : Int
def Cal.v (x : Cal) : Value := .agg #[.int .i64 x.kind, .int .u64 x.key, .int .u64 x.val, .int .i64 x.lim]
def Cal.zero : Cal := ⟨0, 0, 0, 0⟩

/-- What is in a slot of calls; of numbers. -/
def SlotC (w : World) (hi b : Nat) : Option Cal → Prop
  | none => w.cell? ⟨b, 0, none⟩ = some (.pointer none)
  | some x => ∃ q, hi ≤ q ∧ w.cell? ⟨b, 0, none⟩ = some (.pointer (some ⟨q, 0, none⟩)) ∧ w.cell? ⟨q, 0, none⟩ = some (.int .i64 x.kind) ∧ w.cell? ⟨q, 1, none⟩ = some (.int .u64 x.key) ∧ w.cell? ⟨q, 2, none⟩ = some (.int .u64 x.val) ∧ w.cell? ⟨q, 3, none⟩ = some (.int .i64 x.lim) ∧ w.shape? q = some (73, 4)
def SlotN (w : World) (hi b : Nat) : Option Nat → Prop
  | none => w.cell? ⟨b, 0, none⟩ = some (.pointer none)
  | some x => ∃ q, hi ≤ q ∧ w.cell? ⟨b, 0, none⟩ = some (.pointer (some ⟨q, 0, none⟩)) ∧ w.cell? ⟨q, 0, none⟩ = some (.int .i64 x) ∧ w.shape? q = some (3, 1)

theorem value_at (w : World) (q j : Nat) (n : Int) (hc : w.cell? ⟨q, j, none⟩ = some (.int .i64 n)) :
    Calls Tryz.prog 118 #[.pointer (some ⟨q, j, none⟩)] w fun e w' => e = .returned (.int .i64 n) ∧ Grown w w' := by
  have hl := loads64 w hc
  go_enter Tryz.func118, Tryz.ntmps118
  go_wp2
  go_ret
  exact ⟨rfl, by go_grown⟩

theorem next_more (w : World) (q j n m : Nat) (hc : w.cell? ⟨q, j, none⟩ = some (.int .i64 n)) (hf : w.frozen? ⟨q, j, none⟩ = false) (h : n < m) (hm : m ≤ 99999) :
    Calls Tryz.prog 70 #[.pointer (some ⟨q, j, none⟩), .int .i64 m] w fun e w' => e = .returned (.tuple #[.int .i64 n, .bool true]) ∧ ∃ w1, Grown w w1 ∧ w' = w1.setCell ⟨q, j, none⟩ (.int .i64 ((n + 1 : Nat) : Int)) := by
  have e1 : decide ((m : Int) ≤ n) = false := decide_eq_false (by omega)
  have HC := Lib.hid hc
  have HF := Lib.hid hf
  go_enter Tryz.func70, Tryz.ntmps70
  go_wp2_with fail
  refine (value_at _ q j n hc).mono ?_; rintro e w1 ⟨rfl, g1⟩
  have ha := adds w1 (gcell g1 HC.out) ((g1.2.1 _).trans HF.out) (y := 1)
  rw [show IntKind.i64.wrap ((n : Int) + 1) = ((n + 1 : Nat) : Int) from (IntWalk.i64_in _ (by omega)).trans (by omega)] at ha
  clear hc hf
  go_wp2
  go_ret2
  exact ⟨rfl, w1, g1, rfl⟩

theorem next_none (w : World) (q j n m : Nat) (hc : w.cell? ⟨q, j, none⟩ = some (.int .i64 n)) (h : m ≤ n) :
    Calls Tryz.prog 70 #[.pointer (some ⟨q, j, none⟩), .int .i64 m] w fun e w' => e = .returned (.tuple #[.int .i64 0, .bool false]) ∧ Grown w w' := by
  have e1 : decide ((m : Int) ≤ n) = true := decide_eq_true (by omega)
  go_enter Tryz.func70, Tryz.ntmps70
  go_wp2_with fail
  refine (value_at _ q j n hc).mono ?_; rintro e w1 ⟨rfl, g1⟩
  clear hc
  go_wp2
  go_ret2
  exact ⟨rfl, g1⟩

theorem shape_block {a b : World} {q : Nat} (h : b.heap[q]? = a.heap[q]?) : b.shape? q = a.shape? q := by unfold World.shape?; rw [h]
theorem But.shape {S : Nat → Prop} {a b : World} (h : But S a b) {q : Nat} {z : TypeId × Nat} (hs : ¬ S q) (k : a.shape? q = some z) : b.shape? q = some z := by
  have hlt : q < a.heap.size := by
    by_cases hq : q < a.heap.size
    · exact hq
    · simp [World.shape?, Array.getElem?_eq_none (Nat.le_of_not_lt hq)] at k
  rw [shape_block (h.1.block hlt (fun p hp hpi => by subst hpi; exact hs hp))]; exact k
theorem gshape {a b : World} (h : Grown a b) {q : Nat} {z : TypeId × Nat} (k : a.shape? q = some z) : b.shape? q = some z :=
  But.shape (S := fun _ => False) h (fun f => f) k
theorem from_nil {P : Program} {w : World} {src dst u : TypeId} (hs : P.underlying src = some .unsafePointer) (hd : P.underlying dst = some (.pointer u)) : (convert src dst (.pointer none)).run P w = .ok (.pointer none) w := by
  simp [convert, run_underlying hs, run_underlying hd, Conv.unsafePointer]
theorem to_unsafe {P : Program} {w : World} {src dst t e : TypeId} {cells : Nat} (q : Nat) (hs : P.underlying src = some (.pointer t)) (hd : P.underlying dst = some .unsafePointer) (ht : (P.info? t).map (fun i => decide (i.size = 0)) = some false)
    (hsh : w.shape? q = some (e, cells)) (h0 : 0 < cells) : (convert src dst (.pointer (some ⟨q, 0, none⟩))).run P w = .ok (.pointer (some ⟨q, 0, none⟩)) w := by
  obtain ⟨j, hj, hz⟩ := Option.map_eq_some_iff.1 ht
  exact Lib.run_to_unsafe (w := w) ⟨q, 0, none⟩ hs hd hj (by simpa using hz) hsh h0
theorem from_unsafe {P : Program} {w : World} {src dst u e : TypeId} {cells : Nat} (q : Nat) (hs : P.underlying src = some .unsafePointer) (hd : P.underlying dst = some (.pointer u)) (hu : (P.info? u).isSome = true)
    (hsh : w.shape? q = some (e, cells)) (hlies : liesAt P P.depth e (cells / P.cellsOf e) 0 u 1 = true) : (convert src dst (.pointer (some ⟨q, 0, none⟩))).run P w = .ok (.pointer (some ⟨q, 0, none⟩)) w := by
  obtain ⟨j, hj⟩ := Option.isSome_iff_exists.1 hu
  exact Lib.run_from_unsafe (w := w) ⟨q, 0, none⟩ hs hd hj hsh hlies

theorem getC_out (w : World) (mb base N : Nat) (x : Int) (h : MapAt w mb base N) (hx : x < 0 ∨ N ≤ x) :
    Calls Tryz.prog 124 #[.map (some mb), .int .i64 x] w fun e w' => e = .returned (.tuple #[Cal.zero.v, .bool false]) ∧ Grown w w' := by
  have hl := fun w' (g : Grown w w') => look_out_ok (P := Tryz.prog) (h.grown g) Tryz.underlying149 Tryz.underlying3 (w := w') (show (zeroValue 202).run Tryz.prog w' = .ok (.pointer none) w' by kernel_rfl) x hx
  have hl1 := hl _ ((Grown.refl w).alloc #[.int .i64 0, .int .u64 0, .int .u64 0, .int .i64 0] 73)
  clear hl h hx
  go_enter Tryz.func124, Tryz.ntmps124
  go_wp2
  exact bodyPost_ret (v := .tuple #[Cal.zero.v, .bool false]) (by simp [results, Tryz.results124, go_sem, Cal.v, Cal.zero]) rfl ⟨rfl, by go_grown⟩

theorem getC_none (w : World) (mb base N n : Nat) (h : MapAt w mb base N) (hn : n < N) (hc : w.cell? ⟨base + n, 0, none⟩ = some (.pointer none)) :
    Calls Tryz.prog 124 #[.map (some mb), .int .i64 n] w fun e w' => e = .returned (.tuple #[Cal.zero.v, .bool false]) ∧ Grown w w' := by
  have hl := fun w' (g : Grown w w') => look_in_ok (P := Tryz.prog) (w := w') (h.grown g) Tryz.underlying149 Tryz.underlying3 n hn
  have hl1 := hl _ ((Grown.refl w).alloc #[.int .i64 0, .int .u64 0, .int .u64 0, .int .i64 0] 73)
  have hp := loadsp _ (gcell ((Grown.refl w).alloc #[.int .i64 0, .int .u64 0, .int .u64 0, .int .i64 0] 73) hc)
  have hcv := fun w => from_nil (P := Tryz.prog) (w := w) Tryz.underlying224 Tryz.underlying204
  clear hl h hc hn
  go_enter Tryz.func124, Tryz.ntmps124
  go_wp2
  exact bodyPost_ret (v := .tuple #[Cal.zero.v, .bool false]) (by simp [results, Tryz.results124, go_sem, Cal.v, Cal.zero]) rfl ⟨rfl, by go_grown⟩

theorem getC_some (w : World) (mb base N n q : Nat) (x : Cal) (h : MapAt w mb base N) (hn : n < N) (hc : w.cell? ⟨base + n, 0, none⟩ = some (.pointer (some ⟨q, 0, none⟩))) (d0 : w.cell? ⟨q, 0, none⟩ = some (.int .i64 x.kind)) (d1 : w.cell? ⟨q, 1, none⟩ = some (.int .u64 x.key)) (d2 : w.cell? ⟨q, 2, none⟩ = some (.int .u64 x.val)) (d3 : w.cell? ⟨q, 3, none⟩ = some (.int .i64 x.lim)) (hsh : w.shape? q = some (73, 4)) :
    Calls Tryz.prog 124 #[.map (some mb), .int .i64 n] w fun e w' => e = .returned (.tuple #[x.v, .bool true]) ∧ Grown w w' := by
  have hl := fun w' (g : Grown w w') => look_in_ok (P := Tryz.prog) (w := w') (h.grown g) Tryz.underlying149 Tryz.underlying3 n hn
  have hl1 := hl _ ((Grown.refl w).alloc #[.int .i64 0, .int .u64 0, .int .u64 0, .int .i64 0] 73)
  have hp := loadsp _ (gcell ((Grown.refl w).alloc #[.int .i64 0, .int .u64 0, .int .u64 0, .int .i64 0] 73) hc)
  have hcv := from_unsafe (P := Tryz.prog) q Tryz.underlying224 Tryz.underlying204 (by kernel_rfl) (gshape ((Grown.refl w).alloc #[.int .i64 0, .int .u64 0, .int .u64 0, .int .i64 0] 73) hsh) (by kernel_rfl)
  have hq := World.block_lt_of_cell? w _ d0
  replace d0 := gcell ((Grown.refl w).alloc #[.int .i64 0, .int .u64 0, .int .u64 0, .int .i64 0] 73) d0
  replace d1 := gcell ((Grown.refl w).alloc #[.int .i64 0, .int .u64 0, .int .u64 0, .int .i64 0] 73) d1
  replace d2 := gcell ((Grown.refl w).alloc #[.int .i64 0, .int .u64 0, .int .u64 0, .int .i64 0] 73) d2
  replace d3 := gcell ((Grown.refl w).alloc #[.int .i64 0, .int .u64 0, .int .u64 0, .int .i64 0] 73) d3
  clear hl h hc hn
  go_enter Tryz.func124, Tryz.ntmps124
  go_wp2
  exact bodyPost_ret (v := .tuple #[x.v, .bool true]) (by simp [results, Tryz.results124, go_sem, Cal.v]) rfl ⟨rfl, by go_grown⟩

theorem getN_out (w : World) (mb base N : Nat) (x : Int) (h : MapAt w mb base N) (hx : x < 0 ∨ N ≤ x) :
    Calls Tryz.prog 152 #[.map (some mb), .int .i64 x] w fun e w' => e = .returned (.tuple #[.int .i64 0, .bool false]) ∧ Grown w w' := by
  have hl := fun w' (g : Grown w w') => look_out_ok (P := Tryz.prog) (h.grown g) Tryz.underlying151 Tryz.underlying3 (w := w') (show (zeroValue 207).run Tryz.prog w' = .ok (.pointer none) w' by kernel_rfl) x hx
  have hl1 := hl _ (Grown.refl w)
  clear hl h hx
  go_enter Tryz.func152, Tryz.ntmps152
  go_wp2
  go_ret2
  exact ⟨rfl, by go_grown⟩

theorem getN_none (w : World) (mb base N n : Nat) (h : MapAt w mb base N) (hn : n < N) (hc : w.cell? ⟨base + n, 0, none⟩ = some (.pointer none)) :
    Calls Tryz.prog 152 #[.map (some mb), .int .i64 n] w fun e w' => e = .returned (.tuple #[.int .i64 0, .bool false]) ∧ Grown w w' := by
  have hl := fun w' (g : Grown w w') => look_in_ok (P := Tryz.prog) (w := w') (h.grown g) Tryz.underlying151 Tryz.underlying3 n hn
  have hl1 := hl _ (Grown.refl w)
  have hp := loadsp _ (gcell (Grown.refl w) hc)
  have hcv := fun w => from_nil (P := Tryz.prog) (w := w) Tryz.underlying224 Tryz.underlying209
  clear hl h hc hn
  go_enter Tryz.func152, Tryz.ntmps152
  go_wp2
  go_ret2
  exact ⟨rfl, by go_grown⟩

theorem getN_some (w : World) (mb base N n q : Nat) (x : Nat) (h : MapAt w mb base N) (hn : n < N) (hc : w.cell? ⟨base + n, 0, none⟩ = some (.pointer (some ⟨q, 0, none⟩))) (d0 : w.cell? ⟨q, 0, none⟩ = some (.int .i64 x)) (hsh : w.shape? q = some (3, 1)) :
    Calls Tryz.prog 152 #[.map (some mb), .int .i64 n] w fun e w' => e = .returned (.tuple #[.int .i64 x, .bool true]) ∧ Grown w w' := by
  have hl := fun w' (g : Grown w w') => look_in_ok (P := Tryz.prog) (w := w') (h.grown g) Tryz.underlying151 Tryz.underlying3 n hn
  have hl1 := hl _ (Grown.refl w)
  have hp := loadsp _ (gcell (Grown.refl w) hc)
  have hcv := from_unsafe (P := Tryz.prog) q Tryz.underlying224 Tryz.underlying209 (by kernel_rfl) (gshape (Grown.refl w) hsh) (by kernel_rfl)

  clear hl h hc hn
  go_enter Tryz.func152, Tryz.ntmps152
  go_wp2
  go_ret2
  exact ⟨rfl, by go_grown⟩
end Go.Proofs.YtagapfejgmmppaaGreat
