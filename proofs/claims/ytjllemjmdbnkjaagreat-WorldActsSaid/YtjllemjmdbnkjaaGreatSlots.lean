/- Package book: what a book is in memory, and its slots and counts. -/
import Derived.Test.YtjllemjmdbnkjaaGreatEmpty
import Derived.Test.YtjllemjmdbnkjaaGreatLay
import Derived.Lib.Builder
namespace Go.Proofs.YtjllemjmdbnkjaaGreat
open Go.ChangeShapes Go.WideShapes Go.ChangeAt Go.RowKit
set_option maxRecDepth 100000
theorem loads64 (w : World) {a : Addr} {x : Int} (hc : w.cell? a = some (.int .i64 x)) : (callFunc 65 #[.pointer (some a)]).run Tryz.prog w = .ok (.value (.int .i64 x)) w :=
  run_call_load (P := Tryz.prog) Tryz.func65 (by kernel_rfl) (by kernel_rfl) (by kernel_rfl) .i64 (by kernel_rfl) hc
theorem adds (w : World) {a : Addr} {x y : Int} (hc : w.cell? a = some (.int .i64 x)) (hz : w.frozen? a = false) : (callFunc 101 #[.pointer (some a), .int .i64 y]).run Tryz.prog w = .ok (.value (.int .i64 (IntKind.i64.wrap (x + y)))) (w.setCell a (.int .i64 (IntKind.i64.wrap (x + y)))) :=
  run_call_add (P := Tryz.prog) Tryz.func101 (by kernel_rfl) (by kernel_rfl) (by kernel_rfl) .i64 (by kernel_rfl) hc hz rfl
/-- A call. -/
structure Cal where
  kind : Int
  key : Int
  val : Int
  lim : Int
def Cal.v (x : Cal) : Value := .agg #[.int .i64 x.kind, .int .u64 x.key, .int .u64 x.val, .int .i64 x.lim]
def Cal.zero : Cal := ⟨0, 0, 0, 0⟩

/-- What is in a slot of calls; of numbers. -/
def SlotC (w : World) (hi b : Nat) : Option Cal → Prop
  | none => w.cell? ⟨b, 0, none⟩ = some (.pointer none)
  | some x => ∃ q, hi ≤ q ∧ w.cell? ⟨b, 0, none⟩ = some (.pointer (some ⟨q, 0, none⟩)) ∧ w.cell? ⟨q, 0, none⟩ = some (.int .i64 x.kind) ∧ w.cell? ⟨q, 1, none⟩ = some (.int .u64 x.key) ∧ w.cell? ⟨q, 2, none⟩ = some (.int .u64 x.val) ∧ w.cell? ⟨q, 3, none⟩ = some (.int .i64 x.lim) ∧ w.shape? q = some (104, 4)
def SlotN (w : World) (hi b : Nat) : Option Nat → Prop
  | none => w.cell? ⟨b, 0, none⟩ = some (.pointer none)
  | some x => ∃ q, hi ≤ q ∧ w.cell? ⟨b, 0, none⟩ = some (.pointer (some ⟨q, 0, none⟩)) ∧ w.cell? ⟨q, 0, none⟩ = some (.int .i64 x) ∧ w.shape? q = some (3, 1)

theorem shape_block {a b : World} {q : Nat} (h : b.heap[q]? = a.heap[q]?) : b.shape? q = a.shape? q := by unfold World.shape?; rw [h]
theorem But.shape {S : Nat → Prop} {a b : World} (h : But S a b) {q : Nat} {z : TypeId × Nat} (hs : ¬ S q) (k : a.shape? q = some z) : b.shape? q = some z := by
  have hlt : q < a.heap.size := by
    by_cases hq : q < a.heap.size
    · exact hq
    · simp [World.shape?, Array.getElem?_eq_none (Nat.le_of_not_lt hq)] at k
  rw [shape_block (h.1.block hlt (fun p hp hpi => by subst hpi; exact hs hp))]; exact k
theorem gshape {a b : World} (h : Grown a b) {q : Nat} {z : TypeId × Nat} (k : a.shape? q = some z) : b.shape? q = some z :=
  But.shape (S := fun _ => False) h (fun f => f) k
theorem from_nil {P : Program} {w : World} {src dst u : TypeId} (hs : P.underlying src = some .unsafePointer) (hd : P.underlying dst = some (.pointer u)) : (convert src dst (.pointer none)).run P w = .ok (.pointer none) w := by
  simp [convert, run_underlying hs, run_underlying hd, Conv.unsafePointer]
theorem to_unsafe {P : Program} {w : World} {src dst t e : TypeId} {cells : Nat} (q : Nat) (hs : P.underlying src = some (.pointer t)) (hd : P.underlying dst = some .unsafePointer) (ht : (P.info? t).map (fun i => decide (i.size = 0)) = some false)
    (hsh : w.shape? q = some (e, cells)) (h0 : 0 < cells) : (convert src dst (.pointer (some ⟨q, 0, none⟩))).run P w = .ok (.pointer (some ⟨q, 0, none⟩)) w := by
  obtain ⟨j, hj, hz⟩ := Option.map_eq_some_iff.1 ht
  exact Lib.run_to_unsafe (w := w) ⟨q, 0, none⟩ hs hd hj (by simpa using hz) hsh h0
theorem from_unsafe {P : Program} {w : World} {src dst u e : TypeId} {cells : Nat} (q : Nat) (hs : P.underlying src = some .unsafePointer) (hd : P.underlying dst = some (.pointer u)) (hu : (P.info? u).isSome = true)
    (hsh : w.shape? q = some (e, cells)) (hlies : liesAt P P.depth e (cells / P.cellsOf e) 0 u 1 = true) : (convert src dst (.pointer (some ⟨q, 0, none⟩))).run P w = .ok (.pointer (some ⟨q, 0, none⟩)) w := by
  obtain ⟨j, hj⟩ := Option.isSome_iff_exists.1 hu
  exact Lib.run_from_unsafe (w := w) ⟨q, 0, none⟩ hs hd hj hsh hlies

end Go.Proofs.YtjllemjmdbnkjaaGreat
