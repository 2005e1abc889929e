/- Package book: empty maps of slots. -/
import Derived.Test.YtagapfejgmmppaaGreatMap
import Derived.Test.YtagapfejgmmppaaGreatPlan
import Derived.LoopTactic
namespace Go.Proofs.YtagapfejgmmppaaGreat
open Go.ChangeShapes Go.WideShapes Go.ChangeAt Go.RowKit
set_option maxRecDepth 100000
def intOf : Value → Int
  | .int _ n => n
  | _ => 0

/-- Behind w: a map in block mb, and n slots from block base on, all empty. -/
structure Slots (w w' : World) (mb base n : Nat) : Prop where
  gr : Grown w w'
  map : MapAt w' mb base n
  size : w'.heap.size = base + n
  cell : ∀ j, j < n → w'.cell? ⟨base + j, 0, none⟩ = some (.pointer none)
  free : ∀ j, j < n → w'.frozen? ⟨base + j, 0, none⟩ = false

theorem Slots.more {w w1 w2 : World} {n : Nat} {t : TypeId} (h : Slots w w1 w.heap.size (w.heap.size + 1) n) (h2 : MapAt w2 w.heap.size (w.heap.size + 1) (n + 1))
    (q : But (· = w.heap.size) (w1.alloc (.cells #[.pointer none] t)) w2) (hs : w2.heap.size = w1.heap.size + 1) : Slots w w2 w.heap.size (w.heap.size + 1) (n + 1) := by
  have sz := h.size
  refine ⟨But.fresh (h.gr.alloc _ _) q (fun i hi => by omega), h2, by omega, fun j hj => ?_, fun j hj => ?_⟩
  · refine q.cell (by omega) ?_
    by_cases hjn : j < n
    · exact gcell ((Grown.refl _).alloc _ _) (h.cell j hjn)
    · obtain rfl : j = n := by omega
      rw [← sz]; simp
  · refine q.frozen ?_
    by_cases hjn : j < n
    · exact (frozen?_alloc_cells _ _ _ _).trans (h.free j hjn)
    · obtain rfl : j = n := by omega
      exact (frozen?_alloc_cells _ _ _ _).trans (by
        have : w1.heap[w.heap.size + 1 + j]? = none := Array.getElem?_eq_none (by omega)
        simp [World.frozen?, this])

theorem emptyC_at (w : World) (n : Nat) (hn : n ≤ 99999) :
    Calls Tryz.prog 106 #[.int .i64 n] w fun e w' => e = .returned (.map (some w.heap.size)) ∧ Slots w w' w.heap.size (w.heap.size + 1) n := by
  have hmm := fun (w : World) => run_makeMap_hint (P := Tryz.prog) (w := w) Tryz.underlying149 n
  go_enter Tryz.func106, Tryz.ntmps106
  go_wp2_with fail
  go_loopw [8] (fun i wr => ∃ k : Nat, k ≤ n ∧ i = .int .i64 k ∧ Slots w wr w.heap.size (w.heap.size + 1) k) (fun i _ => n - (intOf i).toNat)
  case atStart =>
    exact ⟨0, Nat.zero_le _, rfl, (Grown.refl w).allocMap _ _, MapAt.made _ _, by simp, fun j hj => absurd hj (by omega), fun j hj => absurd hj (by omega)⟩
  case round =>
    obtain ⟨k, hk, rfl, hR⟩ := hrel
    have HR := Lib.hid hR
    by_cases hlt : k < n
    · have ed : decide (k < n) = true := decide_eq_true hlt
      clear hR
      go_wp2_with (first | (at_mapUpdate; refine wpList_put rfl _ _ _ 149 rfl 3 _ Tryz.underlying149 Tryz.underlying3 w.heap.size (w.heap.size + 1) k _ (HR.out.map.grown (by go_grown)) rfl rfl rfl HR.out.size ?_) | fail)
      intro w1 h1 q1 s1
      have R1 := HR.out.more h1 q1 s1
      go_wp2_with fail
      exact ⟨⟨k + 1, hlt, by simp, R1⟩, by simp [intOf]; omega⟩
    · obtain rfl : k = n := by omega
      have ed : decide (k < k) = false := decide_eq_false (by omega)
      clear hlt hR
      go_wp2_with fail
      go_ret
      exact ⟨rfl, HR.out⟩

theorem emptyN_at (w : World) (n : Nat) (hn : n ≤ 99999) :
    Calls Tryz.prog 108 #[.int .i64 n] w fun e w' => e = .returned (.map (some w.heap.size)) ∧ Slots w w' w.heap.size (w.heap.size + 1) n := by
  have hmm := fun (w : World) => run_makeMap_hint (P := Tryz.prog) (w := w) Tryz.underlying151 n
  go_enter Tryz.func108, Tryz.ntmps108
  go_wp2_with fail
  go_loopw [8] (fun i wr => ∃ k : Nat, k ≤ n ∧ i = .int .i64 k ∧ Slots w wr w.heap.size (w.heap.size + 1) k) (fun i _ => n - (intOf i).toNat)
  case atStart =>
    exact ⟨0, Nat.zero_le _, rfl, (Grown.refl w).allocMap _ _, MapAt.made _ _, by simp, fun j hj => absurd hj (by omega), fun j hj => absurd hj (by omega)⟩
  case round =>
    obtain ⟨k, hk, rfl, hR⟩ := hrel
    have HR := Lib.hid hR
    by_cases hlt : k < n
    · have ed : decide (k < n) = true := decide_eq_true hlt
      clear hR
      go_wp2_with (first | (at_mapUpdate; refine wpList_put rfl _ _ _ 151 rfl 3 _ Tryz.underlying151 Tryz.underlying3 w.heap.size (w.heap.size + 1) k _ (HR.out.map.grown (by go_grown)) rfl rfl rfl HR.out.size ?_) | fail)
      intro w1 h1 q1 s1
      have R1 := HR.out.more h1 q1 s1
      go_wp2_with fail
      exact ⟨⟨k + 1, hlt, by simp, R1⟩, by simp [intOf]; omega⟩
    · obtain rfl : k = n := by omega
      have ed : decide (k < k) = false := decide_eq_false (by omega)
      clear hlt hR
      go_wp2_with fail
      go_ret
      exact ⟨rfl, HR.out⟩
end Go.Proofs.YtagapfejgmmppaaGreat
