/- A slice of acts, handed in: each act's cells, by the reading of the argument. -/
import Derived.Test.YtcoemkgkdkijdaaOpen
import Derived.Test.YtcoemkgkdkijdaaBegin
namespace Go.Proofs.Ytcoemkgkdkijdaa
open Go.ChangeShapes Go.WideShapes Go.ChangeAt Go.RowKit Go.Deep
set_option maxRecDepth 100000
set_option linter.unusedVariables false

/-- An act. -/
structure ActV where
  made : Bool
  th : Int
  op : Int
  x : Cal
def ActV.v (a : ActV) : Value := .agg #[.bool a.made, .int .i64 a.th, .int .i64 a.op, .int .i64 a.x.kind, .int .u64 a.x.key, .int .u64 a.x.val, .int .i64 a.x.lim]
def ActV.cells (a : ActV) : List Value := [.bool a.made, .int .i64 a.th, .int .i64 a.op, .int .i64 a.x.kind, .int .u64 a.x.key, .int .u64 a.x.val, .int .i64 a.x.lim]

theorem act_cells {H : Type} {enc : TypeId × Value → H} {w : World} {base : Nat} {spare : Nat → Bool} {held : Bool} {fuel : Nat} {cs : List Value} {x : DataW H × List MemPlace}
    (h : DataW.trod enc Try.prog w base spare held fuel 58 cs = some x) : ∃ a : ActV, cs = a.cells := by
  obtain ⟨xs, n, -, -, hlen, hxl, hf⟩ := DataW.trod_struct Try.underlying58 h
  have hlen7 : cs.length = 7 := hlen.trans (by kernel_rfl)
  have hx4 : xs.length = 4 := hxl
  have c4 : Try.prog.cellsOf 4 = 1 := by kernel_rfl
  have c3 : Try.prog.cellsOf 3 = 1 := by kernel_rfl
  have cu : Try.prog.cellsOf 36 = 1 := by kernel_rfl
  have ck : Try.prog.cellsOf 38 = 4 := by kernel_rfl
  match cs, hlen7 with
  | [a0, a1, a2, a3, a4, a5, a6], _ =>
    have f0 := hf 0 _ rfl
    have f1 := hf 1 _ rfl
    have f2 := hf 2 _ rfl
    have f3 := hf 3 _ rfl
    rw [List.getElem?_eq_getElem (by omega)] at f0 f1 f2 f3
    obtain ⟨b, hb, -⟩ := DataW.trod_bool Try.underlying4 f0
    obtain ⟨th, hth, -⟩ := DataW.trod_int Try.underlying3 f1
    obtain ⟨op, hop, -⟩ := DataW.trod_int Try.underlying3 f2
    obtain ⟨ys, m, -, -, -, hyl, hg⟩ := DataW.trod_struct Try.underlying38 f3
    have hy4 : ys.length = 4 := hyl
    have g0 := hg 0 _ rfl
    have g1 := hg 1 _ rfl
    have g2 := hg 2 _ rfl
    have g3 := hg 3 _ rfl
    rw [List.getElem?_eq_getElem (by omega)] at g0 g1 g2 g3
    obtain ⟨k, hk, -⟩ := DataW.trod_int Try.underlying3 g0
    obtain ⟨key, hkey, -⟩ := DataW.trod_int Try.underlying36 g1
    obtain ⟨v, hv, -⟩ := DataW.trod_int Try.underlying36 g2
    obtain ⟨l, hl, -⟩ := DataW.trod_int Try.underlying3 g3
    simp [c4, c3, cu, ck] at hb hth hop hk hkey hv hl
    subst hb hth hop hk hkey hv hl
    exact ⟨⟨b, th, op, ⟨k, key, v, l⟩⟩, rfl⟩

/-- Acts, in memory. -/
def ActsAt (w : World) (bb off m : Nat) (act : Nat → ActV) : Prop := ∀ i, i < m → ∀ j u, (act i).cells[j]? = some u → w.cell? ⟨bb, off + i * 7 + j, none⟩ = some u
theorem ActsAt.grown {w w' : World} {bb off m : Nat} {act : Nat → ActV} (h : ActsAt w bb off m act) (g : Grown w w') : ActsAt w' bb off m act := fun i hi j u hu => gcell g (h i hi j u hu)

theorem open_acts {H : Type} {enc : TypeId × Value → H} {w : World} {base : Nat} {spare : Nat → Bool} {held : Bool} {v : Value} {d : DataW H} {p : List MemPlace}
    (hs : ∃ A len cap, v = .slice A len cap) (h : DataW.Trod enc Try.prog w base spare held 24 v d p) :
    ∃ (A : Option Addr) (bb off len cap : Nat) (act : Nat → ActV), v = .slice A len cap ∧ (0 < len → A = some ⟨bb, off, none⟩) ∧ ActsAt w bb off len act := by
  obtain ⟨A0, l0, c0', rfl⟩ := hs
  obtain ⟨fuel, hf⟩ := h
  have c7 : Try.prog.cellsOf 58 = 7 := by kernel_rfl
  rcases open_slice Try.underlying24 hf with ⟨hcs, _⟩ | ⟨a, len, cap, m, n, D, Pl, hcs, hb, hlc, hcm, hm, hx, hi⟩
  · have : (Value.slice A0 l0 c0') = .slice none 0 0 := by simpa [Value.cells] using hcs
    exact ⟨none, 0, 0, 0, 0, fun _ => ⟨false, 0, 0, ⟨0, 0, 0, 0⟩⟩, this, fun h => absurd h (by omega), fun i hi => absurd hi (by omega)⟩
  · have hv : (Value.slice A0 l0 c0') = .slice (some a) len cap := by simpa [Value.cells] using hcs
    have hlm : len ≤ m := by rw [hm]; split <;> omega
    have key : ∀ i, ∃ y : ActV, i < len → ∀ j u, y.cells[j]? = some u → w.cell? ((a.add (i * 7)).add j) = some u := by
      intro i
      by_cases hil : i < len
      · obtain ⟨cs', h1, h2⟩ := hi i (by omega)
        rw [c7] at h1
        obtain ⟨y, rfl⟩ := act_cells h2
        obtain ⟨-, hlen, hat⟩ := World.cells?_some h1
        exact ⟨y, fun _ j u hu => by
          have hj : j < 7 := by have := (List.getElem?_eq_some_iff.1 hu).1; simpa [ActV.cells] using this
          rw [hat j (by omega)]; exact hu⟩
      · exact ⟨⟨false, 0, 0, ⟨0, 0, 0, 0⟩⟩, fun h => absurd h hil⟩
    have spot : 0 < len → a = ⟨a.block, a.off, none⟩ := fun hpos => by
      have hn := Classical.choose_spec (key 0) hpos 0 _ rfl
      obtain ⟨_, _, _, _, hsp⟩ := World.shape?_of_cell? hn
      have : a.spot = none := by simpa [Addr.add] using hsp
      cases a; simp_all
    refine ⟨some a, a.block, a.off, len, cap, fun i => Classical.choose (key i), hv, fun hpos => congrArg some (spot hpos), fun i hil j u hu => ?_⟩
    have hn := Classical.choose_spec (key i) hil j u hu
    rw [spot (by omega), add_none, add_none] at hn
    exact hn
end Go.Proofs.Ytcoemkgkdkijdaa
