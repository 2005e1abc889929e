/- A slice of structs of numbers, handed in: each element's cells, by the reading of the argument. -/
import Derived.Test.YtagapfejgmmppaaGreatLift
import Derived.Deep.Slices
import Derived.Deep.Fields
namespace Go.Proofs.YtagapfejgmmppaaGreat
open Go.ChangeShapes Go.WideShapes Go.ChangeAt Go.RowKit Go.Deep
set_option maxRecDepth 100000
/-- Element i's field j is a number of its kind. -/
def NumsAt (w : World) (bb off len : Nat) (ks : List IntKind) : Prop :=
  ∀ i, i < len → ∀ (j : Nat) (k : IntKind), ks[j]? = some k → ∃ n, w.cell? ⟨bb, off + (i * ks.length + j), none⟩ = some (.int k n) ∧ k.has n

theorem add_none (bb off n : Nat) : (⟨bb, off, none⟩ : Addr).add n = ⟨bb, off + n, none⟩ := by
  unfold Addr.add
  split
  · rename_i h; have h' : n = 0 := by simpa using h
    subst h'; rfl
  · rfl

theorem open_nums {H : Type} {enc : TypeId × Value → H} {P : Program} {w : World} {base : Nat} {spare : Nat → Bool} {held : Bool} {t e : TypeId} {v : Value} {d : DataW H} {p : List MemPlace} {fs : Array Field} {ks : List IntKind}
    (ht : P.underlying t = some (.slice e)) (he : P.underlying e = some (.struct fs)) (hone : oneCellFields P fs = true) (hC : P.cellsOf e = fs.size) (hl : fs.size = ks.length)
    (hks : fs.toList.map (fun f => P.underlying f.type) = ks.map (fun k => some (.int k))) (h0 : 0 < ks.length)
    (hs : ∃ A len cap, v = .slice A len cap) (h : DataW.Trod enc P w base spare held t v d p) :
    ∃ (A : Option Addr) (bb off len cap : Nat), v = .slice A len cap ∧ (0 < len → A = some ⟨bb, off, none⟩) ∧ NumsAt w bb off len ks := by
  have hk : ∀ (j : Nat) (f : Field) (k : IntKind), fs[j]? = some f → ks[j]? = some k → P.underlying f.type = some (.int k) := by
    intro j f k hf hk
    have := congrArg (fun l => l[j]?) hks
    simpa [hf, hk] using this
  obtain ⟨A0, l0, c0, rfl⟩ := hs
  obtain ⟨fuel, hf⟩ := h
  rcases open_slice ht hf with ⟨hcs, _⟩ | ⟨a, len, cap, m, n, D, Pl, hcs, hb, hlc, hcm, hm, hx, hi⟩
  · have : (Value.slice A0 l0 c0) = .slice none 0 0 := by simpa [Value.cells] using hcs
    exact ⟨none, 0, 0, 0, 0, this, fun h => absurd h (by omega), fun i hi => absurd hi (by omega)⟩
  · have hv : (Value.slice A0 l0 c0) = .slice (some a) len cap := by simpa [Value.cells] using hcs
    have hlm : len ≤ m := by rw [hm]; split <;> omega
    have key : ∀ i, i < len → ∀ (j : Nat) (k : IntKind), ks[j]? = some k → ∃ n, w.cell? (a.add (i * ks.length + j)) = some (.int k n) ∧ k.has n := by
      intro i hil j k hjk
      obtain ⟨cs', h1, h2⟩ := hi i (by omega)
      obtain ⟨xs, n', -, -, -, hxl, hfld⟩ := DataW.trod_struct he h2
      obtain ⟨-, hlen, hat⟩ := World.cells?_some h1
      have hj : j < ks.length := (List.getElem?_eq_some_iff.1 hjk).1
      have hjf : j < fs.size := by omega
      have hfj : fs[j]? = some fs[j] := Array.getElem?_eq_getElem hjf
      obtain ⟨ho, hc1⟩ := hone_of hone j _ hfj
      have h3 := hfld j _ hfj
      have hxs : xs[j]? = some (xs[j]'(by omega)) := List.getElem?_eq_getElem (by omega)
      rw [hxs] at h3
      obtain ⟨n, hn, -, hw⟩ := DataW.trod_int (hk j _ k hfj hjk) h3
      have hcell := hat j (by omega)
      have hj' : cs'[j]? = some (.int k n) := by
        rw [ho, hc1] at hn
        have := congrArg (fun l => l[0]?) hn
        simpa using this
      refine ⟨n, ?_, by simpa [Lit.wf, IntKind.has] using hw⟩
      have hadd : (a.add (i * P.cellsOf e)).add j = a.add (i * ks.length + j) := by
        rw [hC, hl]
        unfold Addr.add
        by_cases z1 : i * ks.length = 0 <;> by_cases z2 : j = 0 <;> simp [z1, z2, Nat.add_assoc]
      rw [hadd] at hcell
      rw [hcell, hj']
    have spot : 0 < len → a = ⟨a.block, a.off, none⟩ := fun hpos => by
      obtain ⟨n, hn, -⟩ := key 0 hpos 0 _ (List.getElem?_eq_getElem h0)
      obtain ⟨_, _, _, _, hsp⟩ := World.shape?_of_cell? hn
      have : a.spot = none := by simpa [Addr.add] using hsp
      cases a; simp_all
    refine ⟨some a, a.block, a.off, len, cap, hv, fun hpos => congrArg some (spot hpos), fun i hil j k hjk => ?_⟩
    obtain ⟨n, hn, hw⟩ := key i hil j k hjk
    rw [spot (by omega), add_none] at hn
    exact ⟨n, hn, hw⟩

theorem val_slice {P : Program} {w : World} {r : Reach} {b : Nat} {t e : TypeId} {v : Value} (ht : P.underlying t = some (.slice e)) (h : Value.okWide P w r b t v) : ∃ A len cap, v = .slice A len cap := by
  unfold Value.okWide at h
  rw [ht] at h
  unfold Cell.okWide at h
  rw [ht] at h
  cases v <;> simp_all [Cell.ok]
end Go.Proofs.YtagapfejgmmppaaGreat
