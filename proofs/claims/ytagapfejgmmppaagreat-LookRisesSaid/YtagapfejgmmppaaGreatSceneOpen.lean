/- A scene, handed in: its items and calls, by the reading of the argument. -/
import Derived.Test.YtagapfejgmmppaaGreatOpen
import Derived.Test.YtagapfejgmmppaaGreatScene
namespace Go.Proofs.YtagapfejgmmppaaGreat
open Go.ChangeShapes Go.WideShapes Go.ChangeAt Go.RowKit Go.Deep
set_option maxRecDepth 100000
set_option linter.unusedVariables false

theorem lit_u64 {n : Int} (h : (Lit.int .u64 n).wf = true) : 0 ≤ n ∧ n ≤ 18446744073709551615 := has_u64 (by simpa [Lit.wf, IntKind.has] using h)
def It.Wf (x : It) : Prop := (0 ≤ x.key ∧ x.key ≤ 18446744073709551615) ∧ (0 ≤ x.val ∧ x.val ≤ 18446744073709551615) ∧ 0 ≤ x.word ∧ x.word ≤ 18446744073709551615
theorem item_cells {H : Type} {enc : TypeId × Value → H} {w : World} {base : Nat} {spare : Nat → Bool} {held : Bool} {fuel : Nat} {cs : List Value} {x : DataW H × List MemPlace}
    (h : DataW.trod enc Tryz.prog w base spare held fuel 80 cs = some x) : ∃ a : It, cs = a.l ∧ a.Wf := by
  obtain ⟨xs, n, -, -, hlen, hxl, hf⟩ := DataW.trod_struct Tryz.underlying80 h
  have hlen5 : cs.length = 5 := hlen.trans (by kernel_rfl)
  have hx5 : xs.length = 5 := hxl
  have c4 : Tryz.prog.cellsOf 4 = 1 := by kernel_rfl
  have cu : Tryz.prog.cellsOf 46 = 1 := by kernel_rfl
  match cs, hlen5 with
  | [a0, a1, a2, a3, a4], _ =>
    have f0 := hf 0 _ rfl
    have f1 := hf 1 _ rfl
    have f2 := hf 2 _ rfl
    have f3 := hf 3 _ rfl
    have f4 := hf 4 _ rfl
    rw [List.getElem?_eq_getElem (by omega)] at f0 f1 f2 f3 f4
    obtain ⟨k, hk, -, wk⟩ := DataW.trod_int Tryz.underlying46 f0
    obtain ⟨v, hv, -, wv⟩ := DataW.trod_int Tryz.underlying46 f1
    obtain ⟨z, hz, -, wz⟩ := DataW.trod_int Tryz.underlying46 f2
    obtain ⟨m, hm, -⟩ := DataW.trod_bool Tryz.underlying4 f3
    obtain ⟨g, hg, -⟩ := DataW.trod_bool Tryz.underlying4 f4
    simp [c4, cu] at hk hv hz hm hg
    subst hk hv hz hm hg
    exact ⟨⟨k, v, z, m, g⟩, rfl, lit_u64 wk, lit_u64 wv, lit_u64 wz⟩
theorem call_cells {H : Type} {enc : TypeId × Value → H} {w : World} {base : Nat} {spare : Nat → Bool} {held : Bool} {fuel : Nat} {cs : List Value} {x : DataW H × List MemPlace}
    (h : DataW.trod enc Tryz.prog w base spare held fuel 73 cs = some x) : ∃ a : Cal, cs = a.l := by
  obtain ⟨xs, n, -, -, hlen, hxl, hf⟩ := DataW.trod_struct Tryz.underlying73 h
  have hlen4 : cs.length = 4 := hlen.trans (by kernel_rfl)
  have hx4 : xs.length = 4 := hxl
  have c3 : Tryz.prog.cellsOf 3 = 1 := by kernel_rfl
  have cu : Tryz.prog.cellsOf 46 = 1 := by kernel_rfl
  match cs, hlen4 with
  | [a0, a1, a2, a3], _ =>
    have f0 := hf 0 _ rfl
    have f1 := hf 1 _ rfl
    have f2 := hf 2 _ rfl
    have f3 := hf 3 _ rfl
    rw [List.getElem?_eq_getElem (by omega)] at f0 f1 f2 f3
    obtain ⟨k, hk, -⟩ := DataW.trod_int Tryz.underlying3 f0
    obtain ⟨v, hv, -⟩ := DataW.trod_int Tryz.underlying46 f1
    obtain ⟨z, hz, -⟩ := DataW.trod_int Tryz.underlying46 f2
    obtain ⟨m, hm, -⟩ := DataW.trod_int Tryz.underlying3 f3
    simp [c3, cu] at hk hv hz hm
    subst hk hv hz hm
    exact ⟨⟨k, v, z, m⟩, rfl⟩

/-- A slice of structs whose cells have a form, opened. -/
theorem open_rowO {H α : Type} {enc : TypeId × Value → H} {P : Program} {w : World} {base : Nat} {spare : Nat → Bool} {held : Bool} {t e : TypeId} {fuel k : Nat} {c : Value} {x : DataW H × List MemPlace} {f : α → List Value} {G : α → Prop}
    (ht : P.underlying t = some (.slice e)) (hk : P.cellsOf e = k) (hk0 : 0 < k) (hf : ∀ a, (f a).length = k)
    (hopen : ∀ {n : Nat} {cs : List Value} {y : DataW H × List MemPlace}, DataW.trod enc P w base spare held n e cs = some y → ∃ a, cs = f a ∧ G a)
    (h : DataW.trod enc P w base spare held fuel t [c] = some x) : ∃ xs : List α, RowO w c (xs.flatMap f) xs.length ∧ ∀ a ∈ xs, G a := by
  rcases open_slice ht h with ⟨hcs, _⟩ | ⟨a, len, cap, m, n, D, Pl, hcs, hb, hlc, hcm, hm, hx, hi⟩
  · refine ⟨[], ⟨none, 0, 0, 0, by simpa using hcs, fun h => absurd h (by simp), fun j u hj => by simp at hj⟩, by simp⟩
  · have hv : c = .slice (some a) len cap := by simpa using hcs
    have hlm : len ≤ m := by rw [hm]; split <;> omega
    have key : ∀ i, i < len → ∃ y : α, G y ∧ ∀ j u, (f y)[j]? = some u → w.cell? ((a.add (i * k)).add j) = some u := by
      intro i hil
      obtain ⟨cs', h1, h2⟩ := hi i (by omega)
      rw [hk] at h1
      obtain ⟨y, rfl, hG⟩ := hopen h2
      obtain ⟨-, hlen, hat⟩ := World.cells?_some h1
      refine ⟨y, hG, fun j u hu => ?_⟩
      have hj : j < k := by have := (List.getElem?_eq_some_iff.1 hu).1; rwa [hf] at this
      rw [hat j hj]; exact hu
    have hall : ∀ m', m' ≤ len → ∃ xs : List α, xs.length = m' ∧ (∀ a ∈ xs, G a) ∧ ∀ i y, xs[i]? = some y → ∀ j u, (f y)[j]? = some u → w.cell? ((a.add (i * k)).add j) = some u := by
      intro m'
      induction m' with
      | zero => exact fun _ => ⟨[], rfl, by simp, fun i y hy => by simp at hy⟩
      | succ m' ih =>
        intro hm'
        obtain ⟨xs, hl, hg, hc⟩ := ih (by omega)
        obtain ⟨y, hG, hy⟩ := key m' (by omega)
        refine ⟨xs ++ [y], by simp [hl], fun a ha => ?_, fun i z hz => ?_⟩
        · rcases List.mem_append.1 ha with ha | ha
          · exact hg a ha
          · simp only [List.mem_singleton] at ha; rw [ha]; exact hG
        · by_cases him : i < m'
          · exact hc i z (by rwa [List.getElem?_append_left (by omega)] at hz)
          · have hlt := (List.getElem?_eq_some_iff.1 hz).1
            simp only [List.length_append, List.length_cons, List.length_nil] at hlt
            obtain rfl : i = m' := by omega
            rw [List.getElem?_append_right (by omega), hl, Nat.sub_self] at hz
            simp only [List.getElem?_cons_zero, Option.some.injEq] at hz
            rw [← hz]; exact hy
    obtain ⟨xs, hl, hG, hc⟩ := hall len (Nat.le_refl _)
    have spot : 0 < len → a = ⟨a.block, a.off, none⟩ := fun hpos => by
      have hx0 : xs[0]? = some (xs[0]'(by omega)) := List.getElem?_eq_getElem (by omega)
      have h0 : (f (xs[0]'(by omega)))[0]? = some ((f (xs[0]'(by omega)))[0]'(by rw [hf]; exact hk0)) := List.getElem?_eq_getElem (by rw [hf]; exact hk0)
      have hn := hc 0 _ hx0 0 _ h0
      obtain ⟨_, _, _, _, hsp⟩ := World.shape?_of_cell? hn
      have : a.spot = none := by simpa [Addr.add] using hsp
      cases a; simp_all
    refine ⟨xs, ⟨some a, a.block, a.off, cap, by rw [hv, hl], fun hpos => congrArg some (spot (by omega)), fun j u hj => ?_⟩, hG⟩
    have hjl : j < (xs.flatMap f).length := (List.getElem?_eq_some_iff.1 hj).1
    have hlen : (xs.flatMap f).length = xs.length * k := by
      clear hj hjl hc hG hl
      induction xs with
      | nil => simp
      | cons z r ih => simp only [List.flatMap_cons, List.length_append, List.length_cons, hf, ih, Nat.add_mul, Nat.one_mul]; omega
    have hq : j / k < xs.length := Nat.div_lt_of_lt_mul (by rw [Nat.mul_comm]; omega)
    have hx0 : xs[j / k]? = some (xs[j / k]'hq) := List.getElem?_eq_getElem hq
    have hr : j % k < (f (xs[j / k]'hq)).length := by rw [hf]; exact Nat.mod_lt _ hk0
    have he := flat_at (k := k) (o := j % k) hf (Nat.mod_lt _ hk0) xs (j / k) _ hx0
    rw [Nat.mul_comm, Nat.div_add_mod] at he
    have hu : (f (xs[j / k]'hq))[j % k]? = some u := by rw [← he]; exact hj
    have hpos : 0 < len := by rw [← hl]; exact Nat.lt_of_le_of_lt (Nat.zero_le _) hq
    have := hc (j / k) _ hx0 (j % k) u hu
    rw [spot hpos, add_none, add_none, Nat.add_assoc, Nat.mul_comm, Nat.div_add_mod] at this
    exact this

theorem open_scene {H : Type} {enc : TypeId × Value → H} {w : World} {r : Reach} {b base : Nat} {spare : Nat → Bool} {held : Bool} {v : Value} {d : DataW H} {p : List MemPlace}
    (hv : Value.okWide Tryz.prog w r b 25 v) (h : DataW.Trod enc Tryz.prog w base spare held 25 v d p) :
    ∃ (f : Nat) (vi vc : Value) (xs : List It) (cs : List Cal), v = .agg #[.int .u8 (f : Int), vi, vc] ∧ f ≤ 255 ∧ RowO w vi (flatI xs) xs.length ∧ RowO w vc (flatK cs) cs.length ∧ (∀ x ∈ xs, x.Wf) := by
  obtain ⟨cs, rfl, hs, hc⟩ := open_flat (n := 3) (ts := [5, 22, 23]) (by kernel_rfl) (by kernel_rfl) (by kernel_rfl) hv
  obtain ⟨l⟩ := cs
  simp only [List.size_toArray] at hs
  match l, hs with
  | [c0, c1, c2], _ =>
    obtain ⟨f, rfl, wf⟩ := cell_int Tryz.underlying5 (hc 0 _ 5 rfl rfl)
    obtain ⟨f0, f1⟩ := has_u8 wf
    obtain ⟨fuel, hf⟩ := h
    obtain ⟨xs, n, -, -, -, hxl, hg⟩ := DataW.trod_struct Tryz.underlying25 hf
    have hx3 : xs.length = 3 := hxl
    have g1 := hg 1 _ rfl
    have g2 := hg 2 _ rfl
    rw [List.getElem?_eq_getElem (by omega)] at g1 g2
    simp only [Value.cells] at g1 g2
    obtain ⟨ys, h1, h2⟩ := open_rowO (f := It.l) (k := 5) Tryz.underlying22 (by kernel_rfl) (by decide) (fun _ => rfl) (fun h => item_cells h) g1
    obtain ⟨zs, h3, -⟩ := open_rowO (f := Cal.l) (k := 4) (G := fun _ => True) Tryz.underlying23 (by kernel_rfl) (by decide) (fun _ => rfl) (fun h => by obtain ⟨a, ha⟩ := call_cells h; exact ⟨a, ha, trivial⟩) g2
    exact ⟨f.toNat, c1, c2, ys, zs, by simp; omega, by omega, h1, h3, h2⟩
end Go.Proofs.YtagapfejgmmppaaGreat
