/- A map from numbers to true: which numbers it has, what is looked up in it, and what is put into it. -/
import Derived.Test.YtagapfejgmmppaaGreatMap
import Derived.Test.YtagapfejgmmppaaGreatRange
import Derived.Maps.OwnIn
namespace Go.Proofs.YtagapfejgmmppaaGreat
open Go.ChangeShapes Go.WideShapes Go.ChangeAt Go.RowKit Go.ChangeMaps
set_option maxRecDepth 100000

def flagL (q : IntKind) : Nat → List Int → List MapEntry
  | _, [] => []
  | i, k :: r => { key := .int q k, val := .bool true, born := i } :: flagL q (i + 1) r
theorem flagL_app (q : IntKind) (x : Int) : ∀ (l : List Int) (i : Nat), flagL q i (l ++ [x]) = flagL q i l ++ [{ key := .int q x, val := .bool true, born := i + l.length }]
  | [], i => by simp [flagL]
  | k :: r, i => by
    simp only [List.cons_append, flagL, flagL_app q x r (i + 1), List.length_cons, show i + 1 + r.length = i + (r.length + 1) by omega]
theorem flagL_len (q : IntKind) : ∀ (l : List Int) (i : Nat), (flagL q i l).length = l.length
  | [], _ => rfl
  | _ :: r, i => by simp [flagL, flagL_len q r]
theorem flag_out {q : IntKind} {x : Int} : ∀ (l : List Int) (i j : Nat), x ∉ l → Instr.findNow (.int q) (.int q x) (flagL q i l) j = some none
  | [], _, _, _ => rfl
  | k :: r, i, j, h => by
    have h1 : (x == k) = false := by simp; rintro rfl; simp at h
    simp [flagL, Instr.findNow, Instr.sameNow, h1]
    exact flag_out r (i + 1) (j + 1) (fun hx => h (List.mem_cons_of_mem _ hx))
theorem flag_in {q : IntKind} {x : Int} : ∀ (l : List Int) (i j : Nat), x ∈ l → ∃ m, Instr.findNow (.int q) (.int q x) (flagL q i l) j = some (some (j + m, .bool true)) ∧ (flagL q i l)[m]? = some { key := .int q x, val := .bool true, born := i + m }
  | [], _, _, h => by cases h
  | k :: r, i, j, h => by
    by_cases hk : x = k
    · subst hk
      exact ⟨0, by simp [flagL, Instr.findNow, Instr.sameNow], by simp [flagL]⟩
    · have h1 : (x == k) = false := by simp [hk]
      obtain ⟨m, e1, e2⟩ := flag_in (q := q) r (i + 1) (j + 1) (by simpa [hk] using h)
      refine ⟨m + 1, ?_, ?_⟩
      · simp [flagL, Instr.findNow, Instr.sameNow, h1]
        rw [e1]
        congr 3
        omega
      · simp only [flagL, List.getElem?_cons_succ]
        rw [e2]
        congr 2
        omega

/-- Block mb is such a map. -/
def FlagAt (w : World) (mb : Nat) (q : IntKind) (ks : List Int) : Prop := w.heap[mb]? = some (.map (flagL q 0 ks).toArray ks.length)
theorem FlagAt.lt {w : World} {mb : Nat} {q : IntKind} {ks : List Int} (h : FlagAt w mb q ks) : mb < w.heap.size := (Array.getElem?_eq_some_iff.1 h).1
theorem FlagAt.kept {U : Nat → Prop} {w w' : World} {mb : Nat} {q : IntKind} {ks : List Int} (h : FlagAt w mb q ks) (g : Kept U w w') (hs : ¬ U mb) : FlagAt w' mb q ks :=
  (g.same mb h.lt hs).trans h
theorem FlagAt.but {U : Nat → Prop} {w w' : World} {mb : Nat} {q : IntKind} {ks : List Int} (h : FlagAt w mb q ks) (g : But U w w') (hs : ¬ U mb) : FlagAt w' mb q ks := h.kept g.kept hs
theorem FlagAt.grown {w w' : World} {mb : Nat} {q : IntKind} {ks : List Int} (h : FlagAt w mb q ks) (g : Grown w w') : FlagAt w' mb q ks := h.kept (Kept.of_grown (U := fun _ => False) g) (fun f => f)
theorem FlagAt.made (w : World) (q : IntKind) : FlagAt (w.alloc (.map #[] 0)) w.heap.size q [] := (MapKept.heap_alloc w _).1
theorem FlagAt.ne {w : World} {mb : Nat} {q : IntKind} {ks : List Int} (h : FlagAt w mb q ks) {i o : Nat} {v : Value} (hc : w.cell? ⟨i, o, none⟩ = some v) : i ≠ mb := by
  rintro rfl
  have h' : w.heap[i]? = some (.map (flagL q 0 ks).toArray ks.length) := h
  simp [World.cell?, h'] at hc

def addK (ks : List Int) (x : Int) : List Int := if x ∈ ks then ks else ks ++ [x]
theorem mem_addK {ks : List Int} {x y : Int} : y ∈ addK ks x ↔ y ∈ ks ∨ y = x := by
  unfold addK
  split
  · rename_i h; exact ⟨.inl, fun h' => h'.elim id (fun e => e ▸ h)⟩
  · simp

section
variable {P : Program} {t k e : TypeId} {w : World} {mb : Nat} {q : IntKind} {ks : List Int}

theorem flag_make (t : TypeId) (w : World) : (Instr.makeMap t none).run P w = .ok (.map (some w.heap.size)) (w.alloc (.map #[] 0)) := by
  simp [Instr.makeMap, Result.andThen]
theorem grown_map (w : World) : Grown w (w.alloc (.map #[] 0)) := by
  refine ⟨World.keptBut_alloc _ _ _, fun a => ?_, by simp⟩
  unfold World.frozen?
  by_cases h : a.block < w.heap.size
  · rw [Below.heap_alloc _ _ _ h]
  · by_cases e : a.block = w.heap.size
    · rw [e, World.alloc_heap_new]
      have : w.heap[w.heap.size]? = none := Array.getElem?_eq_none (Nat.le_refl _)
      rw [this]
    · have hz : (w.alloc (.map #[] 0)).heap.size = w.heap.size + 1 := World.size_alloc _ _
      have h1 : (w.alloc (.map #[] 0)).heap[a.block]? = none := Array.getElem?_eq_none (by omega)
      have h2 : w.heap[a.block]? = none := Array.getElem?_eq_none (by omega)
      rw [h1, h2]

theorem flag_look (h : FlagAt w mb q ks) (ht : P.underlying t = some (.map k e)) (hk : P.underlying k = some (.int q)) (hz : (zeroValue e).run P w = .ok (.bool false) w) (x : Int) :
    (Instr.lookup t (.map (some mb)) (.int q x) false).run P w = .ok (.bool (decide (x ∈ ks))) w := by
  by_cases hx : x ∈ ks
  · obtain ⟨m, h1, -⟩ := flag_in (q := q) ks 0 0 hx
    simp [Instr.lookup, run_underlying ht, MapKept.run_getObj_map h, MapKept.run_checkKey hk (show MapKept.IsKey (.int q) (.int q x) from rfl), MapKept.run_findKey hk h1, Result.andThen, hx]
  · have h1 := flag_out (q := q) ks 0 0 hx
    simp [Instr.lookup, run_underlying ht, MapKept.run_getObj_map h, MapKept.run_checkKey hk (show MapKept.IsKey (.int q) (.int q x) from rfl), MapKept.run_findKey hk h1, hz, Result.andThen, hx]

theorem flag_put (h : FlagAt w mb q ks) (ht : P.underlying t = some (.map k e)) (hk : P.underlying k = some (.int q)) (x : Int) :
    ∃ w', (Instr.mapUpdate t (.map (some mb)) (.int q x) (.bool true)).run P w = .ok () w' ∧ FlagAt w' mb q (addK ks x) ∧ But (· = mb) w w' ∧ w'.heap.size = w.heap.size := by
  by_cases hx : x ∈ ks
  · obtain ⟨m, h1, h2⟩ := flag_in (q := q) ks 0 0 hx
    refine ⟨setBlock w mb (.map (flagL q 0 ks).toArray ks.length), ?_, ?_, ⟨keptBut_setBlock h rfl, frozen?_setBlock h, by simp [setBlock]⟩, by simp [setBlock]⟩
    · have hm : ((flagL q 0 ks).modify m fun e => { key := .int q x, val := .bool true, born := e.born }) = flagL q 0 ks := by
        apply List.ext_getElem?
        intro j
        rw [List.getElem?_modify]
        by_cases hj : m = j
        · subst hj; simp [h2]
        · simp [hj]
      have hb : ∀ (w' : World), (Instr.keyThatStays (.int q x) (.int q x)).run P w' = .ok (.int q x) w' := fun w' => by simp [Instr.keyThatStays, Instr.sameBits]
      simp only [Nat.zero_add] at h1
      simp [Instr.mapUpdate, run_underlying ht, MapKept.run_getObj_map h, MapKept.run_checkKey hk (show MapKept.IsKey (.int q) (.int q x) from rfl), MapKept.run_findKey hk h1, h2, hm, hb, MapKept.run_setObj_map _ h, Result.andThen, setBlock]
    · have e : addK ks x = ks := if_pos hx
      rw [e]; exact heap_setBlock_same h _
  · have h1 := flag_out (q := q) ks 0 0 hx
    have e : addK ks x = ks ++ [x] := if_neg hx
    have he : (flagL q 0 ks).toArray.push { key := .int q x, val := .bool true, born := ks.length } = (flagL q 0 (ks ++ [x])).toArray := by
      rw [flagL_app]; simp
    refine ⟨setBlock w mb (.map (flagL q 0 (ks ++ [x])).toArray (ks.length + 1)), ?_, ?_, ⟨keptBut_setBlock h rfl, frozen?_setBlock h, by simp [setBlock]⟩, by simp [setBlock]⟩
    · have he' : (flagL q 0 ks ++ [{ key := .int q x, val := .bool true, born := ks.length }]) = flagL q 0 (ks ++ [x]) := by rw [flagL_app]; simp
      simp [Instr.mapUpdate, run_underlying ht, MapKept.run_getObj_map h, MapKept.run_checkKey hk (show MapKept.IsKey (.int q) (.int q x) from rfl), MapKept.run_findKey hk h1, he', MapKept.run_setObj_map _ h, Result.andThen, setBlock]
    · rw [e]
      have := heap_setBlock_same (w := w) (b := mb) h (.map (flagL q 0 (ks ++ [x])).toArray (ks.length + 1))
      unfold FlagAt
      rw [this]; simp
end

/-- THE STORE AT THE OPERATION, for the walk. -/
theorem wpList_flag {P : Program} {w : World} {ops : Array Oper} {rest : List Oper} {o : Oper} {a : Act} {Q : Exit → Act → World → Prop} (hg : o.guard = none) (m x v : Operand) (t : TypeId) (hop : o.op = Op.mapUpdate t m x v)
    (k e : TypeId) (ht : P.underlying t = some (.map k e)) (q : IntKind) (hk : P.underlying k = some (.int q)) (mb : Nat) (ks : List Int) (y : Int) (h : FlagAt w mb q ks) (hm : a.eval m = .map (some mb)) (hx : a.eval x = .int q y)
    (hv : a.eval v = .bool true)
    (hK : ∀ w', FlagAt w' mb q (addK ks y) → But (· = mb) w w' → w'.heap.size = w.heap.size → wpList P ops Q rest (a.put o.dst undef) w') : wpList P ops Q (o :: rest) a w := by
  refine wpList_plain hg fun K' hK' => ?_
  obtain ⟨w', hrun, r1, r2, r3⟩ := flag_put (P := P) h ht hk y
  unfold Oper.wp
  simp [execOp, hop, hm, hx, hv, hrun, Result.andThen]
  exact hK' _ _ (hK w' r1 r2 r3)

theorem wpListIn_flag {F : Fence} {n : Nat} {P : Program} {w : World} {ops : Array Oper} {rest : List Oper} {o : Oper} {a : Act} {Q : Exit → Act → World → Prop} (hg : o.guard = none) (m x v : Operand) (t : TypeId) (hop : o.op = Op.mapUpdate t m x v)
    (k e : TypeId) (ht : P.underlying t = some (.map k e)) (q : IntKind) (hk : P.underlying k = some (.int q)) (mb : Nat) (ks : List Int) (y : Int) (h : FlagAt w mb q ks) (hm : a.eval m = .map (some mb)) (hx : a.eval x = .int q y)
    (hv : a.eval v = .bool true)
    (hK : ∀ w', FlagAt w' mb q (addK ks y) → But (· = mb) w w' → w'.heap.size = w.heap.size → wpListIn F n P ops Q rest (a.put o.dst undef) w') : wpListIn F n P ops Q (o :: rest) a w := by
  refine wpListIn_plain hg fun K' hK' => ?_
  obtain ⟨w', hrun, r1, r2, r3⟩ := flag_put (P := P) h ht hk y
  refine ⟨fun f hf => by simp [Oper.about, hop] at hf, ?_⟩
  rw [Oper.semAt_plain F _ _ (by rw [hop]; intro c hc'; cases hc')]
  simp [execOp, hop, hm, hx, hv, hrun, Result.andThen, Oper.uponIn]
  exact hK' _ _ (hK w' r1 r2 r3)
end Go.Proofs.YtagapfejgmmppaaGreat
