/- Package look: what is asked of a node; Pairs. -/
import Derived.Test.YtagapfejgmmppaaGreatChain
import Derived.Test.YtagapfejgmmppaaGreatSortC
namespace Go.Proofs.YtagapfejgmmppaaGreat
open Go.ChangeShapes Go.WideShapes Go.ChangeAt Go.RowKit Go.Shelf
set_option maxRecDepth 100000
set_option linter.unusedVariables false
attribute [local go_sem] Oper.semAt_some

theorem isInsert_at (a b o k y v l q : Int) (r : Bool) (hr : decide (k = 1) = r) (w : World) :
    Calls Tryz.prog 98 #[.agg #[.int .i64 a, .int .u64 b, .int .i64 o, .int .i64 k, .int .u64 y, .int .u64 v, .int .i64 l, .int .u64 q]] w fun e w' => e = .returned (.bool r) ∧ Grown w w' := by
  have hr' : (k == 1) = r := by rw [← hr]; rfl
  clear hr
  go_enter Tryz.func98, Tryz.ntmps98
  go_wp2
  go_ret
  exact ⟨rfl, by go_grown⟩
theorem hasKey_at (a b o k y v l q : Int) (r : Bool) (hr : decide (k = 1 ∧ q = 1) = r) (w : World) :
    Calls Tryz.prog 46 #[.agg #[.int .i64 a, .int .u64 b, .int .i64 o, .int .i64 k, .int .u64 y, .int .u64 v, .int .i64 l, .int .u64 q]] w fun e w' => e = .returned (.bool r) ∧ Grown w w' := by
  by_cases h1 : k = 1
  · have e1 : decide (k = 1) = true := decide_eq_true h1
    have hr' : (q == 1) = r := by rw [← hr]; simp only [h1, true_and]; rfl
    clear hr h1
    have HE := Lib.hid e1
    clear e1
    go_enter Tryz.func46, Tryz.ntmps46
    go_wp2_with fail
    refine (isInsert_at a b o k y v l q true HE.out _).mono ?_; rintro e w1 ⟨rfl, g1⟩
    have c4 : w1.cell? ⟨w.heap.size, 7, none⟩ = some (.int .u64 q) := gcell g1 (by simp)
    go_wp2
    go_ret
    exact ⟨rfl, gtr (by go_grown) g1⟩
  · have e1 : decide (k = 1) = false := decide_eq_false h1
    have hr' : r = false := by rw [← hr]; simp [h1]
    subst hr'
    clear hr h1
    have HE := Lib.hid e1
    clear e1
    go_enter Tryz.func46, Tryz.ntmps46
    go_wp2_with fail
    refine (isInsert_at a b o k y v l q false HE.out _).mono ?_; rintro e w1 ⟨rfl, g1⟩
    go_wp2
    go_ret
    exact ⟨rfl, gtr (by go_grown) g1⟩
theorem buckets_nil (w : World) : Calls Tryz.prog 45 #[.pointer none] w fun e w' => e = .returned (.int .i64 0) ∧ Grown w w' := by
  go_enter Tryz.func45, Tryz.ntmps45
  go_wp2
  go_ret
  exact ⟨rfl, by go_grown⟩
theorem buckets_at (w : World) (c : Cf) (d : Wd) (ws : List Int) (n : Int) (s : St) (h : WdAt w c d ws n s) : Calls Tryz.prog 45 #[.pointer (some ⟨d.x, 0, none⟩)] w fun e w' => e = .returned (.int .i64 c.b) ∧ Grown w w' := by
  have k0 := h.k0
  have k1 := h.k1
  have k2 := h.k2
  have k3 := h.k3
  have k4 := h.k4
  have HU : Hid ((if zOk c.t c.b c.i c.f c.k = true then 0 else 1) = (0 : Int)) := Lib.hid (if_pos h.book.ok.z)
  clear h
  go_enter Tryz.func45, Tryz.ntmps45
  go_wp2_with fail
  refine (May_at _ _ _ _ _ _ _ HU.out).mono ?_; rintro e w1 ⟨rfl, g1⟩
  replace k1 := gcell g1 k1
  go_wp2
  go_ret
  exact ⟨rfl, g1⟩

/-- What Pairs does with a node: which operations were told, and the pairs. -/
def stepP (c : Cf) (ws : List Int) (s : St) (acc : List Int × List (Int × Int)) (i : Int) : List Int × List (Int × Int) :=
  if ((calAt s (opAt s i)).kind = 1 ∧ wrdOf c ws (opAt s i) = 1) ∧ opAt s i ∉ acc.1 then (addK acc.1 (opAt s i), acc.2 ++ [((calAt s (opAt s i)).key, (calAt s (opAt s i)).val)]) else acc
def foldN (c : Cf) (ws : List Int) (s : St) (l : List Int) (acc : List Int × List (Int × Int)) : List Int × List (Int × Int) := l.foldl (stepP c ws s) acc
/-- The nodes of the first buckets. -/
def nodesTo (c : Cf) (ws : List Int) : Nat → List Int
  | 0 => []
  | k + 1 => nodesTo c ws k ++ chainI c ws k
def rawP (c : Cf) (ws : List Int) (s : St) : List (Int × Int) := (foldN c ws s (nodesTo c ws c.b) ([], [])).2
theorem stepP_len (c : Cf) (ws : List Int) (s : St) (acc : List Int × List (Int × Int)) (i : Int) : acc.2.length ≤ (stepP c ws s acc i).2.length := by unfold stepP; split <;> simp
theorem foldN_len (c : Cf) (ws : List Int) (s : St) : ∀ (l : List Int) (acc : List Int × List (Int × Int)), acc.2.length ≤ (foldN c ws s l acc).2.length
  | [], acc => Nat.le_refl _
  | x :: r, acc => Nat.le_trans (stepP_len c ws s acc x) (foldN_len c ws s r _)
theorem foldN_app (c : Cf) (ws : List Int) (s : St) (a b : List Int) (acc : List Int × List (Int × Int)) : foldN c ws s (a ++ b) acc = foldN c ws s b (foldN c ws s a acc) := by simp [foldN]

theorem nodesTo_le (c : Cf) (ws : List Int) (k : Nat) : ∀ m, k ≤ m → ∃ r, nodesTo c ws m = nodesTo c ws k ++ r
  | 0, h => ⟨[], by have hk : k = 0 := Nat.le_zero.1 h; subst hk; simp⟩
  | m + 1, h => by
    by_cases hk : k ≤ m
    · obtain ⟨r, hr⟩ := nodesTo_le c ws k m hk
      exact ⟨r ++ chainI c ws m, by rw [show nodesTo c ws (m + 1) = nodesTo c ws m ++ chainI c ws m from rfl, hr, List.append_assoc]⟩
    · have hk' : k = m + 1 := by omega
      subst hk'
      exact ⟨[], by simp⟩
theorem info_pair : (Tryz.prog.info? 66).map (fun i => (i.zero, i.size, i.bytes)) = some (some (.agg #[.int .u64 0, .int .u64 0]), 2, 16) := by kernel_rfl

/-- What Pairs' rounds keep. -/
structure PrI (w0 : World) (bp bt mb : Nat) (Z marks : List Nat) (v : Value) (acc : List Int × List (Int × Int)) (W : World) : Prop where
  g : Grown w0 W
  box : Box W bp [v]
  tbl : W.cell? ⟨bt, 0, none⟩ = some (.map (some mb))
  map : FlagAt W mb .i64 acc.1
  row : W.ownsRow w0.heap.size 66 2 v acc.2.length (flatP acc.2)
  nil : 0 < acc.2.length ∨ v = .slice none 0 0
  far : ∀ i, InRow v i → i ∉ Z
  mks : ∀ D ∈ marks, W.heap[D]? = some (.deferred (some []))
theorem PrI.kept {w0 A C : World} {bp bt mb : Nat} {Z marks : List Nat} {v : Value} {acc : List Int × List (Int × Int)} {U : Nat → Prop} (h : PrI w0 bp bt mb Z marks v acc A) (q : Kept U A C) (h0 : ∀ i, U i → w0.heap.size ≤ i)
    (h1 : ¬ U bp) (h2 : ¬ U bt) (h3 : ¬ U mb) (h4 : ∀ i, InRow v i → ¬ U i) (h5 : ∀ D ∈ marks, ¬ U D) : PrI w0 bp bt mb Z marks v acc C :=
  ⟨q.fresh h.g h0, h.box.kept q h1, q.cell h2 h.tbl, h.map.kept q h3, own_kept h.row q h4, h.nil, h.far, fun D hD => (q.same D (Array.getElem?_eq_some_iff.1 (h.mks D hD)).1 (h5 D hD)).trans (h.mks D hD)⟩
theorem PrI.grown {w0 A C : World} {bp bt mb : Nat} {Z marks : List Nat} {v : Value} {acc : List Int × List (Int × Int)} (h : PrI w0 bp bt mb Z marks v acc A) (q : Grown A C) : PrI w0 bp bt mb Z marks v acc C :=
  h.kept (Kept.of_grown (U := fun _ => False) q) (fun _ f => f.elim) (fun f => f) (fun f => f) (fun f => f) (fun _ _ f => f) (fun _ _ f => f)

/-- A function that ranged over functions leaves. -/
theorem leaves_marks {P : Program} {fn : Func} {tmps : Array Value} {R : Ending → World → Prop} {n : Nat} : ∀ (marks : List Nat) (W : World), marks.Nodup → (∀ D ∈ marks, W.heap[D]? = some (.deferred (some []))) →
    (∀ W', Kept (fun i => i ∈ marks) W W' → LeavesIn Fence.wide n P fn tmps R [] .returning W') → LeavesInM Fence.wide n P fn tmps R (marks.map fun D => { target := .collected D, args := #[] }) .returning W
  | [], W, _, _, h => h W (Kept.refl _ _)
  | D :: ds, W, hnd, hm, h => by
    rw [List.nodup_cons] at hnd
    have hD := hm D (by simp)
    have hk : Kept (fun i => i = D) W (W.putObj D (.deferred none)) := kept_put hD rfl rfl
    refine ⟨by simp, .inl ⟨D, _, rfl, run_takeDeferred hD, ?_⟩⟩
    refine leaves_marks ds _ hnd.2 (fun E hE => ?_) (fun W' q => h W' ((hk.mono (fun i hi => by simp [hi])).trans (q.mono (fun i hi => by simp [hi]))))
    have hne : E ≠ D := fun e => hnd.1 (e ▸ hE)
    exact (World.putObj_heap_other hne).trans (hm E (by simp [hE]))

def PairsTold (w : World) (ps : List (Int × Int)) (e : Ending) (w' : World) : Prop := ∃ v, e = .returned v ∧ FlatAt w' w.heap.size v (flatP ps) ps.length ∧ Grown w w'

set_option maxHeartbeats 4000000 in
theorem Pairs_at (w : World) (c : Cf) (d : Wd) (ws : List Int) (n : Int) (s : St) (h : WdAt w c d ws n s) (hI : Inv c s) (hws : WOk ws) (hfew : (rawP c ws s).length < 20) :
    Calls Tryz.prog 18 #[.pointer (some ⟨d.x, 0, none⟩)] w (PairsTold w (sortP (rawP c ws s))) := by
  have HD := Lib.hid h
  have hb64 := h.book.ok.b64
  clear h
  refine (callsIn_wide (n := 9)).1 ?_
  refine callsIn_of_wp_marks Tryz.func18 rfl trivial ?_ rfl
  simp only [Tryz.ntmps18, List.size_toArray, List.length_cons, List.length_nil, Nat.reduceAdd, Nat.reduceSub, Array.replicate_succ, Array.replicate_zero, List.push_toArray, List.append_toArray, List.nil_append, List.cons_append]
  have hmm := flag_make (P := Tryz.prog)
  gi_wp2_with fail
  have G0 : Grown w (((w.alloc (.cells #[.slice none 0 0] 59)).alloc (.map #[] 0)).alloc (.cells #[.map (some (w.heap.size + 1))] 114)) := gtr (show Grown w (w.alloc (.cells #[.slice none 0 0] 59)) by go_grown) (gtr (grown_map _) (show Grown ((w.alloc (.cells #[.slice none 0 0] 59)).alloc (.map #[] 0)) (((w.alloc (.cells #[.slice none 0 0] 59)).alloc (.map #[] 0)).alloc (.cells #[.map (some (w.heap.size + 1))] 114)) by go_grown))
  refine ⟨trivial, ?_⟩
  refine (callsIn_wide.2 (buckets_at _ c d ws n s (HD.out.grown G0))).mono ?_
  rintro e w1 ⟨rfl, g1⟩
  have G1 := gtr G0 g1
  have c0 := gcell g1 (show (((w.alloc (.cells #[.slice none 0 0] 59)).alloc (.map #[] 0)).alloc (.cells #[.map (some (w.heap.size + 1))] 114)).cell? ⟨w.heap.size + 1 + 1, 0, none⟩ = some (.map (some (w.heap.size + 1))) by simp [go_sem])
  have B0 := (Box.made w [.slice none 0 0] 59).grown (gtr (grown_map _) (gtr (show Grown ((w.alloc (.cells #[.slice none 0 0] 59)).alloc (.map #[] 0)) (((w.alloc (.cells #[.slice none 0 0] 59)).alloc (.map #[] 0)).alloc (.cells #[.map (some (w.heap.size + 1))] 114)) by go_grown) g1))
  have M0 := (FlagAt.made (w.alloc (.cells #[.slice none 0 0] 59)) .i64).grown (gtr (show Grown ((w.alloc (.cells #[.slice none 0 0] 59)).alloc (.map #[] 0)) (((w.alloc (.cells #[.slice none 0 0] 59)).alloc (.map #[] 0)).alloc (.cells #[.map (some (w.heap.size + 1))] 114)) by go_grown) g1)
  have hz1 : (w.alloc (.cells #[.slice none 0 0] 59)).heap.size = w.heap.size + 1 := World.size_alloc _ _
  rw [hz1] at M0
  have hlt1 := World.block_lt_of_cell? _ _ c0
  simp only at hlt1
  gi_wp2_with fail
  refine wpIn_loop (fun a' wr => ∃ (k : Nat) (marks Z : List Nat) (v : Value) (u5 u6 u11 u12 u13 u14 u15 u16 u17 u18 u19 u20 u21 u22 u23 u24 u25 u26 u27 u28 u29 u30 u31 u32 u33 u34 u35 u36 u37 u38 u39 : Value), a' = { tmps := (.pointer (some ⟨d.x, 0, none⟩) :: undef :: .slice none 0 0 :: .pointer (some ⟨w.heap.size, 0, none⟩) :: .pointer (some ⟨w.heap.size + 1 + 1, 0, none⟩) :: u5 :: u6 :: .map (some (w.heap.size + 1)) :: .pointer (some ⟨d.x, 0, none⟩) :: .int .i64 c.b :: .int .i64 (k : Int) :: u11 :: u12 :: u13 :: u14 :: u15 :: u16 :: u17 :: u18 :: u19 :: u20 :: u21 :: u22 :: u23 :: u24 :: u25 :: u26 :: u27 :: u28 :: u29 :: u30 :: u31 :: u32 :: u33 :: u34 :: u35 :: u36 :: u37 :: u38 :: u39 :: undef :: undef :: undef :: []).toArray, defers := marks.map fun D => { target := .collected D, args := #[] } } ∧ k ≤ c.b ∧ marks.Nodup ∧ (∀ D ∈ marks, D ∈ Z ∧ w.heap.size + 1 + 1 < D) ∧ (∀ i ∈ Z, i < wr.heap.size) ∧ (w.heap.size ∈ Z ∧ w.heap.size + 1 ∈ Z ∧ w.heap.size + 1 + 1 ∈ Z) ∧
      PrI w w.heap.size (w.heap.size + 1 + 1) (w.heap.size + 1) Z marks v (foldN c ws s (nodesTo c ws k) ([], [])) wr ∧ w.heap.size + 1 + 1 < wr.heap.size) (fun a' _ => c.b - (intOf (a'.tmps.getD 10 undef)).toNat) ?start ?round
  case start => exact ⟨0, [], [w.heap.size, w.heap.size + 1, w.heap.size + 1 + 1], .slice none 0 0, _, _, _, _, _, _, _, _, _, _, _, _, _, _, _, _, _, _, _, _, _, _, _, _, _, _, _, _, _, _, _, rfl, Nat.zero_le _, List.nodup_nil, (fun D hD => by simp at hD), (fun i hi => by simp at hi; omega), ⟨by simp, by simp, by simp⟩, ⟨G1, B0, c0, M0, own_nil _ _ _ _, .inr rfl, (fun i hi => by cases hi), (fun D hD => by simp at hD)⟩, hlt1⟩
  case round =>
    rintro a' wr ⟨k, marks, Z, v, u5, u6, u11, u12, u13, u14, u15, u16, u17, u18, u19, u20, u21, u22, u23, u24, u25, u26, u27, u28, u29, u30, u31, u32, u33, u34, u35, u36, u37, u38, u39, rfl, hk, hnd, hmz, hzlt, hz, hP, hszr⟩
    have HP := Lib.hid hP
    obtain ⟨acc, hacc⟩ : ∃ acc, foldN c ws s (nodesTo c ws k) ([], []) = acc := ⟨_, rfl⟩
    have HACC := Lib.hid hacc
    rw [hacc] at hP
    clear hacc
    have hmlt : ∀ D ∈ marks, D < wr.heap.size := fun D hD => (Array.getElem?_eq_some_iff.1 (hP.mks D hD)).1
    by_cases hkb : k < c.b
    · have hlt : (k : Int) < (c.b : Int) := by omega
      gi_wp2_with fail
      refine ⟨trivial, ?_⟩
      refine (callsIn_wide.2 (nodes_at _ _ _)).mono ?_
      rintro e w2 ⟨b1, b2, rfl, c1, c2, hb1, hb2, g2⟩
      have hP2 := hP.grown g2
      have l1 := World.block_lt_of_cell? _ _ c1
      have l2 := World.block_lt_of_cell? _ _ c2
      simp only at l1 l2
      have hsz2 := g2.2.2
      have hrw : ∀ i, InRow v i → w.heap.size ≤ i ∧ i < wr.heap.size := fun i hi => own_at hP.row hi
      gi_wp2_with fail
      refine range_law (gf := 89) (lb := #[.pointer (some ⟨b1, 0, none⟩), .pointer (some ⟨b2, 0, none⟩)]) rfl (fun _ _ => rfl)
        (nodes1_iter w w2 c d ws n s HD.out hI hws hP2.g b1 b2 k c1 c2 (fun i => w.heap.size ≤ i ∧ i ≠ b1 ∧ i ≠ b2) (fun i hi => hi.1) (fun hi => hi.2.1 rfl) (fun hi => hi.2.2 rfl)) ⟨by omega, by omega, by omega⟩ (fun _ => rfl)
        (fun pre W => ∃ v, PrI w w.heap.size (w.heap.size + 1 + 1) (w.heap.size + 1) (b1 :: b2 :: w2.heap.size :: (w2.heap.size + 1) :: Z) marks v (foldN c ws s pre acc) W) (fun _ _ _ => False) ?hI (fun _ _ _ _ h _ => h)
        ⟨v, hP2.g, hP2.box, hP2.tbl, hP2.map, hP2.row, hP2.nil, fun i hi => by
          have h1 := hrw i hi
          have h2 := hP2.far i hi
          simp only [List.mem_cons, not_or]
          exact ⟨by omega, by omega, by omega, by omega, h2⟩, hP2.mks⟩ ?round2 ?done (fun _ _ _ _ h _ _ => h.elim)
      case hI =>
        rintro pre A C ⟨v, hv⟩ q
        exact ⟨v, hv.kept q (fun i hi => by omega) (by omega) (by omega) (by omega) (fun i hi e => hv.far i hi (by simp [e])) (fun D hD e => by have := hmlt D hD; omega)⟩
      case done =>
        rintro W ⟨v, hv⟩ hdd hWr
        have hWl := (Array.getElem?_eq_some_iff.1 hdd).1
        dsimp only
        gi_wp2_with fail
        refine ⟨⟨k + 1, w2.heap.size :: marks, b1 :: b2 :: w2.heap.size :: (w2.heap.size + 1) :: Z, v, _, _, _, _, _, _, _, _, _, _, _, _, _, _, _, _, _, _, _, _, _, _, _, _, _, _, _, _, _, _, _, rfl, by omega, ?_, ?_, ?_, ?_, ?_, by omega⟩, ?_⟩
        · rw [List.nodup_cons]; exact ⟨fun hD => by have := hmlt _ hD; omega, hnd⟩
        · intro D hD
          simp only [List.mem_cons] at hD
          rcases hD with rfl | hD
          · exact ⟨by simp, by omega⟩
          · exact ⟨by simp [(hmz D hD).1], (hmz D hD).2⟩
        · intro i hi
          have hW2 : w2.heap.size + 1 < W.heap.size := hWr
          simp only [List.mem_cons] at hi
          rcases hi with rfl | rfl | rfl | rfl | hi
          · omega
          · omega
          · omega
          · omega
          · have := hzlt i hi; omega
        · exact ⟨by simp [hz.1], by simp [hz.2.1], by simp [hz.2.2]⟩
        · have hf : foldN c ws s (nodesTo c ws (k + 1)) ([], []) = foldN c ws s (chainI c ws k) acc := by
            rw [show nodesTo c ws (k + 1) = nodesTo c ws k ++ chainI c ws k from rfl, foldN_app, HACC.out]
          rw [hf]
          exact ⟨hv.g, hv.box, hv.tbl, hv.map, hv.row, hv.nil, hv.far, fun D hD => by
            simp only [List.mem_cons] at hD
            rcases hD with rfl | hD
            · exact hdd
            · exact hv.mks D hD⟩
        · simp [intOf]; omega
      case round2 =>
        rintro pre x post A W hx ⟨v, hA⟩ gA hlA
        dsimp only
        simp only [List.zip_toArray, List.zip_cons_cons, List.zip_nil_right, List.size_toArray, List.length_cons, List.length_nil, List.foldl_toArray', List.foldl_cons, List.foldl_nil, List.setIfInBounds_toArray, List.set_cons_succ, List.set_cons_zero]
        gi_wp2_with (first | (refine store_boxIn rfl 102 _ _ rfl W.heap.size _ (Box.made W [.int .i64 0, .int .u64 0, .int .i64 0, .int .i64 0, .int .u64 0, .int .u64 0, .int .i64 0, .int .u64 0] 102) (nodeL c ws s x).toArray rfl rfl rfl (by kernel_rfl) rfl ?_; intro W1 B1 q1) | fail)
        have gW : Grown W W1 := But.fresh (by go_grown) q1 (fun i hi => by subst hi; exact Nat.le_refl _)
        refine ⟨gW, fun W₂ q => ?_⟩
        have hrow : ∀ i, InRow v i → w.heap.size ≤ i ∧ i < A.heap.size := fun i hi => own_at hA.row hi
        have hfar : ∀ i, InRow v i → i ≠ b1 ∧ i ≠ b2 ∧ i ≠ w2.heap.size ∧ i ≠ w2.heap.size + 1 ∧ i ∉ Z := fun i hi => by
          have := hA.far i hi
          simpa [List.mem_cons, not_or] using this
        have hA1 := (hA.grown gA).grown gW
        have hA2 := hA1.kept q (fun i hi => by omega) (by omega) (by omega) (by omega) (fun i hi e => (hfar i hi).2.2.2.1 e) (fun D hD e => by have := hmlt D hD; omega)
        have hAW := gA.2.2
        have B2 := B1.kept q (by omega)
        have hz2 : w2.heap.size + 1 < W₂.heap.size := by have := gW.2.2; have := q.size; omega
        obtain ⟨fa, hfa⟩ : ∃ fa, foldN c ws s pre acc = fa := ⟨_, rfl⟩
        have HFA := Lib.hid hfa
        rw [hfa] at hA2
        clear hfa hA hA1
        gi_wp2_with (first | (refine load_boxIn rfl 102 _ rfl W.heap.size rfl _ _ Tryz.underlying102 rfl (by kernel_rfl) B2 ?_) | fail)
        refine ⟨trivial, ?_⟩
        have hsnoc : foldN c ws s (pre ++ [x]) acc = stepP c ws s fa x := by rw [foldN_app, HFA.out]; rfl
        have HS := Lib.hid hsnoc
        clear hsnoc
        have tb := hA2.tbl
        have HA2 := Lib.hid hA2
        clear hA2
        by_cases hkey : (calAt s (opAt s x)).kind = 1 ∧ wrdOf c ws (opAt s x) = 1
        · have HK := Lib.hid (decide_eq_true hkey)
          have HKP := Lib.hid hkey
          clear hkey
          refine (CallsIn.inRound _ (callsIn_wide.2 (hasKey_at _ _ _ _ _ _ _ _ _ HK.out _))).mono ?_
          rintro e W3 ⟨rfl, g3⟩
          have hA3 := HA2.out.grown g3
          have B3 := B2.grown g3
          replace tb := hA3.tbl
          have e2 := B3.cell 2 _ rfl
          have e4 := B3.cell 4 _ rfl
          have e5 := B3.cell 5 _ rfl
          have hl := flag_look (P := Tryz.prog) hA3.map Tryz.underlying114 Tryz.underlying3 (show (zeroValue 4).run Tryz.prog W3 = .ok (.bool false) W3 by kernel_rfl) (opAt s x)
          have c0 := hA3.box.cell 0 _ rfl
          have f0 := hA3.box.free 0
          have HA3 := Lib.hid hA3
          clear hA3
          by_cases hop : opAt s x ∈ fa.1
          · have HOP := Lib.hid hop
            rw [decide_eq_true hop] at hl
            clear hop
            gi_wp2_with fail
            refine ⟨Kept.of_grown g3, v, ?_⟩
            rw [HS.out]
            have : stepP c ws s fa x = fa := if_neg (fun h => h.2 HOP.out)
            rw [this]
            exact HA3.out
          · have HOP := Lib.hid hop
            rw [decide_eq_false hop] at hl
            clear hop
            gi_wp2_with (first | (gi_at_mapUpdate; refine pause ?_) | fail)
            unfold Pause
            refine wpListIn_flag rfl _ _ _ 114 rfl _ _ Tryz.underlying114 .i64 Tryz.underlying3 (w.heap.size + 1) fa.1 (opAt s x) HA3.out.map rfl rfl rfl ?_
            intro W4 m4 q4 z4
            have hlb := HA3.out.box.lt
            have hWs : A.heap.size ≤ W.heap.size := gA.2.2
            replace c0 := q4.cell (by omega) c0
            replace f0 : W4.frozen? ⟨w.heap.size, 0, none⟩ = false := q4.frozen f0
            replace e4 := q4.cell (by omega) e4
            replace e5 := q4.cell (by omega) e5
            have hrow4 : ∀ i, InRow v i → ¬ i = w.heap.size + 1 := fun i hi e => (hfar i hi).2.2.2.2 (by rw [e]; exact hz.2.1)
            have r4 := own_kept HA3.out.row q4.kept hrow4
            have b4 := HA3.out.box.but q4 (by omega)
            have t4 := q4.cell (by omega) HA3.out.tbl
            have hl3 : W₂.heap.size ≤ W4.heap.size := by rw [z4]; exact g3.2.2
            have R4 := Lib.hid r4
            have HZ4 := Lib.hid z4
            clear hl r4 tb z4
            gi_wp2_with (first | (gi_at_builtin; refine pause ?_) | fail)
            unfold Pause
            have ga : Grown W4 (W4.alloc (.cells #[.int .u64 (calAt s (opAt s x)).key, .int .u64 (calAt s (opAt s x)).val] 66)) := by go_grown
            refine wpListIn_add rfl _ _ 59 rfl w.heap.size 66 (.agg #[.int .u64 0, .int .u64 0]) 2 16 Tryz.underlying59 info_pair rfl (by decide) v fa.2.length (flatP fa.2) (own_grown R4.out ga) _ 1 0 [.int .u64 (calAt s (opAt s x)).key, .int .u64 (calAt s (opAt s x)).val] (.inr ⟨by decide, W4.heap.size, 1, rfl, Nat.zero_le _, fun j u hj => ?news⟩) rfl (by simp [Value.oneCell']) ?h63 (by decide) ?hbase rfl rfl ?_
            case news =>
              rcases j with _ | _ | j
              · cases hj; simp [go_sem]
              · cases hj; simp [go_sem]
              · cases hj
            case h63 =>
              have h1 : fa.2.length ≤ (rawP c ws s).length := by
                rw [← HFA.out]
                have h2 : (foldN c ws s (nodesTo c ws (k + 1)) ([], [])).2.length ≤ (rawP c ws s).length := by
                  obtain ⟨r, hr⟩ := nodesTo_le c ws (k + 1) c.b (by omega)
                  unfold rawP; rw [hr, foldN_app]; exact foldN_len _ _ _ _ _
                refine Nat.le_trans ?_ h2
                rw [show nodesTo c ws (k + 1) = nodesTo c ws k ++ chainI c ws k from rfl, foldN_app, HACC.out, hx, foldN_app]
                exact foldN_len _ _ _ _ _
              omega
            case hbase => have := HA3.out.g.2.2; simp; omega
            intro v' W5 r5 fr5 q5
            obtain ⟨g', cap', hv'⟩ := own_open r5 (by omega)
            have hne : ¬ InRow v w.heap.size := fun e => (hfar _ e).2.2.2.2 hz.1
            have hnt : ¬ InRow v (w.heap.size + 1 + 1) := fun e => (hfar _ e).2.2.2.2 hz.2.2
            have hnm : ¬ InRow v (w.heap.size + 1) := fun e => (hfar _ e).2.2.2.2 hz.2.1
            replace c0 := q5.cell hne (gcell ga c0)
            replace f0 : W5.frozen? ⟨w.heap.size, 0, none⟩ = false := q5.frozen ((ga.2.1 _).trans f0)
            have B5 := (b4.grown ga).but q5 hne
            have t5 := q5.cell hnt (gcell ga t4)
            have m5 := (m4.grown ga).but q5 hnm
            clear e4 e5
            rw [hv']
            gi_wp2_with fail
            rw [← hv']
            have q6 : But (fun i => (InRow v i ∨ i = w.heap.size) ∨ i = w.heap.size + 1) W₂ (W5.setCell ⟨w.heap.size, 0, none⟩ v') :=
              ((((But.of_grown g3).trans (q4.mono (fun _ h => .inr h))).trans (But.of_grown ga)).trans (q5.mono (fun _ h => .inl (.inl h)))).setCell (.inl (.inl (.inr rfl))) _
            have qs : But (fun i => i = w.heap.size) W5 (W5.setCell ⟨w.heap.size, 0, none⟩ v') := But.setCell (S := fun i => i = w.heap.size) (But.refl _ W5) (a := ⟨w.heap.size, 0, none⟩) (.inl rfl) v'
            have hG5 : Grown w (W5.setCell ⟨w.heap.size, 0, none⟩ v') := But.fresh HA2.out.g q6 (fun i hi => by
              rcases hi with (hi | rfl) | rfl
              · exact (hrow i hi).1
              · exact Nat.le_refl _
              · omega)
            have hne' : ¬ InRow v' w.heap.size := fun e => by
              rcases fr5 with e1 | ⟨g, e1, h1⟩
              · exact hne (by unfold InRow at e ⊢; rw [← e1]; exact e)
              · unfold InRow at e; rw [e1] at e; cases e; simp at h1; omega
            refine ⟨q6.kept.mono ?_, v', ?_⟩
            · have hA0 : w.heap.size + 1 + 1 < A.heap.size := by omega
              rintro i ((hi | rfl) | rfl)
              · have h1 := hrow i hi
                have h2 := hfar i hi
                exact ⟨⟨h1.1, h2.1, h2.2.1⟩, h1.2, h2.2.2.1, h2.2.2.2.1⟩
              · exact ⟨⟨by omega, by omega, by omega⟩, by omega, by omega, by omega⟩
              · exact ⟨⟨by omega, by omega, by omega⟩, by omega, by omega, by omega⟩
            · rw [HS.out]
              have hst : stepP c ws s fa x = (addK fa.1 (opAt s x), fa.2 ++ [((calAt s (opAt s x)).key, (calAt s (opAt s x)).val)]) := if_pos ⟨HKP.out, HOP.out⟩
              rw [hst]
              refine ⟨hG5, B5.set (j := 0) (by simp) v', qs.cell (by omega) t5, m5.but qs (by omega), ?_, .inl (by simp), ?_, fun D hD => ?_⟩
              · have h1 := own_kept r5 qs.kept (fun g hg e => hne' (e ▸ hg))
                simpa [flatP] using h1
              · intro i hi
                rcases fr5 with e1 | ⟨g, e1, h1⟩
                · exact HA2.out.far i (by unfold InRow at hi ⊢; rw [← e1]; exact hi)
                · unfold InRow at hi; rw [e1] at hi; cases hi
                  simp at h1
                  have hZ := hzlt
                  simp only [List.mem_cons, not_or]
                  exact ⟨by omega, by omega, by omega, by omega, fun hm => by have := hZ i hm; omega⟩
              · have h1 := HA2.out.mks D hD
                exact (q6.kept.same D (Array.getElem?_eq_some_iff.1 h1).1 (fun hi => by
                  have h2 := (hmz D hD).2
                  rcases hi with (hi | rfl) | rfl
                  · exact (hfar D hi).2.2.2.2 (hmz D hD).1
                  · omega
                  · omega)).trans h1
        · have HK := Lib.hid (decide_eq_false hkey)
          have HKP := Lib.hid hkey
          clear hkey
          refine (CallsIn.inRound _ (callsIn_wide.2 (hasKey_at _ _ _ _ _ _ _ _ _ HK.out _))).mono ?_
          rintro e W3 ⟨rfl, g3⟩
          gi_wp2_with fail
          refine ⟨Kept.of_grown g3, v, ?_⟩
          rw [HS.out]
          have : stepP c ws s fa x = fa := if_neg (fun h => HKP.out h.1)
          rw [this]
          exact HA2.out.grown g3
    · have hlt : ¬ (k : Int) < (c.b : Int) := by omega
      have hkc : k = c.b := by omega
      have cP := hP.box.cell 0 _ rfl
      have hraw : acc.2 = rawP c ws s := by unfold rawP; rw [← hkc, HACC.out]
      have HR := Lib.hid hraw
      have HKC := Lib.hid hkc
      have HPP := Lib.hid hP
      clear hraw hkc hP HP
      gi_wp2_with fail
      refine ⟨trivial, ?_⟩
      refine (callsIn_wide.2 (sortStable_at wr w.heap.size _ v acc.2 rfl (by rw [HR.out]; exact hfew) HPP.out.row HPP.out.nil)).mono ?_
      rintro e w3 ⟨rfl, r3, q3⟩
      have hne : ∀ i, InRow v i → i ≠ w.heap.size := fun i hi e => HPP.out.far i hi (by rw [e]; exact hz.1)
      have cP3 := q3.cell (fun h => hne _ h rfl) cP
      have hG3 : Grown w w3 := But.fresh HPP.out.g q3 (fun i hi => (own_at HPP.out.row hi).1)
      have hM3 : ∀ D ∈ marks, w3.heap[D]? = some (.deferred (some [])) := fun D hD => (q3.kept.same D (hmlt D hD) (fun hi => HPP.out.far D hi (hmz D hD).1)).trans (HPP.out.mks D hD)
      clear cP
      gi_wp2_with fail
      refine leaves_marks marks w3 hnd hM3 (fun W' q => ?_)
      have hG4 := q.fresh hG3 (fun i hi => by have := (hmz i hi).2; omega)
      have r4 := own_kept r3 q (fun i hi hm => HPP.out.far i hi (hmz i hm).1)
      refine ⟨_, results_tmp rfl _ _ _, v, rfl, ?_, hG4⟩
      have hl : (sortP (rawP c ws s)).length = acc.2.length := by rw [sortP_len, HR.out]
      rw [hl, ← HR.out]
      exact own_flat r4 HPP.out.nil
end Go.Proofs.YtagapfejgmmppaaGreat
