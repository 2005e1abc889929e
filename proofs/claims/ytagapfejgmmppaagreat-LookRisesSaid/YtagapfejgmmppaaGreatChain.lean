/- Package look: Chain. -/
import Derived.Test.YtagapfejgmmppaaGreatIter
import Derived.Test.YtagapfejgmmppaaGreatBoxIn
namespace Go.Proofs.YtagapfejgmmppaaGreat
open Go.ChangeShapes Go.WideShapes Go.ChangeAt Go.RowKit Go.Shelf
set_option maxRecDepth 100000
set_option linter.unusedVariables false
attribute [local go_sem] Oper.semAt_some

def ints (l : List Int) : List Value := l.map (.int .i64)

/-- What Chain's rounds keep. -/
structure ChI (w0 : World) (bc r : Nat) (v : Value) (pre : List Int) (W : World) : Prop where
  g : Grown w0 W
  box : Box W bc [v]
  row : W.ownsRow w0.heap.size 3 1 v pre.length (ints pre)
  nil : 0 < pre.length ∨ v = .slice none 0 0
  far : ∀ i, InRow v i → r < i

theorem ChI.kept {w0 A C : World} {bc r : Nat} {v : Value} {pre : List Int} {U : Nat → Prop} (h : ChI w0 bc r v pre A) (q : Kept U A C) (h0 : ∀ i, U i → w0.heap.size ≤ i) (h1 : ¬ U bc) (h2 : ∀ i, InRow v i → ¬ U i) : ChI w0 bc r v pre C :=
  ⟨q.fresh h.g h0, h.box.kept q h1, own_kept h.row q h2, h.nil, h.far⟩

def ChainTold (w : World) (xs : List Int) (e : Ending) (w' : World) : Prop := ∃ v, e = .returned v ∧ FlatAt w' w.heap.size v (ints xs) xs.length ∧ RowC w' v (ints xs) xs.length ∧ Grown w w'

set_option maxHeartbeats 4000000 in
theorem Chain_at (w : World) (c : Cf) (d : Wd) (ws : List Int) (n : Int) (s : St) (h : WdAt w c d ws n s) (hI : Inv c s) (hws : WOk ws) (b : Int) :
    Calls Tryz.prog 14 #[.pointer (some ⟨d.x, 0, none⟩), .int .i64 b] w (ChainTold w (chainI c ws b)) := by
  have HD := Lib.hid h
  clear h
  refine (callsIn_wide (n := 9)).1 ?_
  refine callsIn_of_wp_marks Tryz.func14 rfl trivial ?_ rfl
  simp only [Tryz.ntmps14, List.size_toArray, List.length_cons, List.length_nil, Nat.reduceAdd, Nat.reduceSub, Array.replicate_succ, Array.replicate_zero, List.push_toArray, List.append_toArray, List.nil_append, List.cons_append]
  gi_wp2_with (first | (refine ⟨trivial, ?_⟩; gi_at_call 40; refine (callsIn_wide.2 (nodes_at _ _ _)).mono ?_; rintro e w1 ⟨b1, b2, rfl, c1, c2, hb1, hb2, g1⟩) | fail)
  have hsz : (w.alloc (.cells #[.slice none 0 0] 36)).heap.size = w.heap.size + 1 := by simp
  rw [hsz] at hb1 hb2
  have l1 := World.block_lt_of_cell? _ _ c1
  have l2 := World.block_lt_of_cell? _ _ c2
  simp only at l1 l2
  have B0 := (Box.made w [.slice none 0 0] 36).grown g1
  have G1 : Grown w w1 := galloc g1
  have hlw := G1.2.2
  refine range_law (gf := 89) (lb := #[.pointer (some ⟨b1, 0, none⟩), .pointer (some ⟨b2, 0, none⟩)]) rfl (fun _ _ => rfl)
    (nodes1_iter w w1 c d ws n s HD.out hI hws G1 b1 b2 b c1 c2 (fun i => w.heap.size ≤ i ∧ i ≠ b1 ∧ i ≠ b2) (fun i hi => hi.1) (fun hi => hi.2.1 rfl) (fun hi => hi.2.2 rfl)) ⟨by omega, by omega, by omega⟩ (fun _ => rfl)
    (fun pre W => ∃ v, ChI w w.heap.size (w1.heap.size + 1) v pre W) (fun _ _ _ => False) ?hI (fun _ _ _ _ h _ => h) ⟨_, G1, B0, own_nil _ _ _ _, .inr rfl, fun i hi => by cases hi⟩ ?round ?done (fun _ _ _ _ h _ _ => h.elim)
  case hI =>
    rintro pre A C ⟨v, h⟩ q
    exact ⟨v, h.kept q (fun i hi => by omega) (by omega) (fun i hi e => by have := h.far i hi; omega)⟩
  case done =>
    rintro W ⟨v, hv⟩ hdd hWr
    have c0 := hv.box.cell 0 _ rfl
    dsimp only
    gi_wp2_with fail
    refine ⟨by simp, .inl ⟨_, _, rfl, run_takeDeferred hdd, ?_⟩⟩
    have hK : Kept (fun i => i = w1.heap.size) W (W.putObj w1.heap.size (.deferred none)) := kept_put hdd rfl rfl
    have hE := hv.kept hK (fun i hi => by omega) (by omega) (fun i hi e => by have := hv.far i hi; omega)
    refine ⟨_, results_tmp rfl _ _ _, v, rfl, own_flat hE.row hE.nil, own_rowC hE.row, hE.g⟩
  case round =>
    rintro pre x post A W hx ⟨v, hA⟩ gA hlA
    dsimp only
    simp only [List.zip_toArray, List.zip_cons_cons, List.zip_nil_right, List.size_toArray, List.length_cons, List.length_nil, List.foldl_toArray', List.foldl_cons, List.foldl_nil, List.setIfInBounds_toArray, List.set_cons_succ, List.set_cons_zero]
    gi_wp2_with (first | (refine store_boxIn rfl 102 _ _ rfl W.heap.size _ (Box.made W [.int .i64 0, .int .u64 0, .int .i64 0, .int .i64 0, .int .u64 0, .int .u64 0, .int .i64 0, .int .u64 0] 102) (nodeL c ws s x).toArray rfl rfl rfl (by kernel_rfl) rfl ?_; intro W1 B1 q1) | fail)
    have gW : Grown W W1 := But.fresh (by go_grown) q1 (fun i hi => by subst hi; exact Nat.le_refl _)
    refine ⟨gW, fun W₂ q => ?_⟩
    have hrow := fun i hi => own_at hA.row (g := i) hi
    have hA1 := hA.kept (Kept.of_grown (U := fun _ => False) (gtr gA gW)) (fun _ f => f.elim) (fun f => f) (fun _ _ f => f)
    have hA2 := hA1.kept q (fun i hi => by omega) (by omega) (fun i hi e => by have := hA.far i hi; omega)
    have hAW := gA.2.2
    have B2 := B1.kept q (by omega)
    have e0 := B2.cell 0 _ rfl
    have c0 := hA2.box.cell 0 _ rfl
    have f0 := hA2.box.free 0
    have hz2 : w1.heap.size + 1 < W₂.heap.size := by have := gW.2.2; have := q.size; omega
    have HA2 := Lib.hid hA2
    clear q1 B1 hA1 hA2 B2
    gi_wp2_with (first | (gi_at_builtin; refine pause ?_) | fail)
    unfold Pause
    refine wpListIn_add rfl _ _ 36 rfl w.heap.size 3 (.int .i64 0) 1 8 Tryz.underlying36 info_int rfl (by decide) v pre.length (ints pre) (own_grown HA2.out.row (by go_grown)) _ 1 0 [.int .i64 x] (.inr ⟨by decide, W₂.heap.size, 1, rfl, Nat.zero_le _, fun j u hj => ?news⟩) rfl (by simp [Value.oneCell']) ?h63 (by decide) ?hbase rfl rfl ?_
    case news =>
      rcases j with _ | j
      · cases hj; simp [go_sem]
      · cases hj
    case h63 => have h1 := chainI_len HD.out.book.ok ws b; rw [hx] at h1; simp at h1; omega
    case hbase => have := HA2.out.g.2.2; simp; omega
    intro v' W5 r5 fr5 q5
    obtain ⟨g', cap', hv'⟩ := own_open r5 (by omega)
    have ga : Grown W₂ (W₂.alloc (.cells #[.int .i64 x] 3)) := by go_grown
    have hne : ¬ InRow v w.heap.size := fun e => by have := HA2.out.far _ e; omega
    replace c0 := q5.cell hne (acell c0)
    replace f0 : W5.frozen? ⟨w.heap.size, 0, none⟩ = false := q5.frozen ((ga.2.1 _).trans f0)
    have B5 := (HA2.out.box.grown ga).but q5 hne
    rw [hv']
    gi_wp2_with fail
    rw [← hv']
    have q6 : But (fun i => InRow v i ∨ i = w.heap.size) W₂ (W5.setCell ⟨w.heap.size, 0, none⟩ v') := ((But.of_grown (by go_grown)).trans (q5.mono (fun _ h => .inl h))).setCell (.inl (.inr rfl)) _
    refine ⟨q6.kept.mono ?_, v', ⟨?_, B5.set (j := 0) (by simp) v', ?_, .inl (by simp), ?_⟩⟩
    · rintro i (hi | rfl)
      · have h1 := hrow i hi
        have h2 := HA2.out.far i hi
        omega
      · have := HA2.out.box.lt
        omega
    · exact But.fresh HA2.out.g q6 (fun i hi => by rcases hi with hi | rfl; · exact (hrow i hi).1
                                                   · exact Nat.le_refl _)
    · have := own_kept r5 (But.kept (But.setCell (S := fun i => i = w.heap.size) (But.refl _ W5) (a := ⟨w.heap.size, 0, none⟩) (.inl rfl) v')) (fun g hg e => ?_)
      · simpa [ints] using this
      · subst e
        rcases fr5 with e1 | ⟨g, e1, h1⟩
        · exact hne (by unfold InRow at hg ⊢; rw [← e1]; exact hg)
        · unfold InRow at hg; rw [e1] at hg; cases hg; simp at h1; omega
    · intro i hi
      rcases fr5 with e1 | ⟨g, e1, h1⟩
      · exact HA2.out.far i (by unfold InRow at hi ⊢; rw [← e1]; exact hi)
      · unfold InRow at hi; rw [e1] at hi; cases hi; simp at h1; omega
end Go.Proofs.YtagapfejgmmppaaGreat
