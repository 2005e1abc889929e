/- Package look: Sound. -/
import Derived.Test.YtagapfejgmmppaaGreatPassed
import Derived.Test.YtagapfejgmmppaaGreatPairs
namespace Go.Proofs.YtagapfejgmmppaaGreat
open Go.ChangeShapes Go.WideShapes Go.ChangeAt Go.RowKit Go.Shelf
set_option maxRecDepth 100000
set_option linter.unusedVariables false
attribute [local go_sem] Oper.semAt_some

/-- May a node stand there? -/
def fitV (c : Cf) (b : Int) (p : Ps) (x : Nd) : Bool := decide (x.cal.kind = 1) && decide (zBucket x.cal.key c.b = b) && bearsV p x
def sndL (c : Cf) (ws : List Int) (s : St) (b : Int) : Ps → List Int → Bool
  | _, [] => true
  | p, i :: r => if fitV c b p (ndOf c ws s i) = true then sndL c ws s b (passV p (ndOf c ws s i)) r else false
def ps0 : Ps := ⟨0, [], [], []⟩
/-- Is a bucket sound? -/
def sndB (c : Cf) (ws : List Int) (s : St) (b : Int) : Bool := sndL c ws s b ps0 (chainI c ws b)

structure SdI (w0 : World) (rb b m1 m2 m3 : Nat) (p : Ps) (W : World) : Prop where
  g : Grown w0 W
  res : Box W rb [.bool false]
  ps : PassAt W b m1 m2 m3 p
theorem SdI.kept {U : Nat → Prop} {w0 A C : World} {rb b m1 m2 m3 : Nat} {p : Ps} (h : SdI w0 rb b m1 m2 m3 p A) (q : Kept U A C) (h0 : ∀ i, U i → w0.heap.size ≤ i) (h1 : ¬ U rb) (h2 : ∀ i, PsOwn b m1 m2 m3 i → ¬ U i) : SdI w0 rb b m1 m2 m3 p C :=
  ⟨q.fresh h.g h0, h.res.kept q h1, h.ps.kept q (h2 _ (.inl rfl)) (h2 _ (.inr (.inl rfl))) (h2 _ (.inr (.inr (.inl rfl)))) (h2 _ (.inr (.inr (.inr rfl))))⟩
theorem SdI.grown {w0 A C : World} {rb b m1 m2 m3 : Nat} {p : Ps} (h : SdI w0 rb b m1 m2 m3 p A) (q : Grown A C) : SdI w0 rb b m1 m2 m3 p C :=
  h.kept (Kept.of_grown (U := fun _ => False) q) (fun _ f => f.elim) (fun f => f) (fun _ _ f => f)

/-- The world in which the loop begins. -/
def sndW (w : World) (x : Value) (b : Int) : World :=
  (((((((w.alloc (.cells #[x] 29)).alloc (.cells #[.int .i64 b] 3)).alloc (.cells #[.bool false] 4)).alloc (.map #[] 0)).alloc (.map #[] 0)).alloc (.map #[] 0)).alloc
    (.cells #[.int .u64 0, .map (some (w.heap.size + 1 + 1 + 1)), .map (some (w.heap.size + 1 + 1 + 1 + 1)), .map (some (w.heap.size + 1 + 1 + 1 + 1 + 1))] 179))
theorem snd_start (w : World) (x : Value) (b : Int) : (sndW w x b).cell? ⟨w.heap.size, 0, none⟩ = some x ∧ (sndW w x b).cell? ⟨w.heap.size + 1, 0, none⟩ = some (.int .i64 b) ∧ (sndW w x b).heap.size = w.heap.size + 1 + 1 + 1 + 1 + 1 + 1 + 1 ∧
    SdI w (w.heap.size + 1 + 1) (w.heap.size + 1 + 1 + 1 + 1 + 1 + 1) (w.heap.size + 1 + 1 + 1) (w.heap.size + 1 + 1 + 1 + 1) (w.heap.size + 1 + 1 + 1 + 1 + 1) ps0 (sndW w x b) := by
  obtain ⟨A1, h1⟩ : ∃ A, (w.alloc (.cells #[x] 29)).alloc (.cells #[.int .i64 b] 3) = A := ⟨_, rfl⟩
  obtain ⟨A2, h2⟩ : ∃ A, A1.alloc (.cells #[.bool false] 4) = A := ⟨_, rfl⟩
  obtain ⟨A3, h3⟩ : ∃ A, A2.alloc (.map #[] 0) = A := ⟨_, rfl⟩
  obtain ⟨A4, h4⟩ : ∃ A, A3.alloc (.map #[] 0) = A := ⟨_, rfl⟩
  obtain ⟨A5, h5⟩ : ∃ A, A4.alloc (.map #[] 0) = A := ⟨_, rfl⟩
  obtain ⟨A6, h6⟩ : ∃ A, A5.alloc (.cells #[.int .u64 0, .map (some (w.heap.size + 1 + 1 + 1)), .map (some (w.heap.size + 1 + 1 + 1 + 1)), .map (some (w.heap.size + 1 + 1 + 1 + 1 + 1))] 179) = A := ⟨_, rfl⟩
  have hW : sndW w x b = A6 := by unfold sndW; rw [h1, h2, h3, h4, h5, h6]
  rw [hW]
  have z1 : A1.heap.size = w.heap.size + 1 + 1 := by rw [← h1]; simp
  have z2 : A2.heap.size = w.heap.size + 1 + 1 + 1 := by rw [← h2]; simp [z1]
  have z3 : A3.heap.size = w.heap.size + 1 + 1 + 1 + 1 := by rw [← h3]; simp [z2]
  have z4 : A4.heap.size = w.heap.size + 1 + 1 + 1 + 1 + 1 := by rw [← h4]; simp [z3]
  have z5 : A5.heap.size = w.heap.size + 1 + 1 + 1 + 1 + 1 + 1 := by rw [← h5]; simp [z4]
  have z6 : A6.heap.size = w.heap.size + 1 + 1 + 1 + 1 + 1 + 1 + 1 := by rw [← h6]; simp [z5]
  have g1 : Grown w A1 := by rw [← h1]; go_grown
  have g2 : Grown A1 A2 := by rw [← h2]; go_grown
  have g3 : Grown A2 A3 := by rw [← h3]; exact grown_map _
  have g4 : Grown A3 A4 := by rw [← h4]; exact grown_map _
  have g5 : Grown A4 A5 := by rw [← h5]; exact grown_map _
  have g6 : Grown A5 A6 := by rw [← h6]; go_grown
  have g26 : Grown A2 A6 := gtr g3 (gtr g4 (gtr g5 g6))
  have c0 : A1.cell? ⟨w.heap.size, 0, none⟩ = some x := by rw [← h1]; simp [go_sem]
  have c1 : A1.cell? ⟨w.heap.size + 1, 0, none⟩ = some (.int .i64 b) := by rw [← h1]; simp [go_sem]
  have B2 := Box.made A1 [.bool false] 4
  rw [z1] at B2
  rw [show A1.alloc (.cells [Value.bool false].toArray 4) = A2 from h2] at B2
  have F1 := FlagAt.made A2 .i64
  rw [h3, z2] at F1
  have F2 := FlagAt.made A3 .i64
  rw [h4, z3] at F2
  have F3 := FlagAt.made A4 .u64
  rw [h5, z4] at F3
  have B6 := Box.made A5 [.int .u64 0, .map (some (w.heap.size + 1 + 1 + 1)), .map (some (w.heap.size + 1 + 1 + 1 + 1)), .map (some (w.heap.size + 1 + 1 + 1 + 1 + 1))] 179
  rw [z5] at B6
  rw [show A5.alloc (.cells [Value.int .u64 0, .map (some (w.heap.size + 1 + 1 + 1)), .map (some (w.heap.size + 1 + 1 + 1 + 1)), .map (some (w.heap.size + 1 + 1 + 1 + 1 + 1))].toArray 179) = A6 from h6] at B6
  exact ⟨gcell (gtr g2 g26) c0, gcell (gtr g2 g26) c1, z6, gtr g1 (gtr g2 g26), B2.grown g26, ⟨B6, F1.grown (gtr g4 (gtr g5 g6)), F2.grown (gtr g5 g6), F3.grown g6, by omega, by omega, by omega⟩⟩

set_option maxHeartbeats 4000000 in
theorem soundBucket_at (w : World) (c : Cf) (d : Wd) (ws : List Int) (n : Int) (s : St) (h : WdAt w c d ws n s) (hI : Inv c s) (hws : WOk ws) (b : Int) :
    Calls Tryz.prog 55 #[.pointer (some ⟨d.x, 0, none⟩), .int .i64 b] w fun e w' => e = .returned (.bool (sndB c ws s b)) ∧ Grown w w' := by
  have HD := Lib.hid h
  have k1 := h.k1
  have hdx := h.xlt
  clear h
  obtain ⟨V, hV⟩ : ∃ V, sndB c ws s b = V := ⟨_, rfl⟩
  rw [hV]
  have HV := Lib.hid hV
  clear hV
  refine (callsIn_wide (n := 9)).1 ?_
  refine callsIn_of_wp_marks Tryz.func55 rfl trivial ?_ rfl
  simp only [Tryz.ntmps55, List.size_toArray, List.length_cons, List.length_nil, Nat.reduceAdd, Nat.reduceSub, Array.replicate_succ, Array.replicate_zero, List.push_toArray, List.append_toArray, List.nil_append, List.cons_append]
  have hmm := flag_make (P := Tryz.prog)
  gi_wp2_with fail
  refine ⟨trivial, ?_⟩
  obtain ⟨s0, s1, sz, hS⟩ := snd_start w (.pointer (some ⟨d.x, 0, none⟩)) b
  obtain ⟨A6, hA6⟩ : ∃ A, sndW w (.pointer (some ⟨d.x, 0, none⟩)) b = A := ⟨_, rfl⟩
  rw [hA6] at s0 s1 sz hS
  unfold sndW at hA6
  rw [hA6]
  clear hA6 hmm
  refine (callsIn_wide.2 (nodes_at _ _ _)).mono ?_
  rintro e w1 ⟨b1, b2, rfl, c1, c2, hb1, hb2, g1⟩
  have l1 := World.block_lt_of_cell? _ _ c1
  have l2 := World.block_lt_of_cell? _ _ c2
  simp only at l1 l2
  rw [sz] at hb1 hb2
  have hS1 := hS.grown g1
  have s0' := gcell g1 s0
  have s1' := gcell g1 s1
  clear s0 s1 hS
  have hlw := hS1.g.2.2
  gi_wp2_with fail
  refine range_law (gf := 89) (lb := #[.pointer (some ⟨b1, 0, none⟩), .pointer (some ⟨b2, 0, none⟩)]) rfl (fun _ _ => rfl)
    (nodes1_iter w w1 c d ws n s HD.out hI hws hS1.g b1 b2 b c1 c2 (fun i => w.heap.size ≤ i ∧ i ≠ b1 ∧ i ≠ b2) (fun i hi => hi.1) (fun hi => hi.2.1 rfl) (fun hi => hi.2.2 rfl)) ⟨by omega, by omega, by omega⟩ (fun _ => rfl)
    (fun pre W => ∃ p, SdI w (w.heap.size + 1 + 1) (w.heap.size + 1 + 1 + 1 + 1 + 1 + 1) (w.heap.size + 1 + 1 + 1) (w.heap.size + 1 + 1 + 1 + 1) (w.heap.size + 1 + 1 + 1 + 1 + 1) p W ∧
      W.cell? ⟨w.heap.size, 0, none⟩ = some (.pointer (some ⟨d.x, 0, none⟩)) ∧ W.cell? ⟨w.heap.size + 1, 0, none⟩ = some (.int .i64 b) ∧ ∀ rest, chainI c ws b = pre ++ rest → V = sndL c ws s b p rest)
    (fun co _ W => co = .ret ∧ Grown w W ∧ Box W (w.heap.size + 1 + 1) [.bool false] ∧ V = false) ?hI ?hIx ⟨ps0, hS1, s0', s1', fun rest hr => by rw [← HV.out]; unfold sndB; rw [hr]; simp⟩ ?round ?done ?stop
  case hI =>
    rintro pre A C ⟨p, hp, a0, a1, hr⟩ q
    exact ⟨p, hp.kept q (fun i hi => by omega) (by omega) (fun i hi e => by unfold PsOwn at hi; omega), q.cell (by omega) a0, q.cell (by omega) a1, hr⟩
  case hIx =>
    rintro co pre A C ⟨hc, hg, hb, hv⟩ q
    exact ⟨hc, q.fresh hg (fun i hi => by omega), hb.kept q (by omega), hv⟩
  case done =>
    rintro W ⟨p, hp, -, -, hr⟩ hdd hWr
    have hv : V = true := by rw [hr [] (by simp)]; rfl
    have c9 := hp.res.cell 0 _ rfl
    have f9 := hp.res.free 0
    have HP := Lib.hid hp
    have HVT := Lib.hid hv
    clear hr hp hv
    dsimp only
    gi_wp2_with fail
    have hset : But (fun i => i = w.heap.size + 1 + 1) W (W.setCell ⟨w.heap.size + 1 + 1, 0, none⟩ (.bool true)) := But.setCell (S := fun i => i = w.heap.size + 1 + 1) (But.refl _ W) (a := ⟨w.heap.size + 1 + 1, 0, none⟩) (.inl rfl) _
    have c10 : (W.setCell ⟨w.heap.size + 1 + 1, 0, none⟩ (.bool true)).cell? ⟨w.heap.size + 1 + 1, 0, none⟩ = some (.bool true) := World.cell?_setCell_same _ _ _ c9
    refine leaves_marks [w1.heap.size] _ (by simp) (fun D hD => ?_) (fun W' q => ?_)
    · simp only [List.mem_singleton] at hD
      subst hD
      exact (hset.kept.same _ (Array.getElem?_eq_some_iff.1 hdd).1 (by omega)).trans hdd
    · have c11 := q.cell (by simp; omega) c10
      refine ⟨.bool true, by simp [results, Tryz.results55, go_sem, c11], by rw [HVT.out], ?_⟩
      exact q.fresh (But.fresh HP.out.g hset (fun i hi => by omega)) (fun i hi => by simp at hi; omega)
  case stop =>
    rintro co pre W - ⟨rfl, hg, hb, hv⟩ hdd hWr
    dsimp only
    gi_wp2_with fail
    have c10 := hb.cell 0 _ rfl
    refine leaves_marks [w1.heap.size] _ (by simp) (fun D hD => ?_) (fun W' q => ?_)
    · simp only [List.mem_singleton] at hD
      subst hD
      exact hdd
    · have c11 := q.cell (by simp; omega) c10
      refine ⟨.bool false, by simp [results, Tryz.results55, go_sem, c11], by rw [hv], ?_⟩
      exact q.fresh hg (fun i hi => by simp at hi; omega)
  case round =>
    rintro pre x post A W hx ⟨p, hA, a0, a1, hr⟩ gA hlA
    have HX := Lib.hid hx
    have HRr := Lib.hid hr
    clear hx hr
    dsimp only
    simp only [List.zip_toArray, List.zip_cons_cons, List.zip_nil_right, List.size_toArray, List.length_cons, List.length_nil, List.foldl_toArray', List.foldl_cons, List.foldl_nil, List.setIfInBounds_toArray, List.set_cons_succ, List.set_cons_zero]
    gi_wp2_with (first | (refine store_boxIn rfl 102 _ _ rfl W.heap.size _ (Box.made W [.int .i64 0, .int .u64 0, .int .i64 0, .int .i64 0, .int .u64 0, .int .u64 0, .int .i64 0, .int .u64 0] 102) (nodeL c ws s x).toArray rfl rfl rfl (by kernel_rfl) rfl ?_; intro W1 B1 q1) | fail)
    have gW : Grown W W1 := But.fresh (by go_grown) q1 (fun i hi => by subst hi; exact Nat.le_refl _)
    refine ⟨gW, fun W₂ q => ?_⟩
    have hAW := gA.2.2
    have hA2 := ((hA.grown gA).grown gW).kept q (fun i hi => by omega) (by omega) (fun i hi e => by unfold PsOwn at hi; omega)
    have a0' := q.cell (by omega) (gcell (gtr gA gW) a0)
    have a1' := q.cell (by omega) (gcell (gtr gA gW) a1)
    have B2 := B1.kept q (by omega)
    have hstep : V = if fitV c b p (ndOf c ws s x) = true then sndL c ws s b (passV p (ndOf c ws s x)) post else false := HRr.out (x :: post) HX.out
    have hnx := hws (nxtI c x)
    have hnn : (ndOf c ws s x).next = rd ws (nxtI c x) := rfl
    rw [← hnn] at hnx
    have hpost : ∀ rest, chainI c ws b = (pre ++ [x]) ++ rest → rest = post := fun rest h => by
      rw [HX.out] at h; simpa using h.symm
    rw [← ndOf_l] at B2
    simp only [← ndOf_l]
    have HPost := Lib.hid hpost
    have HSt := Lib.hid hstep
    clear hpost hstep
    gi_wp2_with fail
    generalize ndOf c ws s x = y at *
    obtain ⟨num, next, op, ⟨kd, ky, vl, lm⟩, wd⟩ := y
    unfold Nd.l at B2
    simp only at B2 hnx HSt
    clear hnn
    have HNx := Lib.hid hnx
    have HB2 := Lib.hid B2
    have HA2 := Lib.hid hA2
    have HG2 := Lib.hid hA2.g
    have hW2 : W.heap.size < W₂.heap.size := B2.lt
    clear hnx B2 hA2
    refine wpIn_region_planR (.one [0] 1 (.one [2, 3, 4, 5, 6, 7, 8, 9, 10, 11, 13] 12 (.one [14, 15, 16, 17] 18 (.fin [19, 20])))) (by kernel_rfl) (by kernel_rfl) (by kernel_rfl) (by kernel_rfl) ?_
    intro w5 g5
    have e0 : ∀ g : GrW w5, g.w.cell? ⟨W.heap.size, 0, none⟩ = some (.int .i64 num) := GrW.cell ((HB2.out.grown g5).cell 0 _ rfl)
    have e1 : ∀ g : GrW w5, g.w.cell? ⟨W.heap.size, 1, none⟩ = some (.int .u64 next) := GrW.cell ((HB2.out.grown g5).cell 1 _ rfl)
    have e2 : ∀ g : GrW w5, g.w.cell? ⟨W.heap.size, 2, none⟩ = some (.int .i64 op) := GrW.cell ((HB2.out.grown g5).cell 2 _ rfl)
    have e3 : ∀ g : GrW w5, g.w.cell? ⟨W.heap.size, 3, none⟩ = some (.int .i64 kd) := GrW.cell ((HB2.out.grown g5).cell 3 _ rfl)
    have e4 : ∀ g : GrW w5, g.w.cell? ⟨W.heap.size, 4, none⟩ = some (.int .u64 ky) := GrW.cell ((HB2.out.grown g5).cell 4 _ rfl)
    have e5 : ∀ g : GrW w5, g.w.cell? ⟨W.heap.size, 5, none⟩ = some (.int .u64 vl) := GrW.cell ((HB2.out.grown g5).cell 5 _ rfl)
    have e6 : ∀ g : GrW w5, g.w.cell? ⟨W.heap.size, 6, none⟩ = some (.int .i64 lm) := GrW.cell ((HB2.out.grown g5).cell 6 _ rfl)
    have e7 : ∀ g : GrW w5, g.w.cell? ⟨W.heap.size, 7, none⟩ = some (.int .u64 wd) := GrW.cell ((HB2.out.grown g5).cell 7 _ rfl)
    have r0 : ∀ g : GrW w5, g.w.cell? ⟨w.heap.size, 0, none⟩ = some (.pointer (some ⟨d.x, 0, none⟩)) := GrW.cell (gcell g5 a0')
    have r1 : ∀ g : GrW w5, g.w.cell? ⟨w.heap.size + 1, 0, none⟩ = some (.int .i64 b) := GrW.cell (gcell g5 a1')
    have rk : ∀ g : GrW w5, g.w.cell? ⟨d.x, 1, none⟩ = some (.int .i64 c.b) := GrW.cell (gcell (gtr HG2.out g5) k1)
    refine plan_one ?_
    simp only [nths, nth, List.map_cons, List.map_nil, List.getD_cons_zero, List.getD_cons_succ]
    repeat go_big_quiet_step (fail)
    refine wpQuiet_nil ?_
    go_wp2_with fail
    by_cases hk : kd = 1
    · have HK := Lib.hid (decide_eq_true hk)
      clear hk
      refine (isInsert_at num next op kd ky vl lm wd true HK.out _).mono ?_; rintro e u6 ⟨rfl, g6⟩
      go_wp2_with fail
      refine nxt_stay g6 (plan_one ?_)
      simp only [nths, nth, List.map_cons, List.map_nil, List.getD_cons_zero, List.getD_cons_succ]
      repeat go_big_quiet_step (fail)
      refine wpQuiet_nil ?_
      by_cases hb : zBucket ky c.b = b
      · have hbq : (zBucket ky c.b != b) = false := by simpa using hb
        have HBq := Lib.hid (decide_eq_true hb)
        clear hb
        go_wp2_with fail
        refine (Bucket_any ky c.b _).mono ?_; rintro e u7 ⟨rfl, g7⟩
        go_wp2_with fail
        refine nxt_stay (gtr g6 g7) (plan_one ?_)
        simp only [nths, nth, List.map_cons, List.map_nil, List.getD_cons_zero, List.getD_cons_succ]
        repeat go_big_quiet_step (fail)
        refine wpQuiet_nil ?_
        obtain ⟨V8, hV8⟩ : ∃ v, bearsV p ⟨num, next, op, ⟨kd, ky, vl, lm⟩, wd⟩ = v := ⟨_, rfl⟩
        have HV8 := Lib.hid hV8
        clear hV8
        cases V8
        · go_wp2_with fail
          refine (bears_at _ _ _ _ _ p ((HA2.out.grown (gtr g5 (gtr g6 g7))).ps) ⟨num, next, op, ⟨kd, ky, vl, lm⟩, wd⟩ HNx.out.1 HNx.out.2).mono ?_; rintro e u8 ⟨rfl, g8⟩
          rw [HV8.out]
          go_wp2_with fail
          refine nxt_stay (gtr g6 (gtr g7 g8)) (plan_fin ?_)
          simp only [nths, nth, List.map_cons, List.map_nil, List.getD_cons_zero, List.getD_cons_succ]
          repeat go_big_quiet_step (fail)
          refine wpQuiet_nil ?_
          clear e0 e1 e2 e3 e4 e5 e6 e7 r0 r1 rk
          have G := gtr g5 (gtr g6 (gtr g7 g8))
          have hres := (HA2.out.grown G).res
          have c4 := hres.cell 0 _ rfl
          have f4 := hres.free 0
          gi_wp2_with fail
          have hB4 := hres.set (j := 0) (by simp) (.bool false)
          have qS : But (fun i => i = w.heap.size + 1 + 1) W₂ (u8.setCell ⟨w.heap.size + 1 + 1, 0, none⟩ (.bool false)) := But.setCell (S := fun i => i = w.heap.size + 1 + 1) (But.of_grown G) (a := ⟨w.heap.size + 1 + 1, 0, none⟩) (.inl rfl) _
          refine ⟨qS.kept.mono (fun i hi => ?_), rfl, But.fresh HG2.out qS (fun i hi => by subst hi; omega), hB4, ?_⟩
          · subst hi; exact ⟨⟨by omega, by omega, by omega⟩, by omega, by omega, by omega⟩
          · rw [HSt.out]
            exact if_neg (by unfold fitV; simp only [HK.out, HBq.out, HV8.out, Bool.and_false]; decide)
        · go_wp2_with fail
          refine (bears_at _ _ _ _ _ p ((HA2.out.grown (gtr g5 (gtr g6 g7))).ps) ⟨num, next, op, ⟨kd, ky, vl, lm⟩, wd⟩ HNx.out.1 HNx.out.2).mono ?_; rintro e u8 ⟨rfl, g8⟩
          rw [HV8.out]
          go_wp2_with fail
          refine nxt_stay (gtr g6 (gtr g7 g8)) (plan_fin ?_)
          simp only [nths, nth, List.map_cons, List.map_nil, List.getD_cons_zero, List.getD_cons_succ]
          repeat go_big_quiet_step (fail)
          refine wpQuiet_nil ?_
          clear e0 e1 e2 e3 e4 e5 e6 e7 r0 r1 rk
          have G := gtr g5 (gtr g6 (gtr g7 g8))
          have hA8 := HA2.out.grown G
          have B8 := HB2.out.grown G
          gi_wp2_with (first | (refine load_boxIn rfl 102 _ rfl W.heap.size rfl _ _ Tryz.underlying102 rfl (by kernel_rfl) B8 ?_) | fail)
          refine ⟨trivial, ?_⟩
          refine (CallsIn.inRound _ (callsIn_wide.2 (pass_at u8 _ _ _ _ p hA8.ps ⟨num, next, op, ⟨kd, ky, vl, lm⟩, wd⟩))).mono ?_
          rintro e u9 ⟨rfl, hp9, q9⟩
          gi_wp2_with fail
          have q29 := (But.of_grown (S := PsOwn (w.heap.size + 1 + 1 + 1 + 1 + 1 + 1) (w.heap.size + 1 + 1 + 1) (w.heap.size + 1 + 1 + 1 + 1) (w.heap.size + 1 + 1 + 1 + 1 + 1)) G).trans q9
          have hown : ∀ i, PsOwn (w.heap.size + 1 + 1 + 1 + 1 + 1 + 1) (w.heap.size + 1 + 1 + 1) (w.heap.size + 1 + 1 + 1 + 1) (w.heap.size + 1 + 1 + 1 + 1 + 1) i → w.heap.size + 1 + 1 < i ∧ i < w.heap.size + 1 + 1 + 1 + 1 + 1 + 1 + 1 := fun i hi => by unfold PsOwn at hi; omega
          refine ⟨q29.kept.mono (fun i hi => ?_), passV p ⟨num, next, op, ⟨kd, ky, vl, lm⟩, wd⟩, ⟨?_, ?_, hp9⟩, ?_, ?_, fun rest hrest => ?_⟩
          · have := hown i hi; exact ⟨⟨by omega, by omega, by omega⟩, by omega, by omega, by omega⟩
          · exact But.fresh HG2.out q29 (fun i hi => by have := hown i hi; omega)
          · exact HA2.out.res.but q29 (fun hi => by have := hown _ hi; omega)
          · exact q29.cell (fun hi => by have := hown _ hi; omega) a0'
          · exact q29.cell (fun hi => by have := hown _ hi; omega) a1'
          · rw [HPost.out rest hrest, HSt.out]
            exact if_pos (by unfold fitV; simp only [HK.out, HBq.out, HV8.out, Bool.and_self])
      · have hbq : (zBucket ky c.b != b) = true := by simpa using hb
        have HBq := Lib.hid (decide_eq_false hb)
        clear hb
        go_wp2_with fail
        refine (Bucket_any ky c.b _).mono ?_; rintro e u7 ⟨rfl, g7⟩
        go_wp2_with fail
        refine nxt_stay (gtr g6 g7) (plan_one ?_)
        simp only [nths, nth, List.map_cons, List.map_nil, List.getD_cons_zero, List.getD_cons_succ]
        repeat go_big_quiet_step (fail)
        refine wpQuiet_nil ?_
        go_wp2_with fail
        refine nxt_stay (gtr g6 g7) (plan_fin ?_)
        simp only [nths, nth, List.map_cons, List.map_nil, List.getD_cons_zero, List.getD_cons_succ]
        repeat go_big_quiet_step (fail)
        refine wpQuiet_nil ?_
        clear e0 e1 e2 e3 e4 e5 e6 e7 r0 r1 rk
        have G := gtr g5 (gtr g6 g7)
        have hres := (HA2.out.grown G).res
        have c4 := hres.cell 0 _ rfl
        have f4 := hres.free 0
        gi_wp2_with fail
        have hB4 := hres.set (j := 0) (by simp) (.bool false)
        have qS : But (fun i => i = w.heap.size + 1 + 1) W₂ (u7.setCell ⟨w.heap.size + 1 + 1, 0, none⟩ (.bool false)) := But.setCell (S := fun i => i = w.heap.size + 1 + 1) (But.of_grown G) (a := ⟨w.heap.size + 1 + 1, 0, none⟩) (.inl rfl) _
        refine ⟨qS.kept.mono (fun i hi => ?_), rfl, But.fresh HG2.out qS (fun i hi => by subst hi; omega), hB4, ?_⟩
        · subst hi; exact ⟨⟨by omega, by omega, by omega⟩, by omega, by omega, by omega⟩
        · rw [HSt.out]
          exact if_neg (by unfold fitV; simp only [HK.out, HBq.out, Bool.and_false, Bool.false_and]; decide)
    · have HK := Lib.hid (decide_eq_false hk)
      have HKn := Lib.hid hk
      clear hk
      refine (isInsert_at num next op kd ky vl lm wd false HK.out _).mono ?_; rintro e u6 ⟨rfl, g6⟩
      go_wp2_with fail
      refine nxt_stay g6 (plan_one ?_)
      simp only [nths, nth, List.map_cons, List.map_nil, List.getD_cons_zero, List.getD_cons_succ]
      repeat go_big_quiet_step (fail)
      refine wpQuiet_nil ?_
      go_wp2_with fail
      refine nxt_stay g6 (plan_one ?_)
      simp only [nths, nth, List.map_cons, List.map_nil, List.getD_cons_zero, List.getD_cons_succ]
      repeat go_big_quiet_step (fail)
      refine wpQuiet_nil ?_
      go_wp2_with fail
      refine nxt_stay g6 (plan_fin ?_)
      simp only [nths, nth, List.map_cons, List.map_nil, List.getD_cons_zero, List.getD_cons_succ]
      repeat go_big_quiet_step (fail)
      refine wpQuiet_nil ?_
      clear e0 e1 e2 e3 e4 e5 e6 e7 r0 r1 rk
      have G := gtr g5 g6
      have hres := (HA2.out.grown G).res
      have c4 := hres.cell 0 _ rfl
      have f4 := hres.free 0
      gi_wp2_with fail
      have hB4 := hres.set (j := 0) (by simp) (.bool false)
      have qS : But (fun i => i = w.heap.size + 1 + 1) W₂ (u6.setCell ⟨w.heap.size + 1 + 1, 0, none⟩ (.bool false)) := But.setCell (S := fun i => i = w.heap.size + 1 + 1) (But.of_grown G) (a := ⟨w.heap.size + 1 + 1, 0, none⟩) (.inl rfl) _
      refine ⟨qS.kept.mono (fun i hi => ?_), rfl, But.fresh HG2.out qS (fun i hi => by subst hi; omega), hB4, ?_⟩
      · subst hi; exact ⟨⟨by omega, by omega, by omega⟩, by omega, by omega, by omega⟩
      · rw [HSt.out]
        exact if_neg (by unfold fitV; simp only [HK.out, Bool.false_and]; decide)
end Go.Proofs.YtagapfejgmmppaaGreat
