/- Package look: what one came by in a bucket: bears, pass. -/
import Derived.Test.YtagapfejgmmppaaGreatChain
namespace Go.Proofs.YtagapfejgmmppaaGreat
open Go.ChangeShapes Go.WideShapes Go.ChangeAt Go.RowKit
set_option maxRecDepth 100000
set_option linter.unusedVariables false

/-- What one came by: the last key; nodes, operations, and keys that are open. -/
structure Ps where
  key : Int
  nodes : List Int
  ops : List Int
  opens : List Int
/-- A node, as it is looked up. -/
structure Nd where
  num : Int
  next : Int
  op : Int
  cal : Cal
  word : Int
def Nd.l (x : Nd) : List Value := [.int .i64 x.num, .int .u64 x.next, .int .i64 x.op, .int .i64 x.cal.kind, .int .u64 x.cal.key, .int .u64 x.cal.val, .int .i64 x.cal.lim, .int .u64 x.word]
def ndOf (c : Cf) (ws : List Int) (s : St) (i : Int) : Nd := ⟨i, refOf c ws i, opAt s i, calAt s (opAt s i), wrdOf c ws (opAt s i)⟩
theorem ndOf_l (c : Cf) (ws : List Int) (s : St) (i : Int) : (ndOf c ws s i).l = nodeL c ws s i := rfl
def bearsV (p : Ps) (x : Nd) : Bool :=
  if x.num ∈ p.nodes ∨ x.cal.key < p.key then false
  else if x.op ∈ p.ops ∨ 2 ≤ x.word then true
  else !(x.next % 2 == 1) && !(decide (x.word = 1) && decide (x.cal.key ∈ p.opens))
def passV (p : Ps) (x : Nd) : Ps := ⟨x.cal.key, addK p.nodes x.num, addK p.ops x.op, if 2 ≤ x.word then p.opens else addK p.opens x.cal.key⟩

/-- Where it lies. -/
structure PassAt (w : World) (b m1 m2 m3 : Nat) (p : Ps) : Prop where
  box : Box w b [.int .u64 p.key, .map (some m1), .map (some m2), .map (some m3)]
  f1 : FlagAt w m1 .i64 p.nodes
  f2 : FlagAt w m2 .i64 p.ops
  f3 : FlagAt w m3 .u64 p.opens
  d12 : m1 ≠ m2
  d13 : m1 ≠ m3
  d23 : m2 ≠ m3
theorem PassAt.b1 {w : World} {b m1 m2 m3 : Nat} {p : Ps} (h : PassAt w b m1 m2 m3 p) : b ≠ m1 ∧ b ≠ m2 ∧ b ≠ m3 :=
  ⟨h.f1.ne (h.box.cell 0 _ rfl), h.f2.ne (h.box.cell 0 _ rfl), h.f3.ne (h.box.cell 0 _ rfl)⟩
theorem PassAt.kept {U : Nat → Prop} {w w' : World} {b m1 m2 m3 : Nat} {p : Ps} (h : PassAt w b m1 m2 m3 p) (q : Kept U w w') (h0 : ¬ U b) (h1 : ¬ U m1) (h2 : ¬ U m2) (h3 : ¬ U m3) : PassAt w' b m1 m2 m3 p :=
  ⟨h.box.kept q h0, h.f1.kept q h1, h.f2.kept q h2, h.f3.kept q h3, h.d12, h.d13, h.d23⟩
theorem PassAt.grown {w w' : World} {b m1 m2 m3 : Nat} {p : Ps} (h : PassAt w b m1 m2 m3 p) (q : Grown w w') : PassAt w' b m1 m2 m3 p :=
  h.kept (Kept.of_grown (U := fun _ => False) q) (fun f => f) (fun f => f) (fun f => f) (fun f => f)

theorem zFlag (w : World) : (zeroValue 4).run Tryz.prog w = .ok (.bool false) w := by kernel_rfl

set_option maxHeartbeats 4000000 in
theorem bears_at (w : World) (b m1 m2 m3 : Nat) (p : Ps) (h : PassAt w b m1 m2 m3 p) (x : Nd) (hn0 : 0 ≤ x.next) (hn1 : x.next ≤ 18446744073709551615) :
    Calls Tryz.prog 102 #[.pointer (some ⟨b, 0, none⟩), .agg x.l.toArray] w fun e w' => e = .returned (.bool (bearsV p x)) ∧ Grown w w' := by
  obtain ⟨num, next, op, ⟨kd, ky, vl, lm⟩, wd⟩ := x
  obtain ⟨key, nk, ok, pk⟩ := p
  simp only at hn0 hn1
  unfold Nd.l
  simp only
  obtain ⟨V, hV⟩ : ∃ V, bearsV ⟨key, nk, ok, pk⟩ ⟨num, next, op, ⟨kd, ky, vl, lm⟩, wd⟩ = V := ⟨_, rfl⟩
  rw [hV]
  have hV' : (if num ∈ nk ∨ ky < key then false else if op ∈ ok ∨ 2 ≤ wd then true else !(next % 2 == 1) && !(decide (wd = 1) && decide (ky ∈ pk))) = V := hV
  clear hV
  have gN : Grown w (w.alloc (.cells #[.int .i64 num, .int .u64 next, .int .i64 op, .int .i64 kd, .int .u64 ky, .int .u64 vl, .int .i64 lm, .int .u64 wd] 102)) := by go_grown
  have HF := Lib.hid (h.grown gN)
  have cq0 : (w.alloc (.cells #[.int .i64 num, .int .u64 next, .int .i64 op, .int .i64 kd, .int .u64 ky, .int .u64 vl, .int .i64 lm, .int .u64 wd] 102)).cell? ⟨w.heap.size, 0, none⟩ = some (.int .i64 num) := by simp [go_sem]
  have cq1 : (w.alloc (.cells #[.int .i64 num, .int .u64 next, .int .i64 op, .int .i64 kd, .int .u64 ky, .int .u64 vl, .int .i64 lm, .int .u64 wd] 102)).cell? ⟨w.heap.size, 1, none⟩ = some (.int .u64 next) := by simp [go_sem]
  have cq2 : (w.alloc (.cells #[.int .i64 num, .int .u64 next, .int .i64 op, .int .i64 kd, .int .u64 ky, .int .u64 vl, .int .i64 lm, .int .u64 wd] 102)).cell? ⟨w.heap.size, 2, none⟩ = some (.int .i64 op) := by simp [go_sem]
  have cq4 : (w.alloc (.cells #[.int .i64 num, .int .u64 next, .int .i64 op, .int .i64 kd, .int .u64 ky, .int .u64 vl, .int .i64 lm, .int .u64 wd] 102)).cell? ⟨w.heap.size, 4, none⟩ = some (.int .u64 ky) := by simp [go_sem]
  have cq7 : (w.alloc (.cells #[.int .i64 num, .int .u64 next, .int .i64 op, .int .i64 kd, .int .u64 ky, .int .u64 vl, .int .i64 lm, .int .u64 wd] 102)).cell? ⟨w.heap.size, 7, none⟩ = some (.int .u64 wd) := by simp [go_sem]
  have cp0 := HF.out.box.cell 0 _ rfl
  have cp1 := HF.out.box.cell 1 _ rfl
  have cp2 := HF.out.box.cell 2 _ rfl
  have cp3 := HF.out.box.cell 3 _ rfl
  clear h
  have HVV := Lib.hid hV'
  clear hV'
  go_enter Tryz.func102, Tryz.ntmps102
  go_wp2_with fail
  obtain ⟨w1, hw1⟩ : ∃ w1, w.alloc (.cells #[.int .i64 num, .int .u64 next, .int .i64 op, .int .i64 kd, .int .u64 ky, .int .u64 vl, .int .i64 lm, .int .u64 wd] 102) = w1 := ⟨_, rfl⟩
  rw [hw1] at HF gN cq0 cq1 cq2 cq4 cq7 cp0 cp1 cp2 cp3 ⊢
  clear hw1
  generalize w.heap.size = nb at cq0 cq1 cq2 cq4 cq7 ⊢
  have q0 : ∀ g : GrW w1, g.w.cell? ⟨nb, 0, none⟩ = some (.int .i64 num) := GrW.cell cq0
  have q1 : ∀ g : GrW w1, g.w.cell? ⟨nb, 1, none⟩ = some (.int .u64 next) := GrW.cell cq1
  have q2 : ∀ g : GrW w1, g.w.cell? ⟨nb, 2, none⟩ = some (.int .i64 op) := GrW.cell cq2
  have q4 : ∀ g : GrW w1, g.w.cell? ⟨nb, 4, none⟩ = some (.int .u64 ky) := GrW.cell cq4
  have q7 : ∀ g : GrW w1, g.w.cell? ⟨nb, 7, none⟩ = some (.int .u64 wd) := GrW.cell cq7
  have p0 : ∀ g : GrW w1, g.w.cell? ⟨b, 0, none⟩ = some (.int .u64 key) := GrW.cell cp0
  have p1 : ∀ g : GrW w1, g.w.cell? ⟨b, 1, none⟩ = some (.map (some m1)) := GrW.cell cp1
  have p2 : ∀ g : GrW w1, g.w.cell? ⟨b, 2, none⟩ = some (.map (some m2)) := GrW.cell cp2
  have p3 : ∀ g : GrW w1, g.w.cell? ⟨b, 3, none⟩ = some (.map (some m3)) := GrW.cell cp3
  clear cq0 cq1 cq2 cq4 cq7 cp0 cp1 cp2 cp3
  have GN := Lib.hid gN
  clear gN
  by_cases h1 : num ∈ nk
  · have Hl1 := Lib.hid h1
    have l1 : ∀ g : GrW w1, (Instr.lookup 114 (.map (some m1)) (.int .i64 num) false).run Tryz.prog g.w = .ok (.bool true) g.w := fun g => by rw [flag_look (HF.out.f1.grown (gtr (Grown.refl _) g.gr)) Tryz.underlying114 Tryz.underlying3 (zFlag _), decide_eq_true Hl1.out]
    refine wp_region_grow (by kernel_rfl) (by kernel_rfl) ?_
    repeat (go_big_quiet_step (fail))
    refine wpQuiet_nil ?_
    rintro w2 ⟨⟨_, g2⟩, rfl⟩
    go_wp2_with fail
    go_ret
    exact ⟨ret_bool (by rw [← HVV.out]; simp [Hl1.out]), gtr GN.out g2⟩
  · have Hl1 := Lib.hid h1
    have l1 : ∀ g : GrW w1, (Instr.lookup 114 (.map (some m1)) (.int .i64 num) false).run Tryz.prog g.w = .ok (.bool false) g.w := fun g => by rw [flag_look (HF.out.f1.grown (gtr (Grown.refl _) g.gr)) Tryz.underlying114 Tryz.underlying3 (zFlag _), decide_eq_false Hl1.out]
    by_cases h2 : ky < key
    · have HE := Lib.hid h2
      have e2 : decide (ky < key) = true := decide_eq_true h2
      refine wp_region_grow (by kernel_rfl) (by kernel_rfl) ?_
      repeat (go_big_quiet_step (fail))
      refine wpQuiet_nil ?_
      rintro w2 ⟨⟨_, g2⟩, rfl⟩
      go_wp2_with fail
      go_ret
      exact ⟨ret_bool (by rw [← HVV.out]; simp [Hl1.out, HE.out]), gtr GN.out g2⟩
    · have HE := Lib.hid h2
      have e2 : decide (ky < key) = false := decide_eq_false h2
      by_cases h3 : op ∈ ok
      · have Hl2 := Lib.hid h3
        refine wp_region_grow (by kernel_rfl) (by kernel_rfl) ?_
        repeat (go_big_quiet_step (fail))
        refine wpQuiet_nil ?_
        rintro w2 ⟨⟨_, g2⟩, rfl⟩
        clear l1
        replace q0 : ∀ g : GrW w2, g.w.cell? ⟨nb, 0, none⟩ = some (.int .i64 num) := GrW.cell (q0 ⟨w2, g2⟩)
        replace q1 : ∀ g : GrW w2, g.w.cell? ⟨nb, 1, none⟩ = some (.int .u64 next) := GrW.cell (q1 ⟨w2, g2⟩)
        replace q2 : ∀ g : GrW w2, g.w.cell? ⟨nb, 2, none⟩ = some (.int .i64 op) := GrW.cell (q2 ⟨w2, g2⟩)
        replace q4 : ∀ g : GrW w2, g.w.cell? ⟨nb, 4, none⟩ = some (.int .u64 ky) := GrW.cell (q4 ⟨w2, g2⟩)
        replace q7 : ∀ g : GrW w2, g.w.cell? ⟨nb, 7, none⟩ = some (.int .u64 wd) := GrW.cell (q7 ⟨w2, g2⟩)
        replace p0 : ∀ g : GrW w2, g.w.cell? ⟨b, 0, none⟩ = some (.int .u64 key) := GrW.cell (p0 ⟨w2, g2⟩)
        replace p1 : ∀ g : GrW w2, g.w.cell? ⟨b, 1, none⟩ = some (.map (some m1)) := GrW.cell (p1 ⟨w2, g2⟩)
        replace p2 : ∀ g : GrW w2, g.w.cell? ⟨b, 2, none⟩ = some (.map (some m2)) := GrW.cell (p2 ⟨w2, g2⟩)
        replace p3 : ∀ g : GrW w2, g.w.cell? ⟨b, 3, none⟩ = some (.map (some m3)) := GrW.cell (p3 ⟨w2, g2⟩)
        have HG := Lib.hid g2
        clear g2
        have l2 : ∀ g : GrW w2, (Instr.lookup 114 (.map (some m2)) (.int .i64 op) false).run Tryz.prog g.w = .ok (.bool true) g.w := fun g => by rw [flag_look (HF.out.f2.grown (gtr HG.out g.gr)) Tryz.underlying114 Tryz.underlying3 (zFlag _), decide_eq_true Hl2.out]
        go_wp2_with fail
        refine wp_region_grow (by kernel_rfl) (by kernel_rfl) ?_
        repeat (go_big_quiet_step (((go_at_call 138; exact grcall (Over_any _ _)))))
        refine wpQuiet_nil ?_
        rintro w3 ⟨⟨_, g3⟩, rfl⟩
        go_wp2_with fail
        go_ret
        exact ⟨ret_bool (by rw [← HVV.out]; simp [Hl1.out, HE.out, Hl2.out]), gtr GN.out (gtr HG.out g3)⟩
      · have Hl2 := Lib.hid h3
        refine wp_region_grow (by kernel_rfl) (by kernel_rfl) ?_
        repeat (go_big_quiet_step (fail))
        refine wpQuiet_nil ?_
        rintro w2 ⟨⟨_, g2⟩, rfl⟩
        clear l1
        replace q0 : ∀ g : GrW w2, g.w.cell? ⟨nb, 0, none⟩ = some (.int .i64 num) := GrW.cell (q0 ⟨w2, g2⟩)
        replace q1 : ∀ g : GrW w2, g.w.cell? ⟨nb, 1, none⟩ = some (.int .u64 next) := GrW.cell (q1 ⟨w2, g2⟩)
        replace q2 : ∀ g : GrW w2, g.w.cell? ⟨nb, 2, none⟩ = some (.int .i64 op) := GrW.cell (q2 ⟨w2, g2⟩)
        replace q4 : ∀ g : GrW w2, g.w.cell? ⟨nb, 4, none⟩ = some (.int .u64 ky) := GrW.cell (q4 ⟨w2, g2⟩)
        replace q7 : ∀ g : GrW w2, g.w.cell? ⟨nb, 7, none⟩ = some (.int .u64 wd) := GrW.cell (q7 ⟨w2, g2⟩)
        replace p0 : ∀ g : GrW w2, g.w.cell? ⟨b, 0, none⟩ = some (.int .u64 key) := GrW.cell (p0 ⟨w2, g2⟩)
        replace p1 : ∀ g : GrW w2, g.w.cell? ⟨b, 1, none⟩ = some (.map (some m1)) := GrW.cell (p1 ⟨w2, g2⟩)
        replace p2 : ∀ g : GrW w2, g.w.cell? ⟨b, 2, none⟩ = some (.map (some m2)) := GrW.cell (p2 ⟨w2, g2⟩)
        replace p3 : ∀ g : GrW w2, g.w.cell? ⟨b, 3, none⟩ = some (.map (some m3)) := GrW.cell (p3 ⟨w2, g2⟩)
        have HG := Lib.hid g2
        clear g2
        have l2 : ∀ g : GrW w2, (Instr.lookup 114 (.map (some m2)) (.int .i64 op) false).run Tryz.prog g.w = .ok (.bool false) g.w := fun g => by rw [flag_look (HF.out.f2.grown (gtr HG.out g.gr)) Tryz.underlying114 Tryz.underlying3 (zFlag _), decide_eq_false Hl2.out]
        go_wp2_with fail
        by_cases h4 : 2 ≤ wd
        · have HE4 := Lib.hid h4
          have e4 : decide (2 ≤ wd) = true := decide_eq_true h4
          refine wp_region_grow (by kernel_rfl) (by kernel_rfl) ?_
          repeat (go_big_quiet_step (((go_at_call 138; exact grcall (Over_any _ _)))))
          refine wpQuiet_nil ?_
          rintro w3 ⟨⟨_, g3⟩, rfl⟩
          go_wp2_with fail
          go_ret
          exact ⟨ret_bool (by rw [← HVV.out]; simp [Hl1.out, HE.out, Hl2.out, HE4.out]), gtr GN.out (gtr HG.out g3)⟩
        · have HE4 := Lib.hid h4
          have e4 : decide (2 ≤ wd) = false := decide_eq_false h4
          by_cases h5 : next % 2 = 1
          · have HE5 := Lib.hid h5
            have e5 : (next % 2 == 1) = true := by simpa using h5
            refine wp_region_grow (by kernel_rfl) (by kernel_rfl) ?_
            repeat (go_big_quiet_step (((go_at_call 138; exact grcall (Over_any _ _)))))
            refine wpQuiet_nil ?_
            rintro w3 ⟨⟨_, g3⟩, rfl⟩
            clear l2 e4
            replace q0 : ∀ g : GrW w3, g.w.cell? ⟨nb, 0, none⟩ = some (.int .i64 num) := GrW.cell (q0 ⟨w3, g3⟩)
            replace q1 : ∀ g : GrW w3, g.w.cell? ⟨nb, 1, none⟩ = some (.int .u64 next) := GrW.cell (q1 ⟨w3, g3⟩)
            replace q2 : ∀ g : GrW w3, g.w.cell? ⟨nb, 2, none⟩ = some (.int .i64 op) := GrW.cell (q2 ⟨w3, g3⟩)
            replace q4 : ∀ g : GrW w3, g.w.cell? ⟨nb, 4, none⟩ = some (.int .u64 ky) := GrW.cell (q4 ⟨w3, g3⟩)
            replace q7 : ∀ g : GrW w3, g.w.cell? ⟨nb, 7, none⟩ = some (.int .u64 wd) := GrW.cell (q7 ⟨w3, g3⟩)
            replace p0 : ∀ g : GrW w3, g.w.cell? ⟨b, 0, none⟩ = some (.int .u64 key) := GrW.cell (p0 ⟨w3, g3⟩)
            replace p1 : ∀ g : GrW w3, g.w.cell? ⟨b, 1, none⟩ = some (.map (some m1)) := GrW.cell (p1 ⟨w3, g3⟩)
            replace p2 : ∀ g : GrW w3, g.w.cell? ⟨b, 2, none⟩ = some (.map (some m2)) := GrW.cell (p2 ⟨w3, g3⟩)
            replace p3 : ∀ g : GrW w3, g.w.cell? ⟨b, 3, none⟩ = some (.map (some m3)) := GrW.cell (p3 ⟨w3, g3⟩)
            replace HG := Lib.hid (gtr HG.out g3)
            clear g3
            go_wp2_with fail
            refine wp_region_grow (by kernel_rfl) (by kernel_rfl) ?_
            repeat (go_big_quiet_step (((go_at_call 139; exact grcall (Marked_any _ _ hn0 hn1)))))
            refine wpQuiet_nil ?_
            rintro w4 ⟨⟨_, g4⟩, rfl⟩
            go_wp2_with fail
            go_ret
            exact ⟨ret_bool (by rw [← HVV.out]; simp [Hl1.out, HE.out, Hl2.out, HE4.out, HE5.out]), gtr GN.out (gtr HG.out g4)⟩
          · have HE5 := Lib.hid h5
            have e5 : (next % 2 == 1) = false := by simpa using h5
            refine wp_region_grow (by kernel_rfl) (by kernel_rfl) ?_
            repeat (go_big_quiet_step (((go_at_call 138; exact grcall (Over_any _ _)))))
            refine wpQuiet_nil ?_
            rintro w3 ⟨⟨_, g3⟩, rfl⟩
            clear l2 e4
            replace q0 : ∀ g : GrW w3, g.w.cell? ⟨nb, 0, none⟩ = some (.int .i64 num) := GrW.cell (q0 ⟨w3, g3⟩)
            replace q1 : ∀ g : GrW w3, g.w.cell? ⟨nb, 1, none⟩ = some (.int .u64 next) := GrW.cell (q1 ⟨w3, g3⟩)
            replace q2 : ∀ g : GrW w3, g.w.cell? ⟨nb, 2, none⟩ = some (.int .i64 op) := GrW.cell (q2 ⟨w3, g3⟩)
            replace q4 : ∀ g : GrW w3, g.w.cell? ⟨nb, 4, none⟩ = some (.int .u64 ky) := GrW.cell (q4 ⟨w3, g3⟩)
            replace q7 : ∀ g : GrW w3, g.w.cell? ⟨nb, 7, none⟩ = some (.int .u64 wd) := GrW.cell (q7 ⟨w3, g3⟩)
            replace p0 : ∀ g : GrW w3, g.w.cell? ⟨b, 0, none⟩ = some (.int .u64 key) := GrW.cell (p0 ⟨w3, g3⟩)
            replace p1 : ∀ g : GrW w3, g.w.cell? ⟨b, 1, none⟩ = some (.map (some m1)) := GrW.cell (p1 ⟨w3, g3⟩)
            replace p2 : ∀ g : GrW w3, g.w.cell? ⟨b, 2, none⟩ = some (.map (some m2)) := GrW.cell (p2 ⟨w3, g3⟩)
            replace p3 : ∀ g : GrW w3, g.w.cell? ⟨b, 3, none⟩ = some (.map (some m3)) := GrW.cell (p3 ⟨w3, g3⟩)
            replace HG := Lib.hid (gtr HG.out g3)
            clear g3
            by_cases h6 : wd = 1
            · have HE6 := Lib.hid h6
              have e6 : (wd == 1) = true := by simpa using h6
              by_cases h7 : ky ∈ pk
              · have Hl3 := Lib.hid h7
                have l3 : ∀ g : GrW w3, (Instr.lookup 177 (.map (some m3)) (.int .u64 ky) false).run Tryz.prog g.w = .ok (.bool true) g.w := fun g => by rw [flag_look (HF.out.f3.grown (gtr HG.out g.gr)) Tryz.underlying177 Tryz.underlying46 (zFlag _), decide_eq_true Hl3.out]
                go_wp2_with fail
                refine wp_region_grow (by kernel_rfl) (by kernel_rfl) ?_
                repeat (go_big_quiet_step (((go_at_call 139; exact grcall (Marked_any _ _ hn0 hn1)))))
                refine wpQuiet_nil ?_
                rintro w4 ⟨⟨_, g4⟩, rfl⟩
                go_wp2_with fail
                go_ret
                exact ⟨ret_bool (by rw [← HVV.out]; simp [Hl1.out, Hl2.out, HE6.out, Hl3.out]), gtr GN.out (gtr HG.out g4)⟩
              · have Hl3 := Lib.hid h7
                have l3 : ∀ g : GrW w3, (Instr.lookup 177 (.map (some m3)) (.int .u64 ky) false).run Tryz.prog g.w = .ok (.bool false) g.w := fun g => by rw [flag_look (HF.out.f3.grown (gtr HG.out g.gr)) Tryz.underlying177 Tryz.underlying46 (zFlag _), decide_eq_false Hl3.out]
                go_wp2_with fail
                refine wp_region_grow (by kernel_rfl) (by kernel_rfl) ?_
                repeat (go_big_quiet_step (((go_at_call 139; exact grcall (Marked_any _ _ hn0 hn1)))))
                refine wpQuiet_nil ?_
                rintro w4 ⟨⟨_, g4⟩, rfl⟩
                go_wp2_with fail
                go_ret
                exact ⟨ret_bool (by rw [← HVV.out]; simp [Hl1.out, HE.out, Hl2.out, HE5.out, HE6.out, Hl3.out]), gtr GN.out (gtr HG.out g4)⟩
            · have HE6 := Lib.hid h6
              have e6 : (wd == 1) = false := by simpa using h6
              go_wp2_with fail
              refine wp_region_grow (by kernel_rfl) (by kernel_rfl) ?_
              repeat (go_big_quiet_step (((go_at_call 139; exact grcall (Marked_any _ _ hn0 hn1)))))
              refine wpQuiet_nil ?_
              rintro w4 ⟨⟨_, g4⟩, rfl⟩
              go_wp2_with fail
              go_ret
              exact ⟨ret_bool (by rw [← HVV.out]; simp [Hl1.out, HE.out, Hl2.out, HE5.out, HE6.out]), gtr GN.out (gtr HG.out g4)⟩

/-- Its blocks. -/
def PsOwn (b m1 m2 m3 : Nat) : Nat → Prop := fun i => i = b ∨ i = m1 ∨ i = m2 ∨ i = m3

set_option maxHeartbeats 4000000 in
theorem pass_at (w : World) (b m1 m2 m3 : Nat) (p : Ps) (h : PassAt w b m1 m2 m3 p) (x : Nd) :
    Calls Tryz.prog 103 #[.pointer (some ⟨b, 0, none⟩), .agg x.l.toArray] w fun e w' => e = .returned (.tuple #[]) ∧ PassAt w' b m1 m2 m3 (passV p x) ∧ But (PsOwn b m1 m2 m3) w w' := by
  obtain ⟨num, next, op, ⟨kd, ky, vl, lm⟩, wd⟩ := x
  obtain ⟨key, nk, ok, pk⟩ := p
  unfold Nd.l
  simp only
  have gN : Grown w (w.alloc (.cells #[.int .i64 num, .int .u64 next, .int .i64 op, .int .i64 kd, .int .u64 ky, .int .u64 vl, .int .i64 lm, .int .u64 wd] 102)) := by go_grown
  have hb := h.b1
  have hlt := h.box.lt
  have l1 := h.f1.lt
  have l2 := h.f2.lt
  have l3 := h.f3.lt
  have h' := h.grown gN
  have BN := Box.made w [.int .i64 num, .int .u64 next, .int .i64 op, .int .i64 kd, .int .u64 ky, .int .u64 vl, .int .i64 lm, .int .u64 wd] 102
  have cp0 := h'.box.cell 0 _ rfl
  have fp0 := h'.box.free 0
  have gA : Grown (w.setCell ⟨b, 0, none⟩ (.int .u64 ky)) ((w.setCell ⟨b, 0, none⟩ (.int .u64 ky)).alloc (.cells #[.int .i64 num, .int .u64 next, .int .i64 op, .int .i64 kd, .int .u64 ky, .int .u64 vl, .int .i64 lm, .int .u64 wd] 102)) := by go_grown
  have qA : But (fun i => i = b) w (w.setCell ⟨b, 0, none⟩ (.int .u64 ky)) := But.setCell (S := fun i => i = b) (But.refl _ w) (a := ⟨b, 0, none⟩) (.inl rfl) _
  have HB := Lib.hid ((h.box.set (j := 0) (by simp) (.int .u64 ky)).grown gA)
  have HF1 := Lib.hid ((h.f1.but qA (by omega)).grown gA)
  have HF2 := Lib.hid ((h.f2.but qA (by omega)).grown gA)
  have HF3 := Lib.hid ((h.f3.but qA (by omega)).grown gA)
  have hzA : (w.setCell ⟨b, 0, none⟩ (.int .u64 ky)).heap.size = w.heap.size := by simp
  have BN := Box.made (w.setCell ⟨b, 0, none⟩ (.int .u64 ky)) [.int .i64 num, .int .u64 next, .int .i64 op, .int .i64 kd, .int .u64 ky, .int .u64 vl, .int .i64 lm, .int .u64 wd] 102
  rw [hzA] at BN
  have HN := Lib.hid BN
  have QQ := Lib.hid ((qA.mono (T := PsOwn b m1 m2 m3) (fun i hi => .inl hi)).trans (But.of_grown gA))
  have d12 := h.d12
  have d13 := h.d13
  have d23 := h.d23
  clear h h' BN hzA qA gA
  go_enter Tryz.func103, Tryz.ntmps103
  go_wp2_with fail
  clear cp0 fp0
  generalize hnb : w.heap.size = nb at *
  have HNB := Lib.hid hnb
  clear hnb
  generalize ((w.setCell ⟨b, 0, none⟩ (.int .u64 ky)).alloc (.cells #[.int .i64 num, .int .u64 next, .int .i64 op, .int .i64 kd, .int .u64 ky, .int .u64 vl, .int .i64 lm, .int .u64 wd] 102)) = w1 at *
  refine wp_region_planb (fun q => q = m1) (.one [0, 1, 2, 3, 4, 5] 6 (.fin [])) (by kernel_rfl) (by kernel_rfl) (by kernel_rfl) ?_
  intro v2 g2
  have d0 : ∀ q : ButW (fun q => q = m1) v2, q.w.cell? ⟨b, 1, none⟩ = some (.map (some m1)) := ButW.cell (by omega) ((HB.out.grown g2).cell 1 _ rfl)
  have d1 : ∀ q : ButW (fun q => q = m1) v2, q.w.cell? ⟨nb, 0, none⟩ = some (.int .i64 num) := ButW.cell (by omega) ((HN.out.grown g2).cell 0 _ rfl)
  refine plan_one ?_
  simp only [nths, nth, List.map_cons, List.map_nil, List.getD_cons_zero, List.getD_cons_succ]
  repeat go_big_quiet_step (fail)
  clear d0 d1
  refine wpQuiet_nil ?_
  refine wpList_flag rfl _ _ _ 114 rfl _ _ Tryz.underlying114 .i64 Tryz.underlying3 m1 nk num (HF1.out.grown g2) rfl rfl rfl ?_
  intro y2 fl2 q2 z2
  have Z2 := Lib.hid z2
  clear z2
  go_wp2_with fail
  refine nxt_but q2 (plan_fin ?_)
  simp only [nths, List.map_nil]
  refine wpQuiet_nil ?_
  go_wp2_with fail
  have Q2 : But (PsOwn b m1 m2 m3) w y2 := (QQ.out.trans (But.of_grown g2)).trans (q2.mono (fun i hi => .inr (.inl hi)))
  replace QQ := Lib.hid Q2
  replace HB := Lib.hid ((HB.out.grown g2).but q2 (by omega))
  replace HN := Lib.hid ((HN.out.grown g2).but q2 (by omega))
  replace HF1 := Lib.hid fl2
  replace HF2 := Lib.hid ((HF2.out.grown g2).but q2 (by omega))
  replace HF3 := Lib.hid ((HF3.out.grown g2).but q2 (by omega))
  clear g2 q2 fl2 Q2
  refine wp_region_planb (fun q => q = m2) (.one [0, 1, 2, 3, 4, 5] 6 (.fin [])) (by kernel_rfl) (by kernel_rfl) (by kernel_rfl) ?_
  intro v3 g3
  have d0 : ∀ q : ButW (fun q => q = m2) v3, q.w.cell? ⟨b, 2, none⟩ = some (.map (some m2)) := ButW.cell (by omega) ((HB.out.grown g3).cell 2 _ rfl)
  have d1 : ∀ q : ButW (fun q => q = m2) v3, q.w.cell? ⟨nb, 2, none⟩ = some (.int .i64 op) := ButW.cell (by omega) ((HN.out.grown g3).cell 2 _ rfl)
  refine plan_one ?_
  simp only [nths, nth, List.map_cons, List.map_nil, List.getD_cons_zero, List.getD_cons_succ]
  repeat go_big_quiet_step (fail)
  clear d0 d1
  refine wpQuiet_nil ?_
  refine wpList_flag rfl _ _ _ 114 rfl _ _ Tryz.underlying114 .i64 Tryz.underlying3 m2 ok op (HF2.out.grown g3) rfl rfl rfl ?_
  intro y3 fl3 q3 z3
  have Z3 := Lib.hid z3
  clear z3
  go_wp2_with fail
  refine nxt_but q3 (plan_fin ?_)
  simp only [nths, List.map_nil]
  refine wpQuiet_nil ?_
  have s7 := ((HN.out.grown g3).but q3 (by omega)).cell 7 _ rfl
  have Q3 : But (PsOwn b m1 m2 m3) w y3 := (QQ.out.trans (But.of_grown g3)).trans (q3.mono (fun i hi => .inr (.inr (.inl hi))))
  replace QQ := Lib.hid Q3
  replace HB := Lib.hid ((HB.out.grown g3).but q3 (by omega))
  replace HN := Lib.hid ((HN.out.grown g3).but q3 (by omega))
  replace HF1 := Lib.hid ((HF1.out.grown g3).but q3 (by omega))
  replace HF2 := Lib.hid fl3
  replace HF3 := Lib.hid ((HF3.out.grown g3).but q3 (by omega))
  clear g3 q3 fl3 Q3
  go_wp2_with fail
  refine (Over_any _ _).mono ?_; rintro e y4 ⟨rfl, g4⟩
  replace QQ := Lib.hid (QQ.out.trans (But.of_grown g4))
  replace HB := Lib.hid (HB.out.grown g4)
  replace HN := Lib.hid (HN.out.grown g4)
  replace HF1 := Lib.hid (HF1.out.grown g4)
  replace HF2 := Lib.hid (HF2.out.grown g4)
  replace HF3 := Lib.hid (HF3.out.grown g4)
  clear g4 s7
  by_cases hov : 2 ≤ wd
  · have e4 : decide (2 ≤ wd) = true := decide_eq_true hov
    have HOV := Lib.hid hov
    clear hov
    go_wp2_with fail
    go_end0
    refine ⟨rfl, ?_, QQ.out⟩
    rw [show passV ⟨key, nk, ok, pk⟩ ⟨num, next, op, ⟨kd, ky, vl, lm⟩, wd⟩ = ⟨ky, addK nk num, addK ok op, pk⟩ by unfold passV; simp only [if_pos HOV.out]]
    exact ⟨HB.out, HF1.out, HF2.out, HF3.out, d12, d13, d23⟩
  · have e4 : decide (2 ≤ wd) = false := decide_eq_false hov
    have HOV := Lib.hid hov
    clear hov
    go_wp2_with fail
    refine wp_region_planb (fun q => q = m3) (.one [0, 1, 2, 3, 4, 5, 6] 7 (.fin [])) (by kernel_rfl) (by kernel_rfl) (by kernel_rfl) ?_
    intro v5 g5
    have d0 : ∀ q : ButW (fun q => q = m3) v5, q.w.cell? ⟨b, 3, none⟩ = some (.map (some m3)) := ButW.cell (by omega) ((HB.out.grown g5).cell 3 _ rfl)
    have d1 : ∀ q : ButW (fun q => q = m3) v5, q.w.cell? ⟨nb, 4, none⟩ = some (.int .u64 ky) := ButW.cell (by omega) ((HN.out.grown g5).cell 4 _ rfl)
    refine plan_one ?_
    simp only [nths, nth, List.map_cons, List.map_nil, List.getD_cons_zero, List.getD_cons_succ]
    repeat go_big_quiet_step (fail)
    clear d0 d1
    refine wpQuiet_nil ?_
    refine wpList_flag rfl _ _ _ 177 rfl _ _ Tryz.underlying177 .u64 Tryz.underlying46 m3 pk ky (HF3.out.grown g5) rfl rfl rfl ?_
    intro y5 fl5 q5 z5
    have Z5 := Lib.hid z5
    clear z5
    go_wp2_with fail
    refine nxt_but q5 (plan_fin ?_)
    simp only [nths, List.map_nil]
    refine wpQuiet_nil ?_
    have Q5 : But (PsOwn b m1 m2 m3) w y5 := (QQ.out.trans (But.of_grown g5)).trans (q5.mono (fun i hi => .inr (.inr (.inr hi))))
    replace QQ := Lib.hid Q5
    replace HB := Lib.hid ((HB.out.grown g5).but q5 (by omega))
    replace HN := Lib.hid ((HN.out.grown g5).but q5 (by omega))
    replace HF1 := Lib.hid ((HF1.out.grown g5).but q5 (by omega))
    replace HF2 := Lib.hid ((HF2.out.grown g5).but q5 (by omega))
    replace HF3 := Lib.hid fl5
    clear g5 q5 fl5 Q5
    go_wp2_with fail
    go_end0
    refine ⟨rfl, ?_, QQ.out⟩
    rw [show passV ⟨key, nk, ok, pk⟩ ⟨num, next, op, ⟨kd, ky, vl, lm⟩, wd⟩ = ⟨ky, addK nk num, addK ok op, addK pk ky⟩ by unfold passV; simp only [if_neg (show ¬ 2 ≤ wd by have := HOV.out; omega)]]
    exact ⟨HB.out, HF1.out, HF2.out, HF3.out, d12, d13, d23⟩
end Go.Proofs.YtagapfejgmmppaaGreat
