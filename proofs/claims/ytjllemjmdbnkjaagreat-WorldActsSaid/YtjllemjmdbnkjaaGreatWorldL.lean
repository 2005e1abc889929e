/- The laws' own functions over package world: awake, do. -/
import Derived.Test.YtjllemjmdbnkjaaGreatWorldN
import Derived.Test.YtjllemjmdbnkjaaGreatFew
namespace Go.Proofs.YtjllemjmdbnkjaaGreat
open Go.ChangeShapes Go.WideShapes Go.ChangeAt Go.RowKit
set_option maxRecDepth 100000
set_option linter.unusedVariables false
/-- The layout of awake, and its words. -/
def c8 : Cf := ⟨2, 2, 1, 5, 3⟩
def aw0 : List Int := List.replicate c8.len 0
def aw1 : List Int := wr aw0 (annI c8 1) (wdOf 5)
def aw2 : List Int := sw aw1 (nxtI c8 1) 0 6
def aw3 : List Int := sw aw2 (wrdI c8 5) 0 1
def aw4 : List Int := wr aw3 (nxtI c8 4) 8
def aw5 : List Int := sw aw4 (wrdI c8 5) 0 2
theorem c8_ok : c8.Ok := cf_ok (by decide +kernel)
theorem small_at (w : World) : Calls Tryz.prog 13 #[] w fun e w' => e = .returned c8.v ∧ Grown w w' := by
  go_enter Tryz.func13, Tryz.ntmps13
  go_wp2
  exact bodyPost_ret (v := c8.v) (by simp [results, Tryz.results13, go_sem, Cf.v, c8]) rfl ⟨rfl, by go_grown⟩
theorem fresh8 {W a b : World} {d : Wd} (g : Grown W a) (h : But (Mine d.p d.b) a b) (hp : W.heap.size ≤ d.p) (hq : W.heap.size ≤ d.b) : Grown W b := fresh2 g h hp hq

theorem wAwake (w : World) : Calls Tryz.prog 4 #[] w fun e w' => e = .returned (.bool true) ∧ Grown w w' := by
  go_enter Tryz.func4, Tryz.ntmps4
  go_wp2_with fail
  refine (small_at _).mono ?_; rintro e w0 ⟨rfl, g0⟩
  go_wp2_with fail
  refine (wNew_at _ c8 c8_ok).mono ?_; rintro e w1 ⟨d, rfl, g1, h1, hp, hb, -, -⟩
  replace hp := Nat.le_trans g0.2.2 hp
  replace hb := Nat.le_trans g0.2.2 hb
  replace g1 := gtr g0 g1; clear g0
  have q1 : But (Mine d.p d.b) w1 w1 := But.refl _ _
  replace h1 : WdAt w1 c8 d aw0 0 (St.new c8) := h1
  go_wp2_with fail
  refine (wSay_any _ c8 d _ _ _ 1 5 h1 (by omega) (by omega)).mono ?_; rintro e w2 ⟨rfl, q2, h2⟩
  replace h2 : WdAt w2 c8 d aw1 1 (St.new c8) := by
    have e9 : (1 : Int) = 0 + cnt aw0 (annI c8 1) := by decide +kernel
    rw [e9]; exact h2
  replace q2 := q1.trans q2; clear q1 h1
  go_wp2_with fail
  refine (wLink_any _ c8 d _ _ _ 1 0 6 h2 (by omega) (by omega)).mono ?_; rintro e w3 ⟨rfl, q3, h3⟩
  rw [show may aw1 (nxtI c8 1) 0 = true from by decide +kernel]
  replace h3 : WdAt w3 c8 d aw2 2 (St.new c8) := by
    have e9 : (2 : Int) = 1 + cnt aw1 (nxtI c8 1) := by decide +kernel
    rw [e9]; exact h3
  replace q3 := q2.trans q3; clear q2 h2
  go_wp2_with fail
  refine (wTurn_any _ c8 d _ _ _ 5 0 1 h3 (by omega) (by omega)).mono ?_; rintro e w4 ⟨rfl, q4, h4⟩
  rw [show may aw2 (wrdI c8 5) 0 = true from by decide +kernel]
  replace h4 : WdAt w4 c8 d aw3 3 (St.new c8) := by
    have e9 : (3 : Int) = 2 + cnt aw2 (wrdI c8 5) := by decide +kernel
    rw [e9]; exact h4
  replace q4 := q3.trans q4; clear q3 h3
  go_wp2_with fail
  refine (wSet_any _ c8 d _ _ _ 4 8 h4 (by omega) (by omega)).mono ?_; rintro e w5 ⟨rfl, q5, h5⟩
  replace h5 : WdAt w5 c8 d aw4 4 (St.new c8) := by
    have e9 : (4 : Int) = 3 + cnt aw3 (nxtI c8 4) := by decide +kernel
    rw [e9]; exact h5
  replace q5 := q4.trans q5; clear q4 h4
  go_wp2_with fail
  refine (wAnn_any _ c8 d _ _ _ 1 h5 (by omega) (by omega)).mono ?_; rintro e w6 ⟨rfl, q6, h6⟩
  rw [show opOf (rd aw4 (annI c8 1)) = 5 from by decide +kernel]
  replace h6 : WdAt w6 c8 d aw4 5 (St.new c8) := by
    have e9 : (5 : Int) = 4 + cnt aw4 (annI c8 1) := by decide +kernel
    rw [e9]; exact h6
  replace q6 := q5.trans q6; clear q5 h5
  go_wp2_with fail
  refine (wAnn_any _ c8 d _ _ _ 0 h6 (by omega) (by omega)).mono ?_; rintro e w7 ⟨rfl, q7, h7⟩
  rw [show opOf (rd aw4 (annI c8 0)) = -1 from by decide +kernel]
  replace h7 : WdAt w7 c8 d aw4 6 (St.new c8) := by
    have e9 : (6 : Int) = 5 + cnt aw4 (annI c8 0) := by decide +kernel
    rw [e9]; exact h7
  replace q7 := q6.trans q7; clear q6 h6
  go_wp2_with fail
  refine (wNext_any _ c8 d _ _ _ 1 h7 (by omega) (by omega)).mono ?_; rintro e w8 ⟨rfl, q8, h8⟩
  rw [show rd aw4 (nxtI c8 1) = 6 from by decide +kernel]
  replace h8 : WdAt w8 c8 d aw4 7 (St.new c8) := by
    have e9 : (7 : Int) = 6 + cnt aw4 (nxtI c8 1) := by decide +kernel
    rw [e9]; exact h8
  replace q8 := q7.trans q8; clear q7 h7
  go_wp2_with fail
  refine (wNext_any _ c8 d _ _ _ 4 h8 (by omega) (by omega)).mono ?_; rintro e w9 ⟨rfl, q9, h9⟩
  rw [show rd aw4 (nxtI c8 4) = 8 from by decide +kernel]
  replace h9 : WdAt w9 c8 d aw4 8 (St.new c8) := by
    have e9 : (8 : Int) = 7 + cnt aw4 (nxtI c8 4) := by decide +kernel
    rw [e9]; exact h9
  replace q9 := q8.trans q9; clear q8 h8
  go_wp2_with fail
  refine (wWord_any _ c8 d _ _ _ 5 h9 (by omega) (by omega)).mono ?_; rintro e w10 ⟨rfl, q10, h10⟩
  rw [show rd aw4 (wrdI c8 5) = 1 from by decide +kernel]
  replace h10 : WdAt w10 c8 d aw4 9 (St.new c8) := by
    have e9 : (9 : Int) = 8 + cnt aw4 (wrdI c8 5) := by decide +kernel
    rw [e9]; exact h10
  replace q10 := q9.trans q10; clear q9 h9
  go_wp2_with fail
  refine (wTurn_any _ c8 d _ _ _ 5 0 2 h10 (by omega) (by omega)).mono ?_; rintro e w11 ⟨rfl, q11, h11⟩
  rw [show may aw4 (wrdI c8 5) 0 = false from by decide +kernel]
  replace h11 : WdAt w11 c8 d aw5 10 (St.new c8) := by
    have e9 : (10 : Int) = 9 + cnt aw4 (wrdI c8 5) := by decide +kernel
    rw [e9]; exact h11
  replace q11 := q10.trans q11; clear q10 h10
  have H := Lib.hid h11
  have k5 := h11.k5
  clear h11
  go_wp2_with fail
  refine (Steps_at _ _ _ _ _ H.out.bank).mono ?_; rintro e w12 ⟨rfl, g12⟩
  go_wp2_with fail
  refine (wHead_any _ c8 d _ _ _ 1 (H.out.grown g12)).mono ?_; rintro e w13 ⟨rfl, g13⟩
  rw [show headI c8 1 = 2 from by decide +kernel]
  go_wp2_with fail
  refine (wHead_any _ c8 d _ _ _ 2 (H.out.grown (gtr g12 g13))).mono ?_; rintro e w14 ⟨rfl, g14⟩
  rw [show headI c8 2 = 1 from by decide +kernel]
  go_wp2_with fail
  go_ret
  exact ⟨rfl, gtr (fresh8 g1 q11 hp hb) (gtr g12 (gtr g13 g14))⟩

/- AN ACT: its thing's cell, the words behind it, how many steps it was, what it tells. -/
def plI (c : Cf) (k i : Int) : Int := if k % 7 ≤ 2 then nxtI c i else if k % 7 ≤ 4 then wrdI c i else annI c i
def acW (c : Cf) (ws : List Int) (k i op old v : Int) : List Int := if k % 7 = 1 ∨ k % 7 = 4 then sw ws (plI c k i) old v else if k % 7 = 2 then wr ws (plI c k i) v else if k % 7 = 6 then wr ws (plI c k i) (wdOf (op - 1)) else ws
def acR (c : Cf) (ws : List Int) (k i : Int) : Int := if k % 7 = 0 ∨ k % 7 = 3 then rd ws (plI c k i) else 0
def acB (c : Cf) (ws : List Int) (k i old : Int) : Bool := if k % 7 = 1 ∨ k % 7 = 4 then may ws (plI c k i) old else false
def acT (c : Cf) (ws : List Int) (k i : Int) : Int := if k % 7 = 5 then opOf (rd ws (plI c k i)) else 0
def AcV (k i op old v : Int) : Value := .agg #[.int .u8 k, .int .i64 i, .int .u16 op, .int .u64 old, .int .u64 v]
def WDo (c : Cf) (d : Wd) (ws : List Int) (n : Int) (s : St) (k i op old v : Int) (w : World) (e : Ending) (w' : World) : Prop :=
  e = .returned (.tuple #[.int .u64 (acR c ws k i), .bool (acB c ws k i old), .int .i64 (acT c ws k i)]) ∧ LeftW c d (acW c ws k i op old v) (n + cnt ws (plI c k i)) s w w'

theorem wDo_any (w : World) (c : Cf) (d : Wd) (ws : List Int) (n : Int) (s : St) (k i op old v : Int) (h : WdAt w c d ws n s) (hn : 0 ≤ n) (hn' : n < 4611686018427387904) (k0 : 0 ≤ k) (k1 : k ≤ 255) (o0 : 0 ≤ op) (o1 : op ≤ 65535) :
    Calls Tryz.prog 8 #[.pointer (some ⟨d.x, 0, none⟩), AcV k i op old v] w (WDo c d ws n s k i op old v w) := by
  have HD := Lib.hid h
  clear h
  unfold WDo AcV
  have hk : k % 7 = 0 ∨ k % 7 = 1 ∨ k % 7 = 2 ∨ k % 7 = 3 ∨ k % 7 = 4 ∨ k % 7 = 5 ∨ k % 7 = 6 := by omega
  rcases hk with hk | hk | hk | hk | hk | hk | hk
  · have hP : plI c k i = nxtI c i := by unfold plI; simp [hk]
    have hW : acW c ws k i op old v = ws := by unfold acW; rw [hP]; simp [hk]
    have hR : acR c ws k i =  (rd ws (nxtI c i)) := by unfold acR; rw [hP]; simp [hk]
    have hB : acB c ws k i old = false := by unfold acB; rw [hP]; simp [hk]
    have hT : acT c ws k i =  0 := by unfold acT; rw [hP]; simp [hk]
    rw [hW, hR, hB, hT, hP]
    clear hW hR hB hT hP
    go_enter Tryz.func8, Tryz.ntmps8
    go_wp2_with fail
    refine (wNext_any _ c d ws n s i (HD.out.grown (by go_grown)) hn hn').mono ?_; rintro e w1 ⟨rfl, q, h1⟩
    go_wp2_with fail
    exact bodyPost_ret (v := .tuple #[.int .u64 (rd ws (nxtI c i)), .bool false, .int .i64 0]) (by simp [results, Tryz.results8, go_sem]) rfl ⟨rfl, (But.of_grown (by go_grown)).trans q, h1⟩
  · have hP : plI c k i = nxtI c i := by unfold plI; simp [hk]
    have hW : acW c ws k i op old v = sw ws (nxtI c i) old v := by unfold acW; rw [hP]; simp [hk]
    have hR : acR c ws k i =  0 := by unfold acR; rw [hP]; simp [hk]
    have hB : acB c ws k i old = (may ws (nxtI c i) old) := by unfold acB; rw [hP]; simp [hk]
    have hT : acT c ws k i =  0 := by unfold acT; rw [hP]; simp [hk]
    rw [hW, hR, hB, hT, hP]
    clear hW hR hB hT hP
    go_enter Tryz.func8, Tryz.ntmps8
    go_wp2_with fail
    refine (wLink_any _ c d ws n s i old v (HD.out.grown (by go_grown)) hn hn').mono ?_; rintro e w1 ⟨rfl, q, h1⟩
    go_wp2_with fail
    exact bodyPost_ret (v := .tuple #[.int .u64 0, .bool (may ws (nxtI c i) old), .int .i64 0]) (by simp [results, Tryz.results8, go_sem]) rfl ⟨rfl, (But.of_grown (by go_grown)).trans q, h1⟩
  · have hP : plI c k i = nxtI c i := by unfold plI; simp [hk]
    have hW : acW c ws k i op old v = wr ws (nxtI c i) v := by unfold acW; rw [hP]; simp [hk]
    have hR : acR c ws k i =  0 := by unfold acR; rw [hP]; simp [hk]
    have hB : acB c ws k i old = false := by unfold acB; rw [hP]; simp [hk]
    have hT : acT c ws k i =  0 := by unfold acT; rw [hP]; simp [hk]
    rw [hW, hR, hB, hT, hP]
    clear hW hR hB hT hP
    go_enter Tryz.func8, Tryz.ntmps8
    go_wp2_with fail
    refine (wSet_any _ c d ws n s i v (HD.out.grown (by go_grown)) hn hn').mono ?_; rintro e w1 ⟨rfl, q, h1⟩
    go_wp2_with fail
    exact bodyPost_ret (v := .tuple #[.int .u64 0, .bool false, .int .i64 0]) (by simp [results, Tryz.results8, go_sem]) rfl ⟨rfl, (But.of_grown (by go_grown)).trans q, h1⟩
  · have hP : plI c k i = wrdI c i := by unfold plI; simp [hk]
    have hW : acW c ws k i op old v = ws := by unfold acW; rw [hP]; simp [hk]
    have hR : acR c ws k i =  (rd ws (wrdI c i)) := by unfold acR; rw [hP]; simp [hk]
    have hB : acB c ws k i old = false := by unfold acB; rw [hP]; simp [hk]
    have hT : acT c ws k i =  0 := by unfold acT; rw [hP]; simp [hk]
    rw [hW, hR, hB, hT, hP]
    clear hW hR hB hT hP
    go_enter Tryz.func8, Tryz.ntmps8
    go_wp2_with fail
    refine (wWord_any _ c d ws n s i (HD.out.grown (by go_grown)) hn hn').mono ?_; rintro e w1 ⟨rfl, q, h1⟩
    go_wp2_with fail
    exact bodyPost_ret (v := .tuple #[.int .u64 (rd ws (wrdI c i)), .bool false, .int .i64 0]) (by simp [results, Tryz.results8, go_sem]) rfl ⟨rfl, (But.of_grown (by go_grown)).trans q, h1⟩
  · have hP : plI c k i = wrdI c i := by unfold plI; simp [hk]
    have hW : acW c ws k i op old v = sw ws (wrdI c i) old v := by unfold acW; rw [hP]; simp [hk]
    have hR : acR c ws k i =  0 := by unfold acR; rw [hP]; simp [hk]
    have hB : acB c ws k i old = (may ws (wrdI c i) old) := by unfold acB; rw [hP]; simp [hk]
    have hT : acT c ws k i =  0 := by unfold acT; rw [hP]; simp [hk]
    rw [hW, hR, hB, hT, hP]
    clear hW hR hB hT hP
    go_enter Tryz.func8, Tryz.ntmps8
    go_wp2_with fail
    refine (wTurn_any _ c d ws n s i old v (HD.out.grown (by go_grown)) hn hn').mono ?_; rintro e w1 ⟨rfl, q, h1⟩
    go_wp2_with fail
    exact bodyPost_ret (v := .tuple #[.int .u64 0, .bool (may ws (wrdI c i) old), .int .i64 0]) (by simp [results, Tryz.results8, go_sem]) rfl ⟨rfl, (But.of_grown (by go_grown)).trans q, h1⟩
  · have hP : plI c k i = annI c i := by unfold plI; simp [hk]
    have hW : acW c ws k i op old v = ws := by unfold acW; rw [hP]; simp [hk]
    have hR : acR c ws k i =  0 := by unfold acR; rw [hP]; simp [hk]
    have hB : acB c ws k i old = false := by unfold acB; rw [hP]; simp [hk]
    have hT : acT c ws k i =  (opOf (rd ws (annI c i))) := by unfold acT; rw [hP]; simp [hk]
    rw [hW, hR, hB, hT, hP]
    clear hW hR hB hT hP
    go_enter Tryz.func8, Tryz.ntmps8
    go_wp2_with fail
    refine (wAnn_any _ c d ws n s i (HD.out.grown (by go_grown)) hn hn').mono ?_; rintro e w1 ⟨rfl, q, h1⟩
    go_wp2_with fail
    exact bodyPost_ret (v := .tuple #[.int .u64 0, .bool false, .int .i64 (opOf (rd ws (annI c i)))]) (by simp [results, Tryz.results8, go_sem]) rfl ⟨rfl, (But.of_grown (by go_grown)).trans q, h1⟩
  · have hP : plI c k i = annI c i := by unfold plI; simp [hk]
    have hW : acW c ws k i op old v = wr ws (annI c i) (wdOf (op - 1)) := by unfold acW; rw [hP]; simp [hk]
    have hR : acR c ws k i =  0 := by unfold acR; rw [hP]; simp [hk]
    have hB : acB c ws k i old = false := by unfold acB; rw [hP]; simp [hk]
    have hT : acT c ws k i =  0 := by unfold acT; rw [hP]; simp [hk]
    rw [hW, hR, hB, hT, hP]
    clear hW hR hB hT hP
    go_enter Tryz.func8, Tryz.ntmps8
    go_wp2_with fail
    refine (wSay_any _ c d ws n s i (op - 1) (HD.out.grown (by go_grown)) hn hn').mono ?_; rintro e w1 ⟨rfl, q, h1⟩
    go_wp2_with fail
    exact bodyPost_ret (v := .tuple #[.int .u64 0, .bool false, .int .i64 0]) (by simp [results, Tryz.results8, go_sem]) rfl ⟨rfl, (But.of_grown (by go_grown)).trans q, h1⟩

end Go.Proofs.YtjllemjmdbnkjaaGreat
