/- The document's answers for package book (corrieref07): Make, Do. -/
import Derived.Test.YtcoemkgkdkijdaaBookRef3
namespace Go.Proofs.Ytcoemkgkdkijdaa
open Go.ChangeShapes Go.WideShapes Go.ChangeAt Go.RowKit
set_option maxRecDepth 100000
set_option linter.unusedVariables false

/-- Where a walk stands still. -/
def Stop (p : Prop) : Prop := p
theorem stop {p : Prop} (h : Stop p) : p := h
theorem two_one (a b : Nat) : ∀ u ∈ [Value.int .i64 (a : Int), .int .i64 (b : Int)], u.oneCell' = true := by
  intro u hu
  simp only [List.mem_cons, List.not_mem_nil, or_false] at hu
  rcases hu with rfl | rfl <;> rfl

theorem rMake_noThread (w : World) (hi : Nat) (c : Cf) (s : St) (s1 s2 s3 s4 s5 : Value) (h : RefS w hi c s s1 s2 s3 s4 s5) (hok : c.Ok) (hI : Inv c s) (hw : hi ≤ w.heap.size) (hl : s.ops.length ≤ 9999) (hl5 : s.nodes.length ≤ 9999) (th op : Int) (ht : th < 0 ∨ c.t ≤ th) :
    Calls Try.prog 47 #[RV c s1 s2 s3 s4 s5, .int .i64 th, .int .i64 op] w (RTell hi c (s, 0, 1) s1 s2 s3 s4 s5 w) := by
  obtain ⟨A1, n1, kc1, rfl⟩ := h.f1.slice
  obtain ⟨A2, n2, kc2, rfl⟩ := h.f2.slice
  obtain ⟨A3, n3, kc3, rfl⟩ := h.f3.slice
  obtain ⟨A4, n4, kc4, rfl⟩ := h.f4.slice
  obtain ⟨A5, n5, kc5, rfl⟩ := h.f5.slice
  have H := Lib.hid h
  have HOK := Lib.hid hok
  have HN := Lib.hid hI
  have HI : Hid (decide (0 ≤ th ∧ th < c.t) = false) := Lib.hid (decide_eq_false (by omega))
  clear h hok hI
  unfold RV
  go_enter Try.func47, Try.ntmps47
  go_wp2_with fail
  refine (is_at _ hi c s _ _ _ _ _ (H.out.grown (by go_grown)) HOK.out th _ HI.out).mono ?_; rintro e w1 ⟨rfl, g1⟩
  obtain ⟨B3, B6, G⟩ := boxes2 (l1 := [.int .i64 c.t, .int .i64 c.b, .int .i64 c.i, .int .i64 c.f, .int .i64 c.k, .slice A1 n1 kc1, .slice A2 n2 kc2, .slice A3 n3 kc3, .slice A4 n4 kc4, .slice A5 n5 kc5]) (l2 := [.int .i64 0, .int .i64 0, .int .i64 0, .int .i64 0, .int .i64 0, .slice none 0 0, .slice none 0 0, .slice none 0 0, .slice none 0 0, .slice none 0 0]) g1
  replace B3 := Lib.hid B3
  replace B6 := Lib.hid B6
  have Q : But (Bx w.heap.size 2) w1 w1 := But.refl _ _
  clear g1
  have b0 := B3.out.cell 0 _ rfl
  have b1 := B3.out.cell 1 _ rfl
  have b2 := B3.out.cell 2 _ rfl
  have b3 := B3.out.cell 3 _ rfl
  have b4 := B3.out.cell 4 _ rfl
  have b5 := B3.out.cell 5 _ rfl
  have b6 := B3.out.cell 6 _ rfl
  have b7 := B3.out.cell 7 _ rfl
  have b8 := B3.out.cell 8 _ rfl
  have b9 := B3.out.cell 9 _ rfl
  have c0 := B6.out.cell 0 _ rfl
  have c1 := B6.out.cell 1 _ rfl
  have c2 := B6.out.cell 2 _ rfl
  have c3 := B6.out.cell 3 _ rfl
  have c4 := B6.out.cell 4 _ rfl
  have c5 := B6.out.cell 5 _ rfl
  have c6 := B6.out.cell 6 _ rfl
  have c7 := B6.out.cell 7 _ rfl
  have c8 := B6.out.cell 8 _ rfl
  have c9 := B6.out.cell 9 _ rfl
  have qc0 := B6.out.free 0
  have qc1 := B6.out.free 1
  have qc2 := B6.out.free 2
  have qc3 := B6.out.free 3
  have qc4 := B6.out.free 4
  have qc5 := B6.out.free 5
  have qc6 := B6.out.free 6
  have qc7 := B6.out.free 7
  have qc8 := B6.out.free 8
  have qc9 := B6.out.free 9
  have hlt := B6.out.lt
  have hlt3 := B3.out.lt
  go_wp2_with fail
  have B2 := B6.out.fill rfl (.int .i64 c.t) (.int .i64 c.b) (.int .i64 c.i) (.int .i64 c.f) (.int .i64 c.k) (.slice A1 n1 kc1) (.slice A2 n2 kc2) (.slice A3 n3 kc3) (.slice A4 n4 kc4) (.slice A5 n5 kc5)
  have e0 := B2.cell 0 _ rfl
  have e1 := B2.cell 1 _ rfl
  have e2 := B2.cell 2 _ rfl
  have e3 := B2.cell 3 _ rfl
  have e4 := B2.cell 4 _ rfl
  have e5 := B2.cell 5 _ rfl
  have e6 := B2.cell 6 _ rfl
  have e7 := B2.cell 7 _ rfl
  have e8 := B2.cell 8 _ rfl
  have e9 := B2.cell 9 _ rfl
  have kS := (But.refl (Bx w.heap.size 2) w1).fill (b := w.heap.size + 1) (.inl ⟨by omega, by omega⟩) (.int .i64 c.t) (.int .i64 c.b) (.int .i64 c.i) (.int .i64 c.f) (.int .i64 c.k) (.slice A1 n1 kc1) (.slice A2 n2 kc2) (.slice A3 n3 kc3) (.slice A4 n4 kc4) (.slice A5 n5 kc5)
  have gE := But.fresh G (Q.trans kS) (fun i hi => hi.1)
  refine bodyPost_ret (v := .tuple #[RV c (.slice A1 n1 kc1) (.slice A2 n2 kc2) (.slice A3 n3 kc3) (.slice A4 n4 kc4) (.slice A5 n5 kc5), .int .i64 0, .int .i64 1]) (by simp [results, Try.results47, go_sem, RV, e0, e1, e2, e3, e4, e5, e6, e7, e8, e9]) rfl ?_
  exact ⟨_, _, _, _, _, rfl, ⟨H.out.f1.grown gE, H.out.f2.grown gE, H.out.f3.grown gE, H.out.f4.grown gE, H.out.f5.grown gE⟩, gE, .inl rfl, .inl rfl, .inl rfl, .inl rfl, .inl rfl⟩

theorem rMake_noOp (w : World) (hi : Nat) (c : Cf) (s : St) (s1 s2 s3 s4 s5 : Value) (h : RefS w hi c s s1 s2 s3 s4 s5) (hok : c.Ok) (hI : Inv c s) (hw : hi ≤ w.heap.size) (hl : s.ops.length ≤ 9999) (hl5 : s.nodes.length ≤ 9999) (i : Nat) (hit : i < c.t) (op : Int) (ho : lookI s.ops op = none) :
    Calls Try.prog 47 #[RV c s1 s2 s3 s4 s5, .int .i64 i, .int .i64 op] w (RTell hi c (s, 0, 1) s1 s2 s3 s4 s5 w) := by
  obtain ⟨A1, n1, kc1, rfl⟩ := h.f1.slice
  obtain ⟨A2, n2, kc2, rfl⟩ := h.f2.slice
  obtain ⟨A3, n3, kc3, rfl⟩ := h.f3.slice
  obtain ⟨A4, n4, kc4, rfl⟩ := h.f4.slice
  obtain ⟨A5, n5, kc5, rfl⟩ := h.f5.slice
  have H := Lib.hid h
  have HOK := Lib.hid hok
  have HN := Lib.hid hI
  have HI : Hid (decide (0 ≤ (i : Int) ∧ (i : Int) < c.t) = true) := Lib.hid (decide_eq_true (by omega))
  have HO := Lib.hid ho
  clear ho
  clear h hok hI
  unfold RV
  go_enter Try.func47, Try.ntmps47
  go_wp2_with fail
  refine (is_at _ hi c s _ _ _ _ _ (H.out.grown (by go_grown)) HOK.out i _ HI.out).mono ?_; rintro e w1 ⟨rfl, g1⟩
  obtain ⟨B3, B6, G⟩ := boxes2 (l1 := [.int .i64 c.t, .int .i64 c.b, .int .i64 c.i, .int .i64 c.f, .int .i64 c.k, .slice A1 n1 kc1, .slice A2 n2 kc2, .slice A3 n3 kc3, .slice A4 n4 kc4, .slice A5 n5 kc5]) (l2 := [.int .i64 0, .int .i64 0, .int .i64 0, .int .i64 0, .int .i64 0, .slice none 0 0, .slice none 0 0, .slice none 0 0, .slice none 0 0, .slice none 0 0]) g1
  replace B3 := Lib.hid B3
  replace B6 := Lib.hid B6
  have Q : But (Bx w.heap.size 2) w1 w1 := But.refl _ _
  clear g1
  have b0 := B3.out.cell 0 _ rfl
  have b1 := B3.out.cell 1 _ rfl
  have b2 := B3.out.cell 2 _ rfl
  have b3 := B3.out.cell 3 _ rfl
  have b4 := B3.out.cell 4 _ rfl
  have b5 := B3.out.cell 5 _ rfl
  have b6 := B3.out.cell 6 _ rfl
  have b7 := B3.out.cell 7 _ rfl
  have b8 := B3.out.cell 8 _ rfl
  have b9 := B3.out.cell 9 _ rfl
  have hlt3 := B3.out.lt
  go_wp2_with fail
  refine (find_at_ _ hi c s _ _ _ _ _ (H.out.grown G) HOK.out (by omega) op).mono ?_; rintro e w2 ⟨r, rfl, hr, m1⟩
  clear b0 b1 b2 b3 b4 b5 b6 b7 b8 b9 hlt3
  replace B3 := Lib.hid (B3.out.grown m1)
  replace B6 := Lib.hid (B6.out.grown m1)
  replace Q := Q.trans (But.of_grown m1)
  obtain rfl : r = -1 := by
    rcases hr with ⟨rfl, -⟩ | ⟨j, y, rfl, -, -, hs⟩
    · rfl
    · rw [HO.out] at hs; cases hs
  clear hr m1
  have b0 := B3.out.cell 0 _ rfl
  have b1 := B3.out.cell 1 _ rfl
  have b2 := B3.out.cell 2 _ rfl
  have b3 := B3.out.cell 3 _ rfl
  have b4 := B3.out.cell 4 _ rfl
  have b5 := B3.out.cell 5 _ rfl
  have b6 := B3.out.cell 6 _ rfl
  have b7 := B3.out.cell 7 _ rfl
  have b8 := B3.out.cell 8 _ rfl
  have b9 := B3.out.cell 9 _ rfl
  have c0 := B6.out.cell 0 _ rfl
  have c1 := B6.out.cell 1 _ rfl
  have c2 := B6.out.cell 2 _ rfl
  have c3 := B6.out.cell 3 _ rfl
  have c4 := B6.out.cell 4 _ rfl
  have c5 := B6.out.cell 5 _ rfl
  have c6 := B6.out.cell 6 _ rfl
  have c7 := B6.out.cell 7 _ rfl
  have c8 := B6.out.cell 8 _ rfl
  have c9 := B6.out.cell 9 _ rfl
  have qc0 := B6.out.free 0
  have qc1 := B6.out.free 1
  have qc2 := B6.out.free 2
  have qc3 := B6.out.free 3
  have qc4 := B6.out.free 4
  have qc5 := B6.out.free 5
  have qc6 := B6.out.free 6
  have qc7 := B6.out.free 7
  have qc8 := B6.out.free 8
  have qc9 := B6.out.free 9
  have hlt := B6.out.lt
  have hlt3 := B3.out.lt
  go_wp2_with fail
  have B2 := B6.out.fill rfl (.int .i64 c.t) (.int .i64 c.b) (.int .i64 c.i) (.int .i64 c.f) (.int .i64 c.k) (.slice A1 n1 kc1) (.slice A2 n2 kc2) (.slice A3 n3 kc3) (.slice A4 n4 kc4) (.slice A5 n5 kc5)
  have e0 := B2.cell 0 _ rfl
  have e1 := B2.cell 1 _ rfl
  have e2 := B2.cell 2 _ rfl
  have e3 := B2.cell 3 _ rfl
  have e4 := B2.cell 4 _ rfl
  have e5 := B2.cell 5 _ rfl
  have e6 := B2.cell 6 _ rfl
  have e7 := B2.cell 7 _ rfl
  have e8 := B2.cell 8 _ rfl
  have e9 := B2.cell 9 _ rfl
  have kS := (But.refl (Bx w.heap.size 2) w2).fill (b := w.heap.size + 1) (.inl ⟨by omega, by omega⟩) (.int .i64 c.t) (.int .i64 c.b) (.int .i64 c.i) (.int .i64 c.f) (.int .i64 c.k) (.slice A1 n1 kc1) (.slice A2 n2 kc2) (.slice A3 n3 kc3) (.slice A4 n4 kc4) (.slice A5 n5 kc5)
  have gE := But.fresh G (Q.trans kS) (fun i hi => hi.1)
  refine bodyPost_ret (v := .tuple #[RV c (.slice A1 n1 kc1) (.slice A2 n2 kc2) (.slice A3 n3 kc3) (.slice A4 n4 kc4) (.slice A5 n5 kc5), .int .i64 0, .int .i64 1]) (by simp [results, Try.results47, go_sem, RV, e0, e1, e2, e3, e4, e5, e6, e7, e8, e9]) rfl ?_
  exact ⟨_, _, _, _, _, rfl, ⟨H.out.f1.grown gE, H.out.f2.grown gE, H.out.f3.grown gE, H.out.f4.grown gE, H.out.f5.grown gE⟩, gE, .inl rfl, .inl rfl, .inl rfl, .inl rfl, .inl rfl⟩

theorem rMake_full (w : World) (hi : Nat) (c : Cf) (s : St) (s1 s2 s3 s4 s5 : Value) (h : RefS w hi c s s1 s2 s3 s4 s5) (hok : c.Ok) (hI : Inv c s) (hw : hi ≤ w.heap.size) (hl : s.ops.length ≤ 9999) (hl5 : s.nodes.length ≤ 9999) (i : Nat) (hit : i < c.t) (op : Int) (x : Cal) (ho : lookI s.ops op = some x) (e0 : at_ s.made i = 2 * c.k) :
    Calls Try.prog 47 #[RV c s1 s2 s3 s4 s5, .int .i64 i, .int .i64 op] w (RTell hi c (s, 0, 3) s1 s2 s3 s4 s5 w) := by
  have ht1 := hok.t1
  obtain ⟨gs3, kc3, rfl, -, hc3⟩ := h.f3.some ht1
  obtain ⟨A1, n1, kc1, rfl⟩ := h.f1.slice
  obtain ⟨A2, n2, kc2, rfl⟩ := h.f2.slice
  obtain ⟨A4, n4, kc4, rfl⟩ := h.f4.slice
  obtain ⟨A5, n5, kc5, rfl⟩ := h.f5.slice
  have H := Lib.hid h
  have HOK := Lib.hid hok
  have HN := Lib.hid hI
  have HI : Hid (decide (0 ≤ (i : Int) ∧ (i : Int) < c.t) = true) := Lib.hid (decide_eq_true (by omega))
  have HO := Lib.hid ho
  have l3 := hI.l3
  have b3' := hI.b3 i hit
  have ck2 := hok.k2
  have t8 := hok.t8
  have a3 : w.cell? ⟨gs3, i, none⟩ = some (.int .i64 (at_ s.made i : Int)) := hc3 i _ (vNat_at (by omega))
  clear hc3 ho
  clear h hok hI
  unfold RV
  go_enter Try.func47, Try.ntmps47
  go_wp2_with fail
  refine (is_at _ hi c s _ _ _ _ _ (H.out.grown (by go_grown)) HOK.out i _ HI.out).mono ?_; rintro e w1 ⟨rfl, g1⟩
  obtain ⟨B3, B6, G⟩ := boxes2 (l1 := [.int .i64 c.t, .int .i64 c.b, .int .i64 c.i, .int .i64 c.f, .int .i64 c.k, .slice A1 n1 kc1, .slice A2 n2 kc2, .slice (some ⟨gs3, 0, none⟩) c.t kc3, .slice A4 n4 kc4, .slice A5 n5 kc5]) (l2 := [.int .i64 0, .int .i64 0, .int .i64 0, .int .i64 0, .int .i64 0, .slice none 0 0, .slice none 0 0, .slice none 0 0, .slice none 0 0, .slice none 0 0]) g1
  replace B3 := Lib.hid B3
  replace B6 := Lib.hid B6
  have Q : But (Bx w.heap.size 2) w1 w1 := But.refl _ _
  clear g1
  replace a3 := gcell G a3
  have b0 := B3.out.cell 0 _ rfl
  have b1 := B3.out.cell 1 _ rfl
  have b2 := B3.out.cell 2 _ rfl
  have b3 := B3.out.cell 3 _ rfl
  have b4 := B3.out.cell 4 _ rfl
  have b5 := B3.out.cell 5 _ rfl
  have b6 := B3.out.cell 6 _ rfl
  have b7 := B3.out.cell 7 _ rfl
  have b8 := B3.out.cell 8 _ rfl
  have b9 := B3.out.cell 9 _ rfl
  have hlt3 := B3.out.lt
  go_wp2_with fail
  refine (find_at_ _ hi c s _ _ _ _ _ (H.out.grown G) HOK.out (by omega) op).mono ?_; rintro e w2 ⟨r, rfl, hr, m1⟩
  clear b0 b1 b2 b3 b4 b5 b6 b7 b8 b9 hlt3
  replace B3 := Lib.hid (B3.out.grown m1)
  replace B6 := Lib.hid (B6.out.grown m1)
  replace Q := Q.trans (But.of_grown m1)
  obtain ⟨j, rfl⟩ : ∃ j : Nat, r = j := by
    rcases hr with ⟨rfl, hs⟩ | ⟨j, y, rfl, -, -, hs⟩
    · rw [HO.out] at hs; cases hs
    · exact ⟨j, rfl⟩
  have ej : decide ((j : Int) < 0) = false := decide_eq_false (by omega)
  replace a3 := gcell m1 a3
  clear hr m1
  have e3 : ((at_ s.made i : Int) == 2 * (c.k : Int)) = true := by simp [e0]
  have b0 := B3.out.cell 0 _ rfl
  have b1 := B3.out.cell 1 _ rfl
  have b2 := B3.out.cell 2 _ rfl
  have b3 := B3.out.cell 3 _ rfl
  have b4 := B3.out.cell 4 _ rfl
  have b5 := B3.out.cell 5 _ rfl
  have b6 := B3.out.cell 6 _ rfl
  have b7 := B3.out.cell 7 _ rfl
  have b8 := B3.out.cell 8 _ rfl
  have b9 := B3.out.cell 9 _ rfl
  have c0 := B6.out.cell 0 _ rfl
  have c1 := B6.out.cell 1 _ rfl
  have c2 := B6.out.cell 2 _ rfl
  have c3 := B6.out.cell 3 _ rfl
  have c4 := B6.out.cell 4 _ rfl
  have c5 := B6.out.cell 5 _ rfl
  have c6 := B6.out.cell 6 _ rfl
  have c7 := B6.out.cell 7 _ rfl
  have c8 := B6.out.cell 8 _ rfl
  have c9 := B6.out.cell 9 _ rfl
  have qc0 := B6.out.free 0
  have qc1 := B6.out.free 1
  have qc2 := B6.out.free 2
  have qc3 := B6.out.free 3
  have qc4 := B6.out.free 4
  have qc5 := B6.out.free 5
  have qc6 := B6.out.free 6
  have qc7 := B6.out.free 7
  have qc8 := B6.out.free 8
  have qc9 := B6.out.free 9
  have hlt := B6.out.lt
  have hlt3 := B3.out.lt
  go_wp2_with fail
  have B2 := B6.out.fill rfl (.int .i64 c.t) (.int .i64 c.b) (.int .i64 c.i) (.int .i64 c.f) (.int .i64 c.k) (.slice A1 n1 kc1) (.slice A2 n2 kc2) (.slice (some ⟨gs3, 0, none⟩) c.t kc3) (.slice A4 n4 kc4) (.slice A5 n5 kc5)
  have e0 := B2.cell 0 _ rfl
  have e1 := B2.cell 1 _ rfl
  have e2 := B2.cell 2 _ rfl
  have e3 := B2.cell 3 _ rfl
  have e4 := B2.cell 4 _ rfl
  have e5 := B2.cell 5 _ rfl
  have e6 := B2.cell 6 _ rfl
  have e7 := B2.cell 7 _ rfl
  have e8 := B2.cell 8 _ rfl
  have e9 := B2.cell 9 _ rfl
  have kS := (But.refl (Bx w.heap.size 2) w2).fill (b := w.heap.size + 1) (.inl ⟨by omega, by omega⟩) (.int .i64 c.t) (.int .i64 c.b) (.int .i64 c.i) (.int .i64 c.f) (.int .i64 c.k) (.slice A1 n1 kc1) (.slice A2 n2 kc2) (.slice (some ⟨gs3, 0, none⟩) c.t kc3) (.slice A4 n4 kc4) (.slice A5 n5 kc5)
  have gE := But.fresh G (Q.trans kS) (fun i hi => hi.1)
  refine bodyPost_ret (v := .tuple #[RV c (.slice A1 n1 kc1) (.slice A2 n2 kc2) (.slice (some ⟨gs3, 0, none⟩) c.t kc3) (.slice A4 n4 kc4) (.slice A5 n5 kc5), .int .i64 0, .int .i64 3]) (by simp [results, Try.results47, go_sem, RV, e0, e1, e2, e3, e4, e5, e6, e7, e8, e9]) rfl ?_
  exact ⟨_, _, _, _, _, rfl, ⟨H.out.f1.grown gE, H.out.f2.grown gE, H.out.f3.grown gE, H.out.f4.grown gE, H.out.f5.grown gE⟩, gE, .inl rfl, .inl rfl, .inl rfl, .inl rfl, .inl rfl⟩

set_option maxHeartbeats 4000000 in
theorem rMake_ok (w : World) (hi : Nat) (c : Cf) (s : St) (s1 s2 s3 s4 s5 : Value) (h : RefS w hi c s s1 s2 s3 s4 s5) (hok : c.Ok) (hI : Inv c s) (hw : hi ≤ w.heap.size) (hl : s.ops.length ≤ 9999) (hl5 : s.nodes.length ≤ 9999) (i : Nat) (hit : i < c.t) (op : Nat) (x : Cal) (ho : lookI s.ops op = some x) (e0 : ¬ at_ s.made i = 2 * c.k) (nd : Nat) (hnd : 1 + c.b + i * (2 * c.k) + at_ s.made i = nd) :
    Calls Try.prog 47 #[RV c s1 s2 s3 s4 s5, .int .i64 i, .int .i64 op] w (RTell hi c ({ s with made := bump s.made i, nodes := s.nodes ++ [(nd, op)] }, nd, 0) s1 s2 s3 s4 s5 w) := by
  have HV : Hid (vNode c.t c.b c.i c.f c.k i (at_ s.made i) = (nd : Int)) := Lib.hid (by rw [← hnd]; exact vNode_nat hok hit (by have := hI.b3 i hit; omega))
  clear hnd
  have ht1 := hok.t1
  obtain ⟨gs3, kc3, rfl, -, hc3⟩ := h.f3.some ht1
  obtain ⟨A1, n1, kc1, rfl⟩ := h.f1.slice
  obtain ⟨A2, n2, kc2, rfl⟩ := h.f2.slice
  obtain ⟨A4, n4, kc4, rfl⟩ := h.f4.slice
  obtain ⟨A5, n5, kc5, rfl⟩ := h.f5.slice
  have H := Lib.hid h
  have HOK := Lib.hid hok
  have HN := Lib.hid hI
  have HI : Hid (decide (0 ≤ (i : Int) ∧ (i : Int) < c.t) = true) := Lib.hid (decide_eq_true (by omega))
  have HO := Lib.hid ho
  have l3 := hI.l3
  have b3' := hI.b3 i hit
  have ck2 := hok.k2
  have t8 := hok.t8
  have a3 : w.cell? ⟨gs3, i, none⟩ = some (.int .i64 (at_ s.made i : Int)) := hc3 i _ (vNat_at (by omega))
  clear hc3 ho
  clear h hok hI
  unfold RV
  go_enter Try.func47, Try.ntmps47
  go_wp2_with fail
  refine (is_at _ hi c s _ _ _ _ _ (H.out.grown (by go_grown)) HOK.out i _ HI.out).mono ?_; rintro e w1 ⟨rfl, g1⟩
  obtain ⟨B3, B6, G⟩ := boxes2 (l1 := [.int .i64 c.t, .int .i64 c.b, .int .i64 c.i, .int .i64 c.f, .int .i64 c.k, .slice A1 n1 kc1, .slice A2 n2 kc2, .slice (some ⟨gs3, 0, none⟩) c.t kc3, .slice A4 n4 kc4, .slice A5 n5 kc5]) (l2 := [.int .i64 0, .int .i64 0, .int .i64 0, .int .i64 0, .int .i64 0, .slice none 0 0, .slice none 0 0, .slice none 0 0, .slice none 0 0, .slice none 0 0]) g1
  replace B3 := Lib.hid B3
  replace B6 := Lib.hid B6
  have Q : But (Bx w.heap.size 2) w1 w1 := But.refl _ _
  clear g1
  replace a3 := gcell G a3
  have b0 := B3.out.cell 0 _ rfl
  have b1 := B3.out.cell 1 _ rfl
  have b2 := B3.out.cell 2 _ rfl
  have b3 := B3.out.cell 3 _ rfl
  have b4 := B3.out.cell 4 _ rfl
  have b5 := B3.out.cell 5 _ rfl
  have b6 := B3.out.cell 6 _ rfl
  have b7 := B3.out.cell 7 _ rfl
  have b8 := B3.out.cell 8 _ rfl
  have b9 := B3.out.cell 9 _ rfl
  have hlt3 := B3.out.lt
  go_wp2_with fail
  refine (find_at_ _ hi c s _ _ _ _ _ (H.out.grown G) HOK.out (by omega) op).mono ?_; rintro e w2 ⟨r, rfl, hr, m1⟩
  clear b0 b1 b2 b3 b4 b5 b6 b7 b8 b9 hlt3
  replace B3 := Lib.hid (B3.out.grown m1)
  replace B6 := Lib.hid (B6.out.grown m1)
  replace Q := Q.trans (But.of_grown m1)
  obtain ⟨j, rfl⟩ : ∃ j : Nat, r = j := by
    rcases hr with ⟨rfl, hs⟩ | ⟨j, y, rfl, -, -, hs⟩
    · rw [HO.out] at hs; cases hs
    · exact ⟨j, rfl⟩
  have ej : decide ((j : Int) < 0) = false := decide_eq_false (by omega)
  replace a3 := gcell m1 a3
  clear hr m1
  have bb4 := B3.out.cell 4 _ rfl
  have bb7 := B3.out.cell 7 _ rfl
  have e3 : ((at_ s.made i : Int) == 2 * (c.k : Int)) = false := by simp; omega
  have b0 := B3.out.cell 0 _ rfl
  have b1 := B3.out.cell 1 _ rfl
  have b2 := B3.out.cell 2 _ rfl
  have b3 := B3.out.cell 3 _ rfl
  go_wp2_with fail
  refine (rNode_at _ _ _ _ _ _ _ _ _ HV.out).mono ?_; rintro e w3 ⟨rfl, m2⟩
  clear b0 b1 b2 b3 bb4 bb7
  replace B3 := Lib.hid (B3.out.grown m2)
  replace B6 := Lib.hid (B6.out.grown m2)
  replace Q := Q.trans (But.of_grown m2)
  clear m2
  have b7 := B3.out.cell 7 _ rfl
  go_wp2_with fail
  refine (more_at _ hi (w.heap.size + 2) _ s.made i (by omega) (by rw [l3]; exact H.out.f3.grown (But.fresh G Q (fun i hi => hi.1))) (by have := B6.out.lt; omega) (by omega) (by omega)).mono ?_; rintro e w4 ⟨v1, rfl, F1, m3⟩
  rw [l3] at F1
  obtain ⟨gn, kn, rfl, hn1, PN⟩ := F1.some ht1
  replace PN : Hid (RowIn w4 gn (vNat (bump s.made i))) := Lib.hid PN
  clear F1 b7
  have LN : gn < w4.heap.size := PN.out.lt (by rw [vNat_len, length_bump]; omega)
  replace B3 := Lib.hid (B3.out.grown m3)
  replace B6 := Lib.hid (B6.out.grown m3)
  replace Q := Q.trans (But.of_grown m3)
  have Pn := PN; have Ln := LN; clear PN LN m3
  have b7 := B3.out.cell 7 _ rfl
  have qb7 := B3.out.free 7
  have b9 := B3.out.cell 9 _ rfl
  have hlt3 := B3.out.lt
  go_wp2_with (first | (at_builtin; refine stop ?_) | fail)
  clear b7 qb7 b9 hlt3
  have hsz : (w4.setCell ⟨w.heap.size, 7, none⟩ (.slice (some ⟨gn, 0, none⟩) c.t kn)).heap.size = w4.heap.size := by simp
  have kv2 : But (Bx w.heap.size 2) w4 (w4.setCell ⟨w.heap.size, 7, none⟩ (.slice (some ⟨gn, 0, none⟩) c.t kn)) := (But.refl _ _).setCell (.inl ⟨Nat.le_refl _, by show w.heap.size < w.heap.size + 2; omega⟩) _
  replace B3 := Lib.hid (B3.out.set (j := 7) (by simp) (.slice (some ⟨gn, 0, none⟩) c.t kn))
  simp only [List.set_cons_succ, List.set_cons_zero] at B3
  replace B6 := Lib.hid (B6.out.put (a := ⟨w.heap.size, 7, none⟩) (by show w.heap.size ≠ w.heap.size + 1; omega) (.slice (some ⟨gn, 0, none⟩) c.t kn))
  replace Pn := Lib.hid (Pn.out.but kv2 (bx_not (by omega)))
  replace Ln := Nat.lt_of_lt_of_le Ln kv2.2.2
  replace Q := Q.trans kv2
  generalize w4.setCell ⟨w.heap.size, 7, none⟩ (.slice (some ⟨gn, 0, none⟩) c.t kn) = v2 at *
  clear kv2
  have kv3 : Grown v2 (v2.alloc (.cells #[] 62)) := by go_grown
  have hlt := B6.out.lt
  have OWN : (v2.alloc (.cells #[] 62)).ownsRow (w.heap.size + 2) 62 2 (.slice (some ⟨v2.heap.size, 0, none⟩) 0 0) 0 [] := own_made (by omega)
  have LO : v2.heap.size < (v2.alloc (.cells #[] 62)).heap.size := by simp
  have hwa : w1.heap.size ≤ v2.heap.size := Q.2.2
  have hba : w.heap.size + 2 ≤ v2.heap.size := by omega
  have nna : gn ≠ v2.heap.size := by omega
  rw [hsz] at OWN LO hwa hba nna
  clear hsz
  obtain ⟨ga, hga⟩ : ∃ q, w4.heap.size = q := ⟨_, rfl⟩
  rw [hga] at OWN LO hwa hba nna ⊢
  clear hga
  generalize v2.alloc (.cells #[] 62) = v3 at *
  replace OWN := Lib.hid OWN
  have HVO : (Value.slice (some ⟨ga, 0, none⟩) 0 0).ownBlock = some ga := rfl
  replace B3 := Lib.hid (B3.out.grown kv3)
  replace B6 := Lib.hid (B6.out.grown kv3)
  replace Pn := Lib.hid (Pn.out.grown kv3)
  replace Ln := Nat.lt_of_lt_of_le Ln (kv3).2.2
  replace Q := Q.trans (But.of_grown kv3)
  clear kv3 hlt
  have hlt := B6.out.lt
  unfold Stop
  refine wpList_push rfl _ _ 30 rfl (w.heap.size + 2) 62 (.agg #[.int .i64 0, .int .i64 0]) 2 16 Try.underlying30 info_node rfl (by decide) _ 0 [] ga OWN.out HVO (.slice A5 n5 kc5) s.nodes.length hi (flatN s.nodes) (H.out.f5.grown (But.fresh G Q (fun i hi => hi.1))) (flatN_len _) (flatN_one _) (by omega) (by decide) (by omega) rfl rfl ?_
  intro v3 w3 g3 OWN3 hv3 hg3 q3
  try simp only [Nat.zero_add, List.nil_append] at OWN3
  have nnb : gn ≠ g3 := by omega
  have hwb : w1.heap.size ≤ g3 := by have := Q.2.2; omega
  have hbb : w.heap.size + 2 ≤ g3 := by omega
  have LO3 : g3 < w3.heap.size := (OWN3.lt g3 hv3).2
  replace B3 := Lib.hid (B3.out.but q3 (show ¬ w.heap.size = ga by omega))
  replace B6 := Lib.hid (B6.out.but q3 (show ¬ w.heap.size + 1 = ga by omega))
  replace Pn := Lib.hid (Pn.out.but q3 (show ¬ gn = ga by omega))
  replace Ln := Nat.lt_of_lt_of_le Ln (q3).2.2
  have hq1 : ¬ ga < w1.heap.size := by omega
  replace Q := Q.over q3 hq1
  clear hq1
  clear OWN HVO LO q3 hg3 hlt hwa hba nna
  have OWN := Lib.hid OWN3
  have HVO := hv3
  have LO := LO3
  clear OWN3 hv3 LO3
  go_wp2_with (first | (at_builtin; refine stop ?_) | fail)
  have kv4 : Grown w3 (w3.alloc (.cells #[.int .i64 (nd : Int), .int .i64 (op : Int)] 62)) := by go_grown
  have hlt := B6.out.lt
  have PC : Hid (RowIn (w3.alloc (.cells #[.int .i64 (nd : Int), .int .i64 (op : Int)] 62)) w3.heap.size [.int .i64 (nd : Int), .int .i64 (op : Int)]) := Lib.hid (RowIn.made _ _ _)
  have LC : w3.heap.size < (w3.alloc (.cells #[.int .i64 (nd : Int), .int .i64 (op : Int)] 62)).heap.size := by simp
  have hbc : w.heap.size + 2 ≤ w3.heap.size := by omega
  have ncb : w3.heap.size ≠ g3 := by omega
  obtain ⟨gc, hgc⟩ : ∃ q, w3.heap.size = q := ⟨_, rfl⟩
  rw [hgc] at PC LC hbc ncb ⊢
  clear hgc
  generalize w3.alloc (.cells #[.int .i64 (nd : Int), .int .i64 (op : Int)] 62) = v4 at *
  replace B3 := Lib.hid (B3.out.grown kv4)
  replace B6 := Lib.hid (B6.out.grown kv4)
  replace Pn := Lib.hid (Pn.out.grown kv4)
  replace Ln := Nat.lt_of_lt_of_le Ln (kv4).2.2
  replace OWN := Lib.hid (own_but OWN.out HVO (S := fun _ => False) kv4 (fun f => f))
  replace LO := Nat.lt_of_lt_of_le LO (kv4).2.2
  replace Q := Q.trans (But.of_grown kv4)
  have Pc := PC; have Lc := LC; clear PC LC kv4 hlt
  have hlt := B6.out.lt
  unfold Stop
  refine wpList_push rfl _ _ 30 rfl (w.heap.size + 2) 62 (.agg #[.int .i64 0, .int .i64 0]) 2 16 Try.underlying30 info_node rfl (by decide) _ s.nodes.length (flatN s.nodes) g3 OWN.out HVO (.slice (some ⟨gc, 0, none⟩) 1 1) 1 0 [.int .i64 (nd : Int), .int .i64 (op : Int)] (Pc.out.flat (by decide) (Nat.zero_le _)) rfl (two_one nd op) (by omega) (by decide) (by omega) rfl rfl ?_
  intro v8 w8 g8 OWN8 hv8 hg8 q8
  try simp only [Nat.zero_add, List.nil_append] at OWN8
  replace B3 := Lib.hid (B3.out.but q8 (show ¬ w.heap.size = g3 by omega))
  replace B6 := Lib.hid (B6.out.but q8 (show ¬ w.heap.size + 1 = g3 by omega))
  replace Pn := Lib.hid (Pn.out.but q8 (show ¬ gn = g3 by omega))
  replace Ln := Nat.lt_of_lt_of_le Ln (q8).2.2
  replace Pc := Lib.hid (Pc.out.but q8 (show ¬ gc = g3 by omega))
  replace Lc := Nat.lt_of_lt_of_le Lc (q8).2.2
  have hq1 : ¬ g3 < w1.heap.size := by omega
  replace Q := Q.over q8 hq1
  clear hq1
  clear OWN HVO LO q8 hlt hwb hbb nnb ncb
  obtain ⟨gz, kz, rfl, hbz, PZ⟩ := (FlatAt.of_own OWN8 (by omega)).some (by omega)
  have Pz : Hid (RowIn w8 gz (flatN s.nodes ++ [.int .i64 (nd : Int), .int .i64 (op : Int)])) := Lib.hid PZ
  clear PZ OWN8 hv8 hg8 Pc Lc hbc
  have bold := B3.out.cell 9 _ rfl
  have qbold := B3.out.free 9
  have kW : But (Bx w.heap.size 2) w8 (w8.setCell ⟨w.heap.size, 9, none⟩ (.slice (some ⟨gz, 0, none⟩) (s.nodes.length + 1) kz)) := (But.refl _ _).setCell (.inl ⟨Nat.le_refl _, by show w.heap.size < w.heap.size + 2; omega⟩) _
  replace B3 := Lib.hid (B3.out.set (j := 9) (by simp) (.slice (some ⟨gz, 0, none⟩) (s.nodes.length + 1) kz))
  simp only [List.set_cons_succ, List.set_cons_zero] at B3
  replace B6 := Lib.hid (B6.out.put (a := ⟨w.heap.size, 9, none⟩) (by show w.heap.size ≠ w.heap.size + 1; omega) (.slice (some ⟨gz, 0, none⟩) (s.nodes.length + 1) kz))
  replace Pn := Lib.hid (Pn.out.but kW (bx_not (by omega)))
  replace Pz := Lib.hid (Pz.out.but kW (bx_not (by omega)))
  replace Q := Q.trans kW
  clear kW
  have Lz : True := trivial
  have b0 := B3.out.cell 0 _ rfl
  have b1 := B3.out.cell 1 _ rfl
  have b2 := B3.out.cell 2 _ rfl
  have b3 := B3.out.cell 3 _ rfl
  have b4 := B3.out.cell 4 _ rfl
  have b5 := B3.out.cell 5 _ rfl
  have b6 := B3.out.cell 6 _ rfl
  have b7 := B3.out.cell 7 _ rfl
  have b8 := B3.out.cell 8 _ rfl
  have b9 := B3.out.cell 9 _ rfl
  have c0 := B6.out.cell 0 _ rfl
  have c1 := B6.out.cell 1 _ rfl
  have c2 := B6.out.cell 2 _ rfl
  have c3 := B6.out.cell 3 _ rfl
  have c4 := B6.out.cell 4 _ rfl
  have c5 := B6.out.cell 5 _ rfl
  have c6 := B6.out.cell 6 _ rfl
  have c7 := B6.out.cell 7 _ rfl
  have c8 := B6.out.cell 8 _ rfl
  have c9 := B6.out.cell 9 _ rfl
  have qc0 := B6.out.free 0
  have qc1 := B6.out.free 1
  have qc2 := B6.out.free 2
  have qc3 := B6.out.free 3
  have qc4 := B6.out.free 4
  have qc5 := B6.out.free 5
  have qc6 := B6.out.free 6
  have qc7 := B6.out.free 7
  have qc8 := B6.out.free 8
  have qc9 := B6.out.free 9
  have hlt := B6.out.lt
  have hlt3 := B3.out.lt
  go_wp2_with fail
  have B2 := B6.out.fill rfl (.int .i64 c.t) (.int .i64 c.b) (.int .i64 c.i) (.int .i64 c.f) (.int .i64 c.k) (.slice A1 n1 kc1) (.slice A2 n2 kc2) (.slice (some ⟨gn, 0, none⟩) c.t kn) (.slice A4 n4 kc4) (.slice (some ⟨gz, 0, none⟩) (s.nodes.length + 1) kz)
  have e0 := B2.cell 0 _ rfl
  have e1 := B2.cell 1 _ rfl
  have e2 := B2.cell 2 _ rfl
  have e3 := B2.cell 3 _ rfl
  have e4 := B2.cell 4 _ rfl
  have e5 := B2.cell 5 _ rfl
  have e6 := B2.cell 6 _ rfl
  have e7 := B2.cell 7 _ rfl
  have e8 := B2.cell 8 _ rfl
  have e9 := B2.cell 9 _ rfl
  have kS := (But.refl (Bx w.heap.size 2) (w8.setCell ⟨w.heap.size, 9, none⟩ (.slice (some ⟨gz, 0, none⟩) (s.nodes.length + 1) kz))).fill (b := w.heap.size + 1) (.inl ⟨by omega, by omega⟩) (.int .i64 c.t) (.int .i64 c.b) (.int .i64 c.i) (.int .i64 c.f) (.int .i64 c.k) (.slice A1 n1 kc1) (.slice A2 n2 kc2) (.slice (some ⟨gn, 0, none⟩) c.t kn) (.slice A4 n4 kc4) (.slice (some ⟨gz, 0, none⟩) (s.nodes.length + 1) kz)
  have gE := But.fresh G (Q.trans kS) (fun i hi => hi.1)
  replace Pn := Lib.hid (Pn.out.but kS (bx_not (by omega)))
  replace Pz := Lib.hid (Pz.out.but kS (bx_not (by omega)))
  refine bodyPost_ret (v := .tuple #[RV c (.slice A1 n1 kc1) (.slice A2 n2 kc2) (.slice (some ⟨gn, 0, none⟩) c.t kn) (.slice A4 n4 kc4) (.slice (some ⟨gz, 0, none⟩) (s.nodes.length + 1) kz), .int .i64 (nd : Int), .int .i64 0]) (by simp [results, Try.results47, go_sem, RV, e0, e1, e2, e3, e4, e5, e6, e7, e8, e9]) rfl ?_
  exact ⟨_, _, _, _, _, rfl, ⟨H.out.f1.grown gE, H.out.f2.grown gE, Pn.out.flat ht1 (by omega), H.out.f4.grown gE, (by rw [flatN_app, List.length_append]; exact Pz.out.flat (by simp) (by omega))⟩, gE, .inl rfl, .inl rfl, .inr (Pn.out.flat ht1 (by omega)), .inl rfl, .inr ((by rw [flatN_app, List.length_append]; exact Pz.out.flat (by simp) (by omega)))⟩
end Go.Proofs.Ytcoemkgkdkijdaa
