/- The document's answers for package book (corrieref07): Make and Do, whatever the act. -/
import Derived.Test.YtcoemkgkdkijdaaBookRef4
import Derived.Test.YtcoemkgkdkijdaaBookDo
namespace Go.Proofs.Ytcoemkgkdkijdaa
open Go.ChangeShapes Go.WideShapes Go.ChangeAt Go.RowKit
set_option maxRecDepth 100000
set_option linter.unusedVariables false

theorem rMake_any (w : World) (hi : Nat) (c : Cf) (s : St) (s1 s2 s3 s4 s5 : Value) (h : RefS w hi c s s1 s2 s3 s4 s5) (hok : c.Ok) (hI : Inv c s) (hw : hi ≤ w.heap.size) (hl : s.ops.length ≤ 9999) (hl5 : s.nodes.length ≤ 9999) (th op : Int) (r : St × Nat × Nat) (hr : makeI c s th op = r) :
    Calls Try.prog 47 #[RV c s1 s2 s3 s4 s5, .int .i64 th, .int .i64 op] w (RTell hi c r s1 s2 s3 s4 s5 w) := by
  subst hr
  unfold makeI
  by_cases ht : th < 0 ∨ c.t ≤ th
  · rw [if_pos (ht.elim .inl (fun q => .inr (.inl q)))]
    exact rMake_noThread w hi c s s1 s2 s3 s4 s5 h hok hI hw hl hl5 th op ht
  · obtain ⟨i, rfl⟩ : ∃ i : Nat, th = i := ⟨th.toNat, by omega⟩
    have hit : i < c.t := by omega
    cases ho : lookI s.ops op with
    | none =>
      rw [if_pos (.inr (.inr rfl))]
      exact rMake_noOp w hi c s s1 s2 s3 s4 s5 h hok hI hw hl hl5 i hit op ho
    | some x =>
      rw [if_neg (by simp; omega)]
      obtain ⟨n, rfl⟩ : ∃ n : Nat, op = n := by
        by_cases h0 : op < 0
        · simp [lookI, h0] at ho
        · exact ⟨op.toNat, by omega⟩
      simp only [Int.toNat_natCast]
      unfold makeS
      by_cases e1 : at_ s.made i = 2 * c.k
      · rw [if_pos e1]; exact rMake_full w hi c s s1 s2 s3 s4 s5 h hok hI hw hl hl5 i hit n x ho e1
      · rw [if_neg e1]; exact rMake_ok w hi c s s1 s2 s3 s4 s5 h hok hI hw hl hl5 i hit n x ho e1 _ rfl

/-- A slice whose row isn't block b. -/
def Off (v : Value) (b : Nat) : Prop := ∀ g n k, v = .slice (some ⟨g, 0, none⟩) n k → g ≠ b
theorem FlatAt.off {w : World} {lo n b : Nat} {v : Value} {cells : List Value} (h : FlatAt w lo v cells n) (hc : 0 < n → cells ≠ []) (hb : w.heap.size ≤ b) : Off v b := by
  intro g m k e
  rcases h with ⟨-, -, rfl⟩ | ⟨hn, g', cap, rfl, -, hcell⟩
  · cases e
  · cases e
    have hne := hc hn
    have := World.block_lt_of_cell? w _ (hcell 0 _ (List.getElem?_eq_getElem (List.length_pos_iff.2 hne)))
    have : g < w.heap.size := this
    omega
theorem FlatAt.offNew {w : World} {lo n b : Nat} {v : Value} {cells : List Value} (h : FlatAt w lo v cells n) (hb : b < lo) : Off v b := by
  intro g m k e
  rcases h with ⟨-, -, rfl⟩ | ⟨hn, g', cap, rfl, hlo, hcell⟩
  · cases e
  · cases e; omega
theorem FlatAt.offBut {w w' : World} {lo n b : Nat} {v : Value} {cells : List Value} (h : FlatAt w lo v cells n) (ho : Off v b) (q : But (· = b) w w') : FlatAt w' lo v cells n := by
  rcases h with h | ⟨h0, g, cap, rfl, hlo, hc⟩
  · exact .inl h
  · exact .inr ⟨h0, g, cap, rfl, hlo, fun j u hu => q.cell (ho g _ _ rfl) (hc j u hu)⟩
theorem keep_row {w w1 w2 : World} {hi W0 b n n0 : Nat} {t s0 : Value} {cells cells0 : List Value} (h : FlatAt w1 hi t cells n) (h0 : FlatAt w hi s0 cells0 n0) (hc : 0 < n0 → cells0 ≠ []) (o : t = s0 ∨ FlatAt w1 W0 t cells n)
    (q : But (· = b) w1 w2) (hb : w.heap.size ≤ b) (hW : b < W0) (hhi : hi ≤ W0) : FlatAt w2 hi t cells n ∧ (t = s0 ∨ FlatAt w2 w.heap.size t cells n) := by
  rcases o with rfl | o
  · exact ⟨h.offBut (h0.off hc hb) q, .inl rfl⟩
  · have h2 := o.but q (fun i hi e => by omega)
    exact ⟨h2.mono hhi, .inr (h2.mono (by omega))⟩
theorem vNat_ne {l : List Nat} {n : Nat} (h : l.length = n) : 0 < n → vNat l ≠ [] := fun hn e => by have := congrArg List.length e; simp [vNat] at this; subst this; simp at h; omega
theorem flatC_ne {l : List (Nat × Cal)} : 0 < l.length → flatC l ≠ [] := fun hn e => by have := congrArg List.length e; rw [flatC_len, List.length_nil] at this; omega
theorem flatN_ne {l : List (Nat × Nat)} : 0 < l.length → flatN l ≠ [] := fun hn e => by have := congrArg List.length e; rw [flatN_len, List.length_nil] at this; omega

set_option maxHeartbeats 2000000 in
theorem rDo_any (w : World) (hi : Nat) (c : Cf) (s : St) (s1 s2 s3 s4 s5 : Value) (h : RefS w hi c s s1 s2 s3 s4 s5) (hok : c.Ok) (hI : Inv c s) (hw : hi ≤ w.heap.size) (hl : s.ops.length ≤ 9999) (hl5 : s.nodes.length ≤ 9999) (y : ActV) (r : St × Nat × Nat) (hr : actI c s y = r) :
    Calls Try.prog 28 #[RV c s1 s2 s3 s4 s5, y.v] w (RTell hi c r s1 s2 s3 s4 s5 w) := by
  obtain ⟨mk, th, op, x⟩ := y
  obtain ⟨A1, n1, kc1, rfl⟩ := h.f1.slice
  obtain ⟨A2, n2, kc2, rfl⟩ := h.f2.slice
  obtain ⟨A3, n3, kc3, rfl⟩ := h.f3.slice
  obtain ⟨A4, n4, kc4, rfl⟩ := h.f4.slice
  obtain ⟨A5, n5, kc5, rfl⟩ := h.f5.slice
  have H := Lib.hid h
  have HOK := Lib.hid hok
  have HN := Lib.hid hI
  clear h hok hI
  unfold RV ActV.v
  unfold actI at hr
  cases mk with
  | true =>
    have HR := Lib.hid hr
    clear hr
    go_enter Try.func28, Try.ntmps28
    go_wp2_with fail
    refine (rMake_any _ hi c s _ _ _ _ _ (H.out.grown (by go_grown)) HOK.out HN.out (by simp; omega) hl hl5 th op r HR.out).mono ?_; rintro e w1 ⟨t1, t2, t3, t4, t5, rfl, R1, g1, o1, o2, o3, o4, o5⟩
    obtain ⟨D1, m1, j1, rfl⟩ := R1.f1.slice
    obtain ⟨D2, m2, j2, rfl⟩ := R1.f2.slice
    obtain ⟨D3, m3, j3, rfl⟩ := R1.f3.slice
    obtain ⟨D4, m4, j4, rfl⟩ := R1.f4.slice
    obtain ⟨D5, m5, j5, rfl⟩ := R1.f5.slice
    have hsz : (((w.alloc (.cells #[.int .i64 c.t, .int .i64 c.b, .int .i64 c.i, .int .i64 c.f, .int .i64 c.k, .slice A1 n1 kc1, .slice A2 n2 kc2, .slice A3 n3 kc3, .slice A4 n4 kc4, .slice A5 n5 kc5] 32)).alloc (.cells #[.bool true, .int .i64 th, .int .i64 op, .int .i64 x.kind, .int .u64 x.key, .int .u64 x.val, .int .i64 x.lim] 58)).alloc (.cells #[.int .i64 0, .int .i64 0, .int .i64 0, .int .i64 0, .int .i64 0, .slice none 0 0, .slice none 0 0, .slice none 0 0, .slice none 0 0, .slice none 0 0] 32)).heap.size = w.heap.size + 1 + 1 + 1 := by simp
    rw [hsz] at o1 o2 o3 o4 o5
    clear hsz
    obtain ⟨B3, B5, BX, G⟩ := boxes3 (l1 := [.int .i64 c.t, .int .i64 c.b, .int .i64 c.i, .int .i64 c.f, .int .i64 c.k, .slice A1 n1 kc1, .slice A2 n2 kc2, .slice A3 n3 kc3, .slice A4 n4 kc4, .slice A5 n5 kc5]) (l2 := [.bool true, .int .i64 th, .int .i64 op, .int .i64 x.kind, .int .u64 x.key, .int .u64 x.val, .int .i64 x.lim]) (l3 := [.int .i64 0, .int .i64 0, .int .i64 0, .int .i64 0, .int .i64 0, .slice none 0 0, .slice none 0 0, .slice none 0 0, .slice none 0 0, .slice none 0 0]) g1
    have HB := Lib.hid BX
    clear B3 B5 BX g1
    have c0 := HB.out.cell 0 _ rfl
    have c1 := HB.out.cell 1 _ rfl
    have c2 := HB.out.cell 2 _ rfl
    have c3 := HB.out.cell 3 _ rfl
    have c4 := HB.out.cell 4 _ rfl
    have c5 := HB.out.cell 5 _ rfl
    have c6 := HB.out.cell 6 _ rfl
    have c7 := HB.out.cell 7 _ rfl
    have c8 := HB.out.cell 8 _ rfl
    have c9 := HB.out.cell 9 _ rfl
    have qc0 := HB.out.free 0
    have qc1 := HB.out.free 1
    have qc2 := HB.out.free 2
    have qc3 := HB.out.free 3
    have qc4 := HB.out.free 4
    have qc5 := HB.out.free 5
    have qc6 := HB.out.free 6
    have qc7 := HB.out.free 7
    have qc8 := HB.out.free 8
    have qc9 := HB.out.free 9
    have hlt := HB.out.lt
    simp only [RV]
    go_wp2_with fail
    have B2 := HB.out.fill rfl (.int .i64 c.t) (.int .i64 c.b) (.int .i64 c.i) (.int .i64 c.f) (.int .i64 c.k) (.slice D1 m1 j1) (.slice D2 m2 j2) (.slice D3 m3 j3) (.slice D4 m4 j4) (.slice D5 m5 j5)
    have e0 := B2.cell 0 _ rfl
    have e1 := B2.cell 1 _ rfl
    have e2 := B2.cell 2 _ rfl
    have e3 := B2.cell 3 _ rfl
    have e4 := B2.cell 4 _ rfl
    have e5 := B2.cell 5 _ rfl
    have e6 := B2.cell 6 _ rfl
    have e7 := B2.cell 7 _ rfl
    have e8 := B2.cell 8 _ rfl
    have e9 := B2.cell 9 _ rfl
    have kS := (But.refl (· = w.heap.size + 1 + 1) w1).fill (b := w.heap.size + 1 + 1) (.inl rfl) (.int .i64 c.t) (.int .i64 c.b) (.int .i64 c.i) (.int .i64 c.f) (.int .i64 c.k) (.slice D1 m1 j1) (.slice D2 m2 j2) (.slice D3 m3 j3) (.slice D4 m4 j4) (.slice D5 m5 j5)
    have gE := But.fresh G kS (fun i hi => by omega)
    obtain ⟨f1, p1⟩ := keep_row R1.f1 H.out.f1 (vNat_ne HN.out.l1) o1 kS (by omega) (by omega) (by omega)
    obtain ⟨f2, p2⟩ := keep_row R1.f2 H.out.f2 (vNat_ne HN.out.l2) o2 kS (by omega) (by omega) (by omega)
    obtain ⟨f3, p3⟩ := keep_row R1.f3 H.out.f3 (vNat_ne HN.out.l3) o3 kS (by omega) (by omega) (by omega)
    obtain ⟨f4, p4⟩ := keep_row R1.f4 H.out.f4 flatC_ne o4 kS (by omega) (by omega) (by omega)
    obtain ⟨f5, p5⟩ := keep_row R1.f5 H.out.f5 flatN_ne o5 kS (by omega) (by omega) (by omega)
    refine bodyPost_ret (v := .tuple #[RV c (.slice D1 m1 j1) (.slice D2 m2 j2) (.slice D3 m3 j3) (.slice D4 m4 j4) (.slice D5 m5 j5), .int .i64 r.2.1, .int .i64 r.2.2]) (by simp [results, Try.results28, go_sem, RV, e0, e1, e2, e3, e4, e5, e6, e7, e8, e9]) rfl ?_
    exact ⟨_, _, _, _, _, rfl, ⟨f1, f2, f3, f4, f5⟩, gE, p1, p2, p3, p4, p5⟩
  | false =>
    have HR := Lib.hid hr
    clear hr
    go_enter Try.func28, Try.ntmps28
    go_wp2_with fail
    refine (rBegin_any _ hi c s _ _ _ _ _ (H.out.grown (by go_grown)) HOK.out HN.out (by simp; omega) hl th x r HR.out).mono ?_; rintro e w1 ⟨t1, t2, t3, t4, t5, rfl, R1, g1, o1, o2, o3, o4, o5⟩
    obtain ⟨D1, m1, j1, rfl⟩ := R1.f1.slice
    obtain ⟨D2, m2, j2, rfl⟩ := R1.f2.slice
    obtain ⟨D3, m3, j3, rfl⟩ := R1.f3.slice
    obtain ⟨D4, m4, j4, rfl⟩ := R1.f4.slice
    obtain ⟨D5, m5, j5, rfl⟩ := R1.f5.slice
    have hsz : (((w.alloc (.cells #[.int .i64 c.t, .int .i64 c.b, .int .i64 c.i, .int .i64 c.f, .int .i64 c.k, .slice A1 n1 kc1, .slice A2 n2 kc2, .slice A3 n3 kc3, .slice A4 n4 kc4, .slice A5 n5 kc5] 32)).alloc (.cells #[.bool false, .int .i64 th, .int .i64 op, .int .i64 x.kind, .int .u64 x.key, .int .u64 x.val, .int .i64 x.lim] 58)).alloc (.cells #[.int .i64 0, .int .i64 0, .int .i64 0, .int .i64 0, .int .i64 0, .slice none 0 0, .slice none 0 0, .slice none 0 0, .slice none 0 0, .slice none 0 0] 32)).heap.size = w.heap.size + 1 + 1 + 1 := by simp
    rw [hsz] at o1 o2 o3 o4 o5
    clear hsz
    obtain ⟨B3, B5, BX, G⟩ := boxes3 (l1 := [.int .i64 c.t, .int .i64 c.b, .int .i64 c.i, .int .i64 c.f, .int .i64 c.k, .slice A1 n1 kc1, .slice A2 n2 kc2, .slice A3 n3 kc3, .slice A4 n4 kc4, .slice A5 n5 kc5]) (l2 := [.bool false, .int .i64 th, .int .i64 op, .int .i64 x.kind, .int .u64 x.key, .int .u64 x.val, .int .i64 x.lim]) (l3 := [.int .i64 0, .int .i64 0, .int .i64 0, .int .i64 0, .int .i64 0, .slice none 0 0, .slice none 0 0, .slice none 0 0, .slice none 0 0, .slice none 0 0]) g1
    have HB := Lib.hid BX
    clear B3 B5 BX g1
    have c0 := HB.out.cell 0 _ rfl
    have c1 := HB.out.cell 1 _ rfl
    have c2 := HB.out.cell 2 _ rfl
    have c3 := HB.out.cell 3 _ rfl
    have c4 := HB.out.cell 4 _ rfl
    have c5 := HB.out.cell 5 _ rfl
    have c6 := HB.out.cell 6 _ rfl
    have c7 := HB.out.cell 7 _ rfl
    have c8 := HB.out.cell 8 _ rfl
    have c9 := HB.out.cell 9 _ rfl
    have qc0 := HB.out.free 0
    have qc1 := HB.out.free 1
    have qc2 := HB.out.free 2
    have qc3 := HB.out.free 3
    have qc4 := HB.out.free 4
    have qc5 := HB.out.free 5
    have qc6 := HB.out.free 6
    have qc7 := HB.out.free 7
    have qc8 := HB.out.free 8
    have qc9 := HB.out.free 9
    have hlt := HB.out.lt
    simp only [RV]
    go_wp2_with fail
    have B2 := HB.out.fill rfl (.int .i64 c.t) (.int .i64 c.b) (.int .i64 c.i) (.int .i64 c.f) (.int .i64 c.k) (.slice D1 m1 j1) (.slice D2 m2 j2) (.slice D3 m3 j3) (.slice D4 m4 j4) (.slice D5 m5 j5)
    have e0 := B2.cell 0 _ rfl
    have e1 := B2.cell 1 _ rfl
    have e2 := B2.cell 2 _ rfl
    have e3 := B2.cell 3 _ rfl
    have e4 := B2.cell 4 _ rfl
    have e5 := B2.cell 5 _ rfl
    have e6 := B2.cell 6 _ rfl
    have e7 := B2.cell 7 _ rfl
    have e8 := B2.cell 8 _ rfl
    have e9 := B2.cell 9 _ rfl
    have kS := (But.refl (· = w.heap.size + 1 + 1) w1).fill (b := w.heap.size + 1 + 1) (.inl rfl) (.int .i64 c.t) (.int .i64 c.b) (.int .i64 c.i) (.int .i64 c.f) (.int .i64 c.k) (.slice D1 m1 j1) (.slice D2 m2 j2) (.slice D3 m3 j3) (.slice D4 m4 j4) (.slice D5 m5 j5)
    have gE := But.fresh G kS (fun i hi => by omega)
    obtain ⟨f1, p1⟩ := keep_row R1.f1 H.out.f1 (vNat_ne HN.out.l1) o1 kS (by omega) (by omega) (by omega)
    obtain ⟨f2, p2⟩ := keep_row R1.f2 H.out.f2 (vNat_ne HN.out.l2) o2 kS (by omega) (by omega) (by omega)
    obtain ⟨f3, p3⟩ := keep_row R1.f3 H.out.f3 (vNat_ne HN.out.l3) o3 kS (by omega) (by omega) (by omega)
    obtain ⟨f4, p4⟩ := keep_row R1.f4 H.out.f4 flatC_ne o4 kS (by omega) (by omega) (by omega)
    obtain ⟨f5, p5⟩ := keep_row R1.f5 H.out.f5 flatN_ne o5 kS (by omega) (by omega) (by omega)
    refine bodyPost_ret (v := .tuple #[RV c (.slice D1 m1 j1) (.slice D2 m2 j2) (.slice D3 m3 j3) (.slice D4 m4 j4) (.slice D5 m5 j5), .int .i64 r.2.1, .int .i64 r.2.2]) (by simp [results, Try.results28, go_sem, RV, e0, e1, e2, e3, e4, e5, e6, e7, e8, e9]) rfl ?_
    exact ⟨_, _, _, _, _, rfl, ⟨f1, f2, f3, f4, f5⟩, gE, p1, p2, p3, p4, p5⟩
end Go.Proofs.Ytcoemkgkdkijdaa
