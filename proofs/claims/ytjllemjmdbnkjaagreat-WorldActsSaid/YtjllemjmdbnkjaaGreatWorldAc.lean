/- The laws of package world, walked: whatever is done to a world. -/
import Derived.Test.YtjllemjmdbnkjaaGreatWRefE
import Derived.Test.YtjllemjmdbnkjaaGreatWorldSt
import Derived.Test.YtjllemjmdbnkjaaGreatOther
import Derived.Test.YtjllemjmdbnkjaaGreatOpen
import Derived.LoopTactic
namespace Go.Proofs.YtjllemjmdbnkjaaGreat
open Go.ChangeShapes Go.WideShapes Go.ChangeAt Go.RowKit
set_option maxRecDepth 100000
set_option linter.unusedVariables false

/-- An act. -/
structure ActW where
  k : Int
  i : Int
  op : Int
  old : Int
  v : Int
/- A RUN: the words, and the steps, behind so many acts. -/
def swW (c : Cf) (act : Nat → ActW) : Nat → List Int
  | 0 => List.replicate c.len 0
  | j + 1 => acW c (swW c act j) (act j).k (act j).i (act j).op (act j).old (act j).v
def swN (c : Cf) (act : Nat → ActW) : Nat → Int
  | 0 => 0
  | j + 1 => swN c act j + cnt (swW c act j) (plI c (act j).k (act j).i)
theorem length_acW (c : Cf) (ws : List Int) (k i op old v : Int) : (acW c ws k i op old v).length = ws.length := by
  unfold acW
  split
  · exact length_sw_ _ _ _ _
  · split
    · exact length_wr _ _ _
    · split
      · exact length_wr _ _ _
      · rfl
theorem length_swW (c : Cf) (act : Nat → ActW) : ∀ j, (swW c act j).length = c.len
  | 0 => by simp [swW]
  | j + 1 => (length_acW _ _ _ _ _ _ _).trans (length_swW c act j)
theorem swN_le (c : Cf) (act : Nat → ActW) : ∀ j, 0 ≤ swN c act j ∧ swN c act j ≤ j
  | 0 => ⟨Int.le_refl _, Int.le_refl _⟩
  | j + 1 => by
    have h := swN_le c act j
    have h2 : 0 ≤ cnt (swW c act j) (plI c (act j).k (act j).i) ∧ cnt (swW c act j) (plI c (act j).k (act j).i) ≤ 1 := by unfold cnt; split <;> omega
    simp only [swN]
    omega
/-- The acts lie in memory. -/
def ActsW (w : World) (bb off m : Nat) (act : Nat → ActW) : Prop :=
  ∀ j, j < m → w.cell? ⟨bb, off + j * 5, none⟩ = some (.int .u8 (act j).k) ∧ w.cell? ⟨bb, off + j * 5 + 1, none⟩ = some (.int .i64 (act j).i) ∧ w.cell? ⟨bb, off + j * 5 + 2, none⟩ = some (.int .u16 (act j).op) ∧
    w.cell? ⟨bb, off + j * 5 + 3, none⟩ = some (.int .u64 (act j).old) ∧ w.cell? ⟨bb, off + j * 5 + 4, none⟩ = some (.int .u64 (act j).v) ∧ 0 ≤ (act j).k ∧ (act j).k ≤ 255 ∧ 0 ≤ (act j).op ∧ (act j).op ≤ 65535
theorem ActsW.grown {w w' : World} {bb off m : Nat} {act : Nat → ActW} (h : ActsW w bb off m act) (g : Grown w w') : ActsW w' bb off m act := fun j hj => by
  obtain ⟨h0, h1, h2, h3, h4, h5⟩ := h j hj
  exact ⟨gcell g h0, gcell g h1, gcell g h2, gcell g h3, gcell g h4, h5⟩
theorem actsW_of {w : World} {bb off m : Nat} (h : NumsAt w bb off m [.u8, .i64, .u16, .u64, .u64]) : ∃ act, ActsW w bb off m act := by
  have key : ∀ j, ∃ x : ActW, j < m → w.cell? ⟨bb, off + j * 5, none⟩ = some (.int .u8 x.k) ∧ w.cell? ⟨bb, off + j * 5 + 1, none⟩ = some (.int .i64 x.i) ∧ w.cell? ⟨bb, off + j * 5 + 2, none⟩ = some (.int .u16 x.op) ∧
      w.cell? ⟨bb, off + j * 5 + 3, none⟩ = some (.int .u64 x.old) ∧ w.cell? ⟨bb, off + j * 5 + 4, none⟩ = some (.int .u64 x.v) ∧ 0 ≤ x.k ∧ x.k ≤ 255 ∧ 0 ≤ x.op ∧ x.op ≤ 65535 := by
    intro j
    by_cases hj : j < m
    · obtain ⟨a, ha, wa⟩ := h j hj 0 _ rfl
      obtain ⟨b, hb, -⟩ := h j hj 1 _ rfl
      obtain ⟨c, hc, wc⟩ := h j hj 2 _ rfl
      obtain ⟨d, hd, -⟩ := h j hj 3 _ rfl
      obtain ⟨e, he, -⟩ := h j hj 4 _ rfl
      obtain ⟨l, u⟩ := has_u8 wa
      obtain ⟨l2, u2⟩ := has_u16 wc
      exact ⟨⟨a, b, c, d, e⟩, fun _ => ⟨ha, hb, hc, hd, he, l, u, l2, u2⟩⟩
    · exact ⟨⟨0, 0, 0, 0, 0⟩, fun h => absurd h hj⟩
  exact ⟨fun j => Classical.choose (key j), fun j hj => Classical.choose_spec (key j) hj⟩

/-- Where the run has come: x: the block of the document's World. -/
def RunW (W : World) (c : Cf) (d : Wd) (sl : Sl) (x : Nat) (act : Nat → ActW) (j : Nat) (w : World) : Prop :=
  Grown W w ∧ WdAt w c d (swW c act j) (swN c act j) (St.new c) ∧
  ∃ b cap, Box w x [.int .i64 c.t, .int .i64 c.b, .int .i64 c.i, .int .i64 c.f, .int .i64 c.k, .slice (some ⟨b, 0, none⟩) c.len cap, .int .i64 (swN c act j), .int .i64 c.t, .int .i64 c.b, .int .i64 c.i, .int .i64 c.f, .int .i64 c.k, .slice sl.a1 sl.m1 sl.k1, .slice sl.a2 sl.m2 sl.k2, .slice sl.a3 sl.m3 sl.k3, .slice sl.a4 sl.m4 sl.k4, .slice sl.a5 sl.m5 sl.k5] ∧ Holds w b (swW c act j) ∧ ¬ Mine d.p d.b b
theorem WdAt.other {w w' : World} {c : Cf} {d : Wd} {ws : List Int} {n : Int} {s : St} {T : Nat} {z : Int} (h : WdAt w c d ws n s) (q : But (fun i => i = T) w w') (hT : d.a.hi ≤ T) (hm : ¬ Mine d.p d.b T) (hx : ¬ d.x = T)
    (h1 : w.cell? ⟨T, 1, none⟩ = some (.int .i64 z)) : WdAt w' c d ws n s := by
  have hp : ¬ d.p = T := fun e => hm (.inl e.symm)
  have hb : ¬ d.b = T := fun e => hm (.inr e.symm)
  have B := h.bank
  exact ⟨q.cell hx h.k0, q.cell hx h.k1, q.cell hx h.k2, q.cell hx h.k3, q.cell hx h.k4, q.cell hx h.k5, q.cell hx h.k6,
    ⟨q.cell hp B.words, q.cell hp B.steps, fun i j hij => q.frozen (B.free i j hij), fun j hj => q.cell hb (B.cells j hj), B.apart, Nat.lt_of_lt_of_le B.ltb q.2.2, B.few⟩,
    h.book.other q (by omega) h1, h.len, h.mine, h.o1, h.o2, h.o3⟩
theorem peek_gr {W : World} {c : Cf} {d : Wd} {ws : List Int} {n : Int} {s : St} (h : WdAt W c d ws n s) (j : Nat) (hj : j < ws.length) (y : Int) (hy : ws[j] = y) (g : GrW W) :
    Calls Tryz.prog 11 #[.pointer (some ⟨d.p, 0, none⟩), .int .i64 j] g.w fun e w' => e = .returned (.int .u64 y) ∧ Grown g.w w' := by
  subst hy
  exact Peek_in _ d.p d.b ws n j hj (h.bank.grown g.gr)
theorem len_gr {W : World} {c : Cf} {d : Wd} {ws : List Int} {n : Int} {s : St} (h : WdAt W c d ws n s) (q : Nat) (hq : ws.length = q) (g : GrW W) :
    Calls Tryz.prog 12 #[.pointer (some ⟨d.p, 0, none⟩)] g.w fun e w' => e = .returned (.int .i64 q) ∧ Grown g.w w' := by
  subst hq
  exact cLen_at _ d.p d.b ws n (h.bank.grown g.gr)
/-- An act of the document's, of so many cells. -/
def RW3L (c : Cf) (sl : Sl) (b0 q : Nat) (ws : List Int) (n r : Int) (dn : Bool) (m : Int) (w : World) (e : Ending) (w' : World) : Prop :=
  ∃ b cap, e = .returned (.tuple #[.agg #[.int .i64 c.t, .int .i64 c.b, .int .i64 c.i, .int .i64 c.f, .int .i64 c.k, .slice (some ⟨b, 0, none⟩) q cap, .int .i64 n, .int .i64 c.t, .int .i64 c.b, .int .i64 c.i, .int .i64 c.f, .int .i64 c.k, .slice sl.a1 sl.m1 sl.k1, .slice sl.a2 sl.m2 sl.k2, .slice sl.a3 sl.m3 sl.k3, .slice sl.a4 sl.m4 sl.k4, .slice sl.a5 sl.m5 sl.k5], .int .u64 r, .bool dn, .int .i64 m]) ∧ Grown w w' ∧ Holds w' b ws ∧ (b = b0 ∨ w.heap.size ≤ b)
theorem rwDo_len (w : World) (c : Cf) (sl : Sl) (b cap q : Nat) (ws : List Int) (n k i op old v : Int) (hq : ws.length = q) (hc : Holds w b ws) (hf : q ≤ 1048576) (hn : 0 ≤ n) (hn' : n < 4611686018427387904) (k0 : 0 ≤ k) (k1 : k ≤ 255) (o0 : 0 ≤ op) (o1 : op ≤ 65535) :
    Calls Tryz.prog 9 #[.agg #[.int .i64 c.t, .int .i64 c.b, .int .i64 c.i, .int .i64 c.f, .int .i64 c.k, .slice (some ⟨b, 0, none⟩) q cap, .int .i64 n, .int .i64 c.t, .int .i64 c.b, .int .i64 c.i, .int .i64 c.f, .int .i64 c.k, .slice sl.a1 sl.m1 sl.k1, .slice sl.a2 sl.m2 sl.k2, .slice sl.a3 sl.m3 sl.k3, .slice sl.a4 sl.m4 sl.k4, .slice sl.a5 sl.m5 sl.k5], .agg #[.int .u8 k, .int .i64 i, .int .u16 op, .int .u64 old, .int .u64 v]] w (RW3L c sl b q (acW c ws k i op old v) (n + cnt ws (plI c k i)) (acR c ws k i) (acB c ws k i old) (acT c ws k i) w) := by
  subst hq
  refine (rwDo_any w c sl b cap ws n k i op old v hc hf hn hn' k0 k1 o0 o1).mono fun e w' h => ?_
  obtain ⟨b2, cap2, rfl, h⟩ := h
  exact ⟨b2, cap2, by rw [length_acW], h⟩

set_option maxHeartbeats 8000000 in
theorem law_WorldActs0 (t b i f k : Int) (A : Option Addr) (bb off m cc : Nat) (act : Nat → ActW) (w : World) (_ : -9223372036854775808 ≤ t) (_ : t ≤ 9223372036854775807) (_ : -9223372036854775808 ≤ b) (_ : b ≤ 9223372036854775807) (_ : -9223372036854775808 ≤ i) (_ : i ≤ 9223372036854775807) (_ : -9223372036854775808 ≤ f) (_ : f ≤ 9223372036854775807) (_ : -9223372036854775808 ≤ k) (_ : k ≤ 9223372036854775807) (hA : 0 < m → A = some ⟨bb, off, none⟩) (ha : ActsW w bb off m act) :
    Calls Tryz.prog 3 #[.agg #[.int .i64 t, .int .i64 b, .int .i64 i, .int .i64 f, .int .i64 k], .slice A m cc] w fun e w' => e = .returned (.bool true) ∧ Grown w w' := by
  obtain ⟨fw, hfw⟩ : ∃ v, bFew t b i f k = v := ⟨_, rfl⟩
  have HF := Lib.hid hfw
  have HA := Lib.hid ha
  have HAd := Lib.hid hA
  clear ha hA
  cases fw with
  | false =>
    clear hfw
    go_enter Tryz.func3, Tryz.ntmps3
    go_wp2_with fail
    refine (wAwake _).mono ?_; rintro e w0 ⟨rfl, g0⟩
    have a0 : w0.cell? ⟨w.heap.size, 0, none⟩ = some (.int .i64 t) := gcell g0 (by simp [go_sem])
    have a1 : w0.cell? ⟨w.heap.size, 1, none⟩ = some (.int .i64 b) := gcell g0 (by simp [go_sem])
    have a2 : w0.cell? ⟨w.heap.size, 2, none⟩ = some (.int .i64 i) := gcell g0 (by simp [go_sem])
    have a3 : w0.cell? ⟨w.heap.size, 3, none⟩ = some (.int .i64 f) := gcell g0 (by simp [go_sem])
    have a4 : w0.cell? ⟨w.heap.size, 4, none⟩ = some (.int .i64 k) := gcell g0 (by simp [go_sem])
    replace g0 : Grown w w0 := gtr (by go_grown) g0
    go_wp2_with fail
    refine (Few_at _ _ _ _ _ _ _ HF.out).mono ?_; rintro e w1 ⟨rfl, g1⟩
    go_wp2_with fail
    go_ret
    exact ⟨rfl, gtr g0 g1⟩
  | true =>
    obtain ⟨c, rfl, rfl, rfl, rfl, rfl, hok, ft, fb, fk⟩ := few_cf hfw
    have HOK := Lib.hid hok
    clear hfw hok
    by_cases hm : 30 < m
    · have em : decide (30 < m) = true := decide_eq_true hm
      go_enter Tryz.func3, Tryz.ntmps3
      go_wp2_with fail
      refine (wAwake _).mono ?_; rintro e w0 ⟨rfl, g0⟩
      have a0 : w0.cell? ⟨w.heap.size, 0, none⟩ = some (.int .i64 c.t) := gcell g0 (by simp [go_sem])
      have a1 : w0.cell? ⟨w.heap.size, 1, none⟩ = some (.int .i64 c.b) := gcell g0 (by simp [go_sem])
      have a2 : w0.cell? ⟨w.heap.size, 2, none⟩ = some (.int .i64 c.i) := gcell g0 (by simp [go_sem])
      have a3 : w0.cell? ⟨w.heap.size, 3, none⟩ = some (.int .i64 c.f) := gcell g0 (by simp [go_sem])
      have a4 : w0.cell? ⟨w.heap.size, 4, none⟩ = some (.int .i64 c.k) := gcell g0 (by simp [go_sem])
      replace g0 : Grown w w0 := gtr (by go_grown) g0
      go_wp2_with fail
      refine (Few_at _ _ _ _ _ _ _ HF.out).mono ?_; rintro e w1 ⟨rfl, g1⟩
      go_wp2_with fail
      go_ret
      exact ⟨rfl, gtr g0 g1⟩
    · have em : decide (30 < m) = false := decide_eq_false hm
      go_enter Tryz.func3, Tryz.ntmps3
      go_wp2_with fail
      refine (wAwake _).mono ?_; rintro e w0 ⟨rfl, g0⟩
      have a0 : w0.cell? ⟨w.heap.size, 0, none⟩ = some (.int .i64 c.t) := gcell g0 (by simp [go_sem])
      have a1 : w0.cell? ⟨w.heap.size, 1, none⟩ = some (.int .i64 c.b) := gcell g0 (by simp [go_sem])
      have a2 : w0.cell? ⟨w.heap.size, 2, none⟩ = some (.int .i64 c.i) := gcell g0 (by simp [go_sem])
      have a3 : w0.cell? ⟨w.heap.size, 3, none⟩ = some (.int .i64 c.f) := gcell g0 (by simp [go_sem])
      have a4 : w0.cell? ⟨w.heap.size, 4, none⟩ = some (.int .i64 c.k) := gcell g0 (by simp [go_sem])
      replace g0 : Grown w w0 := gtr (by go_grown) g0
      go_wp2_with fail
      refine (Few_at _ _ _ _ _ _ _ HF.out).mono ?_; rintro e w1 ⟨rfl, g1⟩
      replace a0 := gcell g1 a0; replace a1 := gcell g1 a1; replace a2 := gcell g1 a2; replace a3 := gcell g1 a3; replace a4 := gcell g1 a4
      replace g1 := gtr g0 g1; clear g0
      go_wp2_with fail
      refine (wNew_at _ c HOK.out).mono ?_; rintro e w2 ⟨d, rfl, g2, h2, hp, hb, -, -⟩
      replace hp := Nat.le_trans g1.2.2 hp
      replace hb := Nat.le_trans g1.2.2 hb
      replace a0 := gcell g2 a0; replace a1 := gcell g2 a1; replace a2 := gcell g2 a2; replace a3 := gcell g2 a3; replace a4 := gcell g2 a4
      replace g2 := gtr g1 g2; clear g1
      have H2 := Lib.hid h2
      clear h2
      go_wp2_with fail
      refine (rWNew_at _ 0 c HOK.out (Nat.zero_le _)).mono ?_; rintro e w3 ⟨b3, s1, s2, s3, s4, s5, rfl, hh, hb3, hr, g3⟩
      obtain ⟨⟨A1, m1, j1, rfl⟩, ⟨A2, m2, j2, rfl⟩, ⟨A3, m3, j3, rfl⟩, ⟨A4, m4, j4, rfl⟩, ⟨A5, m5, j5, rfl⟩⟩ := hr.slices
      have hm3 : ¬ Mine d.p d.b b3 := H2.out.new hb3
      have H3 := Lib.hid (H2.out.grown g3)
      have HH := Lib.hid hh
      replace g3 := gtr g2 g3
      clear g2 hh hb3 hr H2 a0 a1 a2 a3 a4
      simp only [WV]
      have TZ := Lib.hid (Box.made w3 [.int .i64 0, .int .i64 0, .int .i64 0, .int .i64 0, .int .i64 0, .slice none 0 0, .int .i64 0, .int .i64 0, .int .i64 0, .int .i64 0, .int .i64 0, .int .i64 0, .slice none 0 0, .slice none 0 0, .slice none 0 0, .slice none 0 0, .slice none 0 0] 40)
      obtain ⟨sl, rfl, rfl, rfl, rfl, rfl, rfl, rfl, rfl, rfl, rfl, rfl, rfl, rfl, rfl, rfl⟩ : ∃ sl : Sl, A1 = sl.a1 ∧ m1 = sl.m1 ∧ j1 = sl.k1 ∧ A2 = sl.a2 ∧ m2 = sl.m2 ∧ j2 = sl.k2 ∧ A3 = sl.a3 ∧ m3 = sl.m3 ∧ j3 = sl.k3 ∧ A4 = sl.a4 ∧ m4 = sl.m4 ∧ j4 = sl.k4 ∧ A5 = sl.a5 ∧ m5 = sl.m5 ∧ j5 = sl.k5 :=
        ⟨⟨A1, m1, j1, A2, m2, j2, A3, m3, j3, A4, m4, j4, A5, m5, j5⟩, rfl, rfl, rfl, rfl, rfl, rfl, rfl, rfl, rfl, rfl, rfl, rfl, rfl, rfl, rfl⟩
      have ga : Grown w3 (w3.alloc (.cells #[.int .i64 0, .int .i64 0, .int .i64 0, .int .i64 0, .int .i64 0, .slice none 0 0, .int .i64 0, .int .i64 0, .int .i64 0, .int .i64 0, .int .i64 0, .int .i64 0, .slice none 0 0, .slice none 0 0, .slice none 0 0, .slice none 0 0, .slice none 0 0] 40)) := by go_grown
      go_wp2_with (first
        | (refine store_box rfl 40 _ _ rfl w3.heap.size [.int .i64 0, .int .i64 0, .int .i64 0, .int .i64 0, .int .i64 0, .slice none 0 0, .int .i64 0, .int .i64 0, .int .i64 0, .int .i64 0, .int .i64 0, .int .i64 0, .slice none 0 0, .slice none 0 0, .slice none 0 0, .slice none 0 0, .slice none 0 0] ?_ #[.int .i64 c.t, .int .i64 c.b, .int .i64 c.i, .int .i64 c.f, .int .i64 c.k, .slice (some ⟨b3, 0, none⟩) c.len c.len, .int .i64 0, .int .i64 c.t, .int .i64 c.b, .int .i64 c.i, .int .i64 c.f, .int .i64 c.k, .slice sl.a1 sl.m1 sl.k1, .slice sl.a2 sl.m2 sl.k2, .slice sl.a3 sl.m3 sl.k3, .slice sl.a4 sl.m4 sl.k4, .slice sl.a5 sl.m5 sl.k5] rfl rfl rfl (by kernel_rfl) rfl ?_; exact TZ.out; intro u3 B3 q3; have X3 := Lib.hid B3; clear B3)
        | fail)
      obtain ⟨x, hx⟩ : ∃ q, w3.heap.size = q := ⟨_, rfl⟩
      have hmx : ¬ Mine d.p d.b x := H3.out.new (by omega)
      have hxx : ¬ d.x = x := by have := H3.out.xlt; omega
      have hhi : d.a.hi ≤ x := by have := H3.out.book.o6; omega
      have hwx : w.heap.size ≤ x := by have := g3.2.2; omega
      have G3 : Grown w3 u3 := But.fresh ga q3 (fun i hi => by rw [hi]; exact Nat.le_refl _)
      rw [hx] at X3 ⊢
      have W3 : WdAt u3 c d (swW c act 0) (swN c act 0) (St.new c) := H3.out.grown G3
      have HH3 : Holds u3 b3 (swW c act 0) := HH.out.grown G3
      have hm30 : m ≤ 30 := by omega
      have hll : c.len ≤ 1048576 := len_le HOK.out
      have R0 : RunW w c d sl x act 0 u3 := ⟨gtr g3 G3, W3, b3, c.len, X3.out, HH3, hm3⟩
      have HR0 := Lib.hid R0
      have hxl := X3.out.lt
      clear hm3 H3 HH W3 HH3 R0 X3 TZ ga G3 q3 g3 hx
      go_loopw [10] (fun i wr => ∃ k : Nat, k ≤ m ∧ i = .int .i64 k ∧ RunW w c d sl x act k wr) (fun i _ => m - (intOf i).toNat)
      case atStart => exact ⟨0, Nat.zero_le _, rfl, HR0.out⟩
      case round =>
        clear HR0
        obtain ⟨k, hk, rfl, hR⟩ := hrel
        by_cases hlt : k < m
        · obtain rfl : A = some ⟨bb, off, none⟩ := HAd.out (by omega)
          clear HAd
          obtain ⟨r1, r2, b1, cap1, r3, r4, r5⟩ := hR
          have N := swN_le c act k
          have LW : (swW c act k).length = c.len := length_swW c act k
          have HW : Hid (swW c act (k + 1) = acW c (swW c act k) (act k).k (act k).i (act k).op (act k).old (act k).v) := Lib.hid rfl
          have HN : Hid (swN c act (k + 1) = swN c act k + cnt (swW c act k) (plI c (act k).k (act k).i)) := Lib.hid rfl
          generalize swW c act k = ws at *
          generalize swN c act k = ns at *
          obtain ⟨e0, e1, e2, e3, e4, e5, e6, e7, e8⟩ := (HA.out.grown r1) k hlt
          have HWd := Lib.hid r2
          have HX := Lib.hid r3
          have HO := Lib.hid r4
          have hLW := Lib.hid LW
          have ed : decide (k < m) = true := decide_eq_true hlt
          clear r2 r3 r4 LW
          go_wp2_with fail
          refine (wDo_any _ c d ws ns _ (act k).k (act k).i (act k).op (act k).old (act k).v HWd.out (by omega) (by omega) e5 e6 e7 e8).mono ?_; rintro e w4 ⟨rfl, q4, h4⟩
          have G4 : Grown w w4 := fresh8 r1 q4 hp hb
          obtain ⟨e0, e1, e2, e3, e4, -⟩ := (HA.out.grown G4) k hlt
          have H4 := Lib.hid h4
          have X4 := Lib.hid (HX.out.but q4 hmx)
          have HH4 : Holds w4 b1 ws := fun j hj => q4.cell r5 (HO.out j hj)
          have O4 := Lib.hid HH4
          clear h4 HH4 HWd HX HO q4 r1
          obtain ⟨R0, hr0⟩ : ∃ q, acR c ws (act k).k (act k).i = q := ⟨_, rfl⟩
          obtain ⟨B0, hb0⟩ : ∃ q, acB c ws (act k).k (act k).i (act k).old = q := ⟨_, rfl⟩
          obtain ⟨T0, ht0⟩ : ∃ q, acT c ws (act k).k (act k).i = q := ⟨_, rfl⟩
          rw [hr0, hb0, ht0]
          have HR0 := Lib.hid hr0
          have HB0 := Lib.hid hb0
          have HT0 := Lib.hid ht0
          clear hr0 hb0 ht0
          go_wp2_with fail
          refine wp_region_plang (.two [0, 1, 2, 3, 4] 5 (.one [6, 7, 8, 9, 10] 11 (.one [] 12 (.fin [13, 14, 15]))) 11 (.one [] 5 (.one [6, 7, 8, 9, 10] 12 (.fin [13, 14, 15])))) (by kernel_rfl) (by kernel_rfl) (by kernel_rfl) ?_
          intro w5 g5
          have X5 := Lib.hid (X4.out.grown g5)
          have d0 : ∀ g : GrW w5, g.w.cell? ⟨x, 0, none⟩ = some (.int .i64 c.t) := GrW.cell (X5.out.cell 0 _ rfl)
          have d1 : ∀ g : GrW w5, g.w.cell? ⟨x, 1, none⟩ = some (.int .i64 c.b) := GrW.cell (X5.out.cell 1 _ rfl)
          have d2 : ∀ g : GrW w5, g.w.cell? ⟨x, 2, none⟩ = some (.int .i64 c.i) := GrW.cell (X5.out.cell 2 _ rfl)
          have d3 : ∀ g : GrW w5, g.w.cell? ⟨x, 3, none⟩ = some (.int .i64 c.f) := GrW.cell (X5.out.cell 3 _ rfl)
          have d4 : ∀ g : GrW w5, g.w.cell? ⟨x, 4, none⟩ = some (.int .i64 c.k) := GrW.cell (X5.out.cell 4 _ rfl)
          have d5 : ∀ g : GrW w5, g.w.cell? ⟨x, 5, none⟩ = some (.slice (some ⟨b1, 0, none⟩) c.len cap1) := GrW.cell (X5.out.cell 5 _ rfl)
          have d6 : ∀ g : GrW w5, g.w.cell? ⟨x, 6, none⟩ = some (.int .i64 ns) := GrW.cell (X5.out.cell 6 _ rfl)
          have d7 : ∀ g : GrW w5, g.w.cell? ⟨x, 7, none⟩ = some (.int .i64 c.t) := GrW.cell (X5.out.cell 7 _ rfl)
          have d8 : ∀ g : GrW w5, g.w.cell? ⟨x, 8, none⟩ = some (.int .i64 c.b) := GrW.cell (X5.out.cell 8 _ rfl)
          have d9 : ∀ g : GrW w5, g.w.cell? ⟨x, 9, none⟩ = some (.int .i64 c.i) := GrW.cell (X5.out.cell 9 _ rfl)
          have d10 : ∀ g : GrW w5, g.w.cell? ⟨x, 10, none⟩ = some (.int .i64 c.f) := GrW.cell (X5.out.cell 10 _ rfl)
          have d11 : ∀ g : GrW w5, g.w.cell? ⟨x, 11, none⟩ = some (.int .i64 c.k) := GrW.cell (X5.out.cell 11 _ rfl)
          have d12 : ∀ g : GrW w5, g.w.cell? ⟨x, 12, none⟩ = some (.slice sl.a1 sl.m1 sl.k1) := GrW.cell (X5.out.cell 12 _ rfl)
          have d13 : ∀ g : GrW w5, g.w.cell? ⟨x, 13, none⟩ = some (.slice sl.a2 sl.m2 sl.k2) := GrW.cell (X5.out.cell 13 _ rfl)
          have d14 : ∀ g : GrW w5, g.w.cell? ⟨x, 14, none⟩ = some (.slice sl.a3 sl.m3 sl.k3) := GrW.cell (X5.out.cell 14 _ rfl)
          have d15 : ∀ g : GrW w5, g.w.cell? ⟨x, 15, none⟩ = some (.slice sl.a4 sl.m4 sl.k4) := GrW.cell (X5.out.cell 15 _ rfl)
          have d16 : ∀ g : GrW w5, g.w.cell? ⟨x, 16, none⟩ = some (.slice sl.a5 sl.m5 sl.k5) := GrW.cell (X5.out.cell 16 _ rfl)
          have a0 : ∀ g : GrW w5, g.w.cell? ⟨bb, off + k * 5, none⟩ = some (.int .u8 (act k).k) := GrW.cell (gcell g5 e0)
          have a1 : ∀ g : GrW w5, g.w.cell? ⟨bb, off + k * 5 + 1, none⟩ = some (.int .i64 (act k).i) := GrW.cell (gcell g5 e1)
          have a2 : ∀ g : GrW w5, g.w.cell? ⟨bb, off + k * 5 + 2, none⟩ = some (.int .u16 (act k).op) := GrW.cell (gcell g5 e2)
          have a3 : ∀ g : GrW w5, g.w.cell? ⟨bb, off + k * 5 + 3, none⟩ = some (.int .u64 (act k).old) := GrW.cell (gcell g5 e3)
          have a4 : ∀ g : GrW w5, g.w.cell? ⟨bb, off + k * 5 + 4, none⟩ = some (.int .u64 (act k).v) := GrW.cell (gcell g5 e4)
          clear e0 e1 e2 e3 e4
          refine plan_two ?_
          simp only [nths, nth, List.map_cons, List.map_nil, List.getD_cons_zero, List.getD_cons_succ]
          repeat go_big_quiet_step (fail)
          clear d0 d1 d2 d3 d4 d5 d6 d7 d8 d9 d10 d11 d12 d13 d14 d15 d16 a0 a1 a2 a3 a4
          refine wpQuiet_nil ⟨?_, ?_⟩
          focus
            go_wp2_with fail
            refine (rwDo_len _ c sl b1 cap1 c.len ws ns (act k).k (act k).i (act k).op (act k).old (act k).v hLW.out (O4.out.grown g5) (by omega) (by omega) (by omega) e5 e6 e7 e8).mono ?_; rintro e w6 ⟨b2, cap2, rfl, g6, h6, hb6⟩
            have H6 := Lib.hid h6
            have HB2 : Hid (b2 = b1 ∨ w5.heap.size ≤ b2) := Lib.hid (hb6.imp id (fun h => Nat.le_trans (Nat.le_refl _) h))
            have G6 : Grown w5 w6 := g6
            clear h6 hb6
            obtain ⟨n2, hn2⟩ : ∃ q, ns + cnt ws (plI c (act k).k (act k).i) = q := ⟨_, rfl⟩
            rw [hn2, HR0.out, HB0.out, HT0.out]
            have HN2 := Lib.hid hn2
            clear hn2
            go_wp2_with fail
            refine nxt_stay G6 (plan_one ?_)
            simp only [nths, nth, List.map_cons, List.map_nil, List.getD_cons_zero, List.getD_cons_succ]
            repeat go_big_quiet_step (fail)
            refine wpQuiet_nil ?_
            go_wp2_with fail
            have TZ := Lib.hid (Box.made w6 [.int .i64 0, .int .i64 0, .int .i64 0, .int .i64 0, .int .i64 0, .slice none 0 0, .int .i64 0, .int .i64 0, .int .i64 0, .int .i64 0, .int .i64 0, .int .i64 0, .slice none 0 0, .slice none 0 0, .slice none 0 0, .slice none 0 0, .slice none 0 0] 40)
            have ga : Grown w6 (w6.alloc (.cells #[.int .i64 0, .int .i64 0, .int .i64 0, .int .i64 0, .int .i64 0, .slice none 0 0, .int .i64 0, .int .i64 0, .int .i64 0, .int .i64 0, .int .i64 0, .int .i64 0, .slice none 0 0, .slice none 0 0, .slice none 0 0, .slice none 0 0, .slice none 0 0] 40)) := by go_grown
            refine nxt_stay (gtr G6 ga) (plan_one ?_)
            simp only [nths, nth, List.map_nil, List.getD_cons_zero, List.getD_cons_succ]
            refine wpQuiet_nil ?_
            go_wp2_with (first | (refine store_box rfl 40 _ _ rfl w6.heap.size [.int .i64 0, .int .i64 0, .int .i64 0, .int .i64 0, .int .i64 0, .slice none 0 0, .int .i64 0, .int .i64 0, .int .i64 0, .int .i64 0, .int .i64 0, .int .i64 0, .slice none 0 0, .slice none 0 0, .slice none 0 0, .slice none 0 0, .slice none 0 0] ?_ #[.int .i64 c.t, .int .i64 c.b, .int .i64 c.i, .int .i64 c.f, .int .i64 c.k, .slice (some ⟨b2, 0, none⟩) c.len cap2, .int .i64 n2, .int .i64 c.t, .int .i64 c.b, .int .i64 c.i, .int .i64 c.f, .int .i64 c.k, .slice sl.a1 sl.m1 sl.k1, .slice sl.a2 sl.m2 sl.k2, .slice sl.a3 sl.m3 sl.k3, .slice sl.a4 sl.m4 sl.k4, .slice sl.a5 sl.m5 sl.k5] rfl rfl rfl (by kernel_rfl) rfl ?_; exact TZ.out; intro w7 B7 q7; have T7 := Lib.hid B7; clear B7) | fail)
            have GZ : Grown w6 w7 := But.fresh ga q7 (fun i hi => by rw [hi]; exact Nat.le_refl _)
            have GT : Grown w5 w7 := gtr G6 GZ
            have HS : Holds w7 b2 (acW c ws (act k).k (act k).i (act k).op (act k).old (act k).v) := H6.out.grown GZ
            have H7 := Lib.hid HS
            have hT7 : w5.heap.size ≤ w6.heap.size := G6.2.2
            clear HS GZ ga TZ H6
            obtain ⟨tb, htb⟩ : ∃ q, w6.heap.size = q := ⟨_, rfl⟩
            rw [htb] at T7 hT7 ⊢
            clear htb
            refine nxt_stay GT (plan_fin ?_)
            simp only [nths, nth, List.map_cons, List.map_nil, List.getD_cons_zero, List.getD_cons_succ]
            repeat go_big_quiet_step (fail)
            refine wpQuiet_nil ?_
          rotate_left
          focus
            go_wp2_with fail
            have TZ := Lib.hid (Box.made w5 [.int .i64 0, .int .i64 0, .int .i64 0, .int .i64 0, .int .i64 0, .slice none 0 0, .int .i64 0, .int .i64 0, .int .i64 0, .int .i64 0, .int .i64 0, .int .i64 0, .slice none 0 0, .slice none 0 0, .slice none 0 0, .slice none 0 0, .slice none 0 0] 40)
            have ga : Grown w5 (w5.alloc (.cells #[.int .i64 0, .int .i64 0, .int .i64 0, .int .i64 0, .int .i64 0, .slice none 0 0, .int .i64 0, .int .i64 0, .int .i64 0, .int .i64 0, .int .i64 0, .int .i64 0, .slice none 0 0, .slice none 0 0, .slice none 0 0, .slice none 0 0, .slice none 0 0] 40)) := by go_grown
            obtain ⟨tb, htb⟩ : ∃ q, w5.heap.size = q := ⟨_, rfl⟩
            have hT7 : w5.heap.size ≤ tb := by omega
            rw [htb] at TZ ⊢
            generalize w5.alloc (.cells #[.int .i64 0, .int .i64 0, .int .i64 0, .int .i64 0, .int .i64 0, .slice none 0 0, .int .i64 0, .int .i64 0, .int .i64 0, .int .i64 0, .int .i64 0, .int .i64 0, .slice none 0 0, .slice none 0 0, .slice none 0 0, .slice none 0 0, .slice none 0 0] 40) = uu at *
            clear htb
            refine nxt_stay ga (plan_one ?_)
            simp only [nths, nth, List.map_nil, List.getD_cons_zero, List.getD_cons_succ]
            refine wpQuiet_nil ?_
            go_wp2_with fail
            refine (rwDo_len _ c sl b1 cap1 c.len ws ns (act k).k (act k).i (act k).op (act k).old (act k).v hLW.out (O4.out.grown (gtr g5 ga)) (by omega) (by omega) (by omega) e5 e6 e7 e8).mono ?_; rintro e w6 ⟨b2, cap2, rfl, g6, h6, hb6⟩
            have H6 := Lib.hid h6
            have HB2 : Hid (b2 = b1 ∨ w5.heap.size ≤ b2) := Lib.hid (hb6.imp id (fun h => Nat.le_trans ga.2.2 h))
            have G6 : Grown w5 w6 := gtr ga g6
            clear h6 hb6
            obtain ⟨n2, hn2⟩ : ∃ q, ns + cnt ws (plI c (act k).k (act k).i) = q := ⟨_, rfl⟩
            rw [hn2, HR0.out, HB0.out, HT0.out]
            have HN2 := Lib.hid hn2
            clear hn2
            go_wp2_with fail
            refine nxt_stay G6 (plan_one ?_)
            simp only [nths, nth, List.map_cons, List.map_nil, List.getD_cons_zero, List.getD_cons_succ]
            repeat go_big_quiet_step (fail)
            refine wpQuiet_nil ?_
            have TZ6 := Lib.hid (TZ.out.grown g6)
            go_wp2_with (first | (refine store_box rfl 40 _ _ rfl tb [.int .i64 0, .int .i64 0, .int .i64 0, .int .i64 0, .int .i64 0, .slice none 0 0, .int .i64 0, .int .i64 0, .int .i64 0, .int .i64 0, .int .i64 0, .int .i64 0, .slice none 0 0, .slice none 0 0, .slice none 0 0, .slice none 0 0, .slice none 0 0] ?_ #[.int .i64 c.t, .int .i64 c.b, .int .i64 c.i, .int .i64 c.f, .int .i64 c.k, .slice (some ⟨b2, 0, none⟩) c.len cap2, .int .i64 n2, .int .i64 c.t, .int .i64 c.b, .int .i64 c.i, .int .i64 c.f, .int .i64 c.k, .slice sl.a1 sl.m1 sl.k1, .slice sl.a2 sl.m2 sl.k2, .slice sl.a3 sl.m3 sl.k3, .slice sl.a4 sl.m4 sl.k4, .slice sl.a5 sl.m5 sl.k5] rfl rfl rfl (by kernel_rfl) rfl ?_; exact TZ6.out; intro w7 B7 q7; have T7 := Lib.hid B7; clear B7) | fail)
            have GT : Grown w5 w7 := But.fresh G6 q7 (fun i hi => by rw [hi]; omega)
            have HS : Holds w7 b2 (acW c ws (act k).k (act k).i (act k).op (act k).old (act k).v) := fun j hj => q7.cell (by intro hx; have z0 := TZ6.out.cell 0 _ rfl; have z1 := H6.out 0 (by omega); rw [hx, z0] at z1; cases z1) (H6.out j hj)
            have H7 := Lib.hid HS
            clear HS TZ TZ6 ga H6 q7
            refine nxt_stay GT (plan_fin ?_)
            simp only [nths, nth, List.map_cons, List.map_nil, List.getD_cons_zero, List.getD_cons_succ]
            repeat go_big_quiet_step (fail)
            refine wpQuiet_nil ?_
          all_goals
            have X7 := Lib.hid (X5.out.grown GT)
            have W7 := Lib.hid (H4.out.grown (gtr g5 GT))
            have G7 : Grown w w7 := gtr G4 (gtr g5 GT)
            have hnx : ¬ tb = x := by have h1 := X5.out.lt; omega
            have hm2 : ¬ Mine d.p d.b b2 := by
              rcases HB2.out with h | h
              · rw [h]; exact r5
              · exact (H4.out.grown g5).new h
            clear X5 X4 O4 H4 G4 g5 GT HB2
            go_wp2_with (first
              | (refine load_box rfl 40 _ rfl tb rfl [.int .i64 c.t, .int .i64 c.b, .int .i64 c.i, .int .i64 c.f, .int .i64 c.k, .slice (some ⟨b2, 0, none⟩) c.len cap2, .int .i64 n2, .int .i64 c.t, .int .i64 c.b, .int .i64 c.i, .int .i64 c.f, .int .i64 c.k, .slice sl.a1 sl.m1 sl.k1, .slice sl.a2 sl.m2 sl.k2, .slice sl.a3 sl.m3 sl.k3, .slice sl.a4 sl.m4 sl.k4, .slice sl.a5 sl.m5 sl.k5] _ Tryz.underlying40 rfl (by kernel_rfl) ?_ ?_; exact T7.out)
              | (refine store_box rfl 40 _ _ rfl x [.int .i64 c.t, .int .i64 c.b, .int .i64 c.i, .int .i64 c.f, .int .i64 c.k, .slice (some ⟨b1, 0, none⟩) c.len cap1, .int .i64 ns, .int .i64 c.t, .int .i64 c.b, .int .i64 c.i, .int .i64 c.f, .int .i64 c.k, .slice sl.a1 sl.m1 sl.k1, .slice sl.a2 sl.m2 sl.k2, .slice sl.a3 sl.m3 sl.k3, .slice sl.a4 sl.m4 sl.k4, .slice sl.a5 sl.m5 sl.k5] ?_ #[.int .i64 c.t, .int .i64 c.b, .int .i64 c.i, .int .i64 c.f, .int .i64 c.k, .slice (some ⟨b2, 0, none⟩) c.len cap2, .int .i64 n2, .int .i64 c.t, .int .i64 c.b, .int .i64 c.i, .int .i64 c.f, .int .i64 c.k, .slice sl.a1 sl.m1 sl.k1, .slice sl.a2 sl.m2 sl.k2, .slice sl.a3 sl.m3 sl.k3, .slice sl.a4 sl.m4 sl.k4, .slice sl.a5 sl.m5 sl.k5] rfl rfl rfl (by kernel_rfl) rfl ?_; exact X7.out; intro w8 B8 q8; have X8 := Lib.hid B8; clear B8)
              | fail)
            have W8 := Lib.hid (W7.out.other q8 hhi hmx hxx (X7.out.cell 1 _ rfl))
            have HS : Holds w8 b2 (acW c ws (act k).k (act k).i (act k).op (act k).old (act k).v) := fun j hj => q8.cell (by intro hx; have z0 := X7.out.cell 0 _ rfl; have z1 := H7.out 0 (by omega); rw [hx, z0] at z1; cases z1) (H7.out j hj)
            have H8 := Lib.hid HS
            have G8 : Grown w w8 := But.fresh G7 q8 (fun i hi => by rw [hi]; exact hwx)
            clear HS H7 X7 W7 G7 q8 T7
            have v1 : (R0 != R0) = false := by simp
            have v2 : (B0 != B0) = false := by simp
            have v3 : (T0 != T0) = false := by simp
            have v4 : (n2 != n2) = false := by simp
            have d1 : ∀ g : GrW w8, g.w.cell? ⟨d.x, 5, none⟩ = some (.pointer (some ⟨d.p, 0, none⟩)) := GrW.cell W8.out.k5
            have d2 : ∀ g : GrW w8, g.w.cell? ⟨x, 6, none⟩ = some (.int .i64 n2) := GrW.cell (X8.out.cell 6 _ rfl)
            have hB8 : Bank w8 d.p d.b (acW c ws (act k).k (act k).i (act k).op (act k).old (act k).v) n2 := by rw [← HN2.out]; exact W8.out.bank
            have BK := Lib.hid hB8
            clear hB8
            refine wp_region_grow (by kernel_rfl) (by kernel_rfl) ?_
            repeat (go_big_quiet_step ((go_at_call 10; exact grcall (Steps_at _ _ _ _ _ (BK.out.grown (GrW.gr _))))))
            refine wpQuiet_nil ?_; intro w9 hw9
            have g9 : Grown w8 w9 := by obtain ⟨g, rfl⟩ := hw9; exact g.gr
            clear d1 d2 v1 v2 v3 v4 hw9
            go_wp2_with fail
            refine ⟨⟨k + 1, hlt, by simp, gtr G8 g9, ?_, b2, cap2, ?_, ?_, hm2⟩, by simp [intOf]; omega⟩
            · rw [HW.out, HN.out]; exact W8.out.grown g9
            · rw [HN.out, HN2.out]; exact X8.out.grown g9
            · rw [HW.out]; exact H8.out.grown g9
        · obtain rfl : k = m := by omega
          have ed : decide (k < k) = false := decide_eq_false (by omega)
          obtain ⟨r1, r2, b1, cap1, r3, r4, r5⟩ := hR
          have LW : (swW c act k).length = c.len := length_swW c act k
          generalize swW c act k = ws at *
          generalize swN c act k = ns at *
          have hLW := Lib.hid LW
          have HWd := Lib.hid r2
          have HX := Lib.hid r3
          have HO := Lib.hid r4
          clear r2 r3 r4 LW hlt hk ed
          go_wp2_with fail
          go_loopw [18] (fun i wr => ∃ j : Nat, j ≤ c.len ∧ i = .int .i64 j ∧ WdAt wr c d ws ns (St.new c) ∧ Box wr x [.int .i64 c.t, .int .i64 c.b, .int .i64 c.i, .int .i64 c.f, .int .i64 c.k, .slice (some ⟨b1, 0, none⟩) c.len cap1, .int .i64 ns, .int .i64 c.t, .int .i64 c.b, .int .i64 c.i, .int .i64 c.f, .int .i64 c.k, .slice sl.a1 sl.m1 sl.k1, .slice sl.a2 sl.m2 sl.k2, .slice sl.a3 sl.m3 sl.k3, .slice sl.a4 sl.m4 sl.k4, .slice sl.a5 sl.m5 sl.k5] ∧ Holds wr b1 ws ∧ Grown w wr) (fun i _ => c.len - (intOf i).toNat)
          case atStart => exact ⟨0, Nat.zero_le _, rfl, HWd.out, HX.out, HO.out, r1⟩
          case round =>
            obtain ⟨j, hj, rfl, s1, s2, s3, s4⟩ := hrel
            have c5 := s2.cell 5 _ rfl
            have S1 := Lib.hid s1
            have S2 := Lib.hid s2
            have S3 := Lib.hid s3
            clear s1 s2 s3 HWd HX HO r1
            by_cases hjl : j < c.len
            · have ed : decide (j < c.len) = true := decide_eq_true hjl
              have hjw : j < ws.length := by rw [hLW.out]; exact hjl
              obtain ⟨y, hy⟩ : ∃ y, ws[j] = y := ⟨_, rfl⟩
              have d1 : ∀ g : GrW _, g.w.cell? ⟨d.x, 5, none⟩ = some (.pointer (some ⟨d.p, 0, none⟩)) := GrW.cell S1.out.k5
              have d2 : ∀ g : GrW _, g.w.cell? ⟨x, 5, none⟩ = some (.slice (some ⟨b1, 0, none⟩) c.len cap1) := GrW.cell c5
              have d3 : ∀ g : GrW _, g.w.cell? ⟨b1, j, none⟩ = some (.int .u64 y) := GrW.cell (by rw [← hy]; exact S3.out j hjw)
              have v1 : (y != y) = false := by simp
              have HY := Lib.hid hy
              clear hy
              go_wp2_with fail
              refine wp_region_grow (by kernel_rfl) (by kernel_rfl) ?_
              repeat (go_big_quiet_step ((go_at_call 11; exact grcall (peek_gr S1.out j hjw y HY.out _))))
              refine wpQuiet_nil ?_; intro w9 hw9
              obtain ⟨g, rfl⟩ := hw9
              have g9 := g.gr
              clear d1 d2 d3 v1
              go_wp2_with fail
              exact ⟨⟨j + 1, hjl, by simp, S1.out.grown g9, S2.out.grown g9, S3.out.grown g9, gtr s4 g9⟩, by simp [intOf]; omega⟩
            · obtain rfl : j = c.len := by omega
              have ed : decide (c.len < c.len) = false := decide_eq_false (by omega)
              have d1 : ∀ g : GrW _, g.w.cell? ⟨d.x, 5, none⟩ = some (.pointer (some ⟨d.p, 0, none⟩)) := GrW.cell S1.out.k5
              have d2 : ∀ g : GrW _, g.w.cell? ⟨x, 5, none⟩ = some (.slice (some ⟨b1, 0, none⟩) c.len cap1) := GrW.cell c5
              have v1 : ((c.len : Int) == (c.len : Int)) = true := by simp
              clear hjl hj
              go_wp2_with fail
              refine wp_region_grow (by kernel_rfl) (by kernel_rfl) ?_
              repeat (go_big_quiet_step ((go_at_call 12; exact grcall (len_gr S1.out c.len hLW.out _))))
              refine wpQuiet_nil ?_; intro w9 hw9
              obtain ⟨g, rfl⟩ := hw9
              have g9 := g.gr
              clear d1 d2 v1
              go_wp2_with fail
              go_ret
              exact ⟨rfl, gtr s4 g9⟩

theorem law_WorldActs (t b i f k : Int) (A : Option Addr) (bb off m cc : Nat) (w : World) (_ : -9223372036854775808 ≤ t) (_ : t ≤ 9223372036854775807) (_ : -9223372036854775808 ≤ b) (_ : b ≤ 9223372036854775807) (_ : -9223372036854775808 ≤ i) (_ : i ≤ 9223372036854775807) (_ : -9223372036854775808 ≤ f) (_ : f ≤ 9223372036854775807) (_ : -9223372036854775808 ≤ k) (_ : k ≤ 9223372036854775807) (hA : 0 < m → A = some ⟨bb, off, none⟩) (hN : NumsAt w bb off m [.u8, .i64, .u16, .u64, .u64]) :
    Calls Tryz.prog 3 #[.agg #[.int .i64 t, .int .i64 b, .int .i64 i, .int .i64 f, .int .i64 k], .slice A m cc] w fun e w' => e = .returned (.bool true) ∧ Grown w w' := by
  obtain ⟨act, ha⟩ := actsW_of hN
  exact law_WorldActs0 t b i f k A bb off m cc act w ‹_› ‹_› ‹_› ‹_› ‹_› ‹_› ‹_› ‹_› ‹_› ‹_› hA ha

end Go.Proofs.YtjllemjmdbnkjaaGreat
