/- The document's answers for package book (corrieref07): what they are in memory, and what is asked of them. -/
import Derived.Test.YtagapfejgmmppaaGreatBegin
import Derived.Test.YtagapfejgmmppaaGreatNewB
import Derived.Test.YtagapfejgmmppaaGreatPush
import Derived.Test.YtagapfejgmmppaaGreatLayRef
import Derived.LoopTactic
namespace Go.Proofs.YtagapfejgmmppaaGreat
open Go.ChangeShapes Go.WideShapes Go.ChangeAt Go.RowKit
set_option maxRecDepth 100000
set_option linter.unusedVariables false
def vNat (l : List Nat) : List Value := l.map fun n : Nat => .int .i64 (n : Int)
def flatC (l : List (Nat × Cal)) : List Value := l.flatMap fun p => [.int .i64 (p.1 : Int), .int .i64 p.2.kind, .int .u64 p.2.key, .int .u64 p.2.val, .int .i64 p.2.lim]
def flatN (l : List (Nat × Nat)) : List Value := l.flatMap fun p => [.int .i64 (p.1 : Int), .int .i64 (p.2 : Int)]
theorem vNat_at {l : List Nat} {j : Nat} (hj : j < l.length) : (vNat l)[j]? = some (.int .i64 (at_ l j : Int)) := by
  simp [vNat, at_, List.getD, hj]
theorem flat_at {α : Type} {f : α → List Value} {k : Nat} (hf : ∀ x, (f x).length = k) {o : Nat} (ho : o < k) : ∀ (l : List α) (j : Nat) (x : α), l[j]? = some x → (l.flatMap f)[j * k + o]? = (f x)[o]?
  | [], j, x, h => by simp at h
  | y :: l, 0, x, h => by
    simp only [List.getElem?_cons_zero, Option.some.injEq] at h
    subst h
    rw [List.flatMap_cons, Nat.zero_mul, Nat.zero_add, List.getElem?_append_left (by rw [hf]; exact ho)]
  | y :: l, j + 1, x, h => by
    rw [List.getElem?_cons_succ] at h
    rw [List.flatMap_cons, List.getElem?_append_right (by rw [hf, Nat.add_mul]; omega), hf, show (j + 1) * k + o - k = j * k + o by rw [Nat.add_mul]; omega]
    exact flat_at hf ho l j x h
theorem flatC_len (l : List (Nat × Cal)) : (flatC l).length = l.length * 5 := by
  unfold flatC
  induction l with
  | nil => rfl
  | cons x r ih => rw [List.flatMap_cons, List.length_append, ih, List.length_cons]; simp; omega
theorem flatN_len (l : List (Nat × Nat)) : (flatN l).length = l.length * 2 := by
  unfold flatN
  induction l with
  | nil => rfl
  | cons x r ih => rw [List.flatMap_cons, List.length_append, ih, List.length_cons]; simp; omega
theorem flatC_one (l : List (Nat × Cal)) : ∀ u ∈ flatC l, u.oneCell' = true := by
  intro u hu
  simp only [flatC, List.mem_flatMap] at hu
  obtain ⟨p, -, hp⟩ := hu
  simp only [List.mem_cons, List.not_mem_nil, or_false] at hp
  rcases hp with rfl | rfl | rfl | rfl | rfl <;> rfl
theorem flatN_one (l : List (Nat × Nat)) : ∀ u ∈ flatN l, u.oneCell' = true := by
  intro u hu
  simp only [flatN, List.mem_flatMap] at hu
  obtain ⟨p, -, hp⟩ := hu
  simp only [List.mem_cons, List.not_mem_nil, or_false] at hp
  rcases hp with rfl | rfl <;> rfl

def RV (c : Cf) (s1 s2 s3 s4 s5 : Value) : Value := .agg #[.int .i64 c.t, .int .i64 c.b, .int .i64 c.i, .int .i64 c.f, .int .i64 c.k, s1, s2, s3, s4, s5]
/-- The slices of the document's Book. -/
structure RefS (w : World) (hi : Nat) (c : Cf) (s : St) (s1 s2 s3 s4 s5 : Value) : Prop where
  f1 : FlatAt w hi s1 (vNat s.calls) c.t
  f2 : FlatAt w hi s2 (vNat s.ins) c.t
  f3 : FlatAt w hi s3 (vNat s.made) c.t
  f4 : FlatAt w hi s4 (flatC s.ops) s.ops.length
  f5 : FlatAt w hi s5 (flatN s.nodes) s.nodes.length
theorem RefS.but {S : Nat → Prop} {w w' : World} {hi : Nat} {c : Cf} {s : St} {s1 s2 s3 s4 s5 : Value} (h : RefS w hi c s s1 s2 s3 s4 s5) (q : But S w w') (hs : ∀ i, hi ≤ i → ¬ S i) : RefS w' hi c s s1 s2 s3 s4 s5 :=
  ⟨h.f1.but q hs, h.f2.but q hs, h.f3.but q hs, h.f4.but q hs, h.f5.but q hs⟩
theorem RefS.grown {w w' : World} {hi : Nat} {c : Cf} {s : St} {s1 s2 s3 s4 s5 : Value} (h : RefS w hi c s s1 s2 s3 s4 s5) (q : Grown w w') : RefS w' hi c s s1 s2 s3 s4 s5 :=
  h.but (S := fun _ => False) q (fun _ _ f => f)

theorem is_at (w : World) (hi : Nat) (c : Cf) (s : St) (s1 s2 s3 s4 s5 : Value) (h : RefS w hi c s s1 s2 s3 s4 s5) (hok : c.Ok) (th : Int) (v : Bool) (hv : decide (0 ≤ th ∧ th < c.t) = v) :
    Calls Tryz.prog 81 #[RV c s1 s2 s3 s4 s5, .int .i64 th] w fun e w' => e = .returned (.bool v) ∧ Grown w w' := by
  rcases h.f1 with ⟨h0, -⟩ | ⟨-, g, cap, rfl, hlo, hc⟩
  · have := hok.t1; omega
  · clear h hc hok
    subst hv
    unfold RV
    by_cases h1 : 0 ≤ th <;> by_cases h2 : th < c.t
    all_goals
      simp only [h1, h2, and_self, and_true, and_false, decide_true, decide_false]
      go_enter Tryz.func81, Tryz.ntmps81
      go_wp2
      go_ret
      exact ⟨rfl, by go_grown⟩

/-- Where an operation is. -/
def Find {α : Type} (l : List (Nat × α)) (x r : Int) : Prop := (r = -1 ∧ lookI l x = none) ∨ ∃ (j : Nat) (y : Nat × α), r = j ∧ l[j]? = some y ∧ (y.1 : Int) = x ∧ lookI l x = some y.2
theorem find_first {α : Type} : ∀ (l : List (Nat × α)) (j : Nat) (y : Nat × α), l[j]? = some y → (∀ i, i < j → ∀ z, l[i]? = some z → (z.1 : Int) ≠ (y.1 : Int)) → look l y.1 = some y.2
  | [], j, y, h, _ => by simp at h
  | z :: l, 0, y, h, _ => by
    simp only [List.getElem?_cons_zero, Option.some.injEq] at h
    subst h
    simp [look]
  | z :: l, j + 1, y, h, hb => by
    rw [List.getElem?_cons_succ] at h
    have hz : z.1 ≠ y.1 := fun e => hb 0 (by omega) z rfl (by rw [e])
    simp only [look, if_neg hz]
    exact find_first l j y h fun i hi q hq => hb (i + 1) (by omega) q (by rwa [List.getElem?_cons_succ])
theorem find_none {α : Type} (l : List (Nat × α)) (x : Int) (h : ∀ (i : Nat) (z : Nat × α), l[i]? = some z → (z.1 : Int) ≠ x) : lookI l x = none := by
  unfold lookI
  split
  · rfl
  · refine look_none fun z hz e => ?_
    obtain ⟨i, hi⟩ := List.getElem?_of_mem hz
    exact h i z hi (by omega)

set_option maxHeartbeats 1000000 in
theorem find_at_ (w : World) (hi : Nat) (c : Cf) (s : St) (s1 s2 s3 s4 s5 : Value) (h : RefS w hi c s s1 s2 s3 s4 s5) (hok : c.Ok) (hl : s.ops.length ≤ 99999) (x : Int) :
    Calls Tryz.prog 85 #[RV c s1 s2 s3 s4 s5, .int .i64 x] w fun e w' => ∃ r, e = .returned (.int .i64 r) ∧ Find s.ops x r ∧ Grown w w' := by
  rcases h.f4 with ⟨h0, -, rfl⟩ | ⟨hn, g, cap, rfl, hlo, hc⟩
  · have hnil : s.ops = [] := List.eq_nil_of_length_eq_zero h0
    have HF : Hid (lookI s.ops x = none) := Lib.hid (by rw [hnil]; unfold lookI; split <;> rfl)
    clear h h0 hnil hok
    unfold RV
    go_enter Tryz.func85, Tryz.ntmps85
    go_wp2_with fail
    go_loopw [5] (fun i wr => i = .int .i64 0 ∧ Grown w wr ∧ wr.cell? ⟨w.heap.size, 8, none⟩ = some (.slice none 0 0)) (fun i _ => 0)
    case atStart => exact ⟨rfl, by go_grown, by simp⟩
    case round =>
      obtain ⟨rfl, hg, c8⟩ := hrel
      go_wp2_with fail
      go_ret
      exact ⟨_, rfl, .inl ⟨rfl, HF.out⟩, hg⟩
  · have HC := Lib.hid hc
    obtain ⟨n, hlen⟩ : ∃ n, s.ops.length = n := ⟨_, rfl⟩
    rw [hlen] at hn hl ⊢
    have HLEN := Lib.hid hlen
    clear h hc hok hlen
    unfold RV
    go_enter Tryz.func85, Tryz.ntmps85
    go_wp2_with fail
    go_loopw [5] (fun i wr => ∃ k : Nat, k ≤ n ∧ i = .int .i64 k ∧ Grown w wr ∧ wr.cell? ⟨w.heap.size, 8, none⟩ = some (.slice (some ⟨g, 0, none⟩) n cap) ∧ ∀ j, j < k → ∀ z, s.ops[j]? = some z → (z.1 : Int) ≠ x) (fun i _ => n - (intOf i).toNat)
    case atStart => exact ⟨0, Nat.zero_le _, rfl, by go_grown, by simp, fun j hj => absurd hj (by omega)⟩
    case round =>
      obtain ⟨k, hk, rfl, hg, c8, hb⟩ := hrel
      have HB := Lib.hid hb
      clear hb
      by_cases hkn : k < n
      · have ed : decide (k < n) = true := decide_eq_true hkn
        obtain ⟨y, hy⟩ : ∃ y, s.ops[k]? = some y := ⟨_, List.getElem?_eq_getElem (by rw [HLEN.out]; exact hkn)⟩
        have cy : wr.cell? ⟨g, k * 5, none⟩ = some (.int .i64 (y.1 : Int)) := gcell hg (HC.out (k * 5 + 0) _ (flat_at (k := 5) (fun _ => rfl) (by decide) s.ops k y hy))
        have HY := Lib.hid hy
        clear hy
        by_cases hx : (y.1 : Int) = x
        · have HX := Lib.hid hx
          subst hx
          go_wp2_with fail
          go_ret
          refine ⟨k, rfl, .inr ⟨k, y, rfl, HY.out, rfl, ?_⟩, hg⟩
          rw [lookI_nat]
          exact find_first s.ops k y HY.out fun i hi z hz => HB.out i hi z hz
        · have ex : ((y.1 : Int) == x) = false := by simpa using hx
          go_wp2_with fail
          refine ⟨⟨k + 1, hkn, by simp, hg, c8, fun j hj z hz => ?_⟩, by simp [intOf]; omega⟩
          by_cases hjk : j < k
          · exact HB.out j hjk z hz
          · obtain rfl : j = k := by omega
            rw [HY.out] at hz
            cases hz
            exact hx
      · obtain rfl : k = n := by omega
        have ed : decide (k < k) = false := decide_eq_false (by omega)
        clear hkn
        go_wp2_with fail
        go_ret
        exact ⟨_, rfl, .inl ⟨rfl, find_none s.ops x fun i z hz => HB.out i (by
          have := (List.getElem?_eq_some_iff.1 hz).1
          rw [HLEN.out] at this
          exact this) z hz⟩, hg⟩

theorem rCall_at (w : World) (hi : Nat) (c : Cf) (s : St) (s1 s2 s3 s4 s5 : Value) (h : RefS w hi c s s1 s2 s3 s4 s5) (hok : c.Ok) (hl : s.ops.length ≤ 99999) (x : Int) (o : Option Cal) (ho : lookI s.ops x = o) :
    Calls Tryz.prog 53 #[RV c s1 s2 s3 s4 s5, .int .i64 x] w fun e w' => e = .returned (.tuple #[(o.getD Cal.zero).v, .int .i64 (errOf o)]) ∧ Grown w w' := by
  have H := Lib.hid h
  have HOK := Lib.hid hok
  have H4 := Lib.hid h.f4
  clear h hok
  have key : ∀ w1, Grown w w1 → ∀ j y, s.ops[j]? = some y → ∃ g cap, s4 = .slice (some ⟨g, 0, none⟩) s.ops.length cap ∧ j < s.ops.length ∧ w1.cell? ⟨g, j * 5 + 1, none⟩ = some (.int .i64 y.2.kind) ∧ w1.cell? ⟨g, j * 5 + 1 + 1, none⟩ = some (.int .u64 y.2.key) ∧
      w1.cell? ⟨g, j * 5 + 1 + 2, none⟩ = some (.int .u64 y.2.val) ∧ w1.cell? ⟨g, j * 5 + 1 + 3, none⟩ = some (.int .i64 y.2.lim) := by
    intro w1 g1 j y hy
    rcases H4.out with ⟨h0, -, -⟩ | ⟨hn, g, cap, rfl, hlo, hc⟩
    · have := List.eq_nil_of_length_eq_zero h0
      rw [this] at hy; simp at hy
    · exact ⟨g, cap, rfl, (List.getElem?_eq_some_iff.1 hy).1, gcell g1 (hc _ _ (flat_at (k := 5) (o := 1) (fun _ => rfl) (by decide) s.ops j y hy)), gcell g1 (hc _ _ (flat_at (k := 5) (o := 2) (fun _ => rfl) (by decide) s.ops j y hy)),
        gcell g1 (hc _ _ (flat_at (k := 5) (o := 3) (fun _ => rfl) (by decide) s.ops j y hy)), gcell g1 (hc _ _ (flat_at (k := 5) (o := 4) (fun _ => rfl) (by decide) s.ops j y hy))⟩
  have KEY := Lib.hid key
  clear key
  cases o with
  | none =>
    have HO := Lib.hid ho
    clear ho
    unfold RV
    go_enter Tryz.func53, Tryz.ntmps53
    go_wp2_with fail
    refine (find_at_ _ hi c s s1 s2 s3 s4 s5 (H.out.grown (by go_grown)) HOK.out hl x).mono ?_; rintro e w1 ⟨r, rfl, hr, g1⟩
    rcases hr with ⟨rfl, -⟩ | ⟨j, y, rfl, hy, -, hs⟩
    · have z0 : w1.cell? ⟨w.heap.size + 1, 0, none⟩ = some (.int .i64 0) := gcell g1 (by simp)
      have z1 : w1.cell? ⟨w.heap.size + 1, 1, none⟩ = some (.int .u64 0) := gcell g1 (by simp)
      have z2 : w1.cell? ⟨w.heap.size + 1, 2, none⟩ = some (.int .u64 0) := gcell g1 (by simp)
      have z3 : w1.cell? ⟨w.heap.size + 1, 3, none⟩ = some (.int .i64 0) := gcell g1 (by simp)
      have fz : ∀ j, w1.frozen? ⟨w.heap.size + 1, j, none⟩ = false := fun j => (g1.2.1 _).trans (by simp)
      have f0 := fz 0; have f1 := fz 1; have f2 := fz 2; have f3 := fz 3
      have hlt : w.heap.size + 1 < w1.heap.size := World.block_lt_of_cell? w1 _ z0
      replace g1 := galloc (galloc g1)
      clear fz
      go_wp2
      obtain ⟨e0, e1, e2, e3⟩ := four (x0 := .int .i64 0) (x1 := .int .u64 0) (x2 := .int .u64 0) (x3 := .int .i64 0) z0 z1 z2 z3
      exact bodyPost_ret (v := .tuple #[Cal.zero.v, .int .i64 4]) (by simp [results, Tryz.results53, go_sem, e0, e1, e2, e3, Cal.v, Cal.zero]) rfl ⟨rfl, Grown.set4 g1 (by omega) _ _ _ _⟩
    · rw [HO.out] at hs; cases hs
  | some q =>
    have HO := Lib.hid ho
    clear ho
    rcases H4.out with ⟨h0, -, -⟩ | ⟨hn, g, cap, rfl, -⟩
    · have HO' := HO.out
      rw [List.eq_nil_of_length_eq_zero h0] at HO'
      unfold lookI at HO'
      split at HO' <;> cases HO'
    · unfold RV
      go_enter Tryz.func53, Tryz.ntmps53
      go_wp2_with fail
      refine (find_at_ _ hi c s s1 s2 s3 _ s5 (H.out.grown (by go_grown)) HOK.out hl x).mono ?_; rintro e w1 ⟨r, rfl, hr, g1⟩
      have c8 : w1.cell? ⟨w.heap.size, 8, none⟩ = some (.slice (some ⟨g, 0, none⟩) s.ops.length cap) := gcell g1 (by simp)
      have z0 : w1.cell? ⟨w.heap.size + 1, 0, none⟩ = some (.int .i64 0) := gcell g1 (by simp)
      have z1 : w1.cell? ⟨w.heap.size + 1, 1, none⟩ = some (.int .u64 0) := gcell g1 (by simp)
      have z2 : w1.cell? ⟨w.heap.size + 1, 2, none⟩ = some (.int .u64 0) := gcell g1 (by simp)
      have z3 : w1.cell? ⟨w.heap.size + 1, 3, none⟩ = some (.int .i64 0) := gcell g1 (by simp)
      have fz : ∀ j, w1.frozen? ⟨w.heap.size + 1, j, none⟩ = false := fun j => (g1.2.1 _).trans (by simp)
      have f0 := fz 0; have f1 := fz 1; have f2 := fz 2; have f3 := fz 3
      have hlt : w.heap.size + 1 < w1.heap.size := World.block_lt_of_cell? w1 _ z0
      replace g1 := galloc (galloc g1)
      clear fz
      rcases hr with ⟨rfl, hs⟩ | ⟨j, y, rfl, hy, hx, hs⟩
      · rw [HO.out] at hs; cases hs
      · rw [HO.out] at hs
        cases hs
        obtain ⟨g', cap', hg, hj, d0, d1, d2, d3⟩ := KEY.out w1 g1 j y hy
        cases hg
        clear hx hy
        generalize s.ops.length = n at *
        have hjn : decide (j < n) = true := decide_eq_true hj
        go_wp2
        obtain ⟨e0, e1, e2, e3⟩ := four (x0 := .int .i64 y.2.kind) (x1 := .int .u64 y.2.key) (x2 := .int .u64 y.2.val) (x3 := .int .i64 y.2.lim) z0 z1 z2 z3
        exact bodyPost_ret (v := .tuple #[y.2.v, .int .i64 0]) (by simp [results, Tryz.results53, go_sem, e0, e1, e2, e3, Cal.v]) rfl ⟨rfl, Grown.set4 g1 (by omega) _ _ _ _⟩

set_option maxHeartbeats 1000000 in
theorem rCarried_at (w : World) (hi : Nat) (c : Cf) (s : St) (s1 s2 s3 s4 s5 : Value) (h : RefS w hi c s s1 s2 s3 s4 s5) (hok : c.Ok) (hl : s.nodes.length ≤ 99999) (x : Int) (v : Int) (hv : carriedOf (lookI s.nodes x) = v) :
    Calls Tryz.prog 50 #[RV c s1 s2 s3 s4 s5, .int .i64 x] w fun e w' => e = .returned (.int .i64 v) ∧ Grown w w' := by
  rcases h.f5 with ⟨h0, -, rfl⟩ | ⟨hn, g, cap, rfl, hlo, hc⟩
  · have hnil : s.nodes = [] := List.eq_nil_of_length_eq_zero h0
    have HF : Hid (v = -1) := Lib.hid (by rw [← hv, hnil]; unfold lookI; split <;> rfl)
    clear h h0 hnil hok hv
    unfold RV
    go_enter Tryz.func50, Tryz.ntmps50
    go_wp2_with fail
    go_loopw [5] (fun i wr => i = .int .i64 0 ∧ Grown w wr ∧ wr.cell? ⟨w.heap.size, 9, none⟩ = some (.slice none 0 0)) (fun i _ => 0)
    case atStart => exact ⟨rfl, by go_grown, by simp⟩
    case round =>
      obtain ⟨rfl, hg, c8⟩ := hrel
      go_wp2_with fail
      go_ret
      exact ⟨by rw [HF.out]; rfl, hg⟩
  · have HC := Lib.hid hc
    have HV := Lib.hid hv
    obtain ⟨n, hlen⟩ : ∃ n, s.nodes.length = n := ⟨_, rfl⟩
    rw [hlen] at hn hl ⊢
    have HLEN := Lib.hid hlen
    clear h hc hok hlen hv
    unfold RV
    go_enter Tryz.func50, Tryz.ntmps50
    go_wp2_with fail
    go_loopw [5] (fun i wr => ∃ k : Nat, k ≤ n ∧ i = .int .i64 k ∧ Grown w wr ∧ wr.cell? ⟨w.heap.size, 9, none⟩ = some (.slice (some ⟨g, 0, none⟩) n cap) ∧ ∀ j, j < k → ∀ z, s.nodes[j]? = some z → (z.1 : Int) ≠ x) (fun i _ => n - (intOf i).toNat)
    case atStart => exact ⟨0, Nat.zero_le _, rfl, by go_grown, by simp, fun j hj => absurd hj (by omega)⟩
    case round =>
      obtain ⟨k, hk, rfl, hg, c8, hb⟩ := hrel
      have HB := Lib.hid hb
      clear hb
      by_cases hkn : k < n
      · have ed : decide (k < n) = true := decide_eq_true hkn
        obtain ⟨y, hy⟩ : ∃ y, s.nodes[k]? = some y := ⟨_, List.getElem?_eq_getElem (by rw [HLEN.out]; exact hkn)⟩
        have cy : wr.cell? ⟨g, k * 2, none⟩ = some (.int .i64 (y.1 : Int)) := gcell hg (HC.out (k * 2 + 0) _ (flat_at (k := 2) (fun _ => rfl) (by decide) s.nodes k y hy))
        have cz : wr.cell? ⟨g, k * 2 + 1, none⟩ = some (.int .i64 (y.2 : Int)) := gcell hg (HC.out (k * 2 + 1) _ (flat_at (k := 2) (o := 1) (fun _ => rfl) (by decide) s.nodes k y hy))
        have HY := Lib.hid hy
        clear hy
        by_cases hx : (y.1 : Int) = x
        · subst hx
          go_wp2_with fail
          go_ret
          refine ⟨?_, hg⟩
          rw [← HV.out, lookI_nat, find_first s.nodes k y HY.out fun i hi z hz => HB.out i hi z hz]
          rfl
        · have ex : ((y.1 : Int) == x) = false := by simpa using hx
          go_wp2_with fail
          refine ⟨⟨k + 1, hkn, by simp, hg, c8, fun j hj z hz => ?_⟩, by simp [intOf]; omega⟩
          by_cases hjk : j < k
          · exact HB.out j hjk z hz
          · obtain rfl : j = k := by omega
            rw [HY.out] at hz
            cases hz
            exact hx
      · obtain rfl : k = n := by omega
        have ed : decide (k < k) = false := decide_eq_false (by omega)
        clear hkn
        go_wp2_with fail
        go_ret
        refine ⟨?_, hg⟩
        rw [← HV.out, find_none s.nodes x fun i z hz => HB.out i (by
          have := (List.getElem?_eq_some_iff.1 hz).1
          rw [HLEN.out] at this
          exact this) z hz]
        rfl

end Go.Proofs.YtagapfejgmmppaaGreat
