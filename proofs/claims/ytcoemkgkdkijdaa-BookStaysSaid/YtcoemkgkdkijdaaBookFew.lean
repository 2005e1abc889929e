/- The laws of package book, walked: a thread begins just so many calls as it may. -/
import Derived.Test.YtcoemkgkdkijdaaBookAw
import Derived.LoopTactic
namespace Go.Proofs.Ytcoemkgkdkijdaa
open Go.ChangeShapes Go.WideShapes Go.ChangeAt Go.RowKit
set_option maxRecDepth 100000
set_option linter.unusedVariables false

def bFew (t b i f k : Int) : Bool := zOk t b i f k && decide (t ≤ 4 ∧ b ≤ 4 ∧ k ≤ 8)
theorem Few_at (t b i f k : Int) (w : World) (v : Bool) (h : bFew t b i f k = v) :
    Calls Try.prog 9 #[.agg #[.int .i64 t, .int .i64 b, .int .i64 i, .int .i64 f, .int .i64 k]] w fun e w' => e = .returned (.bool v) ∧ Grown w w' := by
  subst h
  unfold bFew
  obtain ⟨u, hu⟩ : ∃ u : Int, (if zOk t b i f k = true then 0 else 1) = u := ⟨_, rfl⟩
  have HU := Lib.hid hu
  by_cases hz : zOk t b i f k = true
  · rw [if_pos hz] at hu
    rw [hz]
    subst hu
    clear hz
    by_cases h1 : t ≤ 4 <;> by_cases h2 : b ≤ 4 <;> by_cases h3 : k ≤ 8
    all_goals
      simp only [h1, h2, h3, and_self, and_true, and_false, decide_true, decide_false, Bool.true_and]
      go_enter Try.func9, Try.ntmps9
      go_wp2_with fail
      refine (rMayC_at _ _ _ _ _ _ _ HU.out).mono ?_; rintro e w1 ⟨rfl, g1⟩
      have z0 : w1.cell? ⟨w.heap.size, 0, none⟩ = some (.int .i64 t) := gcell g1 (by simp)
      have z1 : w1.cell? ⟨w.heap.size, 1, none⟩ = some (.int .i64 b) := gcell g1 (by simp)
      have z4 : w1.cell? ⟨w.heap.size, 4, none⟩ = some (.int .i64 k) := gcell g1 (by simp)
      replace g1 := galloc g1
      go_wp2
      go_ret
      first | exact ⟨rfl, g1⟩ | exact ⟨by show Ending.returned (.bool (decide (k ≤ 8))) = _; rw [decide_eq_false (by omega)], g1⟩
  · rw [if_neg hz] at hu
    rw [Bool.eq_false_iff.2 hz]
    subst hu
    clear hz
    simp only [Bool.false_and]
    go_enter Try.func9, Try.ntmps9
    go_wp2_with fail
    refine (rMayC_at _ _ _ _ _ _ _ HU.out).mono ?_; rintro e w1 ⟨rfl, g1⟩
    go_wp2
    go_ret
    exact ⟨rfl, galloc g1⟩
/-- A layout that may be. -/
theorem cf_of {t b i f k : Int} (h : zOk t b i f k = true) : ∃ c : Cf, t = c.t ∧ b = c.b ∧ i = c.i ∧ f = c.f ∧ k = c.k ∧ c.Ok := by
  obtain ⟨t1, t2, hb, i1, i2, f1, f2, k1, k2⟩ := zOk_spec.1 h
  have b1 : (1 : Int) ≤ b := by unfold Pow2 at hb; omega
  obtain ⟨t', rfl⟩ : ∃ n : Nat, t = n := ⟨t.toNat, by omega⟩
  obtain ⟨b', rfl⟩ : ∃ n : Nat, b = n := ⟨b.toNat, by omega⟩
  obtain ⟨i', rfl⟩ : ∃ n : Nat, i = n := ⟨i.toNat, by omega⟩
  obtain ⟨f', rfl⟩ : ∃ n : Nat, f = n := ⟨f.toNat, by omega⟩
  obtain ⟨k', rfl⟩ : ∃ n : Nat, k = n := ⟨k.toNat, by omega⟩
  exact ⟨⟨t', b', i', f', k'⟩, rfl, rfl, rfl, rfl, rfl, cf_ok h⟩

/-- One thread's calls of one kind. -/
def stR (c : Cf) (i : Nat) (x : Cal) : Nat → St
  | 0 => St.new c
  | j + 1 => (beginI c (stR c i x j) i x).1
theorem stR_inv (c : Cf) (i : Nat) (x : Cal) : ∀ j, Inv c (stR c i x j)
  | 0 => Inv.new
  | j + 1 => (stR_inv c i x j).beginI _ _
theorem begin_at {c : Cf} {s : St} (h : Inv c s) {i : Nat} (hi : i < c.t) {x : Cal} (hk : kindOk x) (hc : ¬ at_ s.calls i = c.k) :
    at_ (beginI c s i x).1.calls i = at_ s.calls i + 1 ∧ at_ (beginI c s i x).1.ins i = (if x.kind = 1 ∧ ¬ at_ s.ins i = c.i then at_ s.ins i + 1 else at_ s.ins i) ∧ (beginI c s i x).2.2 = (if x.kind = 1 ∧ at_ s.ins i = c.i then 3 else 0) := by
  have l1 := h.l1
  have l2 := h.l2
  unfold beginI
  rw [if_neg (by simp [hk]; omega), Int.toNat_natCast]
  unfold beginS
  rw [if_neg hc]
  by_cases h1 : x.kind = 1
  · by_cases h2 : at_ s.ins i = c.i
    · simp [h1, h2, at_bump (show i < s.calls.length by omega)]
    · simp [h1, h2, at_bump (show i < s.calls.length by omega), at_bump (show i < s.ins.length by omega)]
  · simp [h1, at_bump (show i < s.calls.length by omega)]
theorem stR_at {c : Cf} {i : Nat} (hi : i < c.t) {x : Cal} (hk : kindOk x) : ∀ j, j ≤ c.k → at_ (stR c i x j).calls i = j ∧ at_ (stR c i x j).ins i = (if x.kind = 1 then min j c.i else 0)
  | 0, _ => by simp [stR, St.new, at_zeros]
  | j + 1, h => by
    obtain ⟨h1, h2⟩ := stR_at hi hk j (by omega)
    obtain ⟨e1, e2, -⟩ := begin_at (stR_inv c i x j) hi hk (by omega)
    refine ⟨e1.trans (by omega), e2.trans ?_⟩
    rw [h2]
    by_cases hk1 : x.kind = 1
    · simp only [hk1, true_and, if_true]
      split <;> omega
    · simp [hk1]

theorem law_BookRetires (t b i f k n q : Int) (w : World) (_ : -9223372036854775808 ≤ t) (_ : t ≤ 9223372036854775807) (_ : -9223372036854775808 ≤ b) (_ : b ≤ 9223372036854775807) (_ : -9223372036854775808 ≤ i) (_ : i ≤ 9223372036854775807)
    (_ : -9223372036854775808 ≤ f) (_ : f ≤ 9223372036854775807) (_ : -9223372036854775808 ≤ k) (_ : k ≤ 9223372036854775807) (n0 : 0 ≤ n) (n1 : n ≤ 255) (q0 : 0 ≤ q) (q1 : q ≤ 255) :
    Calls Try.prog 6 #[.agg #[.int .i64 t, .int .i64 b, .int .i64 i, .int .i64 f, .int .i64 k], .int .u8 n, .int .u8 q] w fun e w' => e = .returned (.bool true) ∧ Grown w w' := by
  by_cases hf : bFew t b i f k = true
  · have HF := Lib.hid hf
    unfold bFew at hf
    simp only [Bool.and_eq_true, decide_eq_true_eq] at hf
    obtain ⟨hz, h4⟩ := hf
    obtain ⟨c, rfl, rfl, rfl, rfl, rfl, hok⟩ := cf_of hz
    have HOK := Lib.hid hok
    have t1 := hok.t1
    have k1 := hok.k1
    have i2 := hok.i2
    have hk8 : c.k ≤ 8 := by omega
    obtain ⟨th, hth⟩ : ∃ th : Nat, n % (c.t : Int) = th := ⟨(n % c.t).toNat, by have := Int.emod_nonneg n (b := (c.t : Int)) (by omega); omega⟩
    have hti : th < c.t := by have := Int.emod_lt_of_pos n (b := (c.t : Int)) (by omega); omega
    have HTH := Lib.hid hth
    obtain ⟨kd, hkd⟩ : ∃ kd : Int, 1 + q % 4 = kd := ⟨_, rfl⟩
    have hkk : 1 ≤ kd ∧ kd ≤ 4 := by omega
    have HKD := Lib.hid hkd
    have HX : Hid (kindOk ⟨kd, 0, 0, 0⟩) := Lib.hid hkk
    clear hz h4 hok hth hkd hkk
    go_enter Try.func6, Try.ntmps6
    go_wp2_with fail
    refine (awake_any _).mono ?_; rintro e w0 ⟨rfl, g0⟩
    have a0 : w0.cell? ⟨w.heap.size, 0, none⟩ = some (.int .i64 c.t) := gcell g0 (by simp)
    have a1 : w0.cell? ⟨w.heap.size, 1, none⟩ = some (.int .i64 c.b) := gcell g0 (by simp)
    have a2 : w0.cell? ⟨w.heap.size, 2, none⟩ = some (.int .i64 c.i) := gcell g0 (by simp)
    have a3 : w0.cell? ⟨w.heap.size, 3, none⟩ = some (.int .i64 c.f) := gcell g0 (by simp)
    have a4 : w0.cell? ⟨w.heap.size, 4, none⟩ = some (.int .i64 c.k) := gcell g0 (by simp)
    have hlt : w.heap.size < w0.heap.size := World.block_lt_of_cell? w0 _ a0
    replace g0 : Grown w w0 := gtr (by go_grown) g0
    go_wp2_with fail
    refine (Few_at _ _ _ _ _ _ _ HF.out).mono ?_; rintro e w1 ⟨rfl, g1⟩
    replace a0 := gcell g1 a0; replace a1 := gcell g1 a1; replace a2 := gcell g1 a2; replace a3 := gcell g1 a3; replace a4 := gcell g1 a4
    replace hlt := Nat.lt_of_lt_of_le hlt g1.2.2
    replace g1 := gtr g0 g1; clear g0
    go_wp2_with fail
    refine (New_at _ c HOK.out).mono ?_; rintro e w2 ⟨a, rfl, g2, h2, hlo, -⟩
    replace a0 := gcell g2 a0; replace a2 := gcell g2 a2; replace a4 := gcell g2 a4
    have hno : ¬ Own a w.heap.size := fun h => by have := h.1; omega
    have HL : Hid (w.heap.size ≤ a.lo) := Lib.hid (by omega)
    replace g2 := gtr g1 g2; clear g1 a1 a3 hlo hlt
    have H2 := Lib.hid h2
    clear h2
    go_wp2_with fail
    simp only [HTH.out, HKD.out]
    go_loopw [12] (fun v wr => ∃ j : Nat, j ≤ c.k ∧ v = .int .i64 j ∧ Grown w wr ∧ Hid (BookAt wr c a (stR c th ⟨kd, 0, 0, 0⟩ j)) ∧ wr.cell? ⟨w.heap.size, 2, none⟩ = some (.int .i64 c.i) ∧ wr.cell? ⟨w.heap.size, 4, none⟩ = some (.int .i64 c.k)) (fun v _ => c.k - (intOf v).toNat)
    case atStart => exact ⟨0, Nat.zero_le _, rfl, g2, H2, a2, a4⟩
    case round =>
      obtain ⟨j, hj, rfl, hg, HB, a2, a4⟩ := hrel
      have HI := Lib.hid (stR_inv c th ⟨kd, 0, 0, 0⟩ j)
      obtain ⟨s1, s2⟩ := stR_at hti HX.out j hj
      by_cases hjk : j < c.k
      · have ed : decide (j < c.k) = true := decide_eq_true hjk
        obtain ⟨b1, b2, b3⟩ := begin_at HI.out hti HX.out (by omega)
        rw [s2] at b3
        rw [s1] at b1
        have HJ : Hid (CallsOf c (beginI c (stR c th ⟨kd, 0, 0, 0⟩ j) th ⟨kd, 0, 0, 0⟩).1 (th : Int) = j + 1) := Lib.hid (by unfold CallsOf; rw [if_neg (by omega)]; exact b1)
        clear b1 b2 s1 s2
        obtain ⟨r, hr⟩ : ∃ r, beginI c (stR c th ⟨kd, 0, 0, 0⟩ j) th ⟨kd, 0, 0, 0⟩ = r := ⟨_, rfl⟩
        rw [hr] at b3 HJ
        have HS : Hid (stR c th ⟨kd, 0, 0, 0⟩ (j + 1) = r.1) := Lib.hid (congrArg Prod.fst hr)
        have HR := Lib.hid hr
        have HJ' : Hid (((j + 1 : Nat) : Int) = (j : Int) + 1) := Lib.hid (by omega)
        clear hr
        obtain ⟨rs, rn, re⟩ := r
        replace b3 : re = _ := b3
        by_cases hk1 : kd = 1
        · have e1 : (kd == 1) = true := by simp [hk1]
          by_cases hc : c.i ≤ j
          · have e2 : decide (c.i ≤ j) = true := decide_eq_true hc
            have e3 : re = 3 := by rw [b3, if_pos ⟨hk1, by rw [if_pos hk1]; omega⟩]
            clear b3
            subst e3
            clear hk1
            go_wp2_with fail
            refine (Begin_any _ c a _ HB.out HI.out th ⟨kd, 0, 0, 0⟩ _ HR.out).mono ?_; rintro e w3 ⟨rfl, q3, h3⟩
            replace h3 : Hid (BookAt w3 c a rs) := Lib.hid h3
            have g3 := fresh_own hg q3 HL.out
            replace a2 := q3.cell hno a2
            replace a4 := q3.cell hno a4
            clear q3 hg HB
            go_wp2_with fail
            refine (Calls_any _ c a rs h3.out _ _ HJ.out).mono ?_; rintro e w4 ⟨rfl, g4⟩
            rw [HJ'.out]
            have v0 : ((j : Int) + 1 != (j : Int) + 1) = false := by simp
            replace a2 := gcell g4 a2
            replace a4 := gcell g4 a4
            go_wp2_with fail
            exact ⟨⟨j + 1, hjk, by simp, gtr g3 g4, Lib.hid (by rw [HS.out]; exact h3.out.grown g4), a2, a4⟩, by simp [intOf]; omega⟩
          · have e2 : decide (c.i ≤ j) = false := decide_eq_false hc
            have e3 : re = 0 := by rw [b3, if_neg (fun q => by have := q.2; rw [if_pos hk1] at this; omega)]
            clear b3
            subst e3
            clear hk1
            go_wp2_with fail
            refine (Begin_any _ c a _ HB.out HI.out th ⟨kd, 0, 0, 0⟩ _ HR.out).mono ?_; rintro e w3 ⟨rfl, q3, h3⟩
            replace h3 : Hid (BookAt w3 c a rs) := Lib.hid h3
            have g3 := fresh_own hg q3 HL.out
            replace a2 := q3.cell hno a2
            replace a4 := q3.cell hno a4
            clear q3 hg HB
            go_wp2_with fail
            refine (Calls_any _ c a rs h3.out _ _ HJ.out).mono ?_; rintro e w4 ⟨rfl, g4⟩
            rw [HJ'.out]
            have v0 : ((j : Int) + 1 != (j : Int) + 1) = false := by simp
            replace a2 := gcell g4 a2
            replace a4 := gcell g4 a4
            go_wp2_with fail
            exact ⟨⟨j + 1, hjk, by simp, gtr g3 g4, Lib.hid (by rw [HS.out]; exact h3.out.grown g4), a2, a4⟩, by simp [intOf]; omega⟩
        · have e1 : (kd == 1) = false := by simp [hk1]
          have e3 : re = 0 := by rw [b3, if_neg (fun q => hk1 q.1)]
          clear b3
          subst e3
          clear hk1
          go_wp2_with fail
          refine (Begin_any _ c a _ HB.out HI.out th ⟨kd, 0, 0, 0⟩ _ HR.out).mono ?_; rintro e w3 ⟨rfl, q3, h3⟩
          replace h3 : Hid (BookAt w3 c a rs) := Lib.hid h3
          have g3 := fresh_own hg q3 HL.out
          replace a2 := q3.cell hno a2
          replace a4 := q3.cell hno a4
          clear q3 hg HB
          go_wp2_with fail
          refine (Calls_any _ c a rs h3.out _ _ HJ.out).mono ?_; rintro e w4 ⟨rfl, g4⟩
          rw [HJ'.out]
          have v0 : ((j : Int) + 1 != (j : Int) + 1) = false := by simp
          replace a2 := gcell g4 a2
          replace a4 := gcell g4 a4
          go_wp2_with fail
          exact ⟨⟨j + 1, hjk, by simp, gtr g3 g4, Lib.hid (by rw [HS.out]; exact h3.out.grown g4), a2, a4⟩, by simp [intOf]; omega⟩
      · obtain rfl : j = c.k := by omega
        have ed : decide (c.k < c.k) = false := decide_eq_false (by omega)
        have HC : Hid (CallsOf c (stR c th ⟨kd, 0, 0, 0⟩ c.k) (th : Int) = c.k) := Lib.hid (by unfold CallsOf; rw [if_neg (by omega)]; exact s1)
        have HR : Hid (beginI c (stR c th ⟨kd, 0, 0, 0⟩ c.k) th ⟨kd, 0, 0, 0⟩ = (stR c th ⟨kd, 0, 0, 0⟩ c.k, 0, 2)) := Lib.hid (by
          unfold beginI
          rw [if_neg (by simp [HX.out]; omega), Int.toNat_natCast]
          unfold beginS
          rw [if_pos s1])
        have HR2 : Hid (beginI c (stR c th ⟨kd, 0, 0, 0⟩ c.k) th ⟨5, 0, 0, 0⟩ = (stR c th ⟨kd, 0, 0, 0⟩ c.k, 0, 1)) := Lib.hid (by
          unfold beginI
          rw [if_pos (.inr (.inr (fun q => by have := q.2; simp at this)))])
        clear s1 s2 hjk
        generalize stR c th ⟨kd, 0, 0, 0⟩ c.k = s at *
        go_wp2_with fail
        refine (Begin_any _ c a _ HB.out HI.out th ⟨kd, 0, 0, 0⟩ _ HR.out).mono ?_; rintro e w3 ⟨he, q3, h3⟩
        replace he : e = .returned (.tuple #[.int .i64 0, .int .i64 2]) := he
        subst he
        replace h3 : Hid (BookAt w3 c a s) := Lib.hid h3
        have g3 := fresh_own hg q3 HL.out
        replace a4 := q3.cell hno a4
        clear q3 hg HB a2
        go_wp2_with fail
        refine (Begin_any _ c a _ h3.out HI.out th ⟨5, 0, 0, 0⟩ _ HR2.out).mono ?_; rintro e w4 ⟨he, q4, h4⟩
        replace he : e = .returned (.tuple #[.int .i64 0, .int .i64 1]) := he
        subst he
        replace h4 : Hid (BookAt w4 c a s) := Lib.hid h4
        have g4 := fresh_own g3 q4 HL.out
        replace a4 := q4.cell hno a4
        clear q4 g3 h3
        go_wp2_with fail
        refine wp_region_plang (.one [0, 1, 2, 3, 4, 5, 6, 7, 8, 9, 10, 11, 13, 14] 12 (.fin [15, 16, 17])) (by kernel_rfl) (by kernel_rfl) (by kernel_rfl) ?_
        intro w5 g5
        have d4 : ∀ g : GrW w5, g.w.cell? ⟨w.heap.size, 4, none⟩ = some (.int .i64 c.k) := GrW.cell (gcell g5 a4)
        refine plan_one ?_
        simp only [nths, nth, List.map_cons, List.map_nil, List.getD_cons_zero, List.getD_cons_succ]
        repeat go_big_quiet_step (fail)
        refine wpQuiet_nil ?_
        clear d4
        go_wp2_with fail
        refine (Calls_any _ c a s (h4.out.grown g5) _ _ HC.out).mono ?_; rintro e w6 ⟨rfl, g6⟩
        go_wp2_with fail
        have v0 : ((c.k : Int) == (c.k : Int)) = true := by simp
        refine nxt_grow g6 (plan_fin ?_)
        simp only [nths, nth, List.map_cons, List.map_nil, List.getD_cons_zero, List.getD_cons_succ]
        repeat go_big_quiet_step (fail)
        refine wpQuiet_nil ?_
        go_wp2_with fail
        go_ret
        exact ⟨rfl, gtr g4 (gtr g5 g6)⟩
  · have HF : Hid (bFew t b i f k = false) := Lib.hid (Bool.eq_false_iff.2 hf)
    clear hf
    go_enter Try.func6, Try.ntmps6
    go_wp2_with fail
    refine (awake_any _).mono ?_; rintro e w0 ⟨rfl, g0⟩
    have a0 : w0.cell? ⟨w.heap.size, 0, none⟩ = some (.int .i64 t) := gcell g0 (by simp)
    have a1 : w0.cell? ⟨w.heap.size, 1, none⟩ = some (.int .i64 b) := gcell g0 (by simp)
    have a2 : w0.cell? ⟨w.heap.size, 2, none⟩ = some (.int .i64 i) := gcell g0 (by simp)
    have a3 : w0.cell? ⟨w.heap.size, 3, none⟩ = some (.int .i64 f) := gcell g0 (by simp)
    have a4 : w0.cell? ⟨w.heap.size, 4, none⟩ = some (.int .i64 k) := gcell g0 (by simp)
    replace g0 : Grown w w0 := gtr (by go_grown) g0
    go_wp2_with fail
    refine (Few_at _ _ _ _ _ _ _ HF.out).mono ?_; rintro e w1 ⟨rfl, g1⟩
    go_wp2_with fail
    go_ret
    exact ⟨rfl, gtr g0 g1⟩
end Go.Proofs.Ytcoemkgkdkijdaa
