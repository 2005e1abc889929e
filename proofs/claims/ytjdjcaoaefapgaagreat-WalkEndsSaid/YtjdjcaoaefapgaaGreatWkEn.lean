/- WalkEnds (corrielaw10), walked: a walk that nobody disturbs ends. -/
import Derived.Test.YtjdjcaoaefapgaaGreatWkRun
import Derived.Test.YtjdjcaoaefapgaaGreatWkL
import Derived.Test.YtjdjcaoaefapgaaGreatMScene
namespace Go.Proofs.YtjdjcaoaefapgaaGreat
open Go.ChangeShapes Go.WideShapes Go.ChangeAt Go.RowKit
set_option maxRecDepth 100000
set_option linter.unusedVariables false
set_option maxHeartbeats 16000000 in
theorem law_WalkEnds (f : Nat) (vi vc : Value) (xs : List It) (cs : List Cal) (key mode : Int) (w : World) (hf : f ≤ 255) (hi : RowO w vi (flatI xs) xs.length) (hc : RowO w vc (flatK cs) cs.length) (hw : ∀ x ∈ xs, x.Wf) (l1 : 0 ≤ key) (u1 : key ≤ 18446744073709551615) (l2 : -9223372036854775808 ≤ mode) (u2 : mode ≤ 9223372036854775807) :
    Calls Tryz.prog 8 #[.agg #[.int .u8 (f : Int), vi, vc], .int .u64 key, .int .i64 mode] w fun e w' => e = .returned (.bool true) ∧ Grown w w' := by
  obtain ⟨v, hv⟩ : ∃ v, decide (xs.length ≤ 12 ∧ cs.length ≤ 6) = v := ⟨_, rfl⟩
  obtain ⟨Ai, gi, oi, capi, rfl, hAi, hci⟩ := hi
  have hi : RowO w (.slice Ai xs.length capi) (flatI xs) xs.length := ⟨Ai, gi, oi, capi, rfl, hAi, hci⟩
  obtain ⟨vi, hvi⟩ : ∃ vi, (Value.slice Ai xs.length capi) = vi := ⟨_, rfl⟩
  have HF : Hid (∀ W, Calls Tryz.prog 10 #[.agg #[.int .u8 (f : Int), .slice Ai xs.length capi, vc]] W fun e w' => e = .returned (.bool v) ∧ Grown W w') := Lib.hid (fun W => by
    obtain ⟨A2, bb2, off2, cap2, rfl, -⟩ := hc
    exact Few9_at W f _ A2 _ _ _ _ v hv)
  have HV := Lib.hid hv
  have HI := Lib.hid hi
  have HC := Lib.hid hc
  have HW := Lib.hid hw
  have HOk := Lib.hid (c9_ok hf)
  obtain ⟨m, hm⟩ : ∃ m, xs.length = m := ⟨_, rfl⟩
  have HM := Lib.hid hm
  have HB := Lib.hid (Box.made w [.int .u8 (f : Int), .slice Ai xs.length capi, vc] 25)
  have GB : Grown w (w.alloc (.cells #[.int .u8 (f : Int), .slice Ai xs.length capi, vc] 25)) := by go_grown
  rw [hm] at HF HB GB ⊢
  clear hv hi hc hw hAi hci hvi hm
  go_enter Tryz.func8, Tryz.ntmps8
  go_wp2_with fail
  refine (awake10_at _).mono ?_; rintro e w1 ⟨rfl, g1⟩
  have HB1 := Lib.hid (HB.out.grown g1)
  have e0 := HB1.out.cell 0 (.int .u8 (f : Int)) rfl
  have e1 := HB1.out.cell 1 (.slice Ai m capi) rfl
  have e2 := HB1.out.cell 2 vc rfl
  have G1 := Lib.hid (gtr GB g1)
  clear GB g1 HB
  go_wp2_with fail
  refine (HF.out _).mono ?_; rintro e w2 ⟨rfl, g2⟩
  have HB2 := Lib.hid (HB1.out.grown g2)
  have G2 := Lib.hid (gtr G1.out g2)
  clear e0 e1 e2 g2 HB1 G1
  cases v
  · go_wp2_with fail
    go_ret
    exact ⟨rfl, G2.out⟩
  · obtain ⟨hl1, hl2⟩ := of_decide_eq_true HV.out
    obtain ⟨L, hL⟩ : ∃ L, layL (c9 f) (sortedI xs) = L := ⟨_, rfl⟩
    obtain ⟨s, hs⟩ : ∃ s, lyC (c9 f) L.s cs = s := ⟨_, rfl⟩
    have HLy : Hid (∀ W, Grown w W → Calls Tryz.prog 27 #[.agg #[.int .u8 (f : Int), .slice Ai m capi, vc]] W (LaidAt (c9 f) L.ws L.n s W)) := Lib.hid (fun W q => by rw [← HM.out]; exact lay10_at W f hf (.slice Ai xs.length capi) vc xs cs (HI.out.grown q) (HC.out.grown q) hl1 hl2 (fun x hx => (HW.out x hx).2.2) L hL s hs)
    have HLk : Hid (LyOk (c9 f) L xs.length) := Lib.hid (by
      have := layL_ok (c9 f) (sortedI xs) (fun x hx => by obtain ⟨y, hy, he⟩ := sortedI_word hx; rw [he]; exact (HW.out y hy).2.2) xs.length (by rw [sortedI_len]; exact Nat.le_refl _)
      rwa [List.take_of_length_le (by rw [sortedI_len]; exact Nat.le_refl _), hL] at this)
    have HInv : Hid (Inv (c9 f) s) := Lib.hid (by rw [← hs]; exact lyC_inv _ HLk.out.inv)
    have HSc : Hid (Scn (c9 f) s L.ws (sortedI xs)) := Lib.hid (scn_of HOk.out rfl (Nat.le_trans hl1 (by simp only [c9]; omega)) (Nat.le_trans hl1 (by simp only [c9]; omega)) cs L hL s hs)
    have hn0 := HLk.out.n0
    have hn1 := HLk.out.n1
    have hnx : L.n ≤ 36 := by omega
    have hml : m ≤ 12 := by rw [← HM.out]; exact hl1
    clear hL hs hn1
    obtain ⟨c, hcc⟩ : ∃ c, c9 f = c := ⟨_, rfl⟩
    rw [hcc] at HLy HLk HInv HOk HSc
    have HCC := Lib.hid hcc
    clear hcc
    have e0 := HB2.out.cell 0 (.int .u8 (f : Int)) rfl
    have e1 := HB2.out.cell 1 (.slice Ai m capi) rfl
    have e2 := HB2.out.cell 2 vc rfl
    go_wp2_with fail
    refine (HLy.out _ G2.out).mono ?_; rintro e w3 ⟨d, rfl, g3, h3, f3⟩
    have HD := Lib.hid h3
    have G3 := Lib.hid (gtr G2.out g3)
    have HB3 := Lib.hid (HB2.out.grown g3)
    have HFr : Hid (∀ i, Mine d.p d.b i → w.heap.size ≤ i) := Lib.hid (fun i hi => Nat.le_trans G2.out.2.2 (f3 i (.inr hi)))
    clear e0 e1 e2 g3 h3 f3 HB2 G2
    have e1 := HB3.out.cell 1 (.slice Ai m capi) rfl
    have HMW0 : Hid ((12 : Int) * (m : Int) + 4 = (((12 * m + 4 : Nat)) : Int)) := Lib.hid (by omega)
    go_wp2_with fail
    refine (kNew _ key mode).mono ?_; rintro e w4 ⟨rfl, g4⟩
    have ga : Grown w4 (w4.alloc (.cells (newK key mode).l.toArray 74)) := by go_grown
    have HB := Box.made w4 (newK key mode).l 74
    obtain ⟨T, hT⟩ : ∃ T, w4.heap.size = T := ⟨_, rfl⟩
    obtain ⟨wa, hwa⟩ : ∃ x, w4.alloc (.cells (newK key mode).l.toArray 74) = x := ⟨_, rfl⟩
    rw [hwa] at HB ga
    rw [hT] at HB
    have HA : Hid (WkAt wa c d s T ⟨L.ws, L.n, newK key mode⟩) := Lib.hid (WkAt.new HD.out (gtr g4 ga) HB (by have := g4.2.2; omega))
    have Ga := Lib.hid (gtr G3.out (gtr g4 ga))
    have hwT : w.heap.size ≤ T := by have h1 := G3.out.2.2; have h2 := g4.2.2; omega
    have HWA := Lib.hid hwa
    have HTT := Lib.hid hT
    obtain ⟨y0, hy0⟩ : ∃ y : Kd, (⟨L.ws, L.n, newK key mode⟩ : Kd) = y := ⟨_, rfl⟩
    have HWI : Hid (WI c s key mode y0 [] (ids (sortedI xs).length)) := Lib.hid (by rw [← hy0]; exact HSc.out.walk HLk.out.wok L.n key mode)
    have HMu : Hid (mu c s y0 (ids (sortedI xs).length) ≤ 12 * m + 4) := Lib.hid (by rw [← hy0, ← HM.out]; have h1 := Scn.mu (c := c) (s := s) (ws := L.ws) (ys := sortedI xs) L.n key mode; rw [sortedI_len] at h1 ⊢; exact h1)
    have HKO : Hid (∀ k : Nat, KOk (runK c s y0 k) (36 + k)) := Lib.hid (fun k => KOk.run (y := y0) (by rw [← hy0]; exact ⟨HLk.out.wok, newK_ok key mode, hn0, hnx⟩) k)
    rw [hy0] at HA
    obtain ⟨M, hM⟩ : ∃ M, 12 * m + 4 = M := ⟨_, rfl⟩
    have hMM : M ≤ 148 := by omega
    have hmw := HMW0.out
    rw [hM] at hmw HMu
    clear g4 ga HB hwa hT G3 HD e1 hy0 hM
    simp only [newK, Wk.l] at HWA ⊢
    simp only [hmw]
    go_wp2_with fail
    rw [HWA.out, HTT.out]
    clear HWA HTT
    go_loopw [11, 12, 13] (fun s11 s12 s13 wr => ∃ k : Nat, s11 = .int .i64 (k : Int) ∧ k ≤ M ∧ But (Sk d T) wa wr ∧ WkAt wr c d s T (runK c s y0 k)) (fun s11 s12 s13 _ => M - (intOf s11).toNat)
    case atStart => exact ⟨0, rfl, Nat.zero_le _, But.refl _ _, HA.out⟩
    case round =>
      obtain ⟨k, rfl, hk, hq, hwk⟩ := hrel
      obtain ⟨wo, hwo⟩ : ∃ x, x = wr := ⟨_, rfl⟩
      subst hwo
      have HQ := Lib.hid hq
      have HO := Lib.hid (HKO.out k)
      by_cases hk2 : k < M
      · have hlt : (k : Int) < (M : Int) := by omega
        have HS : Hid (runK c s y0 (k + 1) = stepK c s (runK c s y0 k)) := Lib.hid rfl
        have hcount := HWI.out.count k
        rw [HS.out] at hcount
        obtain ⟨y, hy⟩ : ∃ y, runK c s y0 k = y := ⟨_, rfl⟩
        rw [hy] at hwk HO HS hcount
        have HY := Lib.hid hwk
        have m0 := HO.out.n0
        have m1 := HO.out.n1
        obtain ⟨b, hb⟩ : ∃ b, y.x.done = b := ⟨_, rfl⟩
        rw [hb] at hcount
        have HCt := Lib.hid hcount
        have HBd := Lib.hid hb
        have k5 := HY.out.wd.k5
        clear hwk hq hy hcount hb
        cases b
        · go_wp2_with fail
          refine (Steps_at _ d.p d.b _ _ HY.out.wd.bank).mono ?_; rintro e w5 ⟨rfl, g5⟩
          have H5 := Lib.hid (HY.out.grown g5)
          have Q5 : Hid (But (Sk d T) wa w5) := Lib.hid (HQ.out.trans (But.of_grown g5))
          have c9 : w5.cell? ⟨T, 9, none⟩ = some (.bool false) := by rw [← HBd.out]; exact H5.out.box.cell 9 _ rfl
          clear g5 k5
          go_wp2_with (first | (refine load_box rfl 74 _ rfl T rfl _ _ Tryz.underlying74 rfl (by kernel_rfl) H5.out.box ?_) | fail)
          refine (kStep _ c d s y H5.out.wd HInv.out m0 (by omega) HO.out.wok HO.out.ok _ rfl).mono ?_; rintro e w6 ⟨rfl, q6⟩
          have H6 := Lib.hid (H5.out.step q6)
          have Q6 : Hid (But (Sk d T) wa w6) := Lib.hid (Q5.out.trans (but_m q6.1))
          obtain ⟨n2, hn2⟩ : ∃ n, (stepK c s y).n = n := ⟨_, rfl⟩
          have HN2 := Lib.hid hn2
          clear q6 c9 hn2
          go_wp2_with (first | (refine store_box rfl 74 _ _ rfl T _ H6.out.box _ rfl rfl rfl (by kernel_rfl) rfl ?_; intro w9 B_ q_; have H9 : Hid (WkAt w9 c d s T (stepK c s y)) := Lib.hid (H6.out.put (x := (stepK c s y).x) B_ q_); have Q9 : Hid (But (Sk d T) wa w9) := Lib.hid (Q6.out.trans (but_r q_)); have k5 := H9.out.wd.k5; clear B_ q_) | fail)
          refine (Steps_at _ d.p d.b _ _ H9.out.wd.bank).mono ?_; rintro e w10 ⟨rfl, g10⟩
          have H10 := Lib.hid (H9.out.grown g10)
          have Q10 : Hid (But (Sk d T) wa w10) := Lib.hid (Q9.out.trans (But.of_grown g10))
          have hcn : (stepK c s y).n = y.n + 1 := HCt.out
          rw [hcn]
          clear g10 k5 hcn
          go_wp2_with fail
          refine ⟨⟨k + 1, by simp, hk2, Q10.out, ?_⟩, by simp [intOf]; omega⟩
          rw [HS.out]
          exact H10.out
        · go_wp2_with fail
          refine (Steps_at _ d.p d.b _ _ HY.out.wd.bank).mono ?_; rintro e w5 ⟨rfl, g5⟩
          have H5 := Lib.hid (HY.out.grown g5)
          have Q5 : Hid (But (Sk d T) wa w5) := Lib.hid (HQ.out.trans (But.of_grown g5))
          have c9 : w5.cell? ⟨T, 9, none⟩ = some (.bool true) := by rw [← HBd.out]; exact H5.out.box.cell 9 _ rfl
          clear g5 k5
          go_wp2_with (first | (refine load_box rfl 74 _ rfl T rfl _ _ Tryz.underlying74 rfl (by kernel_rfl) H5.out.box ?_) | fail)
          refine (kStep _ c d s y H5.out.wd HInv.out m0 (by omega) HO.out.wok HO.out.ok _ rfl).mono ?_; rintro e w6 ⟨rfl, q6⟩
          have H6 := Lib.hid (H5.out.step q6)
          have Q6 : Hid (But (Sk d T) wa w6) := Lib.hid (Q5.out.trans (but_m q6.1))
          obtain ⟨n2, hn2⟩ : ∃ n, (stepK c s y).n = n := ⟨_, rfl⟩
          have HN2 := Lib.hid hn2
          clear q6 c9 hn2
          go_wp2_with (first | (refine store_box rfl 74 _ _ rfl T _ H6.out.box _ rfl rfl rfl (by kernel_rfl) rfl ?_; intro w9 B_ q_; have H9 : Hid (WkAt w9 c d s T (stepK c s y)) := Lib.hid (H6.out.put (x := (stepK c s y).x) B_ q_); have Q9 : Hid (But (Sk d T) wa w9) := Lib.hid (Q6.out.trans (but_r q_)); have k5 := H9.out.wd.k5; clear B_ q_) | fail)
          refine (Steps_at _ d.p d.b _ _ H9.out.wd.bank).mono ?_; rintro e w10 ⟨rfl, g10⟩
          have H10 := Lib.hid (H9.out.grown g10)
          have Q10 : Hid (But (Sk d T) wa w10) := Lib.hid (Q9.out.trans (But.of_grown g10))
          have hcn : (stepK c s y).n = y.n + 0 := HCt.out
          rw [hcn]
          clear g10 k5 hcn
          go_wp2_with fail
          refine ⟨⟨k + 1, by simp, hk2, Q10.out, ?_⟩, by simp [intOf]; omega⟩
          rw [HS.out]
          exact H10.out
      · have hlt : ¬ (k : Int) < (M : Int) := by omega
        obtain rfl : k = M := by omega
        have HEd : Hid ((runK c s y0 k).x.done = true) := Lib.hid (HWI.out.ends HMu.out)
        have HY := Lib.hid hwk
        have GE : Hid (Grown w wo) := Lib.hid (But.fresh Ga.out HQ.out (fun i hi => by
          rcases hi with h | h
          · exact HFr.out i h
          · omega))
        have c9 : wo.cell? ⟨T, 9, none⟩ = some (.bool true) := by rw [← HEd.out]; exact HY.out.box.cell 9 _ rfl
        clear hwk hq
        go_wp2_with fail
        go_ret
        exact ⟨rfl, GE.out⟩
end Go.Proofs.YtjdjcaoaefapgaaGreat
