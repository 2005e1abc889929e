/- WalkSound (corrielaw10), walked. -/
import Derived.Test.YtjdjcaoaefapgabGreatWkRun
import Derived.Test.YtjdjcaoaefapgabGreatWkCl
import Derived.Test.YtjdjcaoaefapgabGreatMScene
import Derived.Test.YtjdjcaoaefapgabGreatWkOt
namespace Go.Proofs.YtjdjcaoaefapgabGreat
open Go.ChangeShapes Go.WideShapes Go.ChangeAt Go.RowKit
set_option maxRecDepth 100000
set_option linter.unusedVariables false
theorem raw_one {c : Cf} (hb : c.b = 1) (ws : List Int) (s : St) : rawP c ws s = (foldN c ws s (chainI c ws 0) ([], [])).2 := by
  unfold rawP
  rw [hb]
  simp only [nodesTo, List.nil_append]
  rfl
theorem raw_id {c : Cf} (hb : c.b = 1) {ws : List Int} {s : St} (h : sndTo c ws s c.b = true) : sortP (rawP c ws s) = rawP c ws s := by
  have hr : (rawP c ws s).Pairwise fun a b => a.1 < b.1 := by
    unfold rawP
    rw [hb] at h ⊢
    simp only [sndTo, Bool.true_and] at h
    simp only [nodesTo, List.nil_append]
    exact sndL_rise _ (p := ps0) ⟨fun o ho => by simp [ps0] at ho, fun y hy => by simp at hy, .nil⟩ h
  exact sortP_id (hr.imp fun {a b} h => Int.le_of_lt h)
/-- A row that was there stays, beside a walk's variable and a world. -/
theorem flat_sk {d : Wd} {T : Nat} {w w' : World} {lo : Nat} {v : Value} {ps : List (Int × Int)} (h : FlatAt w lo v (flatP ps) ps.length) (q : But (Sk d T) w w') (hN : ∀ i, lo ≤ i → ¬ Mine d.p d.b i) (hT : ∀ g cap, v = .slice (some ⟨g, 0, none⟩) ps.length cap → g ≠ T) : FlatAt w' lo v (flatP ps) ps.length := by
  rcases h with h | ⟨h0, g, cap, rfl, hlo, hc⟩
  · exact .inl h
  · refine .inr ⟨h0, g, cap, rfl, hlo, fun j u hu => q.cell ?_ (hc j u hu)⟩
    rintro (k | k)
    · exact hN g hlo k
    · exact hT g cap rfl k

set_option maxHeartbeats 16000000 in
theorem law_WalkSound (f : Nat) (vi vc : Value) (xs : List It) (cs : List Cal) (key mode : Int) (w : World) (hf : f ≤ 255) (hi : RowO w vi (flatI xs) xs.length) (hc : RowO w vc (flatK cs) cs.length) (hw : ∀ x ∈ xs, x.Wf) (l1 : 0 ≤ key) (u1 : key ≤ 18446744073709551615) (l2 : -9223372036854775808 ≤ mode) (u2 : mode ≤ 9223372036854775807) :
    Calls Tryz.prog 3 #[.agg #[.int .u8 (f : Int), vi, vc], .int .u64 key, .int .i64 mode] w fun e w' => e = .returned (.bool true) ∧ Grown w w' := by
  obtain ⟨v, hv⟩ : ∃ v, decide (xs.length ≤ 12 ∧ cs.length ≤ 6) = v := ⟨_, rfl⟩
  obtain ⟨Ai, gi, oi, capi, rfl, hAi, hci⟩ := hi
  have hi : RowO w (.slice Ai xs.length capi) (flatI xs) xs.length := ⟨Ai, gi, oi, capi, rfl, hAi, hci⟩
  obtain ⟨vi, hvi⟩ : ∃ vi, (Value.slice Ai xs.length capi) = vi := ⟨_, rfl⟩
  have HF : Hid (∀ W, Calls Tryz.prog 6 #[.agg #[.int .u8 (f : Int), .slice Ai xs.length capi, vc]] W fun e w' => e = .returned (.bool v) ∧ Grown W w') := Lib.hid (fun W => by
    obtain ⟨A2, bb2, off2, cap2, rfl, -⟩ := hc
    exact Few9_at W f _ A2 _ _ _ _ v hv)
  have HV := Lib.hid hv
  have HI := Lib.hid hi
  have HC := Lib.hid hc
  have HW := Lib.hid hw
  have HOk := Lib.hid (c9_ok hf)
  obtain ⟨m, hm⟩ : ∃ m, xs.length = m := ⟨_, rfl⟩
  have HM := Lib.hid hm
  have HB := Lib.hid (Box.made w [.int .u8 (f : Int), .slice Ai xs.length capi, vc] 25)
  have GB : Grown w (w.alloc (.cells #[.int .u8 (f : Int), .slice Ai xs.length capi, vc] 25)) := by go_grown
  rw [hm] at HF HB GB ⊢
  clear hv hi hc hw hAi hci hvi hm
  go_enter Tryz.func3, Tryz.ntmps3
  go_wp2_with fail
  refine (awake10_at _).mono ?_; rintro e w1 ⟨rfl, g1⟩
  have HB1 := Lib.hid (HB.out.grown g1)
  have e0 := HB1.out.cell 0 (.int .u8 (f : Int)) rfl
  have e1 := HB1.out.cell 1 (.slice Ai m capi) rfl
  have e2 := HB1.out.cell 2 vc rfl
  have G1 := Lib.hid (gtr GB g1)
  clear GB g1 HB
  go_wp2_with fail
  refine (HF.out _).mono ?_; rintro e w2 ⟨rfl, g2⟩
  have HB2 := Lib.hid (HB1.out.grown g2)
  have G2 := Lib.hid (gtr G1.out g2)
  clear e0 e1 e2 g2 HB1 G1
  cases v
  · go_wp2_with fail
    go_ret
    exact ⟨rfl, G2.out⟩
  · obtain ⟨hl1, hl2⟩ := of_decide_eq_true HV.out
    obtain ⟨L, hL⟩ : ∃ L, layL (c9 f) (sortedI xs) = L := ⟨_, rfl⟩
    obtain ⟨s, hs⟩ : ∃ s, lyC (c9 f) L.s cs = s := ⟨_, rfl⟩
    have HLy : Hid (∀ W, Grown w W → Calls Tryz.prog 7 #[.agg #[.int .u8 (f : Int), .slice Ai m capi, vc]] W (LaidAt (c9 f) L.ws L.n s W)) := Lib.hid (fun W q => by rw [← HM.out]; exact lay10_at W f hf (.slice Ai xs.length capi) vc xs cs (HI.out.grown q) (HC.out.grown q) hl1 hl2 (fun x hx => (HW.out x hx).2.2) L hL s hs)
    have HLk : Hid (LyOk (c9 f) L xs.length) := Lib.hid (by
      have := layL_ok (c9 f) (sortedI xs) (fun x hx => by obtain ⟨y, hy, he⟩ := sortedI_word hx; rw [he]; exact (HW.out y hy).2.2) xs.length (by rw [sortedI_len]; exact Nat.le_refl _)
      rwa [List.take_of_length_le (by rw [sortedI_len]; exact Nat.le_refl _), hL] at this)
    have HInv : Hid (Inv (c9 f) s) := Lib.hid (by rw [← hs]; exact lyC_inv _ HLk.out.inv)
    have HSc : Hid (Scn (c9 f) s L.ws (sortedI xs)) := Lib.hid (scn_of HOk.out rfl (Nat.le_trans hl1 (by simp only [c9]; omega)) (Nat.le_trans hl1 (by simp only [c9]; omega)) cs L hL s hs)
    have HSo : Hid (s.ops.length < 20) := Lib.hid (by
      have h2 := (lyC_len (c9 f) cs L.s).1
      have h3 := HLk.out.ops
      rw [hs] at h2
      omega)
    have hn0 := HLk.out.n0
    have hn1 := HLk.out.n1
    have hnx : L.n ≤ 36 := by omega
    have hml : m ≤ 12 := by rw [← HM.out]; exact hl1
    clear hL hs hn1
    obtain ⟨c, hcc⟩ : ∃ c, c9 f = c := ⟨_, rfl⟩
    rw [hcc] at HLy HLk HInv HOk HSc
    have HCC := Lib.hid hcc
    clear hcc
    have e0 := HB2.out.cell 0 (.int .u8 (f : Int)) rfl
    have e1 := HB2.out.cell 1 (.slice Ai m capi) rfl
    have e2 := HB2.out.cell 2 vc rfl
    go_wp2_with fail
    refine (HLy.out _ G2.out).mono ?_; rintro e w3 ⟨d, rfl, g3, h3, f3⟩
    have HD := Lib.hid h3
    have G3 := Lib.hid (gtr G2.out g3)
    have HB3 := Lib.hid (HB2.out.grown g3)
    have HFr : Hid (∀ i, Mine d.p d.b i → w.heap.size ≤ i) := Lib.hid (fun i hi => Nat.le_trans G2.out.2.2 (f3 i (.inr hi)))
    have HFs : Hid (∀ i, Mine d.p d.b i → w.heap.size < i) := Lib.hid (fun i hi => by have h1 := f3 i (.inr hi); have h2 := HB2.out.lt; omega)
    clear e0 e1 e2 g3 h3 f3 HB2 G2
    have HFr2 : Hid (∀ i, Mine d.p d.b i → w.heap.size < i) := HFs
    go_wp2_with fail
    refine (Pairs_at _ _ d _ _ _ HD.out HInv.out HLk.out.wok (Nat.lt_of_le_of_lt (raw_few c L.ws s) HSo.out)).mono ?_; rintro e wp ⟨vw, rfl, fw, gp⟩
    have HFw : Hid (FlatAt wp w3.heap.size vw (flatP (sortP (rawP c L.ws s))) (sortP (rawP c L.ws s)).length) := Lib.hid fw
    have HNew : Hid (∀ i, w3.heap.size ≤ i → ¬ Mine d.p d.b i) := Lib.hid (fun i hi => HD.out.new hi)
    replace HD := Lib.hid (HD.out.grown gp)
    replace G3 := Lib.hid (gtr G3.out gp)
    replace HB3 := Lib.hid (HB3.out.grown gp)
    clear fw gp
    go_wp2_with fail
    refine (Sound_at _ c d L.ws L.n s HD.out HInv.out HLk.out.wok).mono ?_; rintro e w3' ⟨rfl, g3'⟩
    obtain ⟨sd, hsd⟩ : ∃ b, sndTo c L.ws s c.b = b := ⟨_, rfl⟩
    rw [hsd]
    have HSd := Lib.hid hsd
    replace HD := Lib.hid (HD.out.grown g3')
    replace G3 := Lib.hid (gtr G3.out g3')
    replace HB3 := Lib.hid (HB3.out.grown g3')
    replace HFw := Lib.hid (HFw.out.grown g3')
    clear g3' hsd
    go_wp2_with fail
    refine (kNew _ key mode).mono ?_; rintro e w4 ⟨rfl, g4⟩
    have ga : Grown w4 (w4.alloc (.cells (newK key mode).l.toArray 35)) := by go_grown
    have HB := Box.made w4 (newK key mode).l 35
    obtain ⟨T, hT⟩ : ∃ T, w4.heap.size = T := ⟨_, rfl⟩
    obtain ⟨wa, hwa⟩ : ∃ x, w4.alloc (.cells (newK key mode).l.toArray 35) = x := ⟨_, rfl⟩
    rw [hwa] at HB ga
    rw [hT] at HB
    have HA : Hid (WkAt wa c d s T ⟨L.ws, L.n, newK key mode⟩) := Lib.hid (WkAt.new HD.out (gtr g4 ga) HB (by have := g4.2.2; omega))
    have Ga := Lib.hid (gtr G3.out (gtr g4 ga))
    have HBa := Lib.hid (HB3.out.grown (gtr g4 ga))
    have hwT : w.heap.size < T := by have h1 := HB3.out.lt; have h2 := g4.2.2; omega
    have HNs : Hid (¬ Sk d T w.heap.size) := Lib.hid (by
      rintro (h | h)
      · have := HFr2.out _ h; omega
      · omega)
    have HWA := Lib.hid hwa
    have HTT := Lib.hid hT
    obtain ⟨y0, hy0⟩ : ∃ y : Kd, (⟨L.ws, L.n, newK key mode⟩ : Kd) = y := ⟨_, rfl⟩
    have HWI : Hid (WI c s key mode y0 [] (ids (sortedI xs).length)) := Lib.hid (by rw [← hy0]; exact HSc.out.walk HLk.out.wok L.n key mode)
    have HMu : Hid (mu c s y0 (ids (sortedI xs).length) ≤ 12 * m + 4) := Lib.hid (by rw [← hy0, ← HM.out]; have h1 := Scn.mu (c := c) (s := s) (ws := L.ws) (ys := sortedI xs) L.n key mode; rw [sortedI_len] at h1 ⊢; exact h1)
    have HKO : Hid (∀ k : Nat, KOk (runK c s y0 k) (36 + k)) := Lib.hid (fun k => KOk.run (y := y0) (by rw [← hy0]; exact ⟨HLk.out.wok, newK_ok key mode, hn0, hnx⟩) k)
    have HUp := Lib.hid HSc.out.up
    have HWS : Hid (sd = true → WS c s key mode y0 [] (ids (sortedI xs).length)) := Lib.hid (fun h => HWI.out.toWS (by rw [← hy0]; exact HSd.out.trans h))
    have HY0 : Hid (y0.ws = L.ws) := Lib.hid (by rw [← hy0])
    rw [hy0] at HA
    have HwT : Hid (∀ g cap, vw = .slice (some ⟨g, 0, none⟩) (sortP (rawP c L.ws s)).length cap → g ≠ T) := Lib.hid (fun g cap hv hg => by
      subst hv
      rcases HFw.out with ⟨-, -, hx⟩ | ⟨h0, g', cap', hx, -, hc⟩
      · cases hx
      · cases hx
        have := World.block_lt_of_cell? _ _ (hc 0 _ (List.getElem?_eq_getElem (by rw [flatP_len]; omega)))
        have h3 := g4.2.2
        simp only at this
        omega)
    replace HFw := Lib.hid ((HFw.out.grown g4).grown ga)
    clear g4 ga HB hwa hT G3 HD hy0
    simp only [newK, Wk.l] at HWA ⊢
    go_wp2_with fail
    rw [HWA.out, HTT.out]
    clear HWA HTT
    go_loopw [12] (fun si wr => ∃ k : Nat, si = .int .i64 (k : Int) ∧ k ≤ 12 * m + 4 ∧ But (Sk d T) wa wr ∧ WkAt wr c d s T (runK c s y0 k)) (fun si _ => 12 * m + 4 - (intOf si).toNat)
    case atStart => exact ⟨0, rfl, Nat.zero_le _, But.refl _ _, HA.out⟩
    case round =>
      obtain ⟨k, rfl, hk, hq, hwk⟩ := hrel
      obtain ⟨wo, hwo⟩ : ∃ x, x = wr := ⟨_, rfl⟩
      subst hwo
      have HQ := Lib.hid hq
      have HO := Lib.hid (HKO.out k)
      have e1 : wo.cell? ⟨w.heap.size, 1, none⟩ = some (.slice Ai m capi) := HQ.out.cell HNs.out (HBa.out.cell 1 _ rfl)
      by_cases hk2 : k < 12 * m + 4
      · as_aux_lemma =>
          have hlt : (k : Int) < 12 * (m : Int) + 4 := by omega
          have HS : Hid (runK c s y0 (k + 1) = stepK c s (runK c s y0 k)) := Lib.hid rfl
          have HSnd : Hid (sd = true → sndTo c (runK c s y0 (k + 1)).ws s c.b = true) := Lib.hid (fun h => by obtain ⟨p, r, h1, -⟩ := (HWS.out h).run (k + 1); exact h1.sound)
          have HO2 := Lib.hid (HKO.out (k + 1))
          obtain ⟨y, hy⟩ : ∃ y, runK c s y0 k = y := ⟨_, rfl⟩
          rw [hy] at hwk HO HS
          have HY := Lib.hid hwk
          have m0 := HO.out.n0
          have m1 := HO.out.n1
          clear hwk hq hy
          go_wp2_with (first | (refine load_box rfl 35 _ rfl T rfl _ _ Tryz.underlying35 rfl (by kernel_rfl) HY.out.box ?_) | fail)
          refine (kStep _ c d s y HY.out.wd HInv.out m0 (by omega) HO.out.wok HO.out.ok _ rfl).mono ?_; rintro e w6 ⟨rfl, q6⟩
          have H6 := Lib.hid (HY.out.step q6)
          have Q6 : Hid (But (Sk d T) wa w6) := Lib.hid (HQ.out.trans (but_m q6.1))
          clear q6 e1
          rw [HS.out] at HSnd HO2
          cases sd
          · clear HSnd
            go_wp2_with (first | (refine store_box rfl 35 _ _ rfl T _ H6.out.box _ rfl rfl rfl (by kernel_rfl) rfl ?_; intro w9 B_ q_; have H9 : Hid (WkAt w9 c d s T (stepK c s y)) := Lib.hid (H6.out.put (x := (stepK c s y).x) B_ q_); have Q9 : Hid (But (Sk d T) wa w9) := Lib.hid (Q6.out.trans (but_r q_)); clear B_ q_) | fail)
            refine ⟨⟨k + 1, by simp, hk2, Q9.out, ?_⟩, by simp [intOf]; omega⟩
            rw [HS.out]
            exact H9.out
          · have HSn1 := Lib.hid (HSnd.out rfl)
            clear HSnd
            go_wp2_with (first | (refine store_box rfl 35 _ _ rfl T _ H6.out.box _ rfl rfl rfl (by kernel_rfl) rfl ?_; intro w9 B_ q_; have H9 : Hid (WkAt w9 c d s T (stepK c s y)) := Lib.hid (H6.out.put (x := (stepK c s y).x) B_ q_); have Q9 : Hid (But (Sk d T) wa w9) := Lib.hid (Q6.out.trans (but_r q_)); clear B_ q_) | fail)
            refine (Sound_at _ c d (stepK c s y).ws (stepK c s y).n s H9.out.wd HInv.out HO2.out.wok).mono ?_; rintro e w10 ⟨rfl, g10⟩
            rw [HSn1.out]
            have H10 := Lib.hid (H9.out.grown g10)
            have Q10 := Lib.hid (Q9.out.trans (But.of_grown g10))
            clear g10
            go_wp2_with fail
            refine ⟨⟨k + 1, by simp, hk2, Q10.out, ?_⟩, by simp [intOf]; omega⟩
            rw [HS.out]
            exact H10.out
      · as_aux_lemma =>
          have hlt : ¬ (k : Int) < 12 * (m : Int) + 4 := by omega
          obtain rfl : k = 12 * m + 4 := by omega
          have GE : Hid (Grown w wo) := Lib.hid (But.fresh Ga.out HQ.out (fun i hi => by
            rcases hi with h | h
            · exact HFr.out i h
            · omega))
          have HEd : Hid ((runK c s y0 (12 * m + 4)).x.done = true) := Lib.hid (HWI.out.ends HMu.out)
          have HPr : Hid (sd = true → sortP (rawP c (runK c s y0 (12 * m + 4)).ws s) = rawP c (runK c s y0 (12 * m + 4)).ws s ∧ sortP (rawP c L.ws s) = rawP c L.ws s ∧ othP key (rawP c (runK c s y0 (12 * m + 4)).ws s) = othP key (rawP c L.ws s) ∧ (mode ≠ 1 → rawP c (runK c s y0 (12 * m + 4)).ws s = rawP c L.ws s)) := Lib.hid (fun h => by
            obtain ⟨p, r, h1, -, h3, h4⟩ := (HWS.out h).run (12 * m + 4)
            have b1 := HSc.out.b1
            have r1 := raw_one b1 (runK c s y0 (12 * m + 4)).ws s
            have r2 := raw_one b1 L.ws s
            have e0 : chainI c L.ws 0 = [] ++ ids (sortedI xs).length := by rw [← HY0.out]; exact HWI.out.chain
            rw [h1.wi.chain] at r1
            rw [e0] at r2
            rw [HY0.out] at h3 h4
            refine ⟨raw_id b1 h1.sound, raw_id b1 (HSd.out.trans h), ?_, fun hm => ?_⟩
            · unfold othP; rw [r1, r2]; exact h3
            · rw [r1, r2, h4 hm])
          have HFx := Lib.hid (flat_sk HFw.out HQ.out HNew.out HwT.out)
          obtain ⟨y, hy⟩ : ∃ y, runK c s y0 (12 * m + 4) = y := ⟨_, rfl⟩
          rw [hy] at hwk HO HEd HPr
          have HY := Lib.hid hwk
          clear hwk hq hy
          go_wp2_with fail
          clear e1
          refine (Pairs_at _ _ d _ _ _ HY.out.wd HInv.out HO.out.wok (Nat.lt_of_le_of_lt (raw_few c y.ws s) HSo.out)).mono ?_; rintro e w5 ⟨vi2, rfl, fi, g5⟩
          have H5 := Lib.hid (HY.out.grown g5)
          have G5 := Lib.hid (gtr GE.out g5)
          have HF1 := Lib.hid (HFx.out.grown g5)
          have HF2 := Lib.hid fi
          have hr1 := raw_few c y.ws s
          have hr2 := raw_few c L.ws s
          have hso := HSo.out
          have c9 : w5.cell? ⟨T, 9, none⟩ = some (.bool true) := by rw [← HEd.out]; exact H5.out.box.cell 9 _ rfl
          clear g5 fi
          cases sd
          · by_cases hD : mode = 1
            · have eD : (mode == 1) = true := by simpa using hD
              have dD : decide (mode = 1) = true := by simpa using hD
              go_wp2_with fail
              go_ret
              exact ⟨rfl, G5.out⟩
            · have eD : (mode == 1) = false := by simpa using hD
              have dD : decide (mode = 1) = false := by simpa using hD
              go_wp2_with fail
              go_ret
              exact ⟨rfl, G5.out⟩
          · obtain ⟨p1, p2, p3, p4⟩ := HPr.out rfl
            rw [p2] at HF1
            rw [p1] at HF2
            have HP3 := Lib.hid p3
            have HP4 := Lib.hid p4
            have hol : (othP key (rawP c y.ws s)).length ≤ 99999 := Nat.le_trans (List.length_filter_le _ _) (by omega)
            clear p1 p2 p3 p4
            by_cases hD : mode = 1
            · have eD : (mode == 1) = true := by simpa using hD
              have dD : decide (mode = 1) = true := by simpa using hD
              go_wp2_with fail
              refine (others_at _ _ vw _ key HF1.out (by omega)).mono ?_; rintro e w6 ⟨va, rfl, fa, g6⟩
              have HA6 := Lib.hid fa
              have G6 := Lib.hid (gtr G5.out g6)
              have HF26 := Lib.hid (HF2.out.grown g6)
              have G56 := Lib.hid g6
              clear fa g6 c9
              go_wp2_with fail
              refine (others_at _ _ vi2 _ key HF26.out (by omega)).mono ?_; rintro e w7 ⟨vb, rfl, fb, g7⟩
              have HB7 := Lib.hid (HP3.out ▸ fb)
              have HA7 := Lib.hid (HA6.out.grown g7)
              have G7 := Lib.hid (gtr G6.out g7)
              have G57 := Lib.hid (gtr G56.out g7)
              clear fb g7
              go_wp2_with fail
              refine (sameP_at _ _ _ va vb _ HA7.out HB7.out (by rw [← HP3.out]; exact hol)).mono ?_; rintro e w8 ⟨rfl, g8⟩
              have G8 := Lib.hid (gtr G7.out g8)
              have G58 := Lib.hid (gtr G57.out g8)
              clear g8
              go_wp2_with fail
              go_ret
              exact ⟨rfl, G8.out⟩
            · have eD : (mode == 1) = false := by simpa using hD
              have dD : decide (mode = 1) = false := by simpa using hD
              go_wp2_with fail
              refine (others_at _ _ vw _ key HF1.out (by omega)).mono ?_; rintro e w6 ⟨va, rfl, fa, g6⟩
              have HA6 := Lib.hid fa
              have G6 := Lib.hid (gtr G5.out g6)
              have HF26 := Lib.hid (HF2.out.grown g6)
              have G56 := Lib.hid g6
              clear fa g6 c9
              go_wp2_with fail
              refine (others_at _ _ vi2 _ key HF26.out (by omega)).mono ?_; rintro e w7 ⟨vb, rfl, fb, g7⟩
              have HB7 := Lib.hid (HP3.out ▸ fb)
              have HA7 := Lib.hid (HA6.out.grown g7)
              have G7 := Lib.hid (gtr G6.out g7)
              have G57 := Lib.hid (gtr G56.out g7)
              clear fb g7
              go_wp2_with fail
              refine (sameP_at _ _ _ va vb _ HA7.out HB7.out (by rw [← HP3.out]; exact hol)).mono ?_; rintro e w8 ⟨rfl, g8⟩
              have G8 := Lib.hid (gtr G7.out g8)
              have G58 := Lib.hid (gtr G57.out g8)
              clear g8
              have HF3 := HF1.out.grown G58.out
              have HF4 := HF2.out.grown G58.out
              rw [HP4.out hD] at HF4
              have HFa := Lib.hid HF3
              have HFb := Lib.hid HF4
              clear HF3 HF4
              go_wp2_with fail
              refine (sameP_at _ _ _ vw vi2 _ HFa.out HFb.out (by omega)).mono ?_; rintro e w9 ⟨rfl, g9⟩
              go_wp2_with fail
              go_ret
              exact ⟨rfl, gtr G8.out g9⟩
end Go.Proofs.YtjdjcaoaefapgabGreat
