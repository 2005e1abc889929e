/- WalkCleans (corrielaw10), walked. -/
import Derived.Test.YtjdjcaoaefapgabGreatWkRun
import Derived.Test.YtjdjcaoaefapgabGreatWkCl
import Derived.Test.YtjdjcaoaefapgabGreatMScene
namespace Go.Proofs.YtjdjcaoaefapgabGreat
open Go.ChangeShapes Go.WideShapes Go.ChangeAt Go.RowKit
set_option maxRecDepth 100000
set_option linter.unusedVariables false
set_option maxHeartbeats 16000000 in
theorem law_WalkCleans (f : Nat) (vi vc : Value) (xs : List It) (cs : List Cal) (key mode : Int) (w : World) (hf : f ≤ 255) (hi : RowO w vi (flatI xs) xs.length) (hc : RowO w vc (flatK cs) cs.length) (hw : ∀ x ∈ xs, x.Wf) (l1 : 0 ≤ key) (u1 : key ≤ 18446744073709551615) (l2 : -9223372036854775808 ≤ mode) (u2 : mode ≤ 9223372036854775807) :
    Calls Tryz.prog 4 #[.agg #[.int .u8 (f : Int), vi, vc], .int .u64 key, .int .i64 mode] w fun e w' => e = .returned (.bool true) ∧ Grown w w' := by
  obtain ⟨v, hv⟩ : ∃ v, decide (xs.length ≤ 12 ∧ cs.length ≤ 6) = v := ⟨_, rfl⟩
  obtain ⟨Ai, gi, oi, capi, rfl, hAi, hci⟩ := hi
  have hi : RowO w (.slice Ai xs.length capi) (flatI xs) xs.length := ⟨Ai, gi, oi, capi, rfl, hAi, hci⟩
  obtain ⟨vi, hvi⟩ : ∃ vi, (Value.slice Ai xs.length capi) = vi := ⟨_, rfl⟩
  have HF : Hid (∀ W, Calls Tryz.prog 6 #[.agg #[.int .u8 (f : Int), .slice Ai xs.length capi, vc]] W fun e w' => e = .returned (.bool v) ∧ Grown W w') := Lib.hid (fun W => by
    obtain ⟨A2, bb2, off2, cap2, rfl, -⟩ := hc
    exact Few9_at W f _ A2 _ _ _ _ v hv)
  have HV := Lib.hid hv
  have HI := Lib.hid hi
  have HC := Lib.hid hc
  have HW := Lib.hid hw
  have HOk := Lib.hid (c9_ok hf)
  obtain ⟨m, hm⟩ : ∃ m, xs.length = m := ⟨_, rfl⟩
  have HM := Lib.hid hm
  have HB := Lib.hid (Box.made w [.int .u8 (f : Int), .slice Ai xs.length capi, vc] 25)
  have GB : Grown w (w.alloc (.cells #[.int .u8 (f : Int), .slice Ai xs.length capi, vc] 25)) := by go_grown
  rw [hm] at HF HB GB ⊢
  clear hv hi hc hw hAi hci hvi hm
  go_enter Tryz.func4, Tryz.ntmps4
  go_wp2_with fail
  refine (awake10_at _).mono ?_; rintro e w1 ⟨rfl, g1⟩
  have HB1 := Lib.hid (HB.out.grown g1)
  have e0 := HB1.out.cell 0 (.int .u8 (f : Int)) rfl
  have e1 := HB1.out.cell 1 (.slice Ai m capi) rfl
  have e2 := HB1.out.cell 2 vc rfl
  have G1 := Lib.hid (gtr GB g1)
  clear GB g1 HB
  go_wp2_with fail
  refine (HF.out _).mono ?_; rintro e w2 ⟨rfl, g2⟩
  have HB2 := Lib.hid (HB1.out.grown g2)
  have G2 := Lib.hid (gtr G1.out g2)
  clear e0 e1 e2 g2 HB1 G1
  cases v
  · go_wp2_with fail
    go_ret
    exact ⟨rfl, G2.out⟩
  · obtain ⟨hl1, hl2⟩ := of_decide_eq_true HV.out
    obtain ⟨L, hL⟩ : ∃ L, layL (c9 f) (sortedI xs) = L := ⟨_, rfl⟩
    obtain ⟨s, hs⟩ : ∃ s, lyC (c9 f) L.s cs = s := ⟨_, rfl⟩
    have HLy : Hid (∀ W, Grown w W → Calls Tryz.prog 7 #[.agg #[.int .u8 (f : Int), .slice Ai m capi, vc]] W (LaidAt (c9 f) L.ws L.n s W)) := Lib.hid (fun W q => by rw [← HM.out]; exact lay10_at W f hf (.slice Ai xs.length capi) vc xs cs (HI.out.grown q) (HC.out.grown q) hl1 hl2 (fun x hx => (HW.out x hx).2.2) L hL s hs)
    have HLk : Hid (LyOk (c9 f) L xs.length) := Lib.hid (by
      have := layL_ok (c9 f) (sortedI xs) (fun x hx => by obtain ⟨y, hy, he⟩ := sortedI_word hx; rw [he]; exact (HW.out y hy).2.2) xs.length (by rw [sortedI_len]; exact Nat.le_refl _)
      rwa [List.take_of_length_le (by rw [sortedI_len]; exact Nat.le_refl _), hL] at this)
    have HInv : Hid (Inv (c9 f) s) := Lib.hid (by rw [← hs]; exact lyC_inv _ HLk.out.inv)
    have HSc : Hid (Scn (c9 f) s L.ws (sortedI xs)) := Lib.hid (scn_of HOk.out rfl (Nat.le_trans hl1 (by simp only [c9]; omega)) (Nat.le_trans hl1 (by simp only [c9]; omega)) cs L hL s hs)
    have HSo : Hid (s.ops.length < 20) := Lib.hid (by
      have h2 := (lyC_len (c9 f) cs L.s).1
      have h3 := HLk.out.ops
      rw [hs] at h2
      omega)
    have hn0 := HLk.out.n0
    have hn1 := HLk.out.n1
    have hnx : L.n ≤ 36 := by omega
    have hml : m ≤ 12 := by rw [← HM.out]; exact hl1
    clear hL hs hn1
    obtain ⟨c, hcc⟩ : ∃ c, c9 f = c := ⟨_, rfl⟩
    rw [hcc] at HLy HLk HInv HOk HSc
    have HCC := Lib.hid hcc
    clear hcc
    have e0 := HB2.out.cell 0 (.int .u8 (f : Int)) rfl
    have e1 := HB2.out.cell 1 (.slice Ai m capi) rfl
    have e2 := HB2.out.cell 2 vc rfl
    go_wp2_with fail
    refine (HLy.out _ G2.out).mono ?_; rintro e w3 ⟨d, rfl, g3, h3, f3⟩
    have HD := Lib.hid h3
    have G3 := Lib.hid (gtr G2.out g3)
    have HB3 := Lib.hid (HB2.out.grown g3)
    have HFr : Hid (∀ i, Mine d.p d.b i → w.heap.size ≤ i) := Lib.hid (fun i hi => Nat.le_trans G2.out.2.2 (f3 i (.inr hi)))
    have HFs : Hid (∀ i, Mine d.p d.b i → w.heap.size < i) := Lib.hid (fun i hi => by have h1 := f3 i (.inr hi); have h2 := HB2.out.lt; omega)
    clear e0 e1 e2 g3 h3 f3 HB2 G2
    have HFr2 : Hid (∀ i, Mine d.p d.b i → w.heap.size < i) := HFs
    go_wp2_with fail
    refine (Sound_at _ c d L.ws L.n s HD.out HInv.out HLk.out.wok).mono ?_; rintro e w3' ⟨rfl, g3'⟩
    obtain ⟨sd, hsd⟩ : ∃ b, sndTo c L.ws s c.b = b := ⟨_, rfl⟩
    rw [hsd]
    have HSd := Lib.hid hsd
    replace HD := Lib.hid (HD.out.grown g3')
    replace G3 := Lib.hid (gtr G3.out g3')
    replace HB3 := Lib.hid (HB3.out.grown g3')
    clear g3' hsd
    go_wp2_with fail
    refine (kNew _ key mode).mono ?_; rintro e w4 ⟨rfl, g4⟩
    have ga : Grown w4 (w4.alloc (.cells (newK key mode).l.toArray 35)) := by go_grown
    have HB := Box.made w4 (newK key mode).l 35
    obtain ⟨T, hT⟩ : ∃ T, w4.heap.size = T := ⟨_, rfl⟩
    obtain ⟨wa, hwa⟩ : ∃ x, w4.alloc (.cells (newK key mode).l.toArray 35) = x := ⟨_, rfl⟩
    rw [hwa] at HB ga
    rw [hT] at HB
    have HA : Hid (WkAt wa c d s T ⟨L.ws, L.n, newK key mode⟩) := Lib.hid (WkAt.new HD.out (gtr g4 ga) HB (by have := g4.2.2; omega))
    have Ga := Lib.hid (gtr G3.out (gtr g4 ga))
    have HBa := Lib.hid (HB3.out.grown (gtr g4 ga))
    have hwT : w.heap.size < T := by have h1 := HB3.out.lt; have h2 := g4.2.2; omega
    have HNs : Hid (¬ Sk d T w.heap.size) := Lib.hid (by
      rintro (h | h)
      · have := HFr2.out _ h; omega
      · omega)
    have HWA := Lib.hid hwa
    have HTT := Lib.hid hT
    obtain ⟨y0, hy0⟩ : ∃ y : Kd, (⟨L.ws, L.n, newK key mode⟩ : Kd) = y := ⟨_, rfl⟩
    have HWI : Hid (WI c s key mode y0 [] (ids (sortedI xs).length)) := Lib.hid (by rw [← hy0]; exact HSc.out.walk HLk.out.wok L.n key mode)
    have HMu : Hid (mu c s y0 (ids (sortedI xs).length) ≤ 12 * m + 4) := Lib.hid (by rw [← hy0, ← HM.out]; have h1 := Scn.mu (c := c) (s := s) (ws := L.ws) (ys := sortedI xs) L.n key mode; rw [sortedI_len] at h1 ⊢; exact h1)
    have HKO : Hid (∀ k : Nat, KOk (runK c s y0 k) (36 + k)) := Lib.hid (fun k => KOk.run (y := y0) (by rw [← hy0]; exact ⟨HLk.out.wok, newK_ok key mode, hn0, hnx⟩) k)
    have HUp := Lib.hid HSc.out.up
    have HWS : Hid (sd = true → WS c s key mode y0 [] (ids (sortedI xs).length)) := Lib.hid (fun h => HWI.out.toWS (by rw [← hy0]; exact HSd.out.trans h))
    have HY0 : Hid (y0.ws = L.ws) := Lib.hid (by rw [← hy0])
    rw [hy0] at HA
    clear g4 ga HB hwa hT G3 HD hy0
    simp only [newK, Wk.l] at HWA ⊢
    go_wp2_with fail
    rw [HWA.out, HTT.out]
    clear HWA HTT
    go_loopw [11] (fun si wr => ∃ k : Nat, si = .int .i64 (k : Int) ∧ k ≤ 12 * m + 4 ∧ But (Sk d T) wa wr ∧ WkAt wr c d s T (runK c s y0 k)) (fun si _ => 12 * m + 4 - (intOf si).toNat)
    case atStart => exact ⟨0, rfl, Nat.zero_le _, But.refl _ _, HA.out⟩
    case round =>
      obtain ⟨k, rfl, hk, hq, hwk⟩ := hrel
      obtain ⟨wo, hwo⟩ : ∃ x, x = wr := ⟨_, rfl⟩
      subst hwo
      have HQ := Lib.hid hq
      have HO := Lib.hid (HKO.out k)
      have e1 : wo.cell? ⟨w.heap.size, 1, none⟩ = some (.slice Ai m capi) := HQ.out.cell HNs.out (HBa.out.cell 1 _ rfl)
      by_cases hk2 : k < 12 * m + 4
      · as_aux_lemma =>
          have hlt : (k : Int) < 12 * (m : Int) + 4 := by omega
          have HS : Hid (runK c s y0 (k + 1) = stepK c s (runK c s y0 k)) := Lib.hid rfl
          obtain ⟨y, hy⟩ : ∃ y, runK c s y0 k = y := ⟨_, rfl⟩
          rw [hy] at hwk HO HS
          have HY := Lib.hid hwk
          have m0 := HO.out.n0
          have m1 := HO.out.n1
          clear hwk hq hy
          go_wp2_with (first | (refine load_box rfl 35 _ rfl T rfl _ _ Tryz.underlying35 rfl (by kernel_rfl) HY.out.box ?_) | fail)
          refine (kStep _ c d s y HY.out.wd HInv.out m0 (by omega) HO.out.wok HO.out.ok _ rfl).mono ?_; rintro e w6 ⟨rfl, q6⟩
          have H6 := Lib.hid (HY.out.step q6)
          have Q6 : Hid (But (Sk d T) wa w6) := Lib.hid (HQ.out.trans (but_m q6.1))
          clear q6 e1
          go_wp2_with (first | (refine store_box rfl 35 _ _ rfl T _ H6.out.box _ rfl rfl rfl (by kernel_rfl) rfl ?_; intro w9 B_ q_; have H9 : Hid (WkAt w9 c d s T (stepK c s y)) := Lib.hid (H6.out.put (x := (stepK c s y).x) B_ q_); have Q9 : Hid (But (Sk d T) wa w9) := Lib.hid (Q6.out.trans (but_r q_)); clear B_ q_) | fail)
          refine ⟨⟨k + 1, by simp, hk2, Q9.out, ?_⟩, by simp [intOf]; omega⟩
          rw [HS.out]
          exact H9.out
      · as_aux_lemma =>
          have hlt : ¬ (k : Int) < 12 * (m : Int) + 4 := by omega
          obtain rfl : k = 12 * m + 4 := by omega
          have GE : Hid (Grown w wo) := Lib.hid (But.fresh Ga.out HQ.out (fun i hi => by
            rcases hi with h | h
            · exact HFr.out i h
            · omega))
          have HEd : Hid ((runK c s y0 (12 * m + 4)).x.done = true) := Lib.hid (HWI.out.ends HMu.out)
          obtain ⟨pre, rest, HX1, HX2⟩ : ∃ pre rest, Hid (WI c s key mode (runK c s y0 (12 * m + 4)) pre rest) ∧ Hid ((pre ++ rest).Pairwise fun a b => keyOf_ s a ≤ keyOf_ s b) := by
            obtain ⟨p, r, h1, h2⟩ := HWI.out.runS (12 * m + 4)
            exact ⟨p, r, Lib.hid h1, Lib.hid (HUp.out.sublist h2)⟩
          have HIn : Hid (mode = 1 → sd = true → (runK c s y0 (12 * m + 4)).x.stop = false → inL c s (runK c s y0 (12 * m + 4)).ws key (pre ++ rest) ≤ 1) := Lib.hid (fun h1 h2 h3 => by
            subst h1
            obtain ⟨p, r, k1, k2, -, -⟩ := (HWS.out h2).run (12 * m + 4)
            have e : p ++ r = pre ++ rest := by rw [← k1.wi.chain, ← HX1.out.chain]
            have := k1.inn HEd.out h3 (HUp.out.sublist k2)
            rwa [e] at this)
          have HCh : Hid (chainI c (runK c s y0 (12 * m + 4)).ws 0 = pre ++ rest) := Lib.hid HX1.out.chain
          have HCl : Hid ((runK c s y0 (12 * m + 4)).x.stop = false → ∀ a ∈ pre ++ rest, (keyOf_ s a ≤ key → wd c (runK c s y0 (12 * m + 4)).ws (opAt s a) ≤ 1 ∧ nx c (runK c s y0 (12 * m + 4)).ws a % 2 = 0) ∧ (keyOf_ s a = key → mode = 1 → wd c (runK c s y0 (12 * m + 4)).ws (opAt s a) ≠ 0)) := Lib.hid (fun h => HX1.out.clean HEd.out h HX2.out)
          obtain ⟨y, hy⟩ : ∃ y, runK c s y0 (12 * m + 4) = y := ⟨_, rfl⟩
          rw [hy] at hwk HO HEd HIn HCh HCl
          obtain ⟨l, hl⟩ : ∃ l, pre ++ rest = l := ⟨_, rfl⟩
          rw [hl] at HIn HCh HCl
          have HY := Lib.hid hwk
          obtain ⟨st, hst⟩ : ∃ b, y.x.stop = b := ⟨_, rfl⟩
          rw [hst] at HIn HCl
          have HSt := Lib.hid hst
          have hll : l.length ≤ 9999 := by rw [← HCh.out]; exact chainI_len HOk.out _ _
          clear hwk hq hy hl hst HX1 HX2
          go_wp2_with fail
          refine (Chain_at _ c d y.ws y.n s HY.out.wd HInv.out HO.out.wok 0).mono ?_; rintro e w5 ⟨vl, rfl, rl, -, g5⟩
          rw [HCh.out] at rl
          have H5 := Lib.hid (HY.out.grown g5)
          have G5 := Lib.hid (gtr GE.out g5)
          have m0 := HO.out.n0
          have m1 := HO.out.n1
          obtain ⟨Al, gl, cpl, rfl, hAl, hcl⟩ : ∃ (Al : Option Addr) (gl cpl : Nat), vl = .slice Al l.length cpl ∧ (0 < l.length → Al = some ⟨gl, 0, none⟩ ∧ wo.heap.size ≤ gl) ∧ (∀ (j : Nat) (a : Int), l[j]? = some a → w5.cell? ⟨gl, j, none⟩ = some (.int .i64 a)) := by
            rcases rl with ⟨hz, -, rfl⟩ | ⟨hn, gl, cpl, rfl, hlo, hr⟩
            · exact ⟨none, 0, 0, by rw [hz], fun h => by omega, fun j a ha => by rw [List.eq_nil_of_length_eq_zero hz] at ha; simp at ha⟩
            · exact ⟨_, gl, cpl, rfl, fun _ => ⟨rfl, hlo⟩, fun j a ha => hr j _ (by simp [ints, ha])⟩
          have HAl := Lib.hid hAl
          have HRow := Lib.hid hcl
          obtain ⟨N, hN⟩ : ∃ N, l.length = N := ⟨_, rfl⟩
          rw [hN] at hll ⊢
          have HN := Lib.hid hN
          rw [hN] at HAl
          clear g5 hAl hcl hN
          go_wp2_with fail
          go_loopw [13, 14, 15, 16, 17] (fun s13 s14 s15 s16 s17 wr => ∃ (j : Nat) (nn : Int), s14 = .int .i64 (j : Int) ∧ s13 = .int .i64 (inL c s y.ws key (l.take j) : Int) ∧ j ≤ N ∧ (st = true → j = 0) ∧ But (Mine d.p d.b) w5 wr ∧ WkAt wr c d s T ⟨y.ws, nn, y.x⟩ ∧ y.n ≤ nn ∧ nn ≤ y.n + 2 * j) (fun s13 s14 s15 s16 s17 _ => N - (intOf s14).toNat)
          case atStart => exact ⟨0, y.n, rfl, rfl, Nat.zero_le _, fun _ => rfl, But.refl _ _, H5.out, Int.le_refl _, by omega⟩
          case round =>
            obtain ⟨j, nn, rfl, rfl, hj, hst, hq, hwk, nn0, nn1⟩ := hrel
            obtain ⟨wo2, hwo2⟩ : ∃ x, x = wr := ⟨_, rfl⟩
            subst hwo2
            have HQ2 := Lib.hid hq
            have HY2 := Lib.hid hwk
            have c8 : wo2.cell? ⟨T, 8, none⟩ = some (.bool st) := by rw [← HSt.out]; exact hwk.box.cell 8 _ rfl
            obtain ⟨q, hqq⟩ : ∃ q, inL c s y.ws key (l.take j) = q := ⟨_, rfl⟩
            rw [hqq]
            have HQQ := Lib.hid hqq
            have hq9 : q ≤ 9999 := by rw [← hqq]; unfold inL; exact Nat.le_trans (List.length_filter_le _ _) (by rw [List.length_take]; omega)
            clear hq hwk hqq
            by_cases hgo : j < N ∧ st = false
            · as_aux_lemma =>
                obtain ⟨hjN, hsf⟩ := hgo
                have hlt : (j : Int) < (N : Int) := by omega
                obtain ⟨rfl, hgl⟩ := HAl.out (by omega)
                obtain ⟨a, ha⟩ : ∃ a, l[j]? = some a := ⟨_, List.getElem?_eq_getElem (by rw [HN.out]; exact hjN)⟩
                obtain ⟨HCl1, HCl2⟩ : Hid (keyOf_ s a ≤ key → wd c y.ws (opAt s a) ≤ 1 ∧ nx c y.ws a % 2 = 0) ∧ Hid (keyOf_ s a = key → mode = 1 → wd c y.ws (opAt s a) ≠ 0) := ⟨Lib.hid (HCl.out hsf a (List.mem_of_getElem? ha)).1, Lib.hid (HCl.out hsf a (List.mem_of_getElem? ha)).2⟩
                have HStep : Hid (inL c s y.ws key (l.take (j + 1)) = q + (if keyOf_ s a = key ∧ wd c y.ws (opAt s a) = 1 then 1 else 0)) := Lib.hid (by
                  rw [← HQQ.out, List.take_add_one, ha]
                  unfold inL
                  simp only [Option.toList_some, List.filter_append, List.length_append, List.filter_cons, List.filter_nil]
                  by_cases e : keyOf_ s a = key ∧ wd c y.ws (opAt s a) = 1
                  · rw [if_pos e, if_pos (by simpa using e)]; rfl
                  · rw [if_neg e, if_neg (by simpa using e)]; rfl)
                obtain ⟨kv, hkv⟩ : ∃ v, keyOf_ s a = v := ⟨_, rfl⟩
                obtain ⟨op, hop⟩ : ∃ o, opAt s a = o := ⟨_, rfl⟩
                obtain ⟨wv, hwv⟩ : ∃ v, wd c y.ws op = v := ⟨_, rfl⟩
                obtain ⟨nv, hnv⟩ : ∃ v, nx c y.ws a = v := ⟨_, rfl⟩
                rw [hkv, hop, hwv] at HCl1 HCl2 HStep
                rw [hnv] at HCl1
                have HKv := Lib.hid hkv
                have HOp := Lib.hid hop
                have HWv : Hid (rd y.ws (wrdI c op) = wv) := Lib.hid hwv
                have HNv : Hid (rd y.ws (nxtI c a) = nv) := Lib.hid hnv
                have hwv0 : 0 ≤ wv := by rw [← hwv]; exact (HO.out.wok (wrdI c op)).1
                have hnv0 : 0 ≤ nv := by rw [← hnv]; exact (HO.out.wok (nxtI c a)).1
                have hnv1 : nv ≤ 18446744073709551615 := by rw [← hnv]; exact (HO.out.wok (nxtI c a)).2
                have hgM : ¬ Mine d.p d.b gl := HY.out.wd.new hgl
                have HGM := Lib.hid hgM
                have HCell := Lib.hid (HRow.out j a ha)
                obtain ⟨oo, hoo⟩ : ∃ o, lookI s.nodes a = o := ⟨_, rfl⟩
                have hcr : carriedOf oo = op := by rw [← hop, ← hoo]; rfl
                have HOO := Lib.hid hoo
                have HCR := Lib.hid hcr
                have nn2 : 0 ≤ nn := by omega
                have nn3 : nn + 2 < 4611686018427387904 := by omega
                have b1 : ∀ g : GrW wo2, g.w.cell? ⟨d.x, 6, none⟩ = some (.pointer (some ⟨d.a.p, 0, none⟩)) := GrW.cell HY2.out.wd.k6
                have b2 : ∀ g : GrW wo2, g.w.cell? ⟨gl, j, none⟩ = some (.int .i64 a) := GrW.cell (HQ2.out.cell HGM.out HCell.out)
                clear ha hkv hop hwv hnv hoo hcr hgM
                subst hsf
                go_wp2_with fail
                refine wp_region_grow (by kernel_rfl) (by kernel_rfl) ?_
                repeat (go_big_quiet_step ((go_at_call 15; exact grcall (Key_at _ c d.a s (HY2.out.wd.book.grown (GrW.gr _)) HInv.out a kv HKv.out))))
                refine wpQuiet_nil ?_
                rintro w6 ⟨⟨_, g6⟩, rfl⟩
                have H6 := Lib.hid (HY2.out.grown g6)
                have Q6 := Lib.hid (HQ2.out.trans (But.of_grown g6))
                clear g6 b1 b2 c8
                go_wp2_with fail
                refine wp_region_planb (Mine d.p d.b) (.one [0, 1, 2, 3, 4, 5, 6, 7, 8] 9 (.one [] 10 (.fin [11]))) (by kernel_rfl) (by kernel_rfl) (by kernel_rfl) ?_
                intro w7 g7
                have H7 := Lib.hid (H6.out.grown g7)
                have Q7 := Lib.hid (Q6.out.trans (But.of_grown g7))
                have b1 : ∀ g : ButW (Mine d.p d.b) w7, g.w.cell? ⟨d.x, 6, none⟩ = some (.pointer (some ⟨d.a.p, 0, none⟩)) := ButW.cell H7.out.wd.mine H7.out.wd.k6
                have b2 : ∀ g : ButW (Mine d.p d.b) w7, g.w.cell? ⟨gl, j, none⟩ = some (.int .i64 a) := ButW.cell HGM.out (Q7.out.cell HGM.out HCell.out)
                clear g7
                refine plan_one ?_
                simp only [nths, nth, List.map_cons, List.map_nil, List.getD_cons_zero, List.getD_cons_succ]
                repeat go_big_quiet_step (fail)
                clear b1 b2
                refine wpQuiet_nil ?_
                go_wp2_with fail
                refine (Carried_at _ c d.a s H7.out.wd.book HInv.out a oo HOO.out).mono ?_; rintro e w8 ⟨rfl, g8⟩
                rw [HCR.out]
                have H8 := Lib.hid (H7.out.grown g8)
                go_wp2_with fail
                refine nxt_but (But.of_grown g8) (plan_one ?_)
                simp only [nths, nth, List.map_nil, List.getD_cons_zero, List.getD_cons_succ]
                refine wpQuiet_nil ?_
                go_wp2_with fail
                refine (wWord_any _ c d y.ws nn s op H8.out.wd nn2 (by omega)).mono ?_; rintro e w9 ⟨rfl, q9, h9⟩
                rw [HWv.out]
                have hcn := cnt_le y.ws (wrdI c op)
                obtain ⟨n3, hn3⟩ : ∃ x, nn + cnt y.ws (wrdI c op) = x := ⟨_, rfl⟩
                rw [hn3] at h9
                have HN3 := Lib.hid hn3
                have H9 : Hid (WkAt w9 c d s T ⟨y.ws, n3, y.x⟩) := Lib.hid (H8.out.step ⟨q9, h9⟩)
                have q79 : But (Mine d.p d.b) w7 w9 := (But.of_grown g8).trans q9
                have Q9 := Lib.hid (Q7.out.trans q79)
                have hn30 : nn ≤ n3 ∧ n3 ≤ nn + 1 := by omega
                clear q9 h9 g8 hn3 hcn
                go_wp2_with fail
                refine nxt_but q79 (plan_fin ?_)
                simp only [nths, nth, List.map_cons, List.map_nil, List.getD_cons_zero, List.getD_cons_succ]
                repeat go_big_quiet_step (fail)
                refine wpQuiet_nil ?_
                have b2 : w9.cell? ⟨gl, j, none⟩ = some (.int .i64 a) := Q9.out.cell HGM.out HCell.out
                clear q79
                go_wp2_with fail
                refine (wNext_any _ c d y.ws n3 s a H9.out.wd (by omega) (by omega)).mono ?_; rintro e w10 ⟨rfl, q10, h10⟩
                rw [HNv.out]
                have hcn2 := cnt_le y.ws (nxtI c a)
                obtain ⟨n4, hn4⟩ : ∃ x, n3 + cnt y.ws (nxtI c a) = x := ⟨_, rfl⟩
                rw [hn4] at h10
                have HN4 := Lib.hid hn4
                have hn3' := HN3.out
                have H10 : Hid (WkAt w10 c d s T ⟨y.ws, n4, y.x⟩) := Lib.hid (H9.out.step ⟨q10, h10⟩)
                have Q10 := Lib.hid (Q9.out.trans q10)
                have hn40 : y.n ≤ n4 ∧ n4 ≤ y.n + 2 * ((j + 1 : Nat) : Int) := by omega
                clear q10 h10 b2 hcn2 hn3' hn4
                have hrem : IntKind.u64.wrap (Int.tmod nv 2) = nv % 2 := by
                  rw [Int.tmod_eq_emod_of_nonneg hnv0]
                  unfold IntKind.wrap
                  simp [IntKind.bits]
                  omega
                have par : nv % 2 = 0 ∨ nv % 2 = 1 := by omega
                by_cases hA : kv ≤ key
                · obtain ⟨w1, p1⟩ := HCl1.out hA
                  have hB : ¬ 1 < wv := by omega
                  have hM : ¬ nv % 2 = 1 := by omega
                  by_cases hK : kv = key
                  · by_cases hD : mode = 1
                    · have hZ : ¬ wv = 0 := HCl2.out hK hD
                      have hV : wv = 1 := by omega
                      have dA : decide (kv ≤ key) = true := by simpa using hA
                      have dB : decide (1 < wv) = false := by simpa using hB
                      have dM : decide (nv % 2 = 1) = false := by simpa using hM
                      have bM : (nv % 2 == 1) = false := by simpa using hM
                      have dK : decide (kv = key) = true := by simpa using hK
                      have bK : (kv == key) = true := by simpa using hK
                      have dD : decide (mode = 1) = true := by simpa using hD
                      have bD : (mode == 1) = true := by simpa using hD
                      have dZ : decide (wv = 0) = false := by simpa using hZ
                      have bZ : (wv == 0) = false := by simpa using hZ
                      have dV : decide (wv = 1) = true := by simpa using hV
                      have bV : (wv == 1) = true := by simpa using hV
                      have HDm := Lib.hid hD
                      clear hD
                      go_wp2_with fail
                      refine ⟨⟨j + 1, n4, by simp, ?_, hjN, (fun h => by cases h), Q10.out, H10.out, hn40.1, hn40.2⟩, by simp [intOf]; omega⟩
                      rw [HStep.out, if_pos (show kv = key ∧ wv = 1 from ⟨hK, hV⟩)]
                      simp
                    · by_cases hV : wv = 1
                      · have dA : decide (kv ≤ key) = true := by simpa using hA
                        have dB : decide (1 < wv) = false := by simpa using hB
                        have dM : decide (nv % 2 = 1) = false := by simpa using hM
                        have bM : (nv % 2 == 1) = false := by simpa using hM
                        have dK : decide (kv = key) = true := by simpa using hK
                        have bK : (kv == key) = true := by simpa using hK
                        have dD : decide (mode = 1) = false := by simpa using hD
                        have bD : (mode == 1) = false := by simpa using hD
                        have dV : decide (wv = 1) = true := by simpa using hV
                        have bV : (wv == 1) = true := by simpa using hV
                        go_wp2_with fail
                        refine ⟨⟨j + 1, n4, by simp, ?_, hjN, (fun h => by cases h), Q10.out, H10.out, hn40.1, hn40.2⟩, by simp [intOf]; omega⟩
                        rw [HStep.out, if_pos (show kv = key ∧ wv = 1 from ⟨hK, hV⟩)]
                        simp
                      · have dA : decide (kv ≤ key) = true := by simpa using hA
                        have dB : decide (1 < wv) = false := by simpa using hB
                        have dM : decide (nv % 2 = 1) = false := by simpa using hM
                        have bM : (nv % 2 == 1) = false := by simpa using hM
                        have dK : decide (kv = key) = true := by simpa using hK
                        have bK : (kv == key) = true := by simpa using hK
                        have dD : decide (mode = 1) = false := by simpa using hD
                        have bD : (mode == 1) = false := by simpa using hD
                        have dV : decide (wv = 1) = false := by simpa using hV
                        have bV : (wv == 1) = false := by simpa using hV
                        go_wp2_with fail
                        refine ⟨⟨j + 1, n4, by simp, ?_, hjN, (fun h => by cases h), Q10.out, H10.out, hn40.1, hn40.2⟩, by simp [intOf]; omega⟩
                        rw [HStep.out, if_neg (show ¬ (kv = key ∧ wv = 1) from fun h => hV h.2)]
                        simp
                  · have dA : decide (kv ≤ key) = true := by simpa using hA
                    have dB : decide (1 < wv) = false := by simpa using hB
                    have dM : decide (nv % 2 = 1) = false := by simpa using hM
                    have bM : (nv % 2 == 1) = false := by simpa using hM
                    have dK : decide (kv = key) = false := by simpa using hK
                    have bK : (kv == key) = false := by simpa using hK
                    go_wp2_with fail
                    refine ⟨⟨j + 1, n4, by simp, ?_, hjN, (fun h => by cases h), Q10.out, H10.out, hn40.1, hn40.2⟩, by simp [intOf]; omega⟩
                    rw [HStep.out, if_neg (show ¬ (kv = key ∧ wv = 1) from fun h => hK h.1)]
                    simp
                · have hK : ¬ kv = key := by omega
                  have dA : decide (kv ≤ key) = false := by simpa using hA
                  have dK : decide (kv = key) = false := by simpa using hK
                  have bK : (kv == key) = false := by simpa using hK
                  go_wp2_with fail
                  refine ⟨⟨j + 1, n4, by simp, ?_, hjN, (fun h => by cases h), Q10.out, H10.out, hn40.1, hn40.2⟩, by simp [intOf]; omega⟩
                  rw [HStep.out, if_neg (show ¬ (kv = key ∧ wv = 1) from fun h => hK h.1)]
                  simp
            · as_aux_lemma =>
                have hno : ¬ ((j : Int) < (N : Int)) ∨ st = true := by
                  cases st
                  · left; intro h; exact hgo ⟨by omega, rfl⟩
                  · right; rfl
                have HQe : Hid (mode = 1 → sd = true → q ≤ 1) := Lib.hid (fun h1 h2 => by
                  cases st
                  · have hjN : j = N := by
                      rcases hno with h | h
                      · omega
                      · cases h
                    have := HIn.out h1 h2 rfl
                    rw [← HQQ.out, hjN, ← HN.out, List.take_length]
                    exact this
                  · have := hst rfl
                    subst this
                    rw [← HQQ.out]
                    simp [inL])
                have c9 : wo2.cell? ⟨T, 9, none⟩ = some (.bool true) := by rw [← HEd.out]; exact HY2.out.box.cell 9 _ rfl
                have GF : Hid (Grown w wo2) := Lib.hid (But.fresh G5.out HQ2.out (fun i hi => HFr.out i hi))
                clear hgo hst
                by_cases hD : mode = 1
                · have dD : (mode != 1) = false := by simpa using hD
                  have eD : (mode == 1) = true := by simpa using hD
                  have HDm := Lib.hid hD
                  clear hD
                  cases sd
                  · rcases hno with hno | hno
                    · cases st
                      · go_wp2_with fail
                        go_ret
                        exact ⟨rfl, GF.out⟩
                      · go_wp2_with fail
                        go_ret
                        exact ⟨rfl, GF.out⟩
                    · subst hno
                      by_cases hjn : (j : Int) < (N : Int)
                      · go_wp2_with fail
                        go_ret
                        exact ⟨rfl, GF.out⟩
                      · go_wp2_with fail
                        go_ret
                        exact ⟨rfl, GF.out⟩
                  · have hq1 : q ≤ 1 := HQe.out HDm.out rfl
                    have dq : decide ((q : Int) ≤ 1) = true := decide_eq_true (by omega)
                    rcases hno with hno | hno
                    · cases st
                      · go_wp2_with fail
                        go_ret
                        exact ⟨rfl, GF.out⟩
                      · go_wp2_with fail
                        go_ret
                        exact ⟨rfl, GF.out⟩
                    · subst hno
                      by_cases hjn : (j : Int) < (N : Int)
                      · go_wp2_with fail
                        go_ret
                        exact ⟨rfl, GF.out⟩
                      · go_wp2_with fail
                        go_ret
                        exact ⟨rfl, GF.out⟩
                · have dD : (mode != 1) = true := by simpa using hD
                  have eD : (mode == 1) = false := by simpa using hD
                  rcases hno with hno | hno
                  · cases st
                    · go_wp2_with fail
                      go_ret
                      exact ⟨rfl, GF.out⟩
                    · go_wp2_with fail
                      go_ret
                      exact ⟨rfl, GF.out⟩
                  · subst hno
                    by_cases hjn : (j : Int) < (N : Int)
                    · go_wp2_with fail
                      go_ret
                      exact ⟨rfl, GF.out⟩
                    · go_wp2_with fail
                      go_ret
                      exact ⟨rfl, GF.out⟩
end Go.Proofs.YtjdjcaoaefapgabGreat
