/- LookRises (corrielaw09), walked: in a world that is sound the pairs' keys rise. -/
import Derived.Test.YtagapfejgmmppaaGreatAwake9
import Derived.Test.YtagapfejgmmppaaGreatRises
import Derived.Test.YtagapfejgmmppaaGreatSceneOpen
namespace Go.Proofs.YtagapfejgmmppaaGreat
open Go.ChangeShapes Go.WideShapes Go.ChangeAt Go.RowKit
set_option maxRecDepth 100000
set_option linter.unusedVariables false

theorem Few9_at (w : World) (f : Int) (A A2 : Option Addr) (n m c c2 : Nat) (r : Bool) (hr : decide (n ≤ 12 ∧ m ≤ 6) = r) :
    Calls Tryz.prog 9 #[.agg #[.int .u8 f, .slice A n c, .slice A2 m c2]] w fun e w' => e = .returned (.bool r) ∧ Grown w w' := by
  subst hr
  have HB := Lib.hid (Box.made w [.int .u8 f, .slice A n c, .slice A2 m c2] 25)
  have e1 := HB.out.cell 1 _ rfl
  have e2 := HB.out.cell 2 _ rfl
  by_cases h1 : n ≤ 12
  · have h1' : decide ((n : Int) ≤ 12) = true := decide_eq_true (by omega)
    by_cases h2 : m ≤ 6
    · have h2' : decide ((m : Int) ≤ 6) = true := decide_eq_true (by omega)
      rw [show decide (n ≤ 12 ∧ m ≤ 6) = true from decide_eq_true ⟨h1, h2⟩]
      go_enter Tryz.func9, Tryz.ntmps9
      go_wp2_with fail
      go_ret
      exact ⟨rfl, by go_grown⟩
    · have h2' : decide ((m : Int) ≤ 6) = false := decide_eq_false (by omega)
      rw [show decide (n ≤ 12 ∧ m ≤ 6) = false from decide_eq_false (fun h => h2 h.2)]
      go_enter Tryz.func9, Tryz.ntmps9
      go_wp2_with fail
      go_ret
      exact ⟨rfl, by go_grown⟩
  · have h1' : decide ((n : Int) ≤ 12) = false := decide_eq_false (by omega)
    rw [show decide (n ≤ 12 ∧ m ≤ 6) = false from decide_eq_false (fun h => h1 h.1)]
    go_enter Tryz.func9, Tryz.ntmps9
    go_wp2_with fail
    go_ret
    exact ⟨rfl, by go_grown⟩

set_option maxHeartbeats 8000000 in
theorem law_LookRises (f : Nat) (vi vc : Value) (xs : List It) (cs : List Cal) (w : World) (hf : f ≤ 255) (hi : RowO w vi (flatI xs) xs.length) (hc : RowO w vc (flatK cs) cs.length) (hw : ∀ x ∈ xs, x.Wf) :
    Calls Tryz.prog 5 #[.agg #[.int .u8 (f : Int), vi, vc]] w fun e w' => e = .returned (.bool true) ∧ Grown w w' := by
  obtain ⟨v, hv⟩ : ∃ v, decide (xs.length ≤ 12 ∧ cs.length ≤ 6) = v := ⟨_, rfl⟩
  have HF : Hid (∀ W, Calls Tryz.prog 9 #[.agg #[.int .u8 (f : Int), vi, vc]] W fun e w' => e = .returned (.bool v) ∧ Grown W w') := Lib.hid (fun W => by
    obtain ⟨A, bb, off, cap, rfl, -⟩ := hi
    obtain ⟨A2, bb2, off2, cap2, rfl, -⟩ := hc
    exact Few9_at W f A A2 _ _ _ _ v hv)
  have HV := Lib.hid hv
  have HI := Lib.hid hi
  have HC := Lib.hid hc
  have HW := Lib.hid hw
  have HB := Lib.hid (Box.made w [.int .u8 (f : Int), vi, vc] 25)
  have GB : Grown w (w.alloc (.cells #[.int .u8 (f : Int), vi, vc] 25)) := by go_grown
  clear hv hi hc hw
  go_enter Tryz.func5, Tryz.ntmps5
  go_wp2_with fail
  refine (awake_at _).mono ?_; rintro e w1 ⟨rfl, g1⟩
  have HB1 := Lib.hid (HB.out.grown g1)
  have e0 := HB1.out.cell 0 _ rfl
  have e1 := HB1.out.cell 1 _ rfl
  have e2 := HB1.out.cell 2 _ rfl
  have G1 := Lib.hid (gtr GB g1)
  clear GB g1 HB
  go_wp2_with fail
  refine (HF.out _).mono ?_; rintro e w2 ⟨rfl, g2⟩
  have HB2 := Lib.hid (HB1.out.grown g2)
  have G2 := Lib.hid (gtr G1.out g2)
  clear e0 e1 e2 g2 HB1 G1
  cases v
  · go_wp2_with fail
    go_ret
    exact ⟨rfl, G2.out⟩
  · obtain ⟨hl1, hl2⟩ := of_decide_eq_true HV.out
    obtain ⟨L, hL⟩ : ∃ L, layL (c9 f) (sortedI xs) = L := ⟨_, rfl⟩
    obtain ⟨s, hs⟩ : ∃ s, lyC (c9 f) L.s cs = s := ⟨_, rfl⟩
    have HLy : Hid (∀ W, Grown w W → Calls Tryz.prog 10 #[.agg #[.int .u8 (f : Int), vi, vc]] W (LaidAt (c9 f) L.ws L.n s W)) := Lib.hid (fun W q => lay_at W f hf vi vc xs cs (HI.out.grown q) (HC.out.grown q) hl1 hl2 (fun x hx => (HW.out x hx).2.2) L hL s hs)
    have HLk : Hid (LyOk (c9 f) L xs.length) := Lib.hid (by
      have := layL_ok (c9 f) (sortedI xs) (fun x hx => by obtain ⟨y, hy, he⟩ := sortedI_word hx; rw [he]; exact (HW.out y hy).2.2) xs.length (by rw [sortedI_len]; exact Nat.le_refl _)
      rwa [List.take_of_length_le (by rw [sortedI_len]; exact Nat.le_refl _), hL] at this)
    have HInv : Hid (Inv (c9 f) s) := Lib.hid (by rw [← hs]; exact lyC_inv _ HLk.out.inv)
    have HFew : Hid ((rawP (c9 f) L.ws s).length < 20) := Lib.hid (by
      have h1 := raw_few (c9 f) L.ws s
      have h2 := (lyC_len (c9 f) cs L.s).1
      have h3 := HLk.out.ops
      rw [hs] at h2
      omega)
    obtain ⟨S, hS⟩ : ∃ S, sndTo (c9 f) L.ws s (c9 f).b = S := ⟨_, rfl⟩
    obtain ⟨ps, hps⟩ : ∃ ps, sortP (rawP (c9 f) L.ws s) = ps := ⟨_, rfl⟩
    have HS := Lib.hid hS
    have HP := Lib.hid hps
    have HR : Hid (S = true → ps.Pairwise fun a b => a.1 < b.1) := Lib.hid (fun h => by rw [← hps]; exact rises_of_sound rfl (hS.trans h))
    have HPl : Hid (ps.length < 20) := Lib.hid (by rw [← hps, sortP_len]; exact HFew.out)
    clear hL hs hS hps hl1 hl2
    have e0 := HB2.out.cell 0 _ rfl
    have e1 := HB2.out.cell 1 _ rfl
    have e2 := HB2.out.cell 2 _ rfl
    go_wp2_with fail
    refine (HLy.out _ G2.out).mono ?_; rintro e w3 ⟨d, rfl, g3, h3, -⟩
    have HD := Lib.hid h3
    have G3 := Lib.hid (gtr G2.out g3)
    clear e0 e1 e2 g3 h3
    go_wp2_with fail
    refine (Pairs_at _ _ d _ _ _ HD.out HInv.out HLk.out.wok HFew.out).mono ?_; rintro e w4 ⟨v, rfl, fp, g4⟩
    rw [HP.out] at fp
    have HD4 := Lib.hid (HD.out.grown g4)
    have G4 := Lib.hid (gtr G3.out g4)
    clear g4
    obtain ⟨n, hn⟩ : ∃ n, ps.length = n := ⟨_, rfl⟩
    rw [hn] at fp
    have HN := Lib.hid hn
    clear hn
    rcases fp with ⟨-, -, rfl⟩ | ⟨hn0, gp, cp, rfl, -, kp⟩
    · go_wp2_with fail
      refine wp_loop_rounds 1 ?_
      rw [rounds_succ]
      go_wp2_with fail
      go_ret
      exact ⟨rfl, G4.out⟩
    · have HK := Lib.hid kp
      clear kp
      go_wp2_with fail
      go_loopw [6, 7] (fun s6 s7 wr => ∃ (R : Bool) (k : Nat), s6 = .bool R ∧ s7 = .int .i64 ((k : Int) + 1) ∧ k < n ∧ (S = true → R = true) ∧ Grown w4 wr) (fun s6 s7 _ => n - (intOf s7).toNat)
      case atStart => exact ⟨true, 0, rfl, rfl, hn0, fun _ => rfl, Grown.refl _⟩
      case round =>
        obtain ⟨R, k, rfl, rfl, hk, hR, hg⟩ := hrel
        have HRr := Lib.hid hR
        have HG := Lib.hid hg
        have HPn := HPl.out
        have HNn := HN.out
        clear hR hg
        by_cases hkn : k + 1 < n
        · have hlt : (k : Int) + 1 < (n : Int) := by omega
          have hkn0 : k < n := hk
          obtain ⟨⟨yk, yv⟩, hy⟩ : ∃ y, ps[k]? = some y := ⟨_, List.getElem?_eq_getElem (by rw [HN.out]; omega)⟩
          obtain ⟨⟨zk, zv⟩, hz⟩ : ∃ y, ps[k + 1]? = some y := ⟨_, List.getElem?_eq_getElem (by rw [HN.out]; omega)⟩
          have hlt2 : Hid (S = true → yk < zk) := Lib.hid (fun h => by
            have h1 := List.pairwise_iff_getElem.1 (HR.out h) k (k + 1) (by omega) (by omega) (by omega)
            obtain ⟨p1, e1⟩ := List.getElem?_eq_some_iff.1 hy
            obtain ⟨p2, e2⟩ := List.getElem?_eq_some_iff.1 hz
            rw [e1, e2] at h1
            exact h1)
          have d1 : ∀ q : GrW wr, q.w.cell? ⟨gp, k * 2, none⟩ = some (.int .u64 yk) := GrW.cell (gcell HG.out (HK.out (k * 2) _ (flatP_0 hy)))
          have d2 : ∀ q : GrW wr, q.w.cell? ⟨gp, (k + 1) * 2, none⟩ = some (.int .u64 zk) := GrW.cell (gcell HG.out (HK.out ((k + 1) * 2) _ (flatP_0 hz)))
          have hk20 : (k : Int) ≤ 20 := by omega
          clear hy hz HPn HNn
          cases R
          · have HSf : Hid (S = false) := Lib.hid (by cases S; rfl; exact absurd (HRr.out rfl) (by simp))
            go_wp2_with fail
            refine wp_region_grow (by kernel_rfl) (by kernel_rfl) ?_
            repeat (go_big_quiet_step (fail))
            refine wpQuiet_nil ?_
            rintro w5 ⟨⟨_, g5⟩, rfl⟩
            clear d1 d2
            go_wp2_with fail
            exact ⟨⟨false, k + 1, rfl, by simp, hkn, (fun h => by rw [HSf.out] at h; cases h), gtr HG.out g5⟩, by simp [intOf]; omega⟩
          · by_cases hyz : yk < zk
            · have ey : decide (yk < zk) = true := decide_eq_true hyz
              clear hyz
              go_wp2_with fail
              refine wp_region_grow (by kernel_rfl) (by kernel_rfl) ?_
              repeat (go_big_quiet_step (fail))
              refine wpQuiet_nil ?_
              rintro w5 ⟨⟨_, g5⟩, rfl⟩
              clear d1 d2
              go_wp2_with fail
              exact ⟨⟨true, k + 1, rfl, by simp, hkn, fun _ => rfl, gtr HG.out g5⟩, by simp [intOf]; omega⟩
            · have ey : decide (yk < zk) = false := decide_eq_false hyz
              have HSf : Hid (S = false) := Lib.hid (by cases S; rfl; exact absurd (hlt2.out rfl) hyz)
              clear hyz
              go_wp2_with fail
              refine wp_region_grow (by kernel_rfl) (by kernel_rfl) ?_
              repeat (go_big_quiet_step (fail))
              refine wpQuiet_nil ?_
              rintro w5 ⟨⟨_, g5⟩, rfl⟩
              clear d1 d2
              go_wp2_with fail
              exact ⟨⟨false, k + 1, rfl, by simp, hkn, (fun h => by rw [HSf.out] at h; cases h), gtr HG.out g5⟩, by simp [intOf]; omega⟩
        · have hlt : ¬ (k : Int) + 1 < (n : Int) := by omega
          clear HPn HNn
          cases R
          · have HSf : Hid (S = false) := Lib.hid (by cases S; rfl; exact absurd (HRr.out rfl) (by simp))
            go_wp2_with fail
            refine (Sound_at _ _ d _ _ _ (HD4.out.grown HG.out) HInv.out HLk.out.wok).mono ?_; rintro e w6 ⟨rfl, g6⟩
            rw [HS.out, HSf.out]
            go_wp2_with fail
            go_ret
            exact ⟨rfl, gtr G4.out (gtr HG.out g6)⟩
          · go_wp2_with fail
            go_ret
            exact ⟨rfl, gtr G4.out HG.out⟩
end Go.Proofs.YtagapfejgmmppaaGreat
