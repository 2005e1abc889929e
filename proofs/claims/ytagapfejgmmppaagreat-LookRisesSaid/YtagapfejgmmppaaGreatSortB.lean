/- slices.SortStableFunc of at most 20 pairs, walked. -/
import Derived.Test.YtagapfejgmmppaaGreatSort
import Derived.Test.YtagapfejgmmppaaGreatBookRef3
import Derived.Deep.CutRange
namespace Go.Proofs.YtagapfejgmmppaaGreat
open Go.ChangeShapes Go.WideShapes Go.ChangeAt Go.RowKit
set_option maxRecDepth 100000
set_option linter.unusedVariables false

def Sorted1 (g : Nat) (ps : List (Int × Int)) (w : World) (e : Ending) (w' : World) : Prop := e = .returned (.tuple #[]) ∧ Box w' g (flatP (sortP ps)) ∧ But (fun i => i = g) w w'

theorem Box.sub {w : World} {b : Nat} {l : List Value} (h : Box w b l) (j : Nat) (u : Value) (hj : l[j]? = some u) : w.cell? ⟨b, j, none⟩ = some u := h.cell j u hj

set_option maxHeartbeats 4000000 in
theorem insort_at (w : World) (g cap n : Nat) (ps : List (Int × Int)) (hn : ps.length = n) (hn1 : 1 ≤ n) (hn9 : n ≤ 9999) (h : Box w g (flatP ps)) :
    Calls Tryz.prog 134 #[.slice (some ⟨g, 0, none⟩) n cap, .int .i64 0, .int .i64 n, .func (.func 48) #[] #[]] w (Sorted1 g ps w) := by
  have HB := Lib.hid h
  have HN := Lib.hid hn
  clear h hn
  have hn' : (n : Int) ≤ 9999 := by omega
  go_enter Tryz.func134, Tryz.ntmps134
  go_wp2_with fail
  go_loopw [8] (fun s8 wr => ∃ (done rest : List (Int × Int)), s8 = .int .i64 (done.length : Int) ∧ 1 ≤ done.length ∧ ps = done ++ rest ∧ Box wr g (flatP (sortP done ++ rest)) ∧ But (fun i => i = g) w wr) (fun s8 _ => n - (intOf s8).toNat)
  case atStart =>
    obtain ⟨x, r, hx⟩ : ∃ x r, ps = x :: r := by
      have := HN.out
      cases ps with
      | nil => simp at this; omega
      | cons x r => exact ⟨x, r, rfl⟩
    refine ⟨[x], r, by simp, by simp, by simpa using hx, ?_, But.refl _ _⟩
    have := HB.out
    rw [hx] at this
    simpa [sortP, insP] using this
  case round =>
    obtain ⟨done, rest, rfl, hd1, hps, hB, hq⟩ := hrel
    have HBr := Lib.hid hB
    have HQ := Lib.hid hq
    have HPS := Lib.hid hps
    have hlen : done.length + rest.length = n := by rw [← HN.out, hps]; simp
    clear hB hq hps
    cases rest with
    | nil =>
      have hdn : done.length = n := by simpa using hlen
      have hlt : ¬ (done.length : Int) < (n : Int) := by omega
      go_wp2_with fail
      go_end0
      refine ⟨rfl, ?_, HQ.out⟩
      have h1 := HBr.out
      rw [HPS.out]
      simpa using h1
    | cons x rest =>
      have hlt : (done.length : Int) < (n : Int) := by simp only [List.length_cons] at hlen; omega
      go_wp2_with fail
      go_loopw [9] (fun s9 wi => ∃ (j : Nat) (pre mid : List (Int × Int)), s9 = .int .i64 (j : Int) ∧ pre.length = j ∧ sortP done = pre ++ mid ∧ (∀ y ∈ mid, x.1 < y.1) ∧ Box wi g (flatP (pre ++ x :: (mid ++ rest))) ∧ But (fun i => i = g) w wi) (fun s9 _ => (intOf s9).toNat)
      case atStart => exact ⟨done.length, sortP done, [], rfl, sortP_len done, by simp, fun y hy => by simp at hy, by simpa using HBr.out, HQ.out⟩
      case round =>
        obtain ⟨j, pre, mid, rfl, hj, hsp, hmid, hBi, hqi⟩ := hrel
        have HBi := Lib.hid hBi
        have HQi := Lib.hid hqi
        have HSP := Lib.hid hsp
        have HM := Lib.hid hmid
        have HJ := Lib.hid hj
        clear hBi hqi hsp hmid hj
        cases j with
        | zero =>
          have h00 : ¬ (0 : Int) < 0 := by omega
          go_wp2_with fail
          refine wp_region_grow (by kernel_rfl) (by kernel_rfl) ?_
          repeat (go_big_quiet_step (fail))
          refine wpQuiet_nil ?_
          rintro w2 ⟨⟨_, g2⟩, rfl⟩
          go_wp2_with fail
          have hpre : pre = [] := List.eq_nil_of_length_eq_zero HJ.out
          refine ⟨⟨done ++ [x], rest, by simp, by simp, by rw [HPS.out]; simp, ?_, HQi.out.trans (But.of_grown g2)⟩, ?_⟩
          · have h1 := HBi.out.grown g2
            have h2 : sortP (done ++ [x]) = x :: mid := by
              rw [sortP_app, HSP.out, hpre]
              exact insP_split x [] mid (fun y hy => by simp at hy) HM.out
            rw [h2]
            rw [hpre] at h1
            simpa using h1
          · simp [intOf]; omega
        | succ i =>
          obtain ⟨j, hji⟩ : ∃ j, i + 1 = j := ⟨_, rfl⟩
          have HJI := Lib.hid hji
          rw [hji]
          have hj0 : decide (0 < j) = true := decide_eq_true (by omega)
          have hj1 : (j : Int) - 1 = i := by omega
          have hplen : pre.length = j := by rw [HJ.out, hji]
          have htot : pre.length + (1 + (mid.length + rest.length)) = n := by
            have h1 := sortP_len done
            rw [HSP.out] at h1
            simp only [List.length_append] at h1
            simp only [List.length_cons] at hlen
            omega
          obtain ⟨p, z, hpz⟩ : ∃ p z, pre = p ++ [z] := by
            rcases List.eq_nil_or_concat pre with h | ⟨p, z, h⟩
            · rw [h] at hplen; simp at hplen; omega
            · exact ⟨p, z, by simpa using h⟩
          have hpl : p.length = i := by rw [hpz] at hplen; simp at hplen; omega
          have hL : pre ++ x :: (mid ++ rest) = p ++ z :: x :: (mid ++ rest) := by rw [hpz]; simp
          have hBz := HBi.out
          rw [hL] at hBz
          have hz : (p ++ z :: x :: (mid ++ rest))[i]? = some z := by rw [List.getElem?_append_right (by omega), hpl]; simp
          have hx : (p ++ z :: x :: (mid ++ rest))[j]? = some x := by rw [List.getElem?_append_right (by omega), show j - p.length = 1 by omega]; simp
          have hjn : j < n := by omega
          have hin : i < n := by omega
          have hjn' : (j : Int) ≤ 9999 := by omega
          have d0 : ∀ q : GrW wr, q.w.cell? ⟨g, j * 2, none⟩ = some (.int .u64 x.1) := GrW.cell (hBz.cell _ _ (flatP_0 hx))
          have d1 : ∀ q : GrW wr, q.w.cell? ⟨g, j * 2 + 1, none⟩ = some (.int .u64 x.2) := GrW.cell (hBz.cell _ _ (flatP_1 hx))
          have d2 : ∀ q : GrW wr, q.w.cell? ⟨g, i * 2, none⟩ = some (.int .u64 z.1) := GrW.cell (hBz.cell _ _ (flatP_0 hz))
          have d3 : ∀ q : GrW wr, q.w.cell? ⟨g, i * 2 + 1, none⟩ = some (.int .u64 z.2) := GrW.cell (hBz.cell _ _ (flatP_1 hz))
          have HBZ := Lib.hid hBz
          have HPZ := Lib.hid hpz
          have HPL := Lib.hid hpl
          have HX := Lib.hid hx
          have HZ := Lib.hid hz
          clear hji hplen htot hpl hL hBz hx hz hpz
          by_cases hlt2 : x.1 < z.1
          · have hv : cmpV x.1 z.1 = -1 := if_pos hlt2
            have HV := Lib.hid hv
            clear hv
            go_wp2_with fail
            refine wp_region_grow (by kernel_rfl) (by kernel_rfl) ?_
            repeat (go_big_quiet_step ((go_at_call 48; exact grcall (byKey_at _ _ _ _ _ HV.out _))))
            refine wpQuiet_nil ?_
            rintro w2 ⟨⟨_, g2⟩, rfl⟩
            clear d0 d1 d2 d3
            go_wp2_with fail
            refine wp_region_plant (.two [0, 1, 2, 3, 4, 5, 6, 7, 8, 10, 11, 12] 9 (.one [] 13 (.one [14] 15 (.one [16] 17 (.fin [])))) 13 (.one [] 9 (.one [14] 15 (.one [16] 17 (.fin []))))) (by kernel_rfl) (by kernel_rfl) (by kernel_rfl) ?_
            intro w3 g3
            have hB3 := HBZ.out.grown (gtr g2 g3)
            have d0 : w3.cell? ⟨g, j * 2, none⟩ = some (.int .u64 x.1) := hB3.cell _ _ (flatP_0 HX.out)
            have d1 : w3.cell? ⟨g, j * 2 + 1, none⟩ = some (.int .u64 x.2) := hB3.cell _ _ (flatP_1 HX.out)
            have d2 : w3.cell? ⟨g, i * 2, none⟩ = some (.int .u64 z.1) := hB3.cell _ _ (flatP_0 HZ.out)
            have d3 : w3.cell? ⟨g, i * 2 + 1, none⟩ = some (.int .u64 z.2) := hB3.cell _ _ (flatP_1 HZ.out)
            refine plan_two ?_
            simp only [nths, nth, List.map_cons, List.map_nil, List.getD_cons_zero, List.getD_cons_succ]
            repeat go_big_quiet_step (fail)
            refine wpQuiet_nil ?_
            constructor
            · go_wp2_with fail
              refine nxt_true (plan_one ?_)
              simp only [nths, nth, List.map_nil, List.getD_cons_zero, List.getD_cons_succ]
              refine wpQuiet_nil ?_
              go_wp2_with fail
              refine nxt_true (plan_one ?_)
              simp only [nths, nth, List.map_cons, List.map_nil, List.getD_cons_zero, List.getD_cons_succ]
              repeat go_big_quiet_step (fail)
              refine wpQuiet_nil ?_
              refine store_part rfl 66 _ _ rfl g (j * 2) rfl #[.int .u64 z.1, .int .u64 z.2] rfl (flatP (p ++ z :: x :: (mid ++ rest))) _ hB3 ?_ (by kernel_rfl) rfl rfl ?_
              case refine_1 => (rw [flatP_len]; have := HPL.out; have := HJI.out; simp; omega)
              intro w4 B4 q4
              go_wp2_with fail
              have HB4 : Hid (Box w4 g (flatP ((p ++ [z]) ++ z :: (mid ++ rest)))) := Lib.hid (by
                have h1 := flatP_mid (p ++ [z]) (mid ++ rest) x z (j * 2) (by have := HPL.out; have := HJI.out; simp; omega)
                have h2 : p ++ z :: x :: (mid ++ rest) = (p ++ [z]) ++ x :: (mid ++ rest) := by simp
                rw [h2] at B4
                rw [← h1]; exact B4)
              clear B4
              refine nxt_true (plan_one ?_)
              simp only [nths, nth, List.map_cons, List.map_nil, List.getD_cons_zero, List.getD_cons_succ]
              repeat go_big_quiet_step (fail)
              refine wpQuiet_nil ?_
              refine store_part rfl 66 _ _ rfl g (i * 2) rfl #[.int .u64 x.1, .int .u64 x.2] rfl (flatP ((p ++ [z]) ++ z :: (mid ++ rest))) _ HB4.out ?_ (by kernel_rfl) rfl rfl ?_
              case refine_1 => (rw [flatP_len]; have := HPL.out; have := HJI.out; simp; omega)
              intro w5 B5 q5
              go_wp2_with fail
              have HB5 : Hid (Box w5 g (flatP (p ++ x :: ((z :: mid) ++ rest)))) := Lib.hid (by
                have h1 := flatP_mid p (z :: (mid ++ rest)) z x (i * 2) (by rw [HPL.out])
                have h2 : (p ++ [z]) ++ z :: (mid ++ rest) = p ++ z :: (z :: (mid ++ rest)) := by simp
                rw [h2] at B5
                have h3 : p ++ x :: ((z :: mid) ++ rest) = p ++ x :: (z :: (mid ++ rest)) := by simp
                rw [h3, ← h1]; exact B5)
              clear B5
              refine nxt_true (plan_fin ?_)
              simp only [nths, List.map_nil]
              refine wpQuiet_nil ?_
              clear d0 d1 d2 d3
              go_wp2_with fail
              refine ⟨⟨i, p, z :: mid, rfl, HPL.out, by rw [HSP.out, HPZ.out]; simp, ?_, HB5.out, (HQi.out.trans (But.of_grown (gtr g2 g3))).trans (q4.trans q5)⟩, by simp [intOf]; omega⟩
              intro y hy
              simp only [List.mem_cons] at hy
              rcases hy with rfl | hy
              · exact hlt2
              · exact HM.out y hy
            · go_wp2_with fail
              refine nxt_true (plan_one ?_)
              simp only [nths, nth, List.map_nil, List.getD_cons_zero, List.getD_cons_succ]
              refine wpQuiet_nil ?_
              go_wp2_with fail
              refine nxt_true (plan_one ?_)
              simp only [nths, nth, List.map_cons, List.map_nil, List.getD_cons_zero, List.getD_cons_succ]
              repeat go_big_quiet_step (fail)
              refine wpQuiet_nil ?_
              refine store_part rfl 66 _ _ rfl g (j * 2) rfl #[.int .u64 z.1, .int .u64 z.2] rfl (flatP (p ++ z :: x :: (mid ++ rest))) _ hB3 ?_ (by kernel_rfl) rfl rfl ?_
              case refine_1 => (rw [flatP_len]; have := HPL.out; have := HJI.out; simp; omega)
              intro w4 B4 q4
              go_wp2_with fail
              have HB4 : Hid (Box w4 g (flatP ((p ++ [z]) ++ z :: (mid ++ rest)))) := Lib.hid (by
                have h1 := flatP_mid (p ++ [z]) (mid ++ rest) x z (j * 2) (by have := HPL.out; have := HJI.out; simp; omega)
                have h2 : p ++ z :: x :: (mid ++ rest) = (p ++ [z]) ++ x :: (mid ++ rest) := by simp
                rw [h2] at B4
                rw [← h1]; exact B4)
              clear B4
              refine nxt_true (plan_one ?_)
              simp only [nths, nth, List.map_cons, List.map_nil, List.getD_cons_zero, List.getD_cons_succ]
              repeat go_big_quiet_step (fail)
              refine wpQuiet_nil ?_
              refine store_part rfl 66 _ _ rfl g (i * 2) rfl #[.int .u64 x.1, .int .u64 x.2] rfl (flatP ((p ++ [z]) ++ z :: (mid ++ rest))) _ HB4.out ?_ (by kernel_rfl) rfl rfl ?_
              case refine_1 => (rw [flatP_len]; have := HPL.out; have := HJI.out; simp; omega)
              intro w5 B5 q5
              go_wp2_with fail
              have HB5 : Hid (Box w5 g (flatP (p ++ x :: ((z :: mid) ++ rest)))) := Lib.hid (by
                have h1 := flatP_mid p (z :: (mid ++ rest)) z x (i * 2) (by rw [HPL.out])
                have h2 : (p ++ [z]) ++ z :: (mid ++ rest) = p ++ z :: (z :: (mid ++ rest)) := by simp
                rw [h2] at B5
                have h3 : p ++ x :: ((z :: mid) ++ rest) = p ++ x :: (z :: (mid ++ rest)) := by simp
                rw [h3, ← h1]; exact B5)
              clear B5
              refine nxt_true (plan_fin ?_)
              simp only [nths, List.map_nil]
              refine wpQuiet_nil ?_
              clear d0 d1 d2 d3
              go_wp2_with fail
              refine ⟨⟨i, p, z :: mid, rfl, HPL.out, by rw [HSP.out, HPZ.out]; simp, ?_, HB5.out, (HQi.out.trans (But.of_grown (gtr g2 g3))).trans (q4.trans q5)⟩, by simp [intOf]; omega⟩
              intro y hy
              simp only [List.mem_cons] at hy
              rcases hy with rfl | hy
              · exact hlt2
              · exact HM.out y hy
          · obtain ⟨v, hv, hv0⟩ : ∃ v, cmpV x.1 z.1 = v ∧ ¬ v < 0 := by
              refine ⟨_, rfl, ?_⟩
              unfold cmpV
              rw [if_neg hlt2]
              split <;> omega
            have HV := Lib.hid hv
            clear hv
            go_wp2_with fail
            refine wp_region_grow (by kernel_rfl) (by kernel_rfl) ?_
            repeat (go_big_quiet_step ((go_at_call 48; exact grcall (byKey_at _ _ _ _ _ HV.out _))))
            refine wpQuiet_nil ?_
            rintro w2 ⟨⟨_, g2⟩, rfl⟩
            clear d0 d1 d2 d3
            go_wp2_with fail
            refine ⟨⟨done ++ [x], rest, by simp, by simp, by rw [HPS.out]; simp, ?_, HQi.out.trans (But.of_grown g2)⟩, by simp [intOf]; omega⟩
            have h1 := HBZ.out.grown g2
            have hup := sortP_up done
            have h2 : sortP (done ++ [x]) = p ++ z :: x :: mid := by
              rw [sortP_app, HSP.out]
              rw [HSP.out, HPZ.out] at hup
              rw [HPZ.out, insP_split x (p ++ [z]) mid ?_ HM.out]
              · simp
              · unfold UpP at hup
                rw [List.pairwise_append] at hup
                have h3 := hup.1
                rw [List.pairwise_append] at h3
                intro y hy
                simp only [List.mem_append, List.mem_singleton] at hy
                rcases hy with hy | rfl
                · have := h3.2.2 y hy z (by simp); omega
                · omega
            rw [h2]
            simpa using h1
end Go.Proofs.YtagapfejgmmppaaGreat
