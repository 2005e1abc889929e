/- The document's acts of package world (corrieref08), one by one. -/
import Derived.Test.YtjllemjmdbnkjaaGreatWRefA
namespace Go.Proofs.YtjllemjmdbnkjaaGreat
open Go.ChangeShapes Go.WideShapes Go.ChangeAt Go.RowKit
set_option maxRecDepth 100000
set_option linter.unusedVariables false
set_option maxHeartbeats 2000000 in
theorem rwAnn_any (w : World) (c : Cf) (sl : Sl) (b cap : Nat) (ws : List Int) (n : Int) (i : Int) (hc : Holds w b ws) (hf : ws.length ≤ 1048576) (hn : 0 ≤ n) (hn' : n < 4611686018427387904) :
    Calls Tryz.prog 34 #[.agg #[.int .i64 c.t, .int .i64 c.b, .int .i64 c.i, .int .i64 c.f, .int .i64 c.k, .slice (some ⟨b, 0, none⟩) ws.length cap, .int .i64 n, .int .i64 c.t, .int .i64 c.b, .int .i64 c.i, .int .i64 c.f, .int .i64 c.k, .slice sl.a1 sl.m1 sl.k1, .slice sl.a2 sl.m2 sl.k2, .slice sl.a3 sl.m3 sl.k3, .slice sl.a4 sl.m4 sl.k4, .slice sl.a5 sl.m5 sl.k5], .int .i64 i] w (RWi c sl b ws (n + cnt ws (annI c i)) (opOf (rd ws (annI c i))) w) := by
  have hop : wrap64 (wrap64 (rd ws (annI c i)) - 1) = opOf (rd ws (annI c i)) := by unfold opOf wrap64; omega
  obtain ⟨n2, hn2⟩ : ∃ x, n + cnt ws (annI c i) = x := ⟨_, rfl⟩
  obtain ⟨r0, hr0⟩ : ∃ x, rd ws (annI c i) = x := ⟨_, rfl⟩
  rw [hr0] at hop
  rw [hn2, hr0]
  have HOP := Lib.hid hop
  have HN2 := Lib.hid hn2
  have HRR := Lib.hid hr0
  clear hop hn2 hr0
  have HC := Lib.hid hc
  clear hc
  have BV := Box.made w [.int .i64 c.t, .int .i64 c.b, .int .i64 c.i, .int .i64 c.f, .int .i64 c.k, .slice (some ⟨b, 0, none⟩) ws.length cap, .int .i64 n, .int .i64 c.t, .int .i64 c.b, .int .i64 c.i, .int .i64 c.f, .int .i64 c.k, .slice sl.a1 sl.m1 sl.k1, .slice sl.a2 sl.m2 sl.k2, .slice sl.a3 sl.m3 sl.k3, .slice sl.a4 sl.m4 sl.k4, .slice sl.a5 sl.m5 sl.k5] 40
  have BZ := Box.made (w.alloc (.cells #[.int .i64 c.t, .int .i64 c.b, .int .i64 c.i, .int .i64 c.f, .int .i64 c.k, .slice (some ⟨b, 0, none⟩) ws.length cap, .int .i64 n, .int .i64 c.t, .int .i64 c.b, .int .i64 c.i, .int .i64 c.f, .int .i64 c.k, .slice sl.a1 sl.m1 sl.k1, .slice sl.a2 sl.m2 sl.k2, .slice sl.a3 sl.m3 sl.k3, .slice sl.a4 sl.m4 sl.k4, .slice sl.a5 sl.m5 sl.k5] 40)) [.int .i64 0, .int .i64 0, .int .i64 0, .int .i64 0, .int .i64 0, .slice none 0 0, .int .i64 0, .int .i64 0, .int .i64 0, .int .i64 0, .int .i64 0, .int .i64 0, .slice none 0 0, .slice none 0 0, .slice none 0 0, .slice none 0 0, .slice none 0 0] 40
  have hsz : (w.alloc (.cells #[.int .i64 c.t, .int .i64 c.b, .int .i64 c.i, .int .i64 c.f, .int .i64 c.k, .slice (some ⟨b, 0, none⟩) ws.length cap, .int .i64 n, .int .i64 c.t, .int .i64 c.b, .int .i64 c.i, .int .i64 c.f, .int .i64 c.k, .slice sl.a1 sl.m1 sl.k1, .slice sl.a2 sl.m2 sl.k2, .slice sl.a3 sl.m3 sl.k3, .slice sl.a4 sl.m4 sl.k4, .slice sl.a5 sl.m5 sl.k5] 40)).heap.size = w.heap.size + 1 := by simp
  rw [hsz] at BZ
  clear hsz
  replace BV := BV.grown (w' := (w.alloc (.cells #[.int .i64 c.t, .int .i64 c.b, .int .i64 c.i, .int .i64 c.f, .int .i64 c.k, .slice (some ⟨b, 0, none⟩) ws.length cap, .int .i64 n, .int .i64 c.t, .int .i64 c.b, .int .i64 c.i, .int .i64 c.f, .int .i64 c.k, .slice sl.a1 sl.m1 sl.k1, .slice sl.a2 sl.m2 sl.k2, .slice sl.a3 sl.m3 sl.k3, .slice sl.a4 sl.m4 sl.k4, .slice sl.a5 sl.m5 sl.k5] 40)).alloc (.cells #[.int .i64 0, .int .i64 0, .int .i64 0, .int .i64 0, .int .i64 0, .slice none 0 0, .int .i64 0, .int .i64 0, .int .i64 0, .int .i64 0, .int .i64 0, .int .i64 0, .slice none 0 0, .slice none 0 0, .slice none 0 0, .slice none 0 0, .slice none 0 0] 40)) (by go_grown)
  have HV := Lib.hid BV
  have HZ := Lib.hid BZ
  clear BV BZ
  go_enter Tryz.func34, Tryz.ntmps34
  go_wp2_with fail
  refine wp_region_plang (.two [0, 1, 2, 3] 4 (.two [] 5 (.one [6, 7, 8] 9 (.one [] 10 (.fin [11]))) 9 (.one [] 5 (.one [6, 7, 8] 10 (.fin [11])))) 9 (.one [] 4 (.one [] 5 (.one [6, 7, 8] 10 (.fin [11]))))) (by kernel_rfl) (by kernel_rfl) (by kernel_rfl) ?_
  intro w2 g2
  have d0 : ∀ g : GrW w2, g.w.cell? ⟨w.heap.size, 0, none⟩ = some (.int .i64 c.t) := GrW.cell ((HV.out.grown g2).cell 0 _ rfl)
  have d1 : ∀ g : GrW w2, g.w.cell? ⟨w.heap.size, 1, none⟩ = some (.int .i64 c.b) := GrW.cell ((HV.out.grown g2).cell 1 _ rfl)
  have d2 : ∀ g : GrW w2, g.w.cell? ⟨w.heap.size, 2, none⟩ = some (.int .i64 c.i) := GrW.cell ((HV.out.grown g2).cell 2 _ rfl)
  have d3 : ∀ g : GrW w2, g.w.cell? ⟨w.heap.size, 3, none⟩ = some (.int .i64 c.f) := GrW.cell ((HV.out.grown g2).cell 3 _ rfl)
  have d4 : ∀ g : GrW w2, g.w.cell? ⟨w.heap.size, 4, none⟩ = some (.int .i64 c.k) := GrW.cell ((HV.out.grown g2).cell 4 _ rfl)
  have d5 : ∀ g : GrW w2, g.w.cell? ⟨w.heap.size, 5, none⟩ = some (.slice (some ⟨b, 0, none⟩) ws.length cap) := GrW.cell ((HV.out.grown g2).cell 5 _ rfl)
  have d6 : ∀ g : GrW w2, g.w.cell? ⟨w.heap.size, 6, none⟩ = some (.int .i64 n) := GrW.cell ((HV.out.grown g2).cell 6 _ rfl)
  have d7 : ∀ g : GrW w2, g.w.cell? ⟨w.heap.size, 7, none⟩ = some (.int .i64 c.t) := GrW.cell ((HV.out.grown g2).cell 7 _ rfl)
  have d8 : ∀ g : GrW w2, g.w.cell? ⟨w.heap.size, 8, none⟩ = some (.int .i64 c.b) := GrW.cell ((HV.out.grown g2).cell 8 _ rfl)
  have d9 : ∀ g : GrW w2, g.w.cell? ⟨w.heap.size, 9, none⟩ = some (.int .i64 c.i) := GrW.cell ((HV.out.grown g2).cell 9 _ rfl)
  have d10 : ∀ g : GrW w2, g.w.cell? ⟨w.heap.size, 10, none⟩ = some (.int .i64 c.f) := GrW.cell ((HV.out.grown g2).cell 10 _ rfl)
  have d11 : ∀ g : GrW w2, g.w.cell? ⟨w.heap.size, 11, none⟩ = some (.int .i64 c.k) := GrW.cell ((HV.out.grown g2).cell 11 _ rfl)
  have d12 : ∀ g : GrW w2, g.w.cell? ⟨w.heap.size, 12, none⟩ = some (.slice sl.a1 sl.m1 sl.k1) := GrW.cell ((HV.out.grown g2).cell 12 _ rfl)
  have d13 : ∀ g : GrW w2, g.w.cell? ⟨w.heap.size, 13, none⟩ = some (.slice sl.a2 sl.m2 sl.k2) := GrW.cell ((HV.out.grown g2).cell 13 _ rfl)
  have d14 : ∀ g : GrW w2, g.w.cell? ⟨w.heap.size, 14, none⟩ = some (.slice sl.a3 sl.m3 sl.k3) := GrW.cell ((HV.out.grown g2).cell 14 _ rfl)
  have d15 : ∀ g : GrW w2, g.w.cell? ⟨w.heap.size, 15, none⟩ = some (.slice sl.a4 sl.m4 sl.k4) := GrW.cell ((HV.out.grown g2).cell 15 _ rfl)
  have d16 : ∀ g : GrW w2, g.w.cell? ⟨w.heap.size, 16, none⟩ = some (.slice sl.a5 sl.m5 sl.k5) := GrW.cell ((HV.out.grown g2).cell 16 _ rfl)
  refine plan_two ?_
  simp only [nths, nth, List.map_cons, List.map_nil, List.getD_cons_zero, List.getD_cons_succ]
  repeat go_big_quiet_step (fail)
  clear d0 d1 d2 d3 d4 d5 d6 d7 d8 d9 d10 d11 d12 d13 d14 d15 d16
  have hz := HZ.out.lt
  refine wpQuiet_nil ⟨?_, ?_⟩
  · go_wp2_with fail
    refine (rAnn_at _ _ _ _ _ _ _ _ rfl).mono ?_; rintro e w3 ⟨rfl, g3⟩
    rw [show vAnn ↑c.t ↑c.b ↑c.i ↑c.f ↑c.k i = annI c i from rfl]
    go_wp2_with fail
    refine nxt_stay g3 (plan_two ?_)
    simp only [nths, nth, List.map_nil, List.getD_cons_zero, List.getD_cons_succ]
    refine wpQuiet_nil ⟨?_, ?_⟩
    · go_wp2_with fail
      have G3 : Grown w _ := gtr (by go_grown) (gtr g2 g3)
      refine (rwload_any _ c sl b cap ws n (annI c i) (HC.out.grown G3) hf hn hn').mono ?_; rintro e w4 ⟨b2, cap2, rfl, g4, h4, hb⟩
      have HB : Hid (b2 = b ∨ w.heap.size ≤ b2) := Lib.hid (hb.imp id (Nat.le_trans G3.2.2))
      have G4 : Grown w2 w4 := gtr g3 g4
      have Z4 := Lib.hid (HZ.out.grown (gtr g2 G4))
      have H4 := Lib.hid h4
      clear h4 hb
      rw [HN2.out, HRR.out]
      go_wp2_with fail
      refine nxt_stay G4 (plan_one ?_)
      simp only [nths, nth, List.map_cons, List.map_nil, List.getD_cons_zero, List.getD_cons_succ]
      repeat go_big_quiet_step (fail)
      refine wpQuiet_nil ?_
      go_wp2_with fail
      have TZ := Lib.hid (Box.made w4 [.int .i64 0, .int .i64 0, .int .i64 0, .int .i64 0, .int .i64 0, .slice none 0 0, .int .i64 0, .int .i64 0, .int .i64 0, .int .i64 0, .int .i64 0, .int .i64 0, .slice none 0 0, .slice none 0 0, .slice none 0 0, .slice none 0 0, .slice none 0 0] 40)
      have ga : Grown w4 (w4.alloc (.cells #[.int .i64 0, .int .i64 0, .int .i64 0, .int .i64 0, .int .i64 0, .slice none 0 0, .int .i64 0, .int .i64 0, .int .i64 0, .int .i64 0, .int .i64 0, .int .i64 0, .slice none 0 0, .slice none 0 0, .slice none 0 0, .slice none 0 0, .slice none 0 0] 40)) := by go_grown
      refine nxt_stay (gtr G4 ga) (plan_one ?_)
      simp only [nths, nth, List.map_nil, List.getD_cons_zero, List.getD_cons_succ]
      refine wpQuiet_nil ?_
      go_wp2_with (first | (refine store_box rfl 40 _ _ rfl (w4.heap.size) [.int .i64 0, .int .i64 0, .int .i64 0, .int .i64 0, .int .i64 0, .slice none 0 0, .int .i64 0, .int .i64 0, .int .i64 0, .int .i64 0, .int .i64 0, .int .i64 0, .slice none 0 0, .slice none 0 0, .slice none 0 0, .slice none 0 0, .slice none 0 0] ?_ #[.int .i64 c.t, .int .i64 c.b, .int .i64 c.i, .int .i64 c.f, .int .i64 c.k, .slice (some ⟨b2, 0, none⟩) ws.length cap2, .int .i64 n2, .int .i64 c.t, .int .i64 c.b, .int .i64 c.i, .int .i64 c.f, .int .i64 c.k, .slice sl.a1 sl.m1 sl.k1, .slice sl.a2 sl.m2 sl.k2, .slice sl.a3 sl.m3 sl.k3, .slice sl.a4 sl.m4 sl.k4, .slice sl.a5 sl.m5 sl.k5] rfl rfl rfl (by kernel_rfl) rfl ?_; exact TZ.out; intro w5 B5 q5; have T5 := Lib.hid B5; clear B5) | fail)
      have GZ : Grown w4 w5 := But.fresh ga q5 (fun i hi => by rw [hi]; exact Nat.le_refl _)
      have GT : Grown w2 w5 := gtr G4 GZ
      have ZS := Lib.hid (Z4.out.grown GZ)
      have HS : Holds w5 b2 ws := H4.out.grown GZ
      have H5 := Lib.hid HS
      clear HS
      obtain ⟨tb, htb⟩ : ∃ x, w4.heap.size = x := ⟨_, rfl⟩
      rw [htb] at T5 ⊢
      refine nxt_stay GT (plan_fin ?_)
      simp only [nths, nth, List.map_cons, List.map_nil, List.getD_cons_zero, List.getD_cons_succ]
      repeat go_big_quiet_step (fail)
      refine wpQuiet_nil ?_
      go_wp2_with (first | (refine load_box rfl 40 _ rfl (tb) rfl [.int .i64 c.t, .int .i64 c.b, .int .i64 c.i, .int .i64 c.f, .int .i64 c.k, .slice (some ⟨b2, 0, none⟩) ws.length cap2, .int .i64 n2, .int .i64 c.t, .int .i64 c.b, .int .i64 c.i, .int .i64 c.f, .int .i64 c.k, .slice sl.a1 sl.m1 sl.k1, .slice sl.a2 sl.m2 sl.k2, .slice sl.a3 sl.m3 sl.k3, .slice sl.a4 sl.m4 sl.k4, .slice sl.a5 sl.m5 sl.k5] _ Tryz.underlying40 rfl (by kernel_rfl) ?_ ?_; exact T5.out) | (refine store_box rfl 40 _ _ rfl (w.heap.size + 1) [.int .i64 0, .int .i64 0, .int .i64 0, .int .i64 0, .int .i64 0, .slice none 0 0, .int .i64 0, .int .i64 0, .int .i64 0, .int .i64 0, .int .i64 0, .int .i64 0, .slice none 0 0, .slice none 0 0, .slice none 0 0, .slice none 0 0, .slice none 0 0] ?_ #[.int .i64 c.t, .int .i64 c.b, .int .i64 c.i, .int .i64 c.f, .int .i64 c.k, .slice (some ⟨b2, 0, none⟩) ws.length cap2, .int .i64 n2, .int .i64 c.t, .int .i64 c.b, .int .i64 c.i, .int .i64 c.f, .int .i64 c.k, .slice sl.a1 sl.m1 sl.k1, .slice sl.a2 sl.m2 sl.k2, .slice sl.a3 sl.m3 sl.k3, .slice sl.a4 sl.m4 sl.k4, .slice sl.a5 sl.m5 sl.k5] rfl rfl rfl (by kernel_rfl) rfl ?_; exact ZS.out; intro w6 B6 q6; have Z6 := Lib.hid B6; clear B6) | fail)
      refine bodyPost_ret (results_ct Tryz.results34 rfl (Z6.out.w17 rfl)) rfl ⟨b2, cap2, ?_, ?_, ?_, HB.out⟩
      · rw [← HOP.out]; rfl
      · exact But.fresh (gtr (gtr (by go_grown) g2) GT) q6 (fun i hi => by rw [hi]; omega)
      · exact fun j hj => q6.cell (by intro hx; have z0 := ZS.out.cell 0 _ rfl; have z1 := H5.out 0 (by omega); rw [hx, z0] at z1; cases z1) (H5.out j hj)
    · have sz := (gtr g2 g3).2.2
      go_wp2_with fail
      have TZ := Lib.hid (Box.made w3 [.int .i64 0, .int .i64 0, .int .i64 0, .int .i64 0, .int .i64 0, .slice none 0 0, .int .i64 0, .int .i64 0, .int .i64 0, .int .i64 0, .int .i64 0, .int .i64 0, .slice none 0 0, .slice none 0 0, .slice none 0 0, .slice none 0 0, .slice none 0 0] 40)
      have ga : Grown w3 (w3.alloc (.cells #[.int .i64 0, .int .i64 0, .int .i64 0, .int .i64 0, .int .i64 0, .slice none 0 0, .int .i64 0, .int .i64 0, .int .i64 0, .int .i64 0, .int .i64 0, .int .i64 0, .slice none 0 0, .slice none 0 0, .slice none 0 0, .slice none 0 0, .slice none 0 0] 40)) := by go_grown
      obtain ⟨tb, htb⟩ : ∃ x, w3.heap.size = x := ⟨_, rfl⟩
      have htl : w.heap.size + 1 < tb := by omega
      have htl2 : w2.heap.size ≤ tb := by have := (g3).2.2; omega
      rw [htb] at TZ ⊢
      generalize w3.alloc (.cells #[.int .i64 0, .int .i64 0, .int .i64 0, .int .i64 0, .int .i64 0, .slice none 0 0, .int .i64 0, .int .i64 0, .int .i64 0, .int .i64 0, .int .i64 0, .int .i64 0, .slice none 0 0, .slice none 0 0, .slice none 0 0, .slice none 0 0, .slice none 0 0] 40) = uu at *
      clear htb sz
      refine nxt_stay (gtr g3 ga) (plan_one ?_)
      simp only [nths, nth, List.map_nil, List.getD_cons_zero, List.getD_cons_succ]
      refine wpQuiet_nil ?_
      go_wp2_with fail
      have G3 : Grown w _ := gtr (by go_grown) (gtr g2 (gtr g3 ga))
      refine (rwload_any _ c sl b cap ws n (annI c i) (HC.out.grown G3) hf hn hn').mono ?_; rintro e w4 ⟨b2, cap2, rfl, g4, h4, hb⟩
      have HB : Hid (b2 = b ∨ w.heap.size ≤ b2) := Lib.hid (hb.imp id (Nat.le_trans G3.2.2))
      have G4 : Grown w2 w4 := gtr (gtr g3 ga) g4
      have Z4 := Lib.hid (HZ.out.grown (gtr g2 G4))
      have H4 := Lib.hid h4
      clear h4 hb
      rw [HN2.out, HRR.out]
      go_wp2_with fail
      refine nxt_stay G4 (plan_one ?_)
      simp only [nths, nth, List.map_cons, List.map_nil, List.getD_cons_zero, List.getD_cons_succ]
      repeat go_big_quiet_step (fail)
      refine wpQuiet_nil ?_
      have TZ4 := Lib.hid (TZ.out.grown g4)
      go_wp2_with (first | (refine store_box rfl 40 _ _ rfl (tb) [.int .i64 0, .int .i64 0, .int .i64 0, .int .i64 0, .int .i64 0, .slice none 0 0, .int .i64 0, .int .i64 0, .int .i64 0, .int .i64 0, .int .i64 0, .int .i64 0, .slice none 0 0, .slice none 0 0, .slice none 0 0, .slice none 0 0, .slice none 0 0] ?_ #[.int .i64 c.t, .int .i64 c.b, .int .i64 c.i, .int .i64 c.f, .int .i64 c.k, .slice (some ⟨b2, 0, none⟩) ws.length cap2, .int .i64 n2, .int .i64 c.t, .int .i64 c.b, .int .i64 c.i, .int .i64 c.f, .int .i64 c.k, .slice sl.a1 sl.m1 sl.k1, .slice sl.a2 sl.m2 sl.k2, .slice sl.a3 sl.m3 sl.k3, .slice sl.a4 sl.m4 sl.k4, .slice sl.a5 sl.m5 sl.k5] rfl rfl rfl (by kernel_rfl) rfl ?_; exact TZ4.out; intro w5 B5 q5; have T5 := Lib.hid B5; clear B5) | fail)
      have GT : Grown w2 w5 := But.fresh G4 q5 (fun i hi => by rw [hi]; omega)
      have ZS := Lib.hid (Z4.out.but q5 (by omega))
      have HS : Holds w5 b2 ws := fun j hj => q5.cell (by intro hx; have z0 := TZ4.out.cell 0 _ rfl; have z1 := H4.out 0 (by omega); rw [hx, z0] at z1; cases z1) (H4.out j hj)
      have H5 := Lib.hid HS
      clear HS
      refine nxt_stay GT (plan_fin ?_)
      simp only [nths, nth, List.map_cons, List.map_nil, List.getD_cons_zero, List.getD_cons_succ]
      repeat go_big_quiet_step (fail)
      refine wpQuiet_nil ?_
      go_wp2_with (first | (refine load_box rfl 40 _ rfl (tb) rfl [.int .i64 c.t, .int .i64 c.b, .int .i64 c.i, .int .i64 c.f, .int .i64 c.k, .slice (some ⟨b2, 0, none⟩) ws.length cap2, .int .i64 n2, .int .i64 c.t, .int .i64 c.b, .int .i64 c.i, .int .i64 c.f, .int .i64 c.k, .slice sl.a1 sl.m1 sl.k1, .slice sl.a2 sl.m2 sl.k2, .slice sl.a3 sl.m3 sl.k3, .slice sl.a4 sl.m4 sl.k4, .slice sl.a5 sl.m5 sl.k5] _ Tryz.underlying40 rfl (by kernel_rfl) ?_ ?_; exact T5.out) | (refine store_box rfl 40 _ _ rfl (w.heap.size + 1) [.int .i64 0, .int .i64 0, .int .i64 0, .int .i64 0, .int .i64 0, .slice none 0 0, .int .i64 0, .int .i64 0, .int .i64 0, .int .i64 0, .int .i64 0, .int .i64 0, .slice none 0 0, .slice none 0 0, .slice none 0 0, .slice none 0 0, .slice none 0 0] ?_ #[.int .i64 c.t, .int .i64 c.b, .int .i64 c.i, .int .i64 c.f, .int .i64 c.k, .slice (some ⟨b2, 0, none⟩) ws.length cap2, .int .i64 n2, .int .i64 c.t, .int .i64 c.b, .int .i64 c.i, .int .i64 c.f, .int .i64 c.k, .slice sl.a1 sl.m1 sl.k1, .slice sl.a2 sl.m2 sl.k2, .slice sl.a3 sl.m3 sl.k3, .slice sl.a4 sl.m4 sl.k4, .slice sl.a5 sl.m5 sl.k5] rfl rfl rfl (by kernel_rfl) rfl ?_; exact ZS.out; intro w6 B6 q6; have Z6 := Lib.hid B6; clear B6) | fail)
      refine bodyPost_ret (results_ct Tryz.results34 rfl (Z6.out.w17 rfl)) rfl ⟨b2, cap2, ?_, ?_, ?_, HB.out⟩
      · rw [← HOP.out]; rfl
      · exact But.fresh (gtr (gtr (by go_grown) g2) GT) q6 (fun i hi => by rw [hi]; omega)
      · exact fun j hj => q6.cell (by intro hx; have z0 := ZS.out.cell 0 _ rfl; have z1 := H5.out 0 (by omega); rw [hx, z0] at z1; cases z1) (H5.out j hj)
  · have sz := (gtr g2 (Grown.refl w2)).2.2
    go_wp2_with fail
    have TZ := Lib.hid (Box.made w2 [.int .i64 0, .int .i64 0, .int .i64 0, .int .i64 0, .int .i64 0, .slice none 0 0, .int .i64 0, .int .i64 0, .int .i64 0, .int .i64 0, .int .i64 0, .int .i64 0, .slice none 0 0, .slice none 0 0, .slice none 0 0, .slice none 0 0, .slice none 0 0] 40)
    have ga : Grown w2 (w2.alloc (.cells #[.int .i64 0, .int .i64 0, .int .i64 0, .int .i64 0, .int .i64 0, .slice none 0 0, .int .i64 0, .int .i64 0, .int .i64 0, .int .i64 0, .int .i64 0, .int .i64 0, .slice none 0 0, .slice none 0 0, .slice none 0 0, .slice none 0 0, .slice none 0 0] 40)) := by go_grown
    obtain ⟨tb, htb⟩ : ∃ x, w2.heap.size = x := ⟨_, rfl⟩
    have htl : w.heap.size + 1 < tb := by omega
    have htl2 : w2.heap.size ≤ tb := by have := ((Grown.refl w2)).2.2; omega
    rw [htb] at TZ ⊢
    generalize w2.alloc (.cells #[.int .i64 0, .int .i64 0, .int .i64 0, .int .i64 0, .int .i64 0, .slice none 0 0, .int .i64 0, .int .i64 0, .int .i64 0, .int .i64 0, .int .i64 0, .int .i64 0, .slice none 0 0, .slice none 0 0, .slice none 0 0, .slice none 0 0, .slice none 0 0] 40) = uu at *
    clear htb sz
    refine nxt_stay ga (plan_one ?_)
    simp only [nths, nth, List.map_nil, List.getD_cons_zero, List.getD_cons_succ]
    refine wpQuiet_nil ?_
    go_wp2_with fail
    refine (rAnn_at _ _ _ _ _ _ _ _ rfl).mono ?_; rintro e w3 ⟨rfl, g3⟩
    rw [show vAnn ↑c.t ↑c.b ↑c.i ↑c.f ↑c.k i = annI c i from rfl]
    go_wp2_with fail
    refine nxt_stay (gtr ga g3) (plan_one ?_)
    simp only [nths, nth, List.map_nil, List.getD_cons_zero, List.getD_cons_succ]
    refine wpQuiet_nil ?_
    go_wp2_with fail
    have G3 : Grown w _ := gtr (by go_grown) (gtr g2 (gtr ga g3))
    refine (rwload_any _ c sl b cap ws n (annI c i) (HC.out.grown G3) hf hn hn').mono ?_; rintro e w4 ⟨b2, cap2, rfl, g4, h4, hb⟩
    have HB : Hid (b2 = b ∨ w.heap.size ≤ b2) := Lib.hid (hb.imp id (Nat.le_trans G3.2.2))
    have G4 : Grown w2 w4 := gtr (gtr ga g3) g4
    have Z4 := Lib.hid (HZ.out.grown (gtr g2 G4))
    have H4 := Lib.hid h4
    clear h4 hb
    rw [HN2.out, HRR.out]
    go_wp2_with fail
    refine nxt_stay G4 (plan_one ?_)
    simp only [nths, nth, List.map_cons, List.map_nil, List.getD_cons_zero, List.getD_cons_succ]
    repeat go_big_quiet_step (fail)
    refine wpQuiet_nil ?_
    have TZ4 := Lib.hid (TZ.out.grown (gtr g3 g4))
    go_wp2_with (first | (refine store_box rfl 40 _ _ rfl (tb) [.int .i64 0, .int .i64 0, .int .i64 0, .int .i64 0, .int .i64 0, .slice none 0 0, .int .i64 0, .int .i64 0, .int .i64 0, .int .i64 0, .int .i64 0, .int .i64 0, .slice none 0 0, .slice none 0 0, .slice none 0 0, .slice none 0 0, .slice none 0 0] ?_ #[.int .i64 c.t, .int .i64 c.b, .int .i64 c.i, .int .i64 c.f, .int .i64 c.k, .slice (some ⟨b2, 0, none⟩) ws.length cap2, .int .i64 n2, .int .i64 c.t, .int .i64 c.b, .int .i64 c.i, .int .i64 c.f, .int .i64 c.k, .slice sl.a1 sl.m1 sl.k1, .slice sl.a2 sl.m2 sl.k2, .slice sl.a3 sl.m3 sl.k3, .slice sl.a4 sl.m4 sl.k4, .slice sl.a5 sl.m5 sl.k5] rfl rfl rfl (by kernel_rfl) rfl ?_; exact TZ4.out; intro w5 B5 q5; have T5 := Lib.hid B5; clear B5) | fail)
    have GT : Grown w2 w5 := But.fresh G4 q5 (fun i hi => by rw [hi]; omega)
    have ZS := Lib.hid (Z4.out.but q5 (by omega))
    have HS : Holds w5 b2 ws := fun j hj => q5.cell (by intro hx; have z0 := TZ4.out.cell 0 _ rfl; have z1 := H4.out 0 (by omega); rw [hx, z0] at z1; cases z1) (H4.out j hj)
    have H5 := Lib.hid HS
    clear HS
    refine nxt_stay GT (plan_fin ?_)
    simp only [nths, nth, List.map_cons, List.map_nil, List.getD_cons_zero, List.getD_cons_succ]
    repeat go_big_quiet_step (fail)
    refine wpQuiet_nil ?_
    go_wp2_with (first | (refine load_box rfl 40 _ rfl (tb) rfl [.int .i64 c.t, .int .i64 c.b, .int .i64 c.i, .int .i64 c.f, .int .i64 c.k, .slice (some ⟨b2, 0, none⟩) ws.length cap2, .int .i64 n2, .int .i64 c.t, .int .i64 c.b, .int .i64 c.i, .int .i64 c.f, .int .i64 c.k, .slice sl.a1 sl.m1 sl.k1, .slice sl.a2 sl.m2 sl.k2, .slice sl.a3 sl.m3 sl.k3, .slice sl.a4 sl.m4 sl.k4, .slice sl.a5 sl.m5 sl.k5] _ Tryz.underlying40 rfl (by kernel_rfl) ?_ ?_; exact T5.out) | (refine store_box rfl 40 _ _ rfl (w.heap.size + 1) [.int .i64 0, .int .i64 0, .int .i64 0, .int .i64 0, .int .i64 0, .slice none 0 0, .int .i64 0, .int .i64 0, .int .i64 0, .int .i64 0, .int .i64 0, .int .i64 0, .slice none 0 0, .slice none 0 0, .slice none 0 0, .slice none 0 0, .slice none 0 0] ?_ #[.int .i64 c.t, .int .i64 c.b, .int .i64 c.i, .int .i64 c.f, .int .i64 c.k, .slice (some ⟨b2, 0, none⟩) ws.length cap2, .int .i64 n2, .int .i64 c.t, .int .i64 c.b, .int .i64 c.i, .int .i64 c.f, .int .i64 c.k, .slice sl.a1 sl.m1 sl.k1, .slice sl.a2 sl.m2 sl.k2, .slice sl.a3 sl.m3 sl.k3, .slice sl.a4 sl.m4 sl.k4, .slice sl.a5 sl.m5 sl.k5] rfl rfl rfl (by kernel_rfl) rfl ?_; exact ZS.out; intro w6 B6 q6; have Z6 := Lib.hid B6; clear B6) | fail)
    refine bodyPost_ret (results_ct Tryz.results34 rfl (Z6.out.w17 rfl)) rfl ⟨b2, cap2, ?_, ?_, ?_, HB.out⟩
    · rw [← HOP.out]; rfl
    · exact But.fresh (gtr (gtr (by go_grown) g2) GT) q6 (fun i hi => by rw [hi]; omega)
    · exact fun j hj => q6.cell (by intro hx; have z0 := ZS.out.cell 0 _ rfl; have z1 := H5.out 0 (by omega); rw [hx, z0] at z1; cases z1) (H5.out j hj)

end Go.Proofs.YtjllemjmdbnkjaaGreat
