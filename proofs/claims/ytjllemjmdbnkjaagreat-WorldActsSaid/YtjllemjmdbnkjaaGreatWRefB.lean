/- The document's acts of package world (corrieref08), one by one. -/
import Derived.Test.YtjllemjmdbnkjaaGreatWRefA
namespace Go.Proofs.YtjllemjmdbnkjaaGreat
open Go.ChangeShapes Go.WideShapes Go.ChangeAt Go.RowKit
set_option maxRecDepth 100000
set_option linter.unusedVariables false
set_option maxHeartbeats 1000000 in
theorem rwNext_any (w : World) (c : Cf) (sl : Sl) (b cap : Nat) (ws : List Int) (n : Int) (i : Int) (hc : Holds w b ws) (hf : ws.length ≤ 1048576) (hn : 0 ≤ n) (hn' : n < 4611686018427387904) :
    Calls Tryz.prog 29 #[.agg #[.int .i64 c.t, .int .i64 c.b, .int .i64 c.i, .int .i64 c.f, .int .i64 c.k, .slice (some ⟨b, 0, none⟩) ws.length cap, .int .i64 n, .int .i64 c.t, .int .i64 c.b, .int .i64 c.i, .int .i64 c.f, .int .i64 c.k, .slice sl.a1 sl.m1 sl.k1, .slice sl.a2 sl.m2 sl.k2, .slice sl.a3 sl.m3 sl.k3, .slice sl.a4 sl.m4 sl.k4, .slice sl.a5 sl.m5 sl.k5], .int .i64 i] w (RWu c sl b ws (n + cnt ws (nxtI c i)) (rd ws (nxtI c i)) w) := by
  obtain ⟨n2, hn2⟩ : ∃ x, n + cnt ws (nxtI c i) = x := ⟨_, rfl⟩
  obtain ⟨r, hr⟩ : ∃ x, rd ws (nxtI c i) = x := ⟨_, rfl⟩
  rw [hn2, hr]
  have HN2 := Lib.hid hn2
  have HR := Lib.hid hr
  clear hn2 hr
  have HC := Lib.hid hc
  clear hc
  have BV := Box.made w [.int .i64 c.t, .int .i64 c.b, .int .i64 c.i, .int .i64 c.f, .int .i64 c.k, .slice (some ⟨b, 0, none⟩) ws.length cap, .int .i64 n, .int .i64 c.t, .int .i64 c.b, .int .i64 c.i, .int .i64 c.f, .int .i64 c.k, .slice sl.a1 sl.m1 sl.k1, .slice sl.a2 sl.m2 sl.k2, .slice sl.a3 sl.m3 sl.k3, .slice sl.a4 sl.m4 sl.k4, .slice sl.a5 sl.m5 sl.k5] 40
  have BZ := Box.made (w.alloc (.cells #[.int .i64 c.t, .int .i64 c.b, .int .i64 c.i, .int .i64 c.f, .int .i64 c.k, .slice (some ⟨b, 0, none⟩) ws.length cap, .int .i64 n, .int .i64 c.t, .int .i64 c.b, .int .i64 c.i, .int .i64 c.f, .int .i64 c.k, .slice sl.a1 sl.m1 sl.k1, .slice sl.a2 sl.m2 sl.k2, .slice sl.a3 sl.m3 sl.k3, .slice sl.a4 sl.m4 sl.k4, .slice sl.a5 sl.m5 sl.k5] 40)) [.int .i64 0, .int .i64 0, .int .i64 0, .int .i64 0, .int .i64 0, .slice none 0 0, .int .i64 0, .int .i64 0, .int .i64 0, .int .i64 0, .int .i64 0, .int .i64 0, .slice none 0 0, .slice none 0 0, .slice none 0 0, .slice none 0 0, .slice none 0 0] 40
  have hsz : (w.alloc (.cells #[.int .i64 c.t, .int .i64 c.b, .int .i64 c.i, .int .i64 c.f, .int .i64 c.k, .slice (some ⟨b, 0, none⟩) ws.length cap, .int .i64 n, .int .i64 c.t, .int .i64 c.b, .int .i64 c.i, .int .i64 c.f, .int .i64 c.k, .slice sl.a1 sl.m1 sl.k1, .slice sl.a2 sl.m2 sl.k2, .slice sl.a3 sl.m3 sl.k3, .slice sl.a4 sl.m4 sl.k4, .slice sl.a5 sl.m5 sl.k5] 40)).heap.size = w.heap.size + 1 := by simp
  rw [hsz] at BZ
  clear hsz
  replace BV := BV.grown (w' := (w.alloc (.cells #[.int .i64 c.t, .int .i64 c.b, .int .i64 c.i, .int .i64 c.f, .int .i64 c.k, .slice (some ⟨b, 0, none⟩) ws.length cap, .int .i64 n, .int .i64 c.t, .int .i64 c.b, .int .i64 c.i, .int .i64 c.f, .int .i64 c.k, .slice sl.a1 sl.m1 sl.k1, .slice sl.a2 sl.m2 sl.k2, .slice sl.a3 sl.m3 sl.k3, .slice sl.a4 sl.m4 sl.k4, .slice sl.a5 sl.m5 sl.k5] 40)).alloc (.cells #[.int .i64 0, .int .i64 0, .int .i64 0, .int .i64 0, .int .i64 0, .slice none 0 0, .int .i64 0, .int .i64 0, .int .i64 0, .int .i64 0, .int .i64 0, .int .i64 0, .slice none 0 0, .slice none 0 0, .slice none 0 0, .slice none 0 0, .slice none 0 0] 40)) (by go_grown)
  have HV := Lib.hid BV
  have HZ := Lib.hid BZ
  clear BV BZ
  go_enter Tryz.func29, Tryz.ntmps29
  go_wp2_with fail
  refine wp_region_planb (fun i => i = w.heap.size + 1) (.one [0, 1, 2, 3] 4 (.one [] 5 (.one [6, 7] 8 (.fin [9])))) (by kernel_rfl) (by kernel_rfl) (by kernel_rfl) ?_
  intro w2 g2
  have d0 : ∀ g : ButW (fun i => i = w.heap.size + 1) w2, g.w.cell? ⟨w.heap.size, 0, none⟩ = some (.int .i64 c.t) := ButW.cell (by omega) ((HV.out.grown g2).cell 0 _ rfl)
  have d1 : ∀ g : ButW (fun i => i = w.heap.size + 1) w2, g.w.cell? ⟨w.heap.size, 1, none⟩ = some (.int .i64 c.b) := ButW.cell (by omega) ((HV.out.grown g2).cell 1 _ rfl)
  have d2 : ∀ g : ButW (fun i => i = w.heap.size + 1) w2, g.w.cell? ⟨w.heap.size, 2, none⟩ = some (.int .i64 c.i) := ButW.cell (by omega) ((HV.out.grown g2).cell 2 _ rfl)
  have d3 : ∀ g : ButW (fun i => i = w.heap.size + 1) w2, g.w.cell? ⟨w.heap.size, 3, none⟩ = some (.int .i64 c.f) := ButW.cell (by omega) ((HV.out.grown g2).cell 3 _ rfl)
  have d4 : ∀ g : ButW (fun i => i = w.heap.size + 1) w2, g.w.cell? ⟨w.heap.size, 4, none⟩ = some (.int .i64 c.k) := ButW.cell (by omega) ((HV.out.grown g2).cell 4 _ rfl)
  have d5 : ∀ g : ButW (fun i => i = w.heap.size + 1) w2, g.w.cell? ⟨w.heap.size, 5, none⟩ = some (.slice (some ⟨b, 0, none⟩) ws.length cap) := ButW.cell (by omega) ((HV.out.grown g2).cell 5 _ rfl)
  have d6 : ∀ g : ButW (fun i => i = w.heap.size + 1) w2, g.w.cell? ⟨w.heap.size, 6, none⟩ = some (.int .i64 n) := ButW.cell (by omega) ((HV.out.grown g2).cell 6 _ rfl)
  have d7 : ∀ g : ButW (fun i => i = w.heap.size + 1) w2, g.w.cell? ⟨w.heap.size, 7, none⟩ = some (.int .i64 c.t) := ButW.cell (by omega) ((HV.out.grown g2).cell 7 _ rfl)
  have d8 : ∀ g : ButW (fun i => i = w.heap.size + 1) w2, g.w.cell? ⟨w.heap.size, 8, none⟩ = some (.int .i64 c.b) := ButW.cell (by omega) ((HV.out.grown g2).cell 8 _ rfl)
  have d9 : ∀ g : ButW (fun i => i = w.heap.size + 1) w2, g.w.cell? ⟨w.heap.size, 9, none⟩ = some (.int .i64 c.i) := ButW.cell (by omega) ((HV.out.grown g2).cell 9 _ rfl)
  have d10 : ∀ g : ButW (fun i => i = w.heap.size + 1) w2, g.w.cell? ⟨w.heap.size, 10, none⟩ = some (.int .i64 c.f) := ButW.cell (by omega) ((HV.out.grown g2).cell 10 _ rfl)
  have d11 : ∀ g : ButW (fun i => i = w.heap.size + 1) w2, g.w.cell? ⟨w.heap.size, 11, none⟩ = some (.int .i64 c.k) := ButW.cell (by omega) ((HV.out.grown g2).cell 11 _ rfl)
  have d12 : ∀ g : ButW (fun i => i = w.heap.size + 1) w2, g.w.cell? ⟨w.heap.size, 12, none⟩ = some (.slice sl.a1 sl.m1 sl.k1) := ButW.cell (by omega) ((HV.out.grown g2).cell 12 _ rfl)
  have d13 : ∀ g : ButW (fun i => i = w.heap.size + 1) w2, g.w.cell? ⟨w.heap.size, 13, none⟩ = some (.slice sl.a2 sl.m2 sl.k2) := ButW.cell (by omega) ((HV.out.grown g2).cell 13 _ rfl)
  have d14 : ∀ g : ButW (fun i => i = w.heap.size + 1) w2, g.w.cell? ⟨w.heap.size, 14, none⟩ = some (.slice sl.a3 sl.m3 sl.k3) := ButW.cell (by omega) ((HV.out.grown g2).cell 14 _ rfl)
  have d15 : ∀ g : ButW (fun i => i = w.heap.size + 1) w2, g.w.cell? ⟨w.heap.size, 15, none⟩ = some (.slice sl.a4 sl.m4 sl.k4) := ButW.cell (by omega) ((HV.out.grown g2).cell 15 _ rfl)
  have d16 : ∀ g : ButW (fun i => i = w.heap.size + 1) w2, g.w.cell? ⟨w.heap.size, 16, none⟩ = some (.slice sl.a5 sl.m5 sl.k5) := ButW.cell (by omega) ((HV.out.grown g2).cell 16 _ rfl)
  refine plan_one ?_
  simp only [nths, nth, List.map_cons, List.map_nil, List.getD_cons_zero, List.getD_cons_succ]
  repeat go_big_quiet_step (fail)
  refine wpQuiet_nil ?_
  clear d0 d1 d2 d3 d4 d5 d6 d7 d8 d9 d10 d11 d12 d13 d14 d15 d16
  go_wp2_with fail
  refine (rNext_at _ _ _ _ _ _ _ _ rfl).mono ?_; rintro e w3 ⟨rfl, g3⟩
  rw [show vNext ↑c.t ↑c.b ↑c.i ↑c.f ↑c.k i = nxtI c i from rfl]
  go_wp2_with fail
  refine nxt_but (But.of_grown g3) (plan_one ?_)
  simp only [nths, nth, List.map_nil, List.getD_cons_zero, List.getD_cons_succ]
  refine wpQuiet_nil ?_
  go_wp2_with fail
  have G3 : Grown w w3 := gtr (by go_grown) (gtr g2 g3)
  refine (rwload_any _ c sl b cap ws n (nxtI c i) (HC.out.grown G3) hf hn hn').mono ?_; rintro e w4 ⟨b2, cap2, rfl, g4, h4, hb⟩
  have H4 := Lib.hid h4
  have HB : Hid (b2 = b ∨ w.heap.size ≤ b2) := Lib.hid (hb.imp id (Nat.le_trans G3.2.2))
  have Z4 := Lib.hid (HZ.out.grown (gtr g2 (gtr g3 g4)))
  have hz := HZ.out.lt
  clear h4 hb
  rw [HN2.out, HR.out]
  go_wp2_with fail
  refine nxt_but (But.of_grown (gtr g3 g4)) (plan_one ?_)
  simp only [nths, nth, List.map_cons, List.map_nil, List.getD_cons_zero, List.getD_cons_succ]
  repeat go_big_quiet_step (fail)
  refine wpQuiet_nil ?_
  go_wp2_with (first | (refine store_box rfl 40 _ _ rfl (w.heap.size + 1) [.int .i64 0, .int .i64 0, .int .i64 0, .int .i64 0, .int .i64 0, .slice none 0 0, .int .i64 0, .int .i64 0, .int .i64 0, .int .i64 0, .int .i64 0, .int .i64 0, .slice none 0 0, .slice none 0 0, .slice none 0 0, .slice none 0 0, .slice none 0 0] ?_ #[.int .i64 c.t, .int .i64 c.b, .int .i64 c.i, .int .i64 c.f, .int .i64 c.k, .slice (some ⟨b2, 0, none⟩) ws.length cap2, .int .i64 n2, .int .i64 c.t, .int .i64 c.b, .int .i64 c.i, .int .i64 c.f, .int .i64 c.k, .slice sl.a1 sl.m1 sl.k1, .slice sl.a2 sl.m2 sl.k2, .slice sl.a3 sl.m3 sl.k3, .slice sl.a4 sl.m4 sl.k4, .slice sl.a5 sl.m5 sl.k5] rfl rfl rfl (by kernel_rfl) rfl ?_; exact Z4.out; intro w5 B5 q5; have Z5 := Lib.hid B5; clear B5) | fail)
  refine nxt_but ((But.of_grown (gtr g3 g4)).trans q5) (plan_fin ?_)
  simp only [nths, nth, List.map_cons, List.map_nil, List.getD_cons_zero, List.getD_cons_succ]
  repeat go_big_quiet_step (fail)
  refine wpQuiet_nil ?_
  go_wp2_with fail
  refine bodyPost_ret (results_ct Tryz.results29 rfl (Z5.out.w17 rfl)) rfl ⟨b2, cap2, rfl, ?_, ?_, HB.out⟩
  · exact But.fresh (gtr G3 g4) q5 (fun i hi => by rw [hi]; omega)
  · exact fun j hj => q5.cell (by intro hx; have z0 := Z4.out.cell 0 _ rfl; have z1 := H4.out 0 (by omega); rw [hx, z0] at z1; cases z1) (H4.out j hj)

set_option maxHeartbeats 1000000 in
theorem rwWord_any (w : World) (c : Cf) (sl : Sl) (b cap : Nat) (ws : List Int) (n : Int) (i : Int) (hc : Holds w b ws) (hf : ws.length ≤ 1048576) (hn : 0 ≤ n) (hn' : n < 4611686018427387904) :
    Calls Tryz.prog 32 #[.agg #[.int .i64 c.t, .int .i64 c.b, .int .i64 c.i, .int .i64 c.f, .int .i64 c.k, .slice (some ⟨b, 0, none⟩) ws.length cap, .int .i64 n, .int .i64 c.t, .int .i64 c.b, .int .i64 c.i, .int .i64 c.f, .int .i64 c.k, .slice sl.a1 sl.m1 sl.k1, .slice sl.a2 sl.m2 sl.k2, .slice sl.a3 sl.m3 sl.k3, .slice sl.a4 sl.m4 sl.k4, .slice sl.a5 sl.m5 sl.k5], .int .i64 i] w (RWu c sl b ws (n + cnt ws (wrdI c i)) (rd ws (wrdI c i)) w) := by
  obtain ⟨n2, hn2⟩ : ∃ x, n + cnt ws (wrdI c i) = x := ⟨_, rfl⟩
  obtain ⟨r, hr⟩ : ∃ x, rd ws (wrdI c i) = x := ⟨_, rfl⟩
  rw [hn2, hr]
  have HN2 := Lib.hid hn2
  have HR := Lib.hid hr
  clear hn2 hr
  have HC := Lib.hid hc
  clear hc
  have BV := Box.made w [.int .i64 c.t, .int .i64 c.b, .int .i64 c.i, .int .i64 c.f, .int .i64 c.k, .slice (some ⟨b, 0, none⟩) ws.length cap, .int .i64 n, .int .i64 c.t, .int .i64 c.b, .int .i64 c.i, .int .i64 c.f, .int .i64 c.k, .slice sl.a1 sl.m1 sl.k1, .slice sl.a2 sl.m2 sl.k2, .slice sl.a3 sl.m3 sl.k3, .slice sl.a4 sl.m4 sl.k4, .slice sl.a5 sl.m5 sl.k5] 40
  have BZ := Box.made (w.alloc (.cells #[.int .i64 c.t, .int .i64 c.b, .int .i64 c.i, .int .i64 c.f, .int .i64 c.k, .slice (some ⟨b, 0, none⟩) ws.length cap, .int .i64 n, .int .i64 c.t, .int .i64 c.b, .int .i64 c.i, .int .i64 c.f, .int .i64 c.k, .slice sl.a1 sl.m1 sl.k1, .slice sl.a2 sl.m2 sl.k2, .slice sl.a3 sl.m3 sl.k3, .slice sl.a4 sl.m4 sl.k4, .slice sl.a5 sl.m5 sl.k5] 40)) [.int .i64 0, .int .i64 0, .int .i64 0, .int .i64 0, .int .i64 0, .slice none 0 0, .int .i64 0, .int .i64 0, .int .i64 0, .int .i64 0, .int .i64 0, .int .i64 0, .slice none 0 0, .slice none 0 0, .slice none 0 0, .slice none 0 0, .slice none 0 0] 40
  have hsz : (w.alloc (.cells #[.int .i64 c.t, .int .i64 c.b, .int .i64 c.i, .int .i64 c.f, .int .i64 c.k, .slice (some ⟨b, 0, none⟩) ws.length cap, .int .i64 n, .int .i64 c.t, .int .i64 c.b, .int .i64 c.i, .int .i64 c.f, .int .i64 c.k, .slice sl.a1 sl.m1 sl.k1, .slice sl.a2 sl.m2 sl.k2, .slice sl.a3 sl.m3 sl.k3, .slice sl.a4 sl.m4 sl.k4, .slice sl.a5 sl.m5 sl.k5] 40)).heap.size = w.heap.size + 1 := by simp
  rw [hsz] at BZ
  clear hsz
  replace BV := BV.grown (w' := (w.alloc (.cells #[.int .i64 c.t, .int .i64 c.b, .int .i64 c.i, .int .i64 c.f, .int .i64 c.k, .slice (some ⟨b, 0, none⟩) ws.length cap, .int .i64 n, .int .i64 c.t, .int .i64 c.b, .int .i64 c.i, .int .i64 c.f, .int .i64 c.k, .slice sl.a1 sl.m1 sl.k1, .slice sl.a2 sl.m2 sl.k2, .slice sl.a3 sl.m3 sl.k3, .slice sl.a4 sl.m4 sl.k4, .slice sl.a5 sl.m5 sl.k5] 40)).alloc (.cells #[.int .i64 0, .int .i64 0, .int .i64 0, .int .i64 0, .int .i64 0, .slice none 0 0, .int .i64 0, .int .i64 0, .int .i64 0, .int .i64 0, .int .i64 0, .int .i64 0, .slice none 0 0, .slice none 0 0, .slice none 0 0, .slice none 0 0, .slice none 0 0] 40)) (by go_grown)
  have HV := Lib.hid BV
  have HZ := Lib.hid BZ
  clear BV BZ
  go_enter Tryz.func32, Tryz.ntmps32
  go_wp2_with fail
  refine wp_region_planb (fun i => i = w.heap.size + 1) (.one [0, 1, 2, 3] 4 (.one [] 5 (.one [6, 7] 8 (.fin [9])))) (by kernel_rfl) (by kernel_rfl) (by kernel_rfl) ?_
  intro w2 g2
  have d0 : ∀ g : ButW (fun i => i = w.heap.size + 1) w2, g.w.cell? ⟨w.heap.size, 0, none⟩ = some (.int .i64 c.t) := ButW.cell (by omega) ((HV.out.grown g2).cell 0 _ rfl)
  have d1 : ∀ g : ButW (fun i => i = w.heap.size + 1) w2, g.w.cell? ⟨w.heap.size, 1, none⟩ = some (.int .i64 c.b) := ButW.cell (by omega) ((HV.out.grown g2).cell 1 _ rfl)
  have d2 : ∀ g : ButW (fun i => i = w.heap.size + 1) w2, g.w.cell? ⟨w.heap.size, 2, none⟩ = some (.int .i64 c.i) := ButW.cell (by omega) ((HV.out.grown g2).cell 2 _ rfl)
  have d3 : ∀ g : ButW (fun i => i = w.heap.size + 1) w2, g.w.cell? ⟨w.heap.size, 3, none⟩ = some (.int .i64 c.f) := ButW.cell (by omega) ((HV.out.grown g2).cell 3 _ rfl)
  have d4 : ∀ g : ButW (fun i => i = w.heap.size + 1) w2, g.w.cell? ⟨w.heap.size, 4, none⟩ = some (.int .i64 c.k) := ButW.cell (by omega) ((HV.out.grown g2).cell 4 _ rfl)
  have d5 : ∀ g : ButW (fun i => i = w.heap.size + 1) w2, g.w.cell? ⟨w.heap.size, 5, none⟩ = some (.slice (some ⟨b, 0, none⟩) ws.length cap) := ButW.cell (by omega) ((HV.out.grown g2).cell 5 _ rfl)
  have d6 : ∀ g : ButW (fun i => i = w.heap.size + 1) w2, g.w.cell? ⟨w.heap.size, 6, none⟩ = some (.int .i64 n) := ButW.cell (by omega) ((HV.out.grown g2).cell 6 _ rfl)
  have d7 : ∀ g : ButW (fun i => i = w.heap.size + 1) w2, g.w.cell? ⟨w.heap.size, 7, none⟩ = some (.int .i64 c.t) := ButW.cell (by omega) ((HV.out.grown g2).cell 7 _ rfl)
  have d8 : ∀ g : ButW (fun i => i = w.heap.size + 1) w2, g.w.cell? ⟨w.heap.size, 8, none⟩ = some (.int .i64 c.b) := ButW.cell (by omega) ((HV.out.grown g2).cell 8 _ rfl)
  have d9 : ∀ g : ButW (fun i => i = w.heap.size + 1) w2, g.w.cell? ⟨w.heap.size, 9, none⟩ = some (.int .i64 c.i) := ButW.cell (by omega) ((HV.out.grown g2).cell 9 _ rfl)
  have d10 : ∀ g : ButW (fun i => i = w.heap.size + 1) w2, g.w.cell? ⟨w.heap.size, 10, none⟩ = some (.int .i64 c.f) := ButW.cell (by omega) ((HV.out.grown g2).cell 10 _ rfl)
  have d11 : ∀ g : ButW (fun i => i = w.heap.size + 1) w2, g.w.cell? ⟨w.heap.size, 11, none⟩ = some (.int .i64 c.k) := ButW.cell (by omega) ((HV.out.grown g2).cell 11 _ rfl)
  have d12 : ∀ g : ButW (fun i => i = w.heap.size + 1) w2, g.w.cell? ⟨w.heap.size, 12, none⟩ = some (.slice sl.a1 sl.m1 sl.k1) := ButW.cell (by omega) ((HV.out.grown g2).cell 12 _ rfl)
  have d13 : ∀ g : ButW (fun i => i = w.heap.size + 1) w2, g.w.cell? ⟨w.heap.size, 13, none⟩ = some (.slice sl.a2 sl.m2 sl.k2) := ButW.cell (by omega) ((HV.out.grown g2).cell 13 _ rfl)
  have d14 : ∀ g : ButW (fun i => i = w.heap.size + 1) w2, g.w.cell? ⟨w.heap.size, 14, none⟩ = some (.slice sl.a3 sl.m3 sl.k3) := ButW.cell (by omega) ((HV.out.grown g2).cell 14 _ rfl)
  have d15 : ∀ g : ButW (fun i => i = w.heap.size + 1) w2, g.w.cell? ⟨w.heap.size, 15, none⟩ = some (.slice sl.a4 sl.m4 sl.k4) := ButW.cell (by omega) ((HV.out.grown g2).cell 15 _ rfl)
  have d16 : ∀ g : ButW (fun i => i = w.heap.size + 1) w2, g.w.cell? ⟨w.heap.size, 16, none⟩ = some (.slice sl.a5 sl.m5 sl.k5) := ButW.cell (by omega) ((HV.out.grown g2).cell 16 _ rfl)
  refine plan_one ?_
  simp only [nths, nth, List.map_cons, List.map_nil, List.getD_cons_zero, List.getD_cons_succ]
  repeat go_big_quiet_step (fail)
  refine wpQuiet_nil ?_
  clear d0 d1 d2 d3 d4 d5 d6 d7 d8 d9 d10 d11 d12 d13 d14 d15 d16
  go_wp2_with fail
  refine (rWord_at _ _ _ _ _ _ _ _ rfl).mono ?_; rintro e w3 ⟨rfl, g3⟩
  rw [show vWord ↑c.t ↑c.b ↑c.i ↑c.f ↑c.k i = wrdI c i from rfl]
  go_wp2_with fail
  refine nxt_but (But.of_grown g3) (plan_one ?_)
  simp only [nths, nth, List.map_nil, List.getD_cons_zero, List.getD_cons_succ]
  refine wpQuiet_nil ?_
  go_wp2_with fail
  have G3 : Grown w w3 := gtr (by go_grown) (gtr g2 g3)
  refine (rwload_any _ c sl b cap ws n (wrdI c i) (HC.out.grown G3) hf hn hn').mono ?_; rintro e w4 ⟨b2, cap2, rfl, g4, h4, hb⟩
  have H4 := Lib.hid h4
  have HB : Hid (b2 = b ∨ w.heap.size ≤ b2) := Lib.hid (hb.imp id (Nat.le_trans G3.2.2))
  have Z4 := Lib.hid (HZ.out.grown (gtr g2 (gtr g3 g4)))
  have hz := HZ.out.lt
  clear h4 hb
  rw [HN2.out, HR.out]
  go_wp2_with fail
  refine nxt_but (But.of_grown (gtr g3 g4)) (plan_one ?_)
  simp only [nths, nth, List.map_cons, List.map_nil, List.getD_cons_zero, List.getD_cons_succ]
  repeat go_big_quiet_step (fail)
  refine wpQuiet_nil ?_
  go_wp2_with (first | (refine store_box rfl 40 _ _ rfl (w.heap.size + 1) [.int .i64 0, .int .i64 0, .int .i64 0, .int .i64 0, .int .i64 0, .slice none 0 0, .int .i64 0, .int .i64 0, .int .i64 0, .int .i64 0, .int .i64 0, .int .i64 0, .slice none 0 0, .slice none 0 0, .slice none 0 0, .slice none 0 0, .slice none 0 0] ?_ #[.int .i64 c.t, .int .i64 c.b, .int .i64 c.i, .int .i64 c.f, .int .i64 c.k, .slice (some ⟨b2, 0, none⟩) ws.length cap2, .int .i64 n2, .int .i64 c.t, .int .i64 c.b, .int .i64 c.i, .int .i64 c.f, .int .i64 c.k, .slice sl.a1 sl.m1 sl.k1, .slice sl.a2 sl.m2 sl.k2, .slice sl.a3 sl.m3 sl.k3, .slice sl.a4 sl.m4 sl.k4, .slice sl.a5 sl.m5 sl.k5] rfl rfl rfl (by kernel_rfl) rfl ?_; exact Z4.out; intro w5 B5 q5; have Z5 := Lib.hid B5; clear B5) | fail)
  refine nxt_but ((But.of_grown (gtr g3 g4)).trans q5) (plan_fin ?_)
  simp only [nths, nth, List.map_cons, List.map_nil, List.getD_cons_zero, List.getD_cons_succ]
  repeat go_big_quiet_step (fail)
  refine wpQuiet_nil ?_
  go_wp2_with fail
  refine bodyPost_ret (results_ct Tryz.results32 rfl (Z5.out.w17 rfl)) rfl ⟨b2, cap2, rfl, ?_, ?_, HB.out⟩
  · exact But.fresh (gtr G3 g4) q5 (fun i hi => by rw [hi]; omega)
  · exact fun j hj => q5.cell (by intro hx; have z0 := Z4.out.cell 0 _ rfl; have z1 := H4.out 0 (by omega); rw [hx, z0] at z1; cases z1) (H4.out j hj)

set_option maxHeartbeats 1000000 in
theorem rwLink_any (w : World) (c : Cf) (sl : Sl) (b cap : Nat) (ws : List Int) (n : Int) (i old v : Int) (hc : Holds w b ws) (hf : ws.length ≤ 1048576) (hn : 0 ≤ n) (hn' : n < 4611686018427387904) :
    Calls Tryz.prog 30 #[.agg #[.int .i64 c.t, .int .i64 c.b, .int .i64 c.i, .int .i64 c.f, .int .i64 c.k, .slice (some ⟨b, 0, none⟩) ws.length cap, .int .i64 n, .int .i64 c.t, .int .i64 c.b, .int .i64 c.i, .int .i64 c.f, .int .i64 c.k, .slice sl.a1 sl.m1 sl.k1, .slice sl.a2 sl.m2 sl.k2, .slice sl.a3 sl.m3 sl.k3, .slice sl.a4 sl.m4 sl.k4, .slice sl.a5 sl.m5 sl.k5], .int .i64 i, .int .u64 old, .int .u64 v] w (RWb c sl b (sw ws (nxtI c i) old v) (n + cnt ws (nxtI c i)) (may ws (nxtI c i) old) w) := by
  obtain ⟨n2, hn2⟩ : ∃ x, n + cnt ws (nxtI c i) = x := ⟨_, rfl⟩
  obtain ⟨r, hr⟩ : ∃ x, may ws (nxtI c i) old = x := ⟨_, rfl⟩
  obtain ⟨ws2, hws⟩ : ∃ x, (sw ws (nxtI c i) old v) = x := ⟨_, rfl⟩
  have HWS := Lib.hid hws
  rw [hn2, hr, hws]
  have HN2 := Lib.hid hn2
  have HR := Lib.hid hr
  clear hn2 hr
  clear hws
  have HC := Lib.hid hc
  clear hc
  have BV := Box.made w [.int .i64 c.t, .int .i64 c.b, .int .i64 c.i, .int .i64 c.f, .int .i64 c.k, .slice (some ⟨b, 0, none⟩) ws.length cap, .int .i64 n, .int .i64 c.t, .int .i64 c.b, .int .i64 c.i, .int .i64 c.f, .int .i64 c.k, .slice sl.a1 sl.m1 sl.k1, .slice sl.a2 sl.m2 sl.k2, .slice sl.a3 sl.m3 sl.k3, .slice sl.a4 sl.m4 sl.k4, .slice sl.a5 sl.m5 sl.k5] 40
  have BZ := Box.made (w.alloc (.cells #[.int .i64 c.t, .int .i64 c.b, .int .i64 c.i, .int .i64 c.f, .int .i64 c.k, .slice (some ⟨b, 0, none⟩) ws.length cap, .int .i64 n, .int .i64 c.t, .int .i64 c.b, .int .i64 c.i, .int .i64 c.f, .int .i64 c.k, .slice sl.a1 sl.m1 sl.k1, .slice sl.a2 sl.m2 sl.k2, .slice sl.a3 sl.m3 sl.k3, .slice sl.a4 sl.m4 sl.k4, .slice sl.a5 sl.m5 sl.k5] 40)) [.int .i64 0, .int .i64 0, .int .i64 0, .int .i64 0, .int .i64 0, .slice none 0 0, .int .i64 0, .int .i64 0, .int .i64 0, .int .i64 0, .int .i64 0, .int .i64 0, .slice none 0 0, .slice none 0 0, .slice none 0 0, .slice none 0 0, .slice none 0 0] 40
  have hsz : (w.alloc (.cells #[.int .i64 c.t, .int .i64 c.b, .int .i64 c.i, .int .i64 c.f, .int .i64 c.k, .slice (some ⟨b, 0, none⟩) ws.length cap, .int .i64 n, .int .i64 c.t, .int .i64 c.b, .int .i64 c.i, .int .i64 c.f, .int .i64 c.k, .slice sl.a1 sl.m1 sl.k1, .slice sl.a2 sl.m2 sl.k2, .slice sl.a3 sl.m3 sl.k3, .slice sl.a4 sl.m4 sl.k4, .slice sl.a5 sl.m5 sl.k5] 40)).heap.size = w.heap.size + 1 := by simp
  rw [hsz] at BZ
  clear hsz
  replace BV := BV.grown (w' := (w.alloc (.cells #[.int .i64 c.t, .int .i64 c.b, .int .i64 c.i, .int .i64 c.f, .int .i64 c.k, .slice (some ⟨b, 0, none⟩) ws.length cap, .int .i64 n, .int .i64 c.t, .int .i64 c.b, .int .i64 c.i, .int .i64 c.f, .int .i64 c.k, .slice sl.a1 sl.m1 sl.k1, .slice sl.a2 sl.m2 sl.k2, .slice sl.a3 sl.m3 sl.k3, .slice sl.a4 sl.m4 sl.k4, .slice sl.a5 sl.m5 sl.k5] 40)).alloc (.cells #[.int .i64 0, .int .i64 0, .int .i64 0, .int .i64 0, .int .i64 0, .slice none 0 0, .int .i64 0, .int .i64 0, .int .i64 0, .int .i64 0, .int .i64 0, .int .i64 0, .slice none 0 0, .slice none 0 0, .slice none 0 0, .slice none 0 0, .slice none 0 0] 40)) (by go_grown)
  have HV := Lib.hid BV
  have HZ := Lib.hid BZ
  clear BV BZ
  go_enter Tryz.func30, Tryz.ntmps30
  go_wp2_with fail
  refine wp_region_planb (fun i => i = w.heap.size + 1) (.one [0, 1, 2, 3, 5, 6] 4 (.one [] 7 (.one [8, 9] 10 (.fin [11])))) (by kernel_rfl) (by kernel_rfl) (by kernel_rfl) ?_
  intro w2 g2
  have d0 : ∀ g : ButW (fun i => i = w.heap.size + 1) w2, g.w.cell? ⟨w.heap.size, 0, none⟩ = some (.int .i64 c.t) := ButW.cell (by omega) ((HV.out.grown g2).cell 0 _ rfl)
  have d1 : ∀ g : ButW (fun i => i = w.heap.size + 1) w2, g.w.cell? ⟨w.heap.size, 1, none⟩ = some (.int .i64 c.b) := ButW.cell (by omega) ((HV.out.grown g2).cell 1 _ rfl)
  have d2 : ∀ g : ButW (fun i => i = w.heap.size + 1) w2, g.w.cell? ⟨w.heap.size, 2, none⟩ = some (.int .i64 c.i) := ButW.cell (by omega) ((HV.out.grown g2).cell 2 _ rfl)
  have d3 : ∀ g : ButW (fun i => i = w.heap.size + 1) w2, g.w.cell? ⟨w.heap.size, 3, none⟩ = some (.int .i64 c.f) := ButW.cell (by omega) ((HV.out.grown g2).cell 3 _ rfl)
  have d4 : ∀ g : ButW (fun i => i = w.heap.size + 1) w2, g.w.cell? ⟨w.heap.size, 4, none⟩ = some (.int .i64 c.k) := ButW.cell (by omega) ((HV.out.grown g2).cell 4 _ rfl)
  have d5 : ∀ g : ButW (fun i => i = w.heap.size + 1) w2, g.w.cell? ⟨w.heap.size, 5, none⟩ = some (.slice (some ⟨b, 0, none⟩) ws.length cap) := ButW.cell (by omega) ((HV.out.grown g2).cell 5 _ rfl)
  have d6 : ∀ g : ButW (fun i => i = w.heap.size + 1) w2, g.w.cell? ⟨w.heap.size, 6, none⟩ = some (.int .i64 n) := ButW.cell (by omega) ((HV.out.grown g2).cell 6 _ rfl)
  have d7 : ∀ g : ButW (fun i => i = w.heap.size + 1) w2, g.w.cell? ⟨w.heap.size, 7, none⟩ = some (.int .i64 c.t) := ButW.cell (by omega) ((HV.out.grown g2).cell 7 _ rfl)
  have d8 : ∀ g : ButW (fun i => i = w.heap.size + 1) w2, g.w.cell? ⟨w.heap.size, 8, none⟩ = some (.int .i64 c.b) := ButW.cell (by omega) ((HV.out.grown g2).cell 8 _ rfl)
  have d9 : ∀ g : ButW (fun i => i = w.heap.size + 1) w2, g.w.cell? ⟨w.heap.size, 9, none⟩ = some (.int .i64 c.i) := ButW.cell (by omega) ((HV.out.grown g2).cell 9 _ rfl)
  have d10 : ∀ g : ButW (fun i => i = w.heap.size + 1) w2, g.w.cell? ⟨w.heap.size, 10, none⟩ = some (.int .i64 c.f) := ButW.cell (by omega) ((HV.out.grown g2).cell 10 _ rfl)
  have d11 : ∀ g : ButW (fun i => i = w.heap.size + 1) w2, g.w.cell? ⟨w.heap.size, 11, none⟩ = some (.int .i64 c.k) := ButW.cell (by omega) ((HV.out.grown g2).cell 11 _ rfl)
  have d12 : ∀ g : ButW (fun i => i = w.heap.size + 1) w2, g.w.cell? ⟨w.heap.size, 12, none⟩ = some (.slice sl.a1 sl.m1 sl.k1) := ButW.cell (by omega) ((HV.out.grown g2).cell 12 _ rfl)
  have d13 : ∀ g : ButW (fun i => i = w.heap.size + 1) w2, g.w.cell? ⟨w.heap.size, 13, none⟩ = some (.slice sl.a2 sl.m2 sl.k2) := ButW.cell (by omega) ((HV.out.grown g2).cell 13 _ rfl)
  have d14 : ∀ g : ButW (fun i => i = w.heap.size + 1) w2, g.w.cell? ⟨w.heap.size, 14, none⟩ = some (.slice sl.a3 sl.m3 sl.k3) := ButW.cell (by omega) ((HV.out.grown g2).cell 14 _ rfl)
  have d15 : ∀ g : ButW (fun i => i = w.heap.size + 1) w2, g.w.cell? ⟨w.heap.size, 15, none⟩ = some (.slice sl.a4 sl.m4 sl.k4) := ButW.cell (by omega) ((HV.out.grown g2).cell 15 _ rfl)
  have d16 : ∀ g : ButW (fun i => i = w.heap.size + 1) w2, g.w.cell? ⟨w.heap.size, 16, none⟩ = some (.slice sl.a5 sl.m5 sl.k5) := ButW.cell (by omega) ((HV.out.grown g2).cell 16 _ rfl)
  refine plan_one ?_
  simp only [nths, nth, List.map_cons, List.map_nil, List.getD_cons_zero, List.getD_cons_succ]
  repeat go_big_quiet_step (fail)
  refine wpQuiet_nil ?_
  clear d0 d1 d2 d3 d4 d5 d6 d7 d8 d9 d10 d11 d12 d13 d14 d15 d16
  go_wp2_with fail
  refine (rNext_at _ _ _ _ _ _ _ _ rfl).mono ?_; rintro e w3 ⟨rfl, g3⟩
  rw [show vNext ↑c.t ↑c.b ↑c.i ↑c.f ↑c.k i = nxtI c i from rfl]
  go_wp2_with fail
  refine nxt_but (But.of_grown g3) (plan_one ?_)
  simp only [nths, nth, List.map_nil, List.getD_cons_zero, List.getD_cons_succ]
  refine wpQuiet_nil ?_
  go_wp2_with fail
  have G3 : Grown w w3 := gtr (by go_grown) (gtr g2 g3)
  refine (rwswap_any _ c sl b cap ws n (nxtI c i) old v (HC.out.grown G3) hf hn hn').mono ?_; rintro e w4 ⟨b2, cap2, rfl, g4, h4, hb⟩
  rw [HWS.out] at h4
  have H4 := Lib.hid h4
  have HB : Hid (b2 = b ∨ w.heap.size ≤ b2) := Lib.hid (hb.imp id (Nat.le_trans G3.2.2))
  have Z4 := Lib.hid (HZ.out.grown (gtr g2 (gtr g3 g4)))
  have hz := HZ.out.lt
  clear h4 hb
  rw [HN2.out, HR.out, HWS.out]
  go_wp2_with fail
  refine nxt_but (But.of_grown (gtr g3 g4)) (plan_one ?_)
  simp only [nths, nth, List.map_cons, List.map_nil, List.getD_cons_zero, List.getD_cons_succ]
  repeat go_big_quiet_step (fail)
  refine wpQuiet_nil ?_
  go_wp2_with (first | (refine store_box rfl 40 _ _ rfl (w.heap.size + 1) [.int .i64 0, .int .i64 0, .int .i64 0, .int .i64 0, .int .i64 0, .slice none 0 0, .int .i64 0, .int .i64 0, .int .i64 0, .int .i64 0, .int .i64 0, .int .i64 0, .slice none 0 0, .slice none 0 0, .slice none 0 0, .slice none 0 0, .slice none 0 0] ?_ #[.int .i64 c.t, .int .i64 c.b, .int .i64 c.i, .int .i64 c.f, .int .i64 c.k, .slice (some ⟨b2, 0, none⟩) ws2.length cap2, .int .i64 n2, .int .i64 c.t, .int .i64 c.b, .int .i64 c.i, .int .i64 c.f, .int .i64 c.k, .slice sl.a1 sl.m1 sl.k1, .slice sl.a2 sl.m2 sl.k2, .slice sl.a3 sl.m3 sl.k3, .slice sl.a4 sl.m4 sl.k4, .slice sl.a5 sl.m5 sl.k5] rfl rfl rfl (by kernel_rfl) rfl ?_; exact Z4.out; intro w5 B5 q5; have Z5 := Lib.hid B5; clear B5) | fail)
  refine nxt_but ((But.of_grown (gtr g3 g4)).trans q5) (plan_fin ?_)
  simp only [nths, nth, List.map_cons, List.map_nil, List.getD_cons_zero, List.getD_cons_succ]
  repeat go_big_quiet_step (fail)
  refine wpQuiet_nil ?_
  go_wp2_with fail
  refine bodyPost_ret (results_ct Tryz.results30 rfl (Z5.out.w17 rfl)) rfl ⟨b2, cap2, rfl, ?_, ?_, HB.out⟩
  · exact But.fresh (gtr G3 g4) q5 (fun i hi => by rw [hi]; omega)
  · exact fun j hj => q5.cell (by intro hx; have z0 := Z4.out.cell 0 _ rfl; have z1 := H4.out 0 (by omega); rw [hx, z0] at z1; cases z1) (H4.out j hj)

set_option maxHeartbeats 1000000 in
theorem rwTurn_any (w : World) (c : Cf) (sl : Sl) (b cap : Nat) (ws : List Int) (n : Int) (i old v : Int) (hc : Holds w b ws) (hf : ws.length ≤ 1048576) (hn : 0 ≤ n) (hn' : n < 4611686018427387904) :
    Calls Tryz.prog 33 #[.agg #[.int .i64 c.t, .int .i64 c.b, .int .i64 c.i, .int .i64 c.f, .int .i64 c.k, .slice (some ⟨b, 0, none⟩) ws.length cap, .int .i64 n, .int .i64 c.t, .int .i64 c.b, .int .i64 c.i, .int .i64 c.f, .int .i64 c.k, .slice sl.a1 sl.m1 sl.k1, .slice sl.a2 sl.m2 sl.k2, .slice sl.a3 sl.m3 sl.k3, .slice sl.a4 sl.m4 sl.k4, .slice sl.a5 sl.m5 sl.k5], .int .i64 i, .int .u64 old, .int .u64 v] w (RWb c sl b (sw ws (wrdI c i) old v) (n + cnt ws (wrdI c i)) (may ws (wrdI c i) old) w) := by
  obtain ⟨n2, hn2⟩ : ∃ x, n + cnt ws (wrdI c i) = x := ⟨_, rfl⟩
  obtain ⟨r, hr⟩ : ∃ x, may ws (wrdI c i) old = x := ⟨_, rfl⟩
  obtain ⟨ws2, hws⟩ : ∃ x, (sw ws (wrdI c i) old v) = x := ⟨_, rfl⟩
  have HWS := Lib.hid hws
  rw [hn2, hr, hws]
  have HN2 := Lib.hid hn2
  have HR := Lib.hid hr
  clear hn2 hr
  clear hws
  have HC := Lib.hid hc
  clear hc
  have BV := Box.made w [.int .i64 c.t, .int .i64 c.b, .int .i64 c.i, .int .i64 c.f, .int .i64 c.k, .slice (some ⟨b, 0, none⟩) ws.length cap, .int .i64 n, .int .i64 c.t, .int .i64 c.b, .int .i64 c.i, .int .i64 c.f, .int .i64 c.k, .slice sl.a1 sl.m1 sl.k1, .slice sl.a2 sl.m2 sl.k2, .slice sl.a3 sl.m3 sl.k3, .slice sl.a4 sl.m4 sl.k4, .slice sl.a5 sl.m5 sl.k5] 40
  have BZ := Box.made (w.alloc (.cells #[.int .i64 c.t, .int .i64 c.b, .int .i64 c.i, .int .i64 c.f, .int .i64 c.k, .slice (some ⟨b, 0, none⟩) ws.length cap, .int .i64 n, .int .i64 c.t, .int .i64 c.b, .int .i64 c.i, .int .i64 c.f, .int .i64 c.k, .slice sl.a1 sl.m1 sl.k1, .slice sl.a2 sl.m2 sl.k2, .slice sl.a3 sl.m3 sl.k3, .slice sl.a4 sl.m4 sl.k4, .slice sl.a5 sl.m5 sl.k5] 40)) [.int .i64 0, .int .i64 0, .int .i64 0, .int .i64 0, .int .i64 0, .slice none 0 0, .int .i64 0, .int .i64 0, .int .i64 0, .int .i64 0, .int .i64 0, .int .i64 0, .slice none 0 0, .slice none 0 0, .slice none 0 0, .slice none 0 0, .slice none 0 0] 40
  have hsz : (w.alloc (.cells #[.int .i64 c.t, .int .i64 c.b, .int .i64 c.i, .int .i64 c.f, .int .i64 c.k, .slice (some ⟨b, 0, none⟩) ws.length cap, .int .i64 n, .int .i64 c.t, .int .i64 c.b, .int .i64 c.i, .int .i64 c.f, .int .i64 c.k, .slice sl.a1 sl.m1 sl.k1, .slice sl.a2 sl.m2 sl.k2, .slice sl.a3 sl.m3 sl.k3, .slice sl.a4 sl.m4 sl.k4, .slice sl.a5 sl.m5 sl.k5] 40)).heap.size = w.heap.size + 1 := by simp
  rw [hsz] at BZ
  clear hsz
  replace BV := BV.grown (w' := (w.alloc (.cells #[.int .i64 c.t, .int .i64 c.b, .int .i64 c.i, .int .i64 c.f, .int .i64 c.k, .slice (some ⟨b, 0, none⟩) ws.length cap, .int .i64 n, .int .i64 c.t, .int .i64 c.b, .int .i64 c.i, .int .i64 c.f, .int .i64 c.k, .slice sl.a1 sl.m1 sl.k1, .slice sl.a2 sl.m2 sl.k2, .slice sl.a3 sl.m3 sl.k3, .slice sl.a4 sl.m4 sl.k4, .slice sl.a5 sl.m5 sl.k5] 40)).alloc (.cells #[.int .i64 0, .int .i64 0, .int .i64 0, .int .i64 0, .int .i64 0, .slice none 0 0, .int .i64 0, .int .i64 0, .int .i64 0, .int .i64 0, .int .i64 0, .int .i64 0, .slice none 0 0, .slice none 0 0, .slice none 0 0, .slice none 0 0, .slice none 0 0] 40)) (by go_grown)
  have HV := Lib.hid BV
  have HZ := Lib.hid BZ
  clear BV BZ
  go_enter Tryz.func33, Tryz.ntmps33
  go_wp2_with fail
  refine wp_region_planb (fun i => i = w.heap.size + 1) (.one [0, 1, 2, 3, 5, 6] 4 (.one [] 7 (.one [8, 9] 10 (.fin [11])))) (by kernel_rfl) (by kernel_rfl) (by kernel_rfl) ?_
  intro w2 g2
  have d0 : ∀ g : ButW (fun i => i = w.heap.size + 1) w2, g.w.cell? ⟨w.heap.size, 0, none⟩ = some (.int .i64 c.t) := ButW.cell (by omega) ((HV.out.grown g2).cell 0 _ rfl)
  have d1 : ∀ g : ButW (fun i => i = w.heap.size + 1) w2, g.w.cell? ⟨w.heap.size, 1, none⟩ = some (.int .i64 c.b) := ButW.cell (by omega) ((HV.out.grown g2).cell 1 _ rfl)
  have d2 : ∀ g : ButW (fun i => i = w.heap.size + 1) w2, g.w.cell? ⟨w.heap.size, 2, none⟩ = some (.int .i64 c.i) := ButW.cell (by omega) ((HV.out.grown g2).cell 2 _ rfl)
  have d3 : ∀ g : ButW (fun i => i = w.heap.size + 1) w2, g.w.cell? ⟨w.heap.size, 3, none⟩ = some (.int .i64 c.f) := ButW.cell (by omega) ((HV.out.grown g2).cell 3 _ rfl)
  have d4 : ∀ g : ButW (fun i => i = w.heap.size + 1) w2, g.w.cell? ⟨w.heap.size, 4, none⟩ = some (.int .i64 c.k) := ButW.cell (by omega) ((HV.out.grown g2).cell 4 _ rfl)
  have d5 : ∀ g : ButW (fun i => i = w.heap.size + 1) w2, g.w.cell? ⟨w.heap.size, 5, none⟩ = some (.slice (some ⟨b, 0, none⟩) ws.length cap) := ButW.cell (by omega) ((HV.out.grown g2).cell 5 _ rfl)
  have d6 : ∀ g : ButW (fun i => i = w.heap.size + 1) w2, g.w.cell? ⟨w.heap.size, 6, none⟩ = some (.int .i64 n) := ButW.cell (by omega) ((HV.out.grown g2).cell 6 _ rfl)
  have d7 : ∀ g : ButW (fun i => i = w.heap.size + 1) w2, g.w.cell? ⟨w.heap.size, 7, none⟩ = some (.int .i64 c.t) := ButW.cell (by omega) ((HV.out.grown g2).cell 7 _ rfl)
  have d8 : ∀ g : ButW (fun i => i = w.heap.size + 1) w2, g.w.cell? ⟨w.heap.size, 8, none⟩ = some (.int .i64 c.b) := ButW.cell (by omega) ((HV.out.grown g2).cell 8 _ rfl)
  have d9 : ∀ g : ButW (fun i => i = w.heap.size + 1) w2, g.w.cell? ⟨w.heap.size, 9, none⟩ = some (.int .i64 c.i) := ButW.cell (by omega) ((HV.out.grown g2).cell 9 _ rfl)
  have d10 : ∀ g : ButW (fun i => i = w.heap.size + 1) w2, g.w.cell? ⟨w.heap.size, 10, none⟩ = some (.int .i64 c.f) := ButW.cell (by omega) ((HV.out.grown g2).cell 10 _ rfl)
  have d11 : ∀ g : ButW (fun i => i = w.heap.size + 1) w2, g.w.cell? ⟨w.heap.size, 11, none⟩ = some (.int .i64 c.k) := ButW.cell (by omega) ((HV.out.grown g2).cell 11 _ rfl)
  have d12 : ∀ g : ButW (fun i => i = w.heap.size + 1) w2, g.w.cell? ⟨w.heap.size, 12, none⟩ = some (.slice sl.a1 sl.m1 sl.k1) := ButW.cell (by omega) ((HV.out.grown g2).cell 12 _ rfl)
  have d13 : ∀ g : ButW (fun i => i = w.heap.size + 1) w2, g.w.cell? ⟨w.heap.size, 13, none⟩ = some (.slice sl.a2 sl.m2 sl.k2) := ButW.cell (by omega) ((HV.out.grown g2).cell 13 _ rfl)
  have d14 : ∀ g : ButW (fun i => i = w.heap.size + 1) w2, g.w.cell? ⟨w.heap.size, 14, none⟩ = some (.slice sl.a3 sl.m3 sl.k3) := ButW.cell (by omega) ((HV.out.grown g2).cell 14 _ rfl)
  have d15 : ∀ g : ButW (fun i => i = w.heap.size + 1) w2, g.w.cell? ⟨w.heap.size, 15, none⟩ = some (.slice sl.a4 sl.m4 sl.k4) := ButW.cell (by omega) ((HV.out.grown g2).cell 15 _ rfl)
  have d16 : ∀ g : ButW (fun i => i = w.heap.size + 1) w2, g.w.cell? ⟨w.heap.size, 16, none⟩ = some (.slice sl.a5 sl.m5 sl.k5) := ButW.cell (by omega) ((HV.out.grown g2).cell 16 _ rfl)
  refine plan_one ?_
  simp only [nths, nth, List.map_cons, List.map_nil, List.getD_cons_zero, List.getD_cons_succ]
  repeat go_big_quiet_step (fail)
  refine wpQuiet_nil ?_
  clear d0 d1 d2 d3 d4 d5 d6 d7 d8 d9 d10 d11 d12 d13 d14 d15 d16
  go_wp2_with fail
  refine (rWord_at _ _ _ _ _ _ _ _ rfl).mono ?_; rintro e w3 ⟨rfl, g3⟩
  rw [show vWord ↑c.t ↑c.b ↑c.i ↑c.f ↑c.k i = wrdI c i from rfl]
  go_wp2_with fail
  refine nxt_but (But.of_grown g3) (plan_one ?_)
  simp only [nths, nth, List.map_nil, List.getD_cons_zero, List.getD_cons_succ]
  refine wpQuiet_nil ?_
  go_wp2_with fail
  have G3 : Grown w w3 := gtr (by go_grown) (gtr g2 g3)
  refine (rwswap_any _ c sl b cap ws n (wrdI c i) old v (HC.out.grown G3) hf hn hn').mono ?_; rintro e w4 ⟨b2, cap2, rfl, g4, h4, hb⟩
  rw [HWS.out] at h4
  have H4 := Lib.hid h4
  have HB : Hid (b2 = b ∨ w.heap.size ≤ b2) := Lib.hid (hb.imp id (Nat.le_trans G3.2.2))
  have Z4 := Lib.hid (HZ.out.grown (gtr g2 (gtr g3 g4)))
  have hz := HZ.out.lt
  clear h4 hb
  rw [HN2.out, HR.out, HWS.out]
  go_wp2_with fail
  refine nxt_but (But.of_grown (gtr g3 g4)) (plan_one ?_)
  simp only [nths, nth, List.map_cons, List.map_nil, List.getD_cons_zero, List.getD_cons_succ]
  repeat go_big_quiet_step (fail)
  refine wpQuiet_nil ?_
  go_wp2_with (first | (refine store_box rfl 40 _ _ rfl (w.heap.size + 1) [.int .i64 0, .int .i64 0, .int .i64 0, .int .i64 0, .int .i64 0, .slice none 0 0, .int .i64 0, .int .i64 0, .int .i64 0, .int .i64 0, .int .i64 0, .int .i64 0, .slice none 0 0, .slice none 0 0, .slice none 0 0, .slice none 0 0, .slice none 0 0] ?_ #[.int .i64 c.t, .int .i64 c.b, .int .i64 c.i, .int .i64 c.f, .int .i64 c.k, .slice (some ⟨b2, 0, none⟩) ws2.length cap2, .int .i64 n2, .int .i64 c.t, .int .i64 c.b, .int .i64 c.i, .int .i64 c.f, .int .i64 c.k, .slice sl.a1 sl.m1 sl.k1, .slice sl.a2 sl.m2 sl.k2, .slice sl.a3 sl.m3 sl.k3, .slice sl.a4 sl.m4 sl.k4, .slice sl.a5 sl.m5 sl.k5] rfl rfl rfl (by kernel_rfl) rfl ?_; exact Z4.out; intro w5 B5 q5; have Z5 := Lib.hid B5; clear B5) | fail)
  refine nxt_but ((But.of_grown (gtr g3 g4)).trans q5) (plan_fin ?_)
  simp only [nths, nth, List.map_cons, List.map_nil, List.getD_cons_zero, List.getD_cons_succ]
  repeat go_big_quiet_step (fail)
  refine wpQuiet_nil ?_
  go_wp2_with fail
  refine bodyPost_ret (results_ct Tryz.results33 rfl (Z5.out.w17 rfl)) rfl ⟨b2, cap2, rfl, ?_, ?_, HB.out⟩
  · exact But.fresh (gtr G3 g4) q5 (fun i hi => by rw [hi]; omega)
  · exact fun j hj => q5.cell (by intro hx; have z0 := Z4.out.cell 0 _ rfl; have z1 := H4.out 0 (by omega); rw [hx, z0] at z1; cases z1) (H4.out j hj)

end Go.Proofs.YtjllemjmdbnkjaaGreat
