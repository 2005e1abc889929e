/- The document's acts of package world (corrieref08), one by one. -/
import Derived.Test.YtjllemjmdbnkjaaGreatWRefA
namespace Go.Proofs.YtjllemjmdbnkjaaGreat
open Go.ChangeShapes Go.WideShapes Go.ChangeAt Go.RowKit
set_option maxRecDepth 100000
set_option linter.unusedVariables false
set_option maxHeartbeats 1000000 in
theorem rwSet_any (w : World) (c : Cf) (sl : Sl) (b cap : Nat) (ws : List Int) (n : Int) (i v : Int) (hc : Holds w b ws) (hf : ws.length ≤ 1048576) (hn : 0 ≤ n) (hn' : n < 4611686018427387904) :
    Calls Tryz.prog 31 #[.agg #[.int .i64 c.t, .int .i64 c.b, .int .i64 c.i, .int .i64 c.f, .int .i64 c.k, .slice (some ⟨b, 0, none⟩) ws.length cap, .int .i64 n, .int .i64 c.t, .int .i64 c.b, .int .i64 c.i, .int .i64 c.f, .int .i64 c.k, .slice sl.a1 sl.m1 sl.k1, .slice sl.a2 sl.m2 sl.k2, .slice sl.a3 sl.m3 sl.k3, .slice sl.a4 sl.m4 sl.k4, .slice sl.a5 sl.m5 sl.k5], .int .i64 i, .int .u64 v] w (RW1 c sl b (wr ws (nxtI c i) v) (n + cnt ws (nxtI c i)) w) := by
  obtain ⟨n2, hn2⟩ : ∃ x, n + cnt ws (nxtI c i) = x := ⟨_, rfl⟩
  obtain ⟨ws2, hws⟩ : ∃ x, (wr ws (nxtI c i) v) = x := ⟨_, rfl⟩
  rw [hn2, hws]
  have HN2 := Lib.hid hn2
  have HWS := Lib.hid hws
  clear hn2 hws
  have HC := Lib.hid hc
  clear hc
  have BV := Box.made w [.int .i64 c.t, .int .i64 c.b, .int .i64 c.i, .int .i64 c.f, .int .i64 c.k, .slice (some ⟨b, 0, none⟩) ws.length cap, .int .i64 n, .int .i64 c.t, .int .i64 c.b, .int .i64 c.i, .int .i64 c.f, .int .i64 c.k, .slice sl.a1 sl.m1 sl.k1, .slice sl.a2 sl.m2 sl.k2, .slice sl.a3 sl.m3 sl.k3, .slice sl.a4 sl.m4 sl.k4, .slice sl.a5 sl.m5 sl.k5] 40
  have BZ := Box.made (w.alloc (.cells #[.int .i64 c.t, .int .i64 c.b, .int .i64 c.i, .int .i64 c.f, .int .i64 c.k, .slice (some ⟨b, 0, none⟩) ws.length cap, .int .i64 n, .int .i64 c.t, .int .i64 c.b, .int .i64 c.i, .int .i64 c.f, .int .i64 c.k, .slice sl.a1 sl.m1 sl.k1, .slice sl.a2 sl.m2 sl.k2, .slice sl.a3 sl.m3 sl.k3, .slice sl.a4 sl.m4 sl.k4, .slice sl.a5 sl.m5 sl.k5] 40)) [.int .i64 0, .int .i64 0, .int .i64 0, .int .i64 0, .int .i64 0, .slice none 0 0, .int .i64 0, .int .i64 0, .int .i64 0, .int .i64 0, .int .i64 0, .int .i64 0, .slice none 0 0, .slice none 0 0, .slice none 0 0, .slice none 0 0, .slice none 0 0] 40
  have hsz : (w.alloc (.cells #[.int .i64 c.t, .int .i64 c.b, .int .i64 c.i, .int .i64 c.f, .int .i64 c.k, .slice (some ⟨b, 0, none⟩) ws.length cap, .int .i64 n, .int .i64 c.t, .int .i64 c.b, .int .i64 c.i, .int .i64 c.f, .int .i64 c.k, .slice sl.a1 sl.m1 sl.k1, .slice sl.a2 sl.m2 sl.k2, .slice sl.a3 sl.m3 sl.k3, .slice sl.a4 sl.m4 sl.k4, .slice sl.a5 sl.m5 sl.k5] 40)).heap.size = w.heap.size + 1 := by simp
  rw [hsz] at BZ
  clear hsz
  replace BV := BV.grown (w' := (w.alloc (.cells #[.int .i64 c.t, .int .i64 c.b, .int .i64 c.i, .int .i64 c.f, .int .i64 c.k, .slice (some ⟨b, 0, none⟩) ws.length cap, .int .i64 n, .int .i64 c.t, .int .i64 c.b, .int .i64 c.i, .int .i64 c.f, .int .i64 c.k, .slice sl.a1 sl.m1 sl.k1, .slice sl.a2 sl.m2 sl.k2, .slice sl.a3 sl.m3 sl.k3, .slice sl.a4 sl.m4 sl.k4, .slice sl.a5 sl.m5 sl.k5] 40)).alloc (.cells #[.int .i64 0, .int .i64 0, .int .i64 0, .int .i64 0, .int .i64 0, .slice none 0 0, .int .i64 0, .int .i64 0, .int .i64 0, .int .i64 0, .int .i64 0, .int .i64 0, .slice none 0 0, .slice none 0 0, .slice none 0 0, .slice none 0 0, .slice none 0 0] 40)) (by go_grown)
  have HV := Lib.hid BV
  have HZ := Lib.hid BZ
  clear BV BZ
  go_enter Tryz.func31, Tryz.ntmps31
  go_wp2_with fail
  refine wp_region_plank (fun i => i = w.heap.size) (fun i o => i = w.heap.size ∧ o < 5) (.two [0, 2, 3, 4, 6] 1 (.one [] 5 (.one [] 7 (.one [8] 9 (.fin [])))) 5 (.one [] 1 (.one [] 7 (.one [8] 9 (.fin []))))) (by kernel_rfl) (by kernel_rfl) (by kernel_rfl) ?_
  intro w2 g2
  have V2 := Lib.hid (HV.out.grown g2)
  have d0 : ∀ g : KeptW (fun i => i = w.heap.size) (fun i o => i = w.heap.size ∧ o < 5) w2, g.w.cell? ⟨w.heap.size, 0, none⟩ = some (.int .i64 c.t) := KeptW.cell ⟨rfl, by omega⟩ (V2.out.cell 0 _ rfl)
  have d1 : ∀ g : KeptW (fun i => i = w.heap.size) (fun i o => i = w.heap.size ∧ o < 5) w2, g.w.cell? ⟨w.heap.size, 1, none⟩ = some (.int .i64 c.b) := KeptW.cell ⟨rfl, by omega⟩ (V2.out.cell 1 _ rfl)
  have d2 : ∀ g : KeptW (fun i => i = w.heap.size) (fun i o => i = w.heap.size ∧ o < 5) w2, g.w.cell? ⟨w.heap.size, 2, none⟩ = some (.int .i64 c.i) := KeptW.cell ⟨rfl, by omega⟩ (V2.out.cell 2 _ rfl)
  have d3 : ∀ g : KeptW (fun i => i = w.heap.size) (fun i o => i = w.heap.size ∧ o < 5) w2, g.w.cell? ⟨w.heap.size, 3, none⟩ = some (.int .i64 c.f) := KeptW.cell ⟨rfl, by omega⟩ (V2.out.cell 3 _ rfl)
  have d4 : ∀ g : KeptW (fun i => i = w.heap.size) (fun i o => i = w.heap.size ∧ o < 5) w2, g.w.cell? ⟨w.heap.size, 4, none⟩ = some (.int .i64 c.k) := KeptW.cell ⟨rfl, by omega⟩ (V2.out.cell 4 _ rfl)
  refine plan_two ?_
  simp only [nths, nth, List.map_cons, List.map_nil, List.getD_cons_zero, List.getD_cons_succ]
  repeat go_big_quiet_step (fail)
  clear d0 d1 d2 d3 d4
  refine wpQuiet_nil ⟨?_, ?_⟩
  · have c5 := V2.out.cell 5 _ rfl
    have c6 := V2.out.cell 6 _ rfl
    go_wp2_with fail
    refine nxt_keptg (Grown.refl _) (plan_one ?_)
    simp only [nths, nth, List.map_nil, List.getD_cons_zero, List.getD_cons_succ]
    refine wpQuiet_nil ?_
    clear c5 c6
    go_wp2_with fail
    refine (rNext_at _ _ _ _ _ _ _ _ rfl).mono ?_; rintro e w3 ⟨rfl, g3⟩
    rw [show vNext ↑c.t ↑c.b ↑c.i ↑c.f ↑c.k i = nxtI c i from rfl]
    go_wp2_with fail
    refine nxt_keptg g3 (plan_one ?_)
    simp only [nths, nth, List.map_nil, List.getD_cons_zero, List.getD_cons_succ]
    refine wpQuiet_nil ?_
    go_wp2_with fail
    have G3 : Grown w w3 := gtr (by go_grown) (gtr g2 g3)
    refine (rStore_any _ b cap ws n (nxtI c i) v (HC.out.grown G3) hf hn hn').mono ?_; rintro e w4 ⟨b2, cap2, rfl, g4, h4, hb⟩
    rw [HWS.out] at h4
    have H4 := Lib.hid h4
    have HB : Hid (b2 = b ∨ w.heap.size ≤ b2) := Lib.hid (hb.imp id (Nat.le_trans G3.2.2))
    have V4 := Lib.hid (V2.out.grown (gtr g3 g4))
    have Z4 := Lib.hid (HZ.out.grown (gtr g2 (gtr g3 g4)))
    have hz := HZ.out.lt
    clear h4 hb
    rw [HN2.out, HWS.out]
    go_wp2_with fail
    refine nxt_keptg (gtr g3 g4) (plan_one ?_)
    simp only [nths, nth, List.map_cons, List.map_nil, List.getD_cons_zero, List.getD_cons_succ]
    repeat go_big_quiet_step (fail)
    refine wpQuiet_nil ?_
    go_wp2_with (first | (refine store_part rfl 33 _ _ rfl w.heap.size 5 rfl #[.slice (some ⟨b2, 0, none⟩) ws2.length cap2, .int .i64 n2] rfl [.int .i64 c.t, .int .i64 c.b, .int .i64 c.i, .int .i64 c.f, .int .i64 c.k, .slice (some ⟨b, 0, none⟩) ws.length cap, .int .i64 n, .int .i64 c.t, .int .i64 c.b, .int .i64 c.i, .int .i64 c.f, .int .i64 c.k, .slice sl.a1 sl.m1 sl.k1, .slice sl.a2 sl.m2 sl.k2, .slice sl.a3 sl.m3 sl.k3, .slice sl.a4 sl.m4 sl.k4, .slice sl.a5 sl.m5 sl.k5] [.int .i64 c.t, .int .i64 c.b, .int .i64 c.i, .int .i64 c.f, .int .i64 c.k, .slice (some ⟨b2, 0, none⟩) ws2.length cap2, .int .i64 n2, .int .i64 c.t, .int .i64 c.b, .int .i64 c.i, .int .i64 c.f, .int .i64 c.k, .slice sl.a1 sl.m1 sl.k1, .slice sl.a2 sl.m2 sl.k2, .slice sl.a3 sl.m3 sl.k3, .slice sl.a4 sl.m4 sl.k4, .slice sl.a5 sl.m5 sl.k5] ?_ (Nat.le_of_ble_eq_true rfl) (by kernel_rfl) rfl rfl ?_; exact V4.out; intro w5 B5 q5; have V5 := Lib.hid B5; clear B5) | fail)
    refine nxt_kept ((But.of_grown (gtr g3 g4)).trans q5) (Box.keep (n := 5) V2.out V5.out rfl (Nat.le_of_ble_eq_true rfl)) (plan_fin ?_)
    simp only [nths, List.map_nil]
    refine wpQuiet_nil ?_
    go_wp2_with (first | (refine load_box rfl 40 _ rfl (w.heap.size) rfl [.int .i64 c.t, .int .i64 c.b, .int .i64 c.i, .int .i64 c.f, .int .i64 c.k, .slice (some ⟨b2, 0, none⟩) ws2.length cap2, .int .i64 n2, .int .i64 c.t, .int .i64 c.b, .int .i64 c.i, .int .i64 c.f, .int .i64 c.k, .slice sl.a1 sl.m1 sl.k1, .slice sl.a2 sl.m2 sl.k2, .slice sl.a3 sl.m3 sl.k3, .slice sl.a4 sl.m4 sl.k4, .slice sl.a5 sl.m5 sl.k5] _ Tryz.underlying40 rfl (by kernel_rfl) ?_ ?_; exact V5.out) | (refine store_box rfl 40 _ _ rfl (w.heap.size + 1) [.int .i64 0, .int .i64 0, .int .i64 0, .int .i64 0, .int .i64 0, .slice none 0 0, .int .i64 0, .int .i64 0, .int .i64 0, .int .i64 0, .int .i64 0, .int .i64 0, .slice none 0 0, .slice none 0 0, .slice none 0 0, .slice none 0 0, .slice none 0 0] ?_ #[.int .i64 c.t, .int .i64 c.b, .int .i64 c.i, .int .i64 c.f, .int .i64 c.k, .slice (some ⟨b2, 0, none⟩) ws2.length cap2, .int .i64 n2, .int .i64 c.t, .int .i64 c.b, .int .i64 c.i, .int .i64 c.f, .int .i64 c.k, .slice sl.a1 sl.m1 sl.k1, .slice sl.a2 sl.m2 sl.k2, .slice sl.a3 sl.m3 sl.k3, .slice sl.a4 sl.m4 sl.k4, .slice sl.a5 sl.m5 sl.k5] rfl rfl rfl (by kernel_rfl) rfl ?_; exact (Z4.out.but q5 (by omega)); intro w6 B6 q6; have Z6 := Lib.hid B6; clear B6) | fail)
    refine bodyPost_ret (results_c Tryz.results31 rfl (Z6.out.w17 rfl)) rfl ⟨b2, cap2, rfl, ?_, ?_, HB.out⟩
    · exact But.fresh (But.fresh (gtr G3 g4) q5 (fun i hi => by rw [hi]; omega)) q6 (fun i hi => by rw [hi]; omega)
    · exact fun j hj => q6.cell (by intro hx; have z0 := Z4.out.cell 0 _ rfl; have z1 := H4.out 0 (by omega); rw [hx, z0] at z1; cases z1) (q5.cell (by intro hx; have z0 := V4.out.cell 0 _ rfl; have z1 := H4.out 0 (by omega); rw [hx, z0] at z1; cases z1) (H4.out j hj))
  · go_wp2_with fail
    refine (rNext_at _ _ _ _ _ _ _ _ rfl).mono ?_; rintro e w3 ⟨rfl, g3⟩
    rw [show vNext ↑c.t ↑c.b ↑c.i ↑c.f ↑c.k i = nxtI c i from rfl]
    go_wp2_with fail
    refine nxt_keptg g3 (plan_one ?_)
    simp only [nths, nth, List.map_nil, List.getD_cons_zero, List.getD_cons_succ]
    refine wpQuiet_nil ?_
    have c5 := (V2.out.grown g3).cell 5 _ rfl
    have c6 := (V2.out.grown g3).cell 6 _ rfl
    go_wp2_with fail
    refine nxt_keptg g3 (plan_one ?_)
    simp only [nths, nth, List.map_nil, List.getD_cons_zero, List.getD_cons_succ]
    refine wpQuiet_nil ?_
    go_wp2_with fail
    have G3 : Grown w w3 := gtr (by go_grown) (gtr g2 g3)
    refine (rStore_any _ b cap ws n (nxtI c i) v (HC.out.grown G3) hf hn hn').mono ?_; rintro e w4 ⟨b2, cap2, rfl, g4, h4, hb⟩
    rw [HWS.out] at h4
    have H4 := Lib.hid h4
    have HB : Hid (b2 = b ∨ w.heap.size ≤ b2) := Lib.hid (hb.imp id (Nat.le_trans G3.2.2))
    have V4 := Lib.hid (V2.out.grown (gtr g3 g4))
    have Z4 := Lib.hid (HZ.out.grown (gtr g2 (gtr g3 g4)))
    have hz := HZ.out.lt
    clear h4 hb
    rw [HN2.out, HWS.out]
    go_wp2_with fail
    refine nxt_keptg (gtr g3 g4) (plan_one ?_)
    simp only [nths, nth, List.map_cons, List.map_nil, List.getD_cons_zero, List.getD_cons_succ]
    repeat go_big_quiet_step (fail)
    refine wpQuiet_nil ?_
    go_wp2_with (first | (refine store_part rfl 33 _ _ rfl w.heap.size 5 rfl #[.slice (some ⟨b2, 0, none⟩) ws2.length cap2, .int .i64 n2] rfl [.int .i64 c.t, .int .i64 c.b, .int .i64 c.i, .int .i64 c.f, .int .i64 c.k, .slice (some ⟨b, 0, none⟩) ws.length cap, .int .i64 n, .int .i64 c.t, .int .i64 c.b, .int .i64 c.i, .int .i64 c.f, .int .i64 c.k, .slice sl.a1 sl.m1 sl.k1, .slice sl.a2 sl.m2 sl.k2, .slice sl.a3 sl.m3 sl.k3, .slice sl.a4 sl.m4 sl.k4, .slice sl.a5 sl.m5 sl.k5] [.int .i64 c.t, .int .i64 c.b, .int .i64 c.i, .int .i64 c.f, .int .i64 c.k, .slice (some ⟨b2, 0, none⟩) ws2.length cap2, .int .i64 n2, .int .i64 c.t, .int .i64 c.b, .int .i64 c.i, .int .i64 c.f, .int .i64 c.k, .slice sl.a1 sl.m1 sl.k1, .slice sl.a2 sl.m2 sl.k2, .slice sl.a3 sl.m3 sl.k3, .slice sl.a4 sl.m4 sl.k4, .slice sl.a5 sl.m5 sl.k5] ?_ (Nat.le_of_ble_eq_true rfl) (by kernel_rfl) rfl rfl ?_; exact V4.out; intro w5 B5 q5; have V5 := Lib.hid B5; clear B5) | fail)
    refine nxt_kept ((But.of_grown (gtr g3 g4)).trans q5) (Box.keep (n := 5) V2.out V5.out rfl (Nat.le_of_ble_eq_true rfl)) (plan_fin ?_)
    simp only [nths, List.map_nil]
    refine wpQuiet_nil ?_
    go_wp2_with (first | (refine load_box rfl 40 _ rfl (w.heap.size) rfl [.int .i64 c.t, .int .i64 c.b, .int .i64 c.i, .int .i64 c.f, .int .i64 c.k, .slice (some ⟨b2, 0, none⟩) ws2.length cap2, .int .i64 n2, .int .i64 c.t, .int .i64 c.b, .int .i64 c.i, .int .i64 c.f, .int .i64 c.k, .slice sl.a1 sl.m1 sl.k1, .slice sl.a2 sl.m2 sl.k2, .slice sl.a3 sl.m3 sl.k3, .slice sl.a4 sl.m4 sl.k4, .slice sl.a5 sl.m5 sl.k5] _ Tryz.underlying40 rfl (by kernel_rfl) ?_ ?_; exact V5.out) | (refine store_box rfl 40 _ _ rfl (w.heap.size + 1) [.int .i64 0, .int .i64 0, .int .i64 0, .int .i64 0, .int .i64 0, .slice none 0 0, .int .i64 0, .int .i64 0, .int .i64 0, .int .i64 0, .int .i64 0, .int .i64 0, .slice none 0 0, .slice none 0 0, .slice none 0 0, .slice none 0 0, .slice none 0 0] ?_ #[.int .i64 c.t, .int .i64 c.b, .int .i64 c.i, .int .i64 c.f, .int .i64 c.k, .slice (some ⟨b2, 0, none⟩) ws2.length cap2, .int .i64 n2, .int .i64 c.t, .int .i64 c.b, .int .i64 c.i, .int .i64 c.f, .int .i64 c.k, .slice sl.a1 sl.m1 sl.k1, .slice sl.a2 sl.m2 sl.k2, .slice sl.a3 sl.m3 sl.k3, .slice sl.a4 sl.m4 sl.k4, .slice sl.a5 sl.m5 sl.k5] rfl rfl rfl (by kernel_rfl) rfl ?_; exact (Z4.out.but q5 (by omega)); intro w6 B6 q6; have Z6 := Lib.hid B6; clear B6) | fail)
    refine bodyPost_ret (results_c Tryz.results31 rfl (Z6.out.w17 rfl)) rfl ⟨b2, cap2, rfl, ?_, ?_, HB.out⟩
    · exact But.fresh (But.fresh (gtr G3 g4) q5 (fun i hi => by rw [hi]; omega)) q6 (fun i hi => by rw [hi]; omega)
    · exact fun j hj => q6.cell (by intro hx; have z0 := Z4.out.cell 0 _ rfl; have z1 := H4.out 0 (by omega); rw [hx, z0] at z1; cases z1) (q5.cell (by intro hx; have z0 := V4.out.cell 0 _ rfl; have z1 := H4.out 0 (by omega); rw [hx, z0] at z1; cases z1) (H4.out j hj))

set_option maxHeartbeats 1000000 in
theorem rwSay_any (w : World) (c : Cf) (sl : Sl) (b cap : Nat) (ws : List Int) (n : Int) (i v : Int) (hc : Holds w b ws) (hf : ws.length ≤ 1048576) (hn : 0 ≤ n) (hn' : n < 4611686018427387904) (v0 : -1 ≤ v) (v1 : v ≤ 65534) :
    Calls Tryz.prog 35 #[.agg #[.int .i64 c.t, .int .i64 c.b, .int .i64 c.i, .int .i64 c.f, .int .i64 c.k, .slice (some ⟨b, 0, none⟩) ws.length cap, .int .i64 n, .int .i64 c.t, .int .i64 c.b, .int .i64 c.i, .int .i64 c.f, .int .i64 c.k, .slice sl.a1 sl.m1 sl.k1, .slice sl.a2 sl.m2 sl.k2, .slice sl.a3 sl.m3 sl.k3, .slice sl.a4 sl.m4 sl.k4, .slice sl.a5 sl.m5 sl.k5], .int .i64 i, .int .i64 v] w (RW1 c sl b (wr ws (annI c i) (wdOf v)) (n + cnt ws (annI c i)) w) := by
  rw [show wdOf v = v + 1 from by unfold wdOf; simp [IntKind.wrap, IntKind.signed, IntKind.bits]; omega]
  obtain ⟨n2, hn2⟩ : ∃ x, n + cnt ws (annI c i) = x := ⟨_, rfl⟩
  obtain ⟨ws2, hws⟩ : ∃ x, (wr ws (annI c i) (v + 1)) = x := ⟨_, rfl⟩
  rw [hn2, hws]
  have HN2 := Lib.hid hn2
  have HWS := Lib.hid hws
  clear hn2 hws
  have HC := Lib.hid hc
  clear hc
  have BV := Box.made w [.int .i64 c.t, .int .i64 c.b, .int .i64 c.i, .int .i64 c.f, .int .i64 c.k, .slice (some ⟨b, 0, none⟩) ws.length cap, .int .i64 n, .int .i64 c.t, .int .i64 c.b, .int .i64 c.i, .int .i64 c.f, .int .i64 c.k, .slice sl.a1 sl.m1 sl.k1, .slice sl.a2 sl.m2 sl.k2, .slice sl.a3 sl.m3 sl.k3, .slice sl.a4 sl.m4 sl.k4, .slice sl.a5 sl.m5 sl.k5] 40
  have BZ := Box.made (w.alloc (.cells #[.int .i64 c.t, .int .i64 c.b, .int .i64 c.i, .int .i64 c.f, .int .i64 c.k, .slice (some ⟨b, 0, none⟩) ws.length cap, .int .i64 n, .int .i64 c.t, .int .i64 c.b, .int .i64 c.i, .int .i64 c.f, .int .i64 c.k, .slice sl.a1 sl.m1 sl.k1, .slice sl.a2 sl.m2 sl.k2, .slice sl.a3 sl.m3 sl.k3, .slice sl.a4 sl.m4 sl.k4, .slice sl.a5 sl.m5 sl.k5] 40)) [.int .i64 0, .int .i64 0, .int .i64 0, .int .i64 0, .int .i64 0, .slice none 0 0, .int .i64 0, .int .i64 0, .int .i64 0, .int .i64 0, .int .i64 0, .int .i64 0, .slice none 0 0, .slice none 0 0, .slice none 0 0, .slice none 0 0, .slice none 0 0] 40
  have hsz : (w.alloc (.cells #[.int .i64 c.t, .int .i64 c.b, .int .i64 c.i, .int .i64 c.f, .int .i64 c.k, .slice (some ⟨b, 0, none⟩) ws.length cap, .int .i64 n, .int .i64 c.t, .int .i64 c.b, .int .i64 c.i, .int .i64 c.f, .int .i64 c.k, .slice sl.a1 sl.m1 sl.k1, .slice sl.a2 sl.m2 sl.k2, .slice sl.a3 sl.m3 sl.k3, .slice sl.a4 sl.m4 sl.k4, .slice sl.a5 sl.m5 sl.k5] 40)).heap.size = w.heap.size + 1 := by simp
  rw [hsz] at BZ
  clear hsz
  replace BV := BV.grown (w' := (w.alloc (.cells #[.int .i64 c.t, .int .i64 c.b, .int .i64 c.i, .int .i64 c.f, .int .i64 c.k, .slice (some ⟨b, 0, none⟩) ws.length cap, .int .i64 n, .int .i64 c.t, .int .i64 c.b, .int .i64 c.i, .int .i64 c.f, .int .i64 c.k, .slice sl.a1 sl.m1 sl.k1, .slice sl.a2 sl.m2 sl.k2, .slice sl.a3 sl.m3 sl.k3, .slice sl.a4 sl.m4 sl.k4, .slice sl.a5 sl.m5 sl.k5] 40)).alloc (.cells #[.int .i64 0, .int .i64 0, .int .i64 0, .int .i64 0, .int .i64 0, .slice none 0 0, .int .i64 0, .int .i64 0, .int .i64 0, .int .i64 0, .int .i64 0, .int .i64 0, .slice none 0 0, .slice none 0 0, .slice none 0 0, .slice none 0 0, .slice none 0 0] 40)) (by go_grown)
  have HV := Lib.hid BV
  have HZ := Lib.hid BZ
  clear BV BZ
  go_enter Tryz.func35, Tryz.ntmps35
  go_wp2_with fail
  refine wp_region_plank (fun i => i = w.heap.size) (fun i o => i = w.heap.size ∧ o < 5) (.two [0, 2, 3, 4, 6, 7, 8] 1 (.one [] 5 (.one [] 9 (.one [10] 11 (.fin [])))) 5 (.one [] 1 (.one [] 9 (.one [10] 11 (.fin []))))) (by kernel_rfl) (by kernel_rfl) (by kernel_rfl) ?_
  intro w2 g2
  have V2 := Lib.hid (HV.out.grown g2)
  have d0 : ∀ g : KeptW (fun i => i = w.heap.size) (fun i o => i = w.heap.size ∧ o < 5) w2, g.w.cell? ⟨w.heap.size, 0, none⟩ = some (.int .i64 c.t) := KeptW.cell ⟨rfl, by omega⟩ (V2.out.cell 0 _ rfl)
  have d1 : ∀ g : KeptW (fun i => i = w.heap.size) (fun i o => i = w.heap.size ∧ o < 5) w2, g.w.cell? ⟨w.heap.size, 1, none⟩ = some (.int .i64 c.b) := KeptW.cell ⟨rfl, by omega⟩ (V2.out.cell 1 _ rfl)
  have d2 : ∀ g : KeptW (fun i => i = w.heap.size) (fun i o => i = w.heap.size ∧ o < 5) w2, g.w.cell? ⟨w.heap.size, 2, none⟩ = some (.int .i64 c.i) := KeptW.cell ⟨rfl, by omega⟩ (V2.out.cell 2 _ rfl)
  have d3 : ∀ g : KeptW (fun i => i = w.heap.size) (fun i o => i = w.heap.size ∧ o < 5) w2, g.w.cell? ⟨w.heap.size, 3, none⟩ = some (.int .i64 c.f) := KeptW.cell ⟨rfl, by omega⟩ (V2.out.cell 3 _ rfl)
  have d4 : ∀ g : KeptW (fun i => i = w.heap.size) (fun i o => i = w.heap.size ∧ o < 5) w2, g.w.cell? ⟨w.heap.size, 4, none⟩ = some (.int .i64 c.k) := KeptW.cell ⟨rfl, by omega⟩ (V2.out.cell 4 _ rfl)
  refine plan_two ?_
  simp only [nths, nth, List.map_cons, List.map_nil, List.getD_cons_zero, List.getD_cons_succ]
  repeat go_big_quiet_step (fail)
  clear d0 d1 d2 d3 d4
  refine wpQuiet_nil ⟨?_, ?_⟩
  · have c5 := V2.out.cell 5 _ rfl
    have c6 := V2.out.cell 6 _ rfl
    go_wp2_with fail
    refine nxt_keptg (Grown.refl _) (plan_one ?_)
    simp only [nths, nth, List.map_nil, List.getD_cons_zero, List.getD_cons_succ]
    refine wpQuiet_nil ?_
    clear c5 c6
    go_wp2_with fail
    refine (rAnn_at _ _ _ _ _ _ _ _ rfl).mono ?_; rintro e w3 ⟨rfl, g3⟩
    rw [show vAnn ↑c.t ↑c.b ↑c.i ↑c.f ↑c.k i = annI c i from rfl]
    go_wp2_with fail
    refine nxt_keptg g3 (plan_one ?_)
    simp only [nths, nth, List.map_nil, List.getD_cons_zero, List.getD_cons_succ]
    refine wpQuiet_nil ?_
    go_wp2_with fail
    have G3 : Grown w w3 := gtr (by go_grown) (gtr g2 g3)
    refine (rStore_any _ b cap ws n (annI c i) (v + 1) (HC.out.grown G3) hf hn hn').mono ?_; rintro e w4 ⟨b2, cap2, rfl, g4, h4, hb⟩
    rw [HWS.out] at h4
    have H4 := Lib.hid h4
    have HB : Hid (b2 = b ∨ w.heap.size ≤ b2) := Lib.hid (hb.imp id (Nat.le_trans G3.2.2))
    have V4 := Lib.hid (V2.out.grown (gtr g3 g4))
    have Z4 := Lib.hid (HZ.out.grown (gtr g2 (gtr g3 g4)))
    have hz := HZ.out.lt
    clear h4 hb
    rw [HN2.out, HWS.out]
    go_wp2_with fail
    refine nxt_keptg (gtr g3 g4) (plan_one ?_)
    simp only [nths, nth, List.map_cons, List.map_nil, List.getD_cons_zero, List.getD_cons_succ]
    repeat go_big_quiet_step (fail)
    refine wpQuiet_nil ?_
    go_wp2_with (first | (refine store_part rfl 33 _ _ rfl w.heap.size 5 rfl #[.slice (some ⟨b2, 0, none⟩) ws2.length cap2, .int .i64 n2] rfl [.int .i64 c.t, .int .i64 c.b, .int .i64 c.i, .int .i64 c.f, .int .i64 c.k, .slice (some ⟨b, 0, none⟩) ws.length cap, .int .i64 n, .int .i64 c.t, .int .i64 c.b, .int .i64 c.i, .int .i64 c.f, .int .i64 c.k, .slice sl.a1 sl.m1 sl.k1, .slice sl.a2 sl.m2 sl.k2, .slice sl.a3 sl.m3 sl.k3, .slice sl.a4 sl.m4 sl.k4, .slice sl.a5 sl.m5 sl.k5] [.int .i64 c.t, .int .i64 c.b, .int .i64 c.i, .int .i64 c.f, .int .i64 c.k, .slice (some ⟨b2, 0, none⟩) ws2.length cap2, .int .i64 n2, .int .i64 c.t, .int .i64 c.b, .int .i64 c.i, .int .i64 c.f, .int .i64 c.k, .slice sl.a1 sl.m1 sl.k1, .slice sl.a2 sl.m2 sl.k2, .slice sl.a3 sl.m3 sl.k3, .slice sl.a4 sl.m4 sl.k4, .slice sl.a5 sl.m5 sl.k5] ?_ (Nat.le_of_ble_eq_true rfl) (by kernel_rfl) rfl rfl ?_; exact V4.out; intro w5 B5 q5; have V5 := Lib.hid B5; clear B5) | fail)
    refine nxt_kept ((But.of_grown (gtr g3 g4)).trans q5) (Box.keep (n := 5) V2.out V5.out rfl (Nat.le_of_ble_eq_true rfl)) (plan_fin ?_)
    simp only [nths, List.map_nil]
    refine wpQuiet_nil ?_
    go_wp2_with (first | (refine load_box rfl 40 _ rfl (w.heap.size) rfl [.int .i64 c.t, .int .i64 c.b, .int .i64 c.i, .int .i64 c.f, .int .i64 c.k, .slice (some ⟨b2, 0, none⟩) ws2.length cap2, .int .i64 n2, .int .i64 c.t, .int .i64 c.b, .int .i64 c.i, .int .i64 c.f, .int .i64 c.k, .slice sl.a1 sl.m1 sl.k1, .slice sl.a2 sl.m2 sl.k2, .slice sl.a3 sl.m3 sl.k3, .slice sl.a4 sl.m4 sl.k4, .slice sl.a5 sl.m5 sl.k5] _ Tryz.underlying40 rfl (by kernel_rfl) ?_ ?_; exact V5.out) | (refine store_box rfl 40 _ _ rfl (w.heap.size + 1) [.int .i64 0, .int .i64 0, .int .i64 0, .int .i64 0, .int .i64 0, .slice none 0 0, .int .i64 0, .int .i64 0, .int .i64 0, .int .i64 0, .int .i64 0, .int .i64 0, .slice none 0 0, .slice none 0 0, .slice none 0 0, .slice none 0 0, .slice none 0 0] ?_ #[.int .i64 c.t, .int .i64 c.b, .int .i64 c.i, .int .i64 c.f, .int .i64 c.k, .slice (some ⟨b2, 0, none⟩) ws2.length cap2, .int .i64 n2, .int .i64 c.t, .int .i64 c.b, .int .i64 c.i, .int .i64 c.f, .int .i64 c.k, .slice sl.a1 sl.m1 sl.k1, .slice sl.a2 sl.m2 sl.k2, .slice sl.a3 sl.m3 sl.k3, .slice sl.a4 sl.m4 sl.k4, .slice sl.a5 sl.m5 sl.k5] rfl rfl rfl (by kernel_rfl) rfl ?_; exact (Z4.out.but q5 (by omega)); intro w6 B6 q6; have Z6 := Lib.hid B6; clear B6) | fail)
    refine bodyPost_ret (results_c Tryz.results35 rfl (Z6.out.w17 rfl)) rfl ⟨b2, cap2, rfl, ?_, ?_, HB.out⟩
    · exact But.fresh (But.fresh (gtr G3 g4) q5 (fun i hi => by rw [hi]; omega)) q6 (fun i hi => by rw [hi]; omega)
    · exact fun j hj => q6.cell (by intro hx; have z0 := Z4.out.cell 0 _ rfl; have z1 := H4.out 0 (by omega); rw [hx, z0] at z1; cases z1) (q5.cell (by intro hx; have z0 := V4.out.cell 0 _ rfl; have z1 := H4.out 0 (by omega); rw [hx, z0] at z1; cases z1) (H4.out j hj))
  · go_wp2_with fail
    refine (rAnn_at _ _ _ _ _ _ _ _ rfl).mono ?_; rintro e w3 ⟨rfl, g3⟩
    rw [show vAnn ↑c.t ↑c.b ↑c.i ↑c.f ↑c.k i = annI c i from rfl]
    go_wp2_with fail
    refine nxt_keptg g3 (plan_one ?_)
    simp only [nths, nth, List.map_nil, List.getD_cons_zero, List.getD_cons_succ]
    refine wpQuiet_nil ?_
    have c5 := (V2.out.grown g3).cell 5 _ rfl
    have c6 := (V2.out.grown g3).cell 6 _ rfl
    go_wp2_with fail
    refine nxt_keptg g3 (plan_one ?_)
    simp only [nths, nth, List.map_nil, List.getD_cons_zero, List.getD_cons_succ]
    refine wpQuiet_nil ?_
    go_wp2_with fail
    have G3 : Grown w w3 := gtr (by go_grown) (gtr g2 g3)
    refine (rStore_any _ b cap ws n (annI c i) (v + 1) (HC.out.grown G3) hf hn hn').mono ?_; rintro e w4 ⟨b2, cap2, rfl, g4, h4, hb⟩
    rw [HWS.out] at h4
    have H4 := Lib.hid h4
    have HB : Hid (b2 = b ∨ w.heap.size ≤ b2) := Lib.hid (hb.imp id (Nat.le_trans G3.2.2))
    have V4 := Lib.hid (V2.out.grown (gtr g3 g4))
    have Z4 := Lib.hid (HZ.out.grown (gtr g2 (gtr g3 g4)))
    have hz := HZ.out.lt
    clear h4 hb
    rw [HN2.out, HWS.out]
    go_wp2_with fail
    refine nxt_keptg (gtr g3 g4) (plan_one ?_)
    simp only [nths, nth, List.map_cons, List.map_nil, List.getD_cons_zero, List.getD_cons_succ]
    repeat go_big_quiet_step (fail)
    refine wpQuiet_nil ?_
    go_wp2_with (first | (refine store_part rfl 33 _ _ rfl w.heap.size 5 rfl #[.slice (some ⟨b2, 0, none⟩) ws2.length cap2, .int .i64 n2] rfl [.int .i64 c.t, .int .i64 c.b, .int .i64 c.i, .int .i64 c.f, .int .i64 c.k, .slice (some ⟨b, 0, none⟩) ws.length cap, .int .i64 n, .int .i64 c.t, .int .i64 c.b, .int .i64 c.i, .int .i64 c.f, .int .i64 c.k, .slice sl.a1 sl.m1 sl.k1, .slice sl.a2 sl.m2 sl.k2, .slice sl.a3 sl.m3 sl.k3, .slice sl.a4 sl.m4 sl.k4, .slice sl.a5 sl.m5 sl.k5] [.int .i64 c.t, .int .i64 c.b, .int .i64 c.i, .int .i64 c.f, .int .i64 c.k, .slice (some ⟨b2, 0, none⟩) ws2.length cap2, .int .i64 n2, .int .i64 c.t, .int .i64 c.b, .int .i64 c.i, .int .i64 c.f, .int .i64 c.k, .slice sl.a1 sl.m1 sl.k1, .slice sl.a2 sl.m2 sl.k2, .slice sl.a3 sl.m3 sl.k3, .slice sl.a4 sl.m4 sl.k4, .slice sl.a5 sl.m5 sl.k5] ?_ (Nat.le_of_ble_eq_true rfl) (by kernel_rfl) rfl rfl ?_; exact V4.out; intro w5 B5 q5; have V5 := Lib.hid B5; clear B5) | fail)
    refine nxt_kept ((But.of_grown (gtr g3 g4)).trans q5) (Box.keep (n := 5) V2.out V5.out rfl (Nat.le_of_ble_eq_true rfl)) (plan_fin ?_)
    simp only [nths, List.map_nil]
    refine wpQuiet_nil ?_
    go_wp2_with (first | (refine load_box rfl 40 _ rfl (w.heap.size) rfl [.int .i64 c.t, .int .i64 c.b, .int .i64 c.i, .int .i64 c.f, .int .i64 c.k, .slice (some ⟨b2, 0, none⟩) ws2.length cap2, .int .i64 n2, .int .i64 c.t, .int .i64 c.b, .int .i64 c.i, .int .i64 c.f, .int .i64 c.k, .slice sl.a1 sl.m1 sl.k1, .slice sl.a2 sl.m2 sl.k2, .slice sl.a3 sl.m3 sl.k3, .slice sl.a4 sl.m4 sl.k4, .slice sl.a5 sl.m5 sl.k5] _ Tryz.underlying40 rfl (by kernel_rfl) ?_ ?_; exact V5.out) | (refine store_box rfl 40 _ _ rfl (w.heap.size + 1) [.int .i64 0, .int .i64 0, .int .i64 0, .int .i64 0, .int .i64 0, .slice none 0 0, .int .i64 0, .int .i64 0, .int .i64 0, .int .i64 0, .int .i64 0, .int .i64 0, .slice none 0 0, .slice none 0 0, .slice none 0 0, .slice none 0 0, .slice none 0 0] ?_ #[.int .i64 c.t, .int .i64 c.b, .int .i64 c.i, .int .i64 c.f, .int .i64 c.k, .slice (some ⟨b2, 0, none⟩) ws2.length cap2, .int .i64 n2, .int .i64 c.t, .int .i64 c.b, .int .i64 c.i, .int .i64 c.f, .int .i64 c.k, .slice sl.a1 sl.m1 sl.k1, .slice sl.a2 sl.m2 sl.k2, .slice sl.a3 sl.m3 sl.k3, .slice sl.a4 sl.m4 sl.k4, .slice sl.a5 sl.m5 sl.k5] rfl rfl rfl (by kernel_rfl) rfl ?_; exact (Z4.out.but q5 (by omega)); intro w6 B6 q6; have Z6 := Lib.hid B6; clear B6) | fail)
    refine bodyPost_ret (results_c Tryz.results35 rfl (Z6.out.w17 rfl)) rfl ⟨b2, cap2, rfl, ?_, ?_, HB.out⟩
    · exact But.fresh (But.fresh (gtr G3 g4) q5 (fun i hi => by rw [hi]; omega)) q6 (fun i hi => by rw [hi]; omega)
    · exact fun j hj => q6.cell (by intro hx; have z0 := Z4.out.cell 0 _ rfl; have z1 := H4.out 0 (by omega); rw [hx, z0] at z1; cases z1) (q5.cell (by intro hx; have z0 := V4.out.cell 0 _ rfl; have z1 := H4.out 0 (by omega); rw [hx, z0] at z1; cases z1) (H4.out j hj))

end Go.Proofs.YtjllemjmdbnkjaaGreat
