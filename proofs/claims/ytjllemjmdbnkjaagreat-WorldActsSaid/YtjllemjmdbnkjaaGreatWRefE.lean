/- The document's acts of package world (corrieref08): Do. -/
import Derived.Test.YtjllemjmdbnkjaaGreatWRefB
import Derived.Test.YtjllemjmdbnkjaaGreatWRefC
import Derived.Test.YtjllemjmdbnkjaaGreatWRefD
namespace Go.Proofs.YtjllemjmdbnkjaaGreat
open Go.ChangeShapes Go.WideShapes Go.ChangeAt Go.RowKit
set_option maxRecDepth 100000
set_option linter.unusedVariables false

set_option maxHeartbeats 8000000 in
theorem rwDo_any (w : World) (c : Cf) (sl : Sl) (b cap : Nat) (ws : List Int) (n : Int) (k i op old v : Int) (hc : Holds w b ws) (hf : ws.length ≤ 1048576) (hn : 0 ≤ n) (hn' : n < 4611686018427387904) (k0 : 0 ≤ k) (k1 : k ≤ 255) (o0 : 0 ≤ op) (o1 : op ≤ 65535) :
    Calls Tryz.prog 9 #[.agg #[.int .i64 c.t, .int .i64 c.b, .int .i64 c.i, .int .i64 c.f, .int .i64 c.k, .slice (some ⟨b, 0, none⟩) ws.length cap, .int .i64 n, .int .i64 c.t, .int .i64 c.b, .int .i64 c.i, .int .i64 c.f, .int .i64 c.k, .slice sl.a1 sl.m1 sl.k1, .slice sl.a2 sl.m2 sl.k2, .slice sl.a3 sl.m3 sl.k3, .slice sl.a4 sl.m4 sl.k4, .slice sl.a5 sl.m5 sl.k5], AcV k i op old v] w (RW3 c sl b (acW c ws k i op old v) (n + cnt ws (plI c k i)) (acR c ws k i) (acB c ws k i old) (acT c ws k i) w) := by
  have HC := Lib.hid hc
  clear hc
  unfold AcV
  have BV := Box.made w [.int .i64 c.t, .int .i64 c.b, .int .i64 c.i, .int .i64 c.f, .int .i64 c.k, .slice (some ⟨b, 0, none⟩) ws.length cap, .int .i64 n, .int .i64 c.t, .int .i64 c.b, .int .i64 c.i, .int .i64 c.f, .int .i64 c.k, .slice sl.a1 sl.m1 sl.k1, .slice sl.a2 sl.m2 sl.k2, .slice sl.a3 sl.m3 sl.k3, .slice sl.a4 sl.m4 sl.k4, .slice sl.a5 sl.m5 sl.k5] 40
  have BZ := Box.made ((w.alloc (.cells #[.int .i64 c.t, .int .i64 c.b, .int .i64 c.i, .int .i64 c.f, .int .i64 c.k, .slice (some ⟨b, 0, none⟩) ws.length cap, .int .i64 n, .int .i64 c.t, .int .i64 c.b, .int .i64 c.i, .int .i64 c.f, .int .i64 c.k, .slice sl.a1 sl.m1 sl.k1, .slice sl.a2 sl.m2 sl.k2, .slice sl.a3 sl.m3 sl.k3, .slice sl.a4 sl.m4 sl.k4, .slice sl.a5 sl.m5 sl.k5] 40)).alloc (.cells #[.int .u8 k, .int .i64 i, .int .u16 op, .int .u64 old, .int .u64 v] 48)) [.int .i64 0, .int .i64 0, .int .i64 0, .int .i64 0, .int .i64 0, .slice none 0 0, .int .i64 0, .int .i64 0, .int .i64 0, .int .i64 0, .int .i64 0, .int .i64 0, .slice none 0 0, .slice none 0 0, .slice none 0 0, .slice none 0 0, .slice none 0 0] 40
  have hsz : ((w.alloc (.cells #[.int .i64 c.t, .int .i64 c.b, .int .i64 c.i, .int .i64 c.f, .int .i64 c.k, .slice (some ⟨b, 0, none⟩) ws.length cap, .int .i64 n, .int .i64 c.t, .int .i64 c.b, .int .i64 c.i, .int .i64 c.f, .int .i64 c.k, .slice sl.a1 sl.m1 sl.k1, .slice sl.a2 sl.m2 sl.k2, .slice sl.a3 sl.m3 sl.k3, .slice sl.a4 sl.m4 sl.k4, .slice sl.a5 sl.m5 sl.k5] 40)).alloc (.cells #[.int .u8 k, .int .i64 i, .int .u16 op, .int .u64 old, .int .u64 v] 48)).heap.size = w.heap.size + 1 + 1 := by simp
  rw [hsz] at BZ
  clear hsz
  replace BV := BV.grown (w' := ((w.alloc (.cells #[.int .i64 c.t, .int .i64 c.b, .int .i64 c.i, .int .i64 c.f, .int .i64 c.k, .slice (some ⟨b, 0, none⟩) ws.length cap, .int .i64 n, .int .i64 c.t, .int .i64 c.b, .int .i64 c.i, .int .i64 c.f, .int .i64 c.k, .slice sl.a1 sl.m1 sl.k1, .slice sl.a2 sl.m2 sl.k2, .slice sl.a3 sl.m3 sl.k3, .slice sl.a4 sl.m4 sl.k4, .slice sl.a5 sl.m5 sl.k5] 40)).alloc (.cells #[.int .u8 k, .int .i64 i, .int .u16 op, .int .u64 old, .int .u64 v] 48)).alloc (.cells #[.int .i64 0, .int .i64 0, .int .i64 0, .int .i64 0, .int .i64 0, .slice none 0 0, .int .i64 0, .int .i64 0, .int .i64 0, .int .i64 0, .int .i64 0, .int .i64 0, .slice none 0 0, .slice none 0 0, .slice none 0 0, .slice none 0 0, .slice none 0 0] 40)) (by go_grown)
  have HV := Lib.hid BV
  have HZ := Lib.hid BZ
  clear BV BZ
  have hk : k % 7 = 0 ∨ k % 7 = 1 ∨ k % 7 = 2 ∨ k % 7 = 3 ∨ k % 7 = 4 ∨ k % 7 = 5 ∨ k % 7 = 6 := by omega
  rcases hk with hk | hk | hk | hk | hk | hk | hk
  · have hP : plI c k i = nxtI c i := by unfold plI; simp [hk]
    have hW : acW c ws k i op old v = ws := by unfold acW; rw [hP]; simp [hk]
    have hR : acR c ws k i = rd ws (nxtI c i) := by unfold acR; rw [hP]; simp [hk]
    have hB : acB c ws k i old = false := by unfold acB; rw [hP]; simp [hk]
    have hT : acT c ws k i = 0 := by unfold acT; rw [hP]; simp [hk]
    rw [hW, hR, hB, hT, hP]
    clear hW hR hB hT hP
    obtain ⟨n2, hn2⟩ : ∃ x, n + cnt ws (nxtI c i) = x := ⟨_, rfl⟩
    rw [hn2]
    have HN2 := Lib.hid hn2
    clear hn2
    obtain ⟨r, hr⟩ : ∃ x, rd ws (nxtI c i) = x := ⟨_, rfl⟩
    rw [hr]
    have HR := Lib.hid hr
    clear hr
    go_enter Tryz.func9, Tryz.ntmps9
    go_wp2_with (first | (refine load_box rfl 40 _ rfl (w.heap.size) rfl [.int .i64 c.t, .int .i64 c.b, .int .i64 c.i, .int .i64 c.f, .int .i64 c.k, .slice (some ⟨b, 0, none⟩) ws.length cap, .int .i64 n, .int .i64 c.t, .int .i64 c.b, .int .i64 c.i, .int .i64 c.f, .int .i64 c.k, .slice sl.a1 sl.m1 sl.k1, .slice sl.a2 sl.m2 sl.k2, .slice sl.a3 sl.m3 sl.k3, .slice sl.a4 sl.m4 sl.k4, .slice sl.a5 sl.m5 sl.k5] _ Tryz.underlying40 rfl (by kernel_rfl) ?_ ?_; exact HV.out) | fail)
    refine (rwNext_any _ c sl b cap ws n i (HC.out.grown (by go_grown)) hf hn hn').mono ?_; rintro e w1 ⟨b2, cap2, rfl, g1, h1, hb⟩
    have H1 := Lib.hid h1
    have HB : Hid (b2 = b ∨ w.heap.size ≤ b2) := Lib.hid (hb.imp id (fun h => by have h' := h; simp at h'; omega))
    have Z1 := Lib.hid (HZ.out.grown g1)
    have hz := HZ.out.lt
    have G1 : Grown w w1 := galloc (galloc (galloc g1))
    have hz1 := Z1.out.lt
    clear h1 hb g1 HV
    rw [HN2.out, HR.out]
    have TZ := Lib.hid (Box.made w1 [.int .i64 0, .int .i64 0, .int .i64 0, .int .i64 0, .int .i64 0, .slice none 0 0, .int .i64 0, .int .i64 0, .int .i64 0, .int .i64 0, .int .i64 0, .int .i64 0, .slice none 0 0, .slice none 0 0, .slice none 0 0, .slice none 0 0, .slice none 0 0] 40)
    go_wp2_with (first
      | (refine store_box rfl 40 _ _ rfl w1.heap.size [.int .i64 0, .int .i64 0, .int .i64 0, .int .i64 0, .int .i64 0, .slice none 0 0, .int .i64 0, .int .i64 0, .int .i64 0, .int .i64 0, .int .i64 0, .int .i64 0, .slice none 0 0, .slice none 0 0, .slice none 0 0, .slice none 0 0, .slice none 0 0] ?_ #[.int .i64 c.t, .int .i64 c.b, .int .i64 c.i, .int .i64 c.f, .int .i64 c.k, .slice (some ⟨b2, 0, none⟩) ws.length cap2, .int .i64 n2, .int .i64 c.t, .int .i64 c.b, .int .i64 c.i, .int .i64 c.f, .int .i64 c.k, .slice sl.a1 sl.m1 sl.k1, .slice sl.a2 sl.m2 sl.k2, .slice sl.a3 sl.m3 sl.k3, .slice sl.a4 sl.m4 sl.k4, .slice sl.a5 sl.m5 sl.k5] rfl rfl rfl (by kernel_rfl) rfl ?_; exact TZ.out; intro w5 B5 q5; have T5 := Lib.hid B5; clear B5)
      | (refine load_box rfl 40 _ rfl (w1.heap.size) rfl [.int .i64 c.t, .int .i64 c.b, .int .i64 c.i, .int .i64 c.f, .int .i64 c.k, .slice (some ⟨b2, 0, none⟩) ws.length cap2, .int .i64 n2, .int .i64 c.t, .int .i64 c.b, .int .i64 c.i, .int .i64 c.f, .int .i64 c.k, .slice sl.a1 sl.m1 sl.k1, .slice sl.a2 sl.m2 sl.k2, .slice sl.a3 sl.m3 sl.k3, .slice sl.a4 sl.m4 sl.k4, .slice sl.a5 sl.m5 sl.k5] _ Tryz.underlying40 rfl (by kernel_rfl) ?_ ?_; exact T5.out)
      | (refine store_box rfl 40 _ _ rfl (w.heap.size + 1 + 1) [.int .i64 0, .int .i64 0, .int .i64 0, .int .i64 0, .int .i64 0, .slice none 0 0, .int .i64 0, .int .i64 0, .int .i64 0, .int .i64 0, .int .i64 0, .int .i64 0, .slice none 0 0, .slice none 0 0, .slice none 0 0, .slice none 0 0, .slice none 0 0] ?_ #[.int .i64 c.t, .int .i64 c.b, .int .i64 c.i, .int .i64 c.f, .int .i64 c.k, .slice (some ⟨b2, 0, none⟩) ws.length cap2, .int .i64 n2, .int .i64 c.t, .int .i64 c.b, .int .i64 c.i, .int .i64 c.f, .int .i64 c.k, .slice sl.a1 sl.m1 sl.k1, .slice sl.a2 sl.m2 sl.k2, .slice sl.a3 sl.m3 sl.k3, .slice sl.a4 sl.m4 sl.k4, .slice sl.a5 sl.m5 sl.k5] rfl rfl rfl (by kernel_rfl) rfl ?_; exact ((Z1.out.grown (by go_grown)).but q5 (by omega)); intro w6 B6 q6; have Z6 := Lib.hid B6; clear B6)
      | fail)
    have GA : Grown w1 w5 := But.fresh (by go_grown) q5 (fun i hi => by rw [hi]; exact Nat.le_refl _)
    refine bodyPost_ret (results_cttt Tryz.results9 rfl (Z6.out.w17 rfl)) rfl ⟨b2, cap2, rfl, ?_, ?_, HB.out⟩
    · exact But.fresh (gtr G1 GA) q6 (fun i hi => by rw [hi]; omega)
    · exact fun j hj => q6.cell (by intro hx; have z0 := Z1.out.cell 0 _ rfl; have z1 := H1.out 0 (by omega); rw [hx, z0] at z1; cases z1) (gcell GA (H1.out j hj))
  · have hP : plI c k i = nxtI c i := by unfold plI; simp [hk]
    have hW : acW c ws k i op old v = sw ws (nxtI c i) old v := by unfold acW; rw [hP]; simp [hk]
    have hR : acR c ws k i = 0 := by unfold acR; rw [hP]; simp [hk]
    have hB : acB c ws k i old = may ws (nxtI c i) old := by unfold acB; rw [hP]; simp [hk]
    have hT : acT c ws k i = 0 := by unfold acT; rw [hP]; simp [hk]
    rw [hW, hR, hB, hT, hP]
    clear hW hR hB hT hP
    obtain ⟨n2, hn2⟩ : ∃ x, n + cnt ws (nxtI c i) = x := ⟨_, rfl⟩
    rw [hn2]
    have HN2 := Lib.hid hn2
    clear hn2
    obtain ⟨ws2, hws⟩ : ∃ x, sw ws (nxtI c i) old v = x := ⟨_, rfl⟩
    rw [hws]
    have HWS := Lib.hid hws
    clear hws
    obtain ⟨r, hr⟩ : ∃ x, may ws (nxtI c i) old = x := ⟨_, rfl⟩
    rw [hr]
    have HR := Lib.hid hr
    clear hr
    go_enter Tryz.func9, Tryz.ntmps9
    go_wp2_with (first | (refine load_box rfl 40 _ rfl (w.heap.size) rfl [.int .i64 c.t, .int .i64 c.b, .int .i64 c.i, .int .i64 c.f, .int .i64 c.k, .slice (some ⟨b, 0, none⟩) ws.length cap, .int .i64 n, .int .i64 c.t, .int .i64 c.b, .int .i64 c.i, .int .i64 c.f, .int .i64 c.k, .slice sl.a1 sl.m1 sl.k1, .slice sl.a2 sl.m2 sl.k2, .slice sl.a3 sl.m3 sl.k3, .slice sl.a4 sl.m4 sl.k4, .slice sl.a5 sl.m5 sl.k5] _ Tryz.underlying40 rfl (by kernel_rfl) ?_ ?_; exact HV.out) | fail)
    refine (rwLink_any _ c sl b cap ws n i old v (HC.out.grown (by go_grown)) hf hn hn').mono ?_; rintro e w1 ⟨b2, cap2, rfl, g1, h1, hb⟩
    rw [HWS.out] at h1
    have H1 := Lib.hid h1
    have HB : Hid (b2 = b ∨ w.heap.size ≤ b2) := Lib.hid (hb.imp id (fun h => by have h' := h; simp at h'; omega))
    have Z1 := Lib.hid (HZ.out.grown g1)
    have hz := HZ.out.lt
    have G1 : Grown w w1 := galloc (galloc (galloc g1))
    have hz1 := Z1.out.lt
    clear h1 hb g1 HV
    rw [HN2.out, HR.out, HWS.out]
    have TZ := Lib.hid (Box.made w1 [.int .i64 0, .int .i64 0, .int .i64 0, .int .i64 0, .int .i64 0, .slice none 0 0, .int .i64 0, .int .i64 0, .int .i64 0, .int .i64 0, .int .i64 0, .int .i64 0, .slice none 0 0, .slice none 0 0, .slice none 0 0, .slice none 0 0, .slice none 0 0] 40)
    go_wp2_with (first
      | (refine store_box rfl 40 _ _ rfl w1.heap.size [.int .i64 0, .int .i64 0, .int .i64 0, .int .i64 0, .int .i64 0, .slice none 0 0, .int .i64 0, .int .i64 0, .int .i64 0, .int .i64 0, .int .i64 0, .int .i64 0, .slice none 0 0, .slice none 0 0, .slice none 0 0, .slice none 0 0, .slice none 0 0] ?_ #[.int .i64 c.t, .int .i64 c.b, .int .i64 c.i, .int .i64 c.f, .int .i64 c.k, .slice (some ⟨b2, 0, none⟩) ws2.length cap2, .int .i64 n2, .int .i64 c.t, .int .i64 c.b, .int .i64 c.i, .int .i64 c.f, .int .i64 c.k, .slice sl.a1 sl.m1 sl.k1, .slice sl.a2 sl.m2 sl.k2, .slice sl.a3 sl.m3 sl.k3, .slice sl.a4 sl.m4 sl.k4, .slice sl.a5 sl.m5 sl.k5] rfl rfl rfl (by kernel_rfl) rfl ?_; exact TZ.out; intro w5 B5 q5; have T5 := Lib.hid B5; clear B5)
      | (refine load_box rfl 40 _ rfl (w1.heap.size) rfl [.int .i64 c.t, .int .i64 c.b, .int .i64 c.i, .int .i64 c.f, .int .i64 c.k, .slice (some ⟨b2, 0, none⟩) ws2.length cap2, .int .i64 n2, .int .i64 c.t, .int .i64 c.b, .int .i64 c.i, .int .i64 c.f, .int .i64 c.k, .slice sl.a1 sl.m1 sl.k1, .slice sl.a2 sl.m2 sl.k2, .slice sl.a3 sl.m3 sl.k3, .slice sl.a4 sl.m4 sl.k4, .slice sl.a5 sl.m5 sl.k5] _ Tryz.underlying40 rfl (by kernel_rfl) ?_ ?_; exact T5.out)
      | (refine store_box rfl 40 _ _ rfl (w.heap.size + 1 + 1) [.int .i64 0, .int .i64 0, .int .i64 0, .int .i64 0, .int .i64 0, .slice none 0 0, .int .i64 0, .int .i64 0, .int .i64 0, .int .i64 0, .int .i64 0, .int .i64 0, .slice none 0 0, .slice none 0 0, .slice none 0 0, .slice none 0 0, .slice none 0 0] ?_ #[.int .i64 c.t, .int .i64 c.b, .int .i64 c.i, .int .i64 c.f, .int .i64 c.k, .slice (some ⟨b2, 0, none⟩) ws2.length cap2, .int .i64 n2, .int .i64 c.t, .int .i64 c.b, .int .i64 c.i, .int .i64 c.f, .int .i64 c.k, .slice sl.a1 sl.m1 sl.k1, .slice sl.a2 sl.m2 sl.k2, .slice sl.a3 sl.m3 sl.k3, .slice sl.a4 sl.m4 sl.k4, .slice sl.a5 sl.m5 sl.k5] rfl rfl rfl (by kernel_rfl) rfl ?_; exact ((Z1.out.grown (by go_grown)).but q5 (by omega)); intro w6 B6 q6; have Z6 := Lib.hid B6; clear B6)
      | fail)
    have GA : Grown w1 w5 := But.fresh (by go_grown) q5 (fun i hi => by rw [hi]; exact Nat.le_refl _)
    refine bodyPost_ret (results_cttt Tryz.results9 rfl (Z6.out.w17 rfl)) rfl ⟨b2, cap2, rfl, ?_, ?_, HB.out⟩
    · exact But.fresh (gtr G1 GA) q6 (fun i hi => by rw [hi]; omega)
    · exact fun j hj => q6.cell (by intro hx; have z0 := Z1.out.cell 0 _ rfl; have z1 := H1.out 0 (by omega); rw [hx, z0] at z1; cases z1) (gcell GA (H1.out j hj))
  · have hP : plI c k i = nxtI c i := by unfold plI; simp [hk]
    have hW : acW c ws k i op old v = wr ws (nxtI c i) v := by unfold acW; rw [hP]; simp [hk]
    have hR : acR c ws k i = 0 := by unfold acR; rw [hP]; simp [hk]
    have hB : acB c ws k i old = false := by unfold acB; rw [hP]; simp [hk]
    have hT : acT c ws k i = 0 := by unfold acT; rw [hP]; simp [hk]
    rw [hW, hR, hB, hT, hP]
    clear hW hR hB hT hP
    obtain ⟨n2, hn2⟩ : ∃ x, n + cnt ws (nxtI c i) = x := ⟨_, rfl⟩
    rw [hn2]
    have HN2 := Lib.hid hn2
    clear hn2
    obtain ⟨ws2, hws⟩ : ∃ x, wr ws (nxtI c i) v = x := ⟨_, rfl⟩
    rw [hws]
    have HWS := Lib.hid hws
    clear hws
    go_enter Tryz.func9, Tryz.ntmps9
    go_wp2_with (first | (refine load_box rfl 40 _ rfl (w.heap.size) rfl [.int .i64 c.t, .int .i64 c.b, .int .i64 c.i, .int .i64 c.f, .int .i64 c.k, .slice (some ⟨b, 0, none⟩) ws.length cap, .int .i64 n, .int .i64 c.t, .int .i64 c.b, .int .i64 c.i, .int .i64 c.f, .int .i64 c.k, .slice sl.a1 sl.m1 sl.k1, .slice sl.a2 sl.m2 sl.k2, .slice sl.a3 sl.m3 sl.k3, .slice sl.a4 sl.m4 sl.k4, .slice sl.a5 sl.m5 sl.k5] _ Tryz.underlying40 rfl (by kernel_rfl) ?_ ?_; exact HV.out) | fail)
    refine (rwSet_any _ c sl b cap ws n i v (HC.out.grown (by go_grown)) hf hn hn').mono ?_; rintro e w1 ⟨b2, cap2, rfl, g1, h1, hb⟩
    rw [HWS.out] at h1
    have H1 := Lib.hid h1
    have HB : Hid (b2 = b ∨ w.heap.size ≤ b2) := Lib.hid (hb.imp id (fun h => by have h' := h; simp at h'; omega))
    have Z1 := Lib.hid (HZ.out.grown g1)
    have hz := HZ.out.lt
    have G1 : Grown w w1 := galloc (galloc (galloc g1))
    have hz1 := Z1.out.lt
    clear h1 hb g1 HV
    rw [HN2.out, HWS.out]
    go_wp2_with (first | (refine store_box rfl 40 _ _ rfl (w.heap.size + 1 + 1) [.int .i64 0, .int .i64 0, .int .i64 0, .int .i64 0, .int .i64 0, .slice none 0 0, .int .i64 0, .int .i64 0, .int .i64 0, .int .i64 0, .int .i64 0, .int .i64 0, .slice none 0 0, .slice none 0 0, .slice none 0 0, .slice none 0 0, .slice none 0 0] ?_ #[.int .i64 c.t, .int .i64 c.b, .int .i64 c.i, .int .i64 c.f, .int .i64 c.k, .slice (some ⟨b2, 0, none⟩) ws2.length cap2, .int .i64 n2, .int .i64 c.t, .int .i64 c.b, .int .i64 c.i, .int .i64 c.f, .int .i64 c.k, .slice sl.a1 sl.m1 sl.k1, .slice sl.a2 sl.m2 sl.k2, .slice sl.a3 sl.m3 sl.k3, .slice sl.a4 sl.m4 sl.k4, .slice sl.a5 sl.m5 sl.k5] rfl rfl rfl (by kernel_rfl) rfl ?_; exact Z1.out; intro w6 B6 q6; have Z6 := Lib.hid B6; clear B6) | fail)
    have GA : Grown w1 w1 := Grown.refl _
    refine bodyPost_ret (results_cttt Tryz.results9 rfl (Z6.out.w17 rfl)) rfl ⟨b2, cap2, rfl, ?_, ?_, HB.out⟩
    · exact But.fresh (gtr G1 GA) q6 (fun i hi => by rw [hi]; omega)
    · exact fun j hj => q6.cell (by intro hx; have z0 := Z1.out.cell 0 _ rfl; have z1 := H1.out 0 (by omega); rw [hx, z0] at z1; cases z1) (gcell GA (H1.out j hj))
  · have hP : plI c k i = wrdI c i := by unfold plI; simp [hk]
    have hW : acW c ws k i op old v = ws := by unfold acW; rw [hP]; simp [hk]
    have hR : acR c ws k i = rd ws (wrdI c i) := by unfold acR; rw [hP]; simp [hk]
    have hB : acB c ws k i old = false := by unfold acB; rw [hP]; simp [hk]
    have hT : acT c ws k i = 0 := by unfold acT; rw [hP]; simp [hk]
    rw [hW, hR, hB, hT, hP]
    clear hW hR hB hT hP
    obtain ⟨n2, hn2⟩ : ∃ x, n + cnt ws (wrdI c i) = x := ⟨_, rfl⟩
    rw [hn2]
    have HN2 := Lib.hid hn2
    clear hn2
    obtain ⟨r, hr⟩ : ∃ x, rd ws (wrdI c i) = x := ⟨_, rfl⟩
    rw [hr]
    have HR := Lib.hid hr
    clear hr
    go_enter Tryz.func9, Tryz.ntmps9
    go_wp2_with (first | (refine load_box rfl 40 _ rfl (w.heap.size) rfl [.int .i64 c.t, .int .i64 c.b, .int .i64 c.i, .int .i64 c.f, .int .i64 c.k, .slice (some ⟨b, 0, none⟩) ws.length cap, .int .i64 n, .int .i64 c.t, .int .i64 c.b, .int .i64 c.i, .int .i64 c.f, .int .i64 c.k, .slice sl.a1 sl.m1 sl.k1, .slice sl.a2 sl.m2 sl.k2, .slice sl.a3 sl.m3 sl.k3, .slice sl.a4 sl.m4 sl.k4, .slice sl.a5 sl.m5 sl.k5] _ Tryz.underlying40 rfl (by kernel_rfl) ?_ ?_; exact HV.out) | fail)
    refine (rwWord_any _ c sl b cap ws n i (HC.out.grown (by go_grown)) hf hn hn').mono ?_; rintro e w1 ⟨b2, cap2, rfl, g1, h1, hb⟩
    have H1 := Lib.hid h1
    have HB : Hid (b2 = b ∨ w.heap.size ≤ b2) := Lib.hid (hb.imp id (fun h => by have h' := h; simp at h'; omega))
    have Z1 := Lib.hid (HZ.out.grown g1)
    have hz := HZ.out.lt
    have G1 : Grown w w1 := galloc (galloc (galloc g1))
    have hz1 := Z1.out.lt
    clear h1 hb g1 HV
    rw [HN2.out, HR.out]
    have TZ := Lib.hid (Box.made w1 [.int .i64 0, .int .i64 0, .int .i64 0, .int .i64 0, .int .i64 0, .slice none 0 0, .int .i64 0, .int .i64 0, .int .i64 0, .int .i64 0, .int .i64 0, .int .i64 0, .slice none 0 0, .slice none 0 0, .slice none 0 0, .slice none 0 0, .slice none 0 0] 40)
    go_wp2_with (first
      | (refine store_box rfl 40 _ _ rfl w1.heap.size [.int .i64 0, .int .i64 0, .int .i64 0, .int .i64 0, .int .i64 0, .slice none 0 0, .int .i64 0, .int .i64 0, .int .i64 0, .int .i64 0, .int .i64 0, .int .i64 0, .slice none 0 0, .slice none 0 0, .slice none 0 0, .slice none 0 0, .slice none 0 0] ?_ #[.int .i64 c.t, .int .i64 c.b, .int .i64 c.i, .int .i64 c.f, .int .i64 c.k, .slice (some ⟨b2, 0, none⟩) ws.length cap2, .int .i64 n2, .int .i64 c.t, .int .i64 c.b, .int .i64 c.i, .int .i64 c.f, .int .i64 c.k, .slice sl.a1 sl.m1 sl.k1, .slice sl.a2 sl.m2 sl.k2, .slice sl.a3 sl.m3 sl.k3, .slice sl.a4 sl.m4 sl.k4, .slice sl.a5 sl.m5 sl.k5] rfl rfl rfl (by kernel_rfl) rfl ?_; exact TZ.out; intro w5 B5 q5; have T5 := Lib.hid B5; clear B5)
      | (refine load_box rfl 40 _ rfl (w1.heap.size) rfl [.int .i64 c.t, .int .i64 c.b, .int .i64 c.i, .int .i64 c.f, .int .i64 c.k, .slice (some ⟨b2, 0, none⟩) ws.length cap2, .int .i64 n2, .int .i64 c.t, .int .i64 c.b, .int .i64 c.i, .int .i64 c.f, .int .i64 c.k, .slice sl.a1 sl.m1 sl.k1, .slice sl.a2 sl.m2 sl.k2, .slice sl.a3 sl.m3 sl.k3, .slice sl.a4 sl.m4 sl.k4, .slice sl.a5 sl.m5 sl.k5] _ Tryz.underlying40 rfl (by kernel_rfl) ?_ ?_; exact T5.out)
      | (refine store_box rfl 40 _ _ rfl (w.heap.size + 1 + 1) [.int .i64 0, .int .i64 0, .int .i64 0, .int .i64 0, .int .i64 0, .slice none 0 0, .int .i64 0, .int .i64 0, .int .i64 0, .int .i64 0, .int .i64 0, .int .i64 0, .slice none 0 0, .slice none 0 0, .slice none 0 0, .slice none 0 0, .slice none 0 0] ?_ #[.int .i64 c.t, .int .i64 c.b, .int .i64 c.i, .int .i64 c.f, .int .i64 c.k, .slice (some ⟨b2, 0, none⟩) ws.length cap2, .int .i64 n2, .int .i64 c.t, .int .i64 c.b, .int .i64 c.i, .int .i64 c.f, .int .i64 c.k, .slice sl.a1 sl.m1 sl.k1, .slice sl.a2 sl.m2 sl.k2, .slice sl.a3 sl.m3 sl.k3, .slice sl.a4 sl.m4 sl.k4, .slice sl.a5 sl.m5 sl.k5] rfl rfl rfl (by kernel_rfl) rfl ?_; exact ((Z1.out.grown (by go_grown)).but q5 (by omega)); intro w6 B6 q6; have Z6 := Lib.hid B6; clear B6)
      | fail)
    have GA : Grown w1 w5 := But.fresh (by go_grown) q5 (fun i hi => by rw [hi]; exact Nat.le_refl _)
    refine bodyPost_ret (results_cttt Tryz.results9 rfl (Z6.out.w17 rfl)) rfl ⟨b2, cap2, rfl, ?_, ?_, HB.out⟩
    · exact But.fresh (gtr G1 GA) q6 (fun i hi => by rw [hi]; omega)
    · exact fun j hj => q6.cell (by intro hx; have z0 := Z1.out.cell 0 _ rfl; have z1 := H1.out 0 (by omega); rw [hx, z0] at z1; cases z1) (gcell GA (H1.out j hj))
  · have hP : plI c k i = wrdI c i := by unfold plI; simp [hk]
    have hW : acW c ws k i op old v = sw ws (wrdI c i) old v := by unfold acW; rw [hP]; simp [hk]
    have hR : acR c ws k i = 0 := by unfold acR; rw [hP]; simp [hk]
    have hB : acB c ws k i old = may ws (wrdI c i) old := by unfold acB; rw [hP]; simp [hk]
    have hT : acT c ws k i = 0 := by unfold acT; rw [hP]; simp [hk]
    rw [hW, hR, hB, hT, hP]
    clear hW hR hB hT hP
    obtain ⟨n2, hn2⟩ : ∃ x, n + cnt ws (wrdI c i) = x := ⟨_, rfl⟩
    rw [hn2]
    have HN2 := Lib.hid hn2
    clear hn2
    obtain ⟨ws2, hws⟩ : ∃ x, sw ws (wrdI c i) old v = x := ⟨_, rfl⟩
    rw [hws]
    have HWS := Lib.hid hws
    clear hws
    obtain ⟨r, hr⟩ : ∃ x, may ws (wrdI c i) old = x := ⟨_, rfl⟩
    rw [hr]
    have HR := Lib.hid hr
    clear hr
    go_enter Tryz.func9, Tryz.ntmps9
    go_wp2_with (first | (refine load_box rfl 40 _ rfl (w.heap.size) rfl [.int .i64 c.t, .int .i64 c.b, .int .i64 c.i, .int .i64 c.f, .int .i64 c.k, .slice (some ⟨b, 0, none⟩) ws.length cap, .int .i64 n, .int .i64 c.t, .int .i64 c.b, .int .i64 c.i, .int .i64 c.f, .int .i64 c.k, .slice sl.a1 sl.m1 sl.k1, .slice sl.a2 sl.m2 sl.k2, .slice sl.a3 sl.m3 sl.k3, .slice sl.a4 sl.m4 sl.k4, .slice sl.a5 sl.m5 sl.k5] _ Tryz.underlying40 rfl (by kernel_rfl) ?_ ?_; exact HV.out) | fail)
    refine (rwTurn_any _ c sl b cap ws n i old v (HC.out.grown (by go_grown)) hf hn hn').mono ?_; rintro e w1 ⟨b2, cap2, rfl, g1, h1, hb⟩
    rw [HWS.out] at h1
    have H1 := Lib.hid h1
    have HB : Hid (b2 = b ∨ w.heap.size ≤ b2) := Lib.hid (hb.imp id (fun h => by have h' := h; simp at h'; omega))
    have Z1 := Lib.hid (HZ.out.grown g1)
    have hz := HZ.out.lt
    have G1 : Grown w w1 := galloc (galloc (galloc g1))
    have hz1 := Z1.out.lt
    clear h1 hb g1 HV
    rw [HN2.out, HR.out, HWS.out]
    have TZ := Lib.hid (Box.made w1 [.int .i64 0, .int .i64 0, .int .i64 0, .int .i64 0, .int .i64 0, .slice none 0 0, .int .i64 0, .int .i64 0, .int .i64 0, .int .i64 0, .int .i64 0, .int .i64 0, .slice none 0 0, .slice none 0 0, .slice none 0 0, .slice none 0 0, .slice none 0 0] 40)
    go_wp2_with (first
      | (refine store_box rfl 40 _ _ rfl w1.heap.size [.int .i64 0, .int .i64 0, .int .i64 0, .int .i64 0, .int .i64 0, .slice none 0 0, .int .i64 0, .int .i64 0, .int .i64 0, .int .i64 0, .int .i64 0, .int .i64 0, .slice none 0 0, .slice none 0 0, .slice none 0 0, .slice none 0 0, .slice none 0 0] ?_ #[.int .i64 c.t, .int .i64 c.b, .int .i64 c.i, .int .i64 c.f, .int .i64 c.k, .slice (some ⟨b2, 0, none⟩) ws2.length cap2, .int .i64 n2, .int .i64 c.t, .int .i64 c.b, .int .i64 c.i, .int .i64 c.f, .int .i64 c.k, .slice sl.a1 sl.m1 sl.k1, .slice sl.a2 sl.m2 sl.k2, .slice sl.a3 sl.m3 sl.k3, .slice sl.a4 sl.m4 sl.k4, .slice sl.a5 sl.m5 sl.k5] rfl rfl rfl (by kernel_rfl) rfl ?_; exact TZ.out; intro w5 B5 q5; have T5 := Lib.hid B5; clear B5)
      | (refine load_box rfl 40 _ rfl (w1.heap.size) rfl [.int .i64 c.t, .int .i64 c.b, .int .i64 c.i, .int .i64 c.f, .int .i64 c.k, .slice (some ⟨b2, 0, none⟩) ws2.length cap2, .int .i64 n2, .int .i64 c.t, .int .i64 c.b, .int .i64 c.i, .int .i64 c.f, .int .i64 c.k, .slice sl.a1 sl.m1 sl.k1, .slice sl.a2 sl.m2 sl.k2, .slice sl.a3 sl.m3 sl.k3, .slice sl.a4 sl.m4 sl.k4, .slice sl.a5 sl.m5 sl.k5] _ Tryz.underlying40 rfl (by kernel_rfl) ?_ ?_; exact T5.out)
      | (refine store_box rfl 40 _ _ rfl (w.heap.size + 1 + 1) [.int .i64 0, .int .i64 0, .int .i64 0, .int .i64 0, .int .i64 0, .slice none 0 0, .int .i64 0, .int .i64 0, .int .i64 0, .int .i64 0, .int .i64 0, .int .i64 0, .slice none 0 0, .slice none 0 0, .slice none 0 0, .slice none 0 0, .slice none 0 0] ?_ #[.int .i64 c.t, .int .i64 c.b, .int .i64 c.i, .int .i64 c.f, .int .i64 c.k, .slice (some ⟨b2, 0, none⟩) ws2.length cap2, .int .i64 n2, .int .i64 c.t, .int .i64 c.b, .int .i64 c.i, .int .i64 c.f, .int .i64 c.k, .slice sl.a1 sl.m1 sl.k1, .slice sl.a2 sl.m2 sl.k2, .slice sl.a3 sl.m3 sl.k3, .slice sl.a4 sl.m4 sl.k4, .slice sl.a5 sl.m5 sl.k5] rfl rfl rfl (by kernel_rfl) rfl ?_; exact ((Z1.out.grown (by go_grown)).but q5 (by omega)); intro w6 B6 q6; have Z6 := Lib.hid B6; clear B6)
      | fail)
    have GA : Grown w1 w5 := But.fresh (by go_grown) q5 (fun i hi => by rw [hi]; exact Nat.le_refl _)
    refine bodyPost_ret (results_cttt Tryz.results9 rfl (Z6.out.w17 rfl)) rfl ⟨b2, cap2, rfl, ?_, ?_, HB.out⟩
    · exact But.fresh (gtr G1 GA) q6 (fun i hi => by rw [hi]; omega)
    · exact fun j hj => q6.cell (by intro hx; have z0 := Z1.out.cell 0 _ rfl; have z1 := H1.out 0 (by omega); rw [hx, z0] at z1; cases z1) (gcell GA (H1.out j hj))
  · have hP : plI c k i = annI c i := by unfold plI; simp [hk]
    have hW : acW c ws k i op old v = ws := by unfold acW; rw [hP]; simp [hk]
    have hR : acR c ws k i = 0 := by unfold acR; rw [hP]; simp [hk]
    have hB : acB c ws k i old = false := by unfold acB; rw [hP]; simp [hk]
    have hT : acT c ws k i = opOf (rd ws (annI c i)) := by unfold acT; rw [hP]; simp [hk]
    rw [hW, hR, hB, hT, hP]
    clear hW hR hB hT hP
    obtain ⟨n2, hn2⟩ : ∃ x, n + cnt ws (annI c i) = x := ⟨_, rfl⟩
    rw [hn2]
    have HN2 := Lib.hid hn2
    clear hn2
    obtain ⟨r, hr⟩ : ∃ x, opOf (rd ws (annI c i)) = x := ⟨_, rfl⟩
    rw [hr]
    have HR := Lib.hid hr
    clear hr
    go_enter Tryz.func9, Tryz.ntmps9
    go_wp2_with (first | (refine load_box rfl 40 _ rfl (w.heap.size) rfl [.int .i64 c.t, .int .i64 c.b, .int .i64 c.i, .int .i64 c.f, .int .i64 c.k, .slice (some ⟨b, 0, none⟩) ws.length cap, .int .i64 n, .int .i64 c.t, .int .i64 c.b, .int .i64 c.i, .int .i64 c.f, .int .i64 c.k, .slice sl.a1 sl.m1 sl.k1, .slice sl.a2 sl.m2 sl.k2, .slice sl.a3 sl.m3 sl.k3, .slice sl.a4 sl.m4 sl.k4, .slice sl.a5 sl.m5 sl.k5] _ Tryz.underlying40 rfl (by kernel_rfl) ?_ ?_; exact HV.out) | fail)
    refine (rwAnn_any _ c sl b cap ws n i (HC.out.grown (by go_grown)) hf hn hn').mono ?_; rintro e w1 ⟨b2, cap2, rfl, g1, h1, hb⟩
    have H1 := Lib.hid h1
    have HB : Hid (b2 = b ∨ w.heap.size ≤ b2) := Lib.hid (hb.imp id (fun h => by have h' := h; simp at h'; omega))
    have Z1 := Lib.hid (HZ.out.grown g1)
    have hz := HZ.out.lt
    have G1 : Grown w w1 := galloc (galloc (galloc g1))
    have hz1 := Z1.out.lt
    clear h1 hb g1 HV
    rw [HN2.out, HR.out]
    have TZ := Lib.hid (Box.made w1 [.int .i64 0, .int .i64 0, .int .i64 0, .int .i64 0, .int .i64 0, .slice none 0 0, .int .i64 0, .int .i64 0, .int .i64 0, .int .i64 0, .int .i64 0, .int .i64 0, .slice none 0 0, .slice none 0 0, .slice none 0 0, .slice none 0 0, .slice none 0 0] 40)
    go_wp2_with (first
      | (refine store_box rfl 40 _ _ rfl w1.heap.size [.int .i64 0, .int .i64 0, .int .i64 0, .int .i64 0, .int .i64 0, .slice none 0 0, .int .i64 0, .int .i64 0, .int .i64 0, .int .i64 0, .int .i64 0, .int .i64 0, .slice none 0 0, .slice none 0 0, .slice none 0 0, .slice none 0 0, .slice none 0 0] ?_ #[.int .i64 c.t, .int .i64 c.b, .int .i64 c.i, .int .i64 c.f, .int .i64 c.k, .slice (some ⟨b2, 0, none⟩) ws.length cap2, .int .i64 n2, .int .i64 c.t, .int .i64 c.b, .int .i64 c.i, .int .i64 c.f, .int .i64 c.k, .slice sl.a1 sl.m1 sl.k1, .slice sl.a2 sl.m2 sl.k2, .slice sl.a3 sl.m3 sl.k3, .slice sl.a4 sl.m4 sl.k4, .slice sl.a5 sl.m5 sl.k5] rfl rfl rfl (by kernel_rfl) rfl ?_; exact TZ.out; intro w5 B5 q5; have T5 := Lib.hid B5; clear B5)
      | (refine load_box rfl 40 _ rfl (w1.heap.size) rfl [.int .i64 c.t, .int .i64 c.b, .int .i64 c.i, .int .i64 c.f, .int .i64 c.k, .slice (some ⟨b2, 0, none⟩) ws.length cap2, .int .i64 n2, .int .i64 c.t, .int .i64 c.b, .int .i64 c.i, .int .i64 c.f, .int .i64 c.k, .slice sl.a1 sl.m1 sl.k1, .slice sl.a2 sl.m2 sl.k2, .slice sl.a3 sl.m3 sl.k3, .slice sl.a4 sl.m4 sl.k4, .slice sl.a5 sl.m5 sl.k5] _ Tryz.underlying40 rfl (by kernel_rfl) ?_ ?_; exact T5.out)
      | (refine store_box rfl 40 _ _ rfl (w.heap.size + 1 + 1) [.int .i64 0, .int .i64 0, .int .i64 0, .int .i64 0, .int .i64 0, .slice none 0 0, .int .i64 0, .int .i64 0, .int .i64 0, .int .i64 0, .int .i64 0, .int .i64 0, .slice none 0 0, .slice none 0 0, .slice none 0 0, .slice none 0 0, .slice none 0 0] ?_ #[.int .i64 c.t, .int .i64 c.b, .int .i64 c.i, .int .i64 c.f, .int .i64 c.k, .slice (some ⟨b2, 0, none⟩) ws.length cap2, .int .i64 n2, .int .i64 c.t, .int .i64 c.b, .int .i64 c.i, .int .i64 c.f, .int .i64 c.k, .slice sl.a1 sl.m1 sl.k1, .slice sl.a2 sl.m2 sl.k2, .slice sl.a3 sl.m3 sl.k3, .slice sl.a4 sl.m4 sl.k4, .slice sl.a5 sl.m5 sl.k5] rfl rfl rfl (by kernel_rfl) rfl ?_; exact ((Z1.out.grown (by go_grown)).but q5 (by omega)); intro w6 B6 q6; have Z6 := Lib.hid B6; clear B6)
      | fail)
    have GA : Grown w1 w5 := But.fresh (by go_grown) q5 (fun i hi => by rw [hi]; exact Nat.le_refl _)
    refine bodyPost_ret (results_cttt Tryz.results9 rfl (Z6.out.w17 rfl)) rfl ⟨b2, cap2, rfl, ?_, ?_, HB.out⟩
    · exact But.fresh (gtr G1 GA) q6 (fun i hi => by rw [hi]; omega)
    · exact fun j hj => q6.cell (by intro hx; have z0 := Z1.out.cell 0 _ rfl; have z1 := H1.out 0 (by omega); rw [hx, z0] at z1; cases z1) (gcell GA (H1.out j hj))
  · have hP : plI c k i = annI c i := by unfold plI; simp [hk]
    have hW : acW c ws k i op old v = wr ws (annI c i) (wdOf (op - 1)) := by unfold acW; rw [hP]; simp [hk]
    have hR : acR c ws k i = 0 := by unfold acR; rw [hP]; simp [hk]
    have hB : acB c ws k i old = false := by unfold acB; rw [hP]; simp [hk]
    have hT : acT c ws k i = 0 := by unfold acT; rw [hP]; simp [hk]
    rw [hW, hR, hB, hT, hP]
    clear hW hR hB hT hP
    obtain ⟨n2, hn2⟩ : ∃ x, n + cnt ws (annI c i) = x := ⟨_, rfl⟩
    rw [hn2]
    have HN2 := Lib.hid hn2
    clear hn2
    obtain ⟨ws2, hws⟩ : ∃ x, wr ws (annI c i) (wdOf (op - 1)) = x := ⟨_, rfl⟩
    rw [hws]
    have HWS := Lib.hid hws
    clear hws
    go_enter Tryz.func9, Tryz.ntmps9
    go_wp2_with (first | (refine load_box rfl 40 _ rfl (w.heap.size) rfl [.int .i64 c.t, .int .i64 c.b, .int .i64 c.i, .int .i64 c.f, .int .i64 c.k, .slice (some ⟨b, 0, none⟩) ws.length cap, .int .i64 n, .int .i64 c.t, .int .i64 c.b, .int .i64 c.i, .int .i64 c.f, .int .i64 c.k, .slice sl.a1 sl.m1 sl.k1, .slice sl.a2 sl.m2 sl.k2, .slice sl.a3 sl.m3 sl.k3, .slice sl.a4 sl.m4 sl.k4, .slice sl.a5 sl.m5 sl.k5] _ Tryz.underlying40 rfl (by kernel_rfl) ?_ ?_; exact HV.out) | fail)
    refine (rwSay_any _ c sl b cap ws n i (op - 1) (HC.out.grown (by go_grown)) hf hn hn' (by omega) (by omega)).mono ?_; rintro e w1 ⟨b2, cap2, rfl, g1, h1, hb⟩
    rw [HWS.out] at h1
    have H1 := Lib.hid h1
    have HB : Hid (b2 = b ∨ w.heap.size ≤ b2) := Lib.hid (hb.imp id (fun h => by have h' := h; simp at h'; omega))
    have Z1 := Lib.hid (HZ.out.grown g1)
    have hz := HZ.out.lt
    have G1 : Grown w w1 := galloc (galloc (galloc g1))
    have hz1 := Z1.out.lt
    clear h1 hb g1 HV
    rw [HN2.out, HWS.out]
    go_wp2_with (first | (refine store_box rfl 40 _ _ rfl (w.heap.size + 1 + 1) [.int .i64 0, .int .i64 0, .int .i64 0, .int .i64 0, .int .i64 0, .slice none 0 0, .int .i64 0, .int .i64 0, .int .i64 0, .int .i64 0, .int .i64 0, .int .i64 0, .slice none 0 0, .slice none 0 0, .slice none 0 0, .slice none 0 0, .slice none 0 0] ?_ #[.int .i64 c.t, .int .i64 c.b, .int .i64 c.i, .int .i64 c.f, .int .i64 c.k, .slice (some ⟨b2, 0, none⟩) ws2.length cap2, .int .i64 n2, .int .i64 c.t, .int .i64 c.b, .int .i64 c.i, .int .i64 c.f, .int .i64 c.k, .slice sl.a1 sl.m1 sl.k1, .slice sl.a2 sl.m2 sl.k2, .slice sl.a3 sl.m3 sl.k3, .slice sl.a4 sl.m4 sl.k4, .slice sl.a5 sl.m5 sl.k5] rfl rfl rfl (by kernel_rfl) rfl ?_; exact Z1.out; intro w6 B6 q6; have Z6 := Lib.hid B6; clear B6) | fail)
    have GA : Grown w1 w1 := Grown.refl _
    refine bodyPost_ret (results_cttt Tryz.results9 rfl (Z6.out.w17 rfl)) rfl ⟨b2, cap2, rfl, ?_, ?_, HB.out⟩
    · exact But.fresh (gtr G1 GA) q6 (fun i hi => by rw [hi]; omega)
    · exact fun j hj => q6.cell (by intro hx; have z0 := Z1.out.cell 0 _ rfl; have z1 := H1.out 0 (by omega); rw [hx, z0] at z1; cases z1) (gcell GA (H1.out j hj))

end Go.Proofs.YtjllemjmdbnkjaaGreat
