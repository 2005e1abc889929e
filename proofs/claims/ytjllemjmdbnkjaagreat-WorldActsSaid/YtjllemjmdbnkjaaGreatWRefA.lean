/- The document's acts of package world (corrieref08): what each tells, and that it leaves all memory that was there as it was. -/
import Derived.Test.YtjllemjmdbnkjaaGreatWRef
import Derived.Test.YtjllemjmdbnkjaaGreatWorldL
import Derived.Test.YtjllemjmdbnkjaaGreatKept
namespace Go.Proofs.YtjllemjmdbnkjaaGreat
open Go.ChangeShapes Go.WideShapes Go.ChangeAt Go.RowKit
set_option maxRecDepth 100000
set_option linter.unusedVariables false

/-- The slices of the document's Book, as values. -/
structure Sl where
  a1 : Option Addr
  m1 : Nat
  k1 : Nat
  a2 : Option Addr
  m2 : Nat
  k2 : Nat
  a3 : Option Addr
  m3 : Nat
  k3 : Nat
  a4 : Option Addr
  m4 : Nat
  k4 : Nat
  a5 : Option Addr
  m5 : Nat
  k5 : Nat

def RW1 (c : Cf) (sl : Sl) (b0 : Nat) (ws : List Int) (n : Int) (w : World) (e : Ending) (w' : World) : Prop :=
  ∃ b cap, e = .returned (.agg #[.int .i64 c.t, .int .i64 c.b, .int .i64 c.i, .int .i64 c.f, .int .i64 c.k, .slice (some ⟨b, 0, none⟩) ws.length cap, .int .i64 n, .int .i64 c.t, .int .i64 c.b, .int .i64 c.i, .int .i64 c.f, .int .i64 c.k, .slice sl.a1 sl.m1 sl.k1, .slice sl.a2 sl.m2 sl.k2, .slice sl.a3 sl.m3 sl.k3, .slice sl.a4 sl.m4 sl.k4, .slice sl.a5 sl.m5 sl.k5]) ∧ Grown w w' ∧ Holds w' b ws ∧ (b = b0 ∨ w.heap.size ≤ b)
def RWu (c : Cf) (sl : Sl) (b0 : Nat) (ws : List Int) (n : Int) (r : Int) (w : World) (e : Ending) (w' : World) : Prop :=
  ∃ b cap, e = .returned (.tuple #[.agg #[.int .i64 c.t, .int .i64 c.b, .int .i64 c.i, .int .i64 c.f, .int .i64 c.k, .slice (some ⟨b, 0, none⟩) ws.length cap, .int .i64 n, .int .i64 c.t, .int .i64 c.b, .int .i64 c.i, .int .i64 c.f, .int .i64 c.k, .slice sl.a1 sl.m1 sl.k1, .slice sl.a2 sl.m2 sl.k2, .slice sl.a3 sl.m3 sl.k3, .slice sl.a4 sl.m4 sl.k4, .slice sl.a5 sl.m5 sl.k5], .int .u64 r]) ∧ Grown w w' ∧ Holds w' b ws ∧ (b = b0 ∨ w.heap.size ≤ b)
def RWb (c : Cf) (sl : Sl) (b0 : Nat) (ws : List Int) (n : Int) (r : Bool) (w : World) (e : Ending) (w' : World) : Prop :=
  ∃ b cap, e = .returned (.tuple #[.agg #[.int .i64 c.t, .int .i64 c.b, .int .i64 c.i, .int .i64 c.f, .int .i64 c.k, .slice (some ⟨b, 0, none⟩) ws.length cap, .int .i64 n, .int .i64 c.t, .int .i64 c.b, .int .i64 c.i, .int .i64 c.f, .int .i64 c.k, .slice sl.a1 sl.m1 sl.k1, .slice sl.a2 sl.m2 sl.k2, .slice sl.a3 sl.m3 sl.k3, .slice sl.a4 sl.m4 sl.k4, .slice sl.a5 sl.m5 sl.k5], .bool r]) ∧ Grown w w' ∧ Holds w' b ws ∧ (b = b0 ∨ w.heap.size ≤ b)
def RWi (c : Cf) (sl : Sl) (b0 : Nat) (ws : List Int) (n : Int) (r : Int) (w : World) (e : Ending) (w' : World) : Prop :=
  ∃ b cap, e = .returned (.tuple #[.agg #[.int .i64 c.t, .int .i64 c.b, .int .i64 c.i, .int .i64 c.f, .int .i64 c.k, .slice (some ⟨b, 0, none⟩) ws.length cap, .int .i64 n, .int .i64 c.t, .int .i64 c.b, .int .i64 c.i, .int .i64 c.f, .int .i64 c.k, .slice sl.a1 sl.m1 sl.k1, .slice sl.a2 sl.m2 sl.k2, .slice sl.a3 sl.m3 sl.k3, .slice sl.a4 sl.m4 sl.k4, .slice sl.a5 sl.m5 sl.k5], .int .i64 r]) ∧ Grown w w' ∧ Holds w' b ws ∧ (b = b0 ∨ w.heap.size ≤ b)
def RW3 (c : Cf) (sl : Sl) (b0 : Nat) (ws : List Int) (n : Int) (r : Int) (d : Bool) (m : Int) (w : World) (e : Ending) (w' : World) : Prop :=
  ∃ b cap, e = .returned (.tuple #[.agg #[.int .i64 c.t, .int .i64 c.b, .int .i64 c.i, .int .i64 c.f, .int .i64 c.k, .slice (some ⟨b, 0, none⟩) ws.length cap, .int .i64 n, .int .i64 c.t, .int .i64 c.b, .int .i64 c.i, .int .i64 c.f, .int .i64 c.k, .slice sl.a1 sl.m1 sl.k1, .slice sl.a2 sl.m2 sl.k2, .slice sl.a3 sl.m3 sl.k3, .slice sl.a4 sl.m4 sl.k4, .slice sl.a5 sl.m5 sl.k5], .int .u64 r, .bool d, .int .i64 m]) ∧ Grown w w' ∧ Holds w' b ws ∧ (b = b0 ∨ w.heap.size ≤ b)

theorem info_w : (Tryz.prog.info? 40).map (·.size) = some 17 := by kernel_rfl
theorem Box.w17 {w : World} {b : Nat} {l : List Value} (h : Box w b l) (hl : l.length = 17) : (loadVar 40 ⟨b, 0, none⟩).run Tryz.prog w = .ok (.agg l.toArray) w :=
  load_run h _ _ Tryz.underlying40 rfl (by rw [hl]; exact info_w)

set_option maxHeartbeats 1000000 in
theorem rwload_any (w : World) (c : Cf) (sl : Sl) (b cap : Nat) (ws : List Int) (n : Int) (i : Int) (hc : Holds w b ws) (hf : ws.length ≤ 1048576) (hn : 0 ≤ n) (hn' : n < 4611686018427387904) :
    Calls Tryz.prog 59 #[.agg #[.int .i64 c.t, .int .i64 c.b, .int .i64 c.i, .int .i64 c.f, .int .i64 c.k, .slice (some ⟨b, 0, none⟩) ws.length cap, .int .i64 n, .int .i64 c.t, .int .i64 c.b, .int .i64 c.i, .int .i64 c.f, .int .i64 c.k, .slice sl.a1 sl.m1 sl.k1, .slice sl.a2 sl.m2 sl.k2, .slice sl.a3 sl.m3 sl.k3, .slice sl.a4 sl.m4 sl.k4, .slice sl.a5 sl.m5 sl.k5], .int .i64 i] w (RWu c sl b ws (n + cnt ws i) (rd ws i) w) := by
  have HC := Lib.hid hc
  clear hc
  have BV := Box.made w [.int .i64 c.t, .int .i64 c.b, .int .i64 c.i, .int .i64 c.f, .int .i64 c.k, .slice (some ⟨b, 0, none⟩) ws.length cap, .int .i64 n, .int .i64 c.t, .int .i64 c.b, .int .i64 c.i, .int .i64 c.f, .int .i64 c.k, .slice sl.a1 sl.m1 sl.k1, .slice sl.a2 sl.m2 sl.k2, .slice sl.a3 sl.m3 sl.k3, .slice sl.a4 sl.m4 sl.k4, .slice sl.a5 sl.m5 sl.k5] 40
  have BZ := Box.made (w.alloc (.cells #[.int .i64 c.t, .int .i64 c.b, .int .i64 c.i, .int .i64 c.f, .int .i64 c.k, .slice (some ⟨b, 0, none⟩) ws.length cap, .int .i64 n, .int .i64 c.t, .int .i64 c.b, .int .i64 c.i, .int .i64 c.f, .int .i64 c.k, .slice sl.a1 sl.m1 sl.k1, .slice sl.a2 sl.m2 sl.k2, .slice sl.a3 sl.m3 sl.k3, .slice sl.a4 sl.m4 sl.k4, .slice sl.a5 sl.m5 sl.k5] 40)) [.int .i64 0, .int .i64 0, .int .i64 0, .int .i64 0, .int .i64 0, .slice none 0 0, .int .i64 0, .int .i64 0, .int .i64 0, .int .i64 0, .int .i64 0, .int .i64 0, .slice none 0 0, .slice none 0 0, .slice none 0 0, .slice none 0 0, .slice none 0 0] 40
  have hsz : (w.alloc (.cells #[.int .i64 c.t, .int .i64 c.b, .int .i64 c.i, .int .i64 c.f, .int .i64 c.k, .slice (some ⟨b, 0, none⟩) ws.length cap, .int .i64 n, .int .i64 c.t, .int .i64 c.b, .int .i64 c.i, .int .i64 c.f, .int .i64 c.k, .slice sl.a1 sl.m1 sl.k1, .slice sl.a2 sl.m2 sl.k2, .slice sl.a3 sl.m3 sl.k3, .slice sl.a4 sl.m4 sl.k4, .slice sl.a5 sl.m5 sl.k5] 40)).heap.size = w.heap.size + 1 := by simp
  rw [hsz] at BZ
  clear hsz
  replace BV := BV.grown (w' := (w.alloc (.cells #[.int .i64 c.t, .int .i64 c.b, .int .i64 c.i, .int .i64 c.f, .int .i64 c.k, .slice (some ⟨b, 0, none⟩) ws.length cap, .int .i64 n, .int .i64 c.t, .int .i64 c.b, .int .i64 c.i, .int .i64 c.f, .int .i64 c.k, .slice sl.a1 sl.m1 sl.k1, .slice sl.a2 sl.m2 sl.k2, .slice sl.a3 sl.m3 sl.k3, .slice sl.a4 sl.m4 sl.k4, .slice sl.a5 sl.m5 sl.k5] 40)).alloc (.cells #[.int .i64 0, .int .i64 0, .int .i64 0, .int .i64 0, .int .i64 0, .slice none 0 0, .int .i64 0, .int .i64 0, .int .i64 0, .int .i64 0, .int .i64 0, .int .i64 0, .slice none 0 0, .slice none 0 0, .slice none 0 0, .slice none 0 0, .slice none 0 0] 40)) (by go_grown)
  have HV := Lib.hid BV
  have HZ := Lib.hid BZ
  clear BV BZ
  go_enter Tryz.func59, Tryz.ntmps59
  go_wp2_with fail
  refine (rLoad_any _ b cap ws n i (HC.out.grown (by go_grown)) hf hn hn').mono ?_; rintro e w1 ⟨rfl, g1⟩
  have h1 : Holds w1 b ws := HC.out.grown (gtr (by go_grown) g1)
  have hb : b = b ∨ w.heap.size ≤ b := .inl rfl
  obtain ⟨b1, hb1⟩ : ∃ x, x = b := ⟨_, rfl⟩
  have H1 := Lib.hid h1
  have V1 := Lib.hid (HV.out.grown g1)
  have Z1 := Lib.hid (HZ.out.grown g1)
  have HB := Lib.hid hb
  have G1 : Grown w w1 := galloc (galloc g1)
  have l0 := HV.out.lt
  have l1 := HZ.out.lt
  clear h1 hb g1 HV HZ
  go_wp2_with (first
    | (refine store_part rfl 33 _ _ rfl w.heap.size 5 rfl #[.slice (some ⟨b, 0, none⟩) ws.length cap, .int .i64 (n + cnt ws i)] rfl [.int .i64 c.t, .int .i64 c.b, .int .i64 c.i, .int .i64 c.f, .int .i64 c.k, .slice (some ⟨b, 0, none⟩) ws.length cap, .int .i64 n, .int .i64 c.t, .int .i64 c.b, .int .i64 c.i, .int .i64 c.f, .int .i64 c.k, .slice sl.a1 sl.m1 sl.k1, .slice sl.a2 sl.m2 sl.k2, .slice sl.a3 sl.m3 sl.k3, .slice sl.a4 sl.m4 sl.k4, .slice sl.a5 sl.m5 sl.k5] [.int .i64 c.t, .int .i64 c.b, .int .i64 c.i, .int .i64 c.f, .int .i64 c.k, .slice (some ⟨b, 0, none⟩) ws.length cap, .int .i64 (n + cnt ws i), .int .i64 c.t, .int .i64 c.b, .int .i64 c.i, .int .i64 c.f, .int .i64 c.k, .slice sl.a1 sl.m1 sl.k1, .slice sl.a2 sl.m2 sl.k2, .slice sl.a3 sl.m3 sl.k3, .slice sl.a4 sl.m4 sl.k4, .slice sl.a5 sl.m5 sl.k5] ?_ (Nat.le_of_ble_eq_true rfl) (by kernel_rfl) rfl rfl ?_; exact V1.out.grown (by go_grown); intro w2 B2 q2; have V2 := Lib.hid B2; clear B2)
    | (refine load_box rfl 40 _ rfl (w.heap.size) rfl [.int .i64 c.t, .int .i64 c.b, .int .i64 c.i, .int .i64 c.f, .int .i64 c.k, .slice (some ⟨b, 0, none⟩) ws.length cap, .int .i64 (n + cnt ws i), .int .i64 c.t, .int .i64 c.b, .int .i64 c.i, .int .i64 c.f, .int .i64 c.k, .slice sl.a1 sl.m1 sl.k1, .slice sl.a2 sl.m2 sl.k2, .slice sl.a3 sl.m3 sl.k3, .slice sl.a4 sl.m4 sl.k4, .slice sl.a5 sl.m5 sl.k5] _ Tryz.underlying40 rfl (by kernel_rfl) ?_ ?_; exact V2.out)
    | (refine store_box rfl 40 _ _ rfl (w.heap.size + 1) [.int .i64 0, .int .i64 0, .int .i64 0, .int .i64 0, .int .i64 0, .slice none 0 0, .int .i64 0, .int .i64 0, .int .i64 0, .int .i64 0, .int .i64 0, .int .i64 0, .slice none 0 0, .slice none 0 0, .slice none 0 0, .slice none 0 0, .slice none 0 0] ?_ #[.int .i64 c.t, .int .i64 c.b, .int .i64 c.i, .int .i64 c.f, .int .i64 c.k, .slice (some ⟨b, 0, none⟩) ws.length cap, .int .i64 (n + cnt ws i), .int .i64 c.t, .int .i64 c.b, .int .i64 c.i, .int .i64 c.f, .int .i64 c.k, .slice sl.a1 sl.m1 sl.k1, .slice sl.a2 sl.m2 sl.k2, .slice sl.a3 sl.m3 sl.k3, .slice sl.a4 sl.m4 sl.k4, .slice sl.a5 sl.m5 sl.k5] rfl rfl rfl (by kernel_rfl) rfl ?_; exact ((Z1.out.grown (by go_grown)).but q2 (by omega)); intro w3 B3 q3; have Z3 := Lib.hid B3; clear B3)
    | fail)
  refine bodyPost_ret (results_ct Tryz.results59 rfl (Z3.out.w17 rfl)) rfl ⟨b, cap, rfl, ?_, ?_, ?_⟩
  · exact But.fresh (But.fresh (gtr G1 (by go_grown)) q2 (fun i hi => Nat.le_of_eq hi.symm)) q3 (fun i hi => by rw [hi]; omega)
  · exact fun j hj => q3.cell (by intro hx; have z0 := Z1.out.cell 0 _ rfl; have z1 := H1.out 0 (by omega); rw [hx, z0] at z1; cases z1) (q2.cell (by intro hx; have z0 := V1.out.cell 0 _ rfl; have z1 := H1.out 0 (by omega); rw [hx, z0] at z1; cases z1) (gcell (by go_grown) (H1.out j hj)))
  · exact .inl rfl

set_option maxHeartbeats 1000000 in
theorem rwswap_any (w : World) (c : Cf) (sl : Sl) (b cap : Nat) (ws : List Int) (n : Int) (i old v : Int) (hc : Holds w b ws) (hf : ws.length ≤ 1048576) (hn : 0 ≤ n) (hn' : n < 4611686018427387904) :
    Calls Tryz.prog 61 #[.agg #[.int .i64 c.t, .int .i64 c.b, .int .i64 c.i, .int .i64 c.f, .int .i64 c.k, .slice (some ⟨b, 0, none⟩) ws.length cap, .int .i64 n, .int .i64 c.t, .int .i64 c.b, .int .i64 c.i, .int .i64 c.f, .int .i64 c.k, .slice sl.a1 sl.m1 sl.k1, .slice sl.a2 sl.m2 sl.k2, .slice sl.a3 sl.m3 sl.k3, .slice sl.a4 sl.m4 sl.k4, .slice sl.a5 sl.m5 sl.k5], .int .i64 i, .int .u64 old, .int .u64 v] w (RWb c sl b (sw ws i old v) (n + cnt ws i) (may ws i old) w) := by
  have HC := Lib.hid hc
  clear hc
  obtain ⟨ws2, hws⟩ : ∃ x, sw ws i old v = x := ⟨_, rfl⟩
  obtain ⟨dn, hdn⟩ : ∃ x, may ws i old = x := ⟨_, rfl⟩
  rw [hws, hdn]
  have HWS := Lib.hid hws
  have HDN := Lib.hid hdn
  clear hws hdn
  have BV := Box.made w [.int .i64 c.t, .int .i64 c.b, .int .i64 c.i, .int .i64 c.f, .int .i64 c.k, .slice (some ⟨b, 0, none⟩) ws.length cap, .int .i64 n, .int .i64 c.t, .int .i64 c.b, .int .i64 c.i, .int .i64 c.f, .int .i64 c.k, .slice sl.a1 sl.m1 sl.k1, .slice sl.a2 sl.m2 sl.k2, .slice sl.a3 sl.m3 sl.k3, .slice sl.a4 sl.m4 sl.k4, .slice sl.a5 sl.m5 sl.k5] 40
  have BZ := Box.made (w.alloc (.cells #[.int .i64 c.t, .int .i64 c.b, .int .i64 c.i, .int .i64 c.f, .int .i64 c.k, .slice (some ⟨b, 0, none⟩) ws.length cap, .int .i64 n, .int .i64 c.t, .int .i64 c.b, .int .i64 c.i, .int .i64 c.f, .int .i64 c.k, .slice sl.a1 sl.m1 sl.k1, .slice sl.a2 sl.m2 sl.k2, .slice sl.a3 sl.m3 sl.k3, .slice sl.a4 sl.m4 sl.k4, .slice sl.a5 sl.m5 sl.k5] 40)) [.int .i64 0, .int .i64 0, .int .i64 0, .int .i64 0, .int .i64 0, .slice none 0 0, .int .i64 0, .int .i64 0, .int .i64 0, .int .i64 0, .int .i64 0, .int .i64 0, .slice none 0 0, .slice none 0 0, .slice none 0 0, .slice none 0 0, .slice none 0 0] 40
  have hsz : (w.alloc (.cells #[.int .i64 c.t, .int .i64 c.b, .int .i64 c.i, .int .i64 c.f, .int .i64 c.k, .slice (some ⟨b, 0, none⟩) ws.length cap, .int .i64 n, .int .i64 c.t, .int .i64 c.b, .int .i64 c.i, .int .i64 c.f, .int .i64 c.k, .slice sl.a1 sl.m1 sl.k1, .slice sl.a2 sl.m2 sl.k2, .slice sl.a3 sl.m3 sl.k3, .slice sl.a4 sl.m4 sl.k4, .slice sl.a5 sl.m5 sl.k5] 40)).heap.size = w.heap.size + 1 := by simp
  rw [hsz] at BZ
  clear hsz
  replace BV := BV.grown (w' := (w.alloc (.cells #[.int .i64 c.t, .int .i64 c.b, .int .i64 c.i, .int .i64 c.f, .int .i64 c.k, .slice (some ⟨b, 0, none⟩) ws.length cap, .int .i64 n, .int .i64 c.t, .int .i64 c.b, .int .i64 c.i, .int .i64 c.f, .int .i64 c.k, .slice sl.a1 sl.m1 sl.k1, .slice sl.a2 sl.m2 sl.k2, .slice sl.a3 sl.m3 sl.k3, .slice sl.a4 sl.m4 sl.k4, .slice sl.a5 sl.m5 sl.k5] 40)).alloc (.cells #[.int .i64 0, .int .i64 0, .int .i64 0, .int .i64 0, .int .i64 0, .slice none 0 0, .int .i64 0, .int .i64 0, .int .i64 0, .int .i64 0, .int .i64 0, .int .i64 0, .slice none 0 0, .slice none 0 0, .slice none 0 0, .slice none 0 0, .slice none 0 0] 40)) (by go_grown)
  have HV := Lib.hid BV
  have HZ := Lib.hid BZ
  clear BV BZ
  go_enter Tryz.func61, Tryz.ntmps61
  go_wp2_with fail
  refine (rSwap_any _ b cap ws n i old v (HC.out.grown (by go_grown)) hf hn hn').mono ?_; rintro e w1 ⟨b2, cap2, rfl, g1, h1, hb⟩
  rw [HDN.out, HWS.out]
  rw [HWS.out] at h1
  have H1 := Lib.hid h1
  have V1 := Lib.hid (HV.out.grown g1)
  have Z1 := Lib.hid (HZ.out.grown g1)
  have HB := Lib.hid hb
  have G1 : Grown w w1 := galloc (galloc g1)
  have l0 := HV.out.lt
  have l1 := HZ.out.lt
  clear h1 hb g1 HV HZ
  go_wp2_with (first
    | (refine store_part rfl 33 _ _ rfl w.heap.size 5 rfl #[.slice (some ⟨b2, 0, none⟩) ws2.length cap2, .int .i64 (n + cnt ws i)] rfl [.int .i64 c.t, .int .i64 c.b, .int .i64 c.i, .int .i64 c.f, .int .i64 c.k, .slice (some ⟨b, 0, none⟩) ws.length cap, .int .i64 n, .int .i64 c.t, .int .i64 c.b, .int .i64 c.i, .int .i64 c.f, .int .i64 c.k, .slice sl.a1 sl.m1 sl.k1, .slice sl.a2 sl.m2 sl.k2, .slice sl.a3 sl.m3 sl.k3, .slice sl.a4 sl.m4 sl.k4, .slice sl.a5 sl.m5 sl.k5] [.int .i64 c.t, .int .i64 c.b, .int .i64 c.i, .int .i64 c.f, .int .i64 c.k, .slice (some ⟨b2, 0, none⟩) ws2.length cap2, .int .i64 (n + cnt ws i), .int .i64 c.t, .int .i64 c.b, .int .i64 c.i, .int .i64 c.f, .int .i64 c.k, .slice sl.a1 sl.m1 sl.k1, .slice sl.a2 sl.m2 sl.k2, .slice sl.a3 sl.m3 sl.k3, .slice sl.a4 sl.m4 sl.k4, .slice sl.a5 sl.m5 sl.k5] ?_ (Nat.le_of_ble_eq_true rfl) (by kernel_rfl) rfl rfl ?_; exact V1.out.grown (by go_grown); intro w2 B2 q2; have V2 := Lib.hid B2; clear B2)
    | (refine load_box rfl 40 _ rfl (w.heap.size) rfl [.int .i64 c.t, .int .i64 c.b, .int .i64 c.i, .int .i64 c.f, .int .i64 c.k, .slice (some ⟨b2, 0, none⟩) ws2.length cap2, .int .i64 (n + cnt ws i), .int .i64 c.t, .int .i64 c.b, .int .i64 c.i, .int .i64 c.f, .int .i64 c.k, .slice sl.a1 sl.m1 sl.k1, .slice sl.a2 sl.m2 sl.k2, .slice sl.a3 sl.m3 sl.k3, .slice sl.a4 sl.m4 sl.k4, .slice sl.a5 sl.m5 sl.k5] _ Tryz.underlying40 rfl (by kernel_rfl) ?_ ?_; exact V2.out)
    | (refine store_box rfl 40 _ _ rfl (w.heap.size + 1) [.int .i64 0, .int .i64 0, .int .i64 0, .int .i64 0, .int .i64 0, .slice none 0 0, .int .i64 0, .int .i64 0, .int .i64 0, .int .i64 0, .int .i64 0, .int .i64 0, .slice none 0 0, .slice none 0 0, .slice none 0 0, .slice none 0 0, .slice none 0 0] ?_ #[.int .i64 c.t, .int .i64 c.b, .int .i64 c.i, .int .i64 c.f, .int .i64 c.k, .slice (some ⟨b2, 0, none⟩) ws2.length cap2, .int .i64 (n + cnt ws i), .int .i64 c.t, .int .i64 c.b, .int .i64 c.i, .int .i64 c.f, .int .i64 c.k, .slice sl.a1 sl.m1 sl.k1, .slice sl.a2 sl.m2 sl.k2, .slice sl.a3 sl.m3 sl.k3, .slice sl.a4 sl.m4 sl.k4, .slice sl.a5 sl.m5 sl.k5] rfl rfl rfl (by kernel_rfl) rfl ?_; exact ((Z1.out.grown (by go_grown)).but q2 (by omega)); intro w3 B3 q3; have Z3 := Lib.hid B3; clear B3)
    | fail)
  refine bodyPost_ret (results_ct Tryz.results61 rfl (Z3.out.w17 rfl)) rfl ⟨b2, cap2, rfl, ?_, ?_, ?_⟩
  · exact But.fresh (But.fresh (gtr G1 (by go_grown)) q2 (fun i hi => Nat.le_of_eq hi.symm)) q3 (fun i hi => by rw [hi]; omega)
  · exact fun j hj => q3.cell (by intro hx; have z0 := Z1.out.cell 0 _ rfl; have z1 := H1.out 0 (by omega); rw [hx, z0] at z1; cases z1) (q2.cell (by intro hx; have z0 := V1.out.cell 0 _ rfl; have z1 := H1.out 0 (by omega); rw [hx, z0] at z1; cases z1) (gcell (by go_grown) (H1.out j hj)))
  · exact HB.out.imp id (fun h => by have h' := h; simp at h'; omega)

end Go.Proofs.YtjllemjmdbnkjaaGreat
