/- Package look: the nodes of a bucket, as one comes to them. -/
import Derived.Test.YtagapfejgmmppaaGreatLook
import Derived.Deep.CutRange
namespace Go.Proofs.YtagapfejgmmppaaGreat
open Go.ChangeShapes Go.WideShapes Go.ChangeAt Go.RowKit Go.Shelf
set_option maxRecDepth 100000
set_option linter.unusedVariables false
attribute [local go_sem] Oper.semAt_some

/-- From a reference on. -/
def chainN (c : Cf) (ws : List Int) : Nat → Int → List Int
  | 0, _ => []
  | f + 1, v => if v / 2 = 0 then [] else v / 2 :: chainN c ws f (refOf c ws (v / 2))
def firstOf (c : Cf) (ws : List Int) (b : Int) : Int := refOf c ws (vHead c.t c.b c.i c.f c.k b)
/-- The nodes of a bucket. -/
def chainI (c : Cf) (ws : List Int) (b : Int) : List Int := chainN c ws c.nodes (firstOf c ws b)

theorem chainN_len (c : Cf) (ws : List Int) : ∀ (f : Nat) (v : Int), (chainN c ws f v).length ≤ f
  | 0, _ => Nat.zero_le _
  | f + 1, v => by
    unfold chainN
    split
    · exact Nat.zero_le _
    · have := chainN_len c ws f (refOf c ws (v / 2))
      simp only [List.length_cons]; omega
theorem Cf.Ok.nodes_le {c : Cf} (h : c.Ok) : c.nodes ≤ 9999 := by have h1 := h.tk; have h2 := h.b64; simp only [Cf.nodes]; omega
theorem chainI_len {c : Cf} (h : c.Ok) (ws : List Int) (b : Int) : (chainI c ws b).length ≤ 9999 := Nat.le_trans (chainN_len c ws c.nodes _) h.nodes_le

/-- All words are words. -/
def WOk (ws : List Int) : Prop := ∀ i : Int, 0 ≤ rd ws i ∧ rd ws i ≤ 18446744073709551615

def NodesAt (x : Option Addr) (b : Int) (w : World) (e : Ending) (w' : World) : Prop :=
  ∃ b1 b2 : Nat, e = .returned (.func (.func 89) #[] #[.pointer (some ⟨b1, 0, none⟩), .pointer (some ⟨b2, 0, none⟩)]) ∧ w'.cell? ⟨b1, 0, none⟩ = some (.pointer x) ∧ w'.cell? ⟨b2, 0, none⟩ = some (.int .i64 b) ∧ w.heap.size ≤ b1 ∧ w.heap.size ≤ b2 ∧ Grown w w'
theorem nodes_at (w : World) (x : Option Addr) (b : Int) : Calls Tryz.prog 40 #[.pointer x, .int .i64 b] w (NodesAt x b w) := by
  have hmf := mkFunc
  go_enter Tryz.func40, Tryz.ntmps40
  go_wp2
  refine bodyPost_ret (v := .func (.func 89) #[] #[.pointer (some ⟨w.heap.size, 0, none⟩), .pointer (some ⟨w.heap.size + 1, 0, none⟩)]) (by simp [results, Tryz.results40, go_sem]) rfl ?_
  exact ⟨_, _, rfl, by simp [go_sem], by simp [go_sem], by omega, by omega, by go_grown⟩

/-- What an iterator of nodes knows all along. -/
structure ItK (w0 wr : World) (b1 b2 : Nat) (x : Nat) (b : Int) : Prop where
  g : Grown w0 wr
  c1 : wr.cell? ⟨b1, 0, none⟩ = some (.pointer (some ⟨x, 0, none⟩))
  c2 : wr.cell? ⟨b2, 0, none⟩ = some (.int .i64 b)
theorem ItK.grown {w0 a c : World} {b1 b2 x : Nat} {b : Int} (h : ItK w0 a b1 b2 x b) (g : Grown a c) : ItK w0 c b1 b2 x b := ⟨gtr h.g g, gcell g h.c1, gcell g h.c2⟩

set_option maxHeartbeats 4000000 in
theorem nodes1_iter (w0 w : World) (c : Cf) (d : Wd) (ws : List Int) (n : Int) (s : St) (h : WdAt w0 c d ws n s) (hI : Inv c s) (hws : WOk ws) (g0 : Grown w0 w) (b1 b2 : Nat) (b : Int)
    (c1 : w.cell? ⟨b1, 0, none⟩ = some (.pointer (some ⟨d.x, 0, none⟩))) (c2 : w.cell? ⟨b2, 0, none⟩ = some (.int .i64 b)) (U : Nat → Prop) (hU0 : ∀ i, U i → w0.heap.size ≤ i) (hU1 : ¬ U b1) (hU2 : ¬ U b2) :
    Iter Tryz.prog 89 #[.pointer (some ⟨b1, 0, none⟩), .pointer (some ⟨b2, 0, none⟩)] (fun i => #[.agg (nodeL c ws s i).toArray]) (chainI c ws b) U w := by
  intro l J Jx W gW hJ hJx hY h0
  have c1' := gcell gW c1
  have c2' := gcell gW c2
  have HD := Lib.hid (h.grown (gtr g0 gW))
  have K0 : ItK w0 W b1 b2 d.x b := ⟨gtr g0 gW, c1', c2'⟩
  have k0 := HD.out.k0
  have k1 := HD.out.k1
  have k2 := HD.out.k2
  have k3 := HD.out.k3
  have k4 := HD.out.k4
  obtain ⟨hv, hhv⟩ : ∃ hv, vHead c.t c.b c.i c.f c.k b = hv := ⟨_, rfl⟩
  obtain ⟨fv, hfv⟩ : ∃ fv, refOf c ws hv = fv := ⟨_, rfl⟩
  have HC : Hid (chainI c ws b = chainN c ws c.nodes fv) := Lib.hid (by unfold chainI firstOf; rw [hhv, hfv])
  have HF0 : Hid (0 ≤ fv) := Lib.hid (hfv ▸ (hws _).1)
  have HF1 : Hid (fv ≤ 18446744073709551615) := Lib.hid (hfv ▸ (hws _).2)
  have HH := Lib.hid hhv
  have HF := Lib.hid hfv
  clear hhv hfv
  have HNn : Hid (zNodes c.t c.b c.i c.f c.k = (c.nodes : Int)) := Lib.hid (by have := h.book.ok.z; unfold zNodes; rw [if_pos this]; simp [Cf.nodes])
  refine callsIn_of_wp Tryz.func89 rfl trivial ?_ rfl
  simp only [Tryz.ntmps89, List.size_toArray, List.length_cons, List.length_nil, Nat.reduceAdd, Nat.reduceSub, Array.replicate_succ, Array.replicate_zero, List.push_toArray, List.append_toArray, List.nil_append, List.cons_append]
  gi_wp2_with fail
  have d1 : ∀ g : GrW W, g.w.cell? ⟨b1, 0, none⟩ = some (.pointer (some ⟨d.x, 0, none⟩)) := GrW.cell c1'
  have d2 : ∀ g : GrW W, g.w.cell? ⟨b2, 0, none⟩ = some (.int .i64 b) := GrW.cell c2'
  have e0 : ∀ g : GrW W, g.w.cell? ⟨d.x, 0, none⟩ = some (.int .i64 c.t) := GrW.cell k0
  have e1 : ∀ g : GrW W, g.w.cell? ⟨d.x, 1, none⟩ = some (.int .i64 c.b) := GrW.cell k1
  have e2 : ∀ g : GrW W, g.w.cell? ⟨d.x, 2, none⟩ = some (.int .i64 c.i) := GrW.cell k2
  have e3 : ∀ g : GrW W, g.w.cell? ⟨d.x, 3, none⟩ = some (.int .i64 c.f) := GrW.cell k3
  have e4 : ∀ g : GrW W, g.w.cell? ⟨d.x, 4, none⟩ = some (.int .i64 c.k) := GrW.cell k4
  refine wpIn_wide.2 ?_
  refine wp_region_grow (by kernel_rfl) (by kernel_rfl) ?_
  repeat (go_big_quiet_step ((first | (go_at_call 91; with_reducible exact grcall (Head_at _ _ _ _ _ _ _ _ HH.out)) | (go_at_call 90; exact grcall (reference_at _ c d ws n s (HD.out.grown (GrW.gr _)) _ _ HF.out)))))
  refine wpQuiet_nil ?_
  rintro w2 ⟨⟨_, g2⟩, rfl⟩
  clear d1 d2 e0 e1 e2 e3 e4
  have K2 := K0.grown g2
  have J2 := hJ _ _ _ h0 g2
  have HD2 := Lib.hid (HD.out.grown g2)
  replace k0 := gcell g2 k0
  replace k1 := gcell g2 k1
  replace k2 := gcell g2 k2
  replace k3 := gcell g2 k3
  replace k4 := gcell g2 k4
  have c1 := K2.c1
  have hsz : W.heap.size ≤ w2.heap.size := g2.2.2
  clear K0 HD h0 c1' c2' g2
  gi_wp2_with (first | (refine ⟨trivial, ?_⟩; gi_at_call 92; refine (callsIn_wide.2 (Nodes_at _ _ _ _ _ _ _ HNn.out)).mono ?_; rintro e w3 ⟨rfl, g3⟩) | fail)
  have K3 := K2.grown g3
  have J3 := hJ _ _ _ J2 g3
  have HD3 := Lib.hid (HD2.out.grown g3)
  have hsz3 : W.heap.size ≤ w3.heap.size := Nat.le_trans hsz g3.2.2
  clear K2 J2 HD2 k0 k1 k2 k3 k4 c1 g3 hsz
  gi_wp2_with fail
  gi_loopw [21, 4] (fun s21 s4 wr => ∃ (pre : List Int) (k : Nat) (v : Int), s21 = .int .i64 (k : Int) ∧ s4 = .int .u64 v ∧ k ≤ c.nodes ∧ chainN c ws c.nodes fv = pre ++ chainN c ws (c.nodes - k) v ∧ 0 ≤ v ∧ v ≤ 18446744073709551615 ∧ ItK w0 wr b1 b2 d.x b ∧ J pre wr ∧ W.heap.size ≤ wr.heap.size)
    (fun s21 _ _ => c.nodes - (intOf s21).toNat)
  case atStart => exact ⟨[], 0, fv, rfl, rfl, Nat.zero_le _, rfl, HF0.out, HF1.out, K3, J3, hsz3⟩
  case round =>
    obtain ⟨pre, k, v, rfl, rfl, hk, hch, hv0, hv1, KR, JR, hszr⟩ := hrel
    have HKR := Lib.hid KR
    have HHch := Lib.hid hch
    have HCn := Lib.hid HC.out
    have hbd : (c.nodes : Int) ≤ 9999 := by have h1 := h.book.ok.tk; have h2 := h.book.ok.b64; simp only [Cf.nodes]; omega
    by_cases hkn : k < c.nodes
    · have hlt : (k : Int) < (c.nodes : Int) := by omega
      obtain ⟨f, hf⟩ : ∃ f, c.nodes - k = f + 1 := ⟨c.nodes - k - 1, by omega⟩
      by_cases hz : v / 2 = 0
      · have hc0 : chainN c ws (c.nodes - k) v = [] := by rw [hf]; simp [chainN, hz]
        have hx : Hid (chainI c ws b = pre) := Lib.hid (by rw [HC.out, HHch.out, hc0]; simp)
        clear hc0 hch
        gi_wp2_with (first | (refine ⟨trivial, ?_⟩; gi_at_call 93; refine (callsIn_wide.2 (Index_any _ _ hv0 hv1)).mono ?_; rintro e w4 ⟨rfl, g4⟩) | fail)
        refine bodyPost_ret (results_none rfl _ _ _) rfl ?_
        exact ⟨⟨_, rfl⟩, .inl (hx.out.symm ▸ hJ _ _ _ JR g4)⟩
      · have hc1 : chainN c ws (c.nodes - k) v = v / 2 :: chainN c ws f (refOf c ws (v / 2)) := by rw [hf]; simp [chainN, hz]
        have HC1 := Lib.hid hc1
        clear hc1 hch
        gi_wp2_with (first | (refine ⟨trivial, ?_⟩; gi_at_call 93; refine (callsIn_wide.2 (Index_any _ _ hv0 hv1)).mono ?_; rintro e w4 ⟨rfl, g4⟩) | fail)
        have K4 := KR.grown g4
        have J4 := hJ _ _ _ JR g4
        have HD4 := Lib.hid (h.grown K4.g)
        have HK4 := Lib.hid K4
        have c14 := K4.c1
        have hsz4 : W.heap.size ≤ w4.heap.size := Nat.le_trans hszr g4.2.2
        have G4 := Lib.hid g4
        clear KR JR K4 g4
        refine wpIn_wide.2 ?_
        go_cut [5] from 22 to 29 (fun s5 w' => ∃ bb : Nat, s5 = .pointer (some ⟨bb, 0, none⟩) ∧ Box w' bb (nodeL c ws s (v / 2)) ∧ Grown w4 w' ∧ w4.heap.size ≤ bb)
        case first =>
          refine wp_region_plang (.two [0, 1] 2 (.two [] 3 (.one [] 4 (.one [] 5 (.fin []))) 4 (.one [] 3 (.one [] 5 (.fin [])))) 4 (.one [] 2 (.one [] 3 (.one [] 5 (.fin []))))) (by kernel_rfl) (by kernel_rfl) (by kernel_rfl) ?_
          intro w5 g5
          have d1 : ∀ g : GrW w5, g.w.cell? ⟨b1, 0, none⟩ = some (.pointer (some ⟨d.x, 0, none⟩)) := GrW.cell (gcell g5 c14)
          refine plan_two ?_
          simp only [nths, nth, List.map_cons, List.map_nil, List.getD_cons_zero, List.getD_cons_succ]
          repeat go_big_quiet_step (fail)
          clear d1
          refine wpQuiet_nil ?_
          constructor
          · go_wp2_with fail
            refine (Index_any _ _ hv0 hv1).mono ?_; rintro e u6 ⟨rfl, g6⟩
            go_wp2_with fail
            refine nxt_stay g6 (plan_two ?_)
            simp only [nths, nth, List.map_nil, List.getD_cons_zero, List.getD_cons_succ]
            refine wpQuiet_nil ?_
            constructor
            · go_wp2_with fail
              refine (lookUp_at _ c d ws n s (HD4.out.grown (gtr g5 g6)) hI (v / 2)).mono ?_; rintro e u7 ⟨rfl, g7⟩
              go_wp2_with fail
              refine nxt_stay (gtr g6 g7) (plan_one ?_)
              simp only [nths, nth, List.map_nil, List.getD_cons_zero, List.getD_cons_succ]
              refine wpQuiet_nil ?_
              go_wp2_with fail
              have g8 : Grown w5 (u7.alloc (.cells #[.int .i64 0, .int .u64 0, .int .i64 0, .int .i64 0, .int .u64 0, .int .u64 0, .int .i64 0, .int .u64 0] 102)) := gtr (gtr g6 g7) (by go_grown)
              refine nxt_stay g8 (plan_one ?_)
              simp only [nths, nth, List.map_nil, List.getD_cons_zero, List.getD_cons_succ]
              refine wpQuiet_nil ?_
              go_wp2_with (first | (refine store_box rfl 102 _ _ rfl u7.heap.size _ (Box.made u7 [.int .i64 0, .int .u64 0, .int .i64 0, .int .i64 0, .int .u64 0, .int .u64 0, .int .i64 0, .int .u64 0] 102) (nodeL c ws s (v / 2)).toArray rfl rfl rfl (by kernel_rfl) rfl ?_; intro u9 B9 q9) | fail)
              have hle : w5.heap.size ≤ u7.heap.size := (gtr g6 g7).2.2
              have g9 := But.fresh g8 q9 (fun i hi => by subst hi; exact hle)
              refine nxt_stay g9 (plan_fin ?_)
              simp only [nths, List.map_nil]
              refine wpQuiet_nil ?_
              go_wp2_with fail
              go_meet
              case rel => exact ⟨_, rfl, B9, gtr g5 g9, Nat.le_trans g5.2.2 hle⟩
            · go_wp2_with fail
              have g7 : Grown w5 (u6.alloc (.cells #[.int .i64 0, .int .u64 0, .int .i64 0, .int .i64 0, .int .u64 0, .int .u64 0, .int .i64 0, .int .u64 0] 102)) := gtr g6 (by go_grown)
              refine nxt_stay g7 (plan_one ?_)
              simp only [nths, nth, List.map_nil, List.getD_cons_zero, List.getD_cons_succ]
              refine wpQuiet_nil ?_
              go_wp2_with fail
              refine (lookUp_at _ c d ws n s (HD4.out.grown (gtr g5 g7)) hI (v / 2)).mono ?_; rintro e u8 ⟨rfl, g8⟩
              go_wp2_with fail
              refine nxt_stay (gtr g7 g8) (plan_one ?_)
              simp only [nths, nth, List.map_nil, List.getD_cons_zero, List.getD_cons_succ]
              refine wpQuiet_nil ?_
              go_wp2_with (first | (refine store_box rfl 102 _ _ rfl u6.heap.size _ ((Box.made u6 [.int .i64 0, .int .u64 0, .int .i64 0, .int .i64 0, .int .u64 0, .int .u64 0, .int .i64 0, .int .u64 0] 102).grown g8) (nodeL c ws s (v / 2)).toArray rfl rfl rfl (by kernel_rfl) rfl ?_; intro u9 B9 q9) | fail)
              have hle : w5.heap.size ≤ u6.heap.size := g6.2.2
              have g9 := But.fresh (gtr g7 g8) q9 (fun i hi => by subst hi; exact hle)
              refine nxt_stay g9 (plan_fin ?_)
              simp only [nths, List.map_nil]
              refine wpQuiet_nil ?_
              go_wp2_with fail
              go_meet
              case rel => exact ⟨_, rfl, B9, gtr g5 g9, Nat.le_trans g5.2.2 hle⟩
          · go_wp2_with fail
            have g6 : Grown w5 (w5.alloc (.cells #[.int .i64 0, .int .u64 0, .int .i64 0, .int .i64 0, .int .u64 0, .int .u64 0, .int .i64 0, .int .u64 0] 102)) := by go_grown
            refine nxt_stay g6 (plan_one ?_)
            simp only [nths, nth, List.map_nil, List.getD_cons_zero, List.getD_cons_succ]
            refine wpQuiet_nil ?_
            go_wp2_with fail
            refine (Index_any _ _ hv0 hv1).mono ?_; rintro e u7 ⟨rfl, g7⟩
            go_wp2_with fail
            refine nxt_stay (gtr g6 g7) (plan_one ?_)
            simp only [nths, nth, List.map_nil, List.getD_cons_zero, List.getD_cons_succ]
            refine wpQuiet_nil ?_
            go_wp2_with fail
            refine (lookUp_at _ c d ws n s (HD4.out.grown (gtr g5 (gtr g6 g7))) hI (v / 2)).mono ?_; rintro e u8 ⟨rfl, g8⟩
            go_wp2_with fail
            refine nxt_stay (gtr g6 (gtr g7 g8)) (plan_one ?_)
            simp only [nths, nth, List.map_nil, List.getD_cons_zero, List.getD_cons_succ]
            refine wpQuiet_nil ?_
            go_wp2_with (first | (refine store_box rfl 102 _ _ rfl w5.heap.size _ ((Box.made w5 [.int .i64 0, .int .u64 0, .int .i64 0, .int .i64 0, .int .u64 0, .int .u64 0, .int .i64 0, .int .u64 0] 102).grown (gtr g7 g8)) (nodeL c ws s (v / 2)).toArray rfl rfl rfl (by kernel_rfl) rfl ?_; intro u9 B9 q9) | fail)
            have hle : w5.heap.size ≤ w5.heap.size := Nat.le_refl _
            have g9 := But.fresh (gtr g6 (gtr g7 g8)) q9 (fun i hi => by subst hi; exact hle)
            refine nxt_stay g9 (plan_fin ?_)
            simp only [nths, List.map_nil]
            refine wpQuiet_nil ?_
            go_wp2_with fail
            go_meet
            case rel => exact ⟨_, rfl, B9, gtr g5 g9, Nat.le_trans g5.2.2 hle⟩
        case rest =>
          obtain ⟨bb, rfl, hB, gc, hbb⟩ := hcut
          have e0 := hB.cell 0 _ rfl
          have e1 := hB.cell 1 _ rfl
          have e2 := hB.cell 2 _ rfl
          have e3 := hB.cell 3 _ rfl
          have e4 := hB.cell 4 _ rfl
          have e5 := hB.cell 5 _ rfl
          have e6 := hB.cell 6 _ rfl
          have e7 := hB.cell 7 _ rfl
          have hx : chainI c ws b = pre ++ (v / 2) :: chainN c ws f (refOf c ws (v / 2)) := by rw [HC.out, HHch.out, HC1.out]
          obtain ⟨fn, tmps, assign, body, hy, hR⟩ := hY pre (v / 2) _ w4 wc hx J4 gc
          have HX := Lib.hid hx
          have HR := Lib.hid hR
          have HB := Lib.hid hB
          have HJ4 := Lib.hid J4
          clear hx hR hB J4
          dsimp only [nodeL] at hy
          gi_wp2_with fail
          refine HR.out.mono ?_
          have hnU : ¬ (U bb ∧ bb < w4.heap.size) := fun hu => by omega
          have hwl : bb < wc.heap.size := HB.out.lt
          clear e0 e2 e3 e4 e5 e6 e7 hy
          rintro e W3 (⟨rfl, hJ3, hk3⟩ | ⟨rfl, hJx3⟩)
          · replace e1 := hk3.cell hnU e1
            have K3' := HK4.out.grown gc
            have KN : ItK w0 W3 b1 b2 d.x b := ⟨hk3.fresh K3'.g (fun i hi => hU0 i hi.1), hk3.cell (fun hu => hU1 hu.1) K3'.c1, hk3.cell (fun hu => hU2 hu.1) K3'.c2⟩
            have hszN : W.heap.size ≤ W3.heap.size := Nat.le_trans hsz4 (Nat.le_trans gc.2.2 hk3.size)
            gi_wp2_with fail
            go_roundw
            case rel => exact ⟨pre ++ [v / 2], k + 1, refOf c ws (v / 2), by simp, rfl, by omega, by rw [show c.nodes - (k + 1) = f by omega, HHch.out, HC1.out]; simp, (hws _).1, (hws _).2, KN, hJ3, hszN⟩
            case measure => simp [intOf]; omega
          · gi_wp2_with fail
            refine bodyPost_ret (results_none rfl _ _ _) rfl ?_
            exact ⟨⟨_, rfl⟩, .inr ⟨pre ++ [v / 2], ⟨chainN c ws f (refOf c ws (v / 2)), by rw [HX.out]; simp⟩, hJx3⟩⟩
    · gi_wp2_with fail
      go_end0
      have hkk : c.nodes - k = 0 := by omega
      have hx : chainI c ws b = pre := by rw [HC.out, HHch.out, hkk]; simp [chainN]
      exact ⟨⟨_, rfl⟩, .inl (hx.symm ▸ JR)⟩
end Go.Proofs.YtagapfejgmmppaaGreat
