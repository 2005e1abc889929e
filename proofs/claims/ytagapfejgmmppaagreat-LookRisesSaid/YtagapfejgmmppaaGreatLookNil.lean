/- Package look: Sound; and a world that is nil. -/
import Derived.Test.YtagapfejgmmppaaGreatSound
namespace Go.Proofs.YtagapfejgmmppaaGreat
open Go.ChangeShapes Go.WideShapes Go.ChangeAt Go.RowKit Go.Shelf
set_option maxRecDepth 100000
set_option linter.unusedVariables false
attribute [local go_sem] Oper.semAt_some

def sndTo (c : Cf) (ws : List Int) (s : St) : Nat → Bool
  | 0 => true
  | k + 1 => sndTo c ws s k && sndB c ws s k
theorem sndTo_le (c : Cf) (ws : List Int) (s : St) (k : Nat) (h : sndB c ws s k = false) : ∀ m, k < m → sndTo c ws s m = false
  | m + 1, hm => by
    unfold sndTo
    by_cases hk : k = m
    · subst hk; rw [h, Bool.and_false]
    · rw [sndTo_le c ws s k h m (by omega), Bool.false_and]

theorem Sound_at (w : World) (c : Cf) (d : Wd) (ws : List Int) (n : Int) (s : St) (h : WdAt w c d ws n s) (hI : Inv c s) (hws : WOk ws) :
    Calls Tryz.prog 20 #[.pointer (some ⟨d.x, 0, none⟩)] w fun e w' => e = .returned (.bool (sndTo c ws s c.b)) ∧ Grown w w' := by
  obtain ⟨V, hV⟩ : ∃ V, sndTo c ws s c.b = V := ⟨_, rfl⟩
  rw [hV]
  have HV := Lib.hid hV
  have HD := Lib.hid h
  have hb64 : (c.b : Int) ≤ 64 := by have := h.book.ok.b64; omega
  clear h hV
  go_enter Tryz.func20, Tryz.ntmps20
  go_wp2_with fail
  refine (buckets_at _ c d ws n s HD.out).mono ?_; rintro e w1 ⟨rfl, g1⟩
  go_wp2_with fail
  go_loopw [8] (fun s8 wr => ∃ k : Nat, s8 = .int .i64 (k : Int) ∧ k ≤ c.b ∧ sndTo c ws s k = true ∧ Grown w wr) (fun s8 _ => c.b - (intOf s8).toNat)
  case atStart => exact ⟨0, rfl, Nat.zero_le _, rfl, g1⟩
  case round =>
    obtain ⟨k, rfl, hk, hs, hg⟩ := hrel
    have HS := Lib.hid hs
    clear hs
    by_cases hkb : k < c.b
    · have hlt : (k : Int) < (c.b : Int) := by omega
      go_wp2_with fail
      refine (soundBucket_at _ c d ws n s (HD.out.grown hg) hI hws k).mono ?_; rintro e w2 ⟨rfl, g2⟩
      obtain ⟨v, hv⟩ : ∃ v, sndB c ws s k = v := ⟨_, rfl⟩
      rw [hv]
      have HVk := Lib.hid hv
      clear hv
      cases v
      · go_wp2_with fail
        go_ret
        exact ⟨ret_bool (by rw [← HV.out, sndTo_le c ws s k HVk.out c.b hkb]), gtr hg g2⟩
      · go_wp2_with fail
        refine ⟨⟨k + 1, by simp, hkb, ?_, gtr hg g2⟩, by simp [intOf]; omega⟩
        unfold sndTo
        rw [HS.out, HVk.out]; rfl
    · have hlt : ¬ (k : Int) < (c.b : Int) := by omega
      have HK : Hid (k = c.b) := Lib.hid (by omega)
      clear hkb
      go_wp2_with fail
      go_ret
      exact ⟨ret_bool (by rw [← HV.out, ← HK.out, HS.out]), hg⟩
theorem Sound_nil (w : World) : Calls Tryz.prog 20 #[.pointer none] w fun e w' => e = .returned (.bool false) ∧ Grown w w' := by
  go_enter Tryz.func20, Tryz.ntmps20
  go_wp2
  go_ret
  exact ⟨rfl, by go_grown⟩

theorem nodes1_nil (w : World) (b1 : Nat) (v2 : Value) (c1 : w.cell? ⟨b1, 0, none⟩ = some (.pointer none)) (U : Nat → Prop) :
    Iter Tryz.prog 89 #[.pointer (some ⟨b1, 0, none⟩), v2] (fun _ : Int => #[.int .i64 0]) [] U w := by
  intro l J Jx W gW hJ hJx hY h0
  have c1' := gcell gW c1
  refine callsIn_of_wp Tryz.func89 rfl trivial ?_ rfl
  simp only [Tryz.ntmps89, List.size_toArray, List.length_cons, List.length_nil, Nat.reduceAdd, Nat.reduceSub, Array.replicate_succ, Array.replicate_zero, List.push_toArray, List.append_toArray, List.nil_append, List.cons_append]
  gi_wp2_with fail
  refine bodyPost_ret (results_none rfl _ _ _) rfl ?_
  exact ⟨⟨_, rfl⟩, .inl h0⟩

theorem Chain_nil (w : World) (b : Int) : Calls Tryz.prog 14 #[.pointer none, .int .i64 b] w (ChainTold w []) := by
  refine (callsIn_wide (n := 9)).1 ?_
  refine callsIn_of_wp_marks Tryz.func14 rfl trivial ?_ rfl
  simp only [Tryz.ntmps14, List.size_toArray, List.length_cons, List.length_nil, Nat.reduceAdd, Nat.reduceSub, Array.replicate_succ, Array.replicate_zero, List.push_toArray, List.append_toArray, List.nil_append, List.cons_append]
  gi_wp2_with (first | (refine ⟨trivial, ?_⟩; gi_at_call 40; refine (callsIn_wide.2 (nodes_at _ _ _)).mono ?_; rintro e w1 ⟨b1, b2, rfl, c1, c2, hb1, hb2, g1⟩) | fail)
  have B0 := (Box.made w [.slice none 0 0] 36).grown g1
  have G1 : Grown w w1 := galloc g1
  have hlw := G1.2.2
  have hbl := B0.lt
  refine range_law (gf := 89) (lb := #[.pointer (some ⟨b1, 0, none⟩), .pointer (some ⟨b2, 0, none⟩)]) rfl (fun _ _ => rfl)
    (nodes1_nil w1 b1 _ c1 (fun _ => True)) trivial (fun _ => rfl)
    (fun pre W => Grown w W ∧ Box W w.heap.size [.slice none 0 0]) (fun _ _ _ => False) ?hI (fun _ _ _ _ h _ => h) ⟨G1, B0⟩ (fun pre x post A W hx => by simp at hx) ?done (fun _ _ _ _ h _ _ => h.elim)
  case hI =>
    rintro pre A C ⟨hg, hb⟩ q
    exact ⟨q.fresh hg (fun i hi => by omega), hb.kept q (by omega)⟩
  case done =>
    rintro W ⟨hg, hb⟩ hdd hWr
    have c0 := hb.cell 0 _ rfl
    dsimp only
    gi_wp2_with fail
    refine leaves_marks [w1.heap.size] _ (by simp) (fun D hD => ?_) (fun W' q => ?_)
    · simp only [List.mem_singleton] at hD
      subst hD
      exact hdd
    · refine ⟨_, results_tmp rfl _ _ _,   .slice none 0 0, rfl, .inl ⟨rfl, rfl, rfl⟩, .inl ⟨rfl, rfl, rfl⟩, q.fresh hg (fun i hi => by simp at hi; omega)⟩

theorem Pairs_nil (w : World) : Calls Tryz.prog 18 #[.pointer none] w (PairsTold w []) := by
  refine (callsIn_wide (n := 9)).1 ?_
  refine callsIn_of_wp_marks Tryz.func18 rfl trivial ?_ rfl
  simp only [Tryz.ntmps18, List.size_toArray, List.length_cons, List.length_nil, Nat.reduceAdd, Nat.reduceSub, Array.replicate_succ, Array.replicate_zero, List.push_toArray, List.append_toArray, List.nil_append, List.cons_append]
  have hmm := flag_make (P := Tryz.prog)
  gi_wp2_with fail
  have G0 : Grown w (((w.alloc (.cells #[.slice none 0 0] 59)).alloc (.map #[] 0)).alloc (.cells #[.map (some (w.heap.size + 1))] 114)) := gtr (show Grown w (w.alloc (.cells #[.slice none 0 0] 59)) by go_grown) (gtr (grown_map _) (show Grown ((w.alloc (.cells #[.slice none 0 0] 59)).alloc (.map #[] 0)) (((w.alloc (.cells #[.slice none 0 0] 59)).alloc (.map #[] 0)).alloc (.cells #[.map (some (w.heap.size + 1))] 114)) by go_grown))
  have cP : (((w.alloc (.cells #[.slice none 0 0] 59)).alloc (.map #[] 0)).alloc (.cells #[.map (some (w.heap.size + 1))] 114)).cell? ⟨w.heap.size, 0, none⟩ = some (.slice none 0 0) :=
    gcell (gtr (grown_map _) (show Grown ((w.alloc (.cells #[.slice none 0 0] 59)).alloc (.map #[] 0)) (((w.alloc (.cells #[.slice none 0 0] 59)).alloc (.map #[] 0)).alloc (.cells #[.map (some (w.heap.size + 1))] 114)) by go_grown)) (show (w.alloc (.cells #[.slice none 0 0] 59)).cell? ⟨w.heap.size, 0, none⟩ = some (.slice none 0 0) by simp [go_sem])
  refine ⟨trivial, ?_⟩
  refine (callsIn_wide.2 (buckets_nil _)).mono ?_
  rintro e w1 ⟨rfl, g1⟩
  replace cP := gcell g1 cP
  replace G0 := gtr G0 g1
  gi_wp2_with fail
  refine wpIn_loop_rounds 1 ?_
  rw [roundsIn_succ]
  gi_wp2_with fail
  refine ⟨trivial, ?_⟩
  refine (callsIn_wide.2 (sortStable_at w1 w.heap.size 0 (.slice none 0 0) [] rfl (by decide) (own_nil _ _ _ _) (.inr rfl))).mono ?_
  rintro e w3 ⟨rfl, r3, q3⟩
  have q3' : Grown w1 w3 := But.fresh (Grown.refl _) q3 (fun i hi => by cases hi)
  replace cP := gcell q3' cP
  replace G0 := gtr G0 q3'
  gi_wp2_with fail
  exact leaves_marks [] w3 List.nodup_nil (fun D hD => by simp at hD) (fun W' q => ⟨_, results_tmp rfl _ _ _, .slice none 0 0, rfl, .inl ⟨rfl, rfl, rfl⟩, q.fresh G0 (fun i hi => by simp at hi)⟩)
end Go.Proofs.YtagapfejgmmppaaGreat
