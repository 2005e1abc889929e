/- LookNew (corrielaw09), walked: a new world is sound, and has nothing; one that is nil isn't. -/
import Derived.Test.YtagapfejgmmppaaGreatAwake9
import Derived.Test.YtagapfejgmmppaaGreatFew
namespace Go.Proofs.YtagapfejgmmppaaGreat
open Go.ChangeShapes Go.WideShapes Go.ChangeAt Go.RowKit
set_option maxRecDepth 100000
set_option linter.unusedVariables false

theorem rd_zero (m : Nat) (i : Int) : rd (List.replicate m 0) i = 0 := by
  unfold rd
  split
  · simp only [List.getD_eq_getElem?_getD, List.getElem?_replicate]; split <;> rfl
  · rfl
theorem chain_zero (c : Cf) (b : Int) : chainI c (List.replicate c.len 0) b = [] := by
  unfold chainI firstOf refOf
  rw [rd_zero]
  cases c.nodes <;> simp [chainN]
theorem nodesTo_zero (c : Cf) : ∀ k, nodesTo c (List.replicate c.len 0) k = []
  | 0 => rfl
  | k + 1 => by unfold nodesTo; rw [nodesTo_zero c k, chain_zero]; rfl
theorem raw_zero (c : Cf) (s : St) : rawP c (List.replicate c.len 0) s = [] := by
  unfold rawP; rw [nodesTo_zero]; rfl
theorem snd_zero (c : Cf) (s : St) : ∀ k, sndTo c (List.replicate c.len 0) s k = true
  | 0 => rfl
  | k + 1 => by unfold sndTo; rw [snd_zero c s k]; unfold sndB; rw [chain_zero]; rfl
theorem wok_zero (m : Nat) : WOk (List.replicate m 0) := fun i => by rw [rd_zero]; omega

set_option maxHeartbeats 4000000 in
theorem law_LookNew (t b i f k bk : Int) (w : World) (_ : -9223372036854775808 ≤ t) (_ : t ≤ 9223372036854775807) (_ : -9223372036854775808 ≤ b) (_ : b ≤ 9223372036854775807) (_ : -9223372036854775808 ≤ i) (_ : i ≤ 9223372036854775807) (_ : -9223372036854775808 ≤ f) (_ : f ≤ 9223372036854775807) (_ : -9223372036854775808 ≤ k) (_ : k ≤ 9223372036854775807) (_ : -9223372036854775808 ≤ bk) (_ : bk ≤ 9223372036854775807) :
    Calls Tryz.prog 6 #[.agg #[.int .i64 t, .int .i64 b, .int .i64 i, .int .i64 f, .int .i64 k], .int .i64 bk] w fun e w' => e = .returned (.bool true) ∧ Grown w w' := by
  by_cases hz : zOk t b i f k = true
  · obtain ⟨c, rfl, rfl, rfl, rfl, rfl, hok⟩ := cf_of hz
    have HOK := Lib.hid hok
    have HHd : Hid (vHead c.t c.b c.i c.f c.k 0 = 1) := Lib.hid (by unfold vHead; rw [if_pos ⟨hz, by omega, by have := hok.b1; omega⟩]; rfl)
    have HC := Lib.hid (chain_zero c bk)
    have HP := Lib.hid (raw_zero c (St.new c))
    have HS := Lib.hid (snd_zero c (St.new c) c.b)
    have HW := Lib.hid (wok_zero c.len)
    clear hz hok
    go_enter Tryz.func6, Tryz.ntmps6
    go_wp2_with fail
    refine (awake_at _).mono ?_; rintro e w0 ⟨rfl, g0⟩
    have HB := Lib.hid ((Box.made w [.int .i64 c.t, .int .i64 c.b, .int .i64 c.i, .int .i64 c.f, .int .i64 c.k] 32).grown g0)
    have a0 := HB.out.cell 0 _ rfl
    have a1 := HB.out.cell 1 _ rfl
    have a2 := HB.out.cell 2 _ rfl
    have a3 := HB.out.cell 3 _ rfl
    have a4 := HB.out.cell 4 _ rfl
    replace g0 : Grown w w0 := gtr (by go_grown) g0
    go_wp2_with fail
    refine (wNew_at _ c HOK.out).mono ?_; rintro e w2 ⟨d, rfl, g2, h2, -, -, -, -⟩
    have HD := Lib.hid h2
    have G2 := Lib.hid (gtr g0 g2)
    have HB2 := Lib.hid (HB.out.grown g2)
    clear a0 a1 a2 a3 a4 g0 h2 HB g2
    go_wp2_with fail
    refine (Sound_at _ c d _ _ _ HD.out Inv.new HW.out).mono ?_; rintro e w3 ⟨rfl, g3⟩
    rw [HS.out]
    go_wp2_with fail
    refine (Pairs_at _ c d _ _ _ (HD.out.grown g3) Inv.new HW.out (by rw [HP.out]; decide)).mono ?_; rintro e w4 ⟨v, rfl, fp, g4⟩
    rw [HP.out] at fp
    rcases fp with ⟨-, -, rfl⟩ | ⟨h0, -⟩
    · go_wp2_with fail
      refine (Chain_at _ c d _ _ _ (HD.out.grown (gtr g3 g4)) Inv.new HW.out bk).mono ?_; rintro e w5 ⟨v, rfl, fl, -, g5⟩
      rw [HC.out] at fl
      rcases fl with ⟨-, -, rfl⟩ | ⟨h0, -⟩
      · have HB5 := HB2.out.grown (gtr g3 (gtr g4 g5))
        have a0 := HB5.cell 0 _ rfl
        have a1 := HB5.cell 1 _ rfl
        have a2 := HB5.cell 2 _ rfl
        have a3 := HB5.cell 3 _ rfl
        have a4 := HB5.cell 4 _ rfl
        clear HB5
        go_wp2_with fail
        refine (rHead_at _ _ _ _ _ _ _ _ HHd.out).mono ?_; rintro e w6 ⟨rfl, g6⟩
        clear a0 a1 a2 a3 a4
        go_wp2_with fail
        go_ret
        exact ⟨rfl, gtr G2.out (gtr g3 (gtr g4 (gtr g5 g6)))⟩
      · cases h0
    · cases h0
  · have HZ := Lib.hid hz
    clear hz
    go_enter Tryz.func6, Tryz.ntmps6
    go_wp2_with fail
    refine (awake_at _).mono ?_; rintro e w0 ⟨rfl, g0⟩
    have HB := Lib.hid ((Box.made w [.int .i64 t, .int .i64 b, .int .i64 i, .int .i64 f, .int .i64 k] 32).grown g0)
    have a0 := HB.out.cell 0 _ rfl
    have a1 := HB.out.cell 1 _ rfl
    have a2 := HB.out.cell 2 _ rfl
    have a3 := HB.out.cell 3 _ rfl
    have a4 := HB.out.cell 4 _ rfl
    replace g0 : Grown w w0 := gtr (by go_grown) g0
    go_wp2_with fail
    refine (wNew_bad t b i f k _ HZ.out).mono ?_; rintro e w2 ⟨rfl, g2⟩
    have G2 := Lib.hid (gtr g0 g2)
    clear a0 a1 a2 a3 a4 g0 HB g2
    go_wp2_with fail
    refine (Sound_nil _).mono ?_; rintro e w3 ⟨rfl, g3⟩
    go_wp2_with fail
    refine (Pairs_nil _).mono ?_; rintro e w4 ⟨v, rfl, fp, g4⟩
    rcases fp with ⟨-, -, rfl⟩ | ⟨h0, -⟩
    · go_wp2_with fail
      refine (Chain_nil _ bk).mono ?_; rintro e w5 ⟨v, rfl, fl, -, g5⟩
      rcases fl with ⟨-, -, rfl⟩ | ⟨h0, -⟩
      · go_wp2_with fail
        go_ret
        exact ⟨rfl, gtr G2.out (gtr g3 (gtr g4 g5))⟩
      · cases h0
    · cases h0
end Go.Proofs.YtagapfejgmmppaaGreat
