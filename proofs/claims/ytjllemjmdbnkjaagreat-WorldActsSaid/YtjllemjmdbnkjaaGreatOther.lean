/- The laws of package book: acts, one behind the other. -/
import Derived.Test.YtjllemjmdbnkjaaGreatNewB
namespace Go.Proofs.YtjllemjmdbnkjaaGreat
open Go.ChangeShapes Go.WideShapes Go.ChangeAt Go.RowKit
set_option maxRecDepth 100000
set_option linter.unusedVariables false
/-- A variable that is no block of a book's may be written. -/
theorem BookAt.other {w w' : World} {c : Cf} {a : Ad} {s : St} {T : Nat} {z : Int} (h : BookAt w c a s) (q : But (· = T) w w') (hT : ¬ (a.lo ≤ T ∧ T < a.hi)) (h1 : w.cell? ⟨T, 1, none⟩ = some (.int .i64 z)) : BookAt w' c a s := by
  have o1 := h.o1; have o2 := h.o2; have o3 := h.o3; have o4 := h.o4; have o5 := h.o5; have o6 := h.o6
  have hp : ¬ a.p = T := by omega
  refine ⟨h.ok, q.cell hp h.c0, q.cell hp h.c1, q.cell hp h.c2, q.cell hp h.c3, q.cell hp h.c4, q.cell hp h.c5, q.cell hp h.c6, q.cell hp h.c7,
    h.mw.but q (fun e => h.mw.ne h1 e.symm), h.mc.but q (fun e => h.mc.ne h1 e.symm), h.mn.but q (fun e => h.mn.ne h1 e.symm),
    fun j hj => q.cell (show ¬ a.bw + j = T by omega) (h.w0 j hj), fun j hj => q.cell (show ¬ a.bw + j = T by omega) (h.w1 j hj), fun j hj => q.cell (show ¬ a.bw + j = T by omega) (h.w2 j hj), fun j hj => q.cell (show ¬ a.bw + j = T by omega) (h.w3 j hj),
    fun j o hj => q.frozen (h.wf j o hj), fun n hn => ?_, fun n hn => q.frozen (h.sf n hn), fun n hn => ?_, fun n hn => q.frozen (h.nf n hn), o1, o2, o3, o4, o5, Nat.le_trans o6 q.2.2⟩
  · have hb : ¬ a.bc + n = T := by omega
    have hs := h.sc n hn
    cases e : look s.ops n with
    | none => rw [e] at hs; exact q.cell hb hs
    | some y =>
      rw [e] at hs
      obtain ⟨r, h0, h2, h3, h4, h5, h6, h7⟩ := hs
      have hr : ¬ r = T := fun e => by rw [e, h1] at h4; cases h4
      exact ⟨r, h0, q.cell hb h2, q.cell hr h3, q.cell hr h4, q.cell hr h5, q.cell hr h6, q.shape hr h7⟩
  · have hb : ¬ a.bn + n = T := by omega
    have hs := h.sn n hn
    cases e : look s.nodes n with
    | none => rw [e] at hs; exact q.cell hb hs
    | some y =>
      rw [e] at hs
      obtain ⟨r, h0, h2, h3, h4⟩ := hs
      have hr : ¬ r = T := fun e => by
        subst e
        obtain ⟨e', n', hsh, hlt, -⟩ := World.shape?_of_cell? h1
        rw [h4] at hsh
        cases hsh
        simp at hlt
      exact ⟨r, h0, q.cell hb h2, q.cell hr h3, q.shape hr h4⟩
end Go.Proofs.YtjllemjmdbnkjaaGreat
