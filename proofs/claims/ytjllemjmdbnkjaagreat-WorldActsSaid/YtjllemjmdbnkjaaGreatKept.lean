/- Regions that draw their order and write a part of a block of which they read another part: laws, over any program. -/
import Derived.Test.YtjllemjmdbnkjaaGreatBox
import Derived.Test.YtjllemjmdbnkjaaGreatPlan
namespace Go.Proofs.YtjllemjmdbnkjaaGreat
open Go.ChangeShapes Go.WideShapes Go.ChangeAt Go.RowKit
set_option maxRecDepth 100000
/-- A world that has grown out of W, but for blocks in S, of which cells in K are as they were. -/
structure KeptW (S : Nat → Prop) (K : Nat → Nat → Prop) (W : World) : Type where
  w : World
  gr : But S W w
  keep : ∀ i o v, K i o → W.cell? ⟨i, o, none⟩ = some v → w.cell? ⟨i, o, none⟩ = some v
instance (S : Nat → Prop) (K : Nat → Nat → Prop) (W : World) : Nonempty (KeptW S K W) := ⟨⟨W, But.refl S W, fun _ _ _ _ h => h⟩⟩
theorem KeptW.cell {S : Nat → Prop} {K : Nat → Nat → Prop} {W : World} {i o : Nat} {v : Value} (hk : K i o) (k : W.cell? ⟨i, o, none⟩ = some v) (g : KeptW S K W) : g.w.cell? ⟨i, o, none⟩ = some v := g.keep i o v hk k
theorem KeptW.out {S : Nat → Prop} {K : Nat → Nat → Prop} {W : World} {i o : Nat} {v : Value} (hs : ¬ S i) (k : W.cell? ⟨i, o, none⟩ = some v) (g : KeptW S K W) : g.w.cell? ⟨i, o, none⟩ = some v := g.gr.cell hs k
section
variable {P : Program}
theorem wp_region_plank {id : Nat} {Q : Exit → Act → World → Prop} {a : Act} {w : World} {l : List Oper} (B : Nat → Prop) (K : Nat → Nat → Prop) (p : Plan) (hm : P.follows .mixedOrders = true)
    (hs : Region.noSelect l.toArray = true) (hB : planB l.toArray l.length p (Array.replicate l.length false) = true)
    (h : ∀ w1, Grown w w1 → Pl P l (fun a' w' => Q .normal a' w') p (fun w' => ∃ g : KeptW B K w1, w' = g.w) a w1) : (Code.region id l.toArray true).wp P Q a w :=
  wp_region_plan _ p hm hs hB ⟨⟨w.drew, But.refl B _, fun _ _ _ _ h => h⟩, rfl⟩ (h _ (Grown.refl w).drew)
theorem nxt_kept {B : Nat → Prop} {F : Nat → Nat → Prop} {w0 : World} {K : (World → Prop) → Act → World → Prop} {a : Act} {w : World} (hg : But B w0 w) (hk : ∀ i o v, F i o → w0.cell? ⟨i, o, none⟩ = some v → w.cell? ⟨i, o, none⟩ = some v)
    (h : K (fun w' => ∃ g : KeptW B F w0, w' = g.w) a w) : Nxt (fun w' => ∃ g : KeptW B F w0, w' = g.w) K .normal a w :=
  ⟨rfl, _, fun _ h => h, ⟨⟨w, hg, hk⟩, rfl⟩, h⟩
theorem nxt_keptg {B : Nat → Prop} {F : Nat → Nat → Prop} {w0 : World} {K : (World → Prop) → Act → World → Prop} {a : Act} {w : World} (hg : Grown w0 w)
    (h : K (fun w' => ∃ g : KeptW B F w0, w' = g.w) a w) : Nxt (fun w' => ∃ g : KeptW B F w0, w' = g.w) K .normal a w :=
  nxt_kept (But.of_grown hg) (fun _ _ _ _ h => gcell hg h) h
end
theorem keep1 {w w' : World} {a : Addr} {u v : Value} (h : w.cell? a = some u) (k : w.cell? a = some v) (h' : w'.cell? a = some u) : w'.cell? a = some v := by
  rw [h] at k; cases k; exact h'
/-- Of a block that lies there as a list, and then as another list that is the same so far: those cells are kept. -/
theorem Box.keep {w w' : World} {b n : Nat} {l l' : List Value} (h : Box w b l) (h' : Box w' b l') (he : l.take n = l'.take n) (hn : n ≤ l.length) : ∀ i o v, (i = b ∧ o < n) → w.cell? ⟨i, o, none⟩ = some v → w'.cell? ⟨i, o, none⟩ = some v := by
  rintro i o v ⟨rfl, ho⟩ hv
  have hl : l[o]? = some l[o] := List.getElem?_eq_getElem (by omega)
  have h2 : l'[o]? = some l[o] := by
    have h3 : (l.take n)[o]? = (l'.take n)[o]? := by rw [he]
    rw [List.getElem?_take_of_lt ho, List.getElem?_take_of_lt ho] at h3
    rw [← h3, hl]
  exact keep1 (h.cell o _ hl) hv (h'.cell o _ h2)
end Go.Proofs.YtjllemjmdbnkjaaGreat
