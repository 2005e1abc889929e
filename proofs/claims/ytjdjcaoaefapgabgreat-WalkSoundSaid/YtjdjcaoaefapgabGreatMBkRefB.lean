/- The document's answers for package book (corrieref07): Begin, Make. -/
import Derived.Test.YtjdjcaoaefapgabGreatMBkRef
import Derived.Deep.Cut
namespace Go.Proofs.YtjdjcaoaefapgabGreat
open Go.ChangeShapes Go.WideShapes Go.ChangeAt Go.RowKit
set_option maxRecDepth 100000
set_option linter.unusedVariables false
/-- The blocks of a call's own first n variables. -/
def Bx (b n : Nat) : Nat → Prop := fun i => b ≤ i ∧ i < b + n
theorem bx_not {b n i : Nat} (h : b + n ≤ i) : ¬ Bx b n i := fun q => by have := q.2; omega
/-- What Begin, Make and Do of the document tell: their slices; each of them is the one that came in, or lies in a new block. -/
def RTell (hi : Nat) (c : Cf) (r : St × Nat × Nat) (s1 s2 s3 s4 s5 : Value) (w : World) (e : Ending) (w' : World) : Prop :=
  ∃ t1 t2 t3 t4 t5, e = .returned (.tuple #[RV c t1 t2 t3 t4 t5, .int .i64 r.2.1, .int .i64 r.2.2]) ∧ RefS w' hi c r.1 t1 t2 t3 t4 t5 ∧ Grown w w' ∧
    (t1 = s1 ∨ FlatAt w' w.heap.size t1 (vNat r.1.calls) c.t) ∧ (t2 = s2 ∨ FlatAt w' w.heap.size t2 (vNat r.1.ins) c.t) ∧ (t3 = s3 ∨ FlatAt w' w.heap.size t3 (vNat r.1.made) c.t) ∧
    (t4 = s4 ∨ FlatAt w' w.heap.size t4 (flatC r.1.ops) r.1.ops.length) ∧ (t5 = s5 ∨ FlatAt w' w.heap.size t5 (flatN r.1.nodes) r.1.nodes.length)
/-- The cells of a row. -/
def RowIn (w : World) (g : Nat) (cells : List Value) : Prop := ∀ j u, cells[j]? = some u → w.cell? ⟨g, j, none⟩ = some u
theorem RowIn.but {S : Nat → Prop} {w w' : World} {g : Nat} {cells : List Value} (h : RowIn w g cells) (q : But S w w') (hs : ¬ S g) : RowIn w' g cells := fun j u hu => q.cell hs (h j u hu)
theorem RowIn.grown {w w' : World} {g : Nat} {cells : List Value} (h : RowIn w g cells) (q : Grown w w') : RowIn w' g cells := h.but (S := fun _ => False) q (fun f => f)
theorem RowIn.flat {w : World} {g lo n k : Nat} {cells : List Value} (h : RowIn w g cells) (hn : 0 < n) (hlo : lo ≤ g) : FlatAt w lo (.slice (some ⟨g, 0, none⟩) n k) cells n := .inr ⟨hn, g, k, rfl, hlo, h⟩
theorem RowIn.lt {w : World} {g : Nat} {cells : List Value} (h : RowIn w g cells) (h0 : 0 < cells.length) : g < w.heap.size := World.block_lt_of_cell? w _ (h 0 _ (List.getElem?_eq_getElem h0))
/-- What was written lies in S, or is new. -/
theorem But.over {S : Nat → Prop} {W a b : World} {g : Nat} (h : But S W a) (q : But (· = g) a b) (hg : ¬ g < W.heap.size) : But S W b := by
  refine ⟨⟨q.1.1.trans h.1.1, q.1.2.1.trans h.1.2.1, fun i hi => ?_⟩, fun x => (q.2.1 x).trans (h.2.1 x), Nat.le_trans h.2.2 q.2.2⟩
  rw [q.1.block (Nat.lt_of_lt_of_le hi h.2.2) (fun p hp hpi => by have : p.block = g := hp; omega)]
  exact h.1.2.2 i hi
theorem RowIn.made (w : World) (l : List Value) (t : TypeId) : RowIn (w.alloc (.cells l.toArray t)) w.heap.size l := fun j u hu => by rw [World.cell?_alloc_new]; simpa using hu
theorem wp_region_plant {P : Program} {id : Nat} {Q : Exit → Act → World → Prop} {a : Act} {w : World} {l : List Oper} (p : Plan) (hm : P.follows .mixedOrders = true)
    (hs : Region.noSelect l.toArray = true) (hB : planB l.toArray l.length p (Array.replicate l.length false) = true)
    (h : ∀ w1, Grown w w1 → Pl P l (fun a' w' => Q .normal a' w') p (fun _ => True) a w1) : (Code.region id l.toArray true).wp P Q a w :=
  wp_region_plan _ p hm hs hB trivial (h _ (Grown.refl w).drew)
theorem nxt_true {K : (World → Prop) → Act → World → Prop} {a : Act} {w : World} (h : K (fun _ => True) a w) : Nxt (fun _ => True) K .normal a w := ⟨rfl, _, fun _ h => h, trivial, h⟩
theorem vNat_len (l : List Nat) : (vNat l).length = l.length := by simp [vNat]
theorem boxes3 {w w1 : World} {l1 l2 l3 : List Value} {t1 t2 t3 : TypeId} (g : Grown (((w.alloc (.cells l1.toArray t1)).alloc (.cells l2.toArray t2)).alloc (.cells l3.toArray t3)) w1) :
    Box w1 w.heap.size l1 ∧ Box w1 (w.heap.size + 1) l2 ∧ Box w1 (w.heap.size + 1 + 1) l3 ∧ Grown w w1 := by
  have e1 : (w.alloc (.cells l1.toArray t1)).heap.size = w.heap.size + 1 := by simp
  have e2 : ((w.alloc (.cells l1.toArray t1)).alloc (.cells l2.toArray t2)).heap.size = w.heap.size + 1 + 1 := by simp
  refine ⟨((Box.made w l1 t1).grown (((Grown.refl _).alloc _ _).alloc _ _)).grown g, ?_, ?_, gtr ((((Grown.refl w).alloc _ _).alloc _ _).alloc _ _) g⟩
  · have := ((Box.made (w.alloc (.cells l1.toArray t1)) l2 t2).grown ((Grown.refl _).alloc _ _)).grown g
    rwa [e1] at this
  · have := (Box.made ((w.alloc (.cells l1.toArray t1)).alloc (.cells l2.toArray t2)) l3 t3).grown g
    rwa [e2] at this
theorem boxes2 {w w1 : World} {l1 l2 : List Value} {t1 t2 : TypeId} (g : Grown ((w.alloc (.cells l1.toArray t1)).alloc (.cells l2.toArray t2)) w1) :
    Box w1 w.heap.size l1 ∧ Box w1 (w.heap.size + 1) l2 ∧ Grown w w1 := by
  have e1 : (w.alloc (.cells l1.toArray t1)).heap.size = w.heap.size + 1 := by simp
  refine ⟨((Box.made w l1 t1).grown ((Grown.refl _).alloc _ _)).grown g, ?_, gtr (((Grown.refl w).alloc _ _).alloc _ _) g⟩
  have := (Box.made (w.alloc (.cells l1.toArray t1)) l2 t2).grown g
  rwa [e1] at this
theorem FlatAt.slice {w : World} {lo n : Nat} {v : Value} {cells : List Value} (h : FlatAt w lo v cells n) : ∃ A m k, v = .slice A m k := by
  rcases h with ⟨-, -, rfl⟩ | ⟨-, g, cap, rfl, -⟩ <;> exact ⟨_, _, _, rfl⟩
theorem FlatAt.some {w : World} {lo n : Nat} {v : Value} {cells : List Value} (h : FlatAt w lo v cells n) (hn : 0 < n) : ∃ g cap, v = .slice (some ⟨g, 0, none⟩) n cap ∧ lo ≤ g ∧ ∀ j u, cells[j]? = some u → w.cell? ⟨g, j, none⟩ = some u := by
  rcases h with ⟨h0, -⟩ | ⟨-, h⟩
  · omega
  · exact h
theorem rOp_nat {c : Cf} {w : World} (h : c.Ok) {i n : Nat} (hi : i < c.t) (hn : n < c.k) : vOp c.t c.b c.i c.f c.k i n = ((i * c.k + n : Nat) : Int) := vOp_nat h hi hn
theorem flatC_app (l : List (Nat × Cal)) (n : Nat) (x : Cal) : flatC (l ++ [(n, x)]) = flatC l ++ [.int .i64 (n : Int), .int .i64 x.kind, .int .u64 x.key, .int .u64 x.val, .int .i64 x.lim] := by simp [flatC]
theorem flatN_app (l : List (Nat × Nat)) (n m : Nat) : flatN (l ++ [(n, m)]) = flatN l ++ [.int .i64 (n : Int), .int .i64 (m : Int)] := by simp [flatN]

theorem five_one (op : Nat) (x : Cal) : ∀ u ∈ [Value.int .i64 (op : Int), .int .i64 x.kind, .int .u64 x.key, .int .u64 x.val, .int .i64 x.lim], u.oneCell' = true := by
  intro u hu
  simp only [List.mem_cons, List.not_mem_nil, or_false] at hu
  rcases hu with rfl | rfl | rfl | rfl | rfl <;> rfl
end Go.Proofs.YtjdjcaoaefapgabGreat
/- The document's answers for package book (corrieref07): Make, Do. -/
namespace Go.Proofs.YtjdjcaoaefapgabGreat
open Go.ChangeShapes Go.WideShapes Go.ChangeAt Go.RowKit
set_option maxRecDepth 100000
set_option linter.unusedVariables false
/-- Where a walk stands still. -/
def Stop (p : Prop) : Prop := p
theorem stop {p : Prop} (h : Stop p) : p := h
theorem two_one (a b : Nat) : ∀ u ∈ [Value.int .i64 (a : Int), .int .i64 (b : Int)], u.oneCell' = true := by
  intro u hu
  simp only [List.mem_cons, List.not_mem_nil, or_false] at hu
  rcases hu with rfl | rfl <;> rfl

end Go.Proofs.YtjdjcaoaefapgabGreat
/- The document's answers for package book (corrieref07): Make and Do, whatever the act. -/
namespace Go.Proofs.YtjdjcaoaefapgabGreat
open Go.ChangeShapes Go.WideShapes Go.ChangeAt Go.RowKit
set_option maxRecDepth 100000
set_option linter.unusedVariables false
/-- A slice whose row isn't block b. -/
def Off (v : Value) (b : Nat) : Prop := ∀ g n k, v = .slice (some ⟨g, 0, none⟩) n k → g ≠ b
theorem FlatAt.off {w : World} {lo n b : Nat} {v : Value} {cells : List Value} (h : FlatAt w lo v cells n) (hc : 0 < n → cells ≠ []) (hb : w.heap.size ≤ b) : Off v b := by
  intro g m k e
  rcases h with ⟨-, -, rfl⟩ | ⟨hn, g', cap, rfl, -, hcell⟩
  · cases e
  · cases e
    have hne := hc hn
    have := World.block_lt_of_cell? w _ (hcell 0 _ (List.getElem?_eq_getElem (List.length_pos_iff.2 hne)))
    have : g < w.heap.size := this
    omega
theorem FlatAt.offNew {w : World} {lo n b : Nat} {v : Value} {cells : List Value} (h : FlatAt w lo v cells n) (hb : b < lo) : Off v b := by
  intro g m k e
  rcases h with ⟨-, -, rfl⟩ | ⟨hn, g', cap, rfl, hlo, hcell⟩
  · cases e
  · cases e; omega
theorem FlatAt.offBut {w w' : World} {lo n b : Nat} {v : Value} {cells : List Value} (h : FlatAt w lo v cells n) (ho : Off v b) (q : But (· = b) w w') : FlatAt w' lo v cells n := by
  rcases h with h | ⟨h0, g, cap, rfl, hlo, hc⟩
  · exact .inl h
  · exact .inr ⟨h0, g, cap, rfl, hlo, fun j u hu => q.cell (ho g _ _ rfl) (hc j u hu)⟩
theorem vNat_ne {l : List Nat} {n : Nat} (h : l.length = n) : 0 < n → vNat l ≠ [] := fun hn e => by have := congrArg List.length e; simp [vNat] at this; subst this; simp at h; omega
end Go.Proofs.YtjdjcaoaefapgabGreat
