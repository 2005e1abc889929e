/- Package look: what is asked of a node; Pairs. -/
import Derived.Test.YtmokcgifknmchaaGreatMChain
import Derived.Test.YtmokcgifknmchaaGreatMSort
namespace Go.Proofs.YtmokcgifknmchaaGreat
open Go.ChangeShapes Go.WideShapes Go.ChangeAt Go.RowKit Go.Shelf
set_option maxRecDepth 100000
set_option linter.unusedVariables false
attribute [local go_sem] Oper.semAt_some
def stepP (c:Cf) (ws:List Int) (s:St) (acc:List Int × List (Int × Int)) (i:Int):List Int × List (Int × Int) :=
 if ((calAt s (opAt s i)).kind = 1 ∧ wrdOf c ws (opAt s i) = 1) ∧ opAt s i ∉ acc.1 then (addK acc.1 (opAt s i),acc.2 ++ [((calAt s (opAt s i)).key,(calAt s (opAt s i)).val)]) else acc
def foldN (c:Cf) (ws:List Int) (s:St) (l:List Int) (acc:List Int × List (Int × Int)):List Int × List (Int × Int):=l.foldl (stepP c ws s) acc
structure PrI (w0:World) (bp bt mb:Nat) (Z marks:List Nat) (v:Value) (acc:List Int × List (Int × Int)) (W:World):Prop where
 g:Grown w0 W
 box:Box W bp [v]
 tbl:W.cell? ⟨bt,0,none⟩ = some (.map (some mb))
 map:FlagAt W mb .i64 acc.1
 row:W.ownsRow w0.heap.size 106 2 v acc.2.length (flatP acc.2)
 nil:0 < acc.2.length ∨ v = .slice none 0 0
 far:∀ i,InRow v i → i ∉ Z
 mks:∀ D ∈ marks,W.heap[D]? = some (.deferred (some []))
theorem PrI.kept {w0 A C:World} {bp bt mb:Nat} {Z marks:List Nat} {v:Value} {acc:List Int × List (Int × Int)} {U:Nat → Prop} (h:PrI w0 bp bt mb Z marks v acc A) (q:Kept U A C) (h0:∀ i,U i → w0.heap.size ≤ i)
  (h1:¬ U bp) (h2:¬ U bt) (h3:¬ U mb) (h4:∀ i,InRow v i → ¬ U i) (h5:∀ D ∈ marks,¬ U D):PrI w0 bp bt mb Z marks v acc C :=
 ⟨q.fresh h.g h0,h.box.kept q h1,q.cell h2 h.tbl,h.map.kept q h3,own_kept h.row q h4,h.nil,h.far,fun D hD => (q.same D (Array.getElem?_eq_some_iff.1 (h.mks D hD)).1 (h5 D hD)).trans (h.mks D hD)⟩
theorem PrI.grown {w0 A C:World} {bp bt mb:Nat} {Z marks:List Nat} {v:Value} {acc:List Int × List (Int × Int)} (h:PrI w0 bp bt mb Z marks v acc A) (q:Grown A C):PrI w0 bp bt mb Z marks v acc C :=
 h.kept (Kept.of_grown (U:=fun _ => False) q) (fun _ f => f.elim) (fun f => f) (fun f => f) (fun f => f) (fun _ _ f => f) (fun _ _ f => f)
end Go.Proofs.YtmokcgifknmchaaGreat
namespace Go.Proofs.YtmokcgifknmchaaGreat
open Go.ChangeShapes Go.WideShapes Go.ChangeAt Go.RowKit
set_option maxRecDepth 100000
set_option linter.unusedVariables false
structure Ps where
 key:Int
 nodes:List Int
 ops:List Int
 opens:List Int
structure Nd where
 num:Int
 next:Int
 op:Int
 cal:Cal
 word:Int
def Nd.l (x:Nd):List Value:=[.int .i64 x.num,.int .u64 x.next,.int .i64 x.op,.int .i64 x.cal.kind,.int .u64 x.cal.key,.int .u64 x.cal.val,.int .i64 x.cal.lim,.int .u64 x.word]
def ndOf (c:Cf) (ws:List Int) (s:St) (i:Int):Nd:=⟨i,refOf c ws i,opAt s i,calAt s (opAt s i),wrdOf c ws (opAt s i)⟩
def bearsV (p:Ps) (x:Nd):Bool :=
 if x.num ∈ p.nodes ∨ x.cal.key < p.key then false
 else if x.op ∈ p.ops ∨ 2 ≤ x.word then true
 else !(x.next % 2 == 1) && !(decide (x.word = 1) && decide (x.cal.key ∈ p.opens))
def passV (p:Ps) (x:Nd):Ps:=⟨x.cal.key,addK p.nodes x.num,addK p.ops x.op,if 2 ≤ x.word then p.opens else addK p.opens x.cal.key⟩
structure PassAt (w:World) (b m1 m2 m3:Nat) (p:Ps):Prop where
 box:Box w b [.int .u64 p.key,.map (some m1),.map (some m2),.map (some m3)]
 f1:FlagAt w m1 .i64 p.nodes
 f2:FlagAt w m2 .i64 p.ops
 f3:FlagAt w m3 .u64 p.opens
 d12:m1 ≠ m2
 d13:m1 ≠ m3
 d23:m2 ≠ m3
theorem PassAt.b1 {w:World} {b m1 m2 m3:Nat} {p:Ps} (h:PassAt w b m1 m2 m3 p):b ≠ m1 ∧ b ≠ m2 ∧ b ≠ m3 :=
 ⟨h.f1.ne (h.box.cell 0 _ rfl),h.f2.ne (h.box.cell 0 _ rfl),h.f3.ne (h.box.cell 0 _ rfl)⟩
theorem PassAt.kept {U:Nat → Prop} {w w':World} {b m1 m2 m3:Nat} {p:Ps} (h:PassAt w b m1 m2 m3 p) (q:Kept U w w') (h0:¬ U b) (h1:¬ U m1) (h2:¬ U m2) (h3:¬ U m3):PassAt w' b m1 m2 m3 p :=
 ⟨h.box.kept q h0,h.f1.kept q h1,h.f2.kept q h2,h.f3.kept q h3,h.d12,h.d13,h.d23⟩
theorem PassAt.grown {w w':World} {b m1 m2 m3:Nat} {p:Ps} (h:PassAt w b m1 m2 m3 p) (q:Grown w w'):PassAt w' b m1 m2 m3 p :=
 h.kept (Kept.of_grown (U:=fun _ => False) q) (fun f => f) (fun f => f) (fun f => f) (fun f => f)
def PsOwn (b m1 m2 m3:Nat):Nat → Prop:=fun i => i = b ∨ i = m1 ∨ i = m2 ∨ i = m3
end Go.Proofs.YtmokcgifknmchaaGreat
namespace Go.Proofs.YtmokcgifknmchaaGreat
open Go.ChangeShapes Go.WideShapes Go.ChangeAt Go.RowKit Go.Shelf
set_option maxRecDepth 100000
set_option linter.unusedVariables false
attribute [local go_sem] Oper.semAt_some
def fitV (c:Cf) (b:Int) (p:Ps) (x:Nd):Bool:=decide (x.cal.kind = 1) && decide (zBucket x.cal.key c.b = b) && bearsV p x
def sndL (c:Cf) (ws:List Int) (s:St) (b:Int):Ps → List Int → Bool
 | _,[] => true
 | p,i :: r => if fitV c b p (ndOf c ws s i) = true then sndL c ws s b (passV p (ndOf c ws s i)) r else false
def ps0:Ps:=⟨0,[],[],[]⟩
structure SdI (w0:World) (rb b m1 m2 m3:Nat) (p:Ps) (W:World):Prop where
 g:Grown w0 W
 res:Box W rb [.bool false]
 ps:PassAt W b m1 m2 m3 p
theorem SdI.kept {U:Nat → Prop} {w0 A C:World} {rb b m1 m2 m3:Nat} {p:Ps} (h:SdI w0 rb b m1 m2 m3 p A) (q:Kept U A C) (h0:∀ i,U i → w0.heap.size ≤ i) (h1:¬ U rb) (h2:∀ i,PsOwn b m1 m2 m3 i → ¬ U i):SdI w0 rb b m1 m2 m3 p C :=
 ⟨q.fresh h.g h0,h.res.kept q h1,h.ps.kept q (h2 _ (.inl rfl)) (h2 _ (.inr (.inl rfl))) (h2 _ (.inr (.inr (.inl rfl)))) (h2 _ (.inr (.inr (.inr rfl))))⟩
theorem SdI.grown {w0 A C:World} {rb b m1 m2 m3:Nat} {p:Ps} (h:SdI w0 rb b m1 m2 m3 p A) (q:Grown A C):SdI w0 rb b m1 m2 m3 p C :=
 h.kept (Kept.of_grown (U:=fun _ => False) q) (fun _ f => f.elim) (fun f => f) (fun _ _ f => f)
end Go.Proofs.YtmokcgifknmchaaGreat
namespace Go.Proofs.YtmokcgifknmchaaGreat
open Go.ChangeShapes Go.WideShapes Go.ChangeAt Go.RowKit Go.Shelf
set_option maxRecDepth 100000
set_option linter.unusedVariables false
attribute [local go_sem] Oper.semAt_some
end Go.Proofs.YtmokcgifknmchaaGreat
