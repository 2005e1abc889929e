/- Something laid in both worlds, the program's and the document's (corrielaw09.act, corrielaw10.act). -/
import Derived.Test.YtcogckjpmmjmbaaGreatQCGMRS
import Derived.Test.YtcogckjpmmjmbaaGreatQCMWRef
import Derived.Test.YtcogckjpmmjmbaaGreatQCGMRoute
import Derived.Test.YtcogckjpmmjmbaaGreatQCMWorld
import Derived.Test.YtcogckjpmmjmbaaGreatQCRLaid
namespace Go.Proofs.YtcogckjpmmjmbaaGreat
open Go.ChangeShapes Go.WideShapes Go.ChangeAt Go.RowKit
set_option maxRecDepth 100000
set_option linter.unusedVariables false
structure ActX where
 k:Int
 i:Int
 op:Int
 old:Int
 v:Int
def ActX.l (x:ActX):List Value:=[.int .u8 x.k,.int .i64 x.i,.int .u16 x.op,.int .u64 x.old,.int .u64 x.v]
def ActsX (w:World) (bb off m:Nat) (act:Nat → ActX):Prop :=
 ∀ j,j < m → w.cell? ⟨bb,off + j * 5,none⟩ = some (.int .u8 (act j).k) ∧ w.cell? ⟨bb,off + j * 5 + 1,none⟩ = some (.int .i64 (act j).i) ∧ w.cell? ⟨bb,off + j * 5 + 2,none⟩ = some (.int .u16 (act j).op) ∧
  w.cell? ⟨bb,off + j * 5 + 3,none⟩ = some (.int .u64 (act j).old) ∧ w.cell? ⟨bb,off + j * 5 + 4,none⟩ = some (.int .u64 (act j).v) ∧ (0 ≤ (act j).k ∧ (act j).k ≤ 255) ∧ (0 ≤ (act j).v ∧ (act j).v ≤ 18446744073709551615)
theorem ActsX.but {S:Nat → Prop} {w w':World} {bb off m:Nat} {act:Nat → ActX} (h:ActsX w bb off m act) (g:But S w w') (hS:¬ S bb):ActsX w' bb off m act:=fun j hj => by
 obtain ⟨h0,h1,h2,h3,h4,h5⟩:=h j hj
 exact ⟨g.cell hS h0,g.cell hS h1,g.cell hS h2,g.cell hS h3,g.cell hS h4,h5⟩
theorem ActsX.grown {w w':World} {bb off m:Nat} {act:Nat → ActX} (h:ActsX w bb off m act) (g:Grown w w'):ActsX w' bb off m act:=h.but (S:=fun _ => False) g (fun f => f)
theorem actsX_of {w:World} {bb off m:Nat} (h:NumsAt w bb off m [.u8,.i64,.u16,.u64,.u64]):∃ act,ActsX w bb off m act:=by
 have key:∀ j,∃ x:ActX,j < m → w.cell? ⟨bb,off + j * 5,none⟩ = some (.int .u8 x.k) ∧ w.cell? ⟨bb,off + j * 5 + 1,none⟩ = some (.int .i64 x.i) ∧ w.cell? ⟨bb,off + j * 5 + 2,none⟩ = some (.int .u16 x.op) ∧
   w.cell? ⟨bb,off + j * 5 + 3,none⟩ = some (.int .u64 x.old) ∧ w.cell? ⟨bb,off + j * 5 + 4,none⟩ = some (.int .u64 x.v) ∧ (0 ≤ x.k ∧ x.k ≤ 255) ∧ (0 ≤ x.v ∧ x.v ≤ 18446744073709551615):=by
  intro j
  by_cases hj:j < m
  ·obtain ⟨a,ha,wa⟩:=h j hj 0 _ rfl
   obtain ⟨b,hb,-⟩:=h j hj 1 _ rfl
   obtain ⟨c,hc,-⟩:=h j hj 2 _ rfl
   obtain ⟨d,hd,-⟩:=h j hj 3 _ rfl
   obtain ⟨e,he,we⟩:=h j hj 4 _ rfl
   exact ⟨⟨a,b,c,d,e⟩,fun _ => ⟨ha,hb,hc,hd,he,has_u8 wa,has_u64 we⟩⟩
  ·exact ⟨⟨0,0,0,0,0⟩,fun h => absurd h hj⟩
 exact ⟨fun j => Classical.choose (key j),fun j hj => Classical.choose_spec (key j) hj⟩
def actX (c:Cf) (set:Bool) (ws:List Int) (n:Int) (x:ActX):List Int × Int :=
 if set then (wr ws (nxtI c x.i) x.v,n + cnt ws (nxtI c x.i)) else (sw ws (wrdI c x.i) x.old x.v,n + cnt ws (wrdI c x.i))
theorem actX_len (c:Cf) (set:Bool) (ws:List Int) (n:Int) (x:ActX):(actX c set ws n x).1.length = ws.length:=by
 unfold actX;split
 ·exact length_wr _ _ _
 ·exact length_sw _ _ _ _
theorem actX_n (c:Cf) (set:Bool) (ws:List Int) (n:Int) (x:ActX):n ≤ (actX c set ws n x).2 ∧ (actX c set ws n x).2 ≤ n + 1:=by
 unfold actX;split
 ·have:=cnt_le ws (nxtI c x.i);simp only;omega
 ·have:=cnt_le ws (wrdI c x.i);simp only;omega
theorem actX_ok (c:Cf) (set:Bool) (ws:List Int) (n:Int) (x:ActX) (h:WOk ws) (h0:0 ≤ x.v) (h1:x.v ≤ 18446744073709551615):WOk (actX c set ws n x).1:=by
 unfold actX;split
 ·exact h.wr _ _ h0 h1
 ·exact h.sw _ _ _ h0 h1
structure DV (hi:Nat) (c:Cf) (T:Nat) (ws:List Int) (n:Int) (s:St) (bk cp:Nat) (sl:Sl) (w:World):Prop where
 box:Box w T (RwL c bk c.len cp n sl)
 holds:Holds w bk ws
 len:ws.length = c.len
 refs:RefH w hi c s sl
 lo:hi ≤ bk
 off:OffS sl T
 ne:bk ≠ T
theorem DV.but {S:Nat → Prop} {hi:Nat} {c:Cf} {T:Nat} {w w':World} {ws:List Int} {n:Int} {s:St} {bk cp:Nat} {sl:Sl} (h:DV hi c T ws n s bk cp sl w) (q:But S w w') (h1:∀ i,hi ≤ i → ¬ S i) (h2:¬ S T):DV hi c T ws n s bk cp sl w' :=
 ⟨h.box.but q h2,h.holds.but q (h1 _ h.lo),h.len,RefS.but h.refs q h1,h.lo,h.off,h.ne⟩
theorem DV.grown {hi:Nat} {c:Cf} {T:Nat} {w w':World} {ws:List Int} {n:Int} {s:St} {bk cp:Nat} {sl:Sl} (h:DV hi c T ws n s bk cp sl w) (g:Grown w w'):DV hi c T ws n s bk cp sl w' :=
 h.but (S:=fun _ => False) g (fun _ _ f => f) (fun f => f)
theorem DV.words {hi:Nat} {c:Cf} {T:Nat} {w w2:World} {ws ws':List Int} {n n':Int} {s:St} {bk bk' cp cp':Nat} {sl:Sl} (h:DV hi c T ws n s bk cp sl w) (hh:Holds w bk' ws') (hl:ws'.length = ws.length) (hlo:hi ≤ bk') (hn:bk' ≠ T) (hq:But (· = T) w w2)
  (hb:Box w2 T (RwL c bk' c.len cp' n' sl)):DV hi c T ws' n' s bk' cp' sl w2 :=
 ⟨hb,hh.but hq hn,hl.trans h.len,RefH.put h.refs h.off hq,hlo,h.off,hn⟩
theorem WdAt.oth {w w':World} {c:Cf} {d:Wd} {ws:List Int} {n:Int} {s:St} {T:Nat} {z:Int} (h:WdAt w c d ws n s) (q:But (fun i => i = T) w w') (hT:d.a.hi ≤ T) (hm:¬ Mine d.p d.b T) (hx:¬ d.x = T)
  (h1:w.cell? ⟨T,1,none⟩ = some (.int .i64 z)):WdAt w' c d ws n s:=by
 have hp:¬ d.p = T:=fun e => hm (.inl e.symm)
 have hb:¬ d.b = T:=fun e => hm (.inr e.symm)
 have B:=h.bank
 exact ⟨q.cell hx h.k0,q.cell hx h.k1,q.cell hx h.k2,q.cell hx h.k3,q.cell hx h.k4,q.cell hx h.k5,q.cell hx h.k6,
  ⟨q.cell hp B.words,q.cell hp B.steps,fun i j hij => q.frozen (B.free i j hij),fun j hj => q.cell hb (B.cells j hj),B.apart,Nat.lt_of_lt_of_le B.ltb q.2.2,B.few⟩,
  h.book.other q (by omega) h1,h.len,h.mine,h.o1,h.o2,h.o3⟩
theorem act_end {w w2 w3:World} {c:Cf} {d:Wd} {ws ws':List Int} {n n':Int} {s:St} {R:Nat} {z:Int} (h:WdAt w c d ws n s) (q:But (Mine d.p d.b) w w2) (h2:WdAt w2 c d ws' n' s) (hR:w.heap.size ≤ R) (h1:w2.cell? ⟨R,1,none⟩ = some (.int .i64 z)) (q3:But (fun i => i = R) w2 w3) :
  But (Mine d.p d.b) w w3 ∧ WdAt w3 c d ws' n' s :=
 ⟨((q.mono (fun _ h => .inl h)).trans (q3.mono (fun _ h => .inr h)):But (fun i => Mine d.p d.b i ∨ i = R) w w3).only hR,h2.oth q3 (Nat.le_trans h.book.o6 hR) (h.new hR) (fun e => by have:=h.xlt;omega) h1⟩
def ActTold (c:Cf) (d:Wd) (sl:Sl) (b0 q:Nat) (ws:List Int) (n:Int) (s:St) (w:World) (e:Ending) (w':World):Prop :=
 ∃ b cap,e = .returned (.agg (RwL c b q cap n sl).toArray) ∧ But (Mine d.p d.b) w w' ∧ WdAt w' c d ws n s ∧ Holds w' b ws ∧ (b = b0 ∨ w.heap.size ≤ b)
set_option maxHeartbeats 8000000 in
theorem act09_at (w:World) (c:Cf) (d:Wd) (sl:Sl) (bk q cp:Nat) (ws:List Int) (n:Int) (s:St) (h:WdAt w c d ws n s) (hq:ws.length = q) (hc:Holds w bk ws) (hf:q ≤ 1048576) (hm:¬ Mine d.p d.b bk) (hn:0 ≤ n) (hn':n < 4611686018427387904) (x:ActX) (hk:0 ≤ x.k ∧ x.k ≤ 255) (r:List Int × Int) (hr:actX c (decide (x.k % 2 = 0)) ws n x = r) :
  Calls Tryz.prog 18 #[.pointer (some ⟨d.x,0,none⟩),.agg (RwL c bk q cp n sl).toArray,.agg x.l.toArray] w (ActTold c d sl bk q r.1 r.2 s w):=by
 obtain ⟨k,i,op,old,v⟩:=x
 simp only at hk hr
 have HD:=Lib.hid h
 have HC:=Lib.hid hc
 have HM:=Lib.hid hm
 obtain ⟨L,hL⟩:∃ L,RwL c bk q cp n sl = L:=⟨_,rfl⟩
 have HL:=Lib.hid hL
 have hLl:L.length = 17:=by rw [← hL];rfl
 have hbk:bk < w.heap.size:=World.block_lt_of_cell? w _ (hc 0 h.pos)
 have g1:Grown w (w.alloc (.cells L.toArray 42)):=by go_grown
 have g2:Grown (w.alloc (.cells L.toArray 42)) ((w.alloc (.cells L.toArray 42)).alloc (.cells #[.int .u8 k,.int .i64 i,.int .u16 op,.int .u64 old,.int .u64 v] 48)):=by go_grown
 have g3:Grown ((w.alloc (.cells L.toArray 42)).alloc (.cells #[.int .u8 k,.int .i64 i,.int .u16 op,.int .u64 old,.int .u64 v] 48)) (((w.alloc (.cells L.toArray 42)).alloc (.cells #[.int .u8 k,.int .i64 i,.int .u16 op,.int .u64 old,.int .u64 v] 48)).alloc (.cells zWV.toArray 42)):=by go_grown
 have B1:=(Box.made w L 42).grown (gtr g2 g3)
 have B2:=(Box.made (w.alloc (.cells L.toArray 42)) [.int .u8 k,.int .i64 i,.int .u16 op,.int .u64 old,.int .u64 v] 48).grown g3
 have B3:=Box.made ((w.alloc (.cells L.toArray 42)).alloc (.cells #[.int .u8 k,.int .i64 i,.int .u16 op,.int .u64 old,.int .u64 v] 48)) zWV 42
 rw [show (w.alloc (.cells L.toArray 42)).heap.size = w.heap.size + 1 by simp] at B2
 rw [show ((w.alloc (.cells L.toArray 42)).alloc (.cells #[.int .u8 k,.int .i64 i,.int .u16 op,.int .u64 old,.int .u64 v] 48)).heap.size = w.heap.size + 1 + 1 by simp] at B3
 obtain ⟨u,hu⟩:∃ u,((w.alloc (.cells L.toArray 42)).alloc (.cells #[.int .u8 k,.int .i64 i,.int .u16 op,.int .u64 old,.int .u64 v] 48)).alloc (.cells zWV.toArray 42) = u:=⟨_,rfl⟩
 rw [hu] at B1 B2 B3 g3
 have HB1:=Lib.hid B1
 have HB2:=Lib.hid B2
 have HB3:=Lib.hid B3
 have HG:=Lib.hid (gtr g1 (gtr g2 g3))
 have c0:=B2.cell 0 (.int .u8 k) rfl
 have c1:=B2.cell 1 (.int .i64 i) rfl
 have c3:=B2.cell 3 (.int .u64 old) rfl
 have c4:=B2.cell 4 (.int .u64 v) rfl
 have HDu:=Lib.hid (h.grown HG.out)
 have hlt:=h.xlt
 have hltu:=B3.lt
 clear h hc hm g1 g2 g3 B1 B2 B3
 rw [← hu] at c0 c1 c3 c4
 rw [hL]
 simp only [zWV] at c0 c1 c3 c4 hu
 have HU:=Lib.hid hu
 clear hL hu
 have hrem:IntKind.u8.wrap (Int.tmod k 2) = k % 2:=by
  rw [Int.tmod_eq_emod_of_nonneg hk.1]
  unfold IntKind.wrap
  simp [IntKind.bits]
  omega
 by_cases hp:k % 2 = 0
 ·have hd:decide (k % 2 = 0) = true:=by simpa using hp
  have hr':r = (wr ws (nxtI c i) v,n + cnt ws (nxtI c i)):=by rw [← hr,hd];rfl
  subst hr'
  clear hr
  simp only [ActX.l]
  go_enter Tryz.func18,Tryz.ntmps18
  go_wp2_with fail
  rw [HU.out]
  refine (wSet_any _ c d ws n s i v HDu.out hn hn').mono ?_;rintro e w1 ⟨rfl,q1,h1⟩
  have H1:=Lib.hid h1
  have Q1:=Lib.hid ((But.of_grown HG.out).trans q1)
  have hm1:¬ Mine d.p d.b w.heap.size:=HD.out.new (by omega)
  have hm2:¬ Mine d.p d.b (w.heap.size + 1):=HD.out.new (by omega)
  have hm3:¬ Mine d.p d.b (w.heap.size + 1 + 1):=HD.out.new (by omega)
  have HB11:=Lib.hid (HB1.out.but q1 hm1)
  have HB21:=Lib.hid (HB2.out.but q1 hm2)
  have HB31:=Lib.hid (HB3.out.but q1 hm3)
  have HC1:=Lib.hid ((HC.out.grown HG.out).but q1 HM.out)
  have hsz:=q1.2.2
  have hsz2:=HG.out.2.2
  clear q1 h1 c0 c1 c3 c4 hm1 hm2 hm3
  have c1:=HB21.out.cell 1 (.int .i64 i) rfl
  have c4:=HB21.out.cell 4 (.int .u64 v) rfl
  go_wp2_with (first | (refine load_box rfl 42 _ rfl w.heap.size rfl _ _ Tryz.underlying42 rfl (by rw [hLl];kernel_rfl) HB11.out ?_) | fail)
  have hS:=rqSet w1 c sl bk q cp ws n i v hq HC1.out hf hn hn'
  rw [HL.out] at hS
  refine hS.mono ?_;rintro e w2 ⟨b2,cp2,rfl,g2,hh2,ho2⟩
  have HB32:=Lib.hid (HB31.out.grown g2)
  have H2:=Lib.hid (H1.out.grown g2)
  have Q2:=Lib.hid (Q1.out.trans (But.of_grown g2))
  have hlt2:=HB32.out.lt
  clear hS c1 c4
  go_wp2_with (first | (refine store_box rfl 42 _ _ rfl (w.heap.size + 1 + 1) _ HB32.out _ rfl rfl rfl (by kernel_rfl) rfl ?_;intro w9 B_ q_;have HB9:=Lib.hid B_;have q9:=Lib.hid q_;clear B_ q_) | fail)
  obtain ⟨qE,hE⟩:=act_end (z:=0) HD.out Q2.out H2.out (by omega) (HB32.out.cell 1 _ rfl) q9.out
  exact bodyPost_ret (v:=.agg (RwL c b2 q cp2 _ sl).toArray) (results_c (ty:=42) rfl rfl (load_run HB9.out 42 _ Tryz.underlying42 rfl (by kernel_rfl))) rfl ⟨b2,cp2,rfl,qE,hE,hh2.but q9.out (by omega),by rcases ho2 with h | h;exact .inl h;exact .inr (by omega)⟩
 ·have hd:decide (k % 2 = 0) = false:=by simpa using hp
  obtain ⟨n2,hn2⟩:∃ x,n + cnt ws (wrdI c i) = x:=⟨_,rfl⟩
  have HN2:=Lib.hid hn2
  have hr':r = (sw ws (wrdI c i) old v,n2):=by rw [← hr,hd,← hn2];rfl
  subst hr'
  clear hr hn2
  simp only [ActX.l]
  go_enter Tryz.func18,Tryz.ntmps18
  go_wp2_with fail
  rw [HU.out]
  refine (wTurn_any _ c d ws n s i old v HDu.out hn hn').mono ?_;rintro e w1 ⟨rfl,q1,h1⟩
  rw [HN2.out] at h1
  have H1:=Lib.hid h1
  have Q1:=Lib.hid ((But.of_grown HG.out).trans q1)
  have hm1:¬ Mine d.p d.b w.heap.size:=HD.out.new (by omega)
  have hm2:¬ Mine d.p d.b (w.heap.size + 1):=HD.out.new (by omega)
  have hm3:¬ Mine d.p d.b (w.heap.size + 1 + 1):=HD.out.new (by omega)
  have HB11:=Lib.hid (HB1.out.but q1 hm1)
  have HB21:=Lib.hid (HB2.out.but q1 hm2)
  have HB31:=Lib.hid (HB3.out.but q1 hm3)
  have HC1:=Lib.hid ((HC.out.grown HG.out).but q1 HM.out)
  have hsz:=q1.2.2
  have hsz2:=HG.out.2.2
  clear q1 h1 c0 c1 c3 c4 hm1 hm2 hm3
  have c1:=HB21.out.cell 1 (.int .i64 i) rfl
  have c3:=HB21.out.cell 3 (.int .u64 old) rfl
  have c4:=HB21.out.cell 4 (.int .u64 v) rfl
  go_wp2_with (first | (refine load_box rfl 42 _ rfl w.heap.size rfl _ _ Tryz.underlying42 rfl (by rw [hLl];kernel_rfl) HB11.out ?_) | fail)
  have hS:=rqTurn w1 c sl bk q cp ws n i old v hq HC1.out hf hn hn'
  rw [HL.out,HN2.out] at hS
  refine hS.mono ?_;rintro e w2 ⟨b2,cp2,rfl,g2,hh2,ho2⟩
  have HB32:=Lib.hid (HB31.out.grown g2)
  have H2:=Lib.hid (H1.out.grown g2)
  have Q2:=Lib.hid (Q1.out.trans (But.of_grown g2))
  have hlt2:=HB32.out.lt
  have ga:Grown w2 (w2.alloc (.cells (RwL c b2 q cp2 n2 sl).toArray 42)):=by go_grown
  have HB33:=Lib.hid (HB32.out.grown ga)
  have HBV:=Lib.hid (Box.made w2 (RwL c b2 q cp2 n2 sl) 42)
  have H3:=Lib.hid (H2.out.grown ga)
  have Q3:=Lib.hid (Q2.out.trans (But.of_grown ga))
  have HH3:=Lib.hid (hh2.grown ga)
  clear hS c1 c3 c4 ga hh2
  simp only [RwL] at HB33 HBV H3 Q3 HH3 ⊢
  go_wp2_with (first | (refine store_box rfl 42 _ _ rfl (w.heap.size + 1 + 1) _ HB33.out _ rfl rfl rfl (by kernel_rfl) rfl ?_;intro w9 B_ q_;have HB9:=Lib.hid B_;have q9:=Lib.hid q_;clear B_ q_) | fail)
  obtain ⟨qE,hE⟩:=act_end (z:=0) HD.out Q3.out H3.out (by omega) (HB33.out.cell 1 _ rfl) q9.out
  exact bodyPost_ret (v:=.agg (RwL c b2 q cp2 n2 sl).toArray) (results_c (ty:=42) rfl rfl (load_run HB9.out 42 _ Tryz.underlying42 rfl (by kernel_rfl))) rfl ⟨b2,cp2,rfl,qE,hE,HH3.out.but q9.out (by omega),by rcases ho2 with h | h;exact .inl h;exact .inr (by omega)⟩
end Go.Proofs.YtcogckjpmmjmbaaGreat
namespace Go.Proofs.YtcogckjpmmjmbaaGreat
open Go.ChangeShapes Go.WideShapes Go.ChangeAt Go.RowKit
set_option maxRecDepth 100000
set_option linter.unusedVariables false
def runX (c:Cf) (set:Int → Bool) (act:Nat → ActX) (y:List Int × Int):Nat → List Int × Int
 | 0 => y
 | k + 1 => actX c (set (act k).k) (runX c set act y k).1 (runX c set act y k).2 (act k)
theorem runX_n (c:Cf) (set:Int → Bool) (act:Nat → ActX) (y:List Int × Int):∀ k,y.2 ≤ (runX c set act y k).2 ∧ (runX c set act y k).2 ≤ y.2 + k
 | 0 => by simp [runX]
 | k + 1 => by
  have h1:=runX_n c set act y k
  have h2:=actX_n c (set (act k).k) (runX c set act y k).1 (runX c set act y k).2 (act k)
  simp only [runX]
  omega
theorem runX_ok (c:Cf) (set:Int → Bool) (act:Nat → ActX) (y:List Int × Int) (h:WOk y.1) (m:Nat) (ha:∀ j,j < m → 0 ≤ (act j).v ∧ (act j).v ≤ 18446744073709551615):∀ k,k ≤ m → WOk (runX c set act y k).1
 | 0,_ => h
 | k + 1,hk => actX_ok _ _ _ _ _ (runX_ok c set act y h m ha k (by omega)) (ha k (by omega)).1 (ha k (by omega)).2
theorem runX_step (c:Cf) (set:Int → Bool) (act:Nat → ActX) (y:List Int × Int) (k:Nat):runX c set act y (k + 1) = actX c (set (act k).k) (runX c set act y k).1 (runX c set act y k).2 (act k):=rfl
end Go.Proofs.YtcogckjpmmjmbaaGreat
