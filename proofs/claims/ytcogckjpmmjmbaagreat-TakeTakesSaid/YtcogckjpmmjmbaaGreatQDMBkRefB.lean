/- The document's answers for package book (corrieref07): Begin, Make. -/
import Derived.Test.YtcogckjpmmjmbaaGreatQDMBkRef
import Derived.Deep.Cut
namespace Go.Proofs.YtcogckjpmmjmbaaGreat
open Go.ChangeShapes Go.WideShapes Go.ChangeAt Go.RowKit
set_option maxRecDepth 100000
set_option linter.unusedVariables false
def Bx (b n:Nat):Nat → Prop:=fun i => b ≤ i ∧ i < b + n
theorem bx_not {b n i:Nat} (h:b + n ≤ i):¬ Bx b n i:=fun q => by have:=q.2;omega
def RTell (hi:Nat) (c:Cf) (r:St × Nat × Nat) (s1 s2 s3 s4 s5:Value) (w:World) (e:Ending) (w':World):Prop :=
 ∃ t1 t2 t3 t4 t5,e = .returned (.tuple #[RV c t1 t2 t3 t4 t5,.int .i64 r.2.1,.int .i64 r.2.2]) ∧ RefS w' hi c r.1 t1 t2 t3 t4 t5 ∧ Grown w w' ∧
  (t1 = s1 ∨ FlatAt w' w.heap.size t1 (vNat r.1.calls) c.t) ∧ (t2 = s2 ∨ FlatAt w' w.heap.size t2 (vNat r.1.ins) c.t) ∧ (t3 = s3 ∨ FlatAt w' w.heap.size t3 (vNat r.1.made) c.t) ∧
  (t4 = s4 ∨ FlatAt w' w.heap.size t4 (flatC r.1.ops) r.1.ops.length) ∧ (t5 = s5 ∨ FlatAt w' w.heap.size t5 (flatN r.1.nodes) r.1.nodes.length)
def RowIn (w:World) (g:Nat) (cells:List Value):Prop:=∀ j u,cells[j]? = some u → w.cell? ⟨g,j,none⟩ = some u
theorem RowIn.but {S:Nat → Prop} {w w':World} {g:Nat} {cells:List Value} (h:RowIn w g cells) (q:But S w w') (hs:¬ S g):RowIn w' g cells:=fun j u hu => q.cell hs (h j u hu)
theorem RowIn.grown {w w':World} {g:Nat} {cells:List Value} (h:RowIn w g cells) (q:Grown w w'):RowIn w' g cells:=h.but (S:=fun _ => False) q (fun f => f)
theorem RowIn.flat {w:World} {g lo n k:Nat} {cells:List Value} (h:RowIn w g cells) (hn:0 < n) (hlo:lo ≤ g):FlatAt w lo (.slice (some ⟨g,0,none⟩) n k) cells n:=.inr ⟨hn,g,k,rfl,hlo,h⟩
theorem RowIn.lt {w:World} {g:Nat} {cells:List Value} (h:RowIn w g cells) (h0:0 < cells.length):g < w.heap.size:=World.block_lt_of_cell? w _ (h 0 _ (List.getElem?_eq_getElem h0))
theorem But.over {S:Nat → Prop} {W a b:World} {g:Nat} (h:But S W a) (q:But (· = g) a b) (hg:¬ g < W.heap.size):But S W b:=by
 refine ⟨⟨q.1.1.trans h.1.1,q.1.2.1.trans h.1.2.1,fun i hi => ?_⟩,fun x => (q.2.1 x).trans (h.2.1 x),Nat.le_trans h.2.2 q.2.2⟩
 rw [q.1.block (Nat.lt_of_lt_of_le hi h.2.2) (fun p hp hpi => by have:p.block = g:=hp;omega)]
 exact h.1.2.2 i hi
theorem RowIn.made (w:World) (l:List Value) (t:TypeId):RowIn (w.alloc (.cells l.toArray t)) w.heap.size l:=fun j u hu => by rw [World.cell?_alloc_new];simpa using hu
theorem wp_region_plant {P:Program} {id:Nat} {Q:Exit → Act → World → Prop} {a:Act} {w:World} {l:List Oper} (p:Plan) (hm:P.follows .mixedOrders = true)
  (hs:Region.noSelect l.toArray = true) (hB:planB l.toArray l.length p (Array.replicate l.length false) = true)
  (h:∀ w1,Grown w w1 → Pl P l (fun a' w' => Q .normal a' w') p (fun _ => True) a w1):(Code.region id l.toArray true).wp P Q a w :=
 wp_region_plan _ p hm hs hB trivial (h _ (Grown.refl w).drew)
theorem nxt_true {K:(World → Prop) → Act → World → Prop} {a:Act} {w:World} (h:K (fun _ => True) a w):Nxt (fun _ => True) K .normal a w:=⟨rfl,_,fun _ h => h,trivial,h⟩
theorem vNat_len (l:List Nat):(vNat l).length = l.length:=by simp [vNat]
theorem boxes3 {w w1:World} {l1 l2 l3:List Value} {t1 t2 t3:TypeId} (g:Grown (((w.alloc (.cells l1.toArray t1)).alloc (.cells l2.toArray t2)).alloc (.cells l3.toArray t3)) w1) :
  Box w1 w.heap.size l1 ∧ Box w1 (w.heap.size + 1) l2 ∧ Box w1 (w.heap.size + 1 + 1) l3 ∧ Grown w w1:=by
 have e1:(w.alloc (.cells l1.toArray t1)).heap.size = w.heap.size + 1:=by simp
 have e2:((w.alloc (.cells l1.toArray t1)).alloc (.cells l2.toArray t2)).heap.size = w.heap.size + 1 + 1:=by simp
 refine ⟨((Box.made w l1 t1).grown (((Grown.refl _).alloc _ _).alloc _ _)).grown g,?_,?_,gtr ((((Grown.refl w).alloc _ _).alloc _ _).alloc _ _) g⟩
 ·have:=((Box.made (w.alloc (.cells l1.toArray t1)) l2 t2).grown ((Grown.refl _).alloc _ _)).grown g
  rwa [e1] at this
 ·have:=(Box.made ((w.alloc (.cells l1.toArray t1)).alloc (.cells l2.toArray t2)) l3 t3).grown g
  rwa [e2] at this
theorem boxes2 {w w1:World} {l1 l2:List Value} {t1 t2:TypeId} (g:Grown ((w.alloc (.cells l1.toArray t1)).alloc (.cells l2.toArray t2)) w1) :
  Box w1 w.heap.size l1 ∧ Box w1 (w.heap.size + 1) l2 ∧ Grown w w1:=by
 have e1:(w.alloc (.cells l1.toArray t1)).heap.size = w.heap.size + 1:=by simp
 refine ⟨((Box.made w l1 t1).grown ((Grown.refl _).alloc _ _)).grown g,?_,gtr (((Grown.refl w).alloc _ _).alloc _ _) g⟩
 have:=(Box.made (w.alloc (.cells l1.toArray t1)) l2 t2).grown g
 rwa [e1] at this
theorem FlatAt.slice {w:World} {lo n:Nat} {v:Value} {cells:List Value} (h:FlatAt w lo v cells n):∃ A m k,v = .slice A m k:=by
 rcases h with ⟨-,-,rfl⟩ | ⟨-,g,cap,rfl,-⟩ <;> exact ⟨_,_,_,rfl⟩
theorem FlatAt.some {w:World} {lo n:Nat} {v:Value} {cells:List Value} (h:FlatAt w lo v cells n) (hn:0 < n):∃ g cap,v = .slice (some ⟨g,0,none⟩) n cap ∧ lo ≤ g ∧ ∀ j u,cells[j]? = some u → w.cell? ⟨g,j,none⟩ = some u:=by
 rcases h with ⟨h0,-⟩ | ⟨-,h⟩
 ·omega
 ·exact h
theorem info_op:(Tryz.prog.info? 171).map (fun i => (i.zero,i.size,i.bytes)) = some (some (.agg #[.int .i64 0,.int .i64 0,.int .u64 0,.int .u64 0,.int .i64 0]),5,40):=by kernel_rfl
theorem info_node:(Tryz.prog.info? 213).map (fun i => (i.zero,i.size,i.bytes)) = some (some (.agg #[.int .i64 0,.int .i64 0]),2,16):=by kernel_rfl
theorem flatC_app (l:List (Nat × Cal)) (n:Nat) (x:Cal):flatC (l ++ [(n,x)]) = flatC l ++ [.int .i64 (n:Int),.int .i64 x.kind,.int .u64 x.key,.int .u64 x.val,.int .i64 x.lim]:=by simp [flatC]
theorem flatN_app (l:List (Nat × Nat)) (n m:Nat):flatN (l ++ [(n,m)]) = flatN l ++ [.int .i64 (n:Int),.int .i64 (m:Int)]:=by simp [flatN]
theorem rBegin_noThread (w:World) (hi:Nat) (c:Cf) (s:St) (s1 s2 s3 s4 s5:Value) (h:RefS w hi c s s1 s2 s3 s4 s5) (hok:c.Ok) (hI:Inv c s) (hw:hi ≤ w.heap.size) (hl:s.ops.length ≤ 9999) (th:Int) (x:Cal) (ht:th < 0 ∨ c.t ≤ th) :
  Calls Tryz.prog 65 #[RV c s1 s2 s3 s4 s5,.int .i64 th,x.v] w (RTell hi c (s,0,1) s1 s2 s3 s4 s5 w):=by
 obtain ⟨A1,n1,kc1,rfl⟩:=h.f1.slice
 obtain ⟨A2,n2,kc2,rfl⟩:=h.f2.slice
 obtain ⟨A3,n3,kc3,rfl⟩:=h.f3.slice
 obtain ⟨A4,n4,kc4,rfl⟩:=h.f4.slice
 obtain ⟨A5,n5,kc5,rfl⟩:=h.f5.slice
 have H:=Lib.hid h
 have HOK:=Lib.hid hok
 have HN:=Lib.hid hI
 have HI:Hid (decide (0 ≤ th ∧ th < c.t) = false):=Lib.hid (decide_eq_false (by omega))
 clear h hok hI
 unfold RV Cal.v
 go_enter Tryz.func65,Tryz.ntmps65
 go_wp2_with fail
 refine (is_at _ hi c s _ _ _ _ _ (H.out.grown (by go_grown)) HOK.out th _ HI.out).mono ?_;rintro e w1 ⟨rfl,g1⟩
 obtain ⟨B3,B5,B6,G⟩:=boxes3 (l1:=[.int .i64 c.t,.int .i64 c.b,.int .i64 c.i,.int .i64 c.f,.int .i64 c.k,.slice A1 n1 kc1,.slice A2 n2 kc2,.slice A3 n3 kc3,.slice A4 n4 kc4,.slice A5 n5 kc5]) (l2:=[.int .i64 x.kind,.int .u64 x.key,.int .u64 x.val,.int .i64 x.lim]) (l3:=[.int .i64 0,.int .i64 0,.int .i64 0,.int .i64 0,.int .i64 0,.slice none 0 0,.slice none 0 0,.slice none 0 0,.slice none 0 0,.slice none 0 0]) g1
 replace B3:=Lib.hid B3
 replace B5:=Lib.hid B5
 replace B6:=Lib.hid B6
 have Q:But (Bx w.heap.size 3) w1 w1:=But.refl _ _
 clear g1
 have b0:=B3.out.cell 0 _ rfl
 have b1:=B3.out.cell 1 _ rfl
 have b2:=B3.out.cell 2 _ rfl
 have b3:=B3.out.cell 3 _ rfl
 have b4:=B3.out.cell 4 _ rfl
 have b5:=B3.out.cell 5 _ rfl
 have b6:=B3.out.cell 6 _ rfl
 have b7:=B3.out.cell 7 _ rfl
 have b8:=B3.out.cell 8 _ rfl
 have b9:=B3.out.cell 9 _ rfl
 have c0:=B6.out.cell 0 _ rfl
 have c1:=B6.out.cell 1 _ rfl
 have c2:=B6.out.cell 2 _ rfl
 have c3:=B6.out.cell 3 _ rfl
 have c4:=B6.out.cell 4 _ rfl
 have c5:=B6.out.cell 5 _ rfl
 have c6:=B6.out.cell 6 _ rfl
 have c7:=B6.out.cell 7 _ rfl
 have c8:=B6.out.cell 8 _ rfl
 have c9:=B6.out.cell 9 _ rfl
 have qc0:=B6.out.free 0
 have qc1:=B6.out.free 1
 have qc2:=B6.out.free 2
 have qc3:=B6.out.free 3
 have qc4:=B6.out.free 4
 have qc5:=B6.out.free 5
 have qc6:=B6.out.free 6
 have qc7:=B6.out.free 7
 have qc8:=B6.out.free 8
 have qc9:=B6.out.free 9
 have hlt:=B6.out.lt
 have hlt3:=B3.out.lt
 go_wp2_with fail
 have B2:=B6.out.fill rfl (.int .i64 c.t) (.int .i64 c.b) (.int .i64 c.i) (.int .i64 c.f) (.int .i64 c.k) (.slice A1 n1 kc1) (.slice A2 n2 kc2) (.slice A3 n3 kc3) (.slice A4 n4 kc4) (.slice A5 n5 kc5)
 have e0:=B2.cell 0 _ rfl
 have e1:=B2.cell 1 _ rfl
 have e2:=B2.cell 2 _ rfl
 have e3:=B2.cell 3 _ rfl
 have e4:=B2.cell 4 _ rfl
 have e5:=B2.cell 5 _ rfl
 have e6:=B2.cell 6 _ rfl
 have e7:=B2.cell 7 _ rfl
 have e8:=B2.cell 8 _ rfl
 have e9:=B2.cell 9 _ rfl
 have kS:=(But.refl (Bx w.heap.size 3) w1).fill (b:=w.heap.size + 1 + 1) (.inl ⟨by omega,by omega⟩) (.int .i64 c.t) (.int .i64 c.b) (.int .i64 c.i) (.int .i64 c.f) (.int .i64 c.k) (.slice A1 n1 kc1) (.slice A2 n2 kc2) (.slice A3 n3 kc3) (.slice A4 n4 kc4) (.slice A5 n5 kc5)
 have gE:=But.fresh G (Q.trans kS) (fun i hi => hi.1)
 refine bodyPost_ret (v:=.tuple #[RV c (.slice A1 n1 kc1) (.slice A2 n2 kc2) (.slice A3 n3 kc3) (.slice A4 n4 kc4) (.slice A5 n5 kc5),.int .i64 0,.int .i64 1]) (by simp [results,Tryz.results65,go_sem,RV,e0,e1,e2,e3,e4,e5,e6,e7,e8,e9]) rfl ?_
 exact ⟨_,_,_,_,_,rfl,⟨H.out.f1.grown gE,H.out.f2.grown gE,H.out.f3.grown gE,H.out.f4.grown gE,H.out.f5.grown gE⟩,gE,.inl rfl,.inl rfl,.inl rfl,.inl rfl,.inl rfl⟩
theorem rBegin_noKind (w:World) (hi:Nat) (c:Cf) (s:St) (s1 s2 s3 s4 s5:Value) (h:RefS w hi c s s1 s2 s3 s4 s5) (hok:c.Ok) (hI:Inv c s) (hw:hi ≤ w.heap.size) (hl:s.ops.length ≤ 9999) (i:Nat) (hit:i < c.t) (x:Cal) (hk:¬ kindOk x) :
  Calls Tryz.prog 65 #[RV c s1 s2 s3 s4 s5,.int .i64 i,x.v] w (RTell hi c (s,0,1) s1 s2 s3 s4 s5 w):=by
 obtain ⟨A1,n1,kc1,rfl⟩:=h.f1.slice
 obtain ⟨A2,n2,kc2,rfl⟩:=h.f2.slice
 obtain ⟨A3,n3,kc3,rfl⟩:=h.f3.slice
 obtain ⟨A4,n4,kc4,rfl⟩:=h.f4.slice
 obtain ⟨A5,n5,kc5,rfl⟩:=h.f5.slice
 have H:=Lib.hid h
 have HOK:=Lib.hid hok
 have HN:=Lib.hid hI
 have HI:Hid (decide (0 ≤ (i:Int) ∧ (i:Int) < c.t) = true):=Lib.hid (decide_eq_true (by omega))
 have HK:Hid (¬ kindOk x):=Lib.hid hk
 clear hk
 clear h hok hI
 unfold RV Cal.v
 go_enter Tryz.func65,Tryz.ntmps65
 go_wp2_with fail
 refine (is_at _ hi c s _ _ _ _ _ (H.out.grown (by go_grown)) HOK.out i _ HI.out).mono ?_;rintro e w1 ⟨rfl,g1⟩
 obtain ⟨B3,B5,B6,G⟩:=boxes3 (l1:=[.int .i64 c.t,.int .i64 c.b,.int .i64 c.i,.int .i64 c.f,.int .i64 c.k,.slice A1 n1 kc1,.slice A2 n2 kc2,.slice A3 n3 kc3,.slice A4 n4 kc4,.slice A5 n5 kc5]) (l2:=[.int .i64 x.kind,.int .u64 x.key,.int .u64 x.val,.int .i64 x.lim]) (l3:=[.int .i64 0,.int .i64 0,.int .i64 0,.int .i64 0,.int .i64 0,.slice none 0 0,.slice none 0 0,.slice none 0 0,.slice none 0 0,.slice none 0 0]) g1
 replace B3:=Lib.hid B3
 replace B5:=Lib.hid B5
 replace B6:=Lib.hid B6
 have Q:But (Bx w.heap.size 3) w1 w1:=But.refl _ _
 clear g1
 have hk:=HK.out
 unfold kindOk at hk
 have y0:=B5.out.cell 0 _ rfl
 by_cases kd1:x.kind < 1
 ·have e1:decide (x.kind < 1) = true:=decide_eq_true kd1
  clear hk
  have b0:=B3.out.cell 0 _ rfl
  have b1:=B3.out.cell 1 _ rfl
  have b2:=B3.out.cell 2 _ rfl
  have b3:=B3.out.cell 3 _ rfl
  have b4:=B3.out.cell 4 _ rfl
  have b5:=B3.out.cell 5 _ rfl
  have b6:=B3.out.cell 6 _ rfl
  have b7:=B3.out.cell 7 _ rfl
  have b8:=B3.out.cell 8 _ rfl
  have b9:=B3.out.cell 9 _ rfl
  have c0:=B6.out.cell 0 _ rfl
  have c1:=B6.out.cell 1 _ rfl
  have c2:=B6.out.cell 2 _ rfl
  have c3:=B6.out.cell 3 _ rfl
  have c4:=B6.out.cell 4 _ rfl
  have c5:=B6.out.cell 5 _ rfl
  have c6:=B6.out.cell 6 _ rfl
  have c7:=B6.out.cell 7 _ rfl
  have c8:=B6.out.cell 8 _ rfl
  have c9:=B6.out.cell 9 _ rfl
  have qc0:=B6.out.free 0
  have qc1:=B6.out.free 1
  have qc2:=B6.out.free 2
  have qc3:=B6.out.free 3
  have qc4:=B6.out.free 4
  have qc5:=B6.out.free 5
  have qc6:=B6.out.free 6
  have qc7:=B6.out.free 7
  have qc8:=B6.out.free 8
  have qc9:=B6.out.free 9
  have hlt:=B6.out.lt
  have hlt3:=B3.out.lt
  go_wp2_with fail
  have B2:=B6.out.fill rfl (.int .i64 c.t) (.int .i64 c.b) (.int .i64 c.i) (.int .i64 c.f) (.int .i64 c.k) (.slice A1 n1 kc1) (.slice A2 n2 kc2) (.slice A3 n3 kc3) (.slice A4 n4 kc4) (.slice A5 n5 kc5)
  have e0:=B2.cell 0 _ rfl
  have e1:=B2.cell 1 _ rfl
  have e2:=B2.cell 2 _ rfl
  have e3:=B2.cell 3 _ rfl
  have e4:=B2.cell 4 _ rfl
  have e5:=B2.cell 5 _ rfl
  have e6:=B2.cell 6 _ rfl
  have e7:=B2.cell 7 _ rfl
  have e8:=B2.cell 8 _ rfl
  have e9:=B2.cell 9 _ rfl
  have kS:=(But.refl (Bx w.heap.size 3) w1).fill (b:=w.heap.size + 1 + 1) (.inl ⟨by omega,by omega⟩) (.int .i64 c.t) (.int .i64 c.b) (.int .i64 c.i) (.int .i64 c.f) (.int .i64 c.k) (.slice A1 n1 kc1) (.slice A2 n2 kc2) (.slice A3 n3 kc3) (.slice A4 n4 kc4) (.slice A5 n5 kc5)
  have gE:=But.fresh G (Q.trans kS) (fun i hi => hi.1)
  refine bodyPost_ret (v:=.tuple #[RV c (.slice A1 n1 kc1) (.slice A2 n2 kc2) (.slice A3 n3 kc3) (.slice A4 n4 kc4) (.slice A5 n5 kc5),.int .i64 0,.int .i64 1]) (by simp [results,Tryz.results65,go_sem,RV,e0,e1,e2,e3,e4,e5,e6,e7,e8,e9]) rfl ?_
  exact ⟨_,_,_,_,_,rfl,⟨H.out.f1.grown gE,H.out.f2.grown gE,H.out.f3.grown gE,H.out.f4.grown gE,H.out.f5.grown gE⟩,gE,.inl rfl,.inl rfl,.inl rfl,.inl rfl,.inl rfl⟩
 ·have e1:decide (x.kind < 1) = false:=decide_eq_false kd1
  have e2:decide (4 < x.kind) = true:=decide_eq_true (by omega)
  clear hk
  have b0:=B3.out.cell 0 _ rfl
  have b1:=B3.out.cell 1 _ rfl
  have b2:=B3.out.cell 2 _ rfl
  have b3:=B3.out.cell 3 _ rfl
  have b4:=B3.out.cell 4 _ rfl
  have b5:=B3.out.cell 5 _ rfl
  have b6:=B3.out.cell 6 _ rfl
  have b7:=B3.out.cell 7 _ rfl
  have b8:=B3.out.cell 8 _ rfl
  have b9:=B3.out.cell 9 _ rfl
  have c0:=B6.out.cell 0 _ rfl
  have c1:=B6.out.cell 1 _ rfl
  have c2:=B6.out.cell 2 _ rfl
  have c3:=B6.out.cell 3 _ rfl
  have c4:=B6.out.cell 4 _ rfl
  have c5:=B6.out.cell 5 _ rfl
  have c6:=B6.out.cell 6 _ rfl
  have c7:=B6.out.cell 7 _ rfl
  have c8:=B6.out.cell 8 _ rfl
  have c9:=B6.out.cell 9 _ rfl
  have qc0:=B6.out.free 0
  have qc1:=B6.out.free 1
  have qc2:=B6.out.free 2
  have qc3:=B6.out.free 3
  have qc4:=B6.out.free 4
  have qc5:=B6.out.free 5
  have qc6:=B6.out.free 6
  have qc7:=B6.out.free 7
  have qc8:=B6.out.free 8
  have qc9:=B6.out.free 9
  have hlt:=B6.out.lt
  have hlt3:=B3.out.lt
  go_wp2_with fail
  have B2:=B6.out.fill rfl (.int .i64 c.t) (.int .i64 c.b) (.int .i64 c.i) (.int .i64 c.f) (.int .i64 c.k) (.slice A1 n1 kc1) (.slice A2 n2 kc2) (.slice A3 n3 kc3) (.slice A4 n4 kc4) (.slice A5 n5 kc5)
  have e0:=B2.cell 0 _ rfl
  have e1:=B2.cell 1 _ rfl
  have e2:=B2.cell 2 _ rfl
  have e3:=B2.cell 3 _ rfl
  have e4:=B2.cell 4 _ rfl
  have e5:=B2.cell 5 _ rfl
  have e6:=B2.cell 6 _ rfl
  have e7:=B2.cell 7 _ rfl
  have e8:=B2.cell 8 _ rfl
  have e9:=B2.cell 9 _ rfl
  have kS:=(But.refl (Bx w.heap.size 3) w1).fill (b:=w.heap.size + 1 + 1) (.inl ⟨by omega,by omega⟩) (.int .i64 c.t) (.int .i64 c.b) (.int .i64 c.i) (.int .i64 c.f) (.int .i64 c.k) (.slice A1 n1 kc1) (.slice A2 n2 kc2) (.slice A3 n3 kc3) (.slice A4 n4 kc4) (.slice A5 n5 kc5)
  have gE:=But.fresh G (Q.trans kS) (fun i hi => hi.1)
  refine bodyPost_ret (v:=.tuple #[RV c (.slice A1 n1 kc1) (.slice A2 n2 kc2) (.slice A3 n3 kc3) (.slice A4 n4 kc4) (.slice A5 n5 kc5),.int .i64 0,.int .i64 1]) (by simp [results,Tryz.results65,go_sem,RV,e0,e1,e2,e3,e4,e5,e6,e7,e8,e9]) rfl ?_
  exact ⟨_,_,_,_,_,rfl,⟨H.out.f1.grown gE,H.out.f2.grown gE,H.out.f3.grown gE,H.out.f4.grown gE,H.out.f5.grown gE⟩,gE,.inl rfl,.inl rfl,.inl rfl,.inl rfl,.inl rfl⟩
theorem rBegin_retired (w:World) (hi:Nat) (c:Cf) (s:St) (s1 s2 s3 s4 s5:Value) (h:RefS w hi c s s1 s2 s3 s4 s5) (hok:c.Ok) (hI:Inv c s) (hw:hi ≤ w.heap.size) (hl:s.ops.length ≤ 9999) (i:Nat) (hit:i < c.t) (x:Cal) (hk:kindOk x) (e0:at_ s.calls i = c.k) :
  Calls Tryz.prog 65 #[RV c s1 s2 s3 s4 s5,.int .i64 i,x.v] w (RTell hi c (s,0,2) s1 s2 s3 s4 s5 w):=by
 have ht1:=hok.t1
 obtain ⟨gs1,kc1,rfl,-,hc1⟩:=h.f1.some ht1
 obtain ⟨A2,n2,kc2,rfl⟩:=h.f2.slice
 obtain ⟨A3,n3,kc3,rfl⟩:=h.f3.slice
 obtain ⟨A4,n4,kc4,rfl⟩:=h.f4.slice
 obtain ⟨A5,n5,kc5,rfl⟩:=h.f5.slice
 have H:=Lib.hid h
 have HOK:=Lib.hid hok
 have HN:=Lib.hid hI
 have HI:Hid (decide (0 ≤ (i:Int) ∧ (i:Int) < c.t) = true):=Lib.hid (decide_eq_true (by omega))
 have l1:=hI.l1
 have l2:=hI.l2
 have b1:=hI.b1 i hit
 have b2:=hI.b2 i hit
 have ck2:=hok.k2
 have i2:=hok.i2
 have t8:=hok.t8
 have a1:w.cell? ⟨gs1,i,none⟩ = some (.int .i64 (at_ s.calls i:Int)):=hc1 i _ (vNat_at (by omega))
 clear hc1
 have HK:Hid (kindOk x):=Lib.hid hk
 have hkk:=hk
 unfold kindOk at hkk
 have e1:decide (x.kind < 1) = false:=decide_eq_false (by omega)
 have e2:decide (4 < x.kind) = false:=decide_eq_false (by omega)
 clear hkk hk
 clear h hok hI
 unfold RV Cal.v
 go_enter Tryz.func65,Tryz.ntmps65
 go_wp2_with fail
 refine (is_at _ hi c s _ _ _ _ _ (H.out.grown (by go_grown)) HOK.out i _ HI.out).mono ?_;rintro e w1 ⟨rfl,g1⟩
 obtain ⟨B3,B5,B6,G⟩:=boxes3 (l1:=[.int .i64 c.t,.int .i64 c.b,.int .i64 c.i,.int .i64 c.f,.int .i64 c.k,.slice (some ⟨gs1,0,none⟩) c.t kc1,.slice A2 n2 kc2,.slice A3 n3 kc3,.slice A4 n4 kc4,.slice A5 n5 kc5]) (l2:=[.int .i64 x.kind,.int .u64 x.key,.int .u64 x.val,.int .i64 x.lim]) (l3:=[.int .i64 0,.int .i64 0,.int .i64 0,.int .i64 0,.int .i64 0,.slice none 0 0,.slice none 0 0,.slice none 0 0,.slice none 0 0,.slice none 0 0]) g1
 replace B3:=Lib.hid B3
 replace B5:=Lib.hid B5
 replace B6:=Lib.hid B6
 have Q:But (Bx w.heap.size 3) w1 w1:=But.refl _ _
 clear g1
 replace a1:=gcell G a1
 have y0:=B5.out.cell 0 _ rfl
 have b4:=B3.out.cell 4 _ rfl
 have b5:=B3.out.cell 5 _ rfl
 have e3:((at_ s.calls i:Int) == (c.k:Int)) = true:=by simp [e0]
 have b0:=B3.out.cell 0 _ rfl
 have b1:=B3.out.cell 1 _ rfl
 have b2:=B3.out.cell 2 _ rfl
 have b3:=B3.out.cell 3 _ rfl
 have b4:=B3.out.cell 4 _ rfl
 have b5:=B3.out.cell 5 _ rfl
 have b6:=B3.out.cell 6 _ rfl
 have b7:=B3.out.cell 7 _ rfl
 have b8:=B3.out.cell 8 _ rfl
 have b9:=B3.out.cell 9 _ rfl
 have c0:=B6.out.cell 0 _ rfl
 have c1:=B6.out.cell 1 _ rfl
 have c2:=B6.out.cell 2 _ rfl
 have c3:=B6.out.cell 3 _ rfl
 have c4:=B6.out.cell 4 _ rfl
 have c5:=B6.out.cell 5 _ rfl
 have c6:=B6.out.cell 6 _ rfl
 have c7:=B6.out.cell 7 _ rfl
 have c8:=B6.out.cell 8 _ rfl
 have c9:=B6.out.cell 9 _ rfl
 have qc0:=B6.out.free 0
 have qc1:=B6.out.free 1
 have qc2:=B6.out.free 2
 have qc3:=B6.out.free 3
 have qc4:=B6.out.free 4
 have qc5:=B6.out.free 5
 have qc6:=B6.out.free 6
 have qc7:=B6.out.free 7
 have qc8:=B6.out.free 8
 have qc9:=B6.out.free 9
 have hlt:=B6.out.lt
 have hlt3:=B3.out.lt
 go_wp2_with fail
 have B2:=B6.out.fill rfl (.int .i64 c.t) (.int .i64 c.b) (.int .i64 c.i) (.int .i64 c.f) (.int .i64 c.k) (.slice (some ⟨gs1,0,none⟩) c.t kc1) (.slice A2 n2 kc2) (.slice A3 n3 kc3) (.slice A4 n4 kc4) (.slice A5 n5 kc5)
 have e0:=B2.cell 0 _ rfl
 have e1:=B2.cell 1 _ rfl
 have e2:=B2.cell 2 _ rfl
 have e3:=B2.cell 3 _ rfl
 have e4:=B2.cell 4 _ rfl
 have e5:=B2.cell 5 _ rfl
 have e6:=B2.cell 6 _ rfl
 have e7:=B2.cell 7 _ rfl
 have e8:=B2.cell 8 _ rfl
 have e9:=B2.cell 9 _ rfl
 have kS:=(But.refl (Bx w.heap.size 3) w1).fill (b:=w.heap.size + 1 + 1) (.inl ⟨by omega,by omega⟩) (.int .i64 c.t) (.int .i64 c.b) (.int .i64 c.i) (.int .i64 c.f) (.int .i64 c.k) (.slice (some ⟨gs1,0,none⟩) c.t kc1) (.slice A2 n2 kc2) (.slice A3 n3 kc3) (.slice A4 n4 kc4) (.slice A5 n5 kc5)
 have gE:=But.fresh G (Q.trans kS) (fun i hi => hi.1)
 refine bodyPost_ret (v:=.tuple #[RV c (.slice (some ⟨gs1,0,none⟩) c.t kc1) (.slice A2 n2 kc2) (.slice A3 n3 kc3) (.slice A4 n4 kc4) (.slice A5 n5 kc5),.int .i64 0,.int .i64 2]) (by simp [results,Tryz.results65,go_sem,RV,e0,e1,e2,e3,e4,e5,e6,e7,e8,e9]) rfl ?_
 exact ⟨_,_,_,_,_,rfl,⟨H.out.f1.grown gE,H.out.f2.grown gE,H.out.f3.grown gE,H.out.f4.grown gE,H.out.f5.grown gE⟩,gE,.inl rfl,.inl rfl,.inl rfl,.inl rfl,.inl rfl⟩
theorem rBegin_full (w:World) (hi:Nat) (c:Cf) (s:St) (s1 s2 s3 s4 s5:Value) (h:RefS w hi c s s1 s2 s3 s4 s5) (hok:c.Ok) (hI:Inv c s) (hw:hi ≤ w.heap.size) (hl:s.ops.length ≤ 9999) (i:Nat) (hit:i < c.t) (x:Cal) (hk:kindOk x) (e0:¬ at_ s.calls i = c.k) (h2:Hid (x.kind = 1)) (e3':at_ s.ins i = c.i) :
  Calls Tryz.prog 65 #[RV c s1 s2 s3 s4 s5,.int .i64 i,x.v] w (RTell hi c ({ s with calls:=bump s.calls i },0,3) s1 s2 s3 s4 s5 w):=by
 have ht1:=hok.t1
 obtain ⟨gs1,kc1,rfl,-,hc1⟩:=h.f1.some ht1
 obtain ⟨gs2,kc2,rfl,-,hc2⟩:=h.f2.some ht1
 obtain ⟨A3,n3,kc3,rfl⟩:=h.f3.slice
 obtain ⟨A4,n4,kc4,rfl⟩:=h.f4.slice
 obtain ⟨A5,n5,kc5,rfl⟩:=h.f5.slice
 have H:=Lib.hid h
 have HOK:=Lib.hid hok
 have HN:=Lib.hid hI
 have HI:Hid (decide (0 ≤ (i:Int) ∧ (i:Int) < c.t) = true):=Lib.hid (decide_eq_true (by omega))
 have l1:=hI.l1
 have l2:=hI.l2
 have b1:=hI.b1 i hit
 have b2:=hI.b2 i hit
 have ck2:=hok.k2
 have i2:=hok.i2
 have t8:=hok.t8
 have a1:w.cell? ⟨gs1,i,none⟩ = some (.int .i64 (at_ s.calls i:Int)):=hc1 i _ (vNat_at (by omega))
 have a2:w.cell? ⟨gs2,i,none⟩ = some (.int .i64 (at_ s.ins i:Int)):=hc2 i _ (vNat_at (by omega))
 have lt2:=World.block_lt_of_cell? w _ a2
 clear hc1 hc2
 have HK:Hid (kindOk x):=Lib.hid hk
 have hkk:=hk
 unfold kindOk at hkk
 have e1:decide (x.kind < 1) = false:=decide_eq_false (by omega)
 have e2:decide (4 < x.kind) = false:=decide_eq_false (by omega)
 clear hkk hk
 clear h hok hI
 unfold RV Cal.v
 go_enter Tryz.func65,Tryz.ntmps65
 go_wp2_with fail
 refine (is_at _ hi c s _ _ _ _ _ (H.out.grown (by go_grown)) HOK.out i _ HI.out).mono ?_;rintro e w1 ⟨rfl,g1⟩
 obtain ⟨B3,B5,B6,G⟩:=boxes3 (l1:=[.int .i64 c.t,.int .i64 c.b,.int .i64 c.i,.int .i64 c.f,.int .i64 c.k,.slice (some ⟨gs1,0,none⟩) c.t kc1,.slice (some ⟨gs2,0,none⟩) c.t kc2,.slice A3 n3 kc3,.slice A4 n4 kc4,.slice A5 n5 kc5]) (l2:=[.int .i64 x.kind,.int .u64 x.key,.int .u64 x.val,.int .i64 x.lim]) (l3:=[.int .i64 0,.int .i64 0,.int .i64 0,.int .i64 0,.int .i64 0,.slice none 0 0,.slice none 0 0,.slice none 0 0,.slice none 0 0,.slice none 0 0]) g1
 replace B3:=Lib.hid B3
 replace B5:=Lib.hid B5
 replace B6:=Lib.hid B6
 have Q:But (Bx w.heap.size 3) w1 w1:=But.refl _ _
 clear g1
 replace a1:=gcell G a1
 replace a2:=gcell G a2
 have y0:=B5.out.cell 0 _ rfl
 have b4:=B3.out.cell 4 _ rfl
 have b5:=B3.out.cell 5 _ rfl
 have e3:((at_ s.calls i:Int) == (c.k:Int)) = false:=by simp;omega
 go_wp2_with fail
 refine (more_at _ hi (w.heap.size + 3) _ s.calls i (by omega) (by rw [l1];exact H.out.f1.grown G) (by have:=B6.out.lt;omega) (by omega) (by omega)).mono ?_;rintro e w2 ⟨v1,rfl,F1,m1⟩
 rw [l1] at F1
 obtain ⟨gn,kn,rfl,hn1,Pn⟩:=F1.some ht1
 replace Pn:Hid (RowIn w2 gn (vNat (bump s.calls i))):=Lib.hid Pn
 clear F1 y0 b4 b5
 have Ln:gn < w2.heap.size:=Pn.out.lt (by rw [vNat_len,length_bump];omega)
 replace B3:=Lib.hid (B3.out.grown m1)
 replace B5:=Lib.hid (B5.out.grown m1)
 replace B6:=Lib.hid (B6.out.grown m1)
 replace Q:=Q.trans (But.of_grown m1)
 have b5:=B3.out.cell 5 _ rfl
 have qb5:=B3.out.free 5
 go_wp2_with fail
 clear b5 qb5 m1
 have kv1:But (Bx w.heap.size 3) w2 (w2.setCell ⟨w.heap.size,5,none⟩ (.slice (some ⟨gn,0,none⟩) c.t kn)):=(But.refl _ _).setCell (.inl ⟨Nat.le_refl _,by show w.heap.size < w.heap.size + 3;omega⟩) _
 replace B3:=Lib.hid (B3.out.set (j:=5) (by simp) (.slice (some ⟨gn,0,none⟩) c.t kn))
 simp only [List.set_cons_succ,List.set_cons_zero] at B3
 replace B5:=Lib.hid (B5.out.put (a:=⟨w.heap.size,5,none⟩) (by show w.heap.size ≠ w.heap.size + 1;omega) (.slice (some ⟨gn,0,none⟩) c.t kn))
 replace B6:=Lib.hid (B6.out.put (a:=⟨w.heap.size,5,none⟩) (by show w.heap.size ≠ w.heap.size + 1 + 1;omega) (.slice (some ⟨gn,0,none⟩) c.t kn))
 replace Pn:=Lib.hid (Pn.out.but kv1 (bx_not (by omega)))
 replace Ln:=Nat.lt_of_lt_of_le Ln kv1.2.2
 replace Q:=Q.trans kv1
 generalize w2.setCell ⟨w.heap.size,5,none⟩ (.slice (some ⟨gn,0,none⟩) c.t kn) = v1 at *
 have e4:(x.kind == 1) = true:=by simp [h2.out]
 have e5:((at_ s.ins i:Int) == (c.i:Int)) = true:=by simp [e3']
 refine wp_region_plang (.fin [0,1,2,3,4,5,6,7,8,9,10,11,12,13]) (by kernel_rfl) (by kernel_rfl) (by kernel_rfl) ?_
 intro r7 h7
 clear kv1
 replace B3:=Lib.hid (B3.out.grown h7)
 replace B5:=Lib.hid (B5.out.grown h7)
 replace B6:=Lib.hid (B6.out.grown h7)
 replace Pn:=Lib.hid (Pn.out.grown h7)
 replace Ln:=Nat.lt_of_lt_of_le Ln (h7).2.2
 replace Q:=Q.trans (But.of_grown h7)
 have d0:∀ g:GrW r7,g.w.cell? ⟨w.heap.size + 1,0,none⟩ = some (.int .i64 x.kind):=GrW.cell (B5.out.cell 0 _ rfl)
 have d1:∀ g:GrW r7,g.w.cell? ⟨w.heap.size,6,none⟩ = some (.slice (some ⟨gs2,0,none⟩) c.t kc2):=GrW.cell (B3.out.cell 6 _ rfl)
 have d2:∀ g:GrW r7,g.w.cell? ⟨w.heap.size,2,none⟩ = some (.int .i64 c.i):=GrW.cell (B3.out.cell 2 _ rfl)
 have d3:∀ g:GrW r7,g.w.cell? ⟨gs2,i,none⟩ = some (.int .i64 (at_ s.ins i:Int)):=GrW.cell (Q.cell (fun q => by have:=q.1;omega) a2)
 clear h7
 refine plan_fin ?_
 simp only [nths,nth,List.map_cons,List.map_nil,List.getD_cons_zero,List.getD_cons_succ]
 repeat go_big_quiet_step (fail)
 refine wpQuiet_nil ?_
 clear d0 d1 d2 d3
 have b0:=B3.out.cell 0 _ rfl
 have b1:=B3.out.cell 1 _ rfl
 have b2:=B3.out.cell 2 _ rfl
 have b3:=B3.out.cell 3 _ rfl
 have b4:=B3.out.cell 4 _ rfl
 have b5:=B3.out.cell 5 _ rfl
 have b6:=B3.out.cell 6 _ rfl
 have b7:=B3.out.cell 7 _ rfl
 have b8:=B3.out.cell 8 _ rfl
 have b9:=B3.out.cell 9 _ rfl
 have c0:=B6.out.cell 0 _ rfl
 have c1:=B6.out.cell 1 _ rfl
 have c2:=B6.out.cell 2 _ rfl
 have c3:=B6.out.cell 3 _ rfl
 have c4:=B6.out.cell 4 _ rfl
 have c5:=B6.out.cell 5 _ rfl
 have c6:=B6.out.cell 6 _ rfl
 have c7:=B6.out.cell 7 _ rfl
 have c8:=B6.out.cell 8 _ rfl
 have c9:=B6.out.cell 9 _ rfl
 have qc0:=B6.out.free 0
 have qc1:=B6.out.free 1
 have qc2:=B6.out.free 2
 have qc3:=B6.out.free 3
 have qc4:=B6.out.free 4
 have qc5:=B6.out.free 5
 have qc6:=B6.out.free 6
 have qc7:=B6.out.free 7
 have qc8:=B6.out.free 8
 have qc9:=B6.out.free 9
 have hlt:=B6.out.lt
 have hlt3:=B3.out.lt
 go_wp2_with fail
 have B2:=B6.out.fill rfl (.int .i64 c.t) (.int .i64 c.b) (.int .i64 c.i) (.int .i64 c.f) (.int .i64 c.k) (.slice (some ⟨gn,0,none⟩) c.t kn) (.slice (some ⟨gs2,0,none⟩) c.t kc2) (.slice A3 n3 kc3) (.slice A4 n4 kc4) (.slice A5 n5 kc5)
 have e0:=B2.cell 0 _ rfl
 have e1:=B2.cell 1 _ rfl
 have e2:=B2.cell 2 _ rfl
 have e3:=B2.cell 3 _ rfl
 have e4:=B2.cell 4 _ rfl
 have e5:=B2.cell 5 _ rfl
 have e6:=B2.cell 6 _ rfl
 have e7:=B2.cell 7 _ rfl
 have e8:=B2.cell 8 _ rfl
 have e9:=B2.cell 9 _ rfl
 have kS:=(But.refl (Bx w.heap.size 3) r7).fill (b:=w.heap.size + 1 + 1) (.inl ⟨by omega,by omega⟩) (.int .i64 c.t) (.int .i64 c.b) (.int .i64 c.i) (.int .i64 c.f) (.int .i64 c.k) (.slice (some ⟨gn,0,none⟩) c.t kn) (.slice (some ⟨gs2,0,none⟩) c.t kc2) (.slice A3 n3 kc3) (.slice A4 n4 kc4) (.slice A5 n5 kc5)
 have gE:=But.fresh G (Q.trans kS) (fun i hi => hi.1)
 replace Pn:=Lib.hid (Pn.out.but kS (bx_not (by omega)))
 refine bodyPost_ret (v:=.tuple #[RV c (.slice (some ⟨gn,0,none⟩) c.t kn) (.slice (some ⟨gs2,0,none⟩) c.t kc2) (.slice A3 n3 kc3) (.slice A4 n4 kc4) (.slice A5 n5 kc5),.int .i64 0,.int .i64 3]) (by simp [results,Tryz.results65,go_sem,RV,e0,e1,e2,e3,e4,e5,e6,e7,e8,e9]) rfl ?_
 exact ⟨_,_,_,_,_,rfl,⟨Pn.out.flat ht1 (by omega),H.out.f2.grown gE,H.out.f3.grown gE,H.out.f4.grown gE,H.out.f5.grown gE⟩,gE,.inr (Pn.out.flat ht1 (by omega)),.inl rfl,.inl rfl,.inl rfl,.inl rfl⟩
theorem five_one (op:Nat) (x:Cal):∀ u ∈ [Value.int .i64 (op:Int),.int .i64 x.kind,.int .u64 x.key,.int .u64 x.val,.int .i64 x.lim],u.oneCell' = true:=by
 intro u hu
 simp only [List.mem_cons,List.not_mem_nil,or_false] at hu
 rcases hu with rfl | rfl | rfl | rfl | rfl <;> rfl
set_option maxHeartbeats 8000000 in
theorem rBegin_other (w:World) (hi:Nat) (c:Cf) (s:St) (s1 s2 s3 s4 s5:Value) (h:RefS w hi c s s1 s2 s3 s4 s5) (hok:c.Ok) (hI:Inv c s) (hw:hi ≤ w.heap.size) (hl:s.ops.length ≤ 9999) (i:Nat) (hit:i < c.t) (x:Cal) (hk:kindOk x) (e0:¬ at_ s.calls i = c.k) (h2:Hid (¬ x.kind = 1)) (op:Nat) (hop:i * c.k + at_ s.calls i = op) :
  Calls Tryz.prog 65 #[RV c s1 s2 s3 s4 s5,.int .i64 i,x.v] w (RTell hi c ({ s with calls:=bump s.calls i,ops:=s.ops ++ [(op,x)] },op,0) s1 s2 s3 s4 s5 w):=by
 have HV:Hid (vOp c.t c.b c.i c.f c.k i (at_ s.calls i) = (op:Int)):=Lib.hid (by rw [← hop];exact vOp_nat hok hit (by have:=hI.b1 i hit;omega))
 clear hop
 have ht1:=hok.t1
 obtain ⟨gs1,kc1,rfl,-,hc1⟩:=h.f1.some ht1
 obtain ⟨A2,n2,kc2,rfl⟩:=h.f2.slice
 obtain ⟨A3,n3,kc3,rfl⟩:=h.f3.slice
 obtain ⟨A4,n4,kc4,rfl⟩:=h.f4.slice
 obtain ⟨A5,n5,kc5,rfl⟩:=h.f5.slice
 have H:=Lib.hid h
 have HOK:=Lib.hid hok
 have HN:=Lib.hid hI
 have HI:Hid (decide (0 ≤ (i:Int) ∧ (i:Int) < c.t) = true):=Lib.hid (decide_eq_true (by omega))
 have l1:=hI.l1
 have l2:=hI.l2
 have b1:=hI.b1 i hit
 have b2:=hI.b2 i hit
 have ck2:=hok.k2
 have i2:=hok.i2
 have t8:=hok.t8
 have a1:w.cell? ⟨gs1,i,none⟩ = some (.int .i64 (at_ s.calls i:Int)):=hc1 i _ (vNat_at (by omega))
 clear hc1
 have HK:Hid (kindOk x):=Lib.hid hk
 have hkk:=hk
 unfold kindOk at hkk
 have e1:decide (x.kind < 1) = false:=decide_eq_false (by omega)
 have e2:decide (4 < x.kind) = false:=decide_eq_false (by omega)
 clear hkk hk
 clear h hok hI
 unfold RV Cal.v
 go_enter Tryz.func65,Tryz.ntmps65
 go_wp2_with fail
 refine (is_at _ hi c s _ _ _ _ _ (H.out.grown (by go_grown)) HOK.out i _ HI.out).mono ?_;rintro e w1 ⟨rfl,g1⟩
 obtain ⟨B3,B5,B6,G⟩:=boxes3 (l1:=[.int .i64 c.t,.int .i64 c.b,.int .i64 c.i,.int .i64 c.f,.int .i64 c.k,.slice (some ⟨gs1,0,none⟩) c.t kc1,.slice A2 n2 kc2,.slice A3 n3 kc3,.slice A4 n4 kc4,.slice A5 n5 kc5]) (l2:=[.int .i64 x.kind,.int .u64 x.key,.int .u64 x.val,.int .i64 x.lim]) (l3:=[.int .i64 0,.int .i64 0,.int .i64 0,.int .i64 0,.int .i64 0,.slice none 0 0,.slice none 0 0,.slice none 0 0,.slice none 0 0,.slice none 0 0]) g1
 replace B3:=Lib.hid B3
 replace B5:=Lib.hid B5
 replace B6:=Lib.hid B6
 have Q:But (Bx w.heap.size 3) w1 w1:=But.refl _ _
 clear g1
 replace a1:=gcell G a1
 have y0:=B5.out.cell 0 _ rfl
 have b4:=B3.out.cell 4 _ rfl
 have b5:=B3.out.cell 5 _ rfl
 have e3:((at_ s.calls i:Int) == (c.k:Int)) = false:=by simp;omega
 go_wp2_with fail
 refine (more_at _ hi (w.heap.size + 3) _ s.calls i (by omega) (by rw [l1];exact H.out.f1.grown G) (by have:=B6.out.lt;omega) (by omega) (by omega)).mono ?_;rintro e w2 ⟨v1,rfl,F1,m1⟩
 rw [l1] at F1
 obtain ⟨gn,kn,rfl,hn1,Pn⟩:=F1.some ht1
 replace Pn:Hid (RowIn w2 gn (vNat (bump s.calls i))):=Lib.hid Pn
 clear F1 y0 b4 b5
 have Ln:gn < w2.heap.size:=Pn.out.lt (by rw [vNat_len,length_bump];omega)
 replace B3:=Lib.hid (B3.out.grown m1)
 replace B5:=Lib.hid (B5.out.grown m1)
 replace B6:=Lib.hid (B6.out.grown m1)
 replace Q:=Q.trans (But.of_grown m1)
 have b5:=B3.out.cell 5 _ rfl
 have qb5:=B3.out.free 5
 go_wp2_with fail
 clear b5 qb5 m1
 have kv1:But (Bx w.heap.size 3) w2 (w2.setCell ⟨w.heap.size,5,none⟩ (.slice (some ⟨gn,0,none⟩) c.t kn)):=(But.refl _ _).setCell (.inl ⟨Nat.le_refl _,by show w.heap.size < w.heap.size + 3;omega⟩) _
 replace B3:=Lib.hid (B3.out.set (j:=5) (by simp) (.slice (some ⟨gn,0,none⟩) c.t kn))
 simp only [List.set_cons_succ,List.set_cons_zero] at B3
 replace B5:=Lib.hid (B5.out.put (a:=⟨w.heap.size,5,none⟩) (by show w.heap.size ≠ w.heap.size + 1;omega) (.slice (some ⟨gn,0,none⟩) c.t kn))
 replace B6:=Lib.hid (B6.out.put (a:=⟨w.heap.size,5,none⟩) (by show w.heap.size ≠ w.heap.size + 1 + 1;omega) (.slice (some ⟨gn,0,none⟩) c.t kn))
 replace Pn:=Lib.hid (Pn.out.but kv1 (bx_not (by omega)))
 replace Ln:=Nat.lt_of_lt_of_le Ln kv1.2.2
 replace Q:=Q.trans kv1
 generalize w2.setCell ⟨w.heap.size,5,none⟩ (.slice (some ⟨gn,0,none⟩) c.t kn) = v1 at *
 have e4:(x.kind == 1) = false:=by simp [h2.out]
 refine wp_region_plang (.fin [0,1,2,3,4,5,6,7,8,9,10,11,12,13]) (by kernel_rfl) (by kernel_rfl) (by kernel_rfl) ?_
 intro r7 h7
 clear kv1
 replace B3:=Lib.hid (B3.out.grown h7)
 replace B5:=Lib.hid (B5.out.grown h7)
 replace B6:=Lib.hid (B6.out.grown h7)
 replace Pn:=Lib.hid (Pn.out.grown h7)
 replace Ln:=Nat.lt_of_lt_of_le Ln (h7).2.2
 replace Q:=Q.trans (But.of_grown h7)
 have d0:∀ g:GrW r7,g.w.cell? ⟨w.heap.size + 1,0,none⟩ = some (.int .i64 x.kind):=GrW.cell (B5.out.cell 0 _ rfl)
 have d1:∀ g:GrW r7,g.w.cell? ⟨w.heap.size,6,none⟩ = some (.slice A2 n2 kc2):=GrW.cell (B3.out.cell 6 _ rfl)
 have d2:∀ g:GrW r7,g.w.cell? ⟨w.heap.size,2,none⟩ = some (.int .i64 c.i):=GrW.cell (B3.out.cell 2 _ rfl)
 clear h7
 refine plan_fin ?_
 simp only [nths,nth,List.map_cons,List.map_nil,List.getD_cons_zero,List.getD_cons_succ]
 repeat go_big_quiet_step (fail)
 refine wpQuiet_nil ?_
 clear d0 d1 d2
 have b0:=B3.out.cell 0 _ rfl;have b1':=B3.out.cell 1 _ rfl;have b2':=B3.out.cell 2 _ rfl;have b3:=B3.out.cell 3 _ rfl;have b4:=B3.out.cell 4 _ rfl;have y0:=B5.out.cell 0 _ rfl
 go_wp2_with fail
 refine (rOp_at _ _ _ _ _ _ _ _ _ HV.out).mono ?_;rintro e wo ⟨rfl,ko⟩
 clear b0 b1' b2' b3 b4 y0
 replace B3:=Lib.hid (B3.out.grown ko)
 replace B5:=Lib.hid (B5.out.grown ko)
 replace B6:=Lib.hid (B6.out.grown ko)
 replace Pn:=Lib.hid (Pn.out.grown ko)
 replace Ln:=Nat.lt_of_lt_of_le Ln (ko).2.2
 replace Q:=Q.trans (But.of_grown ko)
 clear ko
 go_wp2_with fail
 go_cut [] from 70 (fun wx => ∃ gz kz:Nat,Hid (Box wx w.heap.size [.int .i64 c.t,.int .i64 c.b,.int .i64 c.i,.int .i64 c.f,.int .i64 c.k,.slice (some ⟨gn,0,none⟩) c.t kn,.slice A2 n2 kc2,.slice A3 n3 kc3,.slice (some ⟨gz,0,none⟩) (s.ops.length + 1) kz,.slice A5 n5 kc5]) ∧ Hid (Box wx (w.heap.size + 1 + 1) [.int .i64 0,.int .i64 0,.int .i64 0,.int .i64 0,.int .i64 0,.slice none 0 0,.slice none 0 0,.slice none 0 0,.slice none 0 0,.slice none 0 0]) ∧ But (Bx w.heap.size 3) w1 wx ∧ w.heap.size + 3 ≤ gz ∧ Hid (RowIn wx gz (flatC s.ops ++ [.int .i64 (op:Int),.int .i64 x.kind,.int .u64 x.key,.int .u64 x.val,.int .i64 x.lim])) ∧ Hid (RowIn wx gn (vNat (bump s.calls i))))
 case first =>
  refine wp_region_planb (· ≠ w.heap.size + 1) (.three [1,4,5,6] 0 (.two [] 2 (.two [] 3 (.one [] 7 (.one [] 8 (.one [9] 10 (.fin [])))) 7 (.one [] 3 (.one [] 8 (.one [9] 10 (.fin []))))) 7 (.one [] 2 (.one [] 3 (.one [] 8 (.one [9] 10 (.fin [])))))) 2 (.two [] 0 (.two [] 3 (.one [] 7 (.one [] 8 (.one [9] 10 (.fin [])))) 7 (.one [] 3 (.one [] 8 (.one [9] 10 (.fin []))))) 7 (.one [] 0 (.one [] 3 (.one [] 8 (.one [9] 10 (.fin [])))))) 7 (.two [] 0 (.one [] 2 (.one [] 3 (.one [] 8 (.one [9] 10 (.fin []))))) 2 (.one [] 0 (.one [] 3 (.one [] 8 (.one [9] 10 (.fin []))))))) (by kernel_rfl) (by kernel_rfl) (by kernel_rfl) ?_
  intro wp kp
  replace B3:=Lib.hid (B3.out.grown kp)
  replace B5:=Lib.hid (B5.out.grown kp)
  replace B6:=Lib.hid (B6.out.grown kp)
  replace Pn:=Lib.hid (Pn.out.grown kp)
  replace Ln:=Nat.lt_of_lt_of_le Ln (kp).2.2
  replace Q:=Q.trans (But.of_grown kp)
  clear kp
  have U:But (· ≠ w.heap.size + 1) wp wp:=But.refl _ _
  have y0:∀ g:ButW (· ≠ w.heap.size + 1) wp,g.w.cell? ⟨w.heap.size + 1,0,none⟩ = some (.int .i64 x.kind):=ButW.cell (fun h => h rfl) (B5.out.cell 0 _ rfl)
  have y1:∀ g:ButW (· ≠ w.heap.size + 1) wp,g.w.cell? ⟨w.heap.size + 1,1,none⟩ = some (.int .u64 x.key):=ButW.cell (fun h => h rfl) (B5.out.cell 1 _ rfl)
  have y2:∀ g:ButW (· ≠ w.heap.size + 1) wp,g.w.cell? ⟨w.heap.size + 1,2,none⟩ = some (.int .u64 x.val):=ButW.cell (fun h => h rfl) (B5.out.cell 2 _ rfl)
  have y3:∀ g:ButW (· ≠ w.heap.size + 1) wp,g.w.cell? ⟨w.heap.size + 1,3,none⟩ = some (.int .i64 x.lim):=ButW.cell (fun h => h rfl) (B5.out.cell 3 _ rfl)
  refine plan_three ?_
  simp only [nths,nth,List.map_cons,List.map_nil,List.getD_cons_zero,List.getD_cons_succ]
  repeat go_big_quiet_step (fail)
  clear y0 y1 y2 y3
  refine wpQuiet_nil ⟨?_,?_,?_⟩
  ·go_wp2_with fail
   have kv2:Grown wp (wp.alloc (.cells #[] 171)):=by go_grown
   have hlt:=B6.out.lt
   have OWN:(wp.alloc (.cells #[] 171)).ownsRow (w.heap.size + 3) 171 5 (.slice (some ⟨wp.heap.size,0,none⟩) 0 0) 0 []:=own_made (by omega)
   have LO:wp.heap.size < (wp.alloc (.cells #[] 171)).heap.size:=by simp
   have hwa:w1.heap.size ≤ wp.heap.size:=Q.2.2
   have hba:w.heap.size + 3 ≤ wp.heap.size:=by omega
   have nna:gn ≠ wp.heap.size:=by omega
   obtain ⟨ga,hga⟩:∃ q,wp.heap.size = q:=⟨_,rfl⟩
   rw [hga] at OWN LO hwa hba nna ⊢
   clear hga
   generalize wp.alloc (.cells #[] 171) = v2 at *
   replace OWN:=Lib.hid OWN
   have HVO:(Value.slice (some ⟨ga,0,none⟩) 0 0).ownBlock = some ga:=rfl
   replace B3:=Lib.hid (B3.out.grown kv2)
   replace B5:=Lib.hid (B5.out.grown kv2)
   replace B6:=Lib.hid (B6.out.grown kv2)
   replace Pn:=Lib.hid (Pn.out.grown kv2)
   replace Ln:=Nat.lt_of_lt_of_le Ln (kv2).2.2
   replace U:=U.trans (But.of_grown kv2)
   replace Q:=Q.trans (But.of_grown kv2)
   clear kv2 hlt
   refine nxt_but U (plan_two ?_)
   simp only [nths,nth,List.map_nil,List.getD_cons_zero,List.getD_cons_succ]
   refine wpQuiet_nil ⟨?_,?_⟩
   ·have b8:=B3.out.cell 8 _ rfl
    go_wp2_with fail
    clear b8
    refine nxt_but U (plan_two ?_)
    simp only [nths,nth,List.map_nil,List.getD_cons_zero,List.getD_cons_succ]
    refine wpQuiet_nil ⟨?_,?_⟩
    ·have hlt:=B6.out.lt
     go_wp2_with (first | (at_builtin;refine wpList_push rfl _ _ 37 rfl (w.heap.size + 3) 171 (.agg #[.int .i64 0,.int .i64 0,.int .u64 0,.int .u64 0,.int .i64 0]) 5 40 Tryz.underlying37 info_op rfl (by decide) _ 0 [] ga OWN.out HVO (.slice A4 n4 kc4) s.ops.length hi (flatC s.ops) (H.out.f4.grown (But.fresh G Q (fun i hi => hi.1))) (flatC_len _) (flatC_one _) (by omega) (by decide) (by omega) rfl rfl ?_) | fail)
     intro v3 w3 g3 OWN3 hv3 hg3 q3
     try simp only [Nat.zero_add,List.nil_append] at OWN3
     have nnb:gn ≠ g3:=by omega
     have hwb:w1.heap.size ≤ g3:=by have:=Q.2.2;omega
     have hbb:w.heap.size + 3 ≤ g3:=by omega
     have LO3:g3 < w3.heap.size:=(OWN3.lt g3 hv3).2
     replace B3:=Lib.hid (B3.out.but q3 (show ¬ w.heap.size = ga by omega))
     replace B5:=Lib.hid (B5.out.but q3 (show ¬ w.heap.size + 1 = ga by omega))
     replace B6:=Lib.hid (B6.out.but q3 (show ¬ w.heap.size + 1 + 1 = ga by omega))
     replace Pn:=Lib.hid (Pn.out.but q3 (show ¬ gn = ga by omega))
     replace Ln:=Nat.lt_of_lt_of_le Ln (q3).2.2
     have hq1:¬ ga < w1.heap.size:=by omega
     replace Q:=Q.over q3 hq1
     clear hq1
     replace U:=U.trans (q3.mono (fun i hi => by show i ≠ w.heap.size + 1;omega))
     clear OWN HVO LO q3 hg3 hlt hwa hba nna
     have OWN:=Lib.hid OWN3
     have HVO:=hv3
     have LO:=LO3
     clear OWN3 hv3 LO3
     go_wp2_with fail
     refine nxt_but U (plan_one ?_)
     simp only [nths,nth,List.map_nil,List.getD_cons_zero,List.getD_cons_succ]
     refine wpQuiet_nil ?_
     go_wp2_with fail
     have kv3:Grown w3 (w3.alloc (.cells #[.int .i64 (op:Int),.int .i64 x.kind,.int .u64 x.key,.int .u64 x.val,.int .i64 x.lim] 171)):=by go_grown
     have hlt:=B6.out.lt
     have PC:Hid (RowIn (w3.alloc (.cells #[.int .i64 (op:Int),.int .i64 x.kind,.int .u64 x.key,.int .u64 x.val,.int .i64 x.lim] 171)) w3.heap.size [.int .i64 (op:Int),.int .i64 x.kind,.int .u64 x.key,.int .u64 x.val,.int .i64 x.lim]):=Lib.hid (RowIn.made _ _ _)
     have LC:w3.heap.size < (w3.alloc (.cells #[.int .i64 (op:Int),.int .i64 x.kind,.int .u64 x.key,.int .u64 x.val,.int .i64 x.lim] 171)).heap.size:=by simp
     have hbc:w.heap.size + 3 ≤ w3.heap.size:=by omega
     have ncb:w3.heap.size ≠ g3:=by omega
     obtain ⟨gc,hgc⟩:∃ q,w3.heap.size = q:=⟨_,rfl⟩
     rw [hgc] at PC LC hbc ncb ⊢
     clear hgc
     generalize w3.alloc (.cells #[.int .i64 (op:Int),.int .i64 x.kind,.int .u64 x.key,.int .u64 x.val,.int .i64 x.lim] 171) = v3 at *
     replace B3:=Lib.hid (B3.out.grown kv3)
     replace B5:=Lib.hid (B5.out.grown kv3)
     replace B6:=Lib.hid (B6.out.grown kv3)
     replace Pn:=Lib.hid (Pn.out.grown kv3)
     replace Ln:=Nat.lt_of_lt_of_le Ln (kv3).2.2
     replace OWN:=Lib.hid (own_but OWN.out HVO (S:=fun _ => False) kv3 (fun f => f))
     replace LO:=Nat.lt_of_lt_of_le LO (kv3).2.2
     replace U:=U.trans (But.of_grown kv3)
     replace Q:=Q.trans (But.of_grown kv3)
     have Pc:=PC;have Lc:=LC;clear PC LC kv3 hlt
     refine nxt_but U (plan_one ?_)
     simp only [nths,nth,List.map_nil,List.getD_cons_zero,List.getD_cons_succ]
     refine wpQuiet_nil ?_
     have hlt:=B6.out.lt
     go_wp2_with (first | (at_builtin;refine wpList_push rfl _ _ 37 rfl (w.heap.size + 3) 171 (.agg #[.int .i64 0,.int .i64 0,.int .u64 0,.int .u64 0,.int .i64 0]) 5 40 Tryz.underlying37 info_op rfl (by decide) _ s.ops.length (flatC s.ops) g3 OWN.out HVO (.slice (some ⟨gc,0,none⟩) 1 1) 1 0 [.int .i64 (op:Int),.int .i64 x.kind,.int .u64 x.key,.int .u64 x.val,.int .i64 x.lim] (Pc.out.flat (by decide) (Nat.zero_le _)) rfl (five_one op x) (by omega) (by decide) (by omega) rfl rfl ?_) | fail)
     intro v8 w8 g8 OWN8 hv8 hg8 q8
     replace B3:=Lib.hid (B3.out.but q8 (show ¬ w.heap.size = g3 by omega))
     replace B5:=Lib.hid (B5.out.but q8 (show ¬ w.heap.size + 1 = g3 by omega))
     replace B6:=Lib.hid (B6.out.but q8 (show ¬ w.heap.size + 1 + 1 = g3 by omega))
     replace Pn:=Lib.hid (Pn.out.but q8 (show ¬ gn = g3 by omega))
     replace Ln:=Nat.lt_of_lt_of_le Ln (q8).2.2
     replace Pc:=Lib.hid (Pc.out.but q8 (show ¬ gc = g3 by omega))
     replace Lc:=Nat.lt_of_lt_of_le Lc (q8).2.2
     have hq1:¬ g3 < w1.heap.size:=by omega
     replace Q:=Q.over q8 hq1
     clear hq1
     replace U:=U.trans (q8.mono (fun i hi => by show i ≠ w.heap.size + 1;omega))
     clear OWN HVO LO q8 hlt hwb hbb nnb ncb
     obtain ⟨gz,kz,rfl,hbz,PZ⟩:=(FlatAt.of_own OWN8 (by omega)).some (by omega)
     have Pz:Hid (RowIn w8 gz (flatC s.ops ++ [.int .i64 (op:Int),.int .i64 x.kind,.int .u64 x.key,.int .u64 x.val,.int .i64 x.lim])):=Lib.hid PZ
     have Lz:=Pz.out.lt (by simp)
     clear PZ OWN8 hv8 hg8
     clear Pc Lc hbc
     go_wp2_with fail
     refine nxt_but U (plan_one ?_)
     simp only [nths,nth,List.map_cons,List.map_nil,List.getD_cons_zero,List.getD_cons_succ]
     repeat go_big_quiet_step (fail)
     refine wpQuiet_nil ?_
     have b8:=B3.out.cell 8 _ rfl
     have qb8:=B3.out.free 8
     go_wp2_with fail
     clear b8 qb8
     have U9:=U.setCell (a:=⟨w.heap.size,8,none⟩) (.inl (show w.heap.size ≠ w.heap.size + 1 by omega)) (.slice (some ⟨gz,0,none⟩) (s.ops.length + 1) kz)
     have kv4:But (Bx w.heap.size 3) w8 (w8.setCell ⟨w.heap.size,8,none⟩ (.slice (some ⟨gz,0,none⟩) (s.ops.length + 1) kz)):=(But.refl _ _).setCell (.inl ⟨Nat.le_refl _,by show w.heap.size < w.heap.size + 3;omega⟩) _
     replace B3:=Lib.hid (B3.out.set (j:=8) (by simp) (.slice (some ⟨gz,0,none⟩) (s.ops.length + 1) kz))
     simp only [List.set_cons_succ,List.set_cons_zero] at B3
     replace B5:=Lib.hid (B5.out.put (a:=⟨w.heap.size,8,none⟩) (by show w.heap.size ≠ w.heap.size + 1;omega) (.slice (some ⟨gz,0,none⟩) (s.ops.length + 1) kz))
     replace B6:=Lib.hid (B6.out.put (a:=⟨w.heap.size,8,none⟩) (by show w.heap.size ≠ w.heap.size + 1 + 1;omega) (.slice (some ⟨gz,0,none⟩) (s.ops.length + 1) kz))
     replace Pn:=Lib.hid (Pn.out.but kv4 (bx_not (by omega)))
     replace Ln:=Nat.lt_of_lt_of_le Ln kv4.2.2
     replace Pz:=Lib.hid (Pz.out.but kv4 (bx_not (by omega)))
     replace Lz:=Nat.lt_of_lt_of_le Lz kv4.2.2
     replace Q:=Q.trans kv4
     generalize w8.setCell ⟨w.heap.size,8,none⟩ (.slice (some ⟨gz,0,none⟩) (s.ops.length + 1) kz) = v4 at *
     refine nxt_but U9 (plan_fin ?_)
     clear U9 kv4
     simp only [nths,List.map_nil]
     refine wpQuiet_nil ?_
     go_wp2_with fail
     go_meet
     case rel => exact ⟨gz,kz,B3,B6,Q,hbz,Pz,Pn⟩
    ·go_wp2_with fail
     have kv3:Grown v2 (v2.alloc (.cells #[.int .i64 (op:Int),.int .i64 x.kind,.int .u64 x.key,.int .u64 x.val,.int .i64 x.lim] 171)):=by go_grown
     have hlt:=B6.out.lt
     have PC:Hid (RowIn (v2.alloc (.cells #[.int .i64 (op:Int),.int .i64 x.kind,.int .u64 x.key,.int .u64 x.val,.int .i64 x.lim] 171)) v2.heap.size [.int .i64 (op:Int),.int .i64 x.kind,.int .u64 x.key,.int .u64 x.val,.int .i64 x.lim]):=Lib.hid (RowIn.made _ _ _)
     have LC:v2.heap.size < (v2.alloc (.cells #[.int .i64 (op:Int),.int .i64 x.kind,.int .u64 x.key,.int .u64 x.val,.int .i64 x.lim] 171)).heap.size:=by simp
     have hbc:w.heap.size + 3 ≤ v2.heap.size:=by omega
     have nca:v2.heap.size ≠ ga:=by omega
     obtain ⟨gc,hgc⟩:∃ q,v2.heap.size = q:=⟨_,rfl⟩
     rw [hgc] at PC LC hbc nca ⊢
     clear hgc
     generalize v2.alloc (.cells #[.int .i64 (op:Int),.int .i64 x.kind,.int .u64 x.key,.int .u64 x.val,.int .i64 x.lim] 171) = v3 at *
     replace B3:=Lib.hid (B3.out.grown kv3)
     replace B5:=Lib.hid (B5.out.grown kv3)
     replace B6:=Lib.hid (B6.out.grown kv3)
     replace Pn:=Lib.hid (Pn.out.grown kv3)
     replace Ln:=Nat.lt_of_lt_of_le Ln (kv3).2.2
     replace OWN:=Lib.hid (own_but OWN.out HVO (S:=fun _ => False) kv3 (fun f => f))
     replace LO:=Nat.lt_of_lt_of_le LO (kv3).2.2
     replace U:=U.trans (But.of_grown kv3)
     replace Q:=Q.trans (But.of_grown kv3)
     have Pc:=PC;have Lc:=LC;clear PC LC kv3 hlt
     refine nxt_but U (plan_one ?_)
     simp only [nths,nth,List.map_nil,List.getD_cons_zero,List.getD_cons_succ]
     refine wpQuiet_nil ?_
     have hlt:=B6.out.lt
     go_wp2_with (first | (at_builtin;refine wpList_push rfl _ _ 37 rfl (w.heap.size + 3) 171 (.agg #[.int .i64 0,.int .i64 0,.int .u64 0,.int .u64 0,.int .i64 0]) 5 40 Tryz.underlying37 info_op rfl (by decide) _ 0 [] ga OWN.out HVO (.slice A4 n4 kc4) s.ops.length hi (flatC s.ops) (H.out.f4.grown (But.fresh G Q (fun i hi => hi.1))) (flatC_len _) (flatC_one _) (by omega) (by decide) (by omega) rfl rfl ?_) | fail)
     intro v3 w3 g3 OWN3 hv3 hg3 q3
     try simp only [Nat.zero_add,List.nil_append] at OWN3
     have nnb:gn ≠ g3:=by omega
     have ncb:gc ≠ g3:=by omega
     have hwb:w1.heap.size ≤ g3:=by have:=Q.2.2;omega
     have hbb:w.heap.size + 3 ≤ g3:=by omega
     have LO3:g3 < w3.heap.size:=(OWN3.lt g3 hv3).2
     replace B3:=Lib.hid (B3.out.but q3 (show ¬ w.heap.size = ga by omega))
     replace B5:=Lib.hid (B5.out.but q3 (show ¬ w.heap.size + 1 = ga by omega))
     replace B6:=Lib.hid (B6.out.but q3 (show ¬ w.heap.size + 1 + 1 = ga by omega))
     replace Pn:=Lib.hid (Pn.out.but q3 (show ¬ gn = ga by omega))
     replace Ln:=Nat.lt_of_lt_of_le Ln (q3).2.2
     replace Pc:=Lib.hid (Pc.out.but q3 (show ¬ gc = ga by omega))
     replace Lc:=Nat.lt_of_lt_of_le Lc (q3).2.2
     have hq1:¬ ga < w1.heap.size:=by omega
     replace Q:=Q.over q3 hq1
     clear hq1
     replace U:=U.trans (q3.mono (fun i hi => by show i ≠ w.heap.size + 1;omega))
     clear OWN HVO LO q3 hg3 hlt hwa hba nna nca
     have OWN:=Lib.hid OWN3
     have HVO:=hv3
     have LO:=LO3
     clear OWN3 hv3 LO3
     go_wp2_with fail
     refine nxt_but U (plan_one ?_)
     simp only [nths,nth,List.map_nil,List.getD_cons_zero,List.getD_cons_succ]
     refine wpQuiet_nil ?_
     have hlt:=B6.out.lt
     go_wp2_with (first | (at_builtin;refine wpList_push rfl _ _ 37 rfl (w.heap.size + 3) 171 (.agg #[.int .i64 0,.int .i64 0,.int .u64 0,.int .u64 0,.int .i64 0]) 5 40 Tryz.underlying37 info_op rfl (by decide) _ s.ops.length (flatC s.ops) g3 OWN.out HVO (.slice (some ⟨gc,0,none⟩) 1 1) 1 0 [.int .i64 (op:Int),.int .i64 x.kind,.int .u64 x.key,.int .u64 x.val,.int .i64 x.lim] (Pc.out.flat (by decide) (Nat.zero_le _)) rfl (five_one op x) (by omega) (by decide) (by omega) rfl rfl ?_) | fail)
     intro v8 w8 g8 OWN8 hv8 hg8 q8
     replace B3:=Lib.hid (B3.out.but q8 (show ¬ w.heap.size = g3 by omega))
     replace B5:=Lib.hid (B5.out.but q8 (show ¬ w.heap.size + 1 = g3 by omega))
     replace B6:=Lib.hid (B6.out.but q8 (show ¬ w.heap.size + 1 + 1 = g3 by omega))
     replace Pn:=Lib.hid (Pn.out.but q8 (show ¬ gn = g3 by omega))
     replace Ln:=Nat.lt_of_lt_of_le Ln (q8).2.2
     replace Pc:=Lib.hid (Pc.out.but q8 (show ¬ gc = g3 by omega))
     replace Lc:=Nat.lt_of_lt_of_le Lc (q8).2.2
     have hq1:¬ g3 < w1.heap.size:=by omega
     replace Q:=Q.over q8 hq1
     clear hq1
     replace U:=U.trans (q8.mono (fun i hi => by show i ≠ w.heap.size + 1;omega))
     clear OWN HVO LO q8 hlt hwb hbb nnb ncb
     obtain ⟨gz,kz,rfl,hbz,PZ⟩:=(FlatAt.of_own OWN8 (by omega)).some (by omega)
     have Pz:Hid (RowIn w8 gz (flatC s.ops ++ [.int .i64 (op:Int),.int .i64 x.kind,.int .u64 x.key,.int .u64 x.val,.int .i64 x.lim])):=Lib.hid PZ
     have Lz:=Pz.out.lt (by simp)
     clear PZ OWN8 hv8 hg8
     clear Pc Lc hbc
     go_wp2_with fail
     refine nxt_but U (plan_one ?_)
     simp only [nths,nth,List.map_cons,List.map_nil,List.getD_cons_zero,List.getD_cons_succ]
     repeat go_big_quiet_step (fail)
     refine wpQuiet_nil ?_
     have b8:=B3.out.cell 8 _ rfl
     have qb8:=B3.out.free 8
     go_wp2_with fail
     clear b8 qb8
     have U9:=U.setCell (a:=⟨w.heap.size,8,none⟩) (.inl (show w.heap.size ≠ w.heap.size + 1 by omega)) (.slice (some ⟨gz,0,none⟩) (s.ops.length + 1) kz)
     have kv4:But (Bx w.heap.size 3) w8 (w8.setCell ⟨w.heap.size,8,none⟩ (.slice (some ⟨gz,0,none⟩) (s.ops.length + 1) kz)):=(But.refl _ _).setCell (.inl ⟨Nat.le_refl _,by show w.heap.size < w.heap.size + 3;omega⟩) _
     replace B3:=Lib.hid (B3.out.set (j:=8) (by simp) (.slice (some ⟨gz,0,none⟩) (s.ops.length + 1) kz))
     simp only [List.set_cons_succ,List.set_cons_zero] at B3
     replace B5:=Lib.hid (B5.out.put (a:=⟨w.heap.size,8,none⟩) (by show w.heap.size ≠ w.heap.size + 1;omega) (.slice (some ⟨gz,0,none⟩) (s.ops.length + 1) kz))
     replace B6:=Lib.hid (B6.out.put (a:=⟨w.heap.size,8,none⟩) (by show w.heap.size ≠ w.heap.size + 1 + 1;omega) (.slice (some ⟨gz,0,none⟩) (s.ops.length + 1) kz))
     replace Pn:=Lib.hid (Pn.out.but kv4 (bx_not (by omega)))
     replace Ln:=Nat.lt_of_lt_of_le Ln kv4.2.2
     replace Pz:=Lib.hid (Pz.out.but kv4 (bx_not (by omega)))
     replace Lz:=Nat.lt_of_lt_of_le Lz kv4.2.2
     replace Q:=Q.trans kv4
     generalize w8.setCell ⟨w.heap.size,8,none⟩ (.slice (some ⟨gz,0,none⟩) (s.ops.length + 1) kz) = v4 at *
     refine nxt_but U9 (plan_fin ?_)
     clear U9 kv4
     simp only [nths,List.map_nil]
     refine wpQuiet_nil ?_
     go_wp2_with fail
     go_meet
     case rel => exact ⟨gz,kz,B3,B6,Q,hbz,Pz,Pn⟩
   ·go_wp2_with fail
    have kv3:Grown v2 (v2.alloc (.cells #[.int .i64 (op:Int),.int .i64 x.kind,.int .u64 x.key,.int .u64 x.val,.int .i64 x.lim] 171)):=by go_grown
    have hlt:=B6.out.lt
    have PC:Hid (RowIn (v2.alloc (.cells #[.int .i64 (op:Int),.int .i64 x.kind,.int .u64 x.key,.int .u64 x.val,.int .i64 x.lim] 171)) v2.heap.size [.int .i64 (op:Int),.int .i64 x.kind,.int .u64 x.key,.int .u64 x.val,.int .i64 x.lim]):=Lib.hid (RowIn.made _ _ _)
    have LC:v2.heap.size < (v2.alloc (.cells #[.int .i64 (op:Int),.int .i64 x.kind,.int .u64 x.key,.int .u64 x.val,.int .i64 x.lim] 171)).heap.size:=by simp
    have hbc:w.heap.size + 3 ≤ v2.heap.size:=by omega
    have nca:v2.heap.size ≠ ga:=by omega
    obtain ⟨gc,hgc⟩:∃ q,v2.heap.size = q:=⟨_,rfl⟩
    rw [hgc] at PC LC hbc nca ⊢
    clear hgc
    generalize v2.alloc (.cells #[.int .i64 (op:Int),.int .i64 x.kind,.int .u64 x.key,.int .u64 x.val,.int .i64 x.lim] 171) = v3 at *
    replace B3:=Lib.hid (B3.out.grown kv3)
    replace B5:=Lib.hid (B5.out.grown kv3)
    replace B6:=Lib.hid (B6.out.grown kv3)
    replace Pn:=Lib.hid (Pn.out.grown kv3)
    replace Ln:=Nat.lt_of_lt_of_le Ln (kv3).2.2
    replace OWN:=Lib.hid (own_but OWN.out HVO (S:=fun _ => False) kv3 (fun f => f))
    replace LO:=Nat.lt_of_lt_of_le LO (kv3).2.2
    replace U:=U.trans (But.of_grown kv3)
    replace Q:=Q.trans (But.of_grown kv3)
    have Pc:=PC;have Lc:=LC;clear PC LC kv3 hlt
    refine nxt_but U (plan_one ?_)
    simp only [nths,nth,List.map_nil,List.getD_cons_zero,List.getD_cons_succ]
    refine wpQuiet_nil ?_
    have b8:=B3.out.cell 8 _ rfl
    go_wp2_with fail
    clear b8
    refine nxt_but U (plan_one ?_)
    simp only [nths,nth,List.map_nil,List.getD_cons_zero,List.getD_cons_succ]
    refine wpQuiet_nil ?_
    have hlt:=B6.out.lt
    go_wp2_with (first | (at_builtin;refine wpList_push rfl _ _ 37 rfl (w.heap.size + 3) 171 (.agg #[.int .i64 0,.int .i64 0,.int .u64 0,.int .u64 0,.int .i64 0]) 5 40 Tryz.underlying37 info_op rfl (by decide) _ 0 [] ga OWN.out HVO (.slice A4 n4 kc4) s.ops.length hi (flatC s.ops) (H.out.f4.grown (But.fresh G Q (fun i hi => hi.1))) (flatC_len _) (flatC_one _) (by omega) (by decide) (by omega) rfl rfl ?_) | fail)
    intro v3 w3 g3 OWN3 hv3 hg3 q3
    try simp only [Nat.zero_add,List.nil_append] at OWN3
    have nnb:gn ≠ g3:=by omega
    have ncb:gc ≠ g3:=by omega
    have hwb:w1.heap.size ≤ g3:=by have:=Q.2.2;omega
    have hbb:w.heap.size + 3 ≤ g3:=by omega
    have LO3:g3 < w3.heap.size:=(OWN3.lt g3 hv3).2
    replace B3:=Lib.hid (B3.out.but q3 (show ¬ w.heap.size = ga by omega))
    replace B5:=Lib.hid (B5.out.but q3 (show ¬ w.heap.size + 1 = ga by omega))
    replace B6:=Lib.hid (B6.out.but q3 (show ¬ w.heap.size + 1 + 1 = ga by omega))
    replace Pn:=Lib.hid (Pn.out.but q3 (show ¬ gn = ga by omega))
    replace Ln:=Nat.lt_of_lt_of_le Ln (q3).2.2
    replace Pc:=Lib.hid (Pc.out.but q3 (show ¬ gc = ga by omega))
    replace Lc:=Nat.lt_of_lt_of_le Lc (q3).2.2
    have hq1:¬ ga < w1.heap.size:=by omega
    replace Q:=Q.over q3 hq1
    clear hq1
    replace U:=U.trans (q3.mono (fun i hi => by show i ≠ w.heap.size + 1;omega))
    clear OWN HVO LO q3 hg3 hlt hwa hba nna nca
    have OWN:=Lib.hid OWN3
    have HVO:=hv3
    have LO:=LO3
    clear OWN3 hv3 LO3
    go_wp2_with fail
    refine nxt_but U (plan_one ?_)
    simp only [nths,nth,List.map_nil,List.getD_cons_zero,List.getD_cons_succ]
    refine wpQuiet_nil ?_
    have hlt:=B6.out.lt
    go_wp2_with (first | (at_builtin;refine wpList_push rfl _ _ 37 rfl (w.heap.size + 3) 171 (.agg #[.int .i64 0,.int .i64 0,.int .u64 0,.int .u64 0,.int .i64 0]) 5 40 Tryz.underlying37 info_op rfl (by decide) _ s.ops.length (flatC s.ops) g3 OWN.out HVO (.slice (some ⟨gc,0,none⟩) 1 1) 1 0 [.int .i64 (op:Int),.int .i64 x.kind,.int .u64 x.key,.int .u64 x.val,.int .i64 x.lim] (Pc.out.flat (by decide) (Nat.zero_le _)) rfl (five_one op x) (by omega) (by decide) (by omega) rfl rfl ?_) | fail)
    intro v8 w8 g8 OWN8 hv8 hg8 q8
    replace B3:=Lib.hid (B3.out.but q8 (show ¬ w.heap.size = g3 by omega))
    replace B5:=Lib.hid (B5.out.but q8 (show ¬ w.heap.size + 1 = g3 by omega))
    replace B6:=Lib.hid (B6.out.but q8 (show ¬ w.heap.size + 1 + 1 = g3 by omega))
    replace Pn:=Lib.hid (Pn.out.but q8 (show ¬ gn = g3 by omega))
    replace Ln:=Nat.lt_of_lt_of_le Ln (q8).2.2
    replace Pc:=Lib.hid (Pc.out.but q8 (show ¬ gc = g3 by omega))
    replace Lc:=Nat.lt_of_lt_of_le Lc (q8).2.2
    have hq1:¬ g3 < w1.heap.size:=by omega
    replace Q:=Q.over q8 hq1
    clear hq1
    replace U:=U.trans (q8.mono (fun i hi => by show i ≠ w.heap.size + 1;omega))
    clear OWN HVO LO q8 hlt hwb hbb nnb ncb
    obtain ⟨gz,kz,rfl,hbz,PZ⟩:=(FlatAt.of_own OWN8 (by omega)).some (by omega)
    have Pz:Hid (RowIn w8 gz (flatC s.ops ++ [.int .i64 (op:Int),.int .i64 x.kind,.int .u64 x.key,.int .u64 x.val,.int .i64 x.lim])):=Lib.hid PZ
    have Lz:=Pz.out.lt (by simp)
    clear PZ OWN8 hv8 hg8
    clear Pc Lc hbc
    go_wp2_with fail
    refine nxt_but U (plan_one ?_)
    simp only [nths,nth,List.map_cons,List.map_nil,List.getD_cons_zero,List.getD_cons_succ]
    repeat go_big_quiet_step (fail)
    refine wpQuiet_nil ?_
    have b8:=B3.out.cell 8 _ rfl
    have qb8:=B3.out.free 8
    go_wp2_with fail
    clear b8 qb8
    have U9:=U.setCell (a:=⟨w.heap.size,8,none⟩) (.inl (show w.heap.size ≠ w.heap.size + 1 by omega)) (.slice (some ⟨gz,0,none⟩) (s.ops.length + 1) kz)
    have kv4:But (Bx w.heap.size 3) w8 (w8.setCell ⟨w.heap.size,8,none⟩ (.slice (some ⟨gz,0,none⟩) (s.ops.length + 1) kz)):=(But.refl _ _).setCell (.inl ⟨Nat.le_refl _,by show w.heap.size < w.heap.size + 3;omega⟩) _
    replace B3:=Lib.hid (B3.out.set (j:=8) (by simp) (.slice (some ⟨gz,0,none⟩) (s.ops.length + 1) kz))
    simp only [List.set_cons_succ,List.set_cons_zero] at B3
    replace B5:=Lib.hid (B5.out.put (a:=⟨w.heap.size,8,none⟩) (by show w.heap.size ≠ w.heap.size + 1;omega) (.slice (some ⟨gz,0,none⟩) (s.ops.length + 1) kz))
    replace B6:=Lib.hid (B6.out.put (a:=⟨w.heap.size,8,none⟩) (by show w.heap.size ≠ w.heap.size + 1 + 1;omega) (.slice (some ⟨gz,0,none⟩) (s.ops.length + 1) kz))
    replace Pn:=Lib.hid (Pn.out.but kv4 (bx_not (by omega)))
    replace Ln:=Nat.lt_of_lt_of_le Ln kv4.2.2
    replace Pz:=Lib.hid (Pz.out.but kv4 (bx_not (by omega)))
    replace Lz:=Nat.lt_of_lt_of_le Lz kv4.2.2
    replace Q:=Q.trans kv4
    generalize w8.setCell ⟨w.heap.size,8,none⟩ (.slice (some ⟨gz,0,none⟩) (s.ops.length + 1) kz) = v4 at *
    refine nxt_but U9 (plan_fin ?_)
    clear U9 kv4
    simp only [nths,List.map_nil]
    refine wpQuiet_nil ?_
    go_wp2_with fail
    go_meet
    case rel => exact ⟨gz,kz,B3,B6,Q,hbz,Pz,Pn⟩
  ·have b8:=B3.out.cell 8 _ rfl
   go_wp2_with fail
   clear b8
   refine nxt_but U (plan_two ?_)
   simp only [nths,nth,List.map_nil,List.getD_cons_zero,List.getD_cons_succ]
   refine wpQuiet_nil ⟨?_,?_⟩
   ·go_wp2_with fail
    have kv2:Grown wp (wp.alloc (.cells #[] 171)):=by go_grown
    have hlt:=B6.out.lt
    have OWN:(wp.alloc (.cells #[] 171)).ownsRow (w.heap.size + 3) 171 5 (.slice (some ⟨wp.heap.size,0,none⟩) 0 0) 0 []:=own_made (by omega)
    have LO:wp.heap.size < (wp.alloc (.cells #[] 171)).heap.size:=by simp
    have hwa:w1.heap.size ≤ wp.heap.size:=Q.2.2
    have hba:w.heap.size + 3 ≤ wp.heap.size:=by omega
    have nna:gn ≠ wp.heap.size:=by omega
    obtain ⟨ga,hga⟩:∃ q,wp.heap.size = q:=⟨_,rfl⟩
    rw [hga] at OWN LO hwa hba nna ⊢
    clear hga
    generalize wp.alloc (.cells #[] 171) = v2 at *
    replace OWN:=Lib.hid OWN
    have HVO:(Value.slice (some ⟨ga,0,none⟩) 0 0).ownBlock = some ga:=rfl
    replace B3:=Lib.hid (B3.out.grown kv2)
    replace B5:=Lib.hid (B5.out.grown kv2)
    replace B6:=Lib.hid (B6.out.grown kv2)
    replace Pn:=Lib.hid (Pn.out.grown kv2)
    replace Ln:=Nat.lt_of_lt_of_le Ln (kv2).2.2
    replace U:=U.trans (But.of_grown kv2)
    replace Q:=Q.trans (But.of_grown kv2)
    clear kv2 hlt
    refine nxt_but U (plan_two ?_)
    simp only [nths,nth,List.map_nil,List.getD_cons_zero,List.getD_cons_succ]
    refine wpQuiet_nil ⟨?_,?_⟩
    ·have hlt:=B6.out.lt
     go_wp2_with (first | (at_builtin;refine wpList_push rfl _ _ 37 rfl (w.heap.size + 3) 171 (.agg #[.int .i64 0,.int .i64 0,.int .u64 0,.int .u64 0,.int .i64 0]) 5 40 Tryz.underlying37 info_op rfl (by decide) _ 0 [] ga OWN.out HVO (.slice A4 n4 kc4) s.ops.length hi (flatC s.ops) (H.out.f4.grown (But.fresh G Q (fun i hi => hi.1))) (flatC_len _) (flatC_one _) (by omega) (by decide) (by omega) rfl rfl ?_) | fail)
     intro v3 w3 g3 OWN3 hv3 hg3 q3
     try simp only [Nat.zero_add,List.nil_append] at OWN3
     have nnb:gn ≠ g3:=by omega
     have hwb:w1.heap.size ≤ g3:=by have:=Q.2.2;omega
     have hbb:w.heap.size + 3 ≤ g3:=by omega
     have LO3:g3 < w3.heap.size:=(OWN3.lt g3 hv3).2
     replace B3:=Lib.hid (B3.out.but q3 (show ¬ w.heap.size = ga by omega))
     replace B5:=Lib.hid (B5.out.but q3 (show ¬ w.heap.size + 1 = ga by omega))
     replace B6:=Lib.hid (B6.out.but q3 (show ¬ w.heap.size + 1 + 1 = ga by omega))
     replace Pn:=Lib.hid (Pn.out.but q3 (show ¬ gn = ga by omega))
     replace Ln:=Nat.lt_of_lt_of_le Ln (q3).2.2
     have hq1:¬ ga < w1.heap.size:=by omega
     replace Q:=Q.over q3 hq1
     clear hq1
     replace U:=U.trans (q3.mono (fun i hi => by show i ≠ w.heap.size + 1;omega))
     clear OWN HVO LO q3 hg3 hlt hwa hba nna
     have OWN:=Lib.hid OWN3
     have HVO:=hv3
     have LO:=LO3
     clear OWN3 hv3 LO3
     go_wp2_with fail
     refine nxt_but U (plan_one ?_)
     simp only [nths,nth,List.map_nil,List.getD_cons_zero,List.getD_cons_succ]
     refine wpQuiet_nil ?_
     go_wp2_with fail
     have kv3:Grown w3 (w3.alloc (.cells #[.int .i64 (op:Int),.int .i64 x.kind,.int .u64 x.key,.int .u64 x.val,.int .i64 x.lim] 171)):=by go_grown
     have hlt:=B6.out.lt
     have PC:Hid (RowIn (w3.alloc (.cells #[.int .i64 (op:Int),.int .i64 x.kind,.int .u64 x.key,.int .u64 x.val,.int .i64 x.lim] 171)) w3.heap.size [.int .i64 (op:Int),.int .i64 x.kind,.int .u64 x.key,.int .u64 x.val,.int .i64 x.lim]):=Lib.hid (RowIn.made _ _ _)
     have LC:w3.heap.size < (w3.alloc (.cells #[.int .i64 (op:Int),.int .i64 x.kind,.int .u64 x.key,.int .u64 x.val,.int .i64 x.lim] 171)).heap.size:=by simp
     have hbc:w.heap.size + 3 ≤ w3.heap.size:=by omega
     have ncb:w3.heap.size ≠ g3:=by omega
     obtain ⟨gc,hgc⟩:∃ q,w3.heap.size = q:=⟨_,rfl⟩
     rw [hgc] at PC LC hbc ncb ⊢
     clear hgc
     generalize w3.alloc (.cells #[.int .i64 (op:Int),.int .i64 x.kind,.int .u64 x.key,.int .u64 x.val,.int .i64 x.lim] 171) = v3 at *
     replace B3:=Lib.hid (B3.out.grown kv3)
     replace B5:=Lib.hid (B5.out.grown kv3)
     replace B6:=Lib.hid (B6.out.grown kv3)
     replace Pn:=Lib.hid (Pn.out.grown kv3)
     replace Ln:=Nat.lt_of_lt_of_le Ln (kv3).2.2
     replace OWN:=Lib.hid (own_but OWN.out HVO (S:=fun _ => False) kv3 (fun f => f))
     replace LO:=Nat.lt_of_lt_of_le LO (kv3).2.2
     replace U:=U.trans (But.of_grown kv3)
     replace Q:=Q.trans (But.of_grown kv3)
     have Pc:=PC;have Lc:=LC;clear PC LC kv3 hlt
     refine nxt_but U (plan_one ?_)
     simp only [nths,nth,List.map_nil,List.getD_cons_zero,List.getD_cons_succ]
     refine wpQuiet_nil ?_
     have hlt:=B6.out.lt
     go_wp2_with (first | (at_builtin;refine wpList_push rfl _ _ 37 rfl (w.heap.size + 3) 171 (.agg #[.int .i64 0,.int .i64 0,.int .u64 0,.int .u64 0,.int .i64 0]) 5 40 Tryz.underlying37 info_op rfl (by decide) _ s.ops.length (flatC s.ops) g3 OWN.out HVO (.slice (some ⟨gc,0,none⟩) 1 1) 1 0 [.int .i64 (op:Int),.int .i64 x.kind,.int .u64 x.key,.int .u64 x.val,.int .i64 x.lim] (Pc.out.flat (by decide) (Nat.zero_le _)) rfl (five_one op x) (by omega) (by decide) (by omega) rfl rfl ?_) | fail)
     intro v8 w8 g8 OWN8 hv8 hg8 q8
     replace B3:=Lib.hid (B3.out.but q8 (show ¬ w.heap.size = g3 by omega))
     replace B5:=Lib.hid (B5.out.but q8 (show ¬ w.heap.size + 1 = g3 by omega))
     replace B6:=Lib.hid (B6.out.but q8 (show ¬ w.heap.size + 1 + 1 = g3 by omega))
     replace Pn:=Lib.hid (Pn.out.but q8 (show ¬ gn = g3 by omega))
     replace Ln:=Nat.lt_of_lt_of_le Ln (q8).2.2
     replace Pc:=Lib.hid (Pc.out.but q8 (show ¬ gc = g3 by omega))
     replace Lc:=Nat.lt_of_lt_of_le Lc (q8).2.2
     have hq1:¬ g3 < w1.heap.size:=by omega
     replace Q:=Q.over q8 hq1
     clear hq1
     replace U:=U.trans (q8.mono (fun i hi => by show i ≠ w.heap.size + 1;omega))
     clear OWN HVO LO q8 hlt hwb hbb nnb ncb
     obtain ⟨gz,kz,rfl,hbz,PZ⟩:=(FlatAt.of_own OWN8 (by omega)).some (by omega)
     have Pz:Hid (RowIn w8 gz (flatC s.ops ++ [.int .i64 (op:Int),.int .i64 x.kind,.int .u64 x.key,.int .u64 x.val,.int .i64 x.lim])):=Lib.hid PZ
     have Lz:=Pz.out.lt (by simp)
     clear PZ OWN8 hv8 hg8
     clear Pc Lc hbc
     go_wp2_with fail
     refine nxt_but U (plan_one ?_)
     simp only [nths,nth,List.map_cons,List.map_nil,List.getD_cons_zero,List.getD_cons_succ]
     repeat go_big_quiet_step (fail)
     refine wpQuiet_nil ?_
     have b8:=B3.out.cell 8 _ rfl
     have qb8:=B3.out.free 8
     go_wp2_with fail
     clear b8 qb8
     have U9:=U.setCell (a:=⟨w.heap.size,8,none⟩) (.inl (show w.heap.size ≠ w.heap.size + 1 by omega)) (.slice (some ⟨gz,0,none⟩) (s.ops.length + 1) kz)
     have kv4:But (Bx w.heap.size 3) w8 (w8.setCell ⟨w.heap.size,8,none⟩ (.slice (some ⟨gz,0,none⟩) (s.ops.length + 1) kz)):=(But.refl _ _).setCell (.inl ⟨Nat.le_refl _,by show w.heap.size < w.heap.size + 3;omega⟩) _
     replace B3:=Lib.hid (B3.out.set (j:=8) (by simp) (.slice (some ⟨gz,0,none⟩) (s.ops.length + 1) kz))
     simp only [List.set_cons_succ,List.set_cons_zero] at B3
     replace B5:=Lib.hid (B5.out.put (a:=⟨w.heap.size,8,none⟩) (by show w.heap.size ≠ w.heap.size + 1;omega) (.slice (some ⟨gz,0,none⟩) (s.ops.length + 1) kz))
     replace B6:=Lib.hid (B6.out.put (a:=⟨w.heap.size,8,none⟩) (by show w.heap.size ≠ w.heap.size + 1 + 1;omega) (.slice (some ⟨gz,0,none⟩) (s.ops.length + 1) kz))
     replace Pn:=Lib.hid (Pn.out.but kv4 (bx_not (by omega)))
     replace Ln:=Nat.lt_of_lt_of_le Ln kv4.2.2
     replace Pz:=Lib.hid (Pz.out.but kv4 (bx_not (by omega)))
     replace Lz:=Nat.lt_of_lt_of_le Lz kv4.2.2
     replace Q:=Q.trans kv4
     generalize w8.setCell ⟨w.heap.size,8,none⟩ (.slice (some ⟨gz,0,none⟩) (s.ops.length + 1) kz) = v4 at *
     refine nxt_but U9 (plan_fin ?_)
     clear U9 kv4
     simp only [nths,List.map_nil]
     refine wpQuiet_nil ?_
     go_wp2_with fail
     go_meet
     case rel => exact ⟨gz,kz,B3,B6,Q,hbz,Pz,Pn⟩
    ·go_wp2_with fail
     have kv3:Grown v2 (v2.alloc (.cells #[.int .i64 (op:Int),.int .i64 x.kind,.int .u64 x.key,.int .u64 x.val,.int .i64 x.lim] 171)):=by go_grown
     have hlt:=B6.out.lt
     have PC:Hid (RowIn (v2.alloc (.cells #[.int .i64 (op:Int),.int .i64 x.kind,.int .u64 x.key,.int .u64 x.val,.int .i64 x.lim] 171)) v2.heap.size [.int .i64 (op:Int),.int .i64 x.kind,.int .u64 x.key,.int .u64 x.val,.int .i64 x.lim]):=Lib.hid (RowIn.made _ _ _)
     have LC:v2.heap.size < (v2.alloc (.cells #[.int .i64 (op:Int),.int .i64 x.kind,.int .u64 x.key,.int .u64 x.val,.int .i64 x.lim] 171)).heap.size:=by simp
     have hbc:w.heap.size + 3 ≤ v2.heap.size:=by omega
     have nca:v2.heap.size ≠ ga:=by omega
     obtain ⟨gc,hgc⟩:∃ q,v2.heap.size = q:=⟨_,rfl⟩
     rw [hgc] at PC LC hbc nca ⊢
     clear hgc
     generalize v2.alloc (.cells #[.int .i64 (op:Int),.int .i64 x.kind,.int .u64 x.key,.int .u64 x.val,.int .i64 x.lim] 171) = v3 at *
     replace B3:=Lib.hid (B3.out.grown kv3)
     replace B5:=Lib.hid (B5.out.grown kv3)
     replace B6:=Lib.hid (B6.out.grown kv3)
     replace Pn:=Lib.hid (Pn.out.grown kv3)
     replace Ln:=Nat.lt_of_lt_of_le Ln (kv3).2.2
     replace OWN:=Lib.hid (own_but OWN.out HVO (S:=fun _ => False) kv3 (fun f => f))
     replace LO:=Nat.lt_of_lt_of_le LO (kv3).2.2
     replace U:=U.trans (But.of_grown kv3)
     replace Q:=Q.trans (But.of_grown kv3)
     have Pc:=PC;have Lc:=LC;clear PC LC kv3 hlt
     refine nxt_but U (plan_one ?_)
     simp only [nths,nth,List.map_nil,List.getD_cons_zero,List.getD_cons_succ]
     refine wpQuiet_nil ?_
     have hlt:=B6.out.lt
     go_wp2_with (first | (at_builtin;refine wpList_push rfl _ _ 37 rfl (w.heap.size + 3) 171 (.agg #[.int .i64 0,.int .i64 0,.int .u64 0,.int .u64 0,.int .i64 0]) 5 40 Tryz.underlying37 info_op rfl (by decide) _ 0 [] ga OWN.out HVO (.slice A4 n4 kc4) s.ops.length hi (flatC s.ops) (H.out.f4.grown (But.fresh G Q (fun i hi => hi.1))) (flatC_len _) (flatC_one _) (by omega) (by decide) (by omega) rfl rfl ?_) | fail)
     intro v3 w3 g3 OWN3 hv3 hg3 q3
     try simp only [Nat.zero_add,List.nil_append] at OWN3
     have nnb:gn ≠ g3:=by omega
     have ncb:gc ≠ g3:=by omega
     have hwb:w1.heap.size ≤ g3:=by have:=Q.2.2;omega
     have hbb:w.heap.size + 3 ≤ g3:=by omega
     have LO3:g3 < w3.heap.size:=(OWN3.lt g3 hv3).2
     replace B3:=Lib.hid (B3.out.but q3 (show ¬ w.heap.size = ga by omega))
     replace B5:=Lib.hid (B5.out.but q3 (show ¬ w.heap.size + 1 = ga by omega))
     replace B6:=Lib.hid (B6.out.but q3 (show ¬ w.heap.size + 1 + 1 = ga by omega))
     replace Pn:=Lib.hid (Pn.out.but q3 (show ¬ gn = ga by omega))
     replace Ln:=Nat.lt_of_lt_of_le Ln (q3).2.2
     replace Pc:=Lib.hid (Pc.out.but q3 (show ¬ gc = ga by omega))
     replace Lc:=Nat.lt_of_lt_of_le Lc (q3).2.2
     have hq1:¬ ga < w1.heap.size:=by omega
     replace Q:=Q.over q3 hq1
     clear hq1
     replace U:=U.trans (q3.mono (fun i hi => by show i ≠ w.heap.size + 1;omega))
     clear OWN HVO LO q3 hg3 hlt hwa hba nna nca
     have OWN:=Lib.hid OWN3
     have HVO:=hv3
     have LO:=LO3
     clear OWN3 hv3 LO3
     go_wp2_with fail
     refine nxt_but U (plan_one ?_)
     simp only [nths,nth,List.map_nil,List.getD_cons_zero,List.getD_cons_succ]
     refine wpQuiet_nil ?_
     have hlt:=B6.out.lt
     go_wp2_with (first | (at_builtin;refine wpList_push rfl _ _ 37 rfl (w.heap.size + 3) 171 (.agg #[.int .i64 0,.int .i64 0,.int .u64 0,.int .u64 0,.int .i64 0]) 5 40 Tryz.underlying37 info_op rfl (by decide) _ s.ops.length (flatC s.ops) g3 OWN.out HVO (.slice (some ⟨gc,0,none⟩) 1 1) 1 0 [.int .i64 (op:Int),.int .i64 x.kind,.int .u64 x.key,.int .u64 x.val,.int .i64 x.lim] (Pc.out.flat (by decide) (Nat.zero_le _)) rfl (five_one op x) (by omega) (by decide) (by omega) rfl rfl ?_) | fail)
     intro v8 w8 g8 OWN8 hv8 hg8 q8
     replace B3:=Lib.hid (B3.out.but q8 (show ¬ w.heap.size = g3 by omega))
     replace B5:=Lib.hid (B5.out.but q8 (show ¬ w.heap.size + 1 = g3 by omega))
     replace B6:=Lib.hid (B6.out.but q8 (show ¬ w.heap.size + 1 + 1 = g3 by omega))
     replace Pn:=Lib.hid (Pn.out.but q8 (show ¬ gn = g3 by omega))
     replace Ln:=Nat.lt_of_lt_of_le Ln (q8).2.2
     replace Pc:=Lib.hid (Pc.out.but q8 (show ¬ gc = g3 by omega))
     replace Lc:=Nat.lt_of_lt_of_le Lc (q8).2.2
     have hq1:¬ g3 < w1.heap.size:=by omega
     replace Q:=Q.over q8 hq1
     clear hq1
     replace U:=U.trans (q8.mono (fun i hi => by show i ≠ w.heap.size + 1;omega))
     clear OWN HVO LO q8 hlt hwb hbb nnb ncb
     obtain ⟨gz,kz,rfl,hbz,PZ⟩:=(FlatAt.of_own OWN8 (by omega)).some (by omega)
     have Pz:Hid (RowIn w8 gz (flatC s.ops ++ [.int .i64 (op:Int),.int .i64 x.kind,.int .u64 x.key,.int .u64 x.val,.int .i64 x.lim])):=Lib.hid PZ
     have Lz:=Pz.out.lt (by simp)
     clear PZ OWN8 hv8 hg8
     clear Pc Lc hbc
     go_wp2_with fail
     refine nxt_but U (plan_one ?_)
     simp only [nths,nth,List.map_cons,List.map_nil,List.getD_cons_zero,List.getD_cons_succ]
     repeat go_big_quiet_step (fail)
     refine wpQuiet_nil ?_
     have b8:=B3.out.cell 8 _ rfl
     have qb8:=B3.out.free 8
     go_wp2_with fail
     clear b8 qb8
     have U9:=U.setCell (a:=⟨w.heap.size,8,none⟩) (.inl (show w.heap.size ≠ w.heap.size + 1 by omega)) (.slice (some ⟨gz,0,none⟩) (s.ops.length + 1) kz)
     have kv4:But (Bx w.heap.size 3) w8 (w8.setCell ⟨w.heap.size,8,none⟩ (.slice (some ⟨gz,0,none⟩) (s.ops.length + 1) kz)):=(But.refl _ _).setCell (.inl ⟨Nat.le_refl _,by show w.heap.size < w.heap.size + 3;omega⟩) _
     replace B3:=Lib.hid (B3.out.set (j:=8) (by simp) (.slice (some ⟨gz,0,none⟩) (s.ops.length + 1) kz))
     simp only [List.set_cons_succ,List.set_cons_zero] at B3
     replace B5:=Lib.hid (B5.out.put (a:=⟨w.heap.size,8,none⟩) (by show w.heap.size ≠ w.heap.size + 1;omega) (.slice (some ⟨gz,0,none⟩) (s.ops.length + 1) kz))
     replace B6:=Lib.hid (B6.out.put (a:=⟨w.heap.size,8,none⟩) (by show w.heap.size ≠ w.heap.size + 1 + 1;omega) (.slice (some ⟨gz,0,none⟩) (s.ops.length + 1) kz))
     replace Pn:=Lib.hid (Pn.out.but kv4 (bx_not (by omega)))
     replace Ln:=Nat.lt_of_lt_of_le Ln kv4.2.2
     replace Pz:=Lib.hid (Pz.out.but kv4 (bx_not (by omega)))
     replace Lz:=Nat.lt_of_lt_of_le Lz kv4.2.2
     replace Q:=Q.trans kv4
     generalize w8.setCell ⟨w.heap.size,8,none⟩ (.slice (some ⟨gz,0,none⟩) (s.ops.length + 1) kz) = v4 at *
     refine nxt_but U9 (plan_fin ?_)
     clear U9 kv4
     simp only [nths,List.map_nil]
     refine wpQuiet_nil ?_
     go_wp2_with fail
     go_meet
     case rel => exact ⟨gz,kz,B3,B6,Q,hbz,Pz,Pn⟩
   ·go_wp2_with fail
    have kv2:Grown wp (wp.alloc (.cells #[.int .i64 (op:Int),.int .i64 x.kind,.int .u64 x.key,.int .u64 x.val,.int .i64 x.lim] 171)):=by go_grown
    have hlt:=B6.out.lt
    have PC:Hid (RowIn (wp.alloc (.cells #[.int .i64 (op:Int),.int .i64 x.kind,.int .u64 x.key,.int .u64 x.val,.int .i64 x.lim] 171)) wp.heap.size [.int .i64 (op:Int),.int .i64 x.kind,.int .u64 x.key,.int .u64 x.val,.int .i64 x.lim]):=Lib.hid (RowIn.made _ _ _)
    have LC:wp.heap.size < (wp.alloc (.cells #[.int .i64 (op:Int),.int .i64 x.kind,.int .u64 x.key,.int .u64 x.val,.int .i64 x.lim] 171)).heap.size:=by simp
    have hbc:w.heap.size + 3 ≤ wp.heap.size:=by omega
    obtain ⟨gc,hgc⟩:∃ q,wp.heap.size = q:=⟨_,rfl⟩
    rw [hgc] at PC LC hbc  ⊢
    clear hgc
    generalize wp.alloc (.cells #[.int .i64 (op:Int),.int .i64 x.kind,.int .u64 x.key,.int .u64 x.val,.int .i64 x.lim] 171) = v2 at *
    replace B3:=Lib.hid (B3.out.grown kv2)
    replace B5:=Lib.hid (B5.out.grown kv2)
    replace B6:=Lib.hid (B6.out.grown kv2)
    replace Pn:=Lib.hid (Pn.out.grown kv2)
    replace Ln:=Nat.lt_of_lt_of_le Ln (kv2).2.2
    replace U:=U.trans (But.of_grown kv2)
    replace Q:=Q.trans (But.of_grown kv2)
    have Pc:=PC;have Lc:=LC;clear PC LC kv2 hlt
    refine nxt_but U (plan_one ?_)
    simp only [nths,nth,List.map_nil,List.getD_cons_zero]
    refine wpQuiet_nil ?_
    go_wp2_with fail
    have kv3:Grown v2 (v2.alloc (.cells #[] 171)):=by go_grown
    have hlt:=B6.out.lt
    have OWN:(v2.alloc (.cells #[] 171)).ownsRow (w.heap.size + 3) 171 5 (.slice (some ⟨v2.heap.size,0,none⟩) 0 0) 0 []:=own_made (by omega)
    have LO:v2.heap.size < (v2.alloc (.cells #[] 171)).heap.size:=by simp
    have hwa:w1.heap.size ≤ v2.heap.size:=Q.2.2
    have hba:w.heap.size + 3 ≤ v2.heap.size:=by omega
    have nna:gn ≠ v2.heap.size:=by omega
    have nca:gc ≠ v2.heap.size:=by omega
    obtain ⟨ga,hga⟩:∃ q,v2.heap.size = q:=⟨_,rfl⟩
    rw [hga] at OWN LO hwa hba nna nca ⊢
    clear hga
    generalize v2.alloc (.cells #[] 171) = v3 at *
    replace OWN:=Lib.hid OWN
    have HVO:(Value.slice (some ⟨ga,0,none⟩) 0 0).ownBlock = some ga:=rfl
    replace B3:=Lib.hid (B3.out.grown kv3)
    replace B5:=Lib.hid (B5.out.grown kv3)
    replace B6:=Lib.hid (B6.out.grown kv3)
    replace Pn:=Lib.hid (Pn.out.grown kv3)
    replace Ln:=Nat.lt_of_lt_of_le Ln (kv3).2.2
    replace Pc:=Lib.hid (Pc.out.grown kv3)
    replace Lc:=Nat.lt_of_lt_of_le Lc (kv3).2.2
    replace U:=U.trans (But.of_grown kv3)
    replace Q:=Q.trans (But.of_grown kv3)
    clear kv3 hlt
    refine nxt_but U (plan_one ?_)
    simp only [nths,nth,List.map_nil,List.getD_cons_zero,List.getD_cons_succ]
    refine wpQuiet_nil ?_
    have hlt:=B6.out.lt
    go_wp2_with (first | (at_builtin;refine wpList_push rfl _ _ 37 rfl (w.heap.size + 3) 171 (.agg #[.int .i64 0,.int .i64 0,.int .u64 0,.int .u64 0,.int .i64 0]) 5 40 Tryz.underlying37 info_op rfl (by decide) _ 0 [] ga OWN.out HVO (.slice A4 n4 kc4) s.ops.length hi (flatC s.ops) (H.out.f4.grown (But.fresh G Q (fun i hi => hi.1))) (flatC_len _) (flatC_one _) (by omega) (by decide) (by omega) rfl rfl ?_) | fail)
    intro v3 w3 g3 OWN3 hv3 hg3 q3
    try simp only [Nat.zero_add,List.nil_append] at OWN3
    have nnb:gn ≠ g3:=by omega
    have ncb:gc ≠ g3:=by omega
    have hwb:w1.heap.size ≤ g3:=by have:=Q.2.2;omega
    have hbb:w.heap.size + 3 ≤ g3:=by omega
    have LO3:g3 < w3.heap.size:=(OWN3.lt g3 hv3).2
    replace B3:=Lib.hid (B3.out.but q3 (show ¬ w.heap.size = ga by omega))
    replace B5:=Lib.hid (B5.out.but q3 (show ¬ w.heap.size + 1 = ga by omega))
    replace B6:=Lib.hid (B6.out.but q3 (show ¬ w.heap.size + 1 + 1 = ga by omega))
    replace Pn:=Lib.hid (Pn.out.but q3 (show ¬ gn = ga by omega))
    replace Ln:=Nat.lt_of_lt_of_le Ln (q3).2.2
    replace Pc:=Lib.hid (Pc.out.but q3 (show ¬ gc = ga by omega))
    replace Lc:=Nat.lt_of_lt_of_le Lc (q3).2.2
    have hq1:¬ ga < w1.heap.size:=by omega
    replace Q:=Q.over q3 hq1
    clear hq1
    replace U:=U.trans (q3.mono (fun i hi => by show i ≠ w.heap.size + 1;omega))
    clear OWN HVO LO q3 hg3 hlt hwa hba nna nca
    have OWN:=Lib.hid OWN3
    have HVO:=hv3
    have LO:=LO3
    clear OWN3 hv3 LO3
    go_wp2_with fail
    refine nxt_but U (plan_one ?_)
    simp only [nths,nth,List.map_nil,List.getD_cons_zero,List.getD_cons_succ]
    refine wpQuiet_nil ?_
    have hlt:=B6.out.lt
    go_wp2_with (first | (at_builtin;refine wpList_push rfl _ _ 37 rfl (w.heap.size + 3) 171 (.agg #[.int .i64 0,.int .i64 0,.int .u64 0,.int .u64 0,.int .i64 0]) 5 40 Tryz.underlying37 info_op rfl (by decide) _ s.ops.length (flatC s.ops) g3 OWN.out HVO (.slice (some ⟨gc,0,none⟩) 1 1) 1 0 [.int .i64 (op:Int),.int .i64 x.kind,.int .u64 x.key,.int .u64 x.val,.int .i64 x.lim] (Pc.out.flat (by decide) (Nat.zero_le _)) rfl (five_one op x) (by omega) (by decide) (by omega) rfl rfl ?_) | fail)
    intro v8 w8 g8 OWN8 hv8 hg8 q8
    replace B3:=Lib.hid (B3.out.but q8 (show ¬ w.heap.size = g3 by omega))
    replace B5:=Lib.hid (B5.out.but q8 (show ¬ w.heap.size + 1 = g3 by omega))
    replace B6:=Lib.hid (B6.out.but q8 (show ¬ w.heap.size + 1 + 1 = g3 by omega))
    replace Pn:=Lib.hid (Pn.out.but q8 (show ¬ gn = g3 by omega))
    replace Ln:=Nat.lt_of_lt_of_le Ln (q8).2.2
    replace Pc:=Lib.hid (Pc.out.but q8 (show ¬ gc = g3 by omega))
    replace Lc:=Nat.lt_of_lt_of_le Lc (q8).2.2
    have hq1:¬ g3 < w1.heap.size:=by omega
    replace Q:=Q.over q8 hq1
    clear hq1
    replace U:=U.trans (q8.mono (fun i hi => by show i ≠ w.heap.size + 1;omega))
    clear OWN HVO LO q8 hlt hwb hbb nnb ncb
    obtain ⟨gz,kz,rfl,hbz,PZ⟩:=(FlatAt.of_own OWN8 (by omega)).some (by omega)
    have Pz:Hid (RowIn w8 gz (flatC s.ops ++ [.int .i64 (op:Int),.int .i64 x.kind,.int .u64 x.key,.int .u64 x.val,.int .i64 x.lim])):=Lib.hid PZ
    have Lz:=Pz.out.lt (by simp)
    clear PZ OWN8 hv8 hg8
    clear Pc Lc hbc
    go_wp2_with fail
    refine nxt_but U (plan_one ?_)
    simp only [nths,nth,List.map_cons,List.map_nil,List.getD_cons_zero,List.getD_cons_succ]
    repeat go_big_quiet_step (fail)
    refine wpQuiet_nil ?_
    have b8:=B3.out.cell 8 _ rfl
    have qb8:=B3.out.free 8
    go_wp2_with fail
    clear b8 qb8
    have U9:=U.setCell (a:=⟨w.heap.size,8,none⟩) (.inl (show w.heap.size ≠ w.heap.size + 1 by omega)) (.slice (some ⟨gz,0,none⟩) (s.ops.length + 1) kz)
    have kv4:But (Bx w.heap.size 3) w8 (w8.setCell ⟨w.heap.size,8,none⟩ (.slice (some ⟨gz,0,none⟩) (s.ops.length + 1) kz)):=(But.refl _ _).setCell (.inl ⟨Nat.le_refl _,by show w.heap.size < w.heap.size + 3;omega⟩) _
    replace B3:=Lib.hid (B3.out.set (j:=8) (by simp) (.slice (some ⟨gz,0,none⟩) (s.ops.length + 1) kz))
    simp only [List.set_cons_succ,List.set_cons_zero] at B3
    replace B5:=Lib.hid (B5.out.put (a:=⟨w.heap.size,8,none⟩) (by show w.heap.size ≠ w.heap.size + 1;omega) (.slice (some ⟨gz,0,none⟩) (s.ops.length + 1) kz))
    replace B6:=Lib.hid (B6.out.put (a:=⟨w.heap.size,8,none⟩) (by show w.heap.size ≠ w.heap.size + 1 + 1;omega) (.slice (some ⟨gz,0,none⟩) (s.ops.length + 1) kz))
    replace Pn:=Lib.hid (Pn.out.but kv4 (bx_not (by omega)))
    replace Ln:=Nat.lt_of_lt_of_le Ln kv4.2.2
    replace Pz:=Lib.hid (Pz.out.but kv4 (bx_not (by omega)))
    replace Lz:=Nat.lt_of_lt_of_le Lz kv4.2.2
    replace Q:=Q.trans kv4
    generalize w8.setCell ⟨w.heap.size,8,none⟩ (.slice (some ⟨gz,0,none⟩) (s.ops.length + 1) kz) = v4 at *
    refine nxt_but U9 (plan_fin ?_)
    clear U9 kv4
    simp only [nths,List.map_nil]
    refine wpQuiet_nil ?_
    go_wp2_with fail
    go_meet
    case rel => exact ⟨gz,kz,B3,B6,Q,hbz,Pz,Pn⟩
  ·go_wp2_with fail
   have kv2:Grown wp (wp.alloc (.cells #[.int .i64 (op:Int),.int .i64 x.kind,.int .u64 x.key,.int .u64 x.val,.int .i64 x.lim] 171)):=by go_grown
   have hlt:=B6.out.lt
   have PC:Hid (RowIn (wp.alloc (.cells #[.int .i64 (op:Int),.int .i64 x.kind,.int .u64 x.key,.int .u64 x.val,.int .i64 x.lim] 171)) wp.heap.size [.int .i64 (op:Int),.int .i64 x.kind,.int .u64 x.key,.int .u64 x.val,.int .i64 x.lim]):=Lib.hid (RowIn.made _ _ _)
   have LC:wp.heap.size < (wp.alloc (.cells #[.int .i64 (op:Int),.int .i64 x.kind,.int .u64 x.key,.int .u64 x.val,.int .i64 x.lim] 171)).heap.size:=by simp
   have hbc:w.heap.size + 3 ≤ wp.heap.size:=by omega
   obtain ⟨gc,hgc⟩:∃ q,wp.heap.size = q:=⟨_,rfl⟩
   rw [hgc] at PC LC hbc  ⊢
   clear hgc
   generalize wp.alloc (.cells #[.int .i64 (op:Int),.int .i64 x.kind,.int .u64 x.key,.int .u64 x.val,.int .i64 x.lim] 171) = v2 at *
   replace B3:=Lib.hid (B3.out.grown kv2)
   replace B5:=Lib.hid (B5.out.grown kv2)
   replace B6:=Lib.hid (B6.out.grown kv2)
   replace Pn:=Lib.hid (Pn.out.grown kv2)
   replace Ln:=Nat.lt_of_lt_of_le Ln (kv2).2.2
   replace U:=U.trans (But.of_grown kv2)
   replace Q:=Q.trans (But.of_grown kv2)
   have Pc:=PC;have Lc:=LC;clear PC LC kv2 hlt
   refine nxt_but U (plan_two ?_)
   simp only [nths,nth,List.map_nil,List.getD_cons_zero,List.getD_cons_succ]
   refine wpQuiet_nil ⟨?_,?_⟩
   ·go_wp2_with fail
    have kv3:Grown v2 (v2.alloc (.cells #[] 171)):=by go_grown
    have hlt:=B6.out.lt
    have OWN:(v2.alloc (.cells #[] 171)).ownsRow (w.heap.size + 3) 171 5 (.slice (some ⟨v2.heap.size,0,none⟩) 0 0) 0 []:=own_made (by omega)
    have LO:v2.heap.size < (v2.alloc (.cells #[] 171)).heap.size:=by simp
    have hwa:w1.heap.size ≤ v2.heap.size:=Q.2.2
    have hba:w.heap.size + 3 ≤ v2.heap.size:=by omega
    have nna:gn ≠ v2.heap.size:=by omega
    have nca:gc ≠ v2.heap.size:=by omega
    obtain ⟨ga,hga⟩:∃ q,v2.heap.size = q:=⟨_,rfl⟩
    rw [hga] at OWN LO hwa hba nna nca ⊢
    clear hga
    generalize v2.alloc (.cells #[] 171) = v3 at *
    replace OWN:=Lib.hid OWN
    have HVO:(Value.slice (some ⟨ga,0,none⟩) 0 0).ownBlock = some ga:=rfl
    replace B3:=Lib.hid (B3.out.grown kv3)
    replace B5:=Lib.hid (B5.out.grown kv3)
    replace B6:=Lib.hid (B6.out.grown kv3)
    replace Pn:=Lib.hid (Pn.out.grown kv3)
    replace Ln:=Nat.lt_of_lt_of_le Ln (kv3).2.2
    replace Pc:=Lib.hid (Pc.out.grown kv3)
    replace Lc:=Nat.lt_of_lt_of_le Lc (kv3).2.2
    replace U:=U.trans (But.of_grown kv3)
    replace Q:=Q.trans (But.of_grown kv3)
    clear kv3 hlt
    refine nxt_but U (plan_one ?_)
    simp only [nths,nth,List.map_nil,List.getD_cons_zero,List.getD_cons_succ]
    refine wpQuiet_nil ?_
    have b8:=B3.out.cell 8 _ rfl
    go_wp2_with fail
    clear b8
    refine nxt_but U (plan_one ?_)
    simp only [nths,nth,List.map_nil,List.getD_cons_zero,List.getD_cons_succ]
    refine wpQuiet_nil ?_
    have hlt:=B6.out.lt
    go_wp2_with (first | (at_builtin;refine wpList_push rfl _ _ 37 rfl (w.heap.size + 3) 171 (.agg #[.int .i64 0,.int .i64 0,.int .u64 0,.int .u64 0,.int .i64 0]) 5 40 Tryz.underlying37 info_op rfl (by decide) _ 0 [] ga OWN.out HVO (.slice A4 n4 kc4) s.ops.length hi (flatC s.ops) (H.out.f4.grown (But.fresh G Q (fun i hi => hi.1))) (flatC_len _) (flatC_one _) (by omega) (by decide) (by omega) rfl rfl ?_) | fail)
    intro v3 w3 g3 OWN3 hv3 hg3 q3
    try simp only [Nat.zero_add,List.nil_append] at OWN3
    have nnb:gn ≠ g3:=by omega
    have ncb:gc ≠ g3:=by omega
    have hwb:w1.heap.size ≤ g3:=by have:=Q.2.2;omega
    have hbb:w.heap.size + 3 ≤ g3:=by omega
    have LO3:g3 < w3.heap.size:=(OWN3.lt g3 hv3).2
    replace B3:=Lib.hid (B3.out.but q3 (show ¬ w.heap.size = ga by omega))
    replace B5:=Lib.hid (B5.out.but q3 (show ¬ w.heap.size + 1 = ga by omega))
    replace B6:=Lib.hid (B6.out.but q3 (show ¬ w.heap.size + 1 + 1 = ga by omega))
    replace Pn:=Lib.hid (Pn.out.but q3 (show ¬ gn = ga by omega))
    replace Ln:=Nat.lt_of_lt_of_le Ln (q3).2.2
    replace Pc:=Lib.hid (Pc.out.but q3 (show ¬ gc = ga by omega))
    replace Lc:=Nat.lt_of_lt_of_le Lc (q3).2.2
    have hq1:¬ ga < w1.heap.size:=by omega
    replace Q:=Q.over q3 hq1
    clear hq1
    replace U:=U.trans (q3.mono (fun i hi => by show i ≠ w.heap.size + 1;omega))
    clear OWN HVO LO q3 hg3 hlt hwa hba nna nca
    have OWN:=Lib.hid OWN3
    have HVO:=hv3
    have LO:=LO3
    clear OWN3 hv3 LO3
    go_wp2_with fail
    refine nxt_but U (plan_one ?_)
    simp only [nths,nth,List.map_nil,List.getD_cons_zero,List.getD_cons_succ]
    refine wpQuiet_nil ?_
    have hlt:=B6.out.lt
    go_wp2_with (first | (at_builtin;refine wpList_push rfl _ _ 37 rfl (w.heap.size + 3) 171 (.agg #[.int .i64 0,.int .i64 0,.int .u64 0,.int .u64 0,.int .i64 0]) 5 40 Tryz.underlying37 info_op rfl (by decide) _ s.ops.length (flatC s.ops) g3 OWN.out HVO (.slice (some ⟨gc,0,none⟩) 1 1) 1 0 [.int .i64 (op:Int),.int .i64 x.kind,.int .u64 x.key,.int .u64 x.val,.int .i64 x.lim] (Pc.out.flat (by decide) (Nat.zero_le _)) rfl (five_one op x) (by omega) (by decide) (by omega) rfl rfl ?_) | fail)
    intro v8 w8 g8 OWN8 hv8 hg8 q8
    replace B3:=Lib.hid (B3.out.but q8 (show ¬ w.heap.size = g3 by omega))
    replace B5:=Lib.hid (B5.out.but q8 (show ¬ w.heap.size + 1 = g3 by omega))
    replace B6:=Lib.hid (B6.out.but q8 (show ¬ w.heap.size + 1 + 1 = g3 by omega))
    replace Pn:=Lib.hid (Pn.out.but q8 (show ¬ gn = g3 by omega))
    replace Ln:=Nat.lt_of_lt_of_le Ln (q8).2.2
    replace Pc:=Lib.hid (Pc.out.but q8 (show ¬ gc = g3 by omega))
    replace Lc:=Nat.lt_of_lt_of_le Lc (q8).2.2
    have hq1:¬ g3 < w1.heap.size:=by omega
    replace Q:=Q.over q8 hq1
    clear hq1
    replace U:=U.trans (q8.mono (fun i hi => by show i ≠ w.heap.size + 1;omega))
    clear OWN HVO LO q8 hlt hwb hbb nnb ncb
    obtain ⟨gz,kz,rfl,hbz,PZ⟩:=(FlatAt.of_own OWN8 (by omega)).some (by omega)
    have Pz:Hid (RowIn w8 gz (flatC s.ops ++ [.int .i64 (op:Int),.int .i64 x.kind,.int .u64 x.key,.int .u64 x.val,.int .i64 x.lim])):=Lib.hid PZ
    have Lz:=Pz.out.lt (by simp)
    clear PZ OWN8 hv8 hg8
    clear Pc Lc hbc
    go_wp2_with fail
    refine nxt_but U (plan_one ?_)
    simp only [nths,nth,List.map_cons,List.map_nil,List.getD_cons_zero,List.getD_cons_succ]
    repeat go_big_quiet_step (fail)
    refine wpQuiet_nil ?_
    have b8:=B3.out.cell 8 _ rfl
    have qb8:=B3.out.free 8
    go_wp2_with fail
    clear b8 qb8
    have U9:=U.setCell (a:=⟨w.heap.size,8,none⟩) (.inl (show w.heap.size ≠ w.heap.size + 1 by omega)) (.slice (some ⟨gz,0,none⟩) (s.ops.length + 1) kz)
    have kv4:But (Bx w.heap.size 3) w8 (w8.setCell ⟨w.heap.size,8,none⟩ (.slice (some ⟨gz,0,none⟩) (s.ops.length + 1) kz)):=(But.refl _ _).setCell (.inl ⟨Nat.le_refl _,by show w.heap.size < w.heap.size + 3;omega⟩) _
    replace B3:=Lib.hid (B3.out.set (j:=8) (by simp) (.slice (some ⟨gz,0,none⟩) (s.ops.length + 1) kz))
    simp only [List.set_cons_succ,List.set_cons_zero] at B3
    replace B5:=Lib.hid (B5.out.put (a:=⟨w.heap.size,8,none⟩) (by show w.heap.size ≠ w.heap.size + 1;omega) (.slice (some ⟨gz,0,none⟩) (s.ops.length + 1) kz))
    replace B6:=Lib.hid (B6.out.put (a:=⟨w.heap.size,8,none⟩) (by show w.heap.size ≠ w.heap.size + 1 + 1;omega) (.slice (some ⟨gz,0,none⟩) (s.ops.length + 1) kz))
    replace Pn:=Lib.hid (Pn.out.but kv4 (bx_not (by omega)))
    replace Ln:=Nat.lt_of_lt_of_le Ln kv4.2.2
    replace Pz:=Lib.hid (Pz.out.but kv4 (bx_not (by omega)))
    replace Lz:=Nat.lt_of_lt_of_le Lz kv4.2.2
    replace Q:=Q.trans kv4
    generalize w8.setCell ⟨w.heap.size,8,none⟩ (.slice (some ⟨gz,0,none⟩) (s.ops.length + 1) kz) = v4 at *
    refine nxt_but U9 (plan_fin ?_)
    clear U9 kv4
    simp only [nths,List.map_nil]
    refine wpQuiet_nil ?_
    go_wp2_with fail
    go_meet
    case rel => exact ⟨gz,kz,B3,B6,Q,hbz,Pz,Pn⟩
   ·have b8:=B3.out.cell 8 _ rfl
    go_wp2_with fail
    clear b8
    refine nxt_but U (plan_one ?_)
    simp only [nths,nth,List.map_nil,List.getD_cons_zero]
    refine wpQuiet_nil ?_
    go_wp2_with fail
    have kv3:Grown v2 (v2.alloc (.cells #[] 171)):=by go_grown
    have hlt:=B6.out.lt
    have OWN:(v2.alloc (.cells #[] 171)).ownsRow (w.heap.size + 3) 171 5 (.slice (some ⟨v2.heap.size,0,none⟩) 0 0) 0 []:=own_made (by omega)
    have LO:v2.heap.size < (v2.alloc (.cells #[] 171)).heap.size:=by simp
    have hwa:w1.heap.size ≤ v2.heap.size:=Q.2.2
    have hba:w.heap.size + 3 ≤ v2.heap.size:=by omega
    have nna:gn ≠ v2.heap.size:=by omega
    have nca:gc ≠ v2.heap.size:=by omega
    obtain ⟨ga,hga⟩:∃ q,v2.heap.size = q:=⟨_,rfl⟩
    rw [hga] at OWN LO hwa hba nna nca ⊢
    clear hga
    generalize v2.alloc (.cells #[] 171) = v3 at *
    replace OWN:=Lib.hid OWN
    have HVO:(Value.slice (some ⟨ga,0,none⟩) 0 0).ownBlock = some ga:=rfl
    replace B3:=Lib.hid (B3.out.grown kv3)
    replace B5:=Lib.hid (B5.out.grown kv3)
    replace B6:=Lib.hid (B6.out.grown kv3)
    replace Pn:=Lib.hid (Pn.out.grown kv3)
    replace Ln:=Nat.lt_of_lt_of_le Ln (kv3).2.2
    replace Pc:=Lib.hid (Pc.out.grown kv3)
    replace Lc:=Nat.lt_of_lt_of_le Lc (kv3).2.2
    replace U:=U.trans (But.of_grown kv3)
    replace Q:=Q.trans (But.of_grown kv3)
    clear kv3 hlt
    refine nxt_but U (plan_one ?_)
    simp only [nths,nth,List.map_nil,List.getD_cons_zero,List.getD_cons_succ]
    refine wpQuiet_nil ?_
    have hlt:=B6.out.lt
    go_wp2_with (first | (at_builtin;refine wpList_push rfl _ _ 37 rfl (w.heap.size + 3) 171 (.agg #[.int .i64 0,.int .i64 0,.int .u64 0,.int .u64 0,.int .i64 0]) 5 40 Tryz.underlying37 info_op rfl (by decide) _ 0 [] ga OWN.out HVO (.slice A4 n4 kc4) s.ops.length hi (flatC s.ops) (H.out.f4.grown (But.fresh G Q (fun i hi => hi.1))) (flatC_len _) (flatC_one _) (by omega) (by decide) (by omega) rfl rfl ?_) | fail)
    intro v3 w3 g3 OWN3 hv3 hg3 q3
    try simp only [Nat.zero_add,List.nil_append] at OWN3
    have nnb:gn ≠ g3:=by omega
    have ncb:gc ≠ g3:=by omega
    have hwb:w1.heap.size ≤ g3:=by have:=Q.2.2;omega
    have hbb:w.heap.size + 3 ≤ g3:=by omega
    have LO3:g3 < w3.heap.size:=(OWN3.lt g3 hv3).2
    replace B3:=Lib.hid (B3.out.but q3 (show ¬ w.heap.size = ga by omega))
    replace B5:=Lib.hid (B5.out.but q3 (show ¬ w.heap.size + 1 = ga by omega))
    replace B6:=Lib.hid (B6.out.but q3 (show ¬ w.heap.size + 1 + 1 = ga by omega))
    replace Pn:=Lib.hid (Pn.out.but q3 (show ¬ gn = ga by omega))
    replace Ln:=Nat.lt_of_lt_of_le Ln (q3).2.2
    replace Pc:=Lib.hid (Pc.out.but q3 (show ¬ gc = ga by omega))
    replace Lc:=Nat.lt_of_lt_of_le Lc (q3).2.2
    have hq1:¬ ga < w1.heap.size:=by omega
    replace Q:=Q.over q3 hq1
    clear hq1
    replace U:=U.trans (q3.mono (fun i hi => by show i ≠ w.heap.size + 1;omega))
    clear OWN HVO LO q3 hg3 hlt hwa hba nna nca
    have OWN:=Lib.hid OWN3
    have HVO:=hv3
    have LO:=LO3
    clear OWN3 hv3 LO3
    go_wp2_with fail
    refine nxt_but U (plan_one ?_)
    simp only [nths,nth,List.map_nil,List.getD_cons_zero,List.getD_cons_succ]
    refine wpQuiet_nil ?_
    have hlt:=B6.out.lt
    go_wp2_with (first | (at_builtin;refine wpList_push rfl _ _ 37 rfl (w.heap.size + 3) 171 (.agg #[.int .i64 0,.int .i64 0,.int .u64 0,.int .u64 0,.int .i64 0]) 5 40 Tryz.underlying37 info_op rfl (by decide) _ s.ops.length (flatC s.ops) g3 OWN.out HVO (.slice (some ⟨gc,0,none⟩) 1 1) 1 0 [.int .i64 (op:Int),.int .i64 x.kind,.int .u64 x.key,.int .u64 x.val,.int .i64 x.lim] (Pc.out.flat (by decide) (Nat.zero_le _)) rfl (five_one op x) (by omega) (by decide) (by omega) rfl rfl ?_) | fail)
    intro v8 w8 g8 OWN8 hv8 hg8 q8
    replace B3:=Lib.hid (B3.out.but q8 (show ¬ w.heap.size = g3 by omega))
    replace B5:=Lib.hid (B5.out.but q8 (show ¬ w.heap.size + 1 = g3 by omega))
    replace B6:=Lib.hid (B6.out.but q8 (show ¬ w.heap.size + 1 + 1 = g3 by omega))
    replace Pn:=Lib.hid (Pn.out.but q8 (show ¬ gn = g3 by omega))
    replace Ln:=Nat.lt_of_lt_of_le Ln (q8).2.2
    replace Pc:=Lib.hid (Pc.out.but q8 (show ¬ gc = g3 by omega))
    replace Lc:=Nat.lt_of_lt_of_le Lc (q8).2.2
    have hq1:¬ g3 < w1.heap.size:=by omega
    replace Q:=Q.over q8 hq1
    clear hq1
    replace U:=U.trans (q8.mono (fun i hi => by show i ≠ w.heap.size + 1;omega))
    clear OWN HVO LO q8 hlt hwb hbb nnb ncb
    obtain ⟨gz,kz,rfl,hbz,PZ⟩:=(FlatAt.of_own OWN8 (by omega)).some (by omega)
    have Pz:Hid (RowIn w8 gz (flatC s.ops ++ [.int .i64 (op:Int),.int .i64 x.kind,.int .u64 x.key,.int .u64 x.val,.int .i64 x.lim])):=Lib.hid PZ
    have Lz:=Pz.out.lt (by simp)
    clear PZ OWN8 hv8 hg8
    clear Pc Lc hbc
    go_wp2_with fail
    refine nxt_but U (plan_one ?_)
    simp only [nths,nth,List.map_cons,List.map_nil,List.getD_cons_zero,List.getD_cons_succ]
    repeat go_big_quiet_step (fail)
    refine wpQuiet_nil ?_
    have b8:=B3.out.cell 8 _ rfl
    have qb8:=B3.out.free 8
    go_wp2_with fail
    clear b8 qb8
    have U9:=U.setCell (a:=⟨w.heap.size,8,none⟩) (.inl (show w.heap.size ≠ w.heap.size + 1 by omega)) (.slice (some ⟨gz,0,none⟩) (s.ops.length + 1) kz)
    have kv4:But (Bx w.heap.size 3) w8 (w8.setCell ⟨w.heap.size,8,none⟩ (.slice (some ⟨gz,0,none⟩) (s.ops.length + 1) kz)):=(But.refl _ _).setCell (.inl ⟨Nat.le_refl _,by show w.heap.size < w.heap.size + 3;omega⟩) _
    replace B3:=Lib.hid (B3.out.set (j:=8) (by simp) (.slice (some ⟨gz,0,none⟩) (s.ops.length + 1) kz))
    simp only [List.set_cons_succ,List.set_cons_zero] at B3
    replace B5:=Lib.hid (B5.out.put (a:=⟨w.heap.size,8,none⟩) (by show w.heap.size ≠ w.heap.size + 1;omega) (.slice (some ⟨gz,0,none⟩) (s.ops.length + 1) kz))
    replace B6:=Lib.hid (B6.out.put (a:=⟨w.heap.size,8,none⟩) (by show w.heap.size ≠ w.heap.size + 1 + 1;omega) (.slice (some ⟨gz,0,none⟩) (s.ops.length + 1) kz))
    replace Pn:=Lib.hid (Pn.out.but kv4 (bx_not (by omega)))
    replace Ln:=Nat.lt_of_lt_of_le Ln kv4.2.2
    replace Pz:=Lib.hid (Pz.out.but kv4 (bx_not (by omega)))
    replace Lz:=Nat.lt_of_lt_of_le Lz kv4.2.2
    replace Q:=Q.trans kv4
    generalize w8.setCell ⟨w.heap.size,8,none⟩ (.slice (some ⟨gz,0,none⟩) (s.ops.length + 1) kz) = v4 at *
    refine nxt_but U9 (plan_fin ?_)
    clear U9 kv4
    simp only [nths,List.map_nil]
    refine wpQuiet_nil ?_
    go_wp2_with fail
    go_meet
    case rel => exact ⟨gz,kz,B3,B6,Q,hbz,Pz,Pn⟩
 case rest =>
  clear B3 B5 B6 Q Pn Ln
  obtain ⟨gz,kz,B3,B6,Q,hbz,Pz,Pn⟩:=hcut
  have b0:=B3.out.cell 0 _ rfl
  have b1:=B3.out.cell 1 _ rfl
  have b2:=B3.out.cell 2 _ rfl
  have b3:=B3.out.cell 3 _ rfl
  have b4:=B3.out.cell 4 _ rfl
  have b5:=B3.out.cell 5 _ rfl
  have b6:=B3.out.cell 6 _ rfl
  have b7:=B3.out.cell 7 _ rfl
  have b8:=B3.out.cell 8 _ rfl
  have b9:=B3.out.cell 9 _ rfl
  have c0:=B6.out.cell 0 _ rfl
  have c1:=B6.out.cell 1 _ rfl
  have c2:=B6.out.cell 2 _ rfl
  have c3:=B6.out.cell 3 _ rfl
  have c4:=B6.out.cell 4 _ rfl
  have c5:=B6.out.cell 5 _ rfl
  have c6:=B6.out.cell 6 _ rfl
  have c7:=B6.out.cell 7 _ rfl
  have c8:=B6.out.cell 8 _ rfl
  have c9:=B6.out.cell 9 _ rfl
  have qc0:=B6.out.free 0
  have qc1:=B6.out.free 1
  have qc2:=B6.out.free 2
  have qc3:=B6.out.free 3
  have qc4:=B6.out.free 4
  have qc5:=B6.out.free 5
  have qc6:=B6.out.free 6
  have qc7:=B6.out.free 7
  have qc8:=B6.out.free 8
  have qc9:=B6.out.free 9
  have hlt:=B6.out.lt
  have hlt3:=B3.out.lt
  go_wp2_with fail
  have B2:=B6.out.fill rfl (.int .i64 c.t) (.int .i64 c.b) (.int .i64 c.i) (.int .i64 c.f) (.int .i64 c.k) (.slice (some ⟨gn,0,none⟩) c.t kn) (.slice A2 n2 kc2) (.slice A3 n3 kc3) (.slice (some ⟨gz,0,none⟩) (s.ops.length + 1) kz) (.slice A5 n5 kc5)
  have e0:=B2.cell 0 _ rfl
  have e1:=B2.cell 1 _ rfl
  have e2:=B2.cell 2 _ rfl
  have e3:=B2.cell 3 _ rfl
  have e4:=B2.cell 4 _ rfl
  have e5:=B2.cell 5 _ rfl
  have e6:=B2.cell 6 _ rfl
  have e7:=B2.cell 7 _ rfl
  have e8:=B2.cell 8 _ rfl
  have e9:=B2.cell 9 _ rfl
  have kS:=(But.refl (Bx w.heap.size 3) wc).fill (b:=w.heap.size + 1 + 1) (.inl ⟨by omega,by omega⟩) (.int .i64 c.t) (.int .i64 c.b) (.int .i64 c.i) (.int .i64 c.f) (.int .i64 c.k) (.slice (some ⟨gn,0,none⟩) c.t kn) (.slice A2 n2 kc2) (.slice A3 n3 kc3) (.slice (some ⟨gz,0,none⟩) (s.ops.length + 1) kz) (.slice A5 n5 kc5)
  have gE:=But.fresh G (Q.trans kS) (fun i hi => hi.1)
  replace Pn:=Lib.hid (Pn.out.but kS (bx_not (by omega)))
  replace Pz:=Lib.hid (Pz.out.but kS (bx_not (by omega)))
  refine bodyPost_ret (v:=.tuple #[RV c (.slice (some ⟨gn,0,none⟩) c.t kn) (.slice A2 n2 kc2) (.slice A3 n3 kc3) (.slice (some ⟨gz,0,none⟩) (s.ops.length + 1) kz) (.slice A5 n5 kc5),.int .i64 (op:Int),.int .i64 0]) (by simp [results,Tryz.results65,go_sem,RV,e0,e1,e2,e3,e4,e5,e6,e7,e8,e9]) rfl ?_
  exact ⟨_,_,_,_,_,rfl,⟨Pn.out.flat ht1 (by omega),H.out.f2.grown gE,H.out.f3.grown gE,(by rw [flatC_app,List.length_append];exact Pz.out.flat (by simp) (by omega)),H.out.f5.grown gE⟩,gE,.inr (Pn.out.flat ht1 (by omega)),.inl rfl,.inl rfl,.inr ((by rw [flatC_app,List.length_append];exact Pz.out.flat (by simp) (by omega))),.inl rfl⟩
set_option maxHeartbeats 8000000 in
theorem rBegin_insert (w:World) (hi:Nat) (c:Cf) (s:St) (s1 s2 s3 s4 s5:Value) (h:RefS w hi c s s1 s2 s3 s4 s5) (hok:c.Ok) (hI:Inv c s) (hw:hi ≤ w.heap.size) (hl:s.ops.length ≤ 9999) (i:Nat) (hit:i < c.t) (x:Cal) (hk:kindOk x) (e0:¬ at_ s.calls i = c.k) (h2:Hid (x.kind = 1)) (e3':¬ at_ s.ins i = c.i) (op:Nat) (hop:i * c.k + at_ s.calls i = op) :
  Calls Tryz.prog 65 #[RV c s1 s2 s3 s4 s5,.int .i64 i,x.v] w (RTell hi c ({ s with calls:=bump s.calls i,ins:=bump s.ins i,ops:=s.ops ++ [(op,x)] },op,0) s1 s2 s3 s4 s5 w):=by
 have HV:Hid (vOp c.t c.b c.i c.f c.k i (at_ s.calls i) = (op:Int)):=Lib.hid (by rw [← hop];exact vOp_nat hok hit (by have:=hI.b1 i hit;omega))
 clear hop
 have ht1:=hok.t1
 obtain ⟨gs1,kc1,rfl,-,hc1⟩:=h.f1.some ht1
 obtain ⟨gs2,kc2,rfl,-,hc2⟩:=h.f2.some ht1
 obtain ⟨A3,n3,kc3,rfl⟩:=h.f3.slice
 obtain ⟨A4,n4,kc4,rfl⟩:=h.f4.slice
 obtain ⟨A5,n5,kc5,rfl⟩:=h.f5.slice
 have H:=Lib.hid h
 have HOK:=Lib.hid hok
 have HN:=Lib.hid hI
 have HI:Hid (decide (0 ≤ (i:Int) ∧ (i:Int) < c.t) = true):=Lib.hid (decide_eq_true (by omega))
 have l1:=hI.l1
 have l2:=hI.l2
 have b1:=hI.b1 i hit
 have b2:=hI.b2 i hit
 have ck2:=hok.k2
 have i2:=hok.i2
 have t8:=hok.t8
 have a1:w.cell? ⟨gs1,i,none⟩ = some (.int .i64 (at_ s.calls i:Int)):=hc1 i _ (vNat_at (by omega))
 have a2:w.cell? ⟨gs2,i,none⟩ = some (.int .i64 (at_ s.ins i:Int)):=hc2 i _ (vNat_at (by omega))
 have lt2:=World.block_lt_of_cell? w _ a2
 clear hc1 hc2
 have HK:Hid (kindOk x):=Lib.hid hk
 have hkk:=hk
 unfold kindOk at hkk
 have e1:decide (x.kind < 1) = false:=decide_eq_false (by omega)
 have e2:decide (4 < x.kind) = false:=decide_eq_false (by omega)
 clear hkk hk
 clear h hok hI
 unfold RV Cal.v
 go_enter Tryz.func65,Tryz.ntmps65
 go_wp2_with fail
 refine (is_at _ hi c s _ _ _ _ _ (H.out.grown (by go_grown)) HOK.out i _ HI.out).mono ?_;rintro e w1 ⟨rfl,g1⟩
 obtain ⟨B3,B5,B6,G⟩:=boxes3 (l1:=[.int .i64 c.t,.int .i64 c.b,.int .i64 c.i,.int .i64 c.f,.int .i64 c.k,.slice (some ⟨gs1,0,none⟩) c.t kc1,.slice (some ⟨gs2,0,none⟩) c.t kc2,.slice A3 n3 kc3,.slice A4 n4 kc4,.slice A5 n5 kc5]) (l2:=[.int .i64 x.kind,.int .u64 x.key,.int .u64 x.val,.int .i64 x.lim]) (l3:=[.int .i64 0,.int .i64 0,.int .i64 0,.int .i64 0,.int .i64 0,.slice none 0 0,.slice none 0 0,.slice none 0 0,.slice none 0 0,.slice none 0 0]) g1
 replace B3:=Lib.hid B3
 replace B5:=Lib.hid B5
 replace B6:=Lib.hid B6
 have Q:But (Bx w.heap.size 3) w1 w1:=But.refl _ _
 clear g1
 replace a1:=gcell G a1
 replace a2:=gcell G a2
 have y0:=B5.out.cell 0 _ rfl
 have b4:=B3.out.cell 4 _ rfl
 have b5:=B3.out.cell 5 _ rfl
 have e3:((at_ s.calls i:Int) == (c.k:Int)) = false:=by simp;omega
 go_wp2_with fail
 refine (more_at _ hi (w.heap.size + 3) _ s.calls i (by omega) (by rw [l1];exact H.out.f1.grown G) (by have:=B6.out.lt;omega) (by omega) (by omega)).mono ?_;rintro e w2 ⟨v1,rfl,F1,m1⟩
 rw [l1] at F1
 obtain ⟨gn,kn,rfl,hn1,Pn⟩:=F1.some ht1
 replace Pn:Hid (RowIn w2 gn (vNat (bump s.calls i))):=Lib.hid Pn
 clear F1 y0 b4 b5
 have Ln:gn < w2.heap.size:=Pn.out.lt (by rw [vNat_len,length_bump];omega)
 replace B3:=Lib.hid (B3.out.grown m1)
 replace B5:=Lib.hid (B5.out.grown m1)
 replace B6:=Lib.hid (B6.out.grown m1)
 replace Q:=Q.trans (But.of_grown m1)
 have b5:=B3.out.cell 5 _ rfl
 have qb5:=B3.out.free 5
 go_wp2_with fail
 clear b5 qb5 m1
 have kv1:But (Bx w.heap.size 3) w2 (w2.setCell ⟨w.heap.size,5,none⟩ (.slice (some ⟨gn,0,none⟩) c.t kn)):=(But.refl _ _).setCell (.inl ⟨Nat.le_refl _,by show w.heap.size < w.heap.size + 3;omega⟩) _
 replace B3:=Lib.hid (B3.out.set (j:=5) (by simp) (.slice (some ⟨gn,0,none⟩) c.t kn))
 simp only [List.set_cons_succ,List.set_cons_zero] at B3
 replace B5:=Lib.hid (B5.out.put (a:=⟨w.heap.size,5,none⟩) (by show w.heap.size ≠ w.heap.size + 1;omega) (.slice (some ⟨gn,0,none⟩) c.t kn))
 replace B6:=Lib.hid (B6.out.put (a:=⟨w.heap.size,5,none⟩) (by show w.heap.size ≠ w.heap.size + 1 + 1;omega) (.slice (some ⟨gn,0,none⟩) c.t kn))
 replace Pn:=Lib.hid (Pn.out.but kv1 (bx_not (by omega)))
 replace Ln:=Nat.lt_of_lt_of_le Ln kv1.2.2
 replace Q:=Q.trans kv1
 generalize w2.setCell ⟨w.heap.size,5,none⟩ (.slice (some ⟨gn,0,none⟩) c.t kn) = v1 at *
 have e4:(x.kind == 1) = true:=by simp [h2.out]
 have e5:((at_ s.ins i:Int) == (c.i:Int)) = false:=by simp;omega
 refine wp_region_plang (.fin [0,1,2,3,4,5,6,7,8,9,10,11,12,13]) (by kernel_rfl) (by kernel_rfl) (by kernel_rfl) ?_
 intro r7 h7
 clear kv1
 replace B3:=Lib.hid (B3.out.grown h7)
 replace B5:=Lib.hid (B5.out.grown h7)
 replace B6:=Lib.hid (B6.out.grown h7)
 replace Pn:=Lib.hid (Pn.out.grown h7)
 replace Ln:=Nat.lt_of_lt_of_le Ln (h7).2.2
 replace Q:=Q.trans (But.of_grown h7)
 have d0:∀ g:GrW r7,g.w.cell? ⟨w.heap.size + 1,0,none⟩ = some (.int .i64 x.kind):=GrW.cell (B5.out.cell 0 _ rfl)
 have d1:∀ g:GrW r7,g.w.cell? ⟨w.heap.size,6,none⟩ = some (.slice (some ⟨gs2,0,none⟩) c.t kc2):=GrW.cell (B3.out.cell 6 _ rfl)
 have d2:∀ g:GrW r7,g.w.cell? ⟨w.heap.size,2,none⟩ = some (.int .i64 c.i):=GrW.cell (B3.out.cell 2 _ rfl)
 have d3:∀ g:GrW r7,g.w.cell? ⟨gs2,i,none⟩ = some (.int .i64 (at_ s.ins i:Int)):=GrW.cell (Q.cell (fun q => by have:=q.1;omega) a2)
 clear h7
 refine plan_fin ?_
 simp only [nths,nth,List.map_cons,List.map_nil,List.getD_cons_zero,List.getD_cons_succ]
 repeat go_big_quiet_step (fail)
 refine wpQuiet_nil ?_
 clear d0 d1 d2 d3
 have b6:=B3.out.cell 6 _ rfl
 have y0:=B5.out.cell 0 _ rfl
 go_wp2_with fail
 refine (more_at _ hi (w.heap.size + 3) _ s.ins i (by omega) (by rw [l2];exact H.out.f2.grown (But.fresh G Q (fun i hi => hi.1))) (by have:=B6.out.lt;omega) (by omega) (by omega)).mono ?_;rintro e wm ⟨v2,rfl,F2,m2⟩
 rw [l2] at F2
 obtain ⟨gm,km,rfl,hm1,PN⟩:=F2.some ht1
 replace PN:Hid (RowIn wm gm (vNat (bump s.ins i))):=Lib.hid PN
 clear F2 y0 b6
 have LN:gm < wm.heap.size:=PN.out.lt (by rw [vNat_len,length_bump];omega)
 replace B3:=Lib.hid (B3.out.grown m2)
 replace B5:=Lib.hid (B5.out.grown m2)
 replace B6:=Lib.hid (B6.out.grown m2)
 replace Pn:=Lib.hid (Pn.out.grown m2)
 replace Ln:=Nat.lt_of_lt_of_le Ln (m2).2.2
 replace Q:=Q.trans (But.of_grown m2)
 have Pm:=PN;have Lm:=LN;clear PN LN m2
 have b6:=B3.out.cell 6 _ rfl
 have qb6:=B3.out.free 6
 have b0:=B3.out.cell 0 _ rfl;have b1':=B3.out.cell 1 _ rfl;have b2':=B3.out.cell 2 _ rfl;have b3:=B3.out.cell 3 _ rfl;have b4:=B3.out.cell 4 _ rfl
 go_wp2_with fail
 clear b6 qb6 b0 b1' b2' b3 b4
 have kv2:But (Bx w.heap.size 3) wm (wm.setCell ⟨w.heap.size,6,none⟩ (.slice (some ⟨gm,0,none⟩) c.t km)):=(But.refl _ _).setCell (.inl ⟨Nat.le_refl _,by show w.heap.size < w.heap.size + 3;omega⟩) _
 replace B3:=Lib.hid (B3.out.set (j:=6) (by simp) (.slice (some ⟨gm,0,none⟩) c.t km))
 simp only [List.set_cons_succ,List.set_cons_zero] at B3
 replace B5:=Lib.hid (B5.out.put (a:=⟨w.heap.size,6,none⟩) (by show w.heap.size ≠ w.heap.size + 1;omega) (.slice (some ⟨gm,0,none⟩) c.t km))
 replace B6:=Lib.hid (B6.out.put (a:=⟨w.heap.size,6,none⟩) (by show w.heap.size ≠ w.heap.size + 1 + 1;omega) (.slice (some ⟨gm,0,none⟩) c.t km))
 replace Pn:=Lib.hid (Pn.out.but kv2 (bx_not (by omega)))
 replace Ln:=Nat.lt_of_lt_of_le Ln kv2.2.2
 replace Pm:=Lib.hid (Pm.out.but kv2 (bx_not (by omega)))
 replace Lm:=Nat.lt_of_lt_of_le Lm kv2.2.2
 replace Q:=Q.trans kv2
 generalize wm.setCell ⟨w.heap.size,6,none⟩ (.slice (some ⟨gm,0,none⟩) c.t km) = v2 at *
 clear kv2
 refine (rOp_at _ _ _ _ _ _ _ _ _ HV.out).mono ?_;rintro e wo ⟨rfl,ko⟩
 replace B3:=Lib.hid (B3.out.grown ko)
 replace B5:=Lib.hid (B5.out.grown ko)
 replace B6:=Lib.hid (B6.out.grown ko)
 replace Pn:=Lib.hid (Pn.out.grown ko)
 replace Ln:=Nat.lt_of_lt_of_le Ln (ko).2.2
 replace Pm:=Lib.hid (Pm.out.grown ko)
 replace Lm:=Nat.lt_of_lt_of_le Lm (ko).2.2
 replace Q:=Q.trans (But.of_grown ko)
 clear ko
 go_wp2_with fail
 go_cut [] from 70 (fun wx => ∃ gz kz:Nat,Hid (Box wx w.heap.size [.int .i64 c.t,.int .i64 c.b,.int .i64 c.i,.int .i64 c.f,.int .i64 c.k,.slice (some ⟨gn,0,none⟩) c.t kn,.slice (some ⟨gm,0,none⟩) c.t km,.slice A3 n3 kc3,.slice (some ⟨gz,0,none⟩) (s.ops.length + 1) kz,.slice A5 n5 kc5]) ∧ Hid (Box wx (w.heap.size + 1 + 1) [.int .i64 0,.int .i64 0,.int .i64 0,.int .i64 0,.int .i64 0,.slice none 0 0,.slice none 0 0,.slice none 0 0,.slice none 0 0,.slice none 0 0]) ∧ But (Bx w.heap.size 3) w1 wx ∧ w.heap.size + 3 ≤ gz ∧ Hid (RowIn wx gz (flatC s.ops ++ [.int .i64 (op:Int),.int .i64 x.kind,.int .u64 x.key,.int .u64 x.val,.int .i64 x.lim])) ∧ Hid (RowIn wx gn (vNat (bump s.calls i))) ∧ Hid (RowIn wx gm (vNat (bump s.ins i))))
 case first =>
  refine wp_region_planb (· ≠ w.heap.size + 1) (.three [1,4,5,6] 0 (.two [] 2 (.two [] 3 (.one [] 7 (.one [] 8 (.one [9] 10 (.fin [])))) 7 (.one [] 3 (.one [] 8 (.one [9] 10 (.fin []))))) 7 (.one [] 2 (.one [] 3 (.one [] 8 (.one [9] 10 (.fin [])))))) 2 (.two [] 0 (.two [] 3 (.one [] 7 (.one [] 8 (.one [9] 10 (.fin [])))) 7 (.one [] 3 (.one [] 8 (.one [9] 10 (.fin []))))) 7 (.one [] 0 (.one [] 3 (.one [] 8 (.one [9] 10 (.fin [])))))) 7 (.two [] 0 (.one [] 2 (.one [] 3 (.one [] 8 (.one [9] 10 (.fin []))))) 2 (.one [] 0 (.one [] 3 (.one [] 8 (.one [9] 10 (.fin []))))))) (by kernel_rfl) (by kernel_rfl) (by kernel_rfl) ?_
  intro wp kp
  replace B3:=Lib.hid (B3.out.grown kp)
  replace B5:=Lib.hid (B5.out.grown kp)
  replace B6:=Lib.hid (B6.out.grown kp)
  replace Pn:=Lib.hid (Pn.out.grown kp)
  replace Ln:=Nat.lt_of_lt_of_le Ln (kp).2.2
  replace Pm:=Lib.hid (Pm.out.grown kp)
  replace Lm:=Nat.lt_of_lt_of_le Lm (kp).2.2
  replace Q:=Q.trans (But.of_grown kp)
  clear kp
  have U:But (· ≠ w.heap.size + 1) wp wp:=But.refl _ _
  have y0:∀ g:ButW (· ≠ w.heap.size + 1) wp,g.w.cell? ⟨w.heap.size + 1,0,none⟩ = some (.int .i64 x.kind):=ButW.cell (fun h => h rfl) (B5.out.cell 0 _ rfl)
  have y1:∀ g:ButW (· ≠ w.heap.size + 1) wp,g.w.cell? ⟨w.heap.size + 1,1,none⟩ = some (.int .u64 x.key):=ButW.cell (fun h => h rfl) (B5.out.cell 1 _ rfl)
  have y2:∀ g:ButW (· ≠ w.heap.size + 1) wp,g.w.cell? ⟨w.heap.size + 1,2,none⟩ = some (.int .u64 x.val):=ButW.cell (fun h => h rfl) (B5.out.cell 2 _ rfl)
  have y3:∀ g:ButW (· ≠ w.heap.size + 1) wp,g.w.cell? ⟨w.heap.size + 1,3,none⟩ = some (.int .i64 x.lim):=ButW.cell (fun h => h rfl) (B5.out.cell 3 _ rfl)
  refine plan_three ?_
  simp only [nths,nth,List.map_cons,List.map_nil,List.getD_cons_zero,List.getD_cons_succ]
  repeat go_big_quiet_step (fail)
  clear y0 y1 y2 y3
  refine wpQuiet_nil ⟨?_,?_,?_⟩
  ·go_wp2_with fail
   have kv3:Grown wp (wp.alloc (.cells #[] 171)):=by go_grown
   have hlt:=B6.out.lt
   have OWN:(wp.alloc (.cells #[] 171)).ownsRow (w.heap.size + 3) 171 5 (.slice (some ⟨wp.heap.size,0,none⟩) 0 0) 0 []:=own_made (by omega)
   have LO:wp.heap.size < (wp.alloc (.cells #[] 171)).heap.size:=by simp
   have hwa:w1.heap.size ≤ wp.heap.size:=Q.2.2
   have hba:w.heap.size + 3 ≤ wp.heap.size:=by omega
   have nna:gn ≠ wp.heap.size:=by omega
   have nma:gm ≠ wp.heap.size:=by omega
   obtain ⟨ga,hga⟩:∃ q,wp.heap.size = q:=⟨_,rfl⟩
   rw [hga] at OWN LO hwa hba nna nma ⊢
   clear hga
   generalize wp.alloc (.cells #[] 171) = v3 at *
   replace OWN:=Lib.hid OWN
   have HVO:(Value.slice (some ⟨ga,0,none⟩) 0 0).ownBlock = some ga:=rfl
   replace B3:=Lib.hid (B3.out.grown kv3)
   replace B5:=Lib.hid (B5.out.grown kv3)
   replace B6:=Lib.hid (B6.out.grown kv3)
   replace Pn:=Lib.hid (Pn.out.grown kv3)
   replace Ln:=Nat.lt_of_lt_of_le Ln (kv3).2.2
   replace Pm:=Lib.hid (Pm.out.grown kv3)
   replace Lm:=Nat.lt_of_lt_of_le Lm (kv3).2.2
   replace U:=U.trans (But.of_grown kv3)
   replace Q:=Q.trans (But.of_grown kv3)
   clear kv3 hlt
   refine nxt_but U (plan_two ?_)
   simp only [nths,nth,List.map_nil,List.getD_cons_zero,List.getD_cons_succ]
   refine wpQuiet_nil ⟨?_,?_⟩
   ·have b8:=B3.out.cell 8 _ rfl
    go_wp2_with fail
    clear b8
    refine nxt_but U (plan_two ?_)
    simp only [nths,nth,List.map_nil,List.getD_cons_zero,List.getD_cons_succ]
    refine wpQuiet_nil ⟨?_,?_⟩
    ·have hlt:=B6.out.lt
     go_wp2_with (first | (at_builtin;refine wpList_push rfl _ _ 37 rfl (w.heap.size + 3) 171 (.agg #[.int .i64 0,.int .i64 0,.int .u64 0,.int .u64 0,.int .i64 0]) 5 40 Tryz.underlying37 info_op rfl (by decide) _ 0 [] ga OWN.out HVO (.slice A4 n4 kc4) s.ops.length hi (flatC s.ops) (H.out.f4.grown (But.fresh G Q (fun i hi => hi.1))) (flatC_len _) (flatC_one _) (by omega) (by decide) (by omega) rfl rfl ?_) | fail)
     intro v3 w3 g3 OWN3 hv3 hg3 q3
     try simp only [Nat.zero_add,List.nil_append] at OWN3
     have nnb:gn ≠ g3:=by omega
     have nmb:gm ≠ g3:=by omega
     have hwb:w1.heap.size ≤ g3:=by have:=Q.2.2;omega
     have hbb:w.heap.size + 3 ≤ g3:=by omega
     have LO3:g3 < w3.heap.size:=(OWN3.lt g3 hv3).2
     replace B3:=Lib.hid (B3.out.but q3 (show ¬ w.heap.size = ga by omega))
     replace B5:=Lib.hid (B5.out.but q3 (show ¬ w.heap.size + 1 = ga by omega))
     replace B6:=Lib.hid (B6.out.but q3 (show ¬ w.heap.size + 1 + 1 = ga by omega))
     replace Pn:=Lib.hid (Pn.out.but q3 (show ¬ gn = ga by omega))
     replace Ln:=Nat.lt_of_lt_of_le Ln (q3).2.2
     replace Pm:=Lib.hid (Pm.out.but q3 (show ¬ gm = ga by omega))
     replace Lm:=Nat.lt_of_lt_of_le Lm (q3).2.2
     have hq1:¬ ga < w1.heap.size:=by omega
     replace Q:=Q.over q3 hq1
     clear hq1
     replace U:=U.trans (q3.mono (fun i hi => by show i ≠ w.heap.size + 1;omega))
     clear OWN HVO LO q3 hg3 hlt hwa hba nna nma
     have OWN:=Lib.hid OWN3
     have HVO:=hv3
     have LO:=LO3
     clear OWN3 hv3 LO3
     go_wp2_with fail
     refine nxt_but U (plan_one ?_)
     simp only [nths,nth,List.map_nil,List.getD_cons_zero,List.getD_cons_succ]
     refine wpQuiet_nil ?_
     go_wp2_with fail
     have kv4:Grown w3 (w3.alloc (.cells #[.int .i64 (op:Int),.int .i64 x.kind,.int .u64 x.key,.int .u64 x.val,.int .i64 x.lim] 171)):=by go_grown
     have hlt:=B6.out.lt
     have PC:Hid (RowIn (w3.alloc (.cells #[.int .i64 (op:Int),.int .i64 x.kind,.int .u64 x.key,.int .u64 x.val,.int .i64 x.lim] 171)) w3.heap.size [.int .i64 (op:Int),.int .i64 x.kind,.int .u64 x.key,.int .u64 x.val,.int .i64 x.lim]):=Lib.hid (RowIn.made _ _ _)
     have LC:w3.heap.size < (w3.alloc (.cells #[.int .i64 (op:Int),.int .i64 x.kind,.int .u64 x.key,.int .u64 x.val,.int .i64 x.lim] 171)).heap.size:=by simp
     have hbc:w.heap.size + 3 ≤ w3.heap.size:=by omega
     have ncb:w3.heap.size ≠ g3:=by omega
     obtain ⟨gc,hgc⟩:∃ q,w3.heap.size = q:=⟨_,rfl⟩
     rw [hgc] at PC LC hbc ncb ⊢
     clear hgc
     generalize w3.alloc (.cells #[.int .i64 (op:Int),.int .i64 x.kind,.int .u64 x.key,.int .u64 x.val,.int .i64 x.lim] 171) = v4 at *
     replace B3:=Lib.hid (B3.out.grown kv4)
     replace B5:=Lib.hid (B5.out.grown kv4)
     replace B6:=Lib.hid (B6.out.grown kv4)
     replace Pn:=Lib.hid (Pn.out.grown kv4)
     replace Ln:=Nat.lt_of_lt_of_le Ln (kv4).2.2
     replace Pm:=Lib.hid (Pm.out.grown kv4)
     replace Lm:=Nat.lt_of_lt_of_le Lm (kv4).2.2
     replace OWN:=Lib.hid (own_but OWN.out HVO (S:=fun _ => False) kv4 (fun f => f))
     replace LO:=Nat.lt_of_lt_of_le LO (kv4).2.2
     replace U:=U.trans (But.of_grown kv4)
     replace Q:=Q.trans (But.of_grown kv4)
     have Pc:=PC;have Lc:=LC;clear PC LC kv4 hlt
     refine nxt_but U (plan_one ?_)
     simp only [nths,nth,List.map_nil,List.getD_cons_zero,List.getD_cons_succ]
     refine wpQuiet_nil ?_
     have hlt:=B6.out.lt
     go_wp2_with (first | (at_builtin;refine wpList_push rfl _ _ 37 rfl (w.heap.size + 3) 171 (.agg #[.int .i64 0,.int .i64 0,.int .u64 0,.int .u64 0,.int .i64 0]) 5 40 Tryz.underlying37 info_op rfl (by decide) _ s.ops.length (flatC s.ops) g3 OWN.out HVO (.slice (some ⟨gc,0,none⟩) 1 1) 1 0 [.int .i64 (op:Int),.int .i64 x.kind,.int .u64 x.key,.int .u64 x.val,.int .i64 x.lim] (Pc.out.flat (by decide) (Nat.zero_le _)) rfl (five_one op x) (by omega) (by decide) (by omega) rfl rfl ?_) | fail)
     intro v8 w8 g8 OWN8 hv8 hg8 q8
     replace B3:=Lib.hid (B3.out.but q8 (show ¬ w.heap.size = g3 by omega))
     replace B5:=Lib.hid (B5.out.but q8 (show ¬ w.heap.size + 1 = g3 by omega))
     replace B6:=Lib.hid (B6.out.but q8 (show ¬ w.heap.size + 1 + 1 = g3 by omega))
     replace Pn:=Lib.hid (Pn.out.but q8 (show ¬ gn = g3 by omega))
     replace Ln:=Nat.lt_of_lt_of_le Ln (q8).2.2
     replace Pm:=Lib.hid (Pm.out.but q8 (show ¬ gm = g3 by omega))
     replace Lm:=Nat.lt_of_lt_of_le Lm (q8).2.2
     replace Pc:=Lib.hid (Pc.out.but q8 (show ¬ gc = g3 by omega))
     replace Lc:=Nat.lt_of_lt_of_le Lc (q8).2.2
     have hq1:¬ g3 < w1.heap.size:=by omega
     replace Q:=Q.over q8 hq1
     clear hq1
     replace U:=U.trans (q8.mono (fun i hi => by show i ≠ w.heap.size + 1;omega))
     clear OWN HVO LO q8 hlt hwb hbb nnb nmb ncb
     obtain ⟨gz,kz,rfl,hbz,PZ⟩:=(FlatAt.of_own OWN8 (by omega)).some (by omega)
     have Pz:Hid (RowIn w8 gz (flatC s.ops ++ [.int .i64 (op:Int),.int .i64 x.kind,.int .u64 x.key,.int .u64 x.val,.int .i64 x.lim])):=Lib.hid PZ
     have Lz:=Pz.out.lt (by simp)
     clear PZ OWN8 hv8 hg8
     clear Pc Lc hbc
     go_wp2_with fail
     refine nxt_but U (plan_one ?_)
     simp only [nths,nth,List.map_cons,List.map_nil,List.getD_cons_zero,List.getD_cons_succ]
     repeat go_big_quiet_step (fail)
     refine wpQuiet_nil ?_
     have b8:=B3.out.cell 8 _ rfl
     have qb8:=B3.out.free 8
     go_wp2_with fail
     clear b8 qb8
     have U9:=U.setCell (a:=⟨w.heap.size,8,none⟩) (.inl (show w.heap.size ≠ w.heap.size + 1 by omega)) (.slice (some ⟨gz,0,none⟩) (s.ops.length + 1) kz)
     have kv5:But (Bx w.heap.size 3) w8 (w8.setCell ⟨w.heap.size,8,none⟩ (.slice (some ⟨gz,0,none⟩) (s.ops.length + 1) kz)):=(But.refl _ _).setCell (.inl ⟨Nat.le_refl _,by show w.heap.size < w.heap.size + 3;omega⟩) _
     replace B3:=Lib.hid (B3.out.set (j:=8) (by simp) (.slice (some ⟨gz,0,none⟩) (s.ops.length + 1) kz))
     simp only [List.set_cons_succ,List.set_cons_zero] at B3
     replace B5:=Lib.hid (B5.out.put (a:=⟨w.heap.size,8,none⟩) (by show w.heap.size ≠ w.heap.size + 1;omega) (.slice (some ⟨gz,0,none⟩) (s.ops.length + 1) kz))
     replace B6:=Lib.hid (B6.out.put (a:=⟨w.heap.size,8,none⟩) (by show w.heap.size ≠ w.heap.size + 1 + 1;omega) (.slice (some ⟨gz,0,none⟩) (s.ops.length + 1) kz))
     replace Pn:=Lib.hid (Pn.out.but kv5 (bx_not (by omega)))
     replace Ln:=Nat.lt_of_lt_of_le Ln kv5.2.2
     replace Pm:=Lib.hid (Pm.out.but kv5 (bx_not (by omega)))
     replace Lm:=Nat.lt_of_lt_of_le Lm kv5.2.2
     replace Pz:=Lib.hid (Pz.out.but kv5 (bx_not (by omega)))
     replace Lz:=Nat.lt_of_lt_of_le Lz kv5.2.2
     replace Q:=Q.trans kv5
     generalize w8.setCell ⟨w.heap.size,8,none⟩ (.slice (some ⟨gz,0,none⟩) (s.ops.length + 1) kz) = v5 at *
     refine nxt_but U9 (plan_fin ?_)
     clear U9 kv5
     simp only [nths,List.map_nil]
     refine wpQuiet_nil ?_
     go_wp2_with fail
     go_meet
     case rel => exact ⟨gz,kz,B3,B6,Q,hbz,Pz,Pn,Pm⟩
    ·go_wp2_with fail
     have kv4:Grown v3 (v3.alloc (.cells #[.int .i64 (op:Int),.int .i64 x.kind,.int .u64 x.key,.int .u64 x.val,.int .i64 x.lim] 171)):=by go_grown
     have hlt:=B6.out.lt
     have PC:Hid (RowIn (v3.alloc (.cells #[.int .i64 (op:Int),.int .i64 x.kind,.int .u64 x.key,.int .u64 x.val,.int .i64 x.lim] 171)) v3.heap.size [.int .i64 (op:Int),.int .i64 x.kind,.int .u64 x.key,.int .u64 x.val,.int .i64 x.lim]):=Lib.hid (RowIn.made _ _ _)
     have LC:v3.heap.size < (v3.alloc (.cells #[.int .i64 (op:Int),.int .i64 x.kind,.int .u64 x.key,.int .u64 x.val,.int .i64 x.lim] 171)).heap.size:=by simp
     have hbc:w.heap.size + 3 ≤ v3.heap.size:=by omega
     have nca:v3.heap.size ≠ ga:=by omega
     obtain ⟨gc,hgc⟩:∃ q,v3.heap.size = q:=⟨_,rfl⟩
     rw [hgc] at PC LC hbc nca ⊢
     clear hgc
     generalize v3.alloc (.cells #[.int .i64 (op:Int),.int .i64 x.kind,.int .u64 x.key,.int .u64 x.val,.int .i64 x.lim] 171) = v4 at *
     replace B3:=Lib.hid (B3.out.grown kv4)
     replace B5:=Lib.hid (B5.out.grown kv4)
     replace B6:=Lib.hid (B6.out.grown kv4)
     replace Pn:=Lib.hid (Pn.out.grown kv4)
     replace Ln:=Nat.lt_of_lt_of_le Ln (kv4).2.2
     replace Pm:=Lib.hid (Pm.out.grown kv4)
     replace Lm:=Nat.lt_of_lt_of_le Lm (kv4).2.2
     replace OWN:=Lib.hid (own_but OWN.out HVO (S:=fun _ => False) kv4 (fun f => f))
     replace LO:=Nat.lt_of_lt_of_le LO (kv4).2.2
     replace U:=U.trans (But.of_grown kv4)
     replace Q:=Q.trans (But.of_grown kv4)
     have Pc:=PC;have Lc:=LC;clear PC LC kv4 hlt
     refine nxt_but U (plan_one ?_)
     simp only [nths,nth,List.map_nil,List.getD_cons_zero,List.getD_cons_succ]
     refine wpQuiet_nil ?_
     have hlt:=B6.out.lt
     go_wp2_with (first | (at_builtin;refine wpList_push rfl _ _ 37 rfl (w.heap.size + 3) 171 (.agg #[.int .i64 0,.int .i64 0,.int .u64 0,.int .u64 0,.int .i64 0]) 5 40 Tryz.underlying37 info_op rfl (by decide) _ 0 [] ga OWN.out HVO (.slice A4 n4 kc4) s.ops.length hi (flatC s.ops) (H.out.f4.grown (But.fresh G Q (fun i hi => hi.1))) (flatC_len _) (flatC_one _) (by omega) (by decide) (by omega) rfl rfl ?_) | fail)
     intro v3 w3 g3 OWN3 hv3 hg3 q3
     try simp only [Nat.zero_add,List.nil_append] at OWN3
     have nnb:gn ≠ g3:=by omega
     have nmb:gm ≠ g3:=by omega
     have ncb:gc ≠ g3:=by omega
     have hwb:w1.heap.size ≤ g3:=by have:=Q.2.2;omega
     have hbb:w.heap.size + 3 ≤ g3:=by omega
     have LO3:g3 < w3.heap.size:=(OWN3.lt g3 hv3).2
     replace B3:=Lib.hid (B3.out.but q3 (show ¬ w.heap.size = ga by omega))
     replace B5:=Lib.hid (B5.out.but q3 (show ¬ w.heap.size + 1 = ga by omega))
     replace B6:=Lib.hid (B6.out.but q3 (show ¬ w.heap.size + 1 + 1 = ga by omega))
     replace Pn:=Lib.hid (Pn.out.but q3 (show ¬ gn = ga by omega))
     replace Ln:=Nat.lt_of_lt_of_le Ln (q3).2.2
     replace Pm:=Lib.hid (Pm.out.but q3 (show ¬ gm = ga by omega))
     replace Lm:=Nat.lt_of_lt_of_le Lm (q3).2.2
     replace Pc:=Lib.hid (Pc.out.but q3 (show ¬ gc = ga by omega))
     replace Lc:=Nat.lt_of_lt_of_le Lc (q3).2.2
     have hq1:¬ ga < w1.heap.size:=by omega
     replace Q:=Q.over q3 hq1
     clear hq1
     replace U:=U.trans (q3.mono (fun i hi => by show i ≠ w.heap.size + 1;omega))
     clear OWN HVO LO q3 hg3 hlt hwa hba nna nma nca
     have OWN:=Lib.hid OWN3
     have HVO:=hv3
     have LO:=LO3
     clear OWN3 hv3 LO3
     go_wp2_with fail
     refine nxt_but U (plan_one ?_)
     simp only [nths,nth,List.map_nil,List.getD_cons_zero,List.getD_cons_succ]
     refine wpQuiet_nil ?_
     have hlt:=B6.out.lt
     go_wp2_with (first | (at_builtin;refine wpList_push rfl _ _ 37 rfl (w.heap.size + 3) 171 (.agg #[.int .i64 0,.int .i64 0,.int .u64 0,.int .u64 0,.int .i64 0]) 5 40 Tryz.underlying37 info_op rfl (by decide) _ s.ops.length (flatC s.ops) g3 OWN.out HVO (.slice (some ⟨gc,0,none⟩) 1 1) 1 0 [.int .i64 (op:Int),.int .i64 x.kind,.int .u64 x.key,.int .u64 x.val,.int .i64 x.lim] (Pc.out.flat (by decide) (Nat.zero_le _)) rfl (five_one op x) (by omega) (by decide) (by omega) rfl rfl ?_) | fail)
     intro v8 w8 g8 OWN8 hv8 hg8 q8
     replace B3:=Lib.hid (B3.out.but q8 (show ¬ w.heap.size = g3 by omega))
     replace B5:=Lib.hid (B5.out.but q8 (show ¬ w.heap.size + 1 = g3 by omega))
     replace B6:=Lib.hid (B6.out.but q8 (show ¬ w.heap.size + 1 + 1 = g3 by omega))
     replace Pn:=Lib.hid (Pn.out.but q8 (show ¬ gn = g3 by omega))
     replace Ln:=Nat.lt_of_lt_of_le Ln (q8).2.2
     replace Pm:=Lib.hid (Pm.out.but q8 (show ¬ gm = g3 by omega))
     replace Lm:=Nat.lt_of_lt_of_le Lm (q8).2.2
     replace Pc:=Lib.hid (Pc.out.but q8 (show ¬ gc = g3 by omega))
     replace Lc:=Nat.lt_of_lt_of_le Lc (q8).2.2
     have hq1:¬ g3 < w1.heap.size:=by omega
     replace Q:=Q.over q8 hq1
     clear hq1
     replace U:=U.trans (q8.mono (fun i hi => by show i ≠ w.heap.size + 1;omega))
     clear OWN HVO LO q8 hlt hwb hbb nnb nmb ncb
     obtain ⟨gz,kz,rfl,hbz,PZ⟩:=(FlatAt.of_own OWN8 (by omega)).some (by omega)
     have Pz:Hid (RowIn w8 gz (flatC s.ops ++ [.int .i64 (op:Int),.int .i64 x.kind,.int .u64 x.key,.int .u64 x.val,.int .i64 x.lim])):=Lib.hid PZ
     have Lz:=Pz.out.lt (by simp)
     clear PZ OWN8 hv8 hg8
     clear Pc Lc hbc
     go_wp2_with fail
     refine nxt_but U (plan_one ?_)
     simp only [nths,nth,List.map_cons,List.map_nil,List.getD_cons_zero,List.getD_cons_succ]
     repeat go_big_quiet_step (fail)
     refine wpQuiet_nil ?_
     have b8:=B3.out.cell 8 _ rfl
     have qb8:=B3.out.free 8
     go_wp2_with fail
     clear b8 qb8
     have U9:=U.setCell (a:=⟨w.heap.size,8,none⟩) (.inl (show w.heap.size ≠ w.heap.size + 1 by omega)) (.slice (some ⟨gz,0,none⟩) (s.ops.length + 1) kz)
     have kv5:But (Bx w.heap.size 3) w8 (w8.setCell ⟨w.heap.size,8,none⟩ (.slice (some ⟨gz,0,none⟩) (s.ops.length + 1) kz)):=(But.refl _ _).setCell (.inl ⟨Nat.le_refl _,by show w.heap.size < w.heap.size + 3;omega⟩) _
     replace B3:=Lib.hid (B3.out.set (j:=8) (by simp) (.slice (some ⟨gz,0,none⟩) (s.ops.length + 1) kz))
     simp only [List.set_cons_succ,List.set_cons_zero] at B3
     replace B5:=Lib.hid (B5.out.put (a:=⟨w.heap.size,8,none⟩) (by show w.heap.size ≠ w.heap.size + 1;omega) (.slice (some ⟨gz,0,none⟩) (s.ops.length + 1) kz))
     replace B6:=Lib.hid (B6.out.put (a:=⟨w.heap.size,8,none⟩) (by show w.heap.size ≠ w.heap.size + 1 + 1;omega) (.slice (some ⟨gz,0,none⟩) (s.ops.length + 1) kz))
     replace Pn:=Lib.hid (Pn.out.but kv5 (bx_not (by omega)))
     replace Ln:=Nat.lt_of_lt_of_le Ln kv5.2.2
     replace Pm:=Lib.hid (Pm.out.but kv5 (bx_not (by omega)))
     replace Lm:=Nat.lt_of_lt_of_le Lm kv5.2.2
     replace Pz:=Lib.hid (Pz.out.but kv5 (bx_not (by omega)))
     replace Lz:=Nat.lt_of_lt_of_le Lz kv5.2.2
     replace Q:=Q.trans kv5
     generalize w8.setCell ⟨w.heap.size,8,none⟩ (.slice (some ⟨gz,0,none⟩) (s.ops.length + 1) kz) = v5 at *
     refine nxt_but U9 (plan_fin ?_)
     clear U9 kv5
     simp only [nths,List.map_nil]
     refine wpQuiet_nil ?_
     go_wp2_with fail
     go_meet
     case rel => exact ⟨gz,kz,B3,B6,Q,hbz,Pz,Pn,Pm⟩
   ·go_wp2_with fail
    have kv4:Grown v3 (v3.alloc (.cells #[.int .i64 (op:Int),.int .i64 x.kind,.int .u64 x.key,.int .u64 x.val,.int .i64 x.lim] 171)):=by go_grown
    have hlt:=B6.out.lt
    have PC:Hid (RowIn (v3.alloc (.cells #[.int .i64 (op:Int),.int .i64 x.kind,.int .u64 x.key,.int .u64 x.val,.int .i64 x.lim] 171)) v3.heap.size [.int .i64 (op:Int),.int .i64 x.kind,.int .u64 x.key,.int .u64 x.val,.int .i64 x.lim]):=Lib.hid (RowIn.made _ _ _)
    have LC:v3.heap.size < (v3.alloc (.cells #[.int .i64 (op:Int),.int .i64 x.kind,.int .u64 x.key,.int .u64 x.val,.int .i64 x.lim] 171)).heap.size:=by simp
    have hbc:w.heap.size + 3 ≤ v3.heap.size:=by omega
    have nca:v3.heap.size ≠ ga:=by omega
    obtain ⟨gc,hgc⟩:∃ q,v3.heap.size = q:=⟨_,rfl⟩
    rw [hgc] at PC LC hbc nca ⊢
    clear hgc
    generalize v3.alloc (.cells #[.int .i64 (op:Int),.int .i64 x.kind,.int .u64 x.key,.int .u64 x.val,.int .i64 x.lim] 171) = v4 at *
    replace B3:=Lib.hid (B3.out.grown kv4)
    replace B5:=Lib.hid (B5.out.grown kv4)
    replace B6:=Lib.hid (B6.out.grown kv4)
    replace Pn:=Lib.hid (Pn.out.grown kv4)
    replace Ln:=Nat.lt_of_lt_of_le Ln (kv4).2.2
    replace Pm:=Lib.hid (Pm.out.grown kv4)
    replace Lm:=Nat.lt_of_lt_of_le Lm (kv4).2.2
    replace OWN:=Lib.hid (own_but OWN.out HVO (S:=fun _ => False) kv4 (fun f => f))
    replace LO:=Nat.lt_of_lt_of_le LO (kv4).2.2
    replace U:=U.trans (But.of_grown kv4)
    replace Q:=Q.trans (But.of_grown kv4)
    have Pc:=PC;have Lc:=LC;clear PC LC kv4 hlt
    refine nxt_but U (plan_one ?_)
    simp only [nths,nth,List.map_nil,List.getD_cons_zero,List.getD_cons_succ]
    refine wpQuiet_nil ?_
    have b8:=B3.out.cell 8 _ rfl
    go_wp2_with fail
    clear b8
    refine nxt_but U (plan_one ?_)
    simp only [nths,nth,List.map_nil,List.getD_cons_zero,List.getD_cons_succ]
    refine wpQuiet_nil ?_
    have hlt:=B6.out.lt
    go_wp2_with (first | (at_builtin;refine wpList_push rfl _ _ 37 rfl (w.heap.size + 3) 171 (.agg #[.int .i64 0,.int .i64 0,.int .u64 0,.int .u64 0,.int .i64 0]) 5 40 Tryz.underlying37 info_op rfl (by decide) _ 0 [] ga OWN.out HVO (.slice A4 n4 kc4) s.ops.length hi (flatC s.ops) (H.out.f4.grown (But.fresh G Q (fun i hi => hi.1))) (flatC_len _) (flatC_one _) (by omega) (by decide) (by omega) rfl rfl ?_) | fail)
    intro v3 w3 g3 OWN3 hv3 hg3 q3
    try simp only [Nat.zero_add,List.nil_append] at OWN3
    have nnb:gn ≠ g3:=by omega
    have nmb:gm ≠ g3:=by omega
    have ncb:gc ≠ g3:=by omega
    have hwb:w1.heap.size ≤ g3:=by have:=Q.2.2;omega
    have hbb:w.heap.size + 3 ≤ g3:=by omega
    have LO3:g3 < w3.heap.size:=(OWN3.lt g3 hv3).2
    replace B3:=Lib.hid (B3.out.but q3 (show ¬ w.heap.size = ga by omega))
    replace B5:=Lib.hid (B5.out.but q3 (show ¬ w.heap.size + 1 = ga by omega))
    replace B6:=Lib.hid (B6.out.but q3 (show ¬ w.heap.size + 1 + 1 = ga by omega))
    replace Pn:=Lib.hid (Pn.out.but q3 (show ¬ gn = ga by omega))
    replace Ln:=Nat.lt_of_lt_of_le Ln (q3).2.2
    replace Pm:=Lib.hid (Pm.out.but q3 (show ¬ gm = ga by omega))
    replace Lm:=Nat.lt_of_lt_of_le Lm (q3).2.2
    replace Pc:=Lib.hid (Pc.out.but q3 (show ¬ gc = ga by omega))
    replace Lc:=Nat.lt_of_lt_of_le Lc (q3).2.2
    have hq1:¬ ga < w1.heap.size:=by omega
    replace Q:=Q.over q3 hq1
    clear hq1
    replace U:=U.trans (q3.mono (fun i hi => by show i ≠ w.heap.size + 1;omega))
    clear OWN HVO LO q3 hg3 hlt hwa hba nna nma nca
    have OWN:=Lib.hid OWN3
    have HVO:=hv3
    have LO:=LO3
    clear OWN3 hv3 LO3
    go_wp2_with fail
    refine nxt_but U (plan_one ?_)
    simp only [nths,nth,List.map_nil,List.getD_cons_zero,List.getD_cons_succ]
    refine wpQuiet_nil ?_
    have hlt:=B6.out.lt
    go_wp2_with (first | (at_builtin;refine wpList_push rfl _ _ 37 rfl (w.heap.size + 3) 171 (.agg #[.int .i64 0,.int .i64 0,.int .u64 0,.int .u64 0,.int .i64 0]) 5 40 Tryz.underlying37 info_op rfl (by decide) _ s.ops.length (flatC s.ops) g3 OWN.out HVO (.slice (some ⟨gc,0,none⟩) 1 1) 1 0 [.int .i64 (op:Int),.int .i64 x.kind,.int .u64 x.key,.int .u64 x.val,.int .i64 x.lim] (Pc.out.flat (by decide) (Nat.zero_le _)) rfl (five_one op x) (by omega) (by decide) (by omega) rfl rfl ?_) | fail)
    intro v8 w8 g8 OWN8 hv8 hg8 q8
    replace B3:=Lib.hid (B3.out.but q8 (show ¬ w.heap.size = g3 by omega))
    replace B5:=Lib.hid (B5.out.but q8 (show ¬ w.heap.size + 1 = g3 by omega))
    replace B6:=Lib.hid (B6.out.but q8 (show ¬ w.heap.size + 1 + 1 = g3 by omega))
    replace Pn:=Lib.hid (Pn.out.but q8 (show ¬ gn = g3 by omega))
    replace Ln:=Nat.lt_of_lt_of_le Ln (q8).2.2
    replace Pm:=Lib.hid (Pm.out.but q8 (show ¬ gm = g3 by omega))
    replace Lm:=Nat.lt_of_lt_of_le Lm (q8).2.2
    replace Pc:=Lib.hid (Pc.out.but q8 (show ¬ gc = g3 by omega))
    replace Lc:=Nat.lt_of_lt_of_le Lc (q8).2.2
    have hq1:¬ g3 < w1.heap.size:=by omega
    replace Q:=Q.over q8 hq1
    clear hq1
    replace U:=U.trans (q8.mono (fun i hi => by show i ≠ w.heap.size + 1;omega))
    clear OWN HVO LO q8 hlt hwb hbb nnb nmb ncb
    obtain ⟨gz,kz,rfl,hbz,PZ⟩:=(FlatAt.of_own OWN8 (by omega)).some (by omega)
    have Pz:Hid (RowIn w8 gz (flatC s.ops ++ [.int .i64 (op:Int),.int .i64 x.kind,.int .u64 x.key,.int .u64 x.val,.int .i64 x.lim])):=Lib.hid PZ
    have Lz:=Pz.out.lt (by simp)
    clear PZ OWN8 hv8 hg8
    clear Pc Lc hbc
    go_wp2_with fail
    refine nxt_but U (plan_one ?_)
    simp only [nths,nth,List.map_cons,List.map_nil,List.getD_cons_zero,List.getD_cons_succ]
    repeat go_big_quiet_step (fail)
    refine wpQuiet_nil ?_
    have b8:=B3.out.cell 8 _ rfl
    have qb8:=B3.out.free 8
    go_wp2_with fail
    clear b8 qb8
    have U9:=U.setCell (a:=⟨w.heap.size,8,none⟩) (.inl (show w.heap.size ≠ w.heap.size + 1 by omega)) (.slice (some ⟨gz,0,none⟩) (s.ops.length + 1) kz)
    have kv5:But (Bx w.heap.size 3) w8 (w8.setCell ⟨w.heap.size,8,none⟩ (.slice (some ⟨gz,0,none⟩) (s.ops.length + 1) kz)):=(But.refl _ _).setCell (.inl ⟨Nat.le_refl _,by show w.heap.size < w.heap.size + 3;omega⟩) _
    replace B3:=Lib.hid (B3.out.set (j:=8) (by simp) (.slice (some ⟨gz,0,none⟩) (s.ops.length + 1) kz))
    simp only [List.set_cons_succ,List.set_cons_zero] at B3
    replace B5:=Lib.hid (B5.out.put (a:=⟨w.heap.size,8,none⟩) (by show w.heap.size ≠ w.heap.size + 1;omega) (.slice (some ⟨gz,0,none⟩) (s.ops.length + 1) kz))
    replace B6:=Lib.hid (B6.out.put (a:=⟨w.heap.size,8,none⟩) (by show w.heap.size ≠ w.heap.size + 1 + 1;omega) (.slice (some ⟨gz,0,none⟩) (s.ops.length + 1) kz))
    replace Pn:=Lib.hid (Pn.out.but kv5 (bx_not (by omega)))
    replace Ln:=Nat.lt_of_lt_of_le Ln kv5.2.2
    replace Pm:=Lib.hid (Pm.out.but kv5 (bx_not (by omega)))
    replace Lm:=Nat.lt_of_lt_of_le Lm kv5.2.2
    replace Pz:=Lib.hid (Pz.out.but kv5 (bx_not (by omega)))
    replace Lz:=Nat.lt_of_lt_of_le Lz kv5.2.2
    replace Q:=Q.trans kv5
    generalize w8.setCell ⟨w.heap.size,8,none⟩ (.slice (some ⟨gz,0,none⟩) (s.ops.length + 1) kz) = v5 at *
    refine nxt_but U9 (plan_fin ?_)
    clear U9 kv5
    simp only [nths,List.map_nil]
    refine wpQuiet_nil ?_
    go_wp2_with fail
    go_meet
    case rel => exact ⟨gz,kz,B3,B6,Q,hbz,Pz,Pn,Pm⟩
  ·have b8:=B3.out.cell 8 _ rfl
   go_wp2_with fail
   clear b8
   refine nxt_but U (plan_two ?_)
   simp only [nths,nth,List.map_nil,List.getD_cons_zero,List.getD_cons_succ]
   refine wpQuiet_nil ⟨?_,?_⟩
   ·go_wp2_with fail
    have kv3:Grown wp (wp.alloc (.cells #[] 171)):=by go_grown
    have hlt:=B6.out.lt
    have OWN:(wp.alloc (.cells #[] 171)).ownsRow (w.heap.size + 3) 171 5 (.slice (some ⟨wp.heap.size,0,none⟩) 0 0) 0 []:=own_made (by omega)
    have LO:wp.heap.size < (wp.alloc (.cells #[] 171)).heap.size:=by simp
    have hwa:w1.heap.size ≤ wp.heap.size:=Q.2.2
    have hba:w.heap.size + 3 ≤ wp.heap.size:=by omega
    have nna:gn ≠ wp.heap.size:=by omega
    have nma:gm ≠ wp.heap.size:=by omega
    obtain ⟨ga,hga⟩:∃ q,wp.heap.size = q:=⟨_,rfl⟩
    rw [hga] at OWN LO hwa hba nna nma ⊢
    clear hga
    generalize wp.alloc (.cells #[] 171) = v3 at *
    replace OWN:=Lib.hid OWN
    have HVO:(Value.slice (some ⟨ga,0,none⟩) 0 0).ownBlock = some ga:=rfl
    replace B3:=Lib.hid (B3.out.grown kv3)
    replace B5:=Lib.hid (B5.out.grown kv3)
    replace B6:=Lib.hid (B6.out.grown kv3)
    replace Pn:=Lib.hid (Pn.out.grown kv3)
    replace Ln:=Nat.lt_of_lt_of_le Ln (kv3).2.2
    replace Pm:=Lib.hid (Pm.out.grown kv3)
    replace Lm:=Nat.lt_of_lt_of_le Lm (kv3).2.2
    replace U:=U.trans (But.of_grown kv3)
    replace Q:=Q.trans (But.of_grown kv3)
    clear kv3 hlt
    refine nxt_but U (plan_two ?_)
    simp only [nths,nth,List.map_nil,List.getD_cons_zero,List.getD_cons_succ]
    refine wpQuiet_nil ⟨?_,?_⟩
    ·have hlt:=B6.out.lt
     go_wp2_with (first | (at_builtin;refine wpList_push rfl _ _ 37 rfl (w.heap.size + 3) 171 (.agg #[.int .i64 0,.int .i64 0,.int .u64 0,.int .u64 0,.int .i64 0]) 5 40 Tryz.underlying37 info_op rfl (by decide) _ 0 [] ga OWN.out HVO (.slice A4 n4 kc4) s.ops.length hi (flatC s.ops) (H.out.f4.grown (But.fresh G Q (fun i hi => hi.1))) (flatC_len _) (flatC_one _) (by omega) (by decide) (by omega) rfl rfl ?_) | fail)
     intro v3 w3 g3 OWN3 hv3 hg3 q3
     try simp only [Nat.zero_add,List.nil_append] at OWN3
     have nnb:gn ≠ g3:=by omega
     have nmb:gm ≠ g3:=by omega
     have hwb:w1.heap.size ≤ g3:=by have:=Q.2.2;omega
     have hbb:w.heap.size + 3 ≤ g3:=by omega
     have LO3:g3 < w3.heap.size:=(OWN3.lt g3 hv3).2
     replace B3:=Lib.hid (B3.out.but q3 (show ¬ w.heap.size = ga by omega))
     replace B5:=Lib.hid (B5.out.but q3 (show ¬ w.heap.size + 1 = ga by omega))
     replace B6:=Lib.hid (B6.out.but q3 (show ¬ w.heap.size + 1 + 1 = ga by omega))
     replace Pn:=Lib.hid (Pn.out.but q3 (show ¬ gn = ga by omega))
     replace Ln:=Nat.lt_of_lt_of_le Ln (q3).2.2
     replace Pm:=Lib.hid (Pm.out.but q3 (show ¬ gm = ga by omega))
     replace Lm:=Nat.lt_of_lt_of_le Lm (q3).2.2
     have hq1:¬ ga < w1.heap.size:=by omega
     replace Q:=Q.over q3 hq1
     clear hq1
     replace U:=U.trans (q3.mono (fun i hi => by show i ≠ w.heap.size + 1;omega))
     clear OWN HVO LO q3 hg3 hlt hwa hba nna nma
     have OWN:=Lib.hid OWN3
     have HVO:=hv3
     have LO:=LO3
     clear OWN3 hv3 LO3
     go_wp2_with fail
     refine nxt_but U (plan_one ?_)
     simp only [nths,nth,List.map_nil,List.getD_cons_zero,List.getD_cons_succ]
     refine wpQuiet_nil ?_
     go_wp2_with fail
     have kv4:Grown w3 (w3.alloc (.cells #[.int .i64 (op:Int),.int .i64 x.kind,.int .u64 x.key,.int .u64 x.val,.int .i64 x.lim] 171)):=by go_grown
     have hlt:=B6.out.lt
     have PC:Hid (RowIn (w3.alloc (.cells #[.int .i64 (op:Int),.int .i64 x.kind,.int .u64 x.key,.int .u64 x.val,.int .i64 x.lim] 171)) w3.heap.size [.int .i64 (op:Int),.int .i64 x.kind,.int .u64 x.key,.int .u64 x.val,.int .i64 x.lim]):=Lib.hid (RowIn.made _ _ _)
     have LC:w3.heap.size < (w3.alloc (.cells #[.int .i64 (op:Int),.int .i64 x.kind,.int .u64 x.key,.int .u64 x.val,.int .i64 x.lim] 171)).heap.size:=by simp
     have hbc:w.heap.size + 3 ≤ w3.heap.size:=by omega
     have ncb:w3.heap.size ≠ g3:=by omega
     obtain ⟨gc,hgc⟩:∃ q,w3.heap.size = q:=⟨_,rfl⟩
     rw [hgc] at PC LC hbc ncb ⊢
     clear hgc
     generalize w3.alloc (.cells #[.int .i64 (op:Int),.int .i64 x.kind,.int .u64 x.key,.int .u64 x.val,.int .i64 x.lim] 171) = v4 at *
     replace B3:=Lib.hid (B3.out.grown kv4)
     replace B5:=Lib.hid (B5.out.grown kv4)
     replace B6:=Lib.hid (B6.out.grown kv4)
     replace Pn:=Lib.hid (Pn.out.grown kv4)
     replace Ln:=Nat.lt_of_lt_of_le Ln (kv4).2.2
     replace Pm:=Lib.hid (Pm.out.grown kv4)
     replace Lm:=Nat.lt_of_lt_of_le Lm (kv4).2.2
     replace OWN:=Lib.hid (own_but OWN.out HVO (S:=fun _ => False) kv4 (fun f => f))
     replace LO:=Nat.lt_of_lt_of_le LO (kv4).2.2
     replace U:=U.trans (But.of_grown kv4)
     replace Q:=Q.trans (But.of_grown kv4)
     have Pc:=PC;have Lc:=LC;clear PC LC kv4 hlt
     refine nxt_but U (plan_one ?_)
     simp only [nths,nth,List.map_nil,List.getD_cons_zero,List.getD_cons_succ]
     refine wpQuiet_nil ?_
     have hlt:=B6.out.lt
     go_wp2_with (first | (at_builtin;refine wpList_push rfl _ _ 37 rfl (w.heap.size + 3) 171 (.agg #[.int .i64 0,.int .i64 0,.int .u64 0,.int .u64 0,.int .i64 0]) 5 40 Tryz.underlying37 info_op rfl (by decide) _ s.ops.length (flatC s.ops) g3 OWN.out HVO (.slice (some ⟨gc,0,none⟩) 1 1) 1 0 [.int .i64 (op:Int),.int .i64 x.kind,.int .u64 x.key,.int .u64 x.val,.int .i64 x.lim] (Pc.out.flat (by decide) (Nat.zero_le _)) rfl (five_one op x) (by omega) (by decide) (by omega) rfl rfl ?_) | fail)
     intro v8 w8 g8 OWN8 hv8 hg8 q8
     replace B3:=Lib.hid (B3.out.but q8 (show ¬ w.heap.size = g3 by omega))
     replace B5:=Lib.hid (B5.out.but q8 (show ¬ w.heap.size + 1 = g3 by omega))
     replace B6:=Lib.hid (B6.out.but q8 (show ¬ w.heap.size + 1 + 1 = g3 by omega))
     replace Pn:=Lib.hid (Pn.out.but q8 (show ¬ gn = g3 by omega))
     replace Ln:=Nat.lt_of_lt_of_le Ln (q8).2.2
     replace Pm:=Lib.hid (Pm.out.but q8 (show ¬ gm = g3 by omega))
     replace Lm:=Nat.lt_of_lt_of_le Lm (q8).2.2
     replace Pc:=Lib.hid (Pc.out.but q8 (show ¬ gc = g3 by omega))
     replace Lc:=Nat.lt_of_lt_of_le Lc (q8).2.2
     have hq1:¬ g3 < w1.heap.size:=by omega
     replace Q:=Q.over q8 hq1
     clear hq1
     replace U:=U.trans (q8.mono (fun i hi => by show i ≠ w.heap.size + 1;omega))
     clear OWN HVO LO q8 hlt hwb hbb nnb nmb ncb
     obtain ⟨gz,kz,rfl,hbz,PZ⟩:=(FlatAt.of_own OWN8 (by omega)).some (by omega)
     have Pz:Hid (RowIn w8 gz (flatC s.ops ++ [.int .i64 (op:Int),.int .i64 x.kind,.int .u64 x.key,.int .u64 x.val,.int .i64 x.lim])):=Lib.hid PZ
     have Lz:=Pz.out.lt (by simp)
     clear PZ OWN8 hv8 hg8
     clear Pc Lc hbc
     go_wp2_with fail
     refine nxt_but U (plan_one ?_)
     simp only [nths,nth,List.map_cons,List.map_nil,List.getD_cons_zero,List.getD_cons_succ]
     repeat go_big_quiet_step (fail)
     refine wpQuiet_nil ?_
     have b8:=B3.out.cell 8 _ rfl
     have qb8:=B3.out.free 8
     go_wp2_with fail
     clear b8 qb8
     have U9:=U.setCell (a:=⟨w.heap.size,8,none⟩) (.inl (show w.heap.size ≠ w.heap.size + 1 by omega)) (.slice (some ⟨gz,0,none⟩) (s.ops.length + 1) kz)
     have kv5:But (Bx w.heap.size 3) w8 (w8.setCell ⟨w.heap.size,8,none⟩ (.slice (some ⟨gz,0,none⟩) (s.ops.length + 1) kz)):=(But.refl _ _).setCell (.inl ⟨Nat.le_refl _,by show w.heap.size < w.heap.size + 3;omega⟩) _
     replace B3:=Lib.hid (B3.out.set (j:=8) (by simp) (.slice (some ⟨gz,0,none⟩) (s.ops.length + 1) kz))
     simp only [List.set_cons_succ,List.set_cons_zero] at B3
     replace B5:=Lib.hid (B5.out.put (a:=⟨w.heap.size,8,none⟩) (by show w.heap.size ≠ w.heap.size + 1;omega) (.slice (some ⟨gz,0,none⟩) (s.ops.length + 1) kz))
     replace B6:=Lib.hid (B6.out.put (a:=⟨w.heap.size,8,none⟩) (by show w.heap.size ≠ w.heap.size + 1 + 1;omega) (.slice (some ⟨gz,0,none⟩) (s.ops.length + 1) kz))
     replace Pn:=Lib.hid (Pn.out.but kv5 (bx_not (by omega)))
     replace Ln:=Nat.lt_of_lt_of_le Ln kv5.2.2
     replace Pm:=Lib.hid (Pm.out.but kv5 (bx_not (by omega)))
     replace Lm:=Nat.lt_of_lt_of_le Lm kv5.2.2
     replace Pz:=Lib.hid (Pz.out.but kv5 (bx_not (by omega)))
     replace Lz:=Nat.lt_of_lt_of_le Lz kv5.2.2
     replace Q:=Q.trans kv5
     generalize w8.setCell ⟨w.heap.size,8,none⟩ (.slice (some ⟨gz,0,none⟩) (s.ops.length + 1) kz) = v5 at *
     refine nxt_but U9 (plan_fin ?_)
     clear U9 kv5
     simp only [nths,List.map_nil]
     refine wpQuiet_nil ?_
     go_wp2_with fail
     go_meet
     case rel => exact ⟨gz,kz,B3,B6,Q,hbz,Pz,Pn,Pm⟩
    ·go_wp2_with fail
     have kv4:Grown v3 (v3.alloc (.cells #[.int .i64 (op:Int),.int .i64 x.kind,.int .u64 x.key,.int .u64 x.val,.int .i64 x.lim] 171)):=by go_grown
     have hlt:=B6.out.lt
     have PC:Hid (RowIn (v3.alloc (.cells #[.int .i64 (op:Int),.int .i64 x.kind,.int .u64 x.key,.int .u64 x.val,.int .i64 x.lim] 171)) v3.heap.size [.int .i64 (op:Int),.int .i64 x.kind,.int .u64 x.key,.int .u64 x.val,.int .i64 x.lim]):=Lib.hid (RowIn.made _ _ _)
     have LC:v3.heap.size < (v3.alloc (.cells #[.int .i64 (op:Int),.int .i64 x.kind,.int .u64 x.key,.int .u64 x.val,.int .i64 x.lim] 171)).heap.size:=by simp
     have hbc:w.heap.size + 3 ≤ v3.heap.size:=by omega
     have nca:v3.heap.size ≠ ga:=by omega
     obtain ⟨gc,hgc⟩:∃ q,v3.heap.size = q:=⟨_,rfl⟩
     rw [hgc] at PC LC hbc nca ⊢
     clear hgc
     generalize v3.alloc (.cells #[.int .i64 (op:Int),.int .i64 x.kind,.int .u64 x.key,.int .u64 x.val,.int .i64 x.lim] 171) = v4 at *
     replace B3:=Lib.hid (B3.out.grown kv4)
     replace B5:=Lib.hid (B5.out.grown kv4)
     replace B6:=Lib.hid (B6.out.grown kv4)
     replace Pn:=Lib.hid (Pn.out.grown kv4)
     replace Ln:=Nat.lt_of_lt_of_le Ln (kv4).2.2
     replace Pm:=Lib.hid (Pm.out.grown kv4)
     replace Lm:=Nat.lt_of_lt_of_le Lm (kv4).2.2
     replace OWN:=Lib.hid (own_but OWN.out HVO (S:=fun _ => False) kv4 (fun f => f))
     replace LO:=Nat.lt_of_lt_of_le LO (kv4).2.2
     replace U:=U.trans (But.of_grown kv4)
     replace Q:=Q.trans (But.of_grown kv4)
     have Pc:=PC;have Lc:=LC;clear PC LC kv4 hlt
     refine nxt_but U (plan_one ?_)
     simp only [nths,nth,List.map_nil,List.getD_cons_zero,List.getD_cons_succ]
     refine wpQuiet_nil ?_
     have hlt:=B6.out.lt
     go_wp2_with (first | (at_builtin;refine wpList_push rfl _ _ 37 rfl (w.heap.size + 3) 171 (.agg #[.int .i64 0,.int .i64 0,.int .u64 0,.int .u64 0,.int .i64 0]) 5 40 Tryz.underlying37 info_op rfl (by decide) _ 0 [] ga OWN.out HVO (.slice A4 n4 kc4) s.ops.length hi (flatC s.ops) (H.out.f4.grown (But.fresh G Q (fun i hi => hi.1))) (flatC_len _) (flatC_one _) (by omega) (by decide) (by omega) rfl rfl ?_) | fail)
     intro v3 w3 g3 OWN3 hv3 hg3 q3
     try simp only [Nat.zero_add,List.nil_append] at OWN3
     have nnb:gn ≠ g3:=by omega
     have nmb:gm ≠ g3:=by omega
     have ncb:gc ≠ g3:=by omega
     have hwb:w1.heap.size ≤ g3:=by have:=Q.2.2;omega
     have hbb:w.heap.size + 3 ≤ g3:=by omega
     have LO3:g3 < w3.heap.size:=(OWN3.lt g3 hv3).2
     replace B3:=Lib.hid (B3.out.but q3 (show ¬ w.heap.size = ga by omega))
     replace B5:=Lib.hid (B5.out.but q3 (show ¬ w.heap.size + 1 = ga by omega))
     replace B6:=Lib.hid (B6.out.but q3 (show ¬ w.heap.size + 1 + 1 = ga by omega))
     replace Pn:=Lib.hid (Pn.out.but q3 (show ¬ gn = ga by omega))
     replace Ln:=Nat.lt_of_lt_of_le Ln (q3).2.2
     replace Pm:=Lib.hid (Pm.out.but q3 (show ¬ gm = ga by omega))
     replace Lm:=Nat.lt_of_lt_of_le Lm (q3).2.2
     replace Pc:=Lib.hid (Pc.out.but q3 (show ¬ gc = ga by omega))
     replace Lc:=Nat.lt_of_lt_of_le Lc (q3).2.2
     have hq1:¬ ga < w1.heap.size:=by omega
     replace Q:=Q.over q3 hq1
     clear hq1
     replace U:=U.trans (q3.mono (fun i hi => by show i ≠ w.heap.size + 1;omega))
     clear OWN HVO LO q3 hg3 hlt hwa hba nna nma nca
     have OWN:=Lib.hid OWN3
     have HVO:=hv3
     have LO:=LO3
     clear OWN3 hv3 LO3
     go_wp2_with fail
     refine nxt_but U (plan_one ?_)
     simp only [nths,nth,List.map_nil,List.getD_cons_zero,List.getD_cons_succ]
     refine wpQuiet_nil ?_
     have hlt:=B6.out.lt
     go_wp2_with (first | (at_builtin;refine wpList_push rfl _ _ 37 rfl (w.heap.size + 3) 171 (.agg #[.int .i64 0,.int .i64 0,.int .u64 0,.int .u64 0,.int .i64 0]) 5 40 Tryz.underlying37 info_op rfl (by decide) _ s.ops.length (flatC s.ops) g3 OWN.out HVO (.slice (some ⟨gc,0,none⟩) 1 1) 1 0 [.int .i64 (op:Int),.int .i64 x.kind,.int .u64 x.key,.int .u64 x.val,.int .i64 x.lim] (Pc.out.flat (by decide) (Nat.zero_le _)) rfl (five_one op x) (by omega) (by decide) (by omega) rfl rfl ?_) | fail)
     intro v8 w8 g8 OWN8 hv8 hg8 q8
     replace B3:=Lib.hid (B3.out.but q8 (show ¬ w.heap.size = g3 by omega))
     replace B5:=Lib.hid (B5.out.but q8 (show ¬ w.heap.size + 1 = g3 by omega))
     replace B6:=Lib.hid (B6.out.but q8 (show ¬ w.heap.size + 1 + 1 = g3 by omega))
     replace Pn:=Lib.hid (Pn.out.but q8 (show ¬ gn = g3 by omega))
     replace Ln:=Nat.lt_of_lt_of_le Ln (q8).2.2
     replace Pm:=Lib.hid (Pm.out.but q8 (show ¬ gm = g3 by omega))
     replace Lm:=Nat.lt_of_lt_of_le Lm (q8).2.2
     replace Pc:=Lib.hid (Pc.out.but q8 (show ¬ gc = g3 by omega))
     replace Lc:=Nat.lt_of_lt_of_le Lc (q8).2.2
     have hq1:¬ g3 < w1.heap.size:=by omega
     replace Q:=Q.over q8 hq1
     clear hq1
     replace U:=U.trans (q8.mono (fun i hi => by show i ≠ w.heap.size + 1;omega))
     clear OWN HVO LO q8 hlt hwb hbb nnb nmb ncb
     obtain ⟨gz,kz,rfl,hbz,PZ⟩:=(FlatAt.of_own OWN8 (by omega)).some (by omega)
     have Pz:Hid (RowIn w8 gz (flatC s.ops ++ [.int .i64 (op:Int),.int .i64 x.kind,.int .u64 x.key,.int .u64 x.val,.int .i64 x.lim])):=Lib.hid PZ
     have Lz:=Pz.out.lt (by simp)
     clear PZ OWN8 hv8 hg8
     clear Pc Lc hbc
     go_wp2_with fail
     refine nxt_but U (plan_one ?_)
     simp only [nths,nth,List.map_cons,List.map_nil,List.getD_cons_zero,List.getD_cons_succ]
     repeat go_big_quiet_step (fail)
     refine wpQuiet_nil ?_
     have b8:=B3.out.cell 8 _ rfl
     have qb8:=B3.out.free 8
     go_wp2_with fail
     clear b8 qb8
     have U9:=U.setCell (a:=⟨w.heap.size,8,none⟩) (.inl (show w.heap.size ≠ w.heap.size + 1 by omega)) (.slice (some ⟨gz,0,none⟩) (s.ops.length + 1) kz)
     have kv5:But (Bx w.heap.size 3) w8 (w8.setCell ⟨w.heap.size,8,none⟩ (.slice (some ⟨gz,0,none⟩) (s.ops.length + 1) kz)):=(But.refl _ _).setCell (.inl ⟨Nat.le_refl _,by show w.heap.size < w.heap.size + 3;omega⟩) _
     replace B3:=Lib.hid (B3.out.set (j:=8) (by simp) (.slice (some ⟨gz,0,none⟩) (s.ops.length + 1) kz))
     simp only [List.set_cons_succ,List.set_cons_zero] at B3
     replace B5:=Lib.hid (B5.out.put (a:=⟨w.heap.size,8,none⟩) (by show w.heap.size ≠ w.heap.size + 1;omega) (.slice (some ⟨gz,0,none⟩) (s.ops.length + 1) kz))
     replace B6:=Lib.hid (B6.out.put (a:=⟨w.heap.size,8,none⟩) (by show w.heap.size ≠ w.heap.size + 1 + 1;omega) (.slice (some ⟨gz,0,none⟩) (s.ops.length + 1) kz))
     replace Pn:=Lib.hid (Pn.out.but kv5 (bx_not (by omega)))
     replace Ln:=Nat.lt_of_lt_of_le Ln kv5.2.2
     replace Pm:=Lib.hid (Pm.out.but kv5 (bx_not (by omega)))
     replace Lm:=Nat.lt_of_lt_of_le Lm kv5.2.2
     replace Pz:=Lib.hid (Pz.out.but kv5 (bx_not (by omega)))
     replace Lz:=Nat.lt_of_lt_of_le Lz kv5.2.2
     replace Q:=Q.trans kv5
     generalize w8.setCell ⟨w.heap.size,8,none⟩ (.slice (some ⟨gz,0,none⟩) (s.ops.length + 1) kz) = v5 at *
     refine nxt_but U9 (plan_fin ?_)
     clear U9 kv5
     simp only [nths,List.map_nil]
     refine wpQuiet_nil ?_
     go_wp2_with fail
     go_meet
     case rel => exact ⟨gz,kz,B3,B6,Q,hbz,Pz,Pn,Pm⟩
   ·go_wp2_with fail
    have kv3:Grown wp (wp.alloc (.cells #[.int .i64 (op:Int),.int .i64 x.kind,.int .u64 x.key,.int .u64 x.val,.int .i64 x.lim] 171)):=by go_grown
    have hlt:=B6.out.lt
    have PC:Hid (RowIn (wp.alloc (.cells #[.int .i64 (op:Int),.int .i64 x.kind,.int .u64 x.key,.int .u64 x.val,.int .i64 x.lim] 171)) wp.heap.size [.int .i64 (op:Int),.int .i64 x.kind,.int .u64 x.key,.int .u64 x.val,.int .i64 x.lim]):=Lib.hid (RowIn.made _ _ _)
    have LC:wp.heap.size < (wp.alloc (.cells #[.int .i64 (op:Int),.int .i64 x.kind,.int .u64 x.key,.int .u64 x.val,.int .i64 x.lim] 171)).heap.size:=by simp
    have hbc:w.heap.size + 3 ≤ wp.heap.size:=by omega
    obtain ⟨gc,hgc⟩:∃ q,wp.heap.size = q:=⟨_,rfl⟩
    rw [hgc] at PC LC hbc  ⊢
    clear hgc
    generalize wp.alloc (.cells #[.int .i64 (op:Int),.int .i64 x.kind,.int .u64 x.key,.int .u64 x.val,.int .i64 x.lim] 171) = v3 at *
    replace B3:=Lib.hid (B3.out.grown kv3)
    replace B5:=Lib.hid (B5.out.grown kv3)
    replace B6:=Lib.hid (B6.out.grown kv3)
    replace Pn:=Lib.hid (Pn.out.grown kv3)
    replace Ln:=Nat.lt_of_lt_of_le Ln (kv3).2.2
    replace Pm:=Lib.hid (Pm.out.grown kv3)
    replace Lm:=Nat.lt_of_lt_of_le Lm (kv3).2.2
    replace U:=U.trans (But.of_grown kv3)
    replace Q:=Q.trans (But.of_grown kv3)
    have Pc:=PC;have Lc:=LC;clear PC LC kv3 hlt
    refine nxt_but U (plan_one ?_)
    simp only [nths,nth,List.map_nil,List.getD_cons_zero]
    refine wpQuiet_nil ?_
    go_wp2_with fail
    have kv4:Grown v3 (v3.alloc (.cells #[] 171)):=by go_grown
    have hlt:=B6.out.lt
    have OWN:(v3.alloc (.cells #[] 171)).ownsRow (w.heap.size + 3) 171 5 (.slice (some ⟨v3.heap.size,0,none⟩) 0 0) 0 []:=own_made (by omega)
    have LO:v3.heap.size < (v3.alloc (.cells #[] 171)).heap.size:=by simp
    have hwa:w1.heap.size ≤ v3.heap.size:=Q.2.2
    have hba:w.heap.size + 3 ≤ v3.heap.size:=by omega
    have nna:gn ≠ v3.heap.size:=by omega
    have nma:gm ≠ v3.heap.size:=by omega
    have nca:gc ≠ v3.heap.size:=by omega
    obtain ⟨ga,hga⟩:∃ q,v3.heap.size = q:=⟨_,rfl⟩
    rw [hga] at OWN LO hwa hba nna nma nca ⊢
    clear hga
    generalize v3.alloc (.cells #[] 171) = v4 at *
    replace OWN:=Lib.hid OWN
    have HVO:(Value.slice (some ⟨ga,0,none⟩) 0 0).ownBlock = some ga:=rfl
    replace B3:=Lib.hid (B3.out.grown kv4)
    replace B5:=Lib.hid (B5.out.grown kv4)
    replace B6:=Lib.hid (B6.out.grown kv4)
    replace Pn:=Lib.hid (Pn.out.grown kv4)
    replace Ln:=Nat.lt_of_lt_of_le Ln (kv4).2.2
    replace Pm:=Lib.hid (Pm.out.grown kv4)
    replace Lm:=Nat.lt_of_lt_of_le Lm (kv4).2.2
    replace Pc:=Lib.hid (Pc.out.grown kv4)
    replace Lc:=Nat.lt_of_lt_of_le Lc (kv4).2.2
    replace U:=U.trans (But.of_grown kv4)
    replace Q:=Q.trans (But.of_grown kv4)
    clear kv4 hlt
    refine nxt_but U (plan_one ?_)
    simp only [nths,nth,List.map_nil,List.getD_cons_zero,List.getD_cons_succ]
    refine wpQuiet_nil ?_
    have hlt:=B6.out.lt
    go_wp2_with (first | (at_builtin;refine wpList_push rfl _ _ 37 rfl (w.heap.size + 3) 171 (.agg #[.int .i64 0,.int .i64 0,.int .u64 0,.int .u64 0,.int .i64 0]) 5 40 Tryz.underlying37 info_op rfl (by decide) _ 0 [] ga OWN.out HVO (.slice A4 n4 kc4) s.ops.length hi (flatC s.ops) (H.out.f4.grown (But.fresh G Q (fun i hi => hi.1))) (flatC_len _) (flatC_one _) (by omega) (by decide) (by omega) rfl rfl ?_) | fail)
    intro v3 w3 g3 OWN3 hv3 hg3 q3
    try simp only [Nat.zero_add,List.nil_append] at OWN3
    have nnb:gn ≠ g3:=by omega
    have nmb:gm ≠ g3:=by omega
    have ncb:gc ≠ g3:=by omega
    have hwb:w1.heap.size ≤ g3:=by have:=Q.2.2;omega
    have hbb:w.heap.size + 3 ≤ g3:=by omega
    have LO3:g3 < w3.heap.size:=(OWN3.lt g3 hv3).2
    replace B3:=Lib.hid (B3.out.but q3 (show ¬ w.heap.size = ga by omega))
    replace B5:=Lib.hid (B5.out.but q3 (show ¬ w.heap.size + 1 = ga by omega))
    replace B6:=Lib.hid (B6.out.but q3 (show ¬ w.heap.size + 1 + 1 = ga by omega))
    replace Pn:=Lib.hid (Pn.out.but q3 (show ¬ gn = ga by omega))
    replace Ln:=Nat.lt_of_lt_of_le Ln (q3).2.2
    replace Pm:=Lib.hid (Pm.out.but q3 (show ¬ gm = ga by omega))
    replace Lm:=Nat.lt_of_lt_of_le Lm (q3).2.2
    replace Pc:=Lib.hid (Pc.out.but q3 (show ¬ gc = ga by omega))
    replace Lc:=Nat.lt_of_lt_of_le Lc (q3).2.2
    have hq1:¬ ga < w1.heap.size:=by omega
    replace Q:=Q.over q3 hq1
    clear hq1
    replace U:=U.trans (q3.mono (fun i hi => by show i ≠ w.heap.size + 1;omega))
    clear OWN HVO LO q3 hg3 hlt hwa hba nna nma nca
    have OWN:=Lib.hid OWN3
    have HVO:=hv3
    have LO:=LO3
    clear OWN3 hv3 LO3
    go_wp2_with fail
    refine nxt_but U (plan_one ?_)
    simp only [nths,nth,List.map_nil,List.getD_cons_zero,List.getD_cons_succ]
    refine wpQuiet_nil ?_
    have hlt:=B6.out.lt
    go_wp2_with (first | (at_builtin;refine wpList_push rfl _ _ 37 rfl (w.heap.size + 3) 171 (.agg #[.int .i64 0,.int .i64 0,.int .u64 0,.int .u64 0,.int .i64 0]) 5 40 Tryz.underlying37 info_op rfl (by decide) _ s.ops.length (flatC s.ops) g3 OWN.out HVO (.slice (some ⟨gc,0,none⟩) 1 1) 1 0 [.int .i64 (op:Int),.int .i64 x.kind,.int .u64 x.key,.int .u64 x.val,.int .i64 x.lim] (Pc.out.flat (by decide) (Nat.zero_le _)) rfl (five_one op x) (by omega) (by decide) (by omega) rfl rfl ?_) | fail)
    intro v8 w8 g8 OWN8 hv8 hg8 q8
    replace B3:=Lib.hid (B3.out.but q8 (show ¬ w.heap.size = g3 by omega))
    replace B5:=Lib.hid (B5.out.but q8 (show ¬ w.heap.size + 1 = g3 by omega))
    replace B6:=Lib.hid (B6.out.but q8 (show ¬ w.heap.size + 1 + 1 = g3 by omega))
    replace Pn:=Lib.hid (Pn.out.but q8 (show ¬ gn = g3 by omega))
    replace Ln:=Nat.lt_of_lt_of_le Ln (q8).2.2
    replace Pm:=Lib.hid (Pm.out.but q8 (show ¬ gm = g3 by omega))
    replace Lm:=Nat.lt_of_lt_of_le Lm (q8).2.2
    replace Pc:=Lib.hid (Pc.out.but q8 (show ¬ gc = g3 by omega))
    replace Lc:=Nat.lt_of_lt_of_le Lc (q8).2.2
    have hq1:¬ g3 < w1.heap.size:=by omega
    replace Q:=Q.over q8 hq1
    clear hq1
    replace U:=U.trans (q8.mono (fun i hi => by show i ≠ w.heap.size + 1;omega))
    clear OWN HVO LO q8 hlt hwb hbb nnb nmb ncb
    obtain ⟨gz,kz,rfl,hbz,PZ⟩:=(FlatAt.of_own OWN8 (by omega)).some (by omega)
    have Pz:Hid (RowIn w8 gz (flatC s.ops ++ [.int .i64 (op:Int),.int .i64 x.kind,.int .u64 x.key,.int .u64 x.val,.int .i64 x.lim])):=Lib.hid PZ
    have Lz:=Pz.out.lt (by simp)
    clear PZ OWN8 hv8 hg8
    clear Pc Lc hbc
    go_wp2_with fail
    refine nxt_but U (plan_one ?_)
    simp only [nths,nth,List.map_cons,List.map_nil,List.getD_cons_zero,List.getD_cons_succ]
    repeat go_big_quiet_step (fail)
    refine wpQuiet_nil ?_
    have b8:=B3.out.cell 8 _ rfl
    have qb8:=B3.out.free 8
    go_wp2_with fail
    clear b8 qb8
    have U9:=U.setCell (a:=⟨w.heap.size,8,none⟩) (.inl (show w.heap.size ≠ w.heap.size + 1 by omega)) (.slice (some ⟨gz,0,none⟩) (s.ops.length + 1) kz)
    have kv5:But (Bx w.heap.size 3) w8 (w8.setCell ⟨w.heap.size,8,none⟩ (.slice (some ⟨gz,0,none⟩) (s.ops.length + 1) kz)):=(But.refl _ _).setCell (.inl ⟨Nat.le_refl _,by show w.heap.size < w.heap.size + 3;omega⟩) _
    replace B3:=Lib.hid (B3.out.set (j:=8) (by simp) (.slice (some ⟨gz,0,none⟩) (s.ops.length + 1) kz))
    simp only [List.set_cons_succ,List.set_cons_zero] at B3
    replace B5:=Lib.hid (B5.out.put (a:=⟨w.heap.size,8,none⟩) (by show w.heap.size ≠ w.heap.size + 1;omega) (.slice (some ⟨gz,0,none⟩) (s.ops.length + 1) kz))
    replace B6:=Lib.hid (B6.out.put (a:=⟨w.heap.size,8,none⟩) (by show w.heap.size ≠ w.heap.size + 1 + 1;omega) (.slice (some ⟨gz,0,none⟩) (s.ops.length + 1) kz))
    replace Pn:=Lib.hid (Pn.out.but kv5 (bx_not (by omega)))
    replace Ln:=Nat.lt_of_lt_of_le Ln kv5.2.2
    replace Pm:=Lib.hid (Pm.out.but kv5 (bx_not (by omega)))
    replace Lm:=Nat.lt_of_lt_of_le Lm kv5.2.2
    replace Pz:=Lib.hid (Pz.out.but kv5 (bx_not (by omega)))
    replace Lz:=Nat.lt_of_lt_of_le Lz kv5.2.2
    replace Q:=Q.trans kv5
    generalize w8.setCell ⟨w.heap.size,8,none⟩ (.slice (some ⟨gz,0,none⟩) (s.ops.length + 1) kz) = v5 at *
    refine nxt_but U9 (plan_fin ?_)
    clear U9 kv5
    simp only [nths,List.map_nil]
    refine wpQuiet_nil ?_
    go_wp2_with fail
    go_meet
    case rel => exact ⟨gz,kz,B3,B6,Q,hbz,Pz,Pn,Pm⟩
  ·go_wp2_with fail
   have kv3:Grown wp (wp.alloc (.cells #[.int .i64 (op:Int),.int .i64 x.kind,.int .u64 x.key,.int .u64 x.val,.int .i64 x.lim] 171)):=by go_grown
   have hlt:=B6.out.lt
   have PC:Hid (RowIn (wp.alloc (.cells #[.int .i64 (op:Int),.int .i64 x.kind,.int .u64 x.key,.int .u64 x.val,.int .i64 x.lim] 171)) wp.heap.size [.int .i64 (op:Int),.int .i64 x.kind,.int .u64 x.key,.int .u64 x.val,.int .i64 x.lim]):=Lib.hid (RowIn.made _ _ _)
   have LC:wp.heap.size < (wp.alloc (.cells #[.int .i64 (op:Int),.int .i64 x.kind,.int .u64 x.key,.int .u64 x.val,.int .i64 x.lim] 171)).heap.size:=by simp
   have hbc:w.heap.size + 3 ≤ wp.heap.size:=by omega
   obtain ⟨gc,hgc⟩:∃ q,wp.heap.size = q:=⟨_,rfl⟩
   rw [hgc] at PC LC hbc  ⊢
   clear hgc
   generalize wp.alloc (.cells #[.int .i64 (op:Int),.int .i64 x.kind,.int .u64 x.key,.int .u64 x.val,.int .i64 x.lim] 171) = v3 at *
   replace B3:=Lib.hid (B3.out.grown kv3)
   replace B5:=Lib.hid (B5.out.grown kv3)
   replace B6:=Lib.hid (B6.out.grown kv3)
   replace Pn:=Lib.hid (Pn.out.grown kv3)
   replace Ln:=Nat.lt_of_lt_of_le Ln (kv3).2.2
   replace Pm:=Lib.hid (Pm.out.grown kv3)
   replace Lm:=Nat.lt_of_lt_of_le Lm (kv3).2.2
   replace U:=U.trans (But.of_grown kv3)
   replace Q:=Q.trans (But.of_grown kv3)
   have Pc:=PC;have Lc:=LC;clear PC LC kv3 hlt
   refine nxt_but U (plan_two ?_)
   simp only [nths,nth,List.map_nil,List.getD_cons_zero,List.getD_cons_succ]
   refine wpQuiet_nil ⟨?_,?_⟩
   ·go_wp2_with fail
    have kv4:Grown v3 (v3.alloc (.cells #[] 171)):=by go_grown
    have hlt:=B6.out.lt
    have OWN:(v3.alloc (.cells #[] 171)).ownsRow (w.heap.size + 3) 171 5 (.slice (some ⟨v3.heap.size,0,none⟩) 0 0) 0 []:=own_made (by omega)
    have LO:v3.heap.size < (v3.alloc (.cells #[] 171)).heap.size:=by simp
    have hwa:w1.heap.size ≤ v3.heap.size:=Q.2.2
    have hba:w.heap.size + 3 ≤ v3.heap.size:=by omega
    have nna:gn ≠ v3.heap.size:=by omega
    have nma:gm ≠ v3.heap.size:=by omega
    have nca:gc ≠ v3.heap.size:=by omega
    obtain ⟨ga,hga⟩:∃ q,v3.heap.size = q:=⟨_,rfl⟩
    rw [hga] at OWN LO hwa hba nna nma nca ⊢
    clear hga
    generalize v3.alloc (.cells #[] 171) = v4 at *
    replace OWN:=Lib.hid OWN
    have HVO:(Value.slice (some ⟨ga,0,none⟩) 0 0).ownBlock = some ga:=rfl
    replace B3:=Lib.hid (B3.out.grown kv4)
    replace B5:=Lib.hid (B5.out.grown kv4)
    replace B6:=Lib.hid (B6.out.grown kv4)
    replace Pn:=Lib.hid (Pn.out.grown kv4)
    replace Ln:=Nat.lt_of_lt_of_le Ln (kv4).2.2
    replace Pm:=Lib.hid (Pm.out.grown kv4)
    replace Lm:=Nat.lt_of_lt_of_le Lm (kv4).2.2
    replace Pc:=Lib.hid (Pc.out.grown kv4)
    replace Lc:=Nat.lt_of_lt_of_le Lc (kv4).2.2
    replace U:=U.trans (But.of_grown kv4)
    replace Q:=Q.trans (But.of_grown kv4)
    clear kv4 hlt
    refine nxt_but U (plan_one ?_)
    simp only [nths,nth,List.map_nil,List.getD_cons_zero,List.getD_cons_succ]
    refine wpQuiet_nil ?_
    have b8:=B3.out.cell 8 _ rfl
    go_wp2_with fail
    clear b8
    refine nxt_but U (plan_one ?_)
    simp only [nths,nth,List.map_nil,List.getD_cons_zero,List.getD_cons_succ]
    refine wpQuiet_nil ?_
    have hlt:=B6.out.lt
    go_wp2_with (first | (at_builtin;refine wpList_push rfl _ _ 37 rfl (w.heap.size + 3) 171 (.agg #[.int .i64 0,.int .i64 0,.int .u64 0,.int .u64 0,.int .i64 0]) 5 40 Tryz.underlying37 info_op rfl (by decide) _ 0 [] ga OWN.out HVO (.slice A4 n4 kc4) s.ops.length hi (flatC s.ops) (H.out.f4.grown (But.fresh G Q (fun i hi => hi.1))) (flatC_len _) (flatC_one _) (by omega) (by decide) (by omega) rfl rfl ?_) | fail)
    intro v3 w3 g3 OWN3 hv3 hg3 q3
    try simp only [Nat.zero_add,List.nil_append] at OWN3
    have nnb:gn ≠ g3:=by omega
    have nmb:gm ≠ g3:=by omega
    have ncb:gc ≠ g3:=by omega
    have hwb:w1.heap.size ≤ g3:=by have:=Q.2.2;omega
    have hbb:w.heap.size + 3 ≤ g3:=by omega
    have LO3:g3 < w3.heap.size:=(OWN3.lt g3 hv3).2
    replace B3:=Lib.hid (B3.out.but q3 (show ¬ w.heap.size = ga by omega))
    replace B5:=Lib.hid (B5.out.but q3 (show ¬ w.heap.size + 1 = ga by omega))
    replace B6:=Lib.hid (B6.out.but q3 (show ¬ w.heap.size + 1 + 1 = ga by omega))
    replace Pn:=Lib.hid (Pn.out.but q3 (show ¬ gn = ga by omega))
    replace Ln:=Nat.lt_of_lt_of_le Ln (q3).2.2
    replace Pm:=Lib.hid (Pm.out.but q3 (show ¬ gm = ga by omega))
    replace Lm:=Nat.lt_of_lt_of_le Lm (q3).2.2
    replace Pc:=Lib.hid (Pc.out.but q3 (show ¬ gc = ga by omega))
    replace Lc:=Nat.lt_of_lt_of_le Lc (q3).2.2
    have hq1:¬ ga < w1.heap.size:=by omega
    replace Q:=Q.over q3 hq1
    clear hq1
    replace U:=U.trans (q3.mono (fun i hi => by show i ≠ w.heap.size + 1;omega))
    clear OWN HVO LO q3 hg3 hlt hwa hba nna nma nca
    have OWN:=Lib.hid OWN3
    have HVO:=hv3
    have LO:=LO3
    clear OWN3 hv3 LO3
    go_wp2_with fail
    refine nxt_but U (plan_one ?_)
    simp only [nths,nth,List.map_nil,List.getD_cons_zero,List.getD_cons_succ]
    refine wpQuiet_nil ?_
    have hlt:=B6.out.lt
    go_wp2_with (first | (at_builtin;refine wpList_push rfl _ _ 37 rfl (w.heap.size + 3) 171 (.agg #[.int .i64 0,.int .i64 0,.int .u64 0,.int .u64 0,.int .i64 0]) 5 40 Tryz.underlying37 info_op rfl (by decide) _ s.ops.length (flatC s.ops) g3 OWN.out HVO (.slice (some ⟨gc,0,none⟩) 1 1) 1 0 [.int .i64 (op:Int),.int .i64 x.kind,.int .u64 x.key,.int .u64 x.val,.int .i64 x.lim] (Pc.out.flat (by decide) (Nat.zero_le _)) rfl (five_one op x) (by omega) (by decide) (by omega) rfl rfl ?_) | fail)
    intro v8 w8 g8 OWN8 hv8 hg8 q8
    replace B3:=Lib.hid (B3.out.but q8 (show ¬ w.heap.size = g3 by omega))
    replace B5:=Lib.hid (B5.out.but q8 (show ¬ w.heap.size + 1 = g3 by omega))
    replace B6:=Lib.hid (B6.out.but q8 (show ¬ w.heap.size + 1 + 1 = g3 by omega))
    replace Pn:=Lib.hid (Pn.out.but q8 (show ¬ gn = g3 by omega))
    replace Ln:=Nat.lt_of_lt_of_le Ln (q8).2.2
    replace Pm:=Lib.hid (Pm.out.but q8 (show ¬ gm = g3 by omega))
    replace Lm:=Nat.lt_of_lt_of_le Lm (q8).2.2
    replace Pc:=Lib.hid (Pc.out.but q8 (show ¬ gc = g3 by omega))
    replace Lc:=Nat.lt_of_lt_of_le Lc (q8).2.2
    have hq1:¬ g3 < w1.heap.size:=by omega
    replace Q:=Q.over q8 hq1
    clear hq1
    replace U:=U.trans (q8.mono (fun i hi => by show i ≠ w.heap.size + 1;omega))
    clear OWN HVO LO q8 hlt hwb hbb nnb nmb ncb
    obtain ⟨gz,kz,rfl,hbz,PZ⟩:=(FlatAt.of_own OWN8 (by omega)).some (by omega)
    have Pz:Hid (RowIn w8 gz (flatC s.ops ++ [.int .i64 (op:Int),.int .i64 x.kind,.int .u64 x.key,.int .u64 x.val,.int .i64 x.lim])):=Lib.hid PZ
    have Lz:=Pz.out.lt (by simp)
    clear PZ OWN8 hv8 hg8
    clear Pc Lc hbc
    go_wp2_with fail
    refine nxt_but U (plan_one ?_)
    simp only [nths,nth,List.map_cons,List.map_nil,List.getD_cons_zero,List.getD_cons_succ]
    repeat go_big_quiet_step (fail)
    refine wpQuiet_nil ?_
    have b8:=B3.out.cell 8 _ rfl
    have qb8:=B3.out.free 8
    go_wp2_with fail
    clear b8 qb8
    have U9:=U.setCell (a:=⟨w.heap.size,8,none⟩) (.inl (show w.heap.size ≠ w.heap.size + 1 by omega)) (.slice (some ⟨gz,0,none⟩) (s.ops.length + 1) kz)
    have kv5:But (Bx w.heap.size 3) w8 (w8.setCell ⟨w.heap.size,8,none⟩ (.slice (some ⟨gz,0,none⟩) (s.ops.length + 1) kz)):=(But.refl _ _).setCell (.inl ⟨Nat.le_refl _,by show w.heap.size < w.heap.size + 3;omega⟩) _
    replace B3:=Lib.hid (B3.out.set (j:=8) (by simp) (.slice (some ⟨gz,0,none⟩) (s.ops.length + 1) kz))
    simp only [List.set_cons_succ,List.set_cons_zero] at B3
    replace B5:=Lib.hid (B5.out.put (a:=⟨w.heap.size,8,none⟩) (by show w.heap.size ≠ w.heap.size + 1;omega) (.slice (some ⟨gz,0,none⟩) (s.ops.length + 1) kz))
    replace B6:=Lib.hid (B6.out.put (a:=⟨w.heap.size,8,none⟩) (by show w.heap.size ≠ w.heap.size + 1 + 1;omega) (.slice (some ⟨gz,0,none⟩) (s.ops.length + 1) kz))
    replace Pn:=Lib.hid (Pn.out.but kv5 (bx_not (by omega)))
    replace Ln:=Nat.lt_of_lt_of_le Ln kv5.2.2
    replace Pm:=Lib.hid (Pm.out.but kv5 (bx_not (by omega)))
    replace Lm:=Nat.lt_of_lt_of_le Lm kv5.2.2
    replace Pz:=Lib.hid (Pz.out.but kv5 (bx_not (by omega)))
    replace Lz:=Nat.lt_of_lt_of_le Lz kv5.2.2
    replace Q:=Q.trans kv5
    generalize w8.setCell ⟨w.heap.size,8,none⟩ (.slice (some ⟨gz,0,none⟩) (s.ops.length + 1) kz) = v5 at *
    refine nxt_but U9 (plan_fin ?_)
    clear U9 kv5
    simp only [nths,List.map_nil]
    refine wpQuiet_nil ?_
    go_wp2_with fail
    go_meet
    case rel => exact ⟨gz,kz,B3,B6,Q,hbz,Pz,Pn,Pm⟩
   ·have b8:=B3.out.cell 8 _ rfl
    go_wp2_with fail
    clear b8
    refine nxt_but U (plan_one ?_)
    simp only [nths,nth,List.map_nil,List.getD_cons_zero]
    refine wpQuiet_nil ?_
    go_wp2_with fail
    have kv4:Grown v3 (v3.alloc (.cells #[] 171)):=by go_grown
    have hlt:=B6.out.lt
    have OWN:(v3.alloc (.cells #[] 171)).ownsRow (w.heap.size + 3) 171 5 (.slice (some ⟨v3.heap.size,0,none⟩) 0 0) 0 []:=own_made (by omega)
    have LO:v3.heap.size < (v3.alloc (.cells #[] 171)).heap.size:=by simp
    have hwa:w1.heap.size ≤ v3.heap.size:=Q.2.2
    have hba:w.heap.size + 3 ≤ v3.heap.size:=by omega
    have nna:gn ≠ v3.heap.size:=by omega
    have nma:gm ≠ v3.heap.size:=by omega
    have nca:gc ≠ v3.heap.size:=by omega
    obtain ⟨ga,hga⟩:∃ q,v3.heap.size = q:=⟨_,rfl⟩
    rw [hga] at OWN LO hwa hba nna nma nca ⊢
    clear hga
    generalize v3.alloc (.cells #[] 171) = v4 at *
    replace OWN:=Lib.hid OWN
    have HVO:(Value.slice (some ⟨ga,0,none⟩) 0 0).ownBlock = some ga:=rfl
    replace B3:=Lib.hid (B3.out.grown kv4)
    replace B5:=Lib.hid (B5.out.grown kv4)
    replace B6:=Lib.hid (B6.out.grown kv4)
    replace Pn:=Lib.hid (Pn.out.grown kv4)
    replace Ln:=Nat.lt_of_lt_of_le Ln (kv4).2.2
    replace Pm:=Lib.hid (Pm.out.grown kv4)
    replace Lm:=Nat.lt_of_lt_of_le Lm (kv4).2.2
    replace Pc:=Lib.hid (Pc.out.grown kv4)
    replace Lc:=Nat.lt_of_lt_of_le Lc (kv4).2.2
    replace U:=U.trans (But.of_grown kv4)
    replace Q:=Q.trans (But.of_grown kv4)
    clear kv4 hlt
    refine nxt_but U (plan_one ?_)
    simp only [nths,nth,List.map_nil,List.getD_cons_zero,List.getD_cons_succ]
    refine wpQuiet_nil ?_
    have hlt:=B6.out.lt
    go_wp2_with (first | (at_builtin;refine wpList_push rfl _ _ 37 rfl (w.heap.size + 3) 171 (.agg #[.int .i64 0,.int .i64 0,.int .u64 0,.int .u64 0,.int .i64 0]) 5 40 Tryz.underlying37 info_op rfl (by decide) _ 0 [] ga OWN.out HVO (.slice A4 n4 kc4) s.ops.length hi (flatC s.ops) (H.out.f4.grown (But.fresh G Q (fun i hi => hi.1))) (flatC_len _) (flatC_one _) (by omega) (by decide) (by omega) rfl rfl ?_) | fail)
    intro v3 w3 g3 OWN3 hv3 hg3 q3
    try simp only [Nat.zero_add,List.nil_append] at OWN3
    have nnb:gn ≠ g3:=by omega
    have nmb:gm ≠ g3:=by omega
    have ncb:gc ≠ g3:=by omega
    have hwb:w1.heap.size ≤ g3:=by have:=Q.2.2;omega
    have hbb:w.heap.size + 3 ≤ g3:=by omega
    have LO3:g3 < w3.heap.size:=(OWN3.lt g3 hv3).2
    replace B3:=Lib.hid (B3.out.but q3 (show ¬ w.heap.size = ga by omega))
    replace B5:=Lib.hid (B5.out.but q3 (show ¬ w.heap.size + 1 = ga by omega))
    replace B6:=Lib.hid (B6.out.but q3 (show ¬ w.heap.size + 1 + 1 = ga by omega))
    replace Pn:=Lib.hid (Pn.out.but q3 (show ¬ gn = ga by omega))
    replace Ln:=Nat.lt_of_lt_of_le Ln (q3).2.2
    replace Pm:=Lib.hid (Pm.out.but q3 (show ¬ gm = ga by omega))
    replace Lm:=Nat.lt_of_lt_of_le Lm (q3).2.2
    replace Pc:=Lib.hid (Pc.out.but q3 (show ¬ gc = ga by omega))
    replace Lc:=Nat.lt_of_lt_of_le Lc (q3).2.2
    have hq1:¬ ga < w1.heap.size:=by omega
    replace Q:=Q.over q3 hq1
    clear hq1
    replace U:=U.trans (q3.mono (fun i hi => by show i ≠ w.heap.size + 1;omega))
    clear OWN HVO LO q3 hg3 hlt hwa hba nna nma nca
    have OWN:=Lib.hid OWN3
    have HVO:=hv3
    have LO:=LO3
    clear OWN3 hv3 LO3
    go_wp2_with fail
    refine nxt_but U (plan_one ?_)
    simp only [nths,nth,List.map_nil,List.getD_cons_zero,List.getD_cons_succ]
    refine wpQuiet_nil ?_
    have hlt:=B6.out.lt
    go_wp2_with (first | (at_builtin;refine wpList_push rfl _ _ 37 rfl (w.heap.size + 3) 171 (.agg #[.int .i64 0,.int .i64 0,.int .u64 0,.int .u64 0,.int .i64 0]) 5 40 Tryz.underlying37 info_op rfl (by decide) _ s.ops.length (flatC s.ops) g3 OWN.out HVO (.slice (some ⟨gc,0,none⟩) 1 1) 1 0 [.int .i64 (op:Int),.int .i64 x.kind,.int .u64 x.key,.int .u64 x.val,.int .i64 x.lim] (Pc.out.flat (by decide) (Nat.zero_le _)) rfl (five_one op x) (by omega) (by decide) (by omega) rfl rfl ?_) | fail)
    intro v8 w8 g8 OWN8 hv8 hg8 q8
    replace B3:=Lib.hid (B3.out.but q8 (show ¬ w.heap.size = g3 by omega))
    replace B5:=Lib.hid (B5.out.but q8 (show ¬ w.heap.size + 1 = g3 by omega))
    replace B6:=Lib.hid (B6.out.but q8 (show ¬ w.heap.size + 1 + 1 = g3 by omega))
    replace Pn:=Lib.hid (Pn.out.but q8 (show ¬ gn = g3 by omega))
    replace Ln:=Nat.lt_of_lt_of_le Ln (q8).2.2
    replace Pm:=Lib.hid (Pm.out.but q8 (show ¬ gm = g3 by omega))
    replace Lm:=Nat.lt_of_lt_of_le Lm (q8).2.2
    replace Pc:=Lib.hid (Pc.out.but q8 (show ¬ gc = g3 by omega))
    replace Lc:=Nat.lt_of_lt_of_le Lc (q8).2.2
    have hq1:¬ g3 < w1.heap.size:=by omega
    replace Q:=Q.over q8 hq1
    clear hq1
    replace U:=U.trans (q8.mono (fun i hi => by show i ≠ w.heap.size + 1;omega))
    clear OWN HVO LO q8 hlt hwb hbb nnb nmb ncb
    obtain ⟨gz,kz,rfl,hbz,PZ⟩:=(FlatAt.of_own OWN8 (by omega)).some (by omega)
    have Pz:Hid (RowIn w8 gz (flatC s.ops ++ [.int .i64 (op:Int),.int .i64 x.kind,.int .u64 x.key,.int .u64 x.val,.int .i64 x.lim])):=Lib.hid PZ
    have Lz:=Pz.out.lt (by simp)
    clear PZ OWN8 hv8 hg8
    clear Pc Lc hbc
    go_wp2_with fail
    refine nxt_but U (plan_one ?_)
    simp only [nths,nth,List.map_cons,List.map_nil,List.getD_cons_zero,List.getD_cons_succ]
    repeat go_big_quiet_step (fail)
    refine wpQuiet_nil ?_
    have b8:=B3.out.cell 8 _ rfl
    have qb8:=B3.out.free 8
    go_wp2_with fail
    clear b8 qb8
    have U9:=U.setCell (a:=⟨w.heap.size,8,none⟩) (.inl (show w.heap.size ≠ w.heap.size + 1 by omega)) (.slice (some ⟨gz,0,none⟩) (s.ops.length + 1) kz)
    have kv5:But (Bx w.heap.size 3) w8 (w8.setCell ⟨w.heap.size,8,none⟩ (.slice (some ⟨gz,0,none⟩) (s.ops.length + 1) kz)):=(But.refl _ _).setCell (.inl ⟨Nat.le_refl _,by show w.heap.size < w.heap.size + 3;omega⟩) _
    replace B3:=Lib.hid (B3.out.set (j:=8) (by simp) (.slice (some ⟨gz,0,none⟩) (s.ops.length + 1) kz))
    simp only [List.set_cons_succ,List.set_cons_zero] at B3
    replace B5:=Lib.hid (B5.out.put (a:=⟨w.heap.size,8,none⟩) (by show w.heap.size ≠ w.heap.size + 1;omega) (.slice (some ⟨gz,0,none⟩) (s.ops.length + 1) kz))
    replace B6:=Lib.hid (B6.out.put (a:=⟨w.heap.size,8,none⟩) (by show w.heap.size ≠ w.heap.size + 1 + 1;omega) (.slice (some ⟨gz,0,none⟩) (s.ops.length + 1) kz))
    replace Pn:=Lib.hid (Pn.out.but kv5 (bx_not (by omega)))
    replace Ln:=Nat.lt_of_lt_of_le Ln kv5.2.2
    replace Pm:=Lib.hid (Pm.out.but kv5 (bx_not (by omega)))
    replace Lm:=Nat.lt_of_lt_of_le Lm kv5.2.2
    replace Pz:=Lib.hid (Pz.out.but kv5 (bx_not (by omega)))
    replace Lz:=Nat.lt_of_lt_of_le Lz kv5.2.2
    replace Q:=Q.trans kv5
    generalize w8.setCell ⟨w.heap.size,8,none⟩ (.slice (some ⟨gz,0,none⟩) (s.ops.length + 1) kz) = v5 at *
    refine nxt_but U9 (plan_fin ?_)
    clear U9 kv5
    simp only [nths,List.map_nil]
    refine wpQuiet_nil ?_
    go_wp2_with fail
    go_meet
    case rel => exact ⟨gz,kz,B3,B6,Q,hbz,Pz,Pn,Pm⟩
 case rest =>
  clear B3 B5 B6 Q Pn Ln Pm Lm
  obtain ⟨gz,kz,B3,B6,Q,hbz,Pz,Pn,Pm⟩:=hcut
  have b0:=B3.out.cell 0 _ rfl
  have b1:=B3.out.cell 1 _ rfl
  have b2:=B3.out.cell 2 _ rfl
  have b3:=B3.out.cell 3 _ rfl
  have b4:=B3.out.cell 4 _ rfl
  have b5:=B3.out.cell 5 _ rfl
  have b6:=B3.out.cell 6 _ rfl
  have b7:=B3.out.cell 7 _ rfl
  have b8:=B3.out.cell 8 _ rfl
  have b9:=B3.out.cell 9 _ rfl
  have c0:=B6.out.cell 0 _ rfl
  have c1:=B6.out.cell 1 _ rfl
  have c2:=B6.out.cell 2 _ rfl
  have c3:=B6.out.cell 3 _ rfl
  have c4:=B6.out.cell 4 _ rfl
  have c5:=B6.out.cell 5 _ rfl
  have c6:=B6.out.cell 6 _ rfl
  have c7:=B6.out.cell 7 _ rfl
  have c8:=B6.out.cell 8 _ rfl
  have c9:=B6.out.cell 9 _ rfl
  have qc0:=B6.out.free 0
  have qc1:=B6.out.free 1
  have qc2:=B6.out.free 2
  have qc3:=B6.out.free 3
  have qc4:=B6.out.free 4
  have qc5:=B6.out.free 5
  have qc6:=B6.out.free 6
  have qc7:=B6.out.free 7
  have qc8:=B6.out.free 8
  have qc9:=B6.out.free 9
  have hlt:=B6.out.lt
  have hlt3:=B3.out.lt
  go_wp2_with fail
  have B2:=B6.out.fill rfl (.int .i64 c.t) (.int .i64 c.b) (.int .i64 c.i) (.int .i64 c.f) (.int .i64 c.k) (.slice (some ⟨gn,0,none⟩) c.t kn) (.slice (some ⟨gm,0,none⟩) c.t km) (.slice A3 n3 kc3) (.slice (some ⟨gz,0,none⟩) (s.ops.length + 1) kz) (.slice A5 n5 kc5)
  have e0:=B2.cell 0 _ rfl
  have e1:=B2.cell 1 _ rfl
  have e2:=B2.cell 2 _ rfl
  have e3:=B2.cell 3 _ rfl
  have e4:=B2.cell 4 _ rfl
  have e5:=B2.cell 5 _ rfl
  have e6:=B2.cell 6 _ rfl
  have e7:=B2.cell 7 _ rfl
  have e8:=B2.cell 8 _ rfl
  have e9:=B2.cell 9 _ rfl
  have kS:=(But.refl (Bx w.heap.size 3) wc).fill (b:=w.heap.size + 1 + 1) (.inl ⟨by omega,by omega⟩) (.int .i64 c.t) (.int .i64 c.b) (.int .i64 c.i) (.int .i64 c.f) (.int .i64 c.k) (.slice (some ⟨gn,0,none⟩) c.t kn) (.slice (some ⟨gm,0,none⟩) c.t km) (.slice A3 n3 kc3) (.slice (some ⟨gz,0,none⟩) (s.ops.length + 1) kz) (.slice A5 n5 kc5)
  have gE:=But.fresh G (Q.trans kS) (fun i hi => hi.1)
  replace Pn:=Lib.hid (Pn.out.but kS (bx_not (by omega)))
  replace Pm:=Lib.hid (Pm.out.but kS (bx_not (by omega)))
  replace Pz:=Lib.hid (Pz.out.but kS (bx_not (by omega)))
  refine bodyPost_ret (v:=.tuple #[RV c (.slice (some ⟨gn,0,none⟩) c.t kn) (.slice (some ⟨gm,0,none⟩) c.t km) (.slice A3 n3 kc3) (.slice (some ⟨gz,0,none⟩) (s.ops.length + 1) kz) (.slice A5 n5 kc5),.int .i64 (op:Int),.int .i64 0]) (by simp [results,Tryz.results65,go_sem,RV,e0,e1,e2,e3,e4,e5,e6,e7,e8,e9]) rfl ?_
  exact ⟨_,_,_,_,_,rfl,⟨Pn.out.flat ht1 (by omega),Pm.out.flat ht1 (by omega),H.out.f3.grown gE,(by rw [flatC_app,List.length_append];exact Pz.out.flat (by simp) (by omega)),H.out.f5.grown gE⟩,gE,.inr (Pn.out.flat ht1 (by omega)),.inr (Pm.out.flat ht1 (by omega)),.inl rfl,.inr ((by rw [flatC_app,List.length_append];exact Pz.out.flat (by simp) (by omega))),.inl rfl⟩
theorem rBegin_any (w:World) (hi:Nat) (c:Cf) (s:St) (s1 s2 s3 s4 s5:Value) (h:RefS w hi c s s1 s2 s3 s4 s5) (hok:c.Ok) (hI:Inv c s) (hw:hi ≤ w.heap.size) (hl:s.ops.length ≤ 9999) (th:Int) (x:Cal) (r:St × Nat × Nat) (hr:beginI c s th x = r) :
  Calls Tryz.prog 65 #[RV c s1 s2 s3 s4 s5,.int .i64 th,x.v] w (RTell hi c r s1 s2 s3 s4 s5 w):=by
 subst hr
 unfold beginI
 by_cases ht:th < 0 ∨ c.t ≤ th
 ·rw [if_pos (ht.elim .inl (fun q => .inr (.inl q)))]
  exact rBegin_noThread w hi c s s1 s2 s3 s4 s5 h hok hI hw hl th x ht
 ·obtain ⟨i,rfl⟩:∃ i:Nat,th = i:=⟨th.toNat,by omega⟩
  have hit:i < c.t:=by omega
  by_cases hk:kindOk x
  ·rw [if_neg (by simp [hk];omega)]
   simp only [Int.toNat_natCast]
   unfold beginS
   by_cases e1:at_ s.calls i = c.k
   ·rw [if_pos e1];exact rBegin_retired w hi c s s1 s2 s3 s4 s5 h hok hI hw hl i hit x hk e1
   ·rw [if_neg e1]
    by_cases e2:x.kind = 1
    ·by_cases e3:at_ s.ins i = c.i
     ·rw [if_pos ⟨e2,e3⟩];exact rBegin_full w hi c s s1 s2 s3 s4 s5 h hok hI hw hl i hit x hk e1 (Lib.hid e2) e3
     ·rw [if_neg (fun q => e3 q.2),if_pos e2];exact rBegin_insert w hi c s s1 s2 s3 s4 s5 h hok hI hw hl i hit x hk e1 (Lib.hid e2) e3 _ rfl
    ·rw [if_neg (fun q => e2 q.1),if_neg e2];exact rBegin_other w hi c s s1 s2 s3 s4 s5 h hok hI hw hl i hit x hk e1 (Lib.hid e2) _ rfl
  ·rw [if_pos (.inr (.inr hk))]
   exact rBegin_noKind w hi c s s1 s2 s3 s4 s5 h hok hI hw hl i hit x hk
end Go.Proofs.YtcogckjpmmjmbaaGreat
namespace Go.Proofs.YtcogckjpmmjmbaaGreat
open Go.ChangeShapes Go.WideShapes Go.ChangeAt Go.RowKit
set_option maxRecDepth 100000
set_option linter.unusedVariables false
def Stop (p:Prop):Prop:=p
theorem stop {p:Prop} (h:Stop p):p:=h
theorem two_one (a b:Nat):∀ u ∈ [Value.int .i64 (a:Int),.int .i64 (b:Int)],u.oneCell' = true:=by
 intro u hu
 simp only [List.mem_cons,List.not_mem_nil,or_false] at hu
 rcases hu with rfl | rfl <;> rfl
theorem rMake_noThread (w:World) (hi:Nat) (c:Cf) (s:St) (s1 s2 s3 s4 s5:Value) (h:RefS w hi c s s1 s2 s3 s4 s5) (hok:c.Ok) (hI:Inv c s) (hw:hi ≤ w.heap.size) (hl:s.ops.length ≤ 9999) (hl5:s.nodes.length ≤ 9999) (th op:Int) (ht:th < 0 ∨ c.t ≤ th) :
  Calls Tryz.prog 67 #[RV c s1 s2 s3 s4 s5,.int .i64 th,.int .i64 op] w (RTell hi c (s,0,1) s1 s2 s3 s4 s5 w):=by
 obtain ⟨A1,n1,kc1,rfl⟩:=h.f1.slice
 obtain ⟨A2,n2,kc2,rfl⟩:=h.f2.slice
 obtain ⟨A3,n3,kc3,rfl⟩:=h.f3.slice
 obtain ⟨A4,n4,kc4,rfl⟩:=h.f4.slice
 obtain ⟨A5,n5,kc5,rfl⟩:=h.f5.slice
 have H:=Lib.hid h
 have HOK:=Lib.hid hok
 have HN:=Lib.hid hI
 have HI:Hid (decide (0 ≤ th ∧ th < c.t) = false):=Lib.hid (decide_eq_false (by omega))
 clear h hok hI
 unfold RV
 go_enter Tryz.func67,Tryz.ntmps67
 go_wp2_with fail
 refine (is_at _ hi c s _ _ _ _ _ (H.out.grown (by go_grown)) HOK.out th _ HI.out).mono ?_;rintro e w1 ⟨rfl,g1⟩
 obtain ⟨B3,B6,G⟩:=boxes2 (l1:=[.int .i64 c.t,.int .i64 c.b,.int .i64 c.i,.int .i64 c.f,.int .i64 c.k,.slice A1 n1 kc1,.slice A2 n2 kc2,.slice A3 n3 kc3,.slice A4 n4 kc4,.slice A5 n5 kc5]) (l2:=[.int .i64 0,.int .i64 0,.int .i64 0,.int .i64 0,.int .i64 0,.slice none 0 0,.slice none 0 0,.slice none 0 0,.slice none 0 0,.slice none 0 0]) g1
 replace B3:=Lib.hid B3
 replace B6:=Lib.hid B6
 have Q:But (Bx w.heap.size 2) w1 w1:=But.refl _ _
 clear g1
 have b0:=B3.out.cell 0 _ rfl
 have b1:=B3.out.cell 1 _ rfl
 have b2:=B3.out.cell 2 _ rfl
 have b3:=B3.out.cell 3 _ rfl
 have b4:=B3.out.cell 4 _ rfl
 have b5:=B3.out.cell 5 _ rfl
 have b6:=B3.out.cell 6 _ rfl
 have b7:=B3.out.cell 7 _ rfl
 have b8:=B3.out.cell 8 _ rfl
 have b9:=B3.out.cell 9 _ rfl
 have c0:=B6.out.cell 0 _ rfl
 have c1:=B6.out.cell 1 _ rfl
 have c2:=B6.out.cell 2 _ rfl
 have c3:=B6.out.cell 3 _ rfl
 have c4:=B6.out.cell 4 _ rfl
 have c5:=B6.out.cell 5 _ rfl
 have c6:=B6.out.cell 6 _ rfl
 have c7:=B6.out.cell 7 _ rfl
 have c8:=B6.out.cell 8 _ rfl
 have c9:=B6.out.cell 9 _ rfl
 have qc0:=B6.out.free 0
 have qc1:=B6.out.free 1
 have qc2:=B6.out.free 2
 have qc3:=B6.out.free 3
 have qc4:=B6.out.free 4
 have qc5:=B6.out.free 5
 have qc6:=B6.out.free 6
 have qc7:=B6.out.free 7
 have qc8:=B6.out.free 8
 have qc9:=B6.out.free 9
 have hlt:=B6.out.lt
 have hlt3:=B3.out.lt
 go_wp2_with fail
 have B2:=B6.out.fill rfl (.int .i64 c.t) (.int .i64 c.b) (.int .i64 c.i) (.int .i64 c.f) (.int .i64 c.k) (.slice A1 n1 kc1) (.slice A2 n2 kc2) (.slice A3 n3 kc3) (.slice A4 n4 kc4) (.slice A5 n5 kc5)
 have e0:=B2.cell 0 _ rfl
 have e1:=B2.cell 1 _ rfl
 have e2:=B2.cell 2 _ rfl
 have e3:=B2.cell 3 _ rfl
 have e4:=B2.cell 4 _ rfl
 have e5:=B2.cell 5 _ rfl
 have e6:=B2.cell 6 _ rfl
 have e7:=B2.cell 7 _ rfl
 have e8:=B2.cell 8 _ rfl
 have e9:=B2.cell 9 _ rfl
 have kS:=(But.refl (Bx w.heap.size 2) w1).fill (b:=w.heap.size + 1) (.inl ⟨by omega,by omega⟩) (.int .i64 c.t) (.int .i64 c.b) (.int .i64 c.i) (.int .i64 c.f) (.int .i64 c.k) (.slice A1 n1 kc1) (.slice A2 n2 kc2) (.slice A3 n3 kc3) (.slice A4 n4 kc4) (.slice A5 n5 kc5)
 have gE:=But.fresh G (Q.trans kS) (fun i hi => hi.1)
 refine bodyPost_ret (v:=.tuple #[RV c (.slice A1 n1 kc1) (.slice A2 n2 kc2) (.slice A3 n3 kc3) (.slice A4 n4 kc4) (.slice A5 n5 kc5),.int .i64 0,.int .i64 1]) (by simp [results,Tryz.results67,go_sem,RV,e0,e1,e2,e3,e4,e5,e6,e7,e8,e9]) rfl ?_
 exact ⟨_,_,_,_,_,rfl,⟨H.out.f1.grown gE,H.out.f2.grown gE,H.out.f3.grown gE,H.out.f4.grown gE,H.out.f5.grown gE⟩,gE,.inl rfl,.inl rfl,.inl rfl,.inl rfl,.inl rfl⟩
theorem rMake_noOp (w:World) (hi:Nat) (c:Cf) (s:St) (s1 s2 s3 s4 s5:Value) (h:RefS w hi c s s1 s2 s3 s4 s5) (hok:c.Ok) (hI:Inv c s) (hw:hi ≤ w.heap.size) (hl:s.ops.length ≤ 9999) (hl5:s.nodes.length ≤ 9999) (i:Nat) (hit:i < c.t) (op:Int) (ho:lookI s.ops op = none) :
  Calls Tryz.prog 67 #[RV c s1 s2 s3 s4 s5,.int .i64 i,.int .i64 op] w (RTell hi c (s,0,1) s1 s2 s3 s4 s5 w):=by
 obtain ⟨A1,n1,kc1,rfl⟩:=h.f1.slice
 obtain ⟨A2,n2,kc2,rfl⟩:=h.f2.slice
 obtain ⟨A3,n3,kc3,rfl⟩:=h.f3.slice
 obtain ⟨A4,n4,kc4,rfl⟩:=h.f4.slice
 obtain ⟨A5,n5,kc5,rfl⟩:=h.f5.slice
 have H:=Lib.hid h
 have HOK:=Lib.hid hok
 have HN:=Lib.hid hI
 have HI:Hid (decide (0 ≤ (i:Int) ∧ (i:Int) < c.t) = true):=Lib.hid (decide_eq_true (by omega))
 have HO:=Lib.hid ho
 clear ho
 clear h hok hI
 unfold RV
 go_enter Tryz.func67,Tryz.ntmps67
 go_wp2_with fail
 refine (is_at _ hi c s _ _ _ _ _ (H.out.grown (by go_grown)) HOK.out i _ HI.out).mono ?_;rintro e w1 ⟨rfl,g1⟩
 obtain ⟨B3,B6,G⟩:=boxes2 (l1:=[.int .i64 c.t,.int .i64 c.b,.int .i64 c.i,.int .i64 c.f,.int .i64 c.k,.slice A1 n1 kc1,.slice A2 n2 kc2,.slice A3 n3 kc3,.slice A4 n4 kc4,.slice A5 n5 kc5]) (l2:=[.int .i64 0,.int .i64 0,.int .i64 0,.int .i64 0,.int .i64 0,.slice none 0 0,.slice none 0 0,.slice none 0 0,.slice none 0 0,.slice none 0 0]) g1
 replace B3:=Lib.hid B3
 replace B6:=Lib.hid B6
 have Q:But (Bx w.heap.size 2) w1 w1:=But.refl _ _
 clear g1
 have b0:=B3.out.cell 0 _ rfl
 have b1:=B3.out.cell 1 _ rfl
 have b2:=B3.out.cell 2 _ rfl
 have b3:=B3.out.cell 3 _ rfl
 have b4:=B3.out.cell 4 _ rfl
 have b5:=B3.out.cell 5 _ rfl
 have b6:=B3.out.cell 6 _ rfl
 have b7:=B3.out.cell 7 _ rfl
 have b8:=B3.out.cell 8 _ rfl
 have b9:=B3.out.cell 9 _ rfl
 have hlt3:=B3.out.lt
 go_wp2_with fail
 refine (find_at_ _ hi c s _ _ _ _ _ (H.out.grown G) HOK.out (by omega) op).mono ?_;rintro e w2 ⟨r,rfl,hr,m1⟩
 clear b0 b1 b2 b3 b4 b5 b6 b7 b8 b9 hlt3
 replace B3:=Lib.hid (B3.out.grown m1)
 replace B6:=Lib.hid (B6.out.grown m1)
 replace Q:=Q.trans (But.of_grown m1)
 obtain rfl:r = -1:=by
  rcases hr with ⟨rfl,-⟩ | ⟨j,y,rfl,-,-,hs⟩
  ·rfl
  ·rw [HO.out] at hs;cases hs
 clear hr m1
 have b0:=B3.out.cell 0 _ rfl
 have b1:=B3.out.cell 1 _ rfl
 have b2:=B3.out.cell 2 _ rfl
 have b3:=B3.out.cell 3 _ rfl
 have b4:=B3.out.cell 4 _ rfl
 have b5:=B3.out.cell 5 _ rfl
 have b6:=B3.out.cell 6 _ rfl
 have b7:=B3.out.cell 7 _ rfl
 have b8:=B3.out.cell 8 _ rfl
 have b9:=B3.out.cell 9 _ rfl
 have c0:=B6.out.cell 0 _ rfl
 have c1:=B6.out.cell 1 _ rfl
 have c2:=B6.out.cell 2 _ rfl
 have c3:=B6.out.cell 3 _ rfl
 have c4:=B6.out.cell 4 _ rfl
 have c5:=B6.out.cell 5 _ rfl
 have c6:=B6.out.cell 6 _ rfl
 have c7:=B6.out.cell 7 _ rfl
 have c8:=B6.out.cell 8 _ rfl
 have c9:=B6.out.cell 9 _ rfl
 have qc0:=B6.out.free 0
 have qc1:=B6.out.free 1
 have qc2:=B6.out.free 2
 have qc3:=B6.out.free 3
 have qc4:=B6.out.free 4
 have qc5:=B6.out.free 5
 have qc6:=B6.out.free 6
 have qc7:=B6.out.free 7
 have qc8:=B6.out.free 8
 have qc9:=B6.out.free 9
 have hlt:=B6.out.lt
 have hlt3:=B3.out.lt
 go_wp2_with fail
 have B2:=B6.out.fill rfl (.int .i64 c.t) (.int .i64 c.b) (.int .i64 c.i) (.int .i64 c.f) (.int .i64 c.k) (.slice A1 n1 kc1) (.slice A2 n2 kc2) (.slice A3 n3 kc3) (.slice A4 n4 kc4) (.slice A5 n5 kc5)
 have e0:=B2.cell 0 _ rfl
 have e1:=B2.cell 1 _ rfl
 have e2:=B2.cell 2 _ rfl
 have e3:=B2.cell 3 _ rfl
 have e4:=B2.cell 4 _ rfl
 have e5:=B2.cell 5 _ rfl
 have e6:=B2.cell 6 _ rfl
 have e7:=B2.cell 7 _ rfl
 have e8:=B2.cell 8 _ rfl
 have e9:=B2.cell 9 _ rfl
 have kS:=(But.refl (Bx w.heap.size 2) w2).fill (b:=w.heap.size + 1) (.inl ⟨by omega,by omega⟩) (.int .i64 c.t) (.int .i64 c.b) (.int .i64 c.i) (.int .i64 c.f) (.int .i64 c.k) (.slice A1 n1 kc1) (.slice A2 n2 kc2) (.slice A3 n3 kc3) (.slice A4 n4 kc4) (.slice A5 n5 kc5)
 have gE:=But.fresh G (Q.trans kS) (fun i hi => hi.1)
 refine bodyPost_ret (v:=.tuple #[RV c (.slice A1 n1 kc1) (.slice A2 n2 kc2) (.slice A3 n3 kc3) (.slice A4 n4 kc4) (.slice A5 n5 kc5),.int .i64 0,.int .i64 1]) (by simp [results,Tryz.results67,go_sem,RV,e0,e1,e2,e3,e4,e5,e6,e7,e8,e9]) rfl ?_
 exact ⟨_,_,_,_,_,rfl,⟨H.out.f1.grown gE,H.out.f2.grown gE,H.out.f3.grown gE,H.out.f4.grown gE,H.out.f5.grown gE⟩,gE,.inl rfl,.inl rfl,.inl rfl,.inl rfl,.inl rfl⟩
theorem rMake_full (w:World) (hi:Nat) (c:Cf) (s:St) (s1 s2 s3 s4 s5:Value) (h:RefS w hi c s s1 s2 s3 s4 s5) (hok:c.Ok) (hI:Inv c s) (hw:hi ≤ w.heap.size) (hl:s.ops.length ≤ 9999) (hl5:s.nodes.length ≤ 9999) (i:Nat) (hit:i < c.t) (op:Int) (x:Cal) (ho:lookI s.ops op = some x) (e0:at_ s.made i = 2 * c.k) :
  Calls Tryz.prog 67 #[RV c s1 s2 s3 s4 s5,.int .i64 i,.int .i64 op] w (RTell hi c (s,0,3) s1 s2 s3 s4 s5 w):=by
 have ht1:=hok.t1
 obtain ⟨gs3,kc3,rfl,-,hc3⟩:=h.f3.some ht1
 obtain ⟨A1,n1,kc1,rfl⟩:=h.f1.slice
 obtain ⟨A2,n2,kc2,rfl⟩:=h.f2.slice
 obtain ⟨A4,n4,kc4,rfl⟩:=h.f4.slice
 obtain ⟨A5,n5,kc5,rfl⟩:=h.f5.slice
 have H:=Lib.hid h
 have HOK:=Lib.hid hok
 have HN:=Lib.hid hI
 have HI:Hid (decide (0 ≤ (i:Int) ∧ (i:Int) < c.t) = true):=Lib.hid (decide_eq_true (by omega))
 have HO:=Lib.hid ho
 have l3:=hI.l3
 have b3':=hI.b3 i hit
 have ck2:=hok.k2
 have t8:=hok.t8
 have a3:w.cell? ⟨gs3,i,none⟩ = some (.int .i64 (at_ s.made i:Int)):=hc3 i _ (vNat_at (by omega))
 clear hc3 ho
 clear h hok hI
 unfold RV
 go_enter Tryz.func67,Tryz.ntmps67
 go_wp2_with fail
 refine (is_at _ hi c s _ _ _ _ _ (H.out.grown (by go_grown)) HOK.out i _ HI.out).mono ?_;rintro e w1 ⟨rfl,g1⟩
 obtain ⟨B3,B6,G⟩:=boxes2 (l1:=[.int .i64 c.t,.int .i64 c.b,.int .i64 c.i,.int .i64 c.f,.int .i64 c.k,.slice A1 n1 kc1,.slice A2 n2 kc2,.slice (some ⟨gs3,0,none⟩) c.t kc3,.slice A4 n4 kc4,.slice A5 n5 kc5]) (l2:=[.int .i64 0,.int .i64 0,.int .i64 0,.int .i64 0,.int .i64 0,.slice none 0 0,.slice none 0 0,.slice none 0 0,.slice none 0 0,.slice none 0 0]) g1
 replace B3:=Lib.hid B3
 replace B6:=Lib.hid B6
 have Q:But (Bx w.heap.size 2) w1 w1:=But.refl _ _
 clear g1
 replace a3:=gcell G a3
 have b0:=B3.out.cell 0 _ rfl
 have b1:=B3.out.cell 1 _ rfl
 have b2:=B3.out.cell 2 _ rfl
 have b3:=B3.out.cell 3 _ rfl
 have b4:=B3.out.cell 4 _ rfl
 have b5:=B3.out.cell 5 _ rfl
 have b6:=B3.out.cell 6 _ rfl
 have b7:=B3.out.cell 7 _ rfl
 have b8:=B3.out.cell 8 _ rfl
 have b9:=B3.out.cell 9 _ rfl
 have hlt3:=B3.out.lt
 go_wp2_with fail
 refine (find_at_ _ hi c s _ _ _ _ _ (H.out.grown G) HOK.out (by omega) op).mono ?_;rintro e w2 ⟨r,rfl,hr,m1⟩
 clear b0 b1 b2 b3 b4 b5 b6 b7 b8 b9 hlt3
 replace B3:=Lib.hid (B3.out.grown m1)
 replace B6:=Lib.hid (B6.out.grown m1)
 replace Q:=Q.trans (But.of_grown m1)
 obtain ⟨j,rfl⟩:∃ j:Nat,r = j:=by
  rcases hr with ⟨rfl,hs⟩ | ⟨j,y,rfl,-,-,hs⟩
  ·rw [HO.out] at hs;cases hs
  ·exact ⟨j,rfl⟩
 have ej:decide ((j:Int) < 0) = false:=decide_eq_false (by omega)
 replace a3:=gcell m1 a3
 clear hr m1
 have e3:((at_ s.made i:Int) == 2 * (c.k:Int)) = true:=by simp [e0]
 have b0:=B3.out.cell 0 _ rfl
 have b1:=B3.out.cell 1 _ rfl
 have b2:=B3.out.cell 2 _ rfl
 have b3:=B3.out.cell 3 _ rfl
 have b4:=B3.out.cell 4 _ rfl
 have b5:=B3.out.cell 5 _ rfl
 have b6:=B3.out.cell 6 _ rfl
 have b7:=B3.out.cell 7 _ rfl
 have b8:=B3.out.cell 8 _ rfl
 have b9:=B3.out.cell 9 _ rfl
 have c0:=B6.out.cell 0 _ rfl
 have c1:=B6.out.cell 1 _ rfl
 have c2:=B6.out.cell 2 _ rfl
 have c3:=B6.out.cell 3 _ rfl
 have c4:=B6.out.cell 4 _ rfl
 have c5:=B6.out.cell 5 _ rfl
 have c6:=B6.out.cell 6 _ rfl
 have c7:=B6.out.cell 7 _ rfl
 have c8:=B6.out.cell 8 _ rfl
 have c9:=B6.out.cell 9 _ rfl
 have qc0:=B6.out.free 0
 have qc1:=B6.out.free 1
 have qc2:=B6.out.free 2
 have qc3:=B6.out.free 3
 have qc4:=B6.out.free 4
 have qc5:=B6.out.free 5
 have qc6:=B6.out.free 6
 have qc7:=B6.out.free 7
 have qc8:=B6.out.free 8
 have qc9:=B6.out.free 9
 have hlt:=B6.out.lt
 have hlt3:=B3.out.lt
 go_wp2_with fail
 have B2:=B6.out.fill rfl (.int .i64 c.t) (.int .i64 c.b) (.int .i64 c.i) (.int .i64 c.f) (.int .i64 c.k) (.slice A1 n1 kc1) (.slice A2 n2 kc2) (.slice (some ⟨gs3,0,none⟩) c.t kc3) (.slice A4 n4 kc4) (.slice A5 n5 kc5)
 have e0:=B2.cell 0 _ rfl
 have e1:=B2.cell 1 _ rfl
 have e2:=B2.cell 2 _ rfl
 have e3:=B2.cell 3 _ rfl
 have e4:=B2.cell 4 _ rfl
 have e5:=B2.cell 5 _ rfl
 have e6:=B2.cell 6 _ rfl
 have e7:=B2.cell 7 _ rfl
 have e8:=B2.cell 8 _ rfl
 have e9:=B2.cell 9 _ rfl
 have kS:=(But.refl (Bx w.heap.size 2) w2).fill (b:=w.heap.size + 1) (.inl ⟨by omega,by omega⟩) (.int .i64 c.t) (.int .i64 c.b) (.int .i64 c.i) (.int .i64 c.f) (.int .i64 c.k) (.slice A1 n1 kc1) (.slice A2 n2 kc2) (.slice (some ⟨gs3,0,none⟩) c.t kc3) (.slice A4 n4 kc4) (.slice A5 n5 kc5)
 have gE:=But.fresh G (Q.trans kS) (fun i hi => hi.1)
 refine bodyPost_ret (v:=.tuple #[RV c (.slice A1 n1 kc1) (.slice A2 n2 kc2) (.slice (some ⟨gs3,0,none⟩) c.t kc3) (.slice A4 n4 kc4) (.slice A5 n5 kc5),.int .i64 0,.int .i64 3]) (by simp [results,Tryz.results67,go_sem,RV,e0,e1,e2,e3,e4,e5,e6,e7,e8,e9]) rfl ?_
 exact ⟨_,_,_,_,_,rfl,⟨H.out.f1.grown gE,H.out.f2.grown gE,H.out.f3.grown gE,H.out.f4.grown gE,H.out.f5.grown gE⟩,gE,.inl rfl,.inl rfl,.inl rfl,.inl rfl,.inl rfl⟩
set_option maxHeartbeats 4000000 in
theorem rMake_ok (w:World) (hi:Nat) (c:Cf) (s:St) (s1 s2 s3 s4 s5:Value) (h:RefS w hi c s s1 s2 s3 s4 s5) (hok:c.Ok) (hI:Inv c s) (hw:hi ≤ w.heap.size) (hl:s.ops.length ≤ 9999) (hl5:s.nodes.length ≤ 9999) (i:Nat) (hit:i < c.t) (op:Nat) (x:Cal) (ho:lookI s.ops op = some x) (e0:¬ at_ s.made i = 2 * c.k) (nd:Nat) (hnd:1 + c.b + i * (2 * c.k) + at_ s.made i = nd) :
  Calls Tryz.prog 67 #[RV c s1 s2 s3 s4 s5,.int .i64 i,.int .i64 op] w (RTell hi c ({ s with made:=bump s.made i,nodes:=s.nodes ++ [(nd,op)] },nd,0) s1 s2 s3 s4 s5 w):=by
 have HV:Hid (vNode c.t c.b c.i c.f c.k i (at_ s.made i) = (nd:Int)):=Lib.hid (by rw [← hnd];exact vNode_nat hok hit (by have:=hI.b3 i hit;omega))
 clear hnd
 have ht1:=hok.t1
 obtain ⟨gs3,kc3,rfl,-,hc3⟩:=h.f3.some ht1
 obtain ⟨A1,n1,kc1,rfl⟩:=h.f1.slice
 obtain ⟨A2,n2,kc2,rfl⟩:=h.f2.slice
 obtain ⟨A4,n4,kc4,rfl⟩:=h.f4.slice
 obtain ⟨A5,n5,kc5,rfl⟩:=h.f5.slice
 have H:=Lib.hid h
 have HOK:=Lib.hid hok
 have HN:=Lib.hid hI
 have HI:Hid (decide (0 ≤ (i:Int) ∧ (i:Int) < c.t) = true):=Lib.hid (decide_eq_true (by omega))
 have HO:=Lib.hid ho
 have l3:=hI.l3
 have b3':=hI.b3 i hit
 have ck2:=hok.k2
 have t8:=hok.t8
 have a3:w.cell? ⟨gs3,i,none⟩ = some (.int .i64 (at_ s.made i:Int)):=hc3 i _ (vNat_at (by omega))
 clear hc3 ho
 clear h hok hI
 unfold RV
 go_enter Tryz.func67,Tryz.ntmps67
 go_wp2_with fail
 refine (is_at _ hi c s _ _ _ _ _ (H.out.grown (by go_grown)) HOK.out i _ HI.out).mono ?_;rintro e w1 ⟨rfl,g1⟩
 obtain ⟨B3,B6,G⟩:=boxes2 (l1:=[.int .i64 c.t,.int .i64 c.b,.int .i64 c.i,.int .i64 c.f,.int .i64 c.k,.slice A1 n1 kc1,.slice A2 n2 kc2,.slice (some ⟨gs3,0,none⟩) c.t kc3,.slice A4 n4 kc4,.slice A5 n5 kc5]) (l2:=[.int .i64 0,.int .i64 0,.int .i64 0,.int .i64 0,.int .i64 0,.slice none 0 0,.slice none 0 0,.slice none 0 0,.slice none 0 0,.slice none 0 0]) g1
 replace B3:=Lib.hid B3
 replace B6:=Lib.hid B6
 have Q:But (Bx w.heap.size 2) w1 w1:=But.refl _ _
 clear g1
 replace a3:=gcell G a3
 have b0:=B3.out.cell 0 _ rfl
 have b1:=B3.out.cell 1 _ rfl
 have b2:=B3.out.cell 2 _ rfl
 have b3:=B3.out.cell 3 _ rfl
 have b4:=B3.out.cell 4 _ rfl
 have b5:=B3.out.cell 5 _ rfl
 have b6:=B3.out.cell 6 _ rfl
 have b7:=B3.out.cell 7 _ rfl
 have b8:=B3.out.cell 8 _ rfl
 have b9:=B3.out.cell 9 _ rfl
 have hlt3:=B3.out.lt
 go_wp2_with fail
 refine (find_at_ _ hi c s _ _ _ _ _ (H.out.grown G) HOK.out (by omega) op).mono ?_;rintro e w2 ⟨r,rfl,hr,m1⟩
 clear b0 b1 b2 b3 b4 b5 b6 b7 b8 b9 hlt3
 replace B3:=Lib.hid (B3.out.grown m1)
 replace B6:=Lib.hid (B6.out.grown m1)
 replace Q:=Q.trans (But.of_grown m1)
 obtain ⟨j,rfl⟩:∃ j:Nat,r = j:=by
  rcases hr with ⟨rfl,hs⟩ | ⟨j,y,rfl,-,-,hs⟩
  ·rw [HO.out] at hs;cases hs
  ·exact ⟨j,rfl⟩
 have ej:decide ((j:Int) < 0) = false:=decide_eq_false (by omega)
 replace a3:=gcell m1 a3
 clear hr m1
 have bb4:=B3.out.cell 4 _ rfl
 have bb7:=B3.out.cell 7 _ rfl
 have e3:((at_ s.made i:Int) == 2 * (c.k:Int)) = false:=by simp;omega
 have b0:=B3.out.cell 0 _ rfl
 have b1:=B3.out.cell 1 _ rfl
 have b2:=B3.out.cell 2 _ rfl
 have b3:=B3.out.cell 3 _ rfl
 go_wp2_with fail
 refine (rNode_at _ _ _ _ _ _ _ _ _ HV.out).mono ?_;rintro e w3 ⟨rfl,m2⟩
 clear b0 b1 b2 b3 bb4 bb7
 replace B3:=Lib.hid (B3.out.grown m2)
 replace B6:=Lib.hid (B6.out.grown m2)
 replace Q:=Q.trans (But.of_grown m2)
 clear m2
 have b7:=B3.out.cell 7 _ rfl
 go_wp2_with fail
 refine (more_at _ hi (w.heap.size + 2) _ s.made i (by omega) (by rw [l3];exact H.out.f3.grown (But.fresh G Q (fun i hi => hi.1))) (by have:=B6.out.lt;omega) (by omega) (by omega)).mono ?_;rintro e w4 ⟨v1,rfl,F1,m3⟩
 rw [l3] at F1
 obtain ⟨gn,kn,rfl,hn1,PN⟩:=F1.some ht1
 replace PN:Hid (RowIn w4 gn (vNat (bump s.made i))):=Lib.hid PN
 clear F1 b7
 have LN:gn < w4.heap.size:=PN.out.lt (by rw [vNat_len,length_bump];omega)
 replace B3:=Lib.hid (B3.out.grown m3)
 replace B6:=Lib.hid (B6.out.grown m3)
 replace Q:=Q.trans (But.of_grown m3)
 have Pn:=PN;have Ln:=LN;clear PN LN m3
 have b7:=B3.out.cell 7 _ rfl
 have qb7:=B3.out.free 7
 have b9:=B3.out.cell 9 _ rfl
 have hlt3:=B3.out.lt
 go_wp2_with (first | (at_builtin;refine stop ?_) | fail)
 clear b7 qb7 b9 hlt3
 have hsz:(w4.setCell ⟨w.heap.size,7,none⟩ (.slice (some ⟨gn,0,none⟩) c.t kn)).heap.size = w4.heap.size:=by simp
 have kv2:But (Bx w.heap.size 2) w4 (w4.setCell ⟨w.heap.size,7,none⟩ (.slice (some ⟨gn,0,none⟩) c.t kn)):=(But.refl _ _).setCell (.inl ⟨Nat.le_refl _,by show w.heap.size < w.heap.size + 2;omega⟩) _
 replace B3:=Lib.hid (B3.out.set (j:=7) (by simp) (.slice (some ⟨gn,0,none⟩) c.t kn))
 simp only [List.set_cons_succ,List.set_cons_zero] at B3
 replace B6:=Lib.hid (B6.out.put (a:=⟨w.heap.size,7,none⟩) (by show w.heap.size ≠ w.heap.size + 1;omega) (.slice (some ⟨gn,0,none⟩) c.t kn))
 replace Pn:=Lib.hid (Pn.out.but kv2 (bx_not (by omega)))
 replace Ln:=Nat.lt_of_lt_of_le Ln kv2.2.2
 replace Q:=Q.trans kv2
 generalize w4.setCell ⟨w.heap.size,7,none⟩ (.slice (some ⟨gn,0,none⟩) c.t kn) = v2 at *
 clear kv2
 have kv3:Grown v2 (v2.alloc (.cells #[] 213)):=by go_grown
 have hlt:=B6.out.lt
 have OWN:(v2.alloc (.cells #[] 213)).ownsRow (w.heap.size + 2) 213 2 (.slice (some ⟨v2.heap.size,0,none⟩) 0 0) 0 []:=own_made (by omega)
 have LO:v2.heap.size < (v2.alloc (.cells #[] 213)).heap.size:=by simp
 have hwa:w1.heap.size ≤ v2.heap.size:=Q.2.2
 have hba:w.heap.size + 2 ≤ v2.heap.size:=by omega
 have nna:gn ≠ v2.heap.size:=by omega
 rw [hsz] at OWN LO hwa hba nna
 clear hsz
 obtain ⟨ga,hga⟩:∃ q,w4.heap.size = q:=⟨_,rfl⟩
 rw [hga] at OWN LO hwa hba nna ⊢
 clear hga
 generalize v2.alloc (.cells #[] 213) = v3 at *
 replace OWN:=Lib.hid OWN
 have HVO:(Value.slice (some ⟨ga,0,none⟩) 0 0).ownBlock = some ga:=rfl
 replace B3:=Lib.hid (B3.out.grown kv3)
 replace B6:=Lib.hid (B6.out.grown kv3)
 replace Pn:=Lib.hid (Pn.out.grown kv3)
 replace Ln:=Nat.lt_of_lt_of_le Ln (kv3).2.2
 replace Q:=Q.trans (But.of_grown kv3)
 clear kv3 hlt
 have hlt:=B6.out.lt
 unfold Stop
 refine wpList_push rfl _ _ 38 rfl (w.heap.size + 2) 213 (.agg #[.int .i64 0,.int .i64 0]) 2 16 Tryz.underlying38 info_node rfl (by decide) _ 0 [] ga OWN.out HVO (.slice A5 n5 kc5) s.nodes.length hi (flatN s.nodes) (H.out.f5.grown (But.fresh G Q (fun i hi => hi.1))) (flatN_len _) (flatN_one _) (by omega) (by decide) (by omega) rfl rfl ?_
 intro v3 w3 g3 OWN3 hv3 hg3 q3
 try simp only [Nat.zero_add,List.nil_append] at OWN3
 have nnb:gn ≠ g3:=by omega
 have hwb:w1.heap.size ≤ g3:=by have:=Q.2.2;omega
 have hbb:w.heap.size + 2 ≤ g3:=by omega
 have LO3:g3 < w3.heap.size:=(OWN3.lt g3 hv3).2
 replace B3:=Lib.hid (B3.out.but q3 (show ¬ w.heap.size = ga by omega))
 replace B6:=Lib.hid (B6.out.but q3 (show ¬ w.heap.size + 1 = ga by omega))
 replace Pn:=Lib.hid (Pn.out.but q3 (show ¬ gn = ga by omega))
 replace Ln:=Nat.lt_of_lt_of_le Ln (q3).2.2
 have hq1:¬ ga < w1.heap.size:=by omega
 replace Q:=Q.over q3 hq1
 clear hq1
 clear OWN HVO LO q3 hg3 hlt hwa hba nna
 have OWN:=Lib.hid OWN3
 have HVO:=hv3
 have LO:=LO3
 clear OWN3 hv3 LO3
 go_wp2_with (first | (at_builtin;refine stop ?_) | fail)
 have kv4:Grown w3 (w3.alloc (.cells #[.int .i64 (nd:Int),.int .i64 (op:Int)] 213)):=by go_grown
 have hlt:=B6.out.lt
 have PC:Hid (RowIn (w3.alloc (.cells #[.int .i64 (nd:Int),.int .i64 (op:Int)] 213)) w3.heap.size [.int .i64 (nd:Int),.int .i64 (op:Int)]):=Lib.hid (RowIn.made _ _ _)
 have LC:w3.heap.size < (w3.alloc (.cells #[.int .i64 (nd:Int),.int .i64 (op:Int)] 213)).heap.size:=by simp
 have hbc:w.heap.size + 2 ≤ w3.heap.size:=by omega
 have ncb:w3.heap.size ≠ g3:=by omega
 obtain ⟨gc,hgc⟩:∃ q,w3.heap.size = q:=⟨_,rfl⟩
 rw [hgc] at PC LC hbc ncb ⊢
 clear hgc
 generalize w3.alloc (.cells #[.int .i64 (nd:Int),.int .i64 (op:Int)] 213) = v4 at *
 replace B3:=Lib.hid (B3.out.grown kv4)
 replace B6:=Lib.hid (B6.out.grown kv4)
 replace Pn:=Lib.hid (Pn.out.grown kv4)
 replace Ln:=Nat.lt_of_lt_of_le Ln (kv4).2.2
 replace OWN:=Lib.hid (own_but OWN.out HVO (S:=fun _ => False) kv4 (fun f => f))
 replace LO:=Nat.lt_of_lt_of_le LO (kv4).2.2
 replace Q:=Q.trans (But.of_grown kv4)
 have Pc:=PC;have Lc:=LC;clear PC LC kv4 hlt
 have hlt:=B6.out.lt
 unfold Stop
 refine wpList_push rfl _ _ 38 rfl (w.heap.size + 2) 213 (.agg #[.int .i64 0,.int .i64 0]) 2 16 Tryz.underlying38 info_node rfl (by decide) _ s.nodes.length (flatN s.nodes) g3 OWN.out HVO (.slice (some ⟨gc,0,none⟩) 1 1) 1 0 [.int .i64 (nd:Int),.int .i64 (op:Int)] (Pc.out.flat (by decide) (Nat.zero_le _)) rfl (two_one nd op) (by omega) (by decide) (by omega) rfl rfl ?_
 intro v8 w8 g8 OWN8 hv8 hg8 q8
 try simp only [Nat.zero_add,List.nil_append] at OWN8
 replace B3:=Lib.hid (B3.out.but q8 (show ¬ w.heap.size = g3 by omega))
 replace B6:=Lib.hid (B6.out.but q8 (show ¬ w.heap.size + 1 = g3 by omega))
 replace Pn:=Lib.hid (Pn.out.but q8 (show ¬ gn = g3 by omega))
 replace Ln:=Nat.lt_of_lt_of_le Ln (q8).2.2
 replace Pc:=Lib.hid (Pc.out.but q8 (show ¬ gc = g3 by omega))
 replace Lc:=Nat.lt_of_lt_of_le Lc (q8).2.2
 have hq1:¬ g3 < w1.heap.size:=by omega
 replace Q:=Q.over q8 hq1
 clear hq1
 clear OWN HVO LO q8 hlt hwb hbb nnb ncb
 obtain ⟨gz,kz,rfl,hbz,PZ⟩:=(FlatAt.of_own OWN8 (by omega)).some (by omega)
 have Pz:Hid (RowIn w8 gz (flatN s.nodes ++ [.int .i64 (nd:Int),.int .i64 (op:Int)])):=Lib.hid PZ
 clear PZ OWN8 hv8 hg8 Pc Lc hbc
 have bold:=B3.out.cell 9 _ rfl
 have qbold:=B3.out.free 9
 have kW:But (Bx w.heap.size 2) w8 (w8.setCell ⟨w.heap.size,9,none⟩ (.slice (some ⟨gz,0,none⟩) (s.nodes.length + 1) kz)):=(But.refl _ _).setCell (.inl ⟨Nat.le_refl _,by show w.heap.size < w.heap.size + 2;omega⟩) _
 replace B3:=Lib.hid (B3.out.set (j:=9) (by simp) (.slice (some ⟨gz,0,none⟩) (s.nodes.length + 1) kz))
 simp only [List.set_cons_succ,List.set_cons_zero] at B3
 replace B6:=Lib.hid (B6.out.put (a:=⟨w.heap.size,9,none⟩) (by show w.heap.size ≠ w.heap.size + 1;omega) (.slice (some ⟨gz,0,none⟩) (s.nodes.length + 1) kz))
 replace Pn:=Lib.hid (Pn.out.but kW (bx_not (by omega)))
 replace Pz:=Lib.hid (Pz.out.but kW (bx_not (by omega)))
 replace Q:=Q.trans kW
 clear kW
 have Lz:True:=trivial
 have b0:=B3.out.cell 0 _ rfl
 have b1:=B3.out.cell 1 _ rfl
 have b2:=B3.out.cell 2 _ rfl
 have b3:=B3.out.cell 3 _ rfl
 have b4:=B3.out.cell 4 _ rfl
 have b5:=B3.out.cell 5 _ rfl
 have b6:=B3.out.cell 6 _ rfl
 have b7:=B3.out.cell 7 _ rfl
 have b8:=B3.out.cell 8 _ rfl
 have b9:=B3.out.cell 9 _ rfl
 have c0:=B6.out.cell 0 _ rfl
 have c1:=B6.out.cell 1 _ rfl
 have c2:=B6.out.cell 2 _ rfl
 have c3:=B6.out.cell 3 _ rfl
 have c4:=B6.out.cell 4 _ rfl
 have c5:=B6.out.cell 5 _ rfl
 have c6:=B6.out.cell 6 _ rfl
 have c7:=B6.out.cell 7 _ rfl
 have c8:=B6.out.cell 8 _ rfl
 have c9:=B6.out.cell 9 _ rfl
 have qc0:=B6.out.free 0
 have qc1:=B6.out.free 1
 have qc2:=B6.out.free 2
 have qc3:=B6.out.free 3
 have qc4:=B6.out.free 4
 have qc5:=B6.out.free 5
 have qc6:=B6.out.free 6
 have qc7:=B6.out.free 7
 have qc8:=B6.out.free 8
 have qc9:=B6.out.free 9
 have hlt:=B6.out.lt
 have hlt3:=B3.out.lt
 go_wp2_with fail
 have B2:=B6.out.fill rfl (.int .i64 c.t) (.int .i64 c.b) (.int .i64 c.i) (.int .i64 c.f) (.int .i64 c.k) (.slice A1 n1 kc1) (.slice A2 n2 kc2) (.slice (some ⟨gn,0,none⟩) c.t kn) (.slice A4 n4 kc4) (.slice (some ⟨gz,0,none⟩) (s.nodes.length + 1) kz)
 have e0:=B2.cell 0 _ rfl
 have e1:=B2.cell 1 _ rfl
 have e2:=B2.cell 2 _ rfl
 have e3:=B2.cell 3 _ rfl
 have e4:=B2.cell 4 _ rfl
 have e5:=B2.cell 5 _ rfl
 have e6:=B2.cell 6 _ rfl
 have e7:=B2.cell 7 _ rfl
 have e8:=B2.cell 8 _ rfl
 have e9:=B2.cell 9 _ rfl
 have kS:=(But.refl (Bx w.heap.size 2) (w8.setCell ⟨w.heap.size,9,none⟩ (.slice (some ⟨gz,0,none⟩) (s.nodes.length + 1) kz))).fill (b:=w.heap.size + 1) (.inl ⟨by omega,by omega⟩) (.int .i64 c.t) (.int .i64 c.b) (.int .i64 c.i) (.int .i64 c.f) (.int .i64 c.k) (.slice A1 n1 kc1) (.slice A2 n2 kc2) (.slice (some ⟨gn,0,none⟩) c.t kn) (.slice A4 n4 kc4) (.slice (some ⟨gz,0,none⟩) (s.nodes.length + 1) kz)
 have gE:=But.fresh G (Q.trans kS) (fun i hi => hi.1)
 replace Pn:=Lib.hid (Pn.out.but kS (bx_not (by omega)))
 replace Pz:=Lib.hid (Pz.out.but kS (bx_not (by omega)))
 refine bodyPost_ret (v:=.tuple #[RV c (.slice A1 n1 kc1) (.slice A2 n2 kc2) (.slice (some ⟨gn,0,none⟩) c.t kn) (.slice A4 n4 kc4) (.slice (some ⟨gz,0,none⟩) (s.nodes.length + 1) kz),.int .i64 (nd:Int),.int .i64 0]) (by simp [results,Tryz.results67,go_sem,RV,e0,e1,e2,e3,e4,e5,e6,e7,e8,e9]) rfl ?_
 exact ⟨_,_,_,_,_,rfl,⟨H.out.f1.grown gE,H.out.f2.grown gE,Pn.out.flat ht1 (by omega),H.out.f4.grown gE,(by rw [flatN_app,List.length_append];exact Pz.out.flat (by simp) (by omega))⟩,gE,.inl rfl,.inl rfl,.inr (Pn.out.flat ht1 (by omega)),.inl rfl,.inr ((by rw [flatN_app,List.length_append];exact Pz.out.flat (by simp) (by omega)))⟩
end Go.Proofs.YtcogckjpmmjmbaaGreat
namespace Go.Proofs.YtcogckjpmmjmbaaGreat
open Go.ChangeShapes Go.WideShapes Go.ChangeAt Go.RowKit
set_option maxRecDepth 100000
set_option linter.unusedVariables false
theorem rMake_any (w:World) (hi:Nat) (c:Cf) (s:St) (s1 s2 s3 s4 s5:Value) (h:RefS w hi c s s1 s2 s3 s4 s5) (hok:c.Ok) (hI:Inv c s) (hw:hi ≤ w.heap.size) (hl:s.ops.length ≤ 9999) (hl5:s.nodes.length ≤ 9999) (th op:Int) (r:St × Nat × Nat) (hr:makeI c s th op = r) :
  Calls Tryz.prog 67 #[RV c s1 s2 s3 s4 s5,.int .i64 th,.int .i64 op] w (RTell hi c r s1 s2 s3 s4 s5 w):=by
 subst hr
 unfold makeI
 by_cases ht:th < 0 ∨ c.t ≤ th
 ·rw [if_pos (ht.elim .inl (fun q => .inr (.inl q)))]
  exact rMake_noThread w hi c s s1 s2 s3 s4 s5 h hok hI hw hl hl5 th op ht
 ·obtain ⟨i,rfl⟩:∃ i:Nat,th = i:=⟨th.toNat,by omega⟩
  have hit:i < c.t:=by omega
  cases ho:lookI s.ops op with
  | none =>
   rw [if_pos (.inr (.inr rfl))]
   exact rMake_noOp w hi c s s1 s2 s3 s4 s5 h hok hI hw hl hl5 i hit op ho
  | some x =>
   rw [if_neg (by simp;omega)]
   obtain ⟨n,rfl⟩:∃ n:Nat,op = n:=by
    by_cases h0:op < 0
    ·simp [lookI,h0] at ho
    ·exact ⟨op.toNat,by omega⟩
   simp only [Int.toNat_natCast]
   unfold makeS
   by_cases e1:at_ s.made i = 2 * c.k
   ·rw [if_pos e1];exact rMake_full w hi c s s1 s2 s3 s4 s5 h hok hI hw hl hl5 i hit n x ho e1
   ·rw [if_neg e1];exact rMake_ok w hi c s s1 s2 s3 s4 s5 h hok hI hw hl hl5 i hit n x ho e1 _ rfl
def Off (v:Value) (b:Nat):Prop:=∀ g n k,v = .slice (some ⟨g,0,none⟩) n k → g ≠ b
theorem FlatAt.off {w:World} {lo n b:Nat} {v:Value} {cells:List Value} (h:FlatAt w lo v cells n) (hc:0 < n → cells ≠ []) (hb:w.heap.size ≤ b):Off v b:=by
 intro g m k e
 rcases h with ⟨-,-,rfl⟩ | ⟨hn,g',cap,rfl,-,hcell⟩
 ·cases e
 ·cases e
  have hne:=hc hn
  have:=World.block_lt_of_cell? w _ (hcell 0 _ (List.getElem?_eq_getElem (List.length_pos_iff.2 hne)))
  have:g < w.heap.size:=this
  omega
theorem FlatAt.offNew {w:World} {lo n b:Nat} {v:Value} {cells:List Value} (h:FlatAt w lo v cells n) (hb:b < lo):Off v b:=by
 intro g m k e
 rcases h with ⟨-,-,rfl⟩ | ⟨hn,g',cap,rfl,hlo,hcell⟩
 ·cases e
 ·cases e;omega
theorem FlatAt.offBut {w w':World} {lo n b:Nat} {v:Value} {cells:List Value} (h:FlatAt w lo v cells n) (ho:Off v b) (q:But (· = b) w w'):FlatAt w' lo v cells n:=by
 rcases h with h | ⟨h0,g,cap,rfl,hlo,hc⟩
 ·exact .inl h
 ·exact .inr ⟨h0,g,cap,rfl,hlo,fun j u hu => q.cell (ho g _ _ rfl) (hc j u hu)⟩
theorem vNat_ne {l:List Nat} {n:Nat} (h:l.length = n):0 < n → vNat l ≠ []:=fun hn e => by have:=congrArg List.length e;simp [vNat] at this;subst this;simp at h;omega
end Go.Proofs.YtcogckjpmmjmbaaGreat
