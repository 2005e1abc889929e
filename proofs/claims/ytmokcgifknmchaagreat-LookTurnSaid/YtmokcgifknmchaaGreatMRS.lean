/- The document's world in a variable that is stored anew: its rows lie elsewhere. -/
import Derived.Test.YtmokcgifknmchaaGreatMBkRefB
import Derived.Test.YtmokcgifknmchaaGreatMRefW
import Derived.Test.YtmokcgifknmchaaGreatLaid
import Derived.Test.YtmokcgifknmchaaGreatMWRefB
namespace Go.Proofs.YtmokcgifknmchaaGreat
open Go.ChangeShapes Go.WideShapes Go.ChangeAt Go.RowKit
set_option maxRecDepth 100000
set_option linter.unusedVariables false
structure OffS (sl:Sl) (T:Nat):Prop where
 o1:Off (.slice sl.a1 sl.m1 sl.k1) T
 o2:Off (.slice sl.a2 sl.m2 sl.k2) T
 o3:Off (.slice sl.a3 sl.m3 sl.k3) T
 o4:Off (.slice sl.a4 sl.m4 sl.k4) T
 o5:Off (.slice sl.a5 sl.m5 sl.k5) T
def RefL (w:World) (c:Cf) (s:St) (sl:Sl):Prop:=RefS w 0 c s (.slice sl.a1 sl.m1 sl.k1) (.slice sl.a2 sl.m2 sl.k2) (.slice sl.a3 sl.m3 sl.k3) (.slice sl.a4 sl.m4 sl.k4) (.slice sl.a5 sl.m5 sl.k5)
theorem RefL.put {w w':World} {c:Cf} {s:St} {sl:Sl} {T:Nat} (h:RefL w c s sl) (o:OffS sl T) (q:But (· = T) w w'):RefL w' c s sl :=
 ⟨h.f1.offBut o.o1 q,h.f2.offBut o.o2 q,h.f3.offBut o.o3 q,h.f4.offBut o.o4 q,h.f5.offBut o.o5 q⟩
theorem RefL.grown {w w':World} {c:Cf} {s:St} {sl:Sl} (h:RefL w c s sl) (q:Grown w w'):RefL w' c s sl:=RefS.grown h q
theorem RwAt.put {w w':World} {c:Cf} {b q:Nat} {ws:List Int} {s:St} {sl:Sl} {T:Nat} (h:RwAt w 0 c b q ws s sl) (o:OffS sl T) (hb:b ≠ T) (g:But (· = T) w w'):RwAt w' 0 c b q ws s sl :=
 ⟨h.holds.but g hb,h.len,h.few,RefL.put h.refs o g,h.lo⟩
theorem off_or {w:World} {n T:Nat} {t s:Value} {cells:List Value} {w':World} (h:t = s ∨ FlatAt w' w.heap.size t cells n) (o:Off s T) (hT:T < w.heap.size):Off t T:=by
 rcases h with rfl | h
 ·exact o
 ·exact h.offNew hT
end Go.Proofs.YtmokcgifknmchaaGreat
namespace Go.Proofs.YtmokcgifknmchaaGreat
open Go.ChangeShapes Go.WideShapes Go.ChangeAt Go.RowKit
set_option maxRecDepth 100000
set_option linter.unusedVariables false
theorem flatC_ne {l:List (Nat × Cal)}:0 < l.length → flatC l ≠ []:=fun hn e => by have:=congrArg List.length e;rw [flatC_len,List.length_nil] at this;omega
theorem flatN_ne {l:List (Nat × Nat)}:0 < l.length → flatN l ≠ []:=fun hn e => by have:=congrArg List.length e;rw [flatN_len,List.length_nil] at this;omega
def BkL (c:Cf) (sl:Sl):List Value:=[.int .i64 c.t,.int .i64 c.b,.int .i64 c.i,.int .i64 c.f,.int .i64 c.k,.slice sl.a1 sl.m1 sl.k1,.slice sl.a2 sl.m2 sl.k2,.slice sl.a3 sl.m3 sl.k3,.slice sl.a4 sl.m4 sl.k4,.slice sl.a5 sl.m5 sl.k5]
def zBk:List Value:=[.int .i64 0,.int .i64 0,.int .i64 0,.int .i64 0,.int .i64 0,.slice none 0 0,.slice none 0 0,.slice none 0 0,.slice none 0 0,.slice none 0 0]
def RefH (w:World) (hi:Nat) (c:Cf) (s:St) (sl:Sl):Prop:=RefS w hi c s (.slice sl.a1 sl.m1 sl.k1) (.slice sl.a2 sl.m2 sl.k2) (.slice sl.a3 sl.m3 sl.k3) (.slice sl.a4 sl.m4 sl.k4) (.slice sl.a5 sl.m5 sl.k5)
theorem RefH.put {w w':World} {hi:Nat} {c:Cf} {s:St} {sl:Sl} {T:Nat} (h:RefH w hi c s sl) (o:OffS sl T) (q:But (· = T) w w'):RefH w' hi c s sl :=
 ⟨h.f1.offBut o.o1 q,h.f2.offBut o.o2 q,h.f3.offBut o.o3 q,h.f4.offBut o.o4 q,h.f5.offBut o.o5 q⟩
theorem RefH.grown {w w':World} {hi:Nat} {c:Cf} {s:St} {sl:Sl} (h:RefH w hi c s sl) (q:Grown w w'):RefH w' hi c s sl:=RefS.grown h q
theorem RefH.offNew {w:World} {hi:Nat} {c:Cf} {s:St} {sl:Sl} (h:RefH w hi c s sl) (hI:Inv c s) {X:Nat} (hX:w.heap.size ≤ X):OffS sl X :=
 ⟨h.f1.off (vNat_ne hI.l1) hX,h.f2.off (vNat_ne hI.l2) hX,h.f3.off (vNat_ne hI.l3) hX,h.f4.off flatC_ne hX,h.f5.off flatN_ne hX⟩
theorem RefH.offOld {w:World} {hi:Nat} {c:Cf} {s:St} {sl:Sl} (h:RefH w hi c s sl) {X:Nat} (hX:X < hi):OffS sl X :=
 ⟨h.f1.offNew hX,h.f2.offNew hX,h.f3.offNew hX,h.f4.offNew hX,h.f5.offNew hX⟩
theorem rtell_h {hi:Nat} {c:Cf} {r:St × Nat × Nat} {sl:Sl} {w:World} {e:Ending} {w':World}
  (h:RTell hi c r (.slice sl.a1 sl.m1 sl.k1) (.slice sl.a2 sl.m2 sl.k2) (.slice sl.a3 sl.m3 sl.k3) (.slice sl.a4 sl.m4 sl.k4) (.slice sl.a5 sl.m5 sl.k5) w e w') :
  ∃ sl':Sl,e = .returned (.tuple #[.agg (BkL c sl').toArray,.int .i64 r.2.1,.int .i64 r.2.2]) ∧ RefH w' hi c r.1 sl' ∧ Grown w w' ∧ ∀ T,OffS sl T → T < w.heap.size → OffS sl' T:=by
 obtain ⟨t1,t2,t3,t4,t5,rfl,hr,hg,h1,h2,h3,h4,h5⟩:=h
 obtain ⟨⟨A1,m1,j1,rfl⟩,⟨A2,m2,j2,rfl⟩,⟨A3,m3,j3,rfl⟩,⟨A4,m4,j4,rfl⟩,⟨A5,m5,j5,rfl⟩⟩:=hr.slices
 exact ⟨⟨A1,m1,j1,A2,m2,j2,A3,m3,j3,A4,m4,j4,A5,m5,j5⟩,rfl,hr,hg,fun T o hT => ⟨off_or h1 o.o1 hT,off_or h2 o.o2 hT,off_or h3 o.o3 hT,off_or h4 o.o4 hT,off_or h5 o.o5 hT⟩⟩
def RQ1 (c:Cf) (sl:Sl) (b0 q:Nat) (ws:List Int) (n:Int) (w:World) (e:Ending) (w':World):Prop :=
 ∃ b cap,e = .returned (.agg (RwL c b q cap n sl).toArray) ∧ Grown w w' ∧ Holds w' b ws ∧ (b = b0 ∨ w.heap.size ≤ b)
def RQu (c:Cf) (sl:Sl) (b0 q:Nat) (ws:List Int) (n r:Int) (w:World) (e:Ending) (w':World):Prop :=
 ∃ b cap,e = .returned (.tuple #[.agg (RwL c b q cap n sl).toArray,.int .u64 r]) ∧ Grown w w' ∧ Holds w' b ws ∧ (b = b0 ∨ w.heap.size ≤ b)
def RQb (c:Cf) (sl:Sl) (b0 q:Nat) (ws:List Int) (n:Int) (r:Bool) (w:World) (e:Ending) (w':World):Prop :=
 ∃ b cap,e = .returned (.tuple #[.agg (RwL c b q cap n sl).toArray,.bool r]) ∧ Grown w w' ∧ Holds w' b ws ∧ (b = b0 ∨ w.heap.size ≤ b)
theorem rqSet (w:World) (c:Cf) (sl:Sl) (b q cap:Nat) (ws:List Int) (n:Int) (i v:Int) (hq:ws.length = q) (hc:Holds w b ws) (hf:q ≤ 1048576) (hn:0 ≤ n) (hn':n < 4611686018427387904):Calls Tryz.prog 64 #[.agg (RwL c b q cap n sl).toArray,.int .i64 i,.int .u64 v] w (RQ1 c sl b q (wr ws (nxtI c i) v) (n + cnt ws (nxtI c i)) w):=by
 subst hq
 refine (rwSet_any w c sl b cap ws n i v hc hf hn hn').mono ?_
 rintro e w' ⟨b',cap',rfl,g,hh,ho⟩
 exact ⟨b',cap',by rw [length_wr];rfl,g,hh,ho⟩
theorem rqTurn (w:World) (c:Cf) (sl:Sl) (b q cap:Nat) (ws:List Int) (n:Int) (i old v:Int) (hq:ws.length = q) (hc:Holds w b ws) (hf:q ≤ 1048576) (hn:0 ≤ n) (hn':n < 4611686018427387904):Calls Tryz.prog 61 #[.agg (RwL c b q cap n sl).toArray,.int .i64 i,.int .u64 old,.int .u64 v] w (RQb c sl b q (sw ws (wrdI c i) old v) (n + cnt ws (wrdI c i)) (may ws (wrdI c i) old) w):=by
 subst hq
 refine (rwTurn_any w c sl b cap ws n i old v hc hf hn hn').mono ?_
 rintro e w' ⟨b',cap',rfl,g,hh,ho⟩
 exact ⟨b',cap',by rw [length_sw];rfl,g,hh,ho⟩
theorem rqLink (w:World) (c:Cf) (sl:Sl) (b q cap:Nat) (ws:List Int) (n:Int) (i old v:Int) (hq:ws.length = q) (hc:Holds w b ws) (hf:q ≤ 1048576) (hn:0 ≤ n) (hn':n < 4611686018427387904):Calls Tryz.prog 94 #[.agg (RwL c b q cap n sl).toArray,.int .i64 i,.int .u64 old,.int .u64 v] w (RQb c sl b q (sw ws (nxtI c i) old v) (n + cnt ws (nxtI c i)) (may ws (nxtI c i) old) w):=by
 subst hq
 refine (rwLink_any w c sl b cap ws n i old v hc hf hn hn').mono ?_
 rintro e w' ⟨b',cap',rfl,g,hh,ho⟩
 exact ⟨b',cap',by rw [length_sw];rfl,g,hh,ho⟩
theorem rqNext (w:World) (c:Cf) (sl:Sl) (b q cap:Nat) (ws:List Int) (n:Int) (i:Int) (hq:ws.length = q) (hc:Holds w b ws) (hf:q ≤ 1048576) (hn:0 ≤ n) (hn':n < 4611686018427387904):Calls Tryz.prog 163 #[.agg (RwL c b q cap n sl).toArray,.int .i64 i] w (RQu c sl b q ws (n + cnt ws (nxtI c i)) (rd ws (nxtI c i)) w):=by
 subst hq
 refine (rwNext_any w c sl b cap ws n i hc hf hn hn').mono ?_
 rintro e w' ⟨b',cap',rfl,g,hh,ho⟩
 exact ⟨b',cap',rfl,g,hh,ho⟩
theorem rqWord (w:World) (c:Cf) (sl:Sl) (b q cap:Nat) (ws:List Int) (n:Int) (i:Int) (hq:ws.length = q) (hc:Holds w b ws) (hf:q ≤ 1048576) (hn:0 ≤ n) (hn':n < 4611686018427387904):Calls Tryz.prog 96 #[.agg (RwL c b q cap n sl).toArray,.int .i64 i] w (RQu c sl b q ws (n + cnt ws (wrdI c i)) (rd ws (wrdI c i)) w):=by
 subst hq
 refine (rwWord_any w c sl b cap ws n i hc hf hn hn').mono ?_
 rintro e w' ⟨b',cap',rfl,g,hh,ho⟩
 exact ⟨b',cap',rfl,g,hh,ho⟩
structure RS (hi:Nat) (c:Cf) (T:Nat) (w0:World) (ws:List Int) (n:Int) (s:St) (bk cp:Nat) (sl:Sl) (w:World):Prop where
 q:But (· = T) w0 w
 box:Box w T (RwL c bk c.len cp n sl)
 holds:Holds w bk ws
 len:ws.length = c.len
 refs:RefH w hi c s sl
 lo:hi ≤ bk
 off:OffS sl T
 ne:bk ≠ T
theorem RS.grown {hi:Nat} {c:Cf} {T:Nat} {w0 w w':World} {ws:List Int} {n:Int} {s:St} {bk cp:Nat} {sl:Sl} (h:RS hi c T w0 ws n s bk cp sl w) (g:Grown w w'):RS hi c T w0 ws n s bk cp sl w' :=
 ⟨h.q.trans (But.of_grown g),h.box.grown g,h.holds.grown g,h.len,h.refs.grown g,h.lo,h.off,h.ne⟩
theorem RS.lt {hi:Nat} {c:Cf} {T:Nat} {w0 w:World} {ws:List Int} {n:Int} {s:St} {bk cp:Nat} {sl:Sl} (h:RS hi c T w0 ws n s bk cp sl w):T < w.heap.size:=h.box.lt
theorem RS.book {hi:Nat} {c:Cf} {T:Nat} {w0 w w2:World} {ws:List Int} {n:Int} {s s':St} {bk cp:Nat} {sl sl':Sl} (h:RS hi c T w0 ws n s bk cp sl w) (hr:RefH w hi c s' sl') (ho:OffS sl' T) (hq:But (· = T) w w2) (hb:Box w2 T (RwL c bk c.len cp n sl')) :
  RS hi c T w0 ws n s' bk cp sl' w2 :=
 ⟨h.q.trans hq,hb,h.holds.but hq h.ne,h.len,RefH.put hr ho hq,h.lo,ho,h.ne⟩
theorem RS.words {hi:Nat} {c:Cf} {T:Nat} {w0 w w2:World} {ws ws':List Int} {n n':Int} {s:St} {bk bk' cp cp':Nat} {sl:Sl} (h:RS hi c T w0 ws n s bk cp sl w) (hh:Holds w bk' ws') (hl:ws'.length = ws.length) (hlo:hi ≤ bk') (hn:bk' ≠ T) (hq:But (· = T) w w2)
  (hb:Box w2 T (RwL c bk' c.len cp' n' sl)):RS hi c T w0 ws' n' s bk' cp' sl w2 :=
 ⟨h.q.trans hq,hb,hh.but hq hn,hl.trans h.len,RefH.put h.refs h.off hq,hlo,h.off,hn⟩
theorem Pack_r {n:Int} {m:Bool} {v:Int} (w:World) (h:zPack n m = v) (h0:-9223372036854775808 ≤ n) (h1:n ≤ 9223372036854775807) :
  Calls Tryz.prog 57 #[.int .i64 n,.bool m] w fun e w' => e = .returned (.int .u64 v) ∧ Grown w w':=by rw [← h];exact refPack_any n m w h0 h1
theorem Marked_r {a:Int} {v:Bool} (w:World) (h:(a % 2 == 1) = v) (h0:0 ≤ a) (h1:a ≤ 18446744073709551615) :
  Calls Tryz.prog 58 #[.int .u64 a] w fun e w' => e = .returned (.bool v) ∧ Grown w w':=by rw [← h];exact refMarked_any a w h0 h1
end Go.Proofs.YtmokcgifknmchaaGreat
