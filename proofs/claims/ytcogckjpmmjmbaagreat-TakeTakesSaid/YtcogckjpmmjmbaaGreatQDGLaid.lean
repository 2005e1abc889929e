/- The world of a scene, of the program (corrielaw09.lay). -/
import Derived.Test.YtcogckjpmmjmbaaGreatQDMScene
import Derived.Test.YtcogckjpmmjmbaaGreatQDMWorld
import Derived.Test.YtcogckjpmmjmbaaGreatQDMBkRefB
import Derived.Test.YtcogckjpmmjmbaaGreatQDMRefW
import Derived.Test.YtcogckjpmmjmbaaGreatQDMWRefB
import Derived.Test.YtcogckjpmmjmbaaGreatQDMSound
namespace Go.Proofs.YtcogckjpmmjmbaaGreat
open Go.ChangeShapes Go.WideShapes Go.ChangeAt Go.RowKit
set_option maxRecDepth 100000
set_option linter.unusedVariables false
def Ow (d:Wd):Nat → Prop:=fun i => Own d.a i ∨ Mine d.p d.b i
def LaidAt (c:Cf) (ws:List Int) (n:Int) (s:St) (w:World) (e:Ending) (w':World):Prop :=
 ∃ d:Wd,e = .returned (.pointer (some ⟨d.x,0,none⟩)) ∧ Grown w w' ∧ WdAt w' c d ws n s ∧ ∀ i,Ow d i → w.heap.size ≤ i
theorem WdAt.ow_lt {w:World} {c:Cf} {d:Wd} {ws:List Int} {n:Int} {s:St} (h:WdAt w c d ws n s) {i:Nat} (hi:w.heap.size ≤ i):¬ Ow d i:=by
 rintro (h1 | h1)
 ·exact h.book.own hi h1
 ·exact h.new hi h1
theorem WdAt.ow_x {w:World} {c:Cf} {d:Wd} {ws:List Int} {n:Int} {s:St} (h:WdAt w c d ws n s):¬ Ow d d.x:=by
 rintro (h1 | h1)
 ·have:=h.o3;have:=h1.2;omega
 ·exact h.mine h1
theorem LyOk.a {c:Cf} {L:Ly} {k:Nat} (h:LyOk c L k) {x:It} (h0:0 ≤ x.word) (h1:x.word ≤ 18446744073709551615):Inv c (lyA c L x).s ∧ WOk (lyA c L x).ws ∧ 0 ≤ (lyA c L x).n ∧ (lyA c L x).n ≤ 3 * k + 1:=by
 have i0:=h.n0;have i1:=h.n1
 have b2:=cnt_le L.ws (wrdI c ((beginI c L.s 0 ⟨1,x.key,x.val,0⟩).2.1:Nat))
 exact ⟨h.inv.beginI _ _,h.wok.sw _ _ _ h0 h1,by simp only [lyA];omega,by simp only [lyA];omega⟩
theorem lyC_inv {c:Cf}:∀ (xs:List Cal) {s:St},Inv c s → Inv c (lyC c s xs)
 | [],s,h => h
 | x :: r,s,h => lyC_inv r (h.beginI 2 x)
end Go.Proofs.YtcogckjpmmjmbaaGreat
namespace Go.Proofs.YtcogckjpmmjmbaaGreat
open Go.ChangeShapes Go.WideShapes Go.ChangeAt Go.RowKit
set_option maxRecDepth 100000
set_option linter.unusedVariables false
structure OffS (sl:Sl) (T:Nat):Prop where
 o1:Off (.slice sl.a1 sl.m1 sl.k1) T
 o2:Off (.slice sl.a2 sl.m2 sl.k2) T
 o3:Off (.slice sl.a3 sl.m3 sl.k3) T
 o4:Off (.slice sl.a4 sl.m4 sl.k4) T
 o5:Off (.slice sl.a5 sl.m5 sl.k5) T
def RefL (w:World) (c:Cf) (s:St) (sl:Sl):Prop:=RefS w 0 c s (.slice sl.a1 sl.m1 sl.k1) (.slice sl.a2 sl.m2 sl.k2) (.slice sl.a3 sl.m3 sl.k3) (.slice sl.a4 sl.m4 sl.k4) (.slice sl.a5 sl.m5 sl.k5)
theorem RefL.put {w w':World} {c:Cf} {s:St} {sl:Sl} {T:Nat} (h:RefL w c s sl) (o:OffS sl T) (q:But (· = T) w w'):RefL w' c s sl :=
 ⟨h.f1.offBut o.o1 q,h.f2.offBut o.o2 q,h.f3.offBut o.o3 q,h.f4.offBut o.o4 q,h.f5.offBut o.o5 q⟩
theorem RefL.grown {w w':World} {c:Cf} {s:St} {sl:Sl} (h:RefL w c s sl) (q:Grown w w'):RefL w' c s sl:=RefS.grown h q
theorem RwAt.put {w w':World} {c:Cf} {b q:Nat} {ws:List Int} {s:St} {sl:Sl} {T:Nat} (h:RwAt w 0 c b q ws s sl) (o:OffS sl T) (hb:b ≠ T) (g:But (· = T) w w'):RwAt w' 0 c b q ws s sl :=
 ⟨h.holds.but g hb,h.len,h.few,RefL.put h.refs o g,h.lo⟩
theorem off_or {w:World} {n T:Nat} {t s:Value} {cells:List Value} {w':World} (h:t = s ∨ FlatAt w' w.heap.size t cells n) (o:Off s T) (hT:T < w.heap.size):Off t T:=by
 rcases h with rfl | h
 ·exact o
 ·exact h.offNew hT
end Go.Proofs.YtcogckjpmmjmbaaGreat
namespace Go.Proofs.YtcogckjpmmjmbaaGreat
open Go.ChangeShapes Go.WideShapes Go.ChangeAt Go.RowKit
set_option maxRecDepth 100000
set_option linter.unusedVariables false
theorem flatC_ne {l:List (Nat × Cal)}:0 < l.length → flatC l ≠ []:=fun hn e => by have:=congrArg List.length e;rw [flatC_len,List.length_nil] at this;omega
theorem flatN_ne {l:List (Nat × Nat)}:0 < l.length → flatN l ≠ []:=fun hn e => by have:=congrArg List.length e;rw [flatN_len,List.length_nil] at this;omega
def BkL (c:Cf) (sl:Sl):List Value:=[.int .i64 c.t,.int .i64 c.b,.int .i64 c.i,.int .i64 c.f,.int .i64 c.k,.slice sl.a1 sl.m1 sl.k1,.slice sl.a2 sl.m2 sl.k2,.slice sl.a3 sl.m3 sl.k3,.slice sl.a4 sl.m4 sl.k4,.slice sl.a5 sl.m5 sl.k5]
def zBk:List Value:=[.int .i64 0,.int .i64 0,.int .i64 0,.int .i64 0,.int .i64 0,.slice none 0 0,.slice none 0 0,.slice none 0 0,.slice none 0 0,.slice none 0 0]
def RefH (w:World) (hi:Nat) (c:Cf) (s:St) (sl:Sl):Prop:=RefS w hi c s (.slice sl.a1 sl.m1 sl.k1) (.slice sl.a2 sl.m2 sl.k2) (.slice sl.a3 sl.m3 sl.k3) (.slice sl.a4 sl.m4 sl.k4) (.slice sl.a5 sl.m5 sl.k5)
theorem RefH.put {w w':World} {hi:Nat} {c:Cf} {s:St} {sl:Sl} {T:Nat} (h:RefH w hi c s sl) (o:OffS sl T) (q:But (· = T) w w'):RefH w' hi c s sl :=
 ⟨h.f1.offBut o.o1 q,h.f2.offBut o.o2 q,h.f3.offBut o.o3 q,h.f4.offBut o.o4 q,h.f5.offBut o.o5 q⟩
theorem RefH.grown {w w':World} {hi:Nat} {c:Cf} {s:St} {sl:Sl} (h:RefH w hi c s sl) (q:Grown w w'):RefH w' hi c s sl:=RefS.grown h q
theorem RefH.offNew {w:World} {hi:Nat} {c:Cf} {s:St} {sl:Sl} (h:RefH w hi c s sl) (hI:Inv c s) {X:Nat} (hX:w.heap.size ≤ X):OffS sl X :=
 ⟨h.f1.off (vNat_ne hI.l1) hX,h.f2.off (vNat_ne hI.l2) hX,h.f3.off (vNat_ne hI.l3) hX,h.f4.off flatC_ne hX,h.f5.off flatN_ne hX⟩
theorem RefH.offOld {w:World} {hi:Nat} {c:Cf} {s:St} {sl:Sl} (h:RefH w hi c s sl) {X:Nat} (hX:X < hi):OffS sl X :=
 ⟨h.f1.offNew hX,h.f2.offNew hX,h.f3.offNew hX,h.f4.offNew hX,h.f5.offNew hX⟩
theorem rtell_h {hi:Nat} {c:Cf} {r:St × Nat × Nat} {sl:Sl} {w:World} {e:Ending} {w':World}
  (h:RTell hi c r (.slice sl.a1 sl.m1 sl.k1) (.slice sl.a2 sl.m2 sl.k2) (.slice sl.a3 sl.m3 sl.k3) (.slice sl.a4 sl.m4 sl.k4) (.slice sl.a5 sl.m5 sl.k5) w e w') :
  ∃ sl':Sl,e = .returned (.tuple #[.agg (BkL c sl').toArray,.int .i64 r.2.1,.int .i64 r.2.2]) ∧ RefH w' hi c r.1 sl' ∧ Grown w w' ∧ ∀ T,OffS sl T → T < w.heap.size → OffS sl' T:=by
 obtain ⟨t1,t2,t3,t4,t5,rfl,hr,hg,h1,h2,h3,h4,h5⟩:=h
 obtain ⟨⟨A1,m1,j1,rfl⟩,⟨A2,m2,j2,rfl⟩,⟨A3,m3,j3,rfl⟩,⟨A4,m4,j4,rfl⟩,⟨A5,m5,j5,rfl⟩⟩:=hr.slices
 exact ⟨⟨A1,m1,j1,A2,m2,j2,A3,m3,j3,A4,m4,j4,A5,m5,j5⟩,rfl,hr,hg,fun T o hT => ⟨off_or h1 o.o1 hT,off_or h2 o.o2 hT,off_or h3 o.o3 hT,off_or h4 o.o4 hT,off_or h5 o.o5 hT⟩⟩
def RQ1 (c:Cf) (sl:Sl) (b0 q:Nat) (ws:List Int) (n:Int) (w:World) (e:Ending) (w':World):Prop :=
 ∃ b cap,e = .returned (.agg (RwL c b q cap n sl).toArray) ∧ Grown w w' ∧ Holds w' b ws ∧ (b = b0 ∨ w.heap.size ≤ b)
def RQb (c:Cf) (sl:Sl) (b0 q:Nat) (ws:List Int) (n:Int) (r:Bool) (w:World) (e:Ending) (w':World):Prop :=
 ∃ b cap,e = .returned (.tuple #[.agg (RwL c b q cap n sl).toArray,.bool r]) ∧ Grown w w' ∧ Holds w' b ws ∧ (b = b0 ∨ w.heap.size ≤ b)
theorem rqSet (w:World) (c:Cf) (sl:Sl) (b q cap:Nat) (ws:List Int) (n:Int) (i v:Int) (hq:ws.length = q) (hc:Holds w b ws) (hf:q ≤ 1048576) (hn:0 ≤ n) (hn':n < 4611686018427387904):Calls Tryz.prog 69 #[.agg (RwL c b q cap n sl).toArray,.int .i64 i,.int .u64 v] w (RQ1 c sl b q (wr ws (nxtI c i) v) (n + cnt ws (nxtI c i)) w):=by
 subst hq
 refine (rwSet_any w c sl b cap ws n i v hc hf hn hn').mono ?_
 rintro e w' ⟨b',cap',rfl,g,hh,ho⟩
 exact ⟨b',cap',by rw [length_wr];rfl,g,hh,ho⟩
theorem rqTurn (w:World) (c:Cf) (sl:Sl) (b q cap:Nat) (ws:List Int) (n:Int) (i old v:Int) (hq:ws.length = q) (hc:Holds w b ws) (hf:q ≤ 1048576) (hn:0 ≤ n) (hn':n < 4611686018427387904):Calls Tryz.prog 66 #[.agg (RwL c b q cap n sl).toArray,.int .i64 i,.int .u64 old,.int .u64 v] w (RQb c sl b q (sw ws (wrdI c i) old v) (n + cnt ws (wrdI c i)) (may ws (wrdI c i) old) w):=by
 subst hq
 refine (rwTurn_any w c sl b cap ws n i old v hc hf hn hn').mono ?_
 rintro e w' ⟨b',cap',rfl,g,hh,ho⟩
 exact ⟨b',cap',by rw [length_sw];rfl,g,hh,ho⟩
structure RS (hi:Nat) (c:Cf) (T:Nat) (w0:World) (ws:List Int) (n:Int) (s:St) (bk cp:Nat) (sl:Sl) (w:World):Prop where
 q:But (· = T) w0 w
 box:Box w T (RwL c bk c.len cp n sl)
 holds:Holds w bk ws
 len:ws.length = c.len
 refs:RefH w hi c s sl
 lo:hi ≤ bk
 off:OffS sl T
 ne:bk ≠ T
theorem RS.grown {hi:Nat} {c:Cf} {T:Nat} {w0 w w':World} {ws:List Int} {n:Int} {s:St} {bk cp:Nat} {sl:Sl} (h:RS hi c T w0 ws n s bk cp sl w) (g:Grown w w'):RS hi c T w0 ws n s bk cp sl w' :=
 ⟨h.q.trans (But.of_grown g),h.box.grown g,h.holds.grown g,h.len,h.refs.grown g,h.lo,h.off,h.ne⟩
theorem RS.lt {hi:Nat} {c:Cf} {T:Nat} {w0 w:World} {ws:List Int} {n:Int} {s:St} {bk cp:Nat} {sl:Sl} (h:RS hi c T w0 ws n s bk cp sl w):T < w.heap.size:=h.box.lt
theorem RS.book {hi:Nat} {c:Cf} {T:Nat} {w0 w w2:World} {ws:List Int} {n:Int} {s s':St} {bk cp:Nat} {sl sl':Sl} (h:RS hi c T w0 ws n s bk cp sl w) (hr:RefH w hi c s' sl') (ho:OffS sl' T) (hq:But (· = T) w w2) (hb:Box w2 T (RwL c bk c.len cp n sl')) :
  RS hi c T w0 ws n s' bk cp sl' w2 :=
 ⟨h.q.trans hq,hb,h.holds.but hq h.ne,h.len,RefH.put hr ho hq,h.lo,ho,h.ne⟩
theorem RS.words {hi:Nat} {c:Cf} {T:Nat} {w0 w w2:World} {ws ws':List Int} {n n':Int} {s:St} {bk bk' cp cp':Nat} {sl:Sl} (h:RS hi c T w0 ws n s bk cp sl w) (hh:Holds w bk' ws') (hl:ws'.length = ws.length) (hlo:hi ≤ bk') (hn:bk' ≠ T) (hq:But (· = T) w w2)
  (hb:Box w2 T (RwL c bk' c.len cp' n' sl)):RS hi c T w0 ws' n' s bk' cp' sl w2 :=
 ⟨h.q.trans hq,hb,hh.but hq hn,hl.trans h.len,RefH.put h.refs h.off hq,hlo,h.off,hn⟩
theorem Pack_r {n:Int} {m:Bool} {v:Int} (w:World) (h:zPack n m = v) (h0:-9223372036854775808 ≤ n) (h1:n ≤ 9223372036854775807) :
  Calls Tryz.prog 62 #[.int .i64 n,.bool m] w fun e w' => e = .returned (.int .u64 v) ∧ Grown w w':=by rw [← h];exact refPack_any n m w h0 h1
theorem Marked_r {a:Int} {v:Bool} (w:World) (h:(a % 2 == 1) = v) (h0:0 ≤ a) (h1:a ≤ 18446744073709551615) :
  Calls Tryz.prog 63 #[.int .u64 a] w fun e w' => e = .returned (.bool v) ∧ Grown w w':=by rw [← h];exact refMarked_any a w h0 h1
end Go.Proofs.YtcogckjpmmjmbaaGreat
namespace Go.Proofs.YtcogckjpmmjmbaaGreat
open Go.ChangeShapes Go.WideShapes Go.ChangeAt Go.RowKit
set_option maxRecDepth 100000
set_option linter.unusedVariables false
theorem addK_mem (l:List Int) (x y:Int):y ∈ addK l x ↔ y = x ∨ y ∈ l:=by
 unfold addK;split
 ·constructor
  ·exact .inr
  ·rintro (rfl | h)
   ·assumption
   ·exact h
 ·simp [or_comm]
structure RiseOk (c:Cf) (ws:List Int) (s:St) (p:Ps) (acc:List Int × List (Int × Int)):Prop where
 met:∀ o ∈ p.ops,(calAt s o).kind = 1 → wrdOf c ws o = 1 → o ∈ acc.1
 key:∀ y ∈ acc.2,y.1 ≤ p.key ∧ y.1 ∈ p.opens
 up:acc.2.Pairwise fun a b => a.1 < b.1
theorem RiseOk.step {c:Cf} {ws:List Int} {s:St} {b:Int} {p:Ps} {acc:List Int × List (Int × Int)} (h:RiseOk c ws s p acc) (i:Int) (hf:fitV c b p (ndOf c ws s i) = true) :
  RiseOk c ws s (passV p (ndOf c ws s i)) (stepP c ws s acc i):=by
 unfold fitV at hf
 simp only [Bool.and_eq_true,decide_eq_true_eq] at hf
 obtain ⟨⟨hk,-⟩,hb⟩:=hf
 unfold bearsV at hb
 have hkey:¬ ((ndOf c ws s i).num ∈ p.nodes ∨ (ndOf c ws s i).cal.key < p.key):=fun hx => by rw [if_pos hx] at hb;cases hb
 rw [if_neg hkey] at hb
 have hle:p.key ≤ (calAt s (opAt s i)).key:=by
  have:¬ (calAt s (opAt s i)).key < p.key:=fun hx => hkey (.inr hx)
  omega
 have hkind:(calAt s (opAt s i)).kind = 1:=hk
 unfold stepP
 by_cases hadd:((calAt s (opAt s i)).kind = 1 ∧ wrdOf c ws (opAt s i) = 1) ∧ opAt s i ∉ acc.1
 ·rw [if_pos hadd]
  obtain ⟨⟨-,hw⟩,hno⟩:=hadd
  have hops:¬ ((ndOf c ws s i).op ∈ p.ops ∨ 2 ≤ (ndOf c ws s i).word):=by
   rintro (hx | hx)
   ·exact hno (h.met _ hx hkind hw)
   ·have:2 ≤ wrdOf c ws (opAt s i):=hx
    omega
  rw [if_neg hops] at hb
  have hopen:¬ (calAt s (opAt s i)).key ∈ p.opens:=by
   intro hx
   have h1:decide ((ndOf c ws s i).word = 1) = true:=decide_eq_true hw
   have h2:decide ((ndOf c ws s i).cal.key ∈ p.opens) = true:=decide_eq_true hx
   rw [h1,h2] at hb
   simp at hb
  have hov:¬ 2 ≤ (ndOf c ws s i).word:=fun hx => hops (.inr hx)
  refine ⟨?_,?_,?_⟩
  ·intro o ho hk' hw'
   simp only [passV,addK_mem] at ho ⊢
   rcases ho with rfl | ho
   ·exact .inl rfl
   ·exact .inr (h.met o ho hk' hw')
  ·intro y hy
   simp only [passV,if_neg hov,addK_mem]
   rcases List.mem_append.1 hy with hy | hy
   ·have:=h.key y hy
    exact ⟨Int.le_trans this.1 hle,.inr this.2⟩
   ·simp only [List.mem_singleton] at hy
    subst hy
    exact ⟨Int.le_refl _,.inl rfl⟩
  ·rw [List.pairwise_append]
   refine ⟨h.up,by simp,fun y hy z hz => ?_⟩
   simp only [List.mem_singleton] at hz
   subst hz
   have h1:=h.key y hy
   have h2:y.1 ≠ (calAt s (opAt s i)).key:=fun e => hopen (e ▸ h1.2)
   simp only
   omega
 ·rw [if_neg hadd]
  refine ⟨?_,?_,h.up⟩
  ·intro o ho hk' hw'
   simp only [passV,addK_mem] at ho
   rcases ho with rfl | ho
   ·exact Classical.byContradiction fun hn => hadd ⟨⟨hk',hw'⟩,hn⟩
   ·exact h.met o ho hk' hw'
  ·intro y hy
   have:=h.key y hy
   refine ⟨Int.le_trans this.1 hle,?_⟩
   simp only [passV]
   split
   ·exact this.2
   ·rw [addK_mem];exact .inr this.2
theorem sndL_rise {c:Cf} {ws:List Int} {s:St} {b:Int}:∀ (l:List Int) {p:Ps} {acc:List Int × List (Int × Int)},RiseOk c ws s p acc → sndL c ws s b p l = true → (foldN c ws s l acc).2.Pairwise fun a b => a.1 < b.1
 | [],_,_,h,_ => h.up
 | i :: r,p,acc,h,hs => by
  unfold sndL at hs
  by_cases hf:fitV c b p (ndOf c ws s i) = true
  ·rw [if_pos hf] at hs
   exact sndL_rise r (h.step i hf) hs
  ·rw [if_neg hf] at hs;cases hs
theorem foldP_id:∀ (ps acc:List (Int × Int)),UpP (acc ++ ps) → ps.foldl insP acc = acc ++ ps
 | [],acc,_ => by simp
 | x :: r,acc,h => by
  have hx:insP acc x = acc ++ [x]:=by
   have:=insP_split x acc [] (fun y hy => (List.pairwise_append.1 h).2.2 y hy x (by simp)) (by simp)
   simpa using this
  rw [List.foldl_cons,hx,foldP_id r (acc ++ [x]) (by simpa using h)]
  simp
theorem sortP_id {ps:List (Int × Int)} (h:UpP ps):sortP ps = ps:=by
 have:=foldP_id ps [] (by simpa using h)
 simpa [sortP] using this
theorem nodup_le:∀ (l m:List Int),l.Nodup → (∀ x ∈ l,x ∈ m) → l.length ≤ m.length
 | [],m,_,_ => Nat.zero_le _
 | x :: r,m,hn,hm => by
  have hx:x ∈ m:=hm x (by simp)
  have h1:=nodup_le r (m.erase x) (List.nodup_cons.1 hn).2 (fun y hy => (List.mem_erase_of_ne (fun (e:y = x) => (List.nodup_cons.1 hn).1 (e ▸ hy))).2 (hm y (by simp [hy])))
  rw [List.length_erase_of_mem hx] at h1
  have:=List.length_pos_of_mem hx
  simp only [List.length_cons]
  omega
structure FewOk (s:St) (acc:List Int × List (Int × Int)):Prop where
 nd:acc.1.Nodup
 len:acc.2.length = acc.1.length
 ops:∀ o ∈ acc.1,o ∈ s.ops.map fun x => (x.1:Int)
theorem calAt_mem {s:St} {o:Int} (h:(calAt s o).kind = 1):o ∈ s.ops.map fun x => (x.1:Int):=by
 unfold calAt at h
 cases hl:lookI s.ops o with
 | none => rw [hl] at h;simp [Cal.zero] at h
 | some x =>
  unfold lookI at hl
  split at hl
  ·cases hl
  ·rename_i h0
   have:=look_mem hl
   exact List.mem_map.2 ⟨_,this,by simp;omega⟩
theorem FewOk.step {c:Cf} {ws:List Int} {s:St} {acc:List Int × List (Int × Int)} (h:FewOk s acc) (i:Int):FewOk s (stepP c ws s acc i):=by
 unfold stepP
 split
 ·rename_i hx
  have ha:addK acc.1 (opAt s i) = acc.1 ++ [opAt s i]:=by unfold addK;rw [if_neg hx.2]
  simp only [ha]
  refine ⟨?_,by simp [h.len],?_⟩
  ·refine List.nodup_append.2 ⟨h.nd,by simp,fun a ha b hb => ?_⟩
   simp only [List.mem_singleton] at hb
   subst hb
   exact fun e => hx.2 (e ▸ ha)
  ·intro o ho
   rcases List.mem_append.1 ho with ho | ho
   ·exact h.ops o ho
   ·simp only [List.mem_singleton] at ho
    subst ho
    exact calAt_mem hx.1.1
 ·exact h
theorem foldN_few {c:Cf} {ws:List Int} {s:St}:∀ (l:List Int) {acc:List Int × List (Int × Int)},FewOk s acc → FewOk s (foldN c ws s l acc)
 | [],_,h => h
 | i :: r,_,h => foldN_few r (h.step i)
theorem raw_few (c:Cf) (ws:List Int) (s:St):(rawP c ws s).length ≤ s.ops.length:=by
 have h:FewOk s (foldN c ws s (nodesTo c ws c.b) ([],[])):=foldN_few _ ⟨by simp,rfl,by simp⟩
 unfold rawP
 rw [h.len]
 have:=nodup_le _ _ h.nd h.ops
 simpa using this
theorem lyC_len (c:Cf):∀ (xs:List Cal) (s:St),(lyC c s xs).ops.length ≤ s.ops.length + xs.length ∧ (lyC c s xs).nodes.length = s.nodes.length
 | [],s => ⟨by simp [lyC],rfl⟩
 | x :: r,s => by
  have h1:=begin_len c s 2 x
  have h2:=lyC_len c r (beginI c s 2 x).1
  have e:lyC c s (x :: r) = lyC c (beginI c s 2 x).1 r:=rfl
  rw [e]
  simp only [List.length_cons]
  omega
end Go.Proofs.YtcogckjpmmjmbaaGreat
namespace Go.Proofs.YtcogckjpmmjmbaaGreat
open Go.ChangeShapes Go.WideShapes Go.ChangeAt Go.RowKit
set_option maxRecDepth 100000
set_option linter.unusedVariables false
end Go.Proofs.YtcogckjpmmjmbaaGreat
namespace Go.Proofs.YtcogckjpmmjmbaaGreat
open Go.ChangeShapes Go.WideShapes Go.ChangeAt Go.RowKit
set_option maxRecDepth 100000
set_option linter.unusedVariables false
theorem Few9_at (w:World) (f:Int) (A A2:Option Addr) (n m c c2:Nat) (r:Bool) (hr:decide (n ≤ 12 ∧ m ≤ 6) = r) :
  Calls Tryz.prog 15 #[.agg #[.int .u8 f,.slice A n c,.slice A2 m c2]] w fun e w' => e = .returned (.bool r) ∧ Grown w w':=by
 subst hr
 have HB:=Lib.hid (Box.made w [.int .u8 f,.slice A n c,.slice A2 m c2] 25)
 have e1:=HB.out.cell 1 _ rfl
 have e2:=HB.out.cell 2 _ rfl
 by_cases h1:n ≤ 12
 ·have h1':decide ((n:Int) ≤ 12) = true:=decide_eq_true (by omega)
  by_cases h2:m ≤ 6
  ·have h2':decide ((m:Int) ≤ 6) = true:=decide_eq_true (by omega)
   rw [show decide (n ≤ 12 ∧ m ≤ 6) = true from decide_eq_true ⟨h1,h2⟩]
   go_enter Tryz.func15,Tryz.ntmps15
   go_wp2_with fail
   go_ret
   exact ⟨rfl,by go_grown⟩
  ·have h2':decide ((m:Int) ≤ 6) = false:=decide_eq_false (by omega)
   rw [show decide (n ≤ 12 ∧ m ≤ 6) = false from decide_eq_false (fun h => h2 h.2)]
   go_enter Tryz.func15,Tryz.ntmps15
   go_wp2_with fail
   go_ret
   exact ⟨rfl,by go_grown⟩
 ·have h1':decide ((n:Int) ≤ 12) = false:=decide_eq_false (by omega)
  rw [show decide (n ≤ 12 ∧ m ≤ 6) = false from decide_eq_false (fun h => h1 h.1)]
  go_enter Tryz.func15,Tryz.ntmps15
  go_wp2_with fail
  go_ret
  exact ⟨rfl,by go_grown⟩
end Go.Proofs.YtcogckjpmmjmbaaGreat
