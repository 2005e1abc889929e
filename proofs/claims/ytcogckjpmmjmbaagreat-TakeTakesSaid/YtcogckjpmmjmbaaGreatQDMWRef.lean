/- A whole struct, stored into a variable's block, and read out of it: laws, over any program. -/
import Derived.Test.YtcogckjpmmjmbaaGreatQDMBkRef
import Derived.Deep.MidRow
import Derived.Test.YtcogckjpmmjmbaaGreatQDMWorld
import Derived.Test.YtcogckjpmmjmbaaGreatQDMLay
import Derived.Test.YtcogckjpmmjmbaaGreatQDMCells
import Derived.Test.YtcogckjpmmjmbaaGreatQDMBase
import Derived.Test.YtcogckjpmmjmbaaGreatQDMBook
namespace Go.Proofs.YtcogckjpmmjmbaaGreat
open Go.ChangeShapes Go.WideShapes Go.ChangeAt Go.RowKit
set_option maxRecDepth 100000
set_option linter.unusedVariables false
theorem Box.range {w:World} {b:Nat} {l:List Value} (h:Box w b l):w.rangeAt b 0 l:=fun j v hv => by rw [Nat.zero_add];exact h.cell j v hv
theorem Box.there {w:World} {b:Nat} {l:List Value} (h:Box w b l):w.there b 0 l.length:=fun j hj => by
 rw [Nat.zero_add]
 exact ⟨by rw [h.cell j _ (List.getElem?_eq_getElem hj)];rfl,h.free j⟩
theorem But.cells {S:Nat → Prop} {W:World} {b:Nat} (hb:S b ∨ W.heap.size ≤ b):∀ (vs:List Value) (o:Nat) {w:World},But S W w → But S W (w.setCells b o vs)
 | [],_,_,h => h
 | v :: r,o,w,h => But.cells hb r (o + 1) (h.setCell (a:=⟨b,o,none⟩) hb v)
theorem Box.all {w:World} {b:Nat} {l:List Value} (h:Box w b l) (vs:List Value) (hl:vs.length = l.length):Box (w.setCells b 0 vs) b vs:=by
 have ht:w.there b 0 vs.length:=hl ▸ h.there
 refine ⟨fun j u hu => ?_,fun j => (World.frozen?_setCells _ _ _ _ _).trans (h.free j),?_⟩
 ·have:=World.rangeAt_setCells_same w b 0 vs ht j u hu
  rwa [Nat.zero_add] at this
 ·have:=But.cells (S:=fun _ => True) (W:=w) (b:=b) (.inl trivial) vs 0 (But.refl _ w)
  exact Nat.lt_of_lt_of_le h.lt this.2.2
theorem store_box {P:Program} {ops:Array Oper} {rest:List Oper} {op:Oper} {a:Act} {w:World} {Q:Exit → Act → World → Prop} (hgd:op.guard = none) (ty:TypeId) (x y:Operand) (ho:op.op = .store ty x y)
  (b:Nat) (l:List Value) (hB:Box w b l) (cells:Array Value) (hx:a.eval x = .pointer (some ⟨b,0,none⟩)) (hy:a.eval y = .agg cells) (hl:cells.size = l.length)
  (hi:(P.info? ty).map (·.size) = some cells.size) (h1:cells.toList.all (·.oneCell') = true)
  (h:∀ w',Box w' b cells.toList → But (fun i => i = b) w w' → wpList P ops Q rest (a.put op.dst undef) w'):wpList P ops Q (op :: rest) a w :=
 wpList_store_mid hgd ty x y ho b 0 cells hx hy (by rw [hl];exact hB.there) hi (by rw [← Array.all_toList];exact h1)
  (h _ (hB.all cells.toList (by simpa using hl)) (But.cells (S:=fun i => i = b) (.inl rfl) _ _ (But.refl _ w)))
theorem Box.mid {b:Nat}:∀ (vs:List Value) {w:World} (o:Nat) {l:List Value},Box w b l → o + vs.length ≤ l.length → Box (w.setCells b o vs) b (l.take o ++ vs ++ l.drop (o + vs.length))
 | [],w,o,l,h,_ => by simpa [World.setCells] using h
 | v :: vs,w,o,l,h,hj => by
  simp only [List.length_cons] at hj
  have h2:=Box.mid vs (o + 1) (h.set (j:=o) (by omega) v) (by simp;omega)
  have e:(l.set o v).take (o + 1) ++ vs ++ (l.set o v).drop (o + 1 + vs.length) = l.take o ++ (v :: vs) ++ l.drop (o + (v :: vs).length):=by
   rw [List.drop_set_of_lt (by omega),List.take_set,List.take_add_one,List.getElem?_eq_getElem (by omega)]
   simp only [Option.toList_some,List.length_cons]
   rw [show (List.take o l ++ [l[o]]).set o v = List.take o l ++ [v] from by
    rw [List.set_append_right _ _ (by simp;omega)]
    simp [show min o l.length = o by omega]]
   simp [Nat.add_assoc,Nat.add_comm 1]
  rw [← e]
  exact h2
theorem Box.midThere {w:World} {b:Nat} {l:List Value} (h:Box w b l) {o n:Nat} (hn:o + n ≤ l.length):w.there b o n:=fun j hj =>
 ⟨by rw [h.cell (o + j) _ (List.getElem?_eq_getElem (by omega))];rfl,h.free _⟩
theorem store_part {P:Program} {ops:Array Oper} {rest:List Oper} {op:Oper} {a:Act} {w:World} {Q:Exit → Act → World → Prop} (hgd:op.guard = none) (ty:TypeId) (x y:Operand) (ho:op.op = .store ty x y)
  (b o:Nat) (hx:a.eval x = .pointer (some ⟨b,o,none⟩)) (cells:Array Value) (hy:a.eval y = .agg cells) (l l':List Value) (hB:Box w b l) (hl:o + cells.size ≤ l.length)
  (hi:(P.info? ty).map (·.size) = some cells.size) (h1:cells.toList.all (·.oneCell') = true) (hl':l.take o ++ cells.toList ++ l.drop (o + cells.toList.length) = l')
  (h:∀ w',Box w' b l' → But (fun i => i = b) w w' → wpList P ops Q rest (a.put op.dst undef) w'):wpList P ops Q (op :: rest) a w :=
 wpList_store_mid hgd ty x y ho b o cells hx hy (hB.midThere hl) hi (by rw [← Array.all_toList];exact h1)
  (h _ (hl' ▸ Box.mid cells.toList o hB (by simpa using hl)) (But.cells (S:=fun i => i = b) (.inl rfl) _ _ (But.refl _ w)))
theorem load_box {P:Program} {ops:Array Oper} {rest:List Oper} {op:Oper} {a:Act} {w:World} {Q:Exit → Act → World → Prop} (hgd:op.guard = none) (ty:TypeId) (x:Operand) (ho:op.op = .load ty x)
  (b:Nat) (hx:a.eval x = .pointer (some ⟨b,0,none⟩)) (l:List Value) (d:TypeDesc) (hu:P.underlying ty = some d) (hd:d.isRow = true) (hi:(P.info? ty).map (·.size) = some l.length) (hB:Box w b l)
  (h:wpList P ops Q rest (a.put op.dst (.agg l.toArray)) w):wpList P ops Q (op :: rest) a w :=
 wpList_load_mid hgd ty x ho b 0 hx l d hB.range hu hd hi h
theorem load_run {P:Program} {w:World} {b:Nat} {l:List Value} (hB:Box w b l) (ty:TypeId) (d:TypeDesc) (hu:P.underlying ty = some d) (hd:d.isRow = true) (hi:(P.info? ty).map (·.size) = some l.length) :
  (loadVar ty ⟨b,0,none⟩).run P w = .ok (.agg l.toArray) w:=run_loadVar_mid w b 0 ty l d hB.range hu hd hi
theorem results_c {P:Program} {fn:Func} {tmps:Array Value} {w:World} {t b:Nat} {ty:TypeId} {l:List Value} (hf:fn.results = #[.cell t ty]) (ht:tmps.getD t undef = .pointer (some ⟨b,0,none⟩)) (hl:(loadVar ty ⟨b,0,none⟩).run P w = .ok (.agg l.toArray) w) :
  (results fn tmps).run P w = .ok (.agg l.toArray) w:=by
 have ht':tmps[t]?.getD undef = .pointer (some ⟨b,0,none⟩):=by simpa using ht
 simp [results,hf,ht',asAddr,hl]
theorem results_ct {P:Program} {fn:Func} {tmps:Array Value} {w:World} {t t1 b:Nat} {ty:TypeId} {l:List Value} (hf:fn.results = #[.cell t ty,.tmp t1]) (ht:tmps.getD t undef = .pointer (some ⟨b,0,none⟩)) (hl:(loadVar ty ⟨b,0,none⟩).run P w = .ok (.agg l.toArray) w) :
  (results fn tmps).run P w = .ok (.tuple #[.agg l.toArray,tmps.getD t1 undef]) w:=by
 have ht':tmps[t]?.getD undef = .pointer (some ⟨b,0,none⟩):=by simpa using ht
 simp [results,hf,ht',asAddr,hl]
end Go.Proofs.YtcogckjpmmjmbaaGreat
namespace Go.Proofs.YtcogckjpmmjmbaaGreat
open Go.ChangeShapes Go.WideShapes Go.ChangeAt Go.RowKit
set_option maxRecDepth 100000
set_option linter.unusedVariables false
def WV (c:Cf) (sw:Value) (n:Int) (s1 s2 s3 s4 s5:Value):Value:=.agg #[.int .i64 c.t,.int .i64 c.b,.int .i64 c.i,.int .i64 c.f,.int .i64 c.k,sw,.int .i64 n,.int .i64 c.t,.int .i64 c.b,.int .i64 c.i,.int .i64 c.f,.int .i64 c.k,s1,s2,s3,s4,s5]
theorem RefS.mono {w:World} {hi lo:Nat} {c:Cf} {s:St} {s1 s2 s3 s4 s5:Value} (h:RefS w hi c s s1 s2 s3 s4 s5) (hl:lo ≤ hi):RefS w lo c s s1 s2 s3 s4 s5 :=
 ⟨h.f1.mono hl,h.f2.mono hl,h.f3.mono hl,h.f4.mono hl,h.f5.mono hl⟩
def RNewW (hi:Nat) (c:Cf) (w:World) (e:Ending) (w':World):Prop :=
 ∃ b s1 s2 s3 s4 s5,e = .returned (.tuple #[WV c (.slice (some ⟨b,0,none⟩) c.len c.len) 0 s1 s2 s3 s4 s5,.int .i64 0]) ∧ Holds w' b (List.replicate c.len 0) ∧ w.heap.size ≤ b ∧ RefS w' hi c (St.new c) s1 s2 s3 s4 s5 ∧ Grown w w'
theorem RefS.slices {w:World} {hi:Nat} {c:Cf} {s:St} {s1 s2 s3 s4 s5:Value} (h:RefS w hi c s s1 s2 s3 s4 s5):(∃ A m k,s1 = .slice A m k) ∧ (∃ A m k,s2 = .slice A m k) ∧ (∃ A m k,s3 = .slice A m k) ∧ (∃ A m k,s4 = .slice A m k) ∧ ∃ A m k,s5 = .slice A m k:=by
 have K:∀ {w:World} {lo n:Nat} {v:Value} {cells:List Value},FlatAt w lo v cells n → ∃ A m k,v = .slice A m k:=by
  rintro w lo n v cells (⟨-,-,rfl⟩ | ⟨-,g,cap,rfl,-⟩)
  ·exact ⟨_,_,_,rfl⟩
  ·exact ⟨_,_,_,rfl⟩
 exact ⟨K h.f1,K h.f2,K h.f3,K h.f4,K h.f5⟩
def zWV:List Value:=[.int .i64 0,.int .i64 0,.int .i64 0,.int .i64 0,.int .i64 0,.slice none 0 0,.int .i64 0,.int .i64 0,.int .i64 0,.int .i64 0,.int .i64 0,.int .i64 0,.slice none 0 0,.slice none 0 0,.slice none 0 0,.slice none 0 0,.slice none 0 0]
theorem rWNew_at (w:World) (hi:Nat) (c:Cf) (hok:c.Ok) (hw:hi ≤ w.heap.size):Calls Tryz.prog 64 #[c.v] w (RNewW hi c w):=by
 have HL:=Lib.hid (vLen_len hok)
 have HM:=Lib.hid (len_le hok)
 have HK:=Lib.hid hok
 have HW:=Lib.hid hw
 clear hok hw
 unfold Cf.v
 go_enter Tryz.func64,Tryz.ntmps64
 go_wp2_with fail
 refine (rNew_at _ (w.heap.size + 2) c HK.out (by simp)).mono ?_;rintro e w1 ⟨s1,s2,s3,s4,s5,rfl,hr,g1⟩
 obtain ⟨⟨A1,m1,k1,rfl⟩,⟨A2,m2,k2,rfl⟩,⟨A3,m3,k3,rfl⟩,⟨A4,m4,k4,rfl⟩,⟨A5,m5,k5,rfl⟩⟩:=hr.slices
 have HR:=Lib.hid hr
 have c0:w1.cell? ⟨w.heap.size,0,none⟩ = some (.int .i64 c.t):=gcell g1 (by simp)
 have c1:w1.cell? ⟨w.heap.size,1,none⟩ = some (.int .i64 c.b):=gcell g1 (by simp)
 have c2:w1.cell? ⟨w.heap.size,2,none⟩ = some (.int .i64 c.i):=gcell g1 (by simp)
 have c3:w1.cell? ⟨w.heap.size,3,none⟩ = some (.int .i64 c.f):=gcell g1 (by simp)
 have c4:w1.cell? ⟨w.heap.size,4,none⟩ = some (.int .i64 c.k):=gcell g1 (by simp)
 have B:=(Box.made (w.alloc (.cells #[.int .i64 c.t,.int .i64 c.b,.int .i64 c.i,.int .i64 c.f,.int .i64 c.k] 32)) [.int .i64 0,.int .i64 0,.int .i64 0,.int .i64 0,.int .i64 0,.slice none 0 0,.int .i64 0,.int .i64 0,.int .i64 0,.int .i64 0,.int .i64 0,.int .i64 0,.slice none 0 0,.slice none 0 0,.slice none 0 0,.slice none 0 0,.slice none 0 0] 42).grown g1
 have hsz:(w.alloc (.cells #[.int .i64 c.t,.int .i64 c.b,.int .i64 c.i,.int .i64 c.f,.int .i64 c.k] 32)).heap.size = w.heap.size + 1:=by simp
 rw [hsz] at B
 clear hsz
 have HB:=Lib.hid B
 clear B hr
 replace g1:=galloc (galloc g1)
 simp only [RV]
 go_wp2_with fail
 refine wp_region_planb (fun i => i = w.heap.size + 1) (.one [0,1,4] 2 (.one [] 3 (.one [5] 6 (.fin [7])))) (by kernel_rfl) (by kernel_rfl) (by kernel_rfl) ?_
 intro w2 g2
 have d0:∀ g:ButW (fun i => i = w.heap.size + 1) w2,g.w.cell? ⟨w.heap.size,0,none⟩ = some (.int .i64 c.t):=ButW.cell (by omega) (gcell g2 (by simpa using acell c0))
 have d1:∀ g:ButW (fun i => i = w.heap.size + 1) w2,g.w.cell? ⟨w.heap.size,1,none⟩ = some (.int .i64 c.b):=ButW.cell (by omega) (gcell g2 (by simpa using acell c1))
 have d2:∀ g:ButW (fun i => i = w.heap.size + 1) w2,g.w.cell? ⟨w.heap.size,2,none⟩ = some (.int .i64 c.i):=ButW.cell (by omega) (gcell g2 (by simpa using acell c2))
 have d3:∀ g:ButW (fun i => i = w.heap.size + 1) w2,g.w.cell? ⟨w.heap.size,3,none⟩ = some (.int .i64 c.f):=ButW.cell (by omega) (gcell g2 (by simpa using acell c3))
 have d4:∀ g:ButW (fun i => i = w.heap.size + 1) w2,g.w.cell? ⟨w.heap.size,4,none⟩ = some (.int .i64 c.k):=ButW.cell (by omega) (gcell g2 (by simpa using acell c4))
 have hn1:¬ w1.heap.size = w.heap.size + 1:=by have:=HB.out.lt;omega
 have b0:∀ g:ButW (fun i => i = w.heap.size + 1) w2,g.w.cell? ⟨w1.heap.size,0,none⟩ = some (.int .i64 c.t):=ButW.cell hn1 (gcell g2 (by simp))
 have b1:∀ g:ButW (fun i => i = w.heap.size + 1) w2,g.w.cell? ⟨w1.heap.size,1,none⟩ = some (.int .i64 c.b):=ButW.cell hn1 (gcell g2 (by simp))
 have b2:∀ g:ButW (fun i => i = w.heap.size + 1) w2,g.w.cell? ⟨w1.heap.size,2,none⟩ = some (.int .i64 c.i):=ButW.cell hn1 (gcell g2 (by simp))
 have b3:∀ g:ButW (fun i => i = w.heap.size + 1) w2,g.w.cell? ⟨w1.heap.size,3,none⟩ = some (.int .i64 c.f):=ButW.cell hn1 (gcell g2 (by simp))
 have b4:∀ g:ButW (fun i => i = w.heap.size + 1) w2,g.w.cell? ⟨w1.heap.size,4,none⟩ = some (.int .i64 c.k):=ButW.cell hn1 (gcell g2 (by simp))
 have b5:∀ g:ButW (fun i => i = w.heap.size + 1) w2,g.w.cell? ⟨w1.heap.size,5,none⟩ = some (.slice A1 m1 k1):=ButW.cell hn1 (gcell g2 (by simp))
 have b6:∀ g:ButW (fun i => i = w.heap.size + 1) w2,g.w.cell? ⟨w1.heap.size,6,none⟩ = some (.slice A2 m2 k2):=ButW.cell hn1 (gcell g2 (by simp))
 have b7:∀ g:ButW (fun i => i = w.heap.size + 1) w2,g.w.cell? ⟨w1.heap.size,7,none⟩ = some (.slice A3 m3 k3):=ButW.cell hn1 (gcell g2 (by simp))
 have b8:∀ g:ButW (fun i => i = w.heap.size + 1) w2,g.w.cell? ⟨w1.heap.size,8,none⟩ = some (.slice A4 m4 k4):=ButW.cell hn1 (gcell g2 (by simp))
 have b9:∀ g:ButW (fun i => i = w.heap.size + 1) w2,g.w.cell? ⟨w1.heap.size,9,none⟩ = some (.slice A5 m5 k5):=ButW.cell hn1 (gcell g2 (by simp))
 refine plan_one ?_
 simp only [nths,nth,List.map_cons,List.map_nil,List.getD_cons_zero,List.getD_cons_succ]
 repeat go_big_quiet_step (fail)
 clear d0 d1 d2 d3 d4 b0 b1 b2 b3 b4 b5 b6 b7 b8 b9 c0 c1 c2 c3 c4
 have G2:Grown w1 w2:=gtr (by go_grown) g2
 refine wpQuiet_nil ?_
 go_wp2_with fail
 refine (rLen_at _ _ _ _ _ _ _ HL.out).mono ?_;rintro e u3 ⟨rfl,g3⟩
 go_wp2_with fail
 refine nxt_but (But.of_grown g3) (plan_one ?_)
 simp only [nths,nth,List.map_nil,List.getD_cons_zero,List.getD_cons_succ]
 refine wpQuiet_nil ?_
 go_wp2_with fail
 refine (cNewR_at _ c.len HM.out).mono ?_;rintro e u4 ⟨b,rfl,g4,h4,hb⟩
 have H4:=Lib.hid h4
 have hbb:w1.heap.size ≤ b:=by have:=(gtr G2 g3).2.2;omega
 have hlt:=HB.out.lt
 have HC:=Lib.hid (HB.out.grown (gtr G2 (gtr g3 g4)))
 clear h4 hb
 go_wp2_with fail
 refine nxt_but (But.of_grown (gtr g3 g4)) (plan_one ?_)
 simp only [nths,nth,List.map_cons,List.map_nil,List.getD_cons_zero,List.getD_cons_succ]
 repeat go_big_quiet_step (fail)
 refine wpQuiet_nil ?_
 go_wp2_with (first | (refine store_box rfl 42 _ _ rfl (w.heap.size + 1) _ HC.out #[.int .i64 c.t,.int .i64 c.b,.int .i64 c.i,.int .i64 c.f,.int .i64 c.k,.slice (some ⟨b,0,none⟩) c.len c.len,.int .i64 0,.int .i64 c.t,.int .i64 c.b,.int .i64 c.i,.int .i64 c.f,.int .i64 c.k,.slice A1 m1 k1,.slice A2 m2 k2,.slice A3 m3 k3,.slice A4 m4 k4,.slice A5 m5 k5] rfl rfl rfl (by kernel_rfl) rfl ?_;intro u5 B5 q5;have HD:=Lib.hid B5;clear B5) | fail)
 refine nxt_but ((But.of_grown (gtr g3 g4)).trans q5) (plan_fin ?_)
 simp only [nths,nth,List.map_cons,List.map_nil,List.getD_cons_zero,List.getD_cons_succ]
 repeat go_big_quiet_step (fail)
 refine wpQuiet_nil ?_
 go_wp2_with fail
 have e0:=HD.out.cell 0 _ rfl
 have e1:=HD.out.cell 1 _ rfl
 have e2:=HD.out.cell 2 _ rfl
 have e3:=HD.out.cell 3 _ rfl
 have e4:=HD.out.cell 4 _ rfl
 have e5:=HD.out.cell 5 _ rfl
 have e6:=HD.out.cell 6 _ rfl
 have e7:=HD.out.cell 7 _ rfl
 have e8:=HD.out.cell 8 _ rfl
 have e9:=HD.out.cell 9 _ rfl
 have e10:=HD.out.cell 10 _ rfl
 have e11:=HD.out.cell 11 _ rfl
 have e12:=HD.out.cell 12 _ rfl
 have e13:=HD.out.cell 13 _ rfl
 have e14:=HD.out.cell 14 _ rfl
 have e15:=HD.out.cell 15 _ rfl
 have e16:=HD.out.cell 16 _ rfl
 refine bodyPost_ret (v:=.tuple #[.agg #[.int .i64 c.t,.int .i64 c.b,.int .i64 c.i,.int .i64 c.f,.int .i64 c.k,.slice (some ⟨b,0,none⟩) c.len c.len,.int .i64 0,.int .i64 c.t,.int .i64 c.b,.int .i64 c.i,.int .i64 c.f,.int .i64 c.k,.slice A1 m1 k1,.slice A2 m2 k2,.slice A3 m3 k3,.slice A4 m4 k4,.slice A5 m5 k5],.int .i64 0]) (by simp [results,Tryz.results64,go_sem,e0,e1,e2,e3,e4,e5,e6,e7,e8,e9,e10,e11,e12,e13,e14,e15,e16]) rfl ?_
 refine ⟨b,_,_,_,_,_,rfl,fun j hj => q5.cell (by omega) (H4.out j hj),by omega,?_,But.fresh (gtr g1 (gtr G2 (gtr g3 g4))) q5 (fun i hi => by subst hi;omega)⟩
 exact ((HR.out.grown (gtr G2 (gtr g3 g4))).but q5 (fun i hi e => by omega)).mono (by have:=HW.out;omega)
end Go.Proofs.YtcogckjpmmjmbaaGreat
namespace Go.Proofs.YtcogckjpmmjmbaaGreat
open Go.ChangeShapes Go.WideShapes Go.ChangeAt Go.RowKit
set_option maxRecDepth 100000
structure KeptW (S:Nat → Prop) (K:Nat → Nat → Prop) (W:World):Type where
 w:World
 gr:But S W w
 keep:∀ i o v,K i o → W.cell? ⟨i,o,none⟩ = some v → w.cell? ⟨i,o,none⟩ = some v
instance (S:Nat → Prop) (K:Nat → Nat → Prop) (W:World):Nonempty (KeptW S K W):=⟨⟨W,But.refl S W,fun _ _ _ _ h => h⟩⟩
theorem KeptW.cell {S:Nat → Prop} {K:Nat → Nat → Prop} {W:World} {i o:Nat} {v:Value} (hk:K i o) (k:W.cell? ⟨i,o,none⟩ = some v) (g:KeptW S K W):g.w.cell? ⟨i,o,none⟩ = some v:=g.keep i o v hk k
theorem KeptW.out {S:Nat → Prop} {K:Nat → Nat → Prop} {W:World} {i o:Nat} {v:Value} (hs:¬ S i) (k:W.cell? ⟨i,o,none⟩ = some v) (g:KeptW S K W):g.w.cell? ⟨i,o,none⟩ = some v:=g.gr.cell hs k
section
variable {P:Program}
theorem wp_region_plank {id:Nat} {Q:Exit → Act → World → Prop} {a:Act} {w:World} {l:List Oper} (B:Nat → Prop) (K:Nat → Nat → Prop) (p:Plan) (hm:P.follows .mixedOrders = true)
  (hs:Region.noSelect l.toArray = true) (hB:planB l.toArray l.length p (Array.replicate l.length false) = true)
  (h:∀ w1,Grown w w1 → Pl P l (fun a' w' => Q .normal a' w') p (fun w' => ∃ g:KeptW B K w1,w' = g.w) a w1):(Code.region id l.toArray true).wp P Q a w :=
 wp_region_plan _ p hm hs hB ⟨⟨w.drew,But.refl B _,fun _ _ _ _ h => h⟩,rfl⟩ (h _ (Grown.refl w).drew)
theorem nxt_kept {B:Nat → Prop} {F:Nat → Nat → Prop} {w0:World} {K:(World → Prop) → Act → World → Prop} {a:Act} {w:World} (hg:But B w0 w) (hk:∀ i o v,F i o → w0.cell? ⟨i,o,none⟩ = some v → w.cell? ⟨i,o,none⟩ = some v)
  (h:K (fun w' => ∃ g:KeptW B F w0,w' = g.w) a w):Nxt (fun w' => ∃ g:KeptW B F w0,w' = g.w) K .normal a w :=
 ⟨rfl,_,fun _ h => h,⟨⟨w,hg,hk⟩,rfl⟩,h⟩
theorem nxt_keptg {B:Nat → Prop} {F:Nat → Nat → Prop} {w0:World} {K:(World → Prop) → Act → World → Prop} {a:Act} {w:World} (hg:Grown w0 w)
  (h:K (fun w' => ∃ g:KeptW B F w0,w' = g.w) a w):Nxt (fun w' => ∃ g:KeptW B F w0,w' = g.w) K .normal a w :=
 nxt_kept (But.of_grown hg) (fun _ _ _ _ h => gcell hg h) h
end
theorem keep1 {w w':World} {a:Addr} {u v:Value} (h:w.cell? a = some u) (k:w.cell? a = some v) (h':w'.cell? a = some u):w'.cell? a = some v:=by
 rw [h] at k;cases k;exact h'
theorem Box.keep {w w':World} {b n:Nat} {l l':List Value} (h:Box w b l) (h':Box w' b l') (he:l.take n = l'.take n) (hn:n ≤ l.length):∀ i o v,(i = b ∧ o < n) → w.cell? ⟨i,o,none⟩ = some v → w'.cell? ⟨i,o,none⟩ = some v:=by
 rintro i o v ⟨rfl,ho⟩ hv
 have hl:l[o]? = some l[o]:=List.getElem?_eq_getElem (by omega)
 have h2:l'[o]? = some l[o]:=by
  have h3:(l.take n)[o]? = (l'.take n)[o]?:=by rw [he]
  rw [List.getElem?_take_of_lt ho,List.getElem?_take_of_lt ho] at h3
  rw [← h3,hl]
 exact keep1 (h.cell o _ hl) hv (h'.cell o _ h2)
end Go.Proofs.YtcogckjpmmjmbaaGreat
namespace Go.Proofs.YtcogckjpmmjmbaaGreat
open Go.ChangeShapes Go.WideShapes Go.ChangeAt Go.RowKit
set_option maxRecDepth 100000
set_option linter.unusedVariables false
theorem BookAt.other {w w':World} {c:Cf} {a:Ad} {s:St} {T:Nat} {z:Int} (h:BookAt w c a s) (q:But (· = T) w w') (hT:¬ (a.lo ≤ T ∧ T < a.hi)) (h1:w.cell? ⟨T,1,none⟩ = some (.int .i64 z)):BookAt w' c a s:=by
 have o1:=h.o1;have o2:=h.o2;have o3:=h.o3;have o4:=h.o4;have o5:=h.o5;have o6:=h.o6
 have hp:¬ a.p = T:=by omega
 refine ⟨h.ok,q.cell hp h.c0,q.cell hp h.c1,q.cell hp h.c2,q.cell hp h.c3,q.cell hp h.c4,q.cell hp h.c5,q.cell hp h.c6,q.cell hp h.c7,
  h.mw.but q (fun e => h.mw.ne h1 e.symm),h.mc.but q (fun e => h.mc.ne h1 e.symm),h.mn.but q (fun e => h.mn.ne h1 e.symm),
  fun j hj => q.cell (show ¬ a.bw + j = T by omega) (h.w0 j hj),fun j hj => q.cell (show ¬ a.bw + j = T by omega) (h.w1 j hj),fun j hj => q.cell (show ¬ a.bw + j = T by omega) (h.w2 j hj),fun j hj => q.cell (show ¬ a.bw + j = T by omega) (h.w3 j hj),
  fun j o hj => q.frozen (h.wf j o hj),fun n hn => ?_,fun n hn => q.frozen (h.sf n hn),fun n hn => ?_,fun n hn => q.frozen (h.nf n hn),o1,o2,o3,o4,o5,Nat.le_trans o6 q.2.2⟩
 ·have hb:¬ a.bc + n = T:=by omega
  have hs:=h.sc n hn
  cases e:look s.ops n with
  | none => rw [e] at hs;exact q.cell hb hs
  | some y =>
   rw [e] at hs
   obtain ⟨r,h0,h2,h3,h4,h5,h6,h7⟩:=hs
   have hr:¬ r = T:=fun e => by rw [e,h1] at h4;cases h4
   exact ⟨r,h0,q.cell hb h2,q.cell hr h3,q.cell hr h4,q.cell hr h5,q.cell hr h6,q.shape hr h7⟩
 ·have hb:¬ a.bn + n = T:=by omega
  have hs:=h.sn n hn
  cases e:look s.nodes n with
  | none => rw [e] at hs;exact q.cell hb hs
  | some y =>
   rw [e] at hs
   obtain ⟨r,h0,h2,h3,h4⟩:=hs
   have hr:¬ r = T:=fun e => by
    subst e
    obtain ⟨e',n',hsh,hlt,-⟩:=World.shape?_of_cell? h1
    rw [h4] at hsh
    cases hsh
    simp at hlt
   exact ⟨r,h0,q.cell hb h2,q.cell hr h3,q.shape hr h4⟩
end Go.Proofs.YtcogckjpmmjmbaaGreat
