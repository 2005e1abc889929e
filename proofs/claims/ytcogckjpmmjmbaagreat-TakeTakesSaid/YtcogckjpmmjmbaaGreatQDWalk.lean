/- Package walk, function by function: a walk in a variable's block, beside a world. -/
import Derived.Test.YtcogckjpmmjmbaaGreatQDMWorld
import Derived.Test.YtcogckjpmmjmbaaGreatQDMWRef
import Derived.Test.YtcogckjpmmjmbaaGreatQDGMRoute
namespace Go.Proofs.YtcogckjpmmjmbaaGreat
open Go.ChangeShapes Go.WideShapes Go.ChangeAt Go.RowKit
set_option maxRecDepth 100000
set_option linter.unusedVariables false
structure Wk where
 key:Int
 mode:Int
 phase:Int
 pred:Int
 curr:Int
 next:Int
 seen:Int
 found:Int
 stop:Bool
 done:Bool
def Wk.l (x:Wk):List Value:=[.int .u64 x.key,.int .i64 x.mode,.int .i64 x.phase,.int .i64 x.pred,.int .i64 x.curr,.int .u64 x.next,.int .i64 x.seen,.int .i64 x.found,.bool x.stop,.bool x.done]
def arrK (s:St) (x:Wk) (v:Int):Wk:=if v = 0 ∨ x.key < keyOf_ s v then { x with curr:=v,done:=true } else { x with curr:=v,phase:=1 }
def advK (s:St) (x:Wk):Wk:=arrK s { x with pred:=x.curr } (x.next / 2)
def opK (s:St) (x:Wk):Int:=carriedOf (lookI s.nodes x.curr)
def judK (s:St) (x:Wk) (v:Int):Wk :=
 if 2 ≤ v then { x with phase:=4 }
 else if keyOf_ s x.curr ≠ x.key then advK s x
 else if x.mode = 2 then { x with done:=true,stop:=true,found:=if v = 1 then opK s x else x.found }
 else if x.mode ≠ 1 then advK s x
 else if v = 1 then (if x.seen = opK s x then { x with phase:=4 } else advK s { x with seen:=opK s x })
 else { x with phase:=if x.seen = -1 then 6 else 5 }
structure Kd where
 ws:List Int
 n:Int
 x:Wk
def begK (c:Cf) (s:St) (y:Kd):Kd:=⟨y.ws,y.n + cnt y.ws (nxtI c (headI c y.x.key)),arrK s { y.x with pred:=headI c y.x.key,seen:=-1 } (rd y.ws (nxtI c (headI c y.x.key)) / 2)⟩
def peeK (c:Cf) (y:Kd):Kd:=⟨y.ws,y.n + cnt y.ws (nxtI c y.x.curr),{ y.x with next:=rd y.ws (nxtI c y.x.curr),phase:=if rd y.ws (nxtI c y.x.curr) % 2 == 1 then 2 else 3 }⟩
def unlK (c:Cf) (s:St) (y:Kd):Kd:=⟨sw y.ws (nxtI c y.x.pred) (zPack y.x.curr false) (zPack (y.x.next / 2) false),y.n + cnt y.ws (nxtI c y.x.pred),
 if may y.ws (nxtI c y.x.pred) (zPack y.x.curr false) then arrK s y.x (y.x.next / 2) else { y.x with phase:=0 }⟩
def jdgK (c:Cf) (s:St) (y:Kd):Kd:=⟨y.ws,y.n + cnt y.ws (wrdI c (opK s y.x)),judK s y.x (rd y.ws (wrdI c (opK s y.x)))⟩
def mrkK (c:Cf) (y:Kd):Kd:=⟨sw y.ws (nxtI c y.x.curr) y.x.next (2 * (y.x.next / 2) + 1),y.n + cnt y.ws (nxtI c y.x.curr),{ y.x with phase:=1 }⟩
def askK (c:Cf) (y:Kd):Kd:=⟨y.ws,y.n + cnt y.ws (wrdI c y.x.seen),if rd y.ws (wrdI c y.x.seen) = 1 then { y.x with phase:=7 } else { y.x with seen:=-1,phase:=6 }⟩
def setK (c:Cf) (s:St) (y:Kd) (v:Int):Kd:=⟨sw y.ws (wrdI c (opK s y.x)) 0 v,y.n + cnt y.ws (wrdI c (opK s y.x)),{ y.x with phase:=3 }⟩
def stepK (c:Cf) (s:St) (y:Kd):Kd :=
 if y.x.done then y else
 if y.x.phase = 0 then begK c s y else
 if y.x.phase = 1 then peeK c y else
 if y.x.phase = 2 then unlK c s y else
 if y.x.phase = 3 then jdgK c s y else
 if y.x.phase = 4 then mrkK c y else
 if y.x.phase = 5 then askK c y else
 if y.x.phase = 6 then setK c s y 1 else
 if y.x.phase = 7 then setK c s y 2 else
 { y with x:={ y.x with done:=true } }
theorem run_storeVar_cell {P:Program} (w:World) (b o:Nat) (ty:TypeId) (v:Value) {l:List Value} (hB:Box w b l) (hl:o < l.length) (hi:(P.info? ty).map (·.size) = some 1) (h1:v.oneCell' = true) :
  (storeVar ty ⟨b,o,none⟩ v).run P w = .ok () (w.setCell ⟨b,o,none⟩ v):=by
 have:=run_storeCells_cells (P:=P) b o [v] 0 w (fun j hj => by
   obtain rfl:j = 0:=by simpa using hj
   simp [hB.cell o _ (List.getElem?_eq_getElem hl)]) (fun j hj => hB.free _) (fun x hx => by simp at hx;subst hx;exact h1)
 have hc:v.cells = #[v]:=by cases v <;> first | rfl | cases h1
 cases hq:P.info? ty with
 | none => simp [hq] at hi
 | some i =>
  have hs:i.size = 1:=by simpa [hq] using hi
  simp only [Nat.add_zero,World.setCells] at this
  simp [storeVar,sizeOf,typeInfo,hq,hc,hs,this]
theorem store_cell {P:Program} {ops:Array Oper} {rest:List Oper} {op:Oper} {a:Act} {w:World} {Q:Exit → Act → World → Prop} (hgd:op.guard = none) (ty:TypeId) (x y:Operand) (ho:op.op = .store ty x y)
  (b o:Nat) (hx:a.eval x = .pointer (some ⟨b,o,none⟩)) (v:Value) (hy:a.eval y = v) (h1:v.oneCell' = true) (l l':List Value) (hB:Box w b l) (hl:o < l.length)
  (hi:(P.info? ty).map (·.size) = some 1) (hl':l.set o v = l')
  (h:∀ w',Box w' b l' → But (fun i => i = b) w w' → wpList P ops Q rest (a.put op.dst undef) w'):wpList P ops Q (op :: rest) a w :=
 wpList_plain hgd fun _ hK => by
  unfold Oper.wp execOp
  simp only [ho,hx,hy,Instr.storeAt,Instr.sureAddr,Sem.run_bind,Sem.run_pure,Result.andThen_ok,run_storeVar_cell w b o ty v hB hl hi h1]
  exact hK _ _ (h _ (hl' ▸ hB.set hl v) (But.setCell (S:=fun i => i = b) (But.refl _ w) (.inl rfl) v))
structure WkAt (w:World) (c:Cf) (d:Wd) (s:St) (r:Nat) (y:Kd):Prop where
 wd:WdAt w c d y.ws y.n s
 box:Box w r y.x.l
 nm:¬ Mine d.p d.b r
 nx:r ≠ d.x
def Sk (d:Wd) (r:Nat):Nat → Prop:=fun i => Mine d.p d.b i ∨ i = r
theorem WdAt.writes {w w':World} {c:Cf} {d:Wd} {ws:List Int} {n:Int} {s:St} {r:Nat} {k:Int} (h:WdAt w c d ws n s) (q:But (fun i => i = r) w w') (h0:w.cell? ⟨r,0,none⟩ = some (.int .u64 k)) (hm:¬ Mine d.p d.b r) (hx:r ≠ d.x):WdAt w' c d ws n s:=by
 have k:¬ d.x = r:=fun e => hx e.symm
 have np:¬ d.p = r:=fun e => hm (.inl e.symm)
 have nb:¬ d.b = r:=fun e => hm (.inr e.symm)
 exact ⟨q.cell k h.k0,q.cell k h.k1,q.cell k h.k2,q.cell k h.k3,q.cell k h.k4,q.cell k h.k5,q.cell k h.k6,
  ⟨q.cell np h.bank.words,q.cell np h.bank.steps,fun i j hij => q.frozen (h.bank.free i j hij),fun j hj => q.cell nb (h.bank.cells j hj),h.bank.apart,Nat.lt_of_lt_of_le h.bank.ltb q.2.2,h.bank.few⟩,
  h.book.odd q (fun i hi => by subst hi;exact ⟨_,h0,by simp,by simp⟩),h.len,h.mine,h.o1,h.o2,h.o3⟩
theorem WkAt.grown {w w':World} {c:Cf} {d:Wd} {s:St} {r:Nat} {y:Kd} (h:WkAt w c d s r y) (g:Grown w w'):WkAt w' c d s r y:=⟨h.wd.grown g,h.box.grown g,h.nm,h.nx⟩
theorem WkAt.put {w w':World} {c:Cf} {d:Wd} {s:St} {r:Nat} {y:Kd} {x:Wk} (h:WkAt w c d s r y) (hB:Box w' r x.l) (q:But (fun i => i = r) w w'):WkAt w' c d s r ⟨y.ws,y.n,x⟩ :=
 ⟨h.wd.writes q (h.box.cell 0 _ rfl) h.nm h.nx,hB,h.nm,h.nx⟩
theorem WkAt.step {w w':World} {c:Cf} {d:Wd} {s:St} {r:Nat} {y:Kd} {ws:List Int} {n:Int} (h:WkAt w c d s r y) (q:LeftW c d ws n s w w'):WkAt w' c d s r ⟨ws,n,y.x⟩ :=
 ⟨q.2,h.box.but q.1 h.nm,h.nm,h.nx⟩
def LeftK (c:Cf) (d:Wd) (s:St) (r:Nat) (y:Kd) (w w':World):Prop:=But (Sk d r) w w' ∧ WkAt w' c d s r y
theorem but_r {d:Wd} {r:Nat} {w w':World} (q:But (fun i => i = r) w w'):But (Sk d r) w w':=q.mono fun _ h => .inr h
theorem but_m {d:Wd} {r:Nat} {w w':World} (q:But (Mine d.p d.b) w w'):But (Sk d r) w w':=q.mono fun _ h => .inl h
set_option maxHeartbeats 4000000 in
theorem kArrive (w:World) (c:Cf) (d:Wd) (s:St) (r:Nat) (y:Kd) (h:WkAt w c d s r y) (hI:Inv c s) (v:Int) (z:Wk) (hz:arrK s y.x v = z) :
  Calls Tryz.prog 256 #[.pointer (some ⟨r,0,none⟩),.pointer (some ⟨d.x,0,none⟩),.int .i64 v] w fun e w' => e = .returned (.tuple #[]) ∧ LeftK c d s r ⟨y.ws,y.n,z⟩ w w':=by
 obtain ⟨ws,n,x⟩:=y
 simp only at hz
 have H:=Lib.hid h
 have HI:=Lib.hid hI
 obtain ⟨kv,hk⟩:∃ k,keyOf_ s v = k:=⟨_,rfl⟩
 have HK:=Lib.hid hk
 have HZ:Hid ((if v = 0 ∨ x.key < kv then { x with curr:=v,done:=true } else { x with curr:=v,phase:=1 }) = z):=Lib.hid (by rw [← hz,← hk];rfl)
 clear h hI hk hz
 by_cases h0:v = 0
 ·subst h0
  go_enter Tryz.func256,Tryz.ntmps256
  go_wp2_with (first | (refine store_cell rfl 3 _ _ rfl r 4 rfl (.int .i64 0) rfl rfl x.l ({ x with curr:=0 }:Wk).l H.out.box (Nat.le_of_ble_eq_true rfl) (by kernel_rfl) rfl ?_;intro w1 B1 q1;have H1:=Lib.hid (H.out.put (x:={ x with curr:=0 }) B1 q1);have Q1:=Lib.hid q1;clear B1 q1) | fail)
  refine wp_region_grow (by kernel_rfl) (by kernel_rfl) ?_
  repeat (go_big_quiet_step (fail))
  refine wpQuiet_nil ?_
  rintro w2 ⟨⟨_,g2⟩,rfl⟩
  have H2:=Lib.hid (H1.out.grown g2)
  have Q2:Hid (But (Sk d r) w w2):=Lib.hid ((but_r Q1.out).trans (But.of_grown g2))
  clear g2 Q1 H1
  go_wp2_with (first | (refine store_cell rfl 4 _ _ rfl r 9 rfl (.bool true) rfl rfl ({ x with curr:=0 }:Wk).l ({ x with curr:=0,done:=true }:Wk).l H2.out.box (Nat.le_of_ble_eq_true rfl) (by kernel_rfl) rfl ?_;intro w3 B3 q3;have H3:=Lib.hid (H2.out.put (x:={ x with curr:=0,done:=true }) B3 q3);have Q3:=Lib.hid (Q2.out.trans (but_r q3));clear B3 q3) | fail)
  refine bodyPost_ret (results_none rfl _ _ _) rfl ?_
  have hz:=HZ.out
  simp only [true_or,if_true] at hz
  exact ⟨rfl,Q3.out,hz ▸ H3.out⟩
 ·have hb:(v == 0) = false:=by simpa using h0
  have hd:decide (v = 0) = false:=by simpa using h0
  by_cases hg:x.key < kv
  ·have hgd:decide (x.key < kv) = true:=by simpa using hg
   go_enter Tryz.func256,Tryz.ntmps256
   go_wp2_with (first | (refine store_cell rfl 3 _ _ rfl r 4 rfl (.int .i64 v) rfl rfl x.l ({ x with curr:=v }:Wk).l H.out.box (Nat.le_of_ble_eq_true rfl) (by kernel_rfl) rfl ?_;intro w1 B1 q1;have H1:=Lib.hid (H.out.put (x:={ x with curr:=v }) B1 q1);have Q1:=Lib.hid q1;clear B1 q1) | fail)
   have d6:∀ g:GrW w1,g.w.cell? ⟨d.x,6,none⟩ = some (.pointer (some ⟨d.a.p,0,none⟩)):=GrW.cell H1.out.wd.k6
   have dk:∀ g:GrW w1,g.w.cell? ⟨r,0,none⟩ = some (.int .u64 x.key):=GrW.cell (H1.out.box.cell 0 _ rfl)
   refine wp_region_grow (by kernel_rfl) (by kernel_rfl) ?_
   repeat (go_big_quiet_step ((go_at_call 259;exact grcall (Key_at _ c d.a s (H1.out.wd.book.grown (GrW.gr _)) HI.out v kv HK.out))))
   refine wpQuiet_nil ?_
   rintro w2 ⟨⟨_,g2⟩,rfl⟩
   have H2:=Lib.hid (H1.out.grown g2)
   have Q2:Hid (But (Sk d r) w w2):=Lib.hid ((but_r Q1.out).trans (But.of_grown g2))
   clear g2 Q1 H1 d6 dk
   go_wp2_with (first | (refine store_cell rfl 4 _ _ rfl r 9 rfl (.bool true) rfl rfl ({ x with curr:=v }:Wk).l ({ x with curr:=v,done:=true }:Wk).l H2.out.box (Nat.le_of_ble_eq_true rfl) (by kernel_rfl) rfl ?_;intro w3 B3 q3;have H3:=Lib.hid (H2.out.put (x:={ x with curr:=v,done:=true }) B3 q3);have Q3:=Lib.hid (Q2.out.trans (but_r q3));clear B3 q3) | fail)
   refine bodyPost_ret (results_none rfl _ _ _) rfl ?_
   have hz:=HZ.out
   rw [if_pos (.inr hg)] at hz
   exact ⟨rfl,Q3.out,hz ▸ H3.out⟩
  ·have hgd:decide (x.key < kv) = false:=by simpa using hg
   go_enter Tryz.func256,Tryz.ntmps256
   go_wp2_with (first | (refine store_cell rfl 3 _ _ rfl r 4 rfl (.int .i64 v) rfl rfl x.l ({ x with curr:=v }:Wk).l H.out.box (Nat.le_of_ble_eq_true rfl) (by kernel_rfl) rfl ?_;intro w1 B1 q1;have H1:=Lib.hid (H.out.put (x:={ x with curr:=v }) B1 q1);have Q1:=Lib.hid q1;clear B1 q1) | fail)
   have d6:∀ g:GrW w1,g.w.cell? ⟨d.x,6,none⟩ = some (.pointer (some ⟨d.a.p,0,none⟩)):=GrW.cell H1.out.wd.k6
   have dk:∀ g:GrW w1,g.w.cell? ⟨r,0,none⟩ = some (.int .u64 x.key):=GrW.cell (H1.out.box.cell 0 _ rfl)
   refine wp_region_grow (by kernel_rfl) (by kernel_rfl) ?_
   repeat (go_big_quiet_step ((go_at_call 259;exact grcall (Key_at _ c d.a s (H1.out.wd.book.grown (GrW.gr _)) HI.out v kv HK.out))))
   refine wpQuiet_nil ?_
   rintro w2 ⟨⟨_,g2⟩,rfl⟩
   have H2:=Lib.hid (H1.out.grown g2)
   have Q2:Hid (But (Sk d r) w w2):=Lib.hid ((but_r Q1.out).trans (But.of_grown g2))
   clear g2 Q1 H1 d6 dk
   go_wp2_with (first | (refine store_cell rfl 3 _ _ rfl r 2 rfl (.int .i64 1) rfl rfl ({ x with curr:=v }:Wk).l ({ x with curr:=v,phase:=1 }:Wk).l H2.out.box (Nat.le_of_ble_eq_true rfl) (by kernel_rfl) rfl ?_;intro w3 B3 q3;have H3:=Lib.hid (H2.out.put (x:={ x with curr:=v,phase:=1 }) B3 q3);have Q3:=Lib.hid (Q2.out.trans (but_r q3));clear B3 q3) | fail)
   go_end0
   have hz:=HZ.out
   rw [if_neg (by omega)] at hz
   exact ⟨rfl,Q3.out,hz ▸ H3.out⟩
end Go.Proofs.YtcogckjpmmjmbaaGreat
