/- Package place: what is done in a phase: link, lay, and the walks. -/
import Derived.Test.YtcogckjpmmjmbaaGreatQAGWkCl
import Derived.Test.YtcogckjpmmjmbaaGreatQAWalk
import Derived.Test.YtcogckjpmmjmbaaGreatQAMScene
namespace Go.Proofs.YtcogckjpmmjmbaaGreat
open Go.ChangeShapes Go.WideShapes Go.ChangeAt Go.RowKit
set_option maxRecDepth 100000
set_option linter.unusedVariables false
structure PlAt (w:World) (c:Cf) (d:Wd) (r:Nat) (y:Ku):Prop where
 wd:WdAt w c d y.ws y.n y.s
 box:Box w r y.x.l
 nm:¬ Ow d r
 nx:¬ d.x = r
 hr:d.a.hi ≤ r
def So (d:Wd) (r:Nat):Nat → Prop:=fun i => Ow d i ∨ i = r
theorem so_r {d:Wd} {r:Nat} {w w':World} (q:But (fun i => i = r) w w'):But (So d r) w w':=q.mono fun _ h => .inr h
theorem so_m {d:Wd} {r:Nat} {w w':World} (q:But (Mine d.p d.b) w w'):But (So d r) w w':=q.mono fun _ h => .inl (.inr h)
theorem so_o {d:Wd} {r:Nat} {w w':World} (q:But (Own d.a) w w'):But (So d r) w w':=q.mono fun _ h => .inl (.inl h)
theorem WdAt.othB {w w':World} {c:Cf} {d:Wd} {ws:List Int} {n:Int} {s:St} {T:Nat} {z:Int} (h:WdAt w c d ws n s) (q:But (fun i => i = T) w w') (hT:d.a.hi ≤ T) (hm:¬ Mine d.p d.b T) (hx:¬ d.x = T)
  (h1:w.cell? ⟨T,1,none⟩ = some (.int .i64 z)):WdAt w' c d ws n s:=by
 have hp:¬ d.p = T:=fun e => hm (.inl e.symm)
 have hb:¬ d.b = T:=fun e => hm (.inr e.symm)
 have B:=h.bank
 exact ⟨q.cell hx h.k0,q.cell hx h.k1,q.cell hx h.k2,q.cell hx h.k3,q.cell hx h.k4,q.cell hx h.k5,q.cell hx h.k6,
  ⟨q.cell hp B.words,q.cell hp B.steps,fun i j hij => q.frozen (B.free i j hij),fun j hj => q.cell hb (B.cells j hj),B.apart,Nat.lt_of_lt_of_le B.ltb q.2.2,B.few⟩,
  h.book.other q (by omega) h1,h.len,h.mine,h.o1,h.o2,h.o3⟩
theorem PlAt.grown {w w':World} {c:Cf} {d:Wd} {r:Nat} {y:Ku} (h:PlAt w c d r y) (g:Grown w w'):PlAt w' c d r y:=⟨h.wd.grown g,h.box.grown g,h.nm,h.nx,h.hr⟩
theorem PlAt.put {w w':World} {c:Cf} {d:Wd} {r:Nat} {y:Ku} {x:Put} (h:PlAt w c d r y) (hB:Box w' r x.l) (q:But (fun i => i = r) w w'):PlAt w' c d r ⟨y.ws,y.n,y.s,x⟩ :=
 ⟨h.wd.othB q h.hr (fun m => h.nm (.inr m)) h.nx (h.box.cell 1 _ rfl),hB,h.nm,h.nx,h.hr⟩
theorem PlAt.step {w w':World} {c:Cf} {d:Wd} {r:Nat} {y:Ku} {ws:List Int} {n:Int} (h:PlAt w c d r y) (q:LeftW c d ws n y.s w w'):PlAt w' c d r ⟨ws,n,y.s,y.x⟩ :=
 ⟨q.2,h.box.but q.1 (fun m => h.nm (.inr m)),h.nm,h.nx,h.hr⟩
theorem PlAt.bookP {w w':World} {c:Cf} {d:Wd} {r:Nat} {y:Ku} {s':St} (h:PlAt w c d r y) (q:But (Own d.a) w w') (hb:BookAt w' c d.a s'):PlAt w' c d r ⟨y.ws,y.n,s',y.x⟩ :=
 ⟨h.wd.book' q hb,h.box.but q (fun m => h.nm (.inl m)),h.nm,h.nx,h.hr⟩
def LeftP (c:Cf) (d:Wd) (r:Nat) (y:Ku) (w w':World):Prop:=But (So d r) w w' ∧ PlAt w' c d r y
theorem load_mid {P:Program} {ops:Array Oper} {rest:List Oper} {op:Oper} {a:Act} {w:World} {Q:Exit → Act → World → Prop} (hgd:op.guard = none) (ty:TypeId) (x:Operand) (ho:op.op = .load ty x)
  (b f:Nat) (hx:a.eval x = .pointer (some ⟨b,f,none⟩)) (l l':List Value) (d:TypeDesc) (hu:P.underlying ty = some d) (hd:d.isRow = true) (hi:(P.info? ty).map (·.size) = some l'.length) (hB:Box w b l) (hl:(l.drop f).take l'.length = l')
  (h:wpList P ops Q rest (a.put op.dst (.agg l'.toArray)) w):wpList P ops Q (op :: rest) a w :=
 wpList_load_mid hgd ty x ho b f hx l' d (fun j v hv => by
  refine hB.cell (f + j) v ?_
  rw [← hl] at hv
  rw [List.getElem?_take] at hv
  split at hv
  ·rw [List.getElem?_drop] at hv;exact hv
  ·cases hv) hu hd hi h
set_option maxHeartbeats 4000000 in
theorem pLink (w:World) (c:Cf) (d:Wd) (r:Nat) (y:Ku) (h:PlAt w c d r y) (n0:0 ≤ y.n) (n1:y.n < 4611686018427387904) (u0:-9223372036854775808 ≤ y.x.node) (u1:y.x.node ≤ 9223372036854775807) (u2:-9223372036854775808 ≤ y.x.wk.curr) (u3:y.x.wk.curr ≤ 9223372036854775807) (z:Ku) (hz:lnkU c y = z) :
  Calls Tryz.prog 160 #[.pointer (some ⟨r,0,none⟩),.pointer (some ⟨d.x,0,none⟩)] w fun e w' => e = .returned (.tuple #[]) ∧ LeftP c d r z w w':=by
 obtain ⟨v,hv⟩:∃ v,zPack y.x.wk.curr false = v:=⟨_,rfl⟩
 obtain ⟨t,ht⟩:∃ v,zPack y.x.node false = v:=⟨_,rfl⟩
 obtain ⟨m,hm⟩:∃ m,may y.ws (nxtI c y.x.wk.pred) v = m:=⟨_,rfl⟩
 have hz':(⟨sw y.ws (nxtI c y.x.wk.pred) v t,y.n + cnt y.ws (nxtI c y.x.wk.pred),y.s,{ y.x with linked:=y.x.linked || m,phase:=0 }⟩:Ku) = z:=by rw [← hz,← hm,← ht,← hv];rfl
 have H:=Lib.hid h
 have HV:=Lib.hid hv
 have HT:=Lib.hid ht
 have HM:=Lib.hid hm
 clear h hz hv ht hm
 cases m
 ·have HZ:Hid ((⟨sw y.ws (nxtI c y.x.wk.pred) v t,y.n + cnt y.ws (nxtI c y.x.wk.pred),y.s,{ y.x with phase:=0 }⟩:Ku) = z):=Lib.hid (by rw [← hz'];simp)
  clear hz'
  go_enter Tryz.func160,Tryz.ntmps160
  go_wp2_with fail
  refine wp_region_planb (Mine d.p d.b) (.one [0,1,2,3,4,5,6,7,8,9,10,12,13,14,15] 11 (.one [] 16 (.one [] 17 (.fin [])))) (by kernel_rfl) (by kernel_rfl) (by kernel_rfl) ?_
  intro w2 g2
  have H2:=Lib.hid (H.out.grown g2)
  have Q2:Hid (But (So d r) w w2):=Lib.hid (But.of_grown g2)
  have d3:∀ g:ButW (Mine d.p d.b) w2,g.w.cell? ⟨r,3,none⟩ = some (.int .i64 y.x.node):=ButW.cell (fun m => H2.out.nm (.inr m)) (H2.out.box.cell 3 _ rfl)
  have d8:∀ g:ButW (Mine d.p d.b) w2,g.w.cell? ⟨r,8,none⟩ = some (.int .i64 y.x.wk.pred):=ButW.cell (fun m => H2.out.nm (.inr m)) (H2.out.box.cell 8 _ rfl)
  have d9:∀ g:ButW (Mine d.p d.b) w2,g.w.cell? ⟨r,9,none⟩ = some (.int .i64 y.x.wk.curr):=ButW.cell (fun m => H2.out.nm (.inr m)) (H2.out.box.cell 9 _ rfl)
  refine plan_one ?_
  simp only [nths,nth,List.map_cons,List.map_nil,List.getD_cons_zero,List.getD_cons_succ]
  repeat go_big_quiet_step (fail)
  clear d3 d8 d9 g2
  refine wpQuiet_nil ?_
  go_wp2_with fail
  refine (Pack_at _ HV.out u2 u3).mono ?_;rintro e w3 ⟨rfl,g3⟩
  have H3:=Lib.hid (H2.out.grown g3)
  go_wp2_with fail
  refine nxt_but (But.of_grown g3) (plan_one ?_)
  simp only [nths,nth,List.map_nil,List.getD_cons_zero,List.getD_cons_succ]
  refine wpQuiet_nil ?_
  go_wp2_with fail
  refine (Pack_at _ HT.out u0 u1).mono ?_;rintro e w4 ⟨rfl,g4⟩
  have H4:=Lib.hid (H3.out.grown g4)
  have G4:=Lib.hid (gtr g3 g4)
  clear g3 g4
  go_wp2_with fail
  refine nxt_but (But.of_grown G4.out) (plan_one ?_)
  simp only [nths,nth,List.map_nil,List.getD_cons_zero,List.getD_cons_succ]
  refine wpQuiet_nil ?_
  go_wp2_with fail
  refine (wLink_any _ c d y.ws y.n y.s _ _ _ H4.out.wd n0 n1).mono ?_;rintro e w5 ⟨rfl,q5,h5⟩
  rw [HM.out]
  have H5:=Lib.hid (H4.out.step ⟨q5,h5⟩)
  have q25:But (Mine d.p d.b) w2 w5:=(But.of_grown G4.out).trans q5
  have Q5:=Lib.hid (Q2.out.trans (so_m q25))
  clear q5 h5
  go_wp2_with fail
  refine nxt_but q25 (plan_fin ?_)
  simp only [nths,List.map_nil]
  refine wpQuiet_nil ?_
  go_wp2_with (first | (refine store_cell rfl 3 _ _ rfl r 2 rfl (.int .i64 0) rfl rfl (y.x).l ({ y.x with phase:=0 }:Put).l H5.out.box (Nat.le_of_ble_eq_true rfl) (by kernel_rfl) rfl ?_;intro w7 B_ q_;have H7:=Lib.hid (H5.out.put (x:={ y.x with phase:=0 }) B_ q_);have Q7:Hid (But (So d r) w w7):=Lib.hid (Q5.out.trans (so_r q_));clear B_ q_) | fail)
  go_end0
  refine ⟨rfl,Q7.out,?_⟩
  rw [← HZ.out]
  exact H7.out
 ·have HZ:Hid ((⟨sw y.ws (nxtI c y.x.wk.pred) v t,y.n + cnt y.ws (nxtI c y.x.wk.pred),y.s,{ y.x with linked:=true,phase:=0 }⟩:Ku) = z):=Lib.hid (by rw [← hz'];simp)
  clear hz'
  go_enter Tryz.func160,Tryz.ntmps160
  go_wp2_with fail
  refine wp_region_planb (Mine d.p d.b) (.one [0,1,2,3,4,5,6,7,8,9,10,12,13,14,15] 11 (.one [] 16 (.one [] 17 (.fin [])))) (by kernel_rfl) (by kernel_rfl) (by kernel_rfl) ?_
  intro w2 g2
  have H2:=Lib.hid (H.out.grown g2)
  have Q2:Hid (But (So d r) w w2):=Lib.hid (But.of_grown g2)
  have d3:∀ g:ButW (Mine d.p d.b) w2,g.w.cell? ⟨r,3,none⟩ = some (.int .i64 y.x.node):=ButW.cell (fun m => H2.out.nm (.inr m)) (H2.out.box.cell 3 _ rfl)
  have d8:∀ g:ButW (Mine d.p d.b) w2,g.w.cell? ⟨r,8,none⟩ = some (.int .i64 y.x.wk.pred):=ButW.cell (fun m => H2.out.nm (.inr m)) (H2.out.box.cell 8 _ rfl)
  have d9:∀ g:ButW (Mine d.p d.b) w2,g.w.cell? ⟨r,9,none⟩ = some (.int .i64 y.x.wk.curr):=ButW.cell (fun m => H2.out.nm (.inr m)) (H2.out.box.cell 9 _ rfl)
  refine plan_one ?_
  simp only [nths,nth,List.map_cons,List.map_nil,List.getD_cons_zero,List.getD_cons_succ]
  repeat go_big_quiet_step (fail)
  clear d3 d8 d9 g2
  refine wpQuiet_nil ?_
  go_wp2_with fail
  refine (Pack_at _ HV.out u2 u3).mono ?_;rintro e w3 ⟨rfl,g3⟩
  have H3:=Lib.hid (H2.out.grown g3)
  go_wp2_with fail
  refine nxt_but (But.of_grown g3) (plan_one ?_)
  simp only [nths,nth,List.map_nil,List.getD_cons_zero,List.getD_cons_succ]
  refine wpQuiet_nil ?_
  go_wp2_with fail
  refine (Pack_at _ HT.out u0 u1).mono ?_;rintro e w4 ⟨rfl,g4⟩
  have H4:=Lib.hid (H3.out.grown g4)
  have G4:=Lib.hid (gtr g3 g4)
  clear g3 g4
  go_wp2_with fail
  refine nxt_but (But.of_grown G4.out) (plan_one ?_)
  simp only [nths,nth,List.map_nil,List.getD_cons_zero,List.getD_cons_succ]
  refine wpQuiet_nil ?_
  go_wp2_with fail
  refine (wLink_any _ c d y.ws y.n y.s _ _ _ H4.out.wd n0 n1).mono ?_;rintro e w5 ⟨rfl,q5,h5⟩
  rw [HM.out]
  have H5:=Lib.hid (H4.out.step ⟨q5,h5⟩)
  have q25:But (Mine d.p d.b) w2 w5:=(But.of_grown G4.out).trans q5
  have Q5:=Lib.hid (Q2.out.trans (so_m q25))
  clear q5 h5
  go_wp2_with fail
  refine nxt_but q25 (plan_fin ?_)
  simp only [nths,List.map_nil]
  refine wpQuiet_nil ?_
  go_wp2_with (first | (refine store_cell rfl 4 _ _ rfl r 4 rfl (.bool true) rfl rfl (y.x).l ({ y.x with linked:=true }:Put).l H5.out.box (Nat.le_of_ble_eq_true rfl) (by kernel_rfl) rfl ?_;intro w6 B_ q_;have H6:=Lib.hid (H5.out.put (x:={ y.x with linked:=true }) B_ q_);have Q6:Hid (But (So d r) w w6):=Lib.hid (Q5.out.trans (so_r q_));clear B_ q_) | (refine store_cell rfl 3 _ _ rfl r 2 rfl (.int .i64 0) rfl rfl (({ y.x with linked:=true }:Put)).l ({ y.x with linked:=true,phase:=0 }:Put).l H6.out.box (Nat.le_of_ble_eq_true rfl) (by kernel_rfl) rfl ?_;intro w7 B_ q_;have H7:=Lib.hid (H6.out.put (x:={ y.x with linked:=true,phase:=0 }) B_ q_);have Q7:Hid (But (So d r) w w7):=Lib.hid (Q6.out.trans (so_r q_));clear B_ q_) | fail)
  go_end0
  refine ⟨rfl,Q7.out,?_⟩
  rw [← HZ.out]
  exact H7.out
set_option maxHeartbeats 4000000 in
theorem pApproach (w:World) (c:Cf) (d:Wd) (r:Nat) (y:Ku) (h:PlAt w c d r y) (n0:0 ≤ y.n) (n1:y.n < 4611686018427387904) (hI:Inv c y.s) (hw:∀ i:Int,0 ≤ rd y.ws i ∧ rd y.ws i ≤ 18446744073709551615) (ok:y.x.wk.Ok) (hp:y.x.phase = 1) (z:Ku) (hz:wlkU c y = z) :
  Calls Tryz.prog 158 #[.pointer (some ⟨r,0,none⟩),.pointer (some ⟨d.x,0,none⟩)] w fun e w' => e = .returned (.tuple #[]) ∧ LeftP c d r z w w':=by
 obtain ⟨⟨zws,zn,zx⟩,hzk⟩:∃ z,stepK c y.s ⟨y.ws,y.n,y.x.wk⟩ = z:=⟨_,rfl⟩
 obtain ⟨dn,hdn⟩:∃ b,zx.done = b:=⟨_,rfl⟩
 have H:=Lib.hid h
 have HZK:=Lib.hid hzk
 have HDN:=Lib.hid hdn
 have HI:=Lib.hid hI
 cases dn
 ·have HZ:Hid ((⟨zws,zn,y.s,{ y.x with wk:=zx }⟩:Ku) = z):=Lib.hid (by rw [← hz];unfold wlkU wkdU;simp [hzk,hdn,hp])
  clear hz hzk hdn h hI hp
  go_enter Tryz.func158,Tryz.ntmps158
  go_wp2_with (first | (refine load_mid rfl 63 _ rfl r 5 rfl y.x.l y.x.wk.l _ Tryz.underlying63 rfl (by kernel_rfl) H.out.box (by rfl) ?_) | fail)
  refine (kStep _ c d y.s ⟨y.ws,y.n,y.x.wk⟩ H.out.wd HI.out n0 n1 hw ok _ HZK.out).mono ?_;rintro e w2 ⟨rfl,q2⟩
  have H2:=Lib.hid (H.out.step q2)
  have Q2:Hid (But (So d r) w w2):=Lib.hid (so_m q2.1)
  clear q2
  go_wp2_with (first | (refine store_part rfl 63 _ _ rfl r 5 rfl _ rfl y.x.l ({ y.x with wk:=zx }:Put).l H2.out.box (Nat.le_of_ble_eq_true rfl) (by kernel_rfl) rfl rfl ?_;intro w3 B_ q_;have H3:=Lib.hid (H2.out.put (x:={ y.x with wk:=zx }) B_ q_);have Q3:Hid (But (So d r) w w3):=Lib.hid (Q2.out.trans (so_r q_));have c14:=H3.out.box.cell 14 (.bool zx.done) rfl;rw [HDN.out] at c14;clear B_ q_) | fail)
  go_end0
  refine ⟨rfl,Q3.out,?_⟩
  rw [← HZ.out]
  exact H3.out
 ·have HZ:Hid ((⟨zws,zn,y.s,{ y.x with wk:=zx,phase:=2 }⟩:Ku) = z):=Lib.hid (by rw [← hz];unfold wlkU wkdU;simp [hzk,hdn,hp])
  clear hz hzk hdn h hI hp
  go_enter Tryz.func158,Tryz.ntmps158
  go_wp2_with (first | (refine load_mid rfl 63 _ rfl r 5 rfl y.x.l y.x.wk.l _ Tryz.underlying63 rfl (by kernel_rfl) H.out.box (by rfl) ?_) | fail)
  refine (kStep _ c d y.s ⟨y.ws,y.n,y.x.wk⟩ H.out.wd HI.out n0 n1 hw ok _ HZK.out).mono ?_;rintro e w2 ⟨rfl,q2⟩
  have H2:=Lib.hid (H.out.step q2)
  have Q2:Hid (But (So d r) w w2):=Lib.hid (so_m q2.1)
  clear q2
  go_wp2_with (first | (refine store_part rfl 63 _ _ rfl r 5 rfl _ rfl y.x.l ({ y.x with wk:=zx }:Put).l H2.out.box (Nat.le_of_ble_eq_true rfl) (by kernel_rfl) rfl rfl ?_;intro w3 B_ q_;have H3:=Lib.hid (H2.out.put (x:={ y.x with wk:=zx }) B_ q_);have Q3:Hid (But (So d r) w w3):=Lib.hid (Q2.out.trans (so_r q_));have c14:=H3.out.box.cell 14 (.bool zx.done) rfl;rw [HDN.out] at c14;clear B_ q_) | (refine store_cell rfl 3 _ _ rfl r 2 rfl (.int .i64 2) rfl rfl (({ y.x with wk:=zx }:Put)).l ({ y.x with wk:=zx,phase:=2 }:Put).l H3.out.box (Nat.le_of_ble_eq_true rfl) (by kernel_rfl) rfl ?_;intro w4 B_ q_;have H4:=Lib.hid (H3.out.put (x:={ y.x with wk:=zx,phase:=2 }) B_ q_);have Q4:Hid (But (So d r) w w4):=Lib.hid (Q3.out.trans (so_r q_));clear B_ q_) | fail)
  go_end0
  refine ⟨rfl,Q4.out,?_⟩
  rw [← HZ.out]
  exact H4.out
set_option maxHeartbeats 4000000 in
theorem pClean (w:World) (c:Cf) (d:Wd) (r:Nat) (y:Ku) (h:PlAt w c d r y) (n0:0 ≤ y.n) (n1:y.n < 4611686018427387904) (hI:Inv c y.s) (hw:∀ i:Int,0 ≤ rd y.ws i ∧ rd y.ws i ≤ 18446744073709551615) (ok:y.x.wk.Ok) (hp:y.x.phase = 5) (hd:y.x.done = false) (z:Ku) (hz:wlkU c y = z) :
  Calls Tryz.prog 161 #[.pointer (some ⟨r,0,none⟩),.pointer (some ⟨d.x,0,none⟩)] w fun e w' => e = .returned (.tuple #[]) ∧ LeftP c d r z w w':=by
 obtain ⟨⟨zws,zn,zx⟩,hzk⟩:∃ z,stepK c y.s ⟨y.ws,y.n,y.x.wk⟩ = z:=⟨_,rfl⟩
 obtain ⟨dn,hdn⟩:∃ b,zx.done = b:=⟨_,rfl⟩
 have H:=Lib.hid h
 have HZK:=Lib.hid hzk
 have HDN:=Lib.hid hdn
 have HI:=Lib.hid hI
 cases dn
 ·have HZ:Hid ((⟨zws,zn,y.s,{ y.x with wk:=zx,done:=false }⟩:Ku) = z):=Lib.hid (by rw [← hz];unfold wlkU wkdU;simp [hzk,hdn,hp,hd])
  clear hz hzk hdn h hI hp hd
  go_enter Tryz.func161,Tryz.ntmps161
  go_wp2_with (first | (refine load_mid rfl 63 _ rfl r 5 rfl y.x.l y.x.wk.l _ Tryz.underlying63 rfl (by kernel_rfl) H.out.box (by rfl) ?_) | fail)
  refine (kStep _ c d y.s ⟨y.ws,y.n,y.x.wk⟩ H.out.wd HI.out n0 n1 hw ok _ HZK.out).mono ?_;rintro e w2 ⟨rfl,q2⟩
  have H2:=Lib.hid (H.out.step q2)
  have Q2:Hid (But (So d r) w w2):=Lib.hid (so_m q2.1)
  clear q2
  go_wp2_with (first | (refine store_part rfl 63 _ _ rfl r 5 rfl _ rfl y.x.l ({ y.x with wk:=zx }:Put).l H2.out.box (Nat.le_of_ble_eq_true rfl) (by kernel_rfl) rfl rfl ?_;intro w3 B_ q_;have H3:=Lib.hid (H2.out.put (x:={ y.x with wk:=zx }) B_ q_);have Q3:Hid (But (So d r) w w3):=Lib.hid (Q2.out.trans (so_r q_));have c14:=H3.out.box.cell 14 (.bool zx.done) rfl;rw [HDN.out] at c14;clear B_ q_) | (refine store_cell rfl 4 _ _ rfl r 15 rfl (.bool false) rfl rfl (({ y.x with wk:=zx }:Put)).l ({ y.x with wk:=zx,done:=false }:Put).l H3.out.box (Nat.le_of_ble_eq_true rfl) (by kernel_rfl) rfl ?_;intro w4 B_ q_;have H4:=Lib.hid (H3.out.put (x:={ y.x with wk:=zx,done:=false }) B_ q_);have Q4:Hid (But (So d r) w w4):=Lib.hid (Q3.out.trans (so_r q_));clear B_ q_) | fail)
  go_end0
  refine ⟨rfl,Q4.out,?_⟩
  rw [← HZ.out]
  exact H4.out
 ·have HZ:Hid ((⟨zws,zn,y.s,{ y.x with wk:=zx,done:=true }⟩:Ku) = z):=Lib.hid (by rw [← hz];unfold wlkU wkdU;simp [hzk,hdn,hp])
  clear hz hzk hdn h hI hp hd
  go_enter Tryz.func161,Tryz.ntmps161
  go_wp2_with (first | (refine load_mid rfl 63 _ rfl r 5 rfl y.x.l y.x.wk.l _ Tryz.underlying63 rfl (by kernel_rfl) H.out.box (by rfl) ?_) | fail)
  refine (kStep _ c d y.s ⟨y.ws,y.n,y.x.wk⟩ H.out.wd HI.out n0 n1 hw ok _ HZK.out).mono ?_;rintro e w2 ⟨rfl,q2⟩
  have H2:=Lib.hid (H.out.step q2)
  have Q2:Hid (But (So d r) w w2):=Lib.hid (so_m q2.1)
  clear q2
  go_wp2_with (first | (refine store_part rfl 63 _ _ rfl r 5 rfl _ rfl y.x.l ({ y.x with wk:=zx }:Put).l H2.out.box (Nat.le_of_ble_eq_true rfl) (by kernel_rfl) rfl rfl ?_;intro w3 B_ q_;have H3:=Lib.hid (H2.out.put (x:={ y.x with wk:=zx }) B_ q_);have Q3:Hid (But (So d r) w w3):=Lib.hid (Q2.out.trans (so_r q_));have c14:=H3.out.box.cell 14 (.bool zx.done) rfl;rw [HDN.out] at c14;clear B_ q_) | (refine store_cell rfl 4 _ _ rfl r 15 rfl (.bool true) rfl rfl (({ y.x with wk:=zx }:Put)).l ({ y.x with wk:=zx,done:=true }:Put).l H3.out.box (Nat.le_of_ble_eq_true rfl) (by kernel_rfl) rfl ?_;intro w4 B_ q_;have H4:=Lib.hid (H3.out.put (x:={ y.x with wk:=zx,done:=true }) B_ q_);have Q4:Hid (But (So d r) w w4):=Lib.hid (Q3.out.trans (so_r q_));clear B_ q_) | fail)
  go_end0
  refine ⟨rfl,Q4.out,?_⟩
  rw [← HZ.out]
  exact H4.out
end Go.Proofs.YtcogckjpmmjmbaaGreat
