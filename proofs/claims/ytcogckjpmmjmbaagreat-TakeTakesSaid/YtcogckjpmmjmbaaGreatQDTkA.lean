/- Package take: what is done in a phase. -/
import Derived.Test.YtcogckjpmmjmbaaGreatQDGPlH
namespace Go.Proofs.YtcogckjpmmjmbaaGreat
open Go.ChangeShapes Go.WideShapes Go.ChangeAt Go.RowKit
set_option maxRecDepth 100000
set_option linter.unusedVariables false
theorem BookAt.otherV {w w':World} {c:Cf} {a:Ad} {s:St} {T:Nat} {v:Value} (h:BookAt w c a s) (q:But (· = T) w w') (hT:¬ (a.lo ≤ T ∧ T < a.hi)) (h1:w.cell? ⟨T,1,none⟩ = some v) (hv:∀ k,v ≠ .int .u64 k):BookAt w' c a s:=by
 have o1:=h.o1;have o2:=h.o2;have o3:=h.o3;have o4:=h.o4;have o5:=h.o5;have o6:=h.o6
 have hp:¬ a.p = T:=by omega
 refine ⟨h.ok,q.cell hp h.c0,q.cell hp h.c1,q.cell hp h.c2,q.cell hp h.c3,q.cell hp h.c4,q.cell hp h.c5,q.cell hp h.c6,q.cell hp h.c7,
  h.mw.but q (fun e => h.mw.ne h1 e.symm),h.mc.but q (fun e => h.mc.ne h1 e.symm),h.mn.but q (fun e => h.mn.ne h1 e.symm),
  fun j hj => q.cell (show ¬ a.bw + j = T by omega) (h.w0 j hj),fun j hj => q.cell (show ¬ a.bw + j = T by omega) (h.w1 j hj),fun j hj => q.cell (show ¬ a.bw + j = T by omega) (h.w2 j hj),fun j hj => q.cell (show ¬ a.bw + j = T by omega) (h.w3 j hj),
  fun j o hj => q.frozen (h.wf j o hj),fun n hn => ?_,fun n hn => q.frozen (h.sf n hn),fun n hn => ?_,fun n hn => q.frozen (h.nf n hn),o1,o2,o3,o4,o5,Nat.le_trans o6 q.2.2⟩
 ·have hb:¬ a.bc + n = T:=by omega
  have hs:=h.sc n hn
  cases e:look s.ops n with
  | none => rw [e] at hs;exact q.cell hb hs
  | some y =>
   rw [e] at hs
   obtain ⟨r,h0,h2,h3,h4,h5,h6,h7⟩:=hs
   have hr:¬ r = T:=fun e => by rw [e,h1] at h4;exact hv _ (Option.some.inj h4)
   exact ⟨r,h0,q.cell hb h2,q.cell hr h3,q.cell hr h4,q.cell hr h5,q.cell hr h6,q.shape hr h7⟩
 ·have hb:¬ a.bn + n = T:=by omega
  have hs:=h.sn n hn
  cases e:look s.nodes n with
  | none => rw [e] at hs;exact q.cell hb hs
  | some y =>
   rw [e] at hs
   obtain ⟨r,h0,h2,h3,h4⟩:=hs
   have hr:¬ r = T:=fun e => by
    subst e
    obtain ⟨e',n',hsh,hlt,-⟩:=World.shape?_of_cell? h1
    rw [h4] at hsh
    cases hsh
    simp at hlt
   exact ⟨r,h0,q.cell hb h2,q.cell hr h3,q.shape hr h4⟩
theorem WdAt.othV {w w':World} {c:Cf} {d:Wd} {ws:List Int} {n:Int} {s:St} {T:Nat} {v:Value} (h:WdAt w c d ws n s) (q:But (fun i => i = T) w w') (hT:d.a.hi ≤ T) (hm:¬ Mine d.p d.b T) (hx:¬ d.x = T)
  (h1:w.cell? ⟨T,1,none⟩ = some v) (hv:∀ k,v ≠ .int .u64 k):WdAt w' c d ws n s:=by
 have hp:¬ d.p = T:=fun e => hm (.inl e.symm)
 have hb:¬ d.b = T:=fun e => hm (.inr e.symm)
 have B:=h.bank
 exact ⟨q.cell hx h.k0,q.cell hx h.k1,q.cell hx h.k2,q.cell hx h.k3,q.cell hx h.k4,q.cell hx h.k5,q.cell hx h.k6,
  ⟨q.cell hp B.words,q.cell hp B.steps,fun i j hij => q.frozen (B.free i j hij),fun j hj => q.cell hb (B.cells j hj),B.apart,Nat.lt_of_lt_of_le B.ltb q.2.2,B.few⟩,
  h.book.otherV q (by omega) h1 hv,h.len,h.mine,h.o1,h.o2,h.o3⟩
structure TkAt (w:World) (c:Cf) (d:Wd) (s:St) (r:Nat) (y:Kt):Prop where
 wd:WdAt w c d y.ws y.n s
 box:Box w r y.x.l
 nm:¬ Ow d r
 nx:¬ d.x = r
 hr:d.a.hi ≤ r
theorem TkAt.grown {w w':World} {c:Cf} {d:Wd} {s:St} {r:Nat} {y:Kt} (h:TkAt w c d s r y) (g:Grown w w'):TkAt w' c d s r y:=⟨h.wd.grown g,h.box.grown g,h.nm,h.nx,h.hr⟩
theorem TkAt.put {w w':World} {c:Cf} {d:Wd} {s:St} {r:Nat} {y:Kt} {x:Tk} (h:TkAt w c d s r y) (hB:Box w' r x.l) (q:But (fun i => i = r) w w'):TkAt w' c d s r ⟨y.ws,y.n,x⟩ :=
 ⟨h.wd.othV q h.hr (fun m => h.nm (.inr m)) h.nx (h.box.cell 1 _ rfl) (fun _ e => by cases e),hB,h.nm,h.nx,h.hr⟩
theorem TkAt.step {w w':World} {c:Cf} {d:Wd} {s:St} {r:Nat} {y:Kt} {ws:List Int} {n:Int} (h:TkAt w c d s r y) (q:LeftW c d ws n s w w'):TkAt w' c d s r ⟨ws,n,y.x⟩ :=
 ⟨q.2,h.box.but q.1 (fun m => h.nm (.inr m)),h.nm,h.nx,h.hr⟩
def LeftT (c:Cf) (d:Wd) (s:St) (r:Nat) (y:Kt) (w w':World):Prop:=But (So d r) w w' ∧ TkAt w' c d s r y
theorem tTarget (w:World) (r:Nat) (x:Tk) (h:Box w r x.l) (h0:0 ≤ x.want) (h1:x.want ≤ 18446744073709551615):Calls Tryz.prog 172 #[.pointer (some ⟨r,0,none⟩)] w fun e w' => e = .returned (.int .i64 (zNamed x.want 2)) ∧ Grown w w':=by
 have c3:w.cell? ⟨r,3,none⟩ = some (.int .u64 x.want):=h.cell 3 _ rfl
 clear h
 go_enter Tryz.func172,Tryz.ntmps172
 go_wp2_with fail
 refine (Of_any _ _ h0 h1).mono ?_;rintro e w1 ⟨rfl,g1⟩
 go_wp2_with fail
 go_ret
 exact ⟨rfl,g1⟩
set_option maxHeartbeats 4000000 in
theorem tSetOut (w:World) (c:Cf) (d:Wd) (s:St) (r:Nat) (y:Kt) (h:TkAt w c d s r y) (hI:Inv c s) (mo ph:Int) (z:Kt) (hz:(⟨y.ws,y.n,{ y.x with wk:=newK (keyT s y.x.op) mo,phase:=ph }⟩:Kt) = z) :
  Calls Tryz.prog 170 #[.pointer (some ⟨r,0,none⟩),.pointer (some ⟨d.x,0,none⟩),.int .i64 mo,.int .i64 ph] w fun e w' => e = .returned (.tuple #[]) ∧ LeftT c d s r z w w':=by
 obtain ⟨oo,ho⟩:∃ o,lookI s.ops y.x.op = o:=⟨_,rfl⟩
 obtain ⟨⟨ck,cy,cv,cl⟩,hc⟩:∃ x,oo.getD Cal.zero = x:=⟨_,rfl⟩
 have HZ:Hid ((⟨y.ws,y.n,{ y.x with wk:=newK cy mo,phase:=ph }⟩:Kt) = z):=Lib.hid (by rw [← hz];unfold keyT;rw [ho,hc])
 have H:=Lib.hid h
 have HI:=Lib.hid hI
 have HO:=Lib.hid ho
 have HC:=Lib.hid hc
 clear h hI hz ho hc
 go_enter Tryz.func170,Tryz.ntmps170
 go_wp2_with fail
 go_cut [8,9] from 10 to 33 (fun s6 s7 wx => ∃ X:Nat,s6 = .pointer (some ⟨X,0,none⟩) ∧ s7 = .int .i64 (errOf oo) ∧ Grown w wx ∧ Hid (Box wx X [.int .i64 ck,.int .u64 cy,.int .u64 cv,.int .i64 cl]))
 case first =>
  as_aux_lemma =>
   refine wp_region_plang (.two [0,1,2,3,4,5,6,7] 8 (.one [9,10,11] 12 (.one [] 13 (.fin [14]))) 12 (.one [] 8 (.one [9,10,11] 13 (.fin [14])))) (by kernel_rfl) (by kernel_rfl) (by kernel_rfl) ?_
   intro w2 g2
   have H2:=Lib.hid (H.out.grown g2)
   have d6:∀ g:GrW w2,g.w.cell? ⟨d.x,6,none⟩ = some (.pointer (some ⟨d.a.p,0,none⟩)):=GrW.cell H2.out.wd.k6
   have d0:∀ g:GrW w2,g.w.cell? ⟨r,0,none⟩ = some (.int .i64 y.x.op):=GrW.cell (H2.out.box.cell 0 _ rfl)
   refine plan_two ?_
   simp only [nths,nth,List.map_cons,List.map_nil,List.getD_cons_zero,List.getD_cons_succ]
   repeat go_big_quiet_step (fail)
   clear d6 d0
   refine wpQuiet_nil ⟨?_,?_⟩
   ·go_wp2_with fail
    have hC:=Call_at w2 c d.a s (H2.out.wd.book) HI.out y.x.op _ HO.out
    rw [HC.out] at hC
    simp only [Cal.v] at hC
    refine hC.mono ?_;rintro e w3 ⟨rfl,g3⟩
    clear hC
    go_wp2_with fail
    refine nxt_stay g3 (plan_one ?_)
    simp only [nths,nth,List.map_cons,List.map_nil,List.getD_cons_zero,List.getD_cons_succ]
    repeat go_big_quiet_step (fail)
    refine wpQuiet_nil ?_
    go_wp2_with fail
    have g8:Grown w3 (w3.alloc (.cells #[.int .i64 0,.int .u64 0,.int .u64 0,.int .i64 0] 80)):=by go_grown
    have BX:=Box.made w3 [.int .i64 0,.int .u64 0,.int .u64 0,.int .i64 0] 80
    have hsz:(w3.alloc (.cells #[.int .i64 0,.int .u64 0,.int .u64 0,.int .i64 0] 80)).heap.size = w3.heap.size + 1:=by simp
    change Box (w3.alloc (.cells #[.int .i64 0,.int .u64 0,.int .u64 0,.int .i64 0] 80)) w3.heap.size _ at BX
    obtain ⟨X,hX⟩:∃ X,w3.heap.size = X:=⟨_,rfl⟩
    rw [hX] at BX hsz ⊢
    replace BX:=Lib.hid BX
    generalize w3.alloc (.cells #[.int .i64 0,.int .u64 0,.int .u64 0,.int .i64 0] 80) = v4 at *
    refine nxt_stay (gtr g3 g8) (plan_one ?_)
    simp only [nths,nth,List.map_nil,List.getD_cons_zero,List.getD_cons_succ]
    refine wpQuiet_nil ?_
    go_wp2_with (first | (refine store_box rfl 80 _ _ rfl X _ BX.out _ rfl rfl rfl (by kernel_rfl) rfl ?_;intro v9 B_ q_;have HB9:=Lib.hid B_;have q9:=Lib.hid q_;clear B_ q_) | fail)
    have gF:Grown w2 v9:=But.fresh (gtr g3 g8) q9.out (fun i hi => by have:=g3.2.2;omega)
    refine nxt_stay gF (plan_fin ?_)
    simp only [nths,nth,List.map_cons,List.map_nil,List.getD_cons_zero,List.getD_cons_succ]
    repeat go_big_quiet_step (fail)
    refine wpQuiet_nil ?_
    go_wp2_with fail
    go_meet
    case rel => exact ⟨X,rfl,rfl,gtr g2 gF,Lib.hid HB9.out⟩
   ·go_wp2_with fail
    have g8:Grown w2 (w2.alloc (.cells #[.int .i64 0,.int .u64 0,.int .u64 0,.int .i64 0] 80)):=by go_grown
    have BX:=Box.made w2 [.int .i64 0,.int .u64 0,.int .u64 0,.int .i64 0] 80
    have hsz:(w2.alloc (.cells #[.int .i64 0,.int .u64 0,.int .u64 0,.int .i64 0] 80)).heap.size = w2.heap.size + 1:=by simp
    change Box (w2.alloc (.cells #[.int .i64 0,.int .u64 0,.int .u64 0,.int .i64 0] 80)) w2.heap.size _ at BX
    obtain ⟨X,hX⟩:∃ X,w2.heap.size = X:=⟨_,rfl⟩
    rw [hX] at BX hsz ⊢
    replace BX:=Lib.hid BX
    generalize w2.alloc (.cells #[.int .i64 0,.int .u64 0,.int .u64 0,.int .i64 0] 80) = v4 at *
    refine nxt_stay g8 (plan_one ?_)
    simp only [nths,nth,List.map_nil,List.getD_cons_zero,List.getD_cons_succ]
    refine wpQuiet_nil ?_
    go_wp2_with fail
    have hC:=Call_at v4 c d.a s (H2.out.wd.book.grown g8) HI.out y.x.op _ HO.out
    rw [HC.out] at hC
    simp only [Cal.v] at hC
    refine hC.mono ?_;rintro e w5 ⟨rfl,g5⟩
    clear hC
    go_wp2_with fail
    replace BX:=Lib.hid (BX.out.grown g5)
    refine nxt_stay (gtr g8 g5) (plan_one ?_)
    simp only [nths,nth,List.map_cons,List.map_nil,List.getD_cons_zero,List.getD_cons_succ]
    repeat go_big_quiet_step (fail)
    refine wpQuiet_nil ?_
    go_wp2_with (first | (refine store_box rfl 80 _ _ rfl X _ BX.out _ rfl rfl rfl (by kernel_rfl) rfl ?_;intro v9 B_ q_;have HB9:=Lib.hid B_;have q9:=Lib.hid q_;clear B_ q_) | fail)
    have gF:Grown w2 v9:=But.fresh (gtr g8 g5) q9.out (fun i hi => by omega)
    refine nxt_stay gF (plan_fin ?_)
    simp only [nths,nth,List.map_cons,List.map_nil,List.getD_cons_zero,List.getD_cons_succ]
    repeat go_big_quiet_step (fail)
    refine wpQuiet_nil ?_
    go_wp2_with fail
    go_meet
    case rel => exact ⟨X,rfl,rfl,gtr g2 gF,Lib.hid HB9.out⟩
 case rest =>
  obtain ⟨X,rfl,rfl,gx,HX⟩:=hcut
  obtain ⟨w3,hw9⟩:∃ x,x = wc:=⟨_,rfl⟩
  subst hw9
  have H3:=Lib.hid (H.out.grown gx)
  have Q3:Hid (But (So d r) w w3):=Lib.hid (But.of_grown gx)
  have c1:=HX.out.cell 1 (.int .u64 cy) rfl
  clear gx
  go_wp2_with fail
  refine (kNew _ cy mo).mono ?_;rintro e w4 ⟨rfl,g4⟩
  have H4:=Lib.hid (H3.out.grown g4)
  have Q4:Hid (But (So d r) w w4):=Lib.hid (Q3.out.trans (But.of_grown g4))
  clear g4 c1
  go_wp2_with (first | (refine store_part rfl 63 _ _ rfl r 4 rfl _ rfl y.x.l ({ y.x with wk:=newK cy mo }:Tk).l H4.out.box (Nat.le_of_ble_eq_true rfl) (by kernel_rfl) rfl rfl ?_;intro w5 B_ q_;have H5:=Lib.hid (H4.out.put (x:={ y.x with wk:=newK cy mo }) B_ q_);have Q5:Hid (But (So d r) w w5):=Lib.hid (Q4.out.trans (so_r q_));clear B_ q_) | (refine store_cell rfl 3 _ _ rfl r 2 rfl (.int .i64 ph) rfl rfl (({ y.x with wk:=newK cy mo }:Tk)).l ({ y.x with wk:=newK cy mo,phase:=ph }:Tk).l H5.out.box (Nat.le_of_ble_eq_true rfl) (by kernel_rfl) rfl ?_;intro w6 B_ q_;have H6:=Lib.hid (H5.out.put (x:={ y.x with wk:=newK cy mo,phase:=ph }) B_ q_);have Q6:Hid (But (So d r) w w6):=Lib.hid (Q5.out.trans (so_r q_));clear B_ q_) | fail)
  go_end0
  refine ⟨rfl,Q6.out,?_⟩
  rw [← HZ.out]
  exact H6.out
set_option maxHeartbeats 8000000 in
theorem tAsk (w:World) (c:Cf) (d:Wd) (s:St) (r:Nat) (y:Kt) (h:TkAt w c d s r y) (n0:0 ≤ y.n) (n1:y.n < 4611686018427387904) (hI:Inv c s) (z:Kt) (hz:askT c s y = z) :
  Calls Tryz.prog 98 #[.pointer (some ⟨r,0,none⟩),.pointer (some ⟨d.x,0,none⟩)] w fun e w' => e = .returned (.tuple #[]) ∧ LeftT c d s r z w w':=by
 obtain ⟨v,hv⟩:∃ v,rd y.ws (wrdI c y.x.op) = v:=⟨_,rfl⟩
 obtain ⟨n2,hn2⟩:∃ x,y.n + cnt y.ws (wrdI c y.x.op) = x:=⟨_,rfl⟩
 have hz':(⟨y.ws,n2,askX s y.x v⟩:Kt) = z:=by rw [← hz,← hn2,← hv];rfl
 have H:=Lib.hid h
 have HV:=Lib.hid hv
 have HN:=Lib.hid hn2
 have HI:=Lib.hid hI
 have c0:w.cell? ⟨r,0,none⟩ = some (.int .i64 y.x.op):=h.box.cell 0 _ rfl
 unfold askX at hz'
 clear h hI hz hv hn2
 by_cases hv0:v = 0
 ·rw [if_pos hv0] at hz'
  have HZ:=Lib.hid hz'
  have hv01:(v == 0) = true:=by simpa using hv0
  have hv02:decide (v = 0) = true:=by simpa using hv0
  have hv03:(v != 0) = false:=by simpa using hv0
  clear hv0 hz'
  go_enter Tryz.func98,Tryz.ntmps98
  go_wp2_with fail
  refine (wWord_any _ c d y.ws y.n s y.x.op H.out.wd n0 n1).mono ?_;rintro e w1 ⟨rfl,q1,h1⟩
  rw [HV.out]
  rw [HN.out] at h1
  have H1:=Lib.hid (H.out.step ⟨q1,h1⟩)
  have Q1:Hid (But (So d r) w w1):=Lib.hid (so_m q1)
  clear c0 q1 h1
  go_wp2_with (first | (refine store_cell rfl 46 _ _ rfl r 3 rfl (.int .u64 v) rfl rfl (y.x).l ({ y.x with want:=v }:Tk).l H1.out.box (Nat.le_of_ble_eq_true rfl) (by kernel_rfl) rfl ?_;intro w2 B_ q_;have H2:=Lib.hid (H1.out.put (x:={ y.x with want:=v }) B_ q_);have Q2:Hid (But (So d r) w w2):=Lib.hid (Q1.out.trans (so_r q_));have c3:=H2.out.box.cell 3 (.int .u64 v) rfl;clear B_ q_) | fail)
  refine (tSetOut _ c d s r ⟨y.ws,n2,{ y.x with want:=v }⟩ H2.out HI.out 2 1 _ HZ.out).mono ?_;rintro e w3 ⟨rfl,q3,h3⟩
  have Q3:=Lib.hid (Q2.out.trans q3)
  have H3:=Lib.hid h3
  clear q3 h3
  go_wp2_with fail
  go_end0
  exact ⟨rfl,Q3.out,H3.out⟩
 ·rw [if_neg hv0] at hz'
  have hv01:(v == 0) = false:=by simpa using hv0
  have hv02:decide (v = 0) = false:=by simpa using hv0
  have hv03:(v != 0) = true:=by simpa using hv0
  clear hv0
  by_cases hv1:v = 1
  ·rw [if_pos hv1] at hz'
   have HZ:=Lib.hid hz'
   have hv11:(v == 1) = true:=by simpa using hv1
   have hv12:decide (v = 1) = true:=by simpa using hv1
   have hv13:(v != 1) = false:=by simpa using hv1
   clear hv1 hz'
   go_enter Tryz.func98,Tryz.ntmps98
   go_wp2_with fail
   refine (wWord_any _ c d y.ws y.n s y.x.op H.out.wd n0 n1).mono ?_;rintro e w1 ⟨rfl,q1,h1⟩
   rw [HV.out]
   rw [HN.out] at h1
   have H1:=Lib.hid (H.out.step ⟨q1,h1⟩)
   have Q1:Hid (But (So d r) w w1):=Lib.hid (so_m q1)
   clear c0 q1 h1
   go_wp2_with (first | (refine store_cell rfl 46 _ _ rfl r 3 rfl (.int .u64 v) rfl rfl (y.x).l ({ y.x with want:=v }:Tk).l H1.out.box (Nat.le_of_ble_eq_true rfl) (by kernel_rfl) rfl ?_;intro w2 B_ q_;have H2:=Lib.hid (H1.out.put (x:={ y.x with want:=v }) B_ q_);have Q2:Hid (But (So d r) w w2):=Lib.hid (Q1.out.trans (so_r q_));have c3:=H2.out.box.cell 3 (.int .u64 v) rfl;clear B_ q_) | (refine store_cell rfl 4 _ _ rfl r 14 rfl (.bool true) rfl rfl (({ y.x with want:=v }:Tk)).l ({ y.x with want:=v,done:=true }:Tk).l H2.out.box (Nat.le_of_ble_eq_true rfl) (by kernel_rfl) rfl ?_;intro w3 B_ q_;have H3:=Lib.hid (H2.out.put (x:={ y.x with want:=v,done:=true }) B_ q_);have Q3:Hid (But (So d r) w w3):=Lib.hid (Q2.out.trans (so_r q_));clear B_ q_) | fail)
   go_end0
   refine ⟨rfl,Q3.out,?_⟩
   rw [← HZ.out]
   exact H3.out
  ·rw [if_neg hv1] at hz'
   have HZ:=Lib.hid hz'
   have hv11:(v == 1) = false:=by simpa using hv1
   have hv12:decide (v = 1) = false:=by simpa using hv1
   have hv13:(v != 1) = true:=by simpa using hv1
   clear hv1 hz'
   go_enter Tryz.func98,Tryz.ntmps98
   go_wp2_with fail
   refine (wWord_any _ c d y.ws y.n s y.x.op H.out.wd n0 n1).mono ?_;rintro e w1 ⟨rfl,q1,h1⟩
   rw [HV.out]
   rw [HN.out] at h1
   have H1:=Lib.hid (H.out.step ⟨q1,h1⟩)
   have Q1:Hid (But (So d r) w w1):=Lib.hid (so_m q1)
   clear c0 q1 h1
   go_wp2_with (first | (refine store_cell rfl 46 _ _ rfl r 3 rfl (.int .u64 v) rfl rfl (y.x).l ({ y.x with want:=v }:Tk).l H1.out.box (Nat.le_of_ble_eq_true rfl) (by kernel_rfl) rfl ?_;intro w2 B_ q_;have H2:=Lib.hid (H1.out.put (x:={ y.x with want:=v }) B_ q_);have Q2:Hid (But (So d r) w w2):=Lib.hid (Q1.out.trans (so_r q_));have c3:=H2.out.box.cell 3 (.int .u64 v) rfl;clear B_ q_) | (refine store_cell rfl 3 _ _ rfl r 2 rfl (.int .i64 3) rfl rfl (({ y.x with want:=v }:Tk)).l ({ y.x with want:=v,phase:=3 }:Tk).l H2.out.box (Nat.le_of_ble_eq_true rfl) (by kernel_rfl) rfl ?_;intro w3 B_ q_;have H3:=Lib.hid (H2.out.put (x:={ y.x with want:=v,phase:=3 }) B_ q_);have Q3:Hid (But (So d r) w w3):=Lib.hid (Q2.out.trans (so_r q_));clear B_ q_) | fail)
   go_end0
   refine ⟨rfl,Q3.out,?_⟩
   rw [← HZ.out]
   exact H3.out
set_option maxHeartbeats 4000000 in
theorem tChoose (w:World) (c:Cf) (d:Wd) (s:St) (r:Nat) (y:Kt) (h:TkAt w c d s r y) (u0:-9223372036854775808 ≤ y.x.wk.found) (u1:y.x.wk.found ≤ 9223372036854775807) (z:Kt) (hz:(⟨y.ws,y.n,{ y.x with want:=fndX y.x.wk.found,phase:=2 }⟩:Kt) = z) :
  Calls Tryz.prog 99 #[.pointer (some ⟨r,0,none⟩)] w fun e w' => e = .returned (.tuple #[]) ∧ LeftT c d s r z w w':=by
 have H:=Lib.hid h
 have HZ0:=Lib.hid hz
 clear h hz
 by_cases hf:y.x.wk.found = -1
 ·have hf1:(y.x.wk.found == -1) = true:=by simpa using hf
  have hf2:decide (y.x.wk.found = -1) = true:=by simpa using hf
  have hf3:(y.x.wk.found != -1) = false:=by simpa using hf
  have HZ:Hid ((⟨y.ws,y.n,{ y.x with want:=1,phase:=2 }⟩:Kt) = z):=Lib.hid (by rw [← HZ0.out];unfold fndX;rw [if_pos hf])
  clear hf HZ0
  go_enter Tryz.func99,Tryz.ntmps99
  go_wp2_with (first | (refine store_cell rfl 46 _ _ rfl r 3 rfl (.int .u64 1) rfl rfl y.x.l ({ y.x with want:=1 }:Tk).l H.out.box (Nat.le_of_ble_eq_true rfl) (by kernel_rfl) rfl ?_;intro w1 B_ q_;have H1:=Lib.hid (H.out.put (x:={ y.x with want:=1 }) B_ q_);have Q1:Hid (But (So d r) w w1):=Lib.hid (so_r q_);have c11:=H1.out.box.cell 11 (.int .i64 y.x.wk.found) rfl;clear B_ q_) | (refine store_cell rfl 3 _ _ rfl r 2 rfl (.int .i64 2) rfl rfl (({ y.x with want:=1 }:Tk)).l ({ y.x with want:=1,phase:=2 }:Tk).l H1.out.box (Nat.le_of_ble_eq_true rfl) (by kernel_rfl) rfl ?_;intro w4 B_ q_;have H4:=Lib.hid (H1.out.put (x:={ y.x with want:=1,phase:=2 }) B_ q_);have Q4:Hid (But (So d r) w w4):=Lib.hid (Q1.out.trans (so_r q_));clear B_ q_) | fail)
  go_end0
  refine ⟨rfl,Q4.out,?_⟩
  rw [← HZ.out]
  exact H4.out
 ·have hf1:(y.x.wk.found == -1) = false:=by simpa using hf
  have hf2:decide (y.x.wk.found = -1) = false:=by simpa using hf
  have hf3:(y.x.wk.found != -1) = true:=by simpa using hf
  have HZ:Hid ((⟨y.ws,y.n,{ y.x with want:=zNaming y.x.wk.found 2,phase:=2 }⟩:Kt) = z):=Lib.hid (by rw [← HZ0.out];unfold fndX;rw [if_neg hf])
  clear hf HZ0
  go_enter Tryz.func99,Tryz.ntmps99
  go_wp2_with (first | (refine store_cell rfl 46 _ _ rfl r 3 rfl (.int .u64 1) rfl rfl y.x.l ({ y.x with want:=1 }:Tk).l H.out.box (Nat.le_of_ble_eq_true rfl) (by kernel_rfl) rfl ?_;intro w1 B_ q_;have H1:=Lib.hid (H.out.put (x:={ y.x with want:=1 }) B_ q_);have Q1:Hid (But (So d r) w w1):=Lib.hid (so_r q_);have c11:=H1.out.box.cell 11 (.int .i64 y.x.wk.found) rfl;clear B_ q_) | fail)
  refine (Target_any _ _ u0 u1).mono ?_;rintro e w2 ⟨rfl,g2⟩
  have H2:=Lib.hid (H1.out.grown g2)
  have Q2:=Lib.hid (Q1.out.trans (But.of_grown g2))
  clear c11 g2
  go_wp2_with (first | (refine store_cell rfl 46 _ _ rfl r 3 rfl (.int .u64 (zNaming y.x.wk.found 2)) rfl rfl (({ y.x with want:=1 }:Tk)).l ({ y.x with want:=zNaming y.x.wk.found 2 }:Tk).l H2.out.box (Nat.le_of_ble_eq_true rfl) (by kernel_rfl) rfl ?_;intro w3 B_ q_;have H3:=Lib.hid (H2.out.put (x:={ y.x with want:=zNaming y.x.wk.found 2 }) B_ q_);have Q3:Hid (But (So d r) w w3):=Lib.hid (Q2.out.trans (so_r q_));clear B_ q_) | (refine store_cell rfl 3 _ _ rfl r 2 rfl (.int .i64 2) rfl rfl (({ y.x with want:=zNaming y.x.wk.found 2 }:Tk)).l ({ y.x with want:=zNaming y.x.wk.found 2,phase:=2 }:Tk).l H3.out.box (Nat.le_of_ble_eq_true rfl) (by kernel_rfl) rfl ?_;intro w4 B_ q_;have H4:=Lib.hid (H3.out.put (x:={ y.x with want:=zNaming y.x.wk.found 2,phase:=2 }) B_ q_);have Q4:Hid (But (So d r) w w4):=Lib.hid (Q3.out.trans (so_r q_));clear B_ q_) | fail)
  go_end0
  refine ⟨rfl,Q4.out,?_⟩
  rw [← HZ.out]
  exact H4.out
set_option maxHeartbeats 4000000 in
theorem tSettle (w:World) (c:Cf) (d:Wd) (s:St) (r:Nat) (y:Kt) (h:TkAt w c d s r y) (n0:0 ≤ y.n) (n1:y.n < 4611686018427387904) (z:Kt) (hz:setT c y = z) :
  Calls Tryz.prog 100 #[.pointer (some ⟨r,0,none⟩),.pointer (some ⟨d.x,0,none⟩)] w fun e w' => e = .returned (.tuple #[]) ∧ LeftT c d s r z w w':=by
 have H:=Lib.hid h
 have HZ:=Lib.hid hz
 clear h hz
 go_enter Tryz.func100,Tryz.ntmps100
 go_wp2_with fail
 refine wp_region_planb (Mine d.p d.b) (.one [0,1,2,3,4,5,6,7,8] 9 (.fin [])) (by kernel_rfl) (by kernel_rfl) (by kernel_rfl) ?_
 intro w2 g2
 have H2:=Lib.hid (H.out.grown g2)
 have Q2:Hid (But (So d r) w w2):=Lib.hid (But.of_grown g2)
 have d0:∀ g:ButW (Mine d.p d.b) w2,g.w.cell? ⟨r,0,none⟩ = some (.int .i64 y.x.op):=ButW.cell (fun m => H2.out.nm (.inr m)) (H2.out.box.cell 0 _ rfl)
 have d3:∀ g:ButW (Mine d.p d.b) w2,g.w.cell? ⟨r,3,none⟩ = some (.int .u64 y.x.want):=ButW.cell (fun m => H2.out.nm (.inr m)) (H2.out.box.cell 3 _ rfl)
 refine plan_one ?_
 simp only [nths,nth,List.map_cons,List.map_nil,List.getD_cons_zero,List.getD_cons_succ]
 repeat go_big_quiet_step (fail)
 clear d0 d3 g2
 refine wpQuiet_nil ?_
 go_wp2_with fail
 refine (wTurn_any _ c d y.ws y.n s _ _ _ H2.out.wd n0 n1).mono ?_;rintro e w5 ⟨rfl,q5,h5⟩
 have H5:=Lib.hid (H2.out.step ⟨q5,h5⟩)
 have Q5:=Lib.hid (Q2.out.trans (so_m q5))
 have q25:But (Mine d.p d.b) w2 w5:=q5
 clear h5
 go_wp2_with fail
 refine nxt_but q25 (plan_fin ?_)
 clear q5 q25
 simp only [nths,List.map_nil]
 refine wpQuiet_nil ?_
 go_wp2_with (first | (refine store_cell rfl 3 _ _ rfl r 2 rfl (.int .i64 0) rfl rfl (y.x).l ({ y.x with phase:=0 }:Tk).l H5.out.box (Nat.le_of_ble_eq_true rfl) (by kernel_rfl) rfl ?_;intro w7 B_ q_;have H7:=Lib.hid (H5.out.put (x:={ y.x with phase:=0 }) B_ q_);have Q7:Hid (But (So d r) w w7):=Lib.hid (Q5.out.trans (so_r q_));clear B_ q_) | fail)
 go_end0
 refine ⟨rfl,Q7.out,?_⟩
 rw [← HZ.out]
 exact H7.out
set_option maxHeartbeats 4000000 in
theorem tTakeOut (w:World) (c:Cf) (d:Wd) (s:St) (r:Nat) (y:Kt) (h:TkAt w c d s r y) (n0:0 ≤ y.n) (n1:y.n < 4611686018427387904) (w0:0 ≤ y.x.want) (w1:y.x.want ≤ 18446744073709551615) (u0:-9223372036854775808 ≤ y.x.op) (u1:y.x.op ≤ 9223372036854775807) (z:Kt) (hz:outT c y = z) :
  Calls Tryz.prog 101 #[.pointer (some ⟨r,0,none⟩),.pointer (some ⟨d.x,0,none⟩)] w fun e w' => e = .returned (.tuple #[]) ∧ LeftT c d s r z w w':=by
 obtain ⟨tg,htg⟩:∃ t,zNamed y.x.want 2 = t:=⟨_,rfl⟩
 obtain ⟨ou,hou⟩:∃ t,zNaming y.x.op 3 = t:=⟨_,rfl⟩
 have HZ:Hid ((⟨sw y.ws (wrdI c tg) 1 ou,y.n + cnt y.ws (wrdI c tg),{ y.x with phase:=4 }⟩:Kt) = z):=Lib.hid (by rw [← hz,← htg,← hou];rfl)
 have HTg:=Lib.hid htg
 have HOu:=Lib.hid hou
 have H:=Lib.hid h
 clear h hz htg hou
 go_enter Tryz.func101,Tryz.ntmps101
 go_wp2_with fail
 refine wp_region_planb (Mine d.p d.b) (.one [0,1,3,4,5,6] 2 (.one [] 7 (.one [] 8 (.fin [])))) (by kernel_rfl) (by kernel_rfl) (by kernel_rfl) ?_
 intro w2 g2
 have H2:=Lib.hid (H.out.grown g2)
 have Q2:Hid (But (So d r) w w2):=Lib.hid (But.of_grown g2)
 have d0:∀ g:ButW (Mine d.p d.b) w2,g.w.cell? ⟨r,0,none⟩ = some (.int .i64 y.x.op):=ButW.cell (fun m => H2.out.nm (.inr m)) (H2.out.box.cell 0 _ rfl)
 refine plan_one ?_
 simp only [nths,nth,List.map_cons,List.map_nil,List.getD_cons_zero,List.getD_cons_succ]
 repeat go_big_quiet_step (fail)
 clear d0 g2
 refine wpQuiet_nil ?_
 go_wp2_with fail
 refine (tTarget _ r y.x H2.out.box w0 w1).mono ?_;rintro e w3 ⟨rfl,g3⟩
 rw [HTg.out]
 have H3:=Lib.hid (H2.out.grown g3)
 go_wp2_with fail
 refine nxt_but (But.of_grown g3) (plan_one ?_)
 simp only [nths,nth,List.map_nil,List.getD_cons_zero,List.getD_cons_succ]
 refine wpQuiet_nil ?_
 go_wp2_with fail
 refine (Out_any _ _ u0 u1).mono ?_;rintro e w4 ⟨rfl,g4⟩
 rw [HOu.out]
 have H4:=Lib.hid (H3.out.grown g4)
 have G4:=Lib.hid (gtr g3 g4)
 clear g3 g4
 go_wp2_with fail
 refine nxt_but (But.of_grown G4.out) (plan_one ?_)
 simp only [nths,nth,List.map_nil,List.getD_cons_zero,List.getD_cons_succ]
 refine wpQuiet_nil ?_
 go_wp2_with fail
 refine (wTurn_any _ c d y.ws y.n s _ _ _ H4.out.wd n0 n1).mono ?_;rintro e w5 ⟨rfl,q5,h5⟩
 have H5:=Lib.hid (H4.out.step ⟨q5,h5⟩)
 have q25:But (Mine d.p d.b) w2 w5:=(But.of_grown G4.out).trans q5
 have Q5:=Lib.hid (Q2.out.trans (so_m q25))
 clear q5 h5
 go_wp2_with fail
 refine nxt_but q25 (plan_fin ?_)
 clear q25
 simp only [nths,List.map_nil]
 refine wpQuiet_nil ?_
 go_wp2_with (first | (refine store_cell rfl 3 _ _ rfl r 2 rfl (.int .i64 4) rfl rfl (y.x).l ({ y.x with phase:=4 }:Tk).l H5.out.box (Nat.le_of_ble_eq_true rfl) (by kernel_rfl) rfl ?_;intro w7 B_ q_;have H7:=Lib.hid (H5.out.put (x:={ y.x with phase:=4 }) B_ q_);have Q7:Hid (But (So d r) w w7):=Lib.hid (Q5.out.trans (so_r q_));clear B_ q_) | fail)
 go_end0
 refine ⟨rfl,Q7.out,?_⟩
 rw [← HZ.out]
 exact H7.out
set_option maxHeartbeats 8000000 in
theorem tAskWhose (w:World) (c:Cf) (d:Wd) (s:St) (r:Nat) (y:Kt) (h:TkAt w c d s r y) (n0:0 ≤ y.n) (n1:y.n < 4611686018427387904) (hI:Inv c s) (hw:∀ i:Int,0 ≤ rd y.ws i ∧ rd y.ws i ≤ 18446744073709551615) (w0:0 ≤ y.x.want) (w1:y.x.want ≤ 18446744073709551615) (z:Kt) (hz:whoT c s y = z) :
  Calls Tryz.prog 102 #[.pointer (some ⟨r,0,none⟩),.pointer (some ⟨d.x,0,none⟩)] w fun e w' => e = .returned (.tuple #[]) ∧ LeftT c d s r z w w':=by
 obtain ⟨tg,htg⟩:∃ t,zNamed y.x.want 2 = t:=⟨_,rfl⟩
 obtain ⟨v,hv⟩:∃ v,rd y.ws (wrdI c tg) = v:=⟨_,rfl⟩
 obtain ⟨n2,hn2⟩:∃ x,y.n + cnt y.ws (wrdI c tg) = x:=⟨_,rfl⟩
 obtain ⟨bv,hbv⟩:∃ x,zNamed v 3 = x:=⟨_,rfl⟩
 have hz':(⟨y.ws,n2,whoX s y.x v⟩:Kt) = z:=by rw [← hz,← hn2,← hv,← htg];rfl
 have hvb:0 ≤ v ∧ v ≤ 18446744073709551615:=by rw [← hv];exact hw _
 have HTg:=Lib.hid htg
 have HV:=Lib.hid hv
 have HN:=Lib.hid hn2
 have HBv:=Lib.hid hbv
 have H:=Lib.hid h
 have HI:=Lib.hid hI
 unfold whoX at hz'
 rw [hbv] at hz'
 clear h hI hz hv hn2 htg hbv
 obtain ⟨ow,how⟩:∃ b,y.x.own = b:=⟨_,rfl⟩
 have HOwn:=Lib.hid how
 clear how
 by_cases hb:bv = y.x.op
 ·rw [if_pos hb] at hz'
  have hb1:(bv == y.x.op) = true:=by simpa using hb
  have hb2:decide (bv = y.x.op) = true:=by simpa using hb
  have hb3:(bv != y.x.op) = false:=by simpa using hb
  clear hb
  cases ow
  ·rw [if_neg (by rw [HOwn.out];decide)] at hz'
   have HZ:=Lib.hid hz'
   clear hz'
   go_enter Tryz.func102,Tryz.ntmps102
   go_wp2_with fail
   refine wp_region_plank (So d r) (fun i o => i = r ∧ o < 15) (.one [0,1,2,6,7,8,9] 3 (.one [] 4 (.one [] 5 (.one [10,11,12] 13 (.fin []))))) (by kernel_rfl) (by kernel_rfl) (by kernel_rfl) ?_
   intro w2 g2
   have H2:=Lib.hid (H.out.grown g2)
   have Q2:Hid (But (So d r) w w2):=Lib.hid (But.of_grown g2)
   have d0:∀ g:KeptW (So d r) (fun i o => i = r ∧ o < 15) w2,g.w.cell? ⟨r,0,none⟩ = some (.int .i64 y.x.op):=KeptW.cell ⟨rfl,by omega⟩ (H2.out.box.cell 0 _ rfl)
   refine plan_one ?_
   simp only [nths,nth,List.map_cons,List.map_nil,List.getD_cons_zero,List.getD_cons_succ]
   repeat go_big_quiet_step (fail)
   clear d0 g2
   refine wpQuiet_nil ?_
   go_wp2_with fail
   refine (tTarget _ r y.x H2.out.box w0 w1).mono ?_;rintro e w3 ⟨rfl,g3⟩
   rw [HTg.out]
   have H3:=Lib.hid (H2.out.grown g3)
   go_wp2_with fail
   refine nxt_keptg g3 (plan_one ?_)
   simp only [nths,nth,List.map_nil,List.getD_cons_zero,List.getD_cons_succ]
   refine wpQuiet_nil ?_
   go_wp2_with fail
   refine (wWord_any _ c d y.ws y.n s tg H3.out.wd n0 n1).mono ?_;rintro e w4 ⟨rfl,q4,h4⟩
   rw [HV.out]
   rw [HN.out] at h4
   have H4:=Lib.hid (H3.out.step ⟨q4,h4⟩)
   have q24:But (So d r) w2 w4:=(But.of_grown g3).trans (so_m q4)
   go_wp2_with fail
   refine nxt_kept q24 (Box.keep H2.out.box H4.out.box rfl (by simp [Tk.l])) (plan_one ?_)
   clear q4 h4 g3
   simp only [nths,nth,List.map_nil,List.getD_cons_zero,List.getD_cons_succ]
   refine wpQuiet_nil ?_
   go_wp2_with fail
   refine (By_any _ _ hvb.1 hvb.2).mono ?_;rintro e w5 ⟨rfl,g5⟩
   rw [HBv.out]
   have H5:=Lib.hid (H4.out.grown g5)
   have q25:=q24.trans (But.of_grown g5)
   have Q5:Hid (But (So d r) w w5):=Lib.hid (Q2.out.trans q25)
   go_wp2_with fail
   refine nxt_kept q25 (Box.keep H2.out.box H5.out.box rfl (by simp [Tk.l])) (plan_one ?_)
   clear g5
   simp only [nths,nth,List.map_cons,List.map_nil,List.getD_cons_zero,List.getD_cons_succ]
   repeat go_big_quiet_step (fail)
   refine wpQuiet_nil ?_
   go_wp2_with (first | (refine store_cell rfl 4 _ _ rfl r 15 rfl (.bool true) rfl rfl (y.x).l ({ y.x with won:=true }:Tk).l H5.out.box (Nat.le_of_ble_eq_true rfl) (by kernel_rfl) rfl ?_;intro w6 B_ q_;have H6:=Lib.hid (H5.out.put (x:={ y.x with won:=true }) B_ q_);have Q6:Hid (But (So d r) w w6):=Lib.hid (Q5.out.trans (so_r q_));have c15:=H6.out.box.cell 15 (.bool true) rfl;have c1:=H6.out.box.cell 1 (.bool false) (by simp [Tk.l,HOwn.out]);have q26:But (So d r) w2 w6:=q25.trans (so_r q_);clear B_ q_) | fail)
   refine nxt_kept q26 (Box.keep H2.out.box H6.out.box rfl (by simp [Tk.l])) (plan_fin ?_)
   clear q24 q25 q26
   simp only [nths,List.map_nil]
   refine wpQuiet_nil ?_
   go_wp2_with (first | (refine store_cell rfl 4 _ _ rfl r 14 rfl (.bool true) rfl rfl (({ y.x with won:=true }:Tk)).l ({ y.x with won:=true,done:=true }:Tk).l H6.out.box (Nat.le_of_ble_eq_true rfl) (by kernel_rfl) rfl ?_;intro w7 B_ q_;have H7:=Lib.hid (H6.out.put (x:={ y.x with won:=true,done:=true }) B_ q_);have Q7:Hid (But (So d r) w w7):=Lib.hid (Q6.out.trans (so_r q_));clear B_ q_) | fail)
   go_end0
   refine ⟨rfl,Q7.out,?_⟩
   rw [← HZ.out]
   exact H7.out
  ·rw [if_pos HOwn.out] at hz'
   have HZ:=Lib.hid hz'
   clear hz'
   go_enter Tryz.func102,Tryz.ntmps102
   go_wp2_with fail
   refine wp_region_plank (So d r) (fun i o => i = r ∧ o < 15) (.one [0,1,2,6,7,8,9] 3 (.one [] 4 (.one [] 5 (.one [10,11,12] 13 (.fin []))))) (by kernel_rfl) (by kernel_rfl) (by kernel_rfl) ?_
   intro w2 g2
   have H2:=Lib.hid (H.out.grown g2)
   have Q2:Hid (But (So d r) w w2):=Lib.hid (But.of_grown g2)
   have d0:∀ g:KeptW (So d r) (fun i o => i = r ∧ o < 15) w2,g.w.cell? ⟨r,0,none⟩ = some (.int .i64 y.x.op):=KeptW.cell ⟨rfl,by omega⟩ (H2.out.box.cell 0 _ rfl)
   refine plan_one ?_
   simp only [nths,nth,List.map_cons,List.map_nil,List.getD_cons_zero,List.getD_cons_succ]
   repeat go_big_quiet_step (fail)
   clear d0 g2
   refine wpQuiet_nil ?_
   go_wp2_with fail
   refine (tTarget _ r y.x H2.out.box w0 w1).mono ?_;rintro e w3 ⟨rfl,g3⟩
   rw [HTg.out]
   have H3:=Lib.hid (H2.out.grown g3)
   go_wp2_with fail
   refine nxt_keptg g3 (plan_one ?_)
   simp only [nths,nth,List.map_nil,List.getD_cons_zero,List.getD_cons_succ]
   refine wpQuiet_nil ?_
   go_wp2_with fail
   refine (wWord_any _ c d y.ws y.n s tg H3.out.wd n0 n1).mono ?_;rintro e w4 ⟨rfl,q4,h4⟩
   rw [HV.out]
   rw [HN.out] at h4
   have H4:=Lib.hid (H3.out.step ⟨q4,h4⟩)
   have q24:But (So d r) w2 w4:=(But.of_grown g3).trans (so_m q4)
   go_wp2_with fail
   refine nxt_kept q24 (Box.keep H2.out.box H4.out.box rfl (by simp [Tk.l])) (plan_one ?_)
   clear q4 h4 g3
   simp only [nths,nth,List.map_nil,List.getD_cons_zero,List.getD_cons_succ]
   refine wpQuiet_nil ?_
   go_wp2_with fail
   refine (By_any _ _ hvb.1 hvb.2).mono ?_;rintro e w5 ⟨rfl,g5⟩
   rw [HBv.out]
   have H5:=Lib.hid (H4.out.grown g5)
   have q25:=q24.trans (But.of_grown g5)
   have Q5:Hid (But (So d r) w w5):=Lib.hid (Q2.out.trans q25)
   go_wp2_with fail
   refine nxt_kept q25 (Box.keep H2.out.box H5.out.box rfl (by simp [Tk.l])) (plan_one ?_)
   clear g5
   simp only [nths,nth,List.map_cons,List.map_nil,List.getD_cons_zero,List.getD_cons_succ]
   repeat go_big_quiet_step (fail)
   refine wpQuiet_nil ?_
   go_wp2_with (first | (refine store_cell rfl 4 _ _ rfl r 15 rfl (.bool true) rfl rfl (y.x).l ({ y.x with won:=true }:Tk).l H5.out.box (Nat.le_of_ble_eq_true rfl) (by kernel_rfl) rfl ?_;intro w6 B_ q_;have H6:=Lib.hid (H5.out.put (x:={ y.x with won:=true }) B_ q_);have Q6:Hid (But (So d r) w w6):=Lib.hid (Q5.out.trans (so_r q_));have c15:=H6.out.box.cell 15 (.bool true) rfl;have c1:=H6.out.box.cell 1 (.bool true) (by simp [Tk.l,HOwn.out]);have q26:But (So d r) w2 w6:=q25.trans (so_r q_);clear B_ q_) | fail)
   refine nxt_kept q26 (Box.keep H2.out.box H6.out.box rfl (by simp [Tk.l])) (plan_fin ?_)
   clear q24 q25 q26
   simp only [nths,List.map_nil]
   refine wpQuiet_nil ?_
   go_wp2_with fail
   refine (tSetOut _ c d s r ⟨y.ws,n2,{ y.x with won:=true }⟩ H6.out HI.out 3 5 _ HZ.out).mono ?_;rintro e w7 ⟨rfl,q7,h7⟩
   have Q7:=Lib.hid (Q6.out.trans q7)
   have H7:=Lib.hid h7
   clear q7 h7
   go_wp2_with fail
   refine bodyPost_ret (results_none rfl _ _ _) rfl ?_
   exact ⟨rfl,Q7.out,H7.out⟩
 ·rw [if_neg hb] at hz'
  have HZ:=Lib.hid hz'
  have hb1:(bv == y.x.op) = false:=by simpa using hb
  have hb2:decide (bv = y.x.op) = false:=by simpa using hb
  have hb3:(bv != y.x.op) = true:=by simpa using hb
  clear hb hz'
  cases ow
  ·go_enter Tryz.func102,Tryz.ntmps102
   go_wp2_with fail
   refine wp_region_plank (So d r) (fun i o => i = r ∧ o < 15) (.one [0,1,2,6,7,8,9] 3 (.one [] 4 (.one [] 5 (.one [10,11,12] 13 (.fin []))))) (by kernel_rfl) (by kernel_rfl) (by kernel_rfl) ?_
   intro w2 g2
   have H2:=Lib.hid (H.out.grown g2)
   have Q2:Hid (But (So d r) w w2):=Lib.hid (But.of_grown g2)
   have d0:∀ g:KeptW (So d r) (fun i o => i = r ∧ o < 15) w2,g.w.cell? ⟨r,0,none⟩ = some (.int .i64 y.x.op):=KeptW.cell ⟨rfl,by omega⟩ (H2.out.box.cell 0 _ rfl)
   refine plan_one ?_
   simp only [nths,nth,List.map_cons,List.map_nil,List.getD_cons_zero,List.getD_cons_succ]
   repeat go_big_quiet_step (fail)
   clear d0 g2
   refine wpQuiet_nil ?_
   go_wp2_with fail
   refine (tTarget _ r y.x H2.out.box w0 w1).mono ?_;rintro e w3 ⟨rfl,g3⟩
   rw [HTg.out]
   have H3:=Lib.hid (H2.out.grown g3)
   go_wp2_with fail
   refine nxt_keptg g3 (plan_one ?_)
   simp only [nths,nth,List.map_nil,List.getD_cons_zero,List.getD_cons_succ]
   refine wpQuiet_nil ?_
   go_wp2_with fail
   refine (wWord_any _ c d y.ws y.n s tg H3.out.wd n0 n1).mono ?_;rintro e w4 ⟨rfl,q4,h4⟩
   rw [HV.out]
   rw [HN.out] at h4
   have H4:=Lib.hid (H3.out.step ⟨q4,h4⟩)
   have q24:But (So d r) w2 w4:=(But.of_grown g3).trans (so_m q4)
   go_wp2_with fail
   refine nxt_kept q24 (Box.keep H2.out.box H4.out.box rfl (by simp [Tk.l])) (plan_one ?_)
   clear q4 h4 g3
   simp only [nths,nth,List.map_nil,List.getD_cons_zero,List.getD_cons_succ]
   refine wpQuiet_nil ?_
   go_wp2_with fail
   refine (By_any _ _ hvb.1 hvb.2).mono ?_;rintro e w5 ⟨rfl,g5⟩
   rw [HBv.out]
   have H5:=Lib.hid (H4.out.grown g5)
   have q25:=q24.trans (But.of_grown g5)
   have Q5:Hid (But (So d r) w w5):=Lib.hid (Q2.out.trans q25)
   go_wp2_with fail
   refine nxt_kept q25 (Box.keep H2.out.box H5.out.box rfl (by simp [Tk.l])) (plan_one ?_)
   clear g5
   simp only [nths,nth,List.map_cons,List.map_nil,List.getD_cons_zero,List.getD_cons_succ]
   repeat go_big_quiet_step (fail)
   refine wpQuiet_nil ?_
   go_wp2_with (first | (refine store_cell rfl 4 _ _ rfl r 15 rfl (.bool false) rfl rfl (y.x).l ({ y.x with won:=false }:Tk).l H5.out.box (Nat.le_of_ble_eq_true rfl) (by kernel_rfl) rfl ?_;intro w6 B_ q_;have H6:=Lib.hid (H5.out.put (x:={ y.x with won:=false }) B_ q_);have Q6:Hid (But (So d r) w w6):=Lib.hid (Q5.out.trans (so_r q_));have c15:=H6.out.box.cell 15 (.bool false) rfl;have c1:=H6.out.box.cell 1 (.bool false) (by simp [Tk.l,HOwn.out]);have q26:But (So d r) w2 w6:=q25.trans (so_r q_);clear B_ q_) | fail)
   refine nxt_kept q26 (Box.keep H2.out.box H6.out.box rfl (by simp [Tk.l])) (plan_fin ?_)
   clear q24 q25 q26
   simp only [nths,List.map_nil]
   refine wpQuiet_nil ?_
   go_wp2_with (first | (refine store_cell rfl 4 _ _ rfl r 14 rfl (.bool true) rfl rfl (({ y.x with won:=false }:Tk)).l ({ y.x with won:=false,done:=true }:Tk).l H6.out.box (Nat.le_of_ble_eq_true rfl) (by kernel_rfl) rfl ?_;intro w7 B_ q_;have H7:=Lib.hid (H6.out.put (x:={ y.x with won:=false,done:=true }) B_ q_);have Q7:Hid (But (So d r) w w7):=Lib.hid (Q6.out.trans (so_r q_));clear B_ q_) | fail)
   go_end0
   refine ⟨rfl,Q7.out,?_⟩
   rw [← HZ.out]
   exact H7.out
  ·go_enter Tryz.func102,Tryz.ntmps102
   go_wp2_with fail
   refine wp_region_plank (So d r) (fun i o => i = r ∧ o < 15) (.one [0,1,2,6,7,8,9] 3 (.one [] 4 (.one [] 5 (.one [10,11,12] 13 (.fin []))))) (by kernel_rfl) (by kernel_rfl) (by kernel_rfl) ?_
   intro w2 g2
   have H2:=Lib.hid (H.out.grown g2)
   have Q2:Hid (But (So d r) w w2):=Lib.hid (But.of_grown g2)
   have d0:∀ g:KeptW (So d r) (fun i o => i = r ∧ o < 15) w2,g.w.cell? ⟨r,0,none⟩ = some (.int .i64 y.x.op):=KeptW.cell ⟨rfl,by omega⟩ (H2.out.box.cell 0 _ rfl)
   refine plan_one ?_
   simp only [nths,nth,List.map_cons,List.map_nil,List.getD_cons_zero,List.getD_cons_succ]
   repeat go_big_quiet_step (fail)
   clear d0 g2
   refine wpQuiet_nil ?_
   go_wp2_with fail
   refine (tTarget _ r y.x H2.out.box w0 w1).mono ?_;rintro e w3 ⟨rfl,g3⟩
   rw [HTg.out]
   have H3:=Lib.hid (H2.out.grown g3)
   go_wp2_with fail
   refine nxt_keptg g3 (plan_one ?_)
   simp only [nths,nth,List.map_nil,List.getD_cons_zero,List.getD_cons_succ]
   refine wpQuiet_nil ?_
   go_wp2_with fail
   refine (wWord_any _ c d y.ws y.n s tg H3.out.wd n0 n1).mono ?_;rintro e w4 ⟨rfl,q4,h4⟩
   rw [HV.out]
   rw [HN.out] at h4
   have H4:=Lib.hid (H3.out.step ⟨q4,h4⟩)
   have q24:But (So d r) w2 w4:=(But.of_grown g3).trans (so_m q4)
   go_wp2_with fail
   refine nxt_kept q24 (Box.keep H2.out.box H4.out.box rfl (by simp [Tk.l])) (plan_one ?_)
   clear q4 h4 g3
   simp only [nths,nth,List.map_nil,List.getD_cons_zero,List.getD_cons_succ]
   refine wpQuiet_nil ?_
   go_wp2_with fail
   refine (By_any _ _ hvb.1 hvb.2).mono ?_;rintro e w5 ⟨rfl,g5⟩
   rw [HBv.out]
   have H5:=Lib.hid (H4.out.grown g5)
   have q25:=q24.trans (But.of_grown g5)
   have Q5:Hid (But (So d r) w w5):=Lib.hid (Q2.out.trans q25)
   go_wp2_with fail
   refine nxt_kept q25 (Box.keep H2.out.box H5.out.box rfl (by simp [Tk.l])) (plan_one ?_)
   clear g5
   simp only [nths,nth,List.map_cons,List.map_nil,List.getD_cons_zero,List.getD_cons_succ]
   repeat go_big_quiet_step (fail)
   refine wpQuiet_nil ?_
   go_wp2_with (first | (refine store_cell rfl 4 _ _ rfl r 15 rfl (.bool false) rfl rfl (y.x).l ({ y.x with won:=false }:Tk).l H5.out.box (Nat.le_of_ble_eq_true rfl) (by kernel_rfl) rfl ?_;intro w6 B_ q_;have H6:=Lib.hid (H5.out.put (x:={ y.x with won:=false }) B_ q_);have Q6:Hid (But (So d r) w w6):=Lib.hid (Q5.out.trans (so_r q_));have c15:=H6.out.box.cell 15 (.bool false) rfl;have c1:=H6.out.box.cell 1 (.bool true) (by simp [Tk.l,HOwn.out]);have q26:But (So d r) w2 w6:=q25.trans (so_r q_);clear B_ q_) | fail)
   refine nxt_kept q26 (Box.keep H2.out.box H6.out.box rfl (by simp [Tk.l])) (plan_fin ?_)
   clear q24 q25 q26
   simp only [nths,List.map_nil]
   refine wpQuiet_nil ?_
   go_wp2_with (first | (refine store_cell rfl 4 _ _ rfl r 14 rfl (.bool true) rfl rfl (({ y.x with won:=false }:Tk)).l ({ y.x with won:=false,done:=true }:Tk).l H6.out.box (Nat.le_of_ble_eq_true rfl) (by kernel_rfl) rfl ?_;intro w7 B_ q_;have H7:=Lib.hid (H6.out.put (x:={ y.x with won:=false,done:=true }) B_ q_);have Q7:Hid (But (So d r) w w7):=Lib.hid (Q6.out.trans (so_r q_));clear B_ q_) | fail)
   go_end0
   refine ⟨rfl,Q7.out,?_⟩
   rw [← HZ.out]
   exact H7.out
end Go.Proofs.YtcogckjpmmjmbaaGreat
