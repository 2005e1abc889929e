/- Package take: New, Step. -/
import Derived.Test.YtcogckjpmmjmbaaGreatQDTkA
namespace Go.Proofs.YtcogckjpmmjmbaaGreat
open Go.ChangeShapes Go.WideShapes Go.ChangeAt Go.RowKit
set_option maxRecDepth 100000
set_option linter.unusedVariables false
theorem tNew (w:World) (op:Int) (own:Bool):Calls Tryz.prog 42 #[.int .i64 op,.bool own] w fun e w' => e = .returned (.agg (newT op own).l.toArray) ∧ Grown w w':=by
 go_enter Tryz.func42,Tryz.ntmps42
 go_wp2_with fail
 have g:Grown w (w.alloc (.cells (newT op own).l.toArray 90)):=by go_grown
 exact bodyPost_ret (v:=.agg (newT op own).l.toArray) (results_c (ty:=90) rfl rfl (load_run (Box.made w (newT op own).l 90) 90 _ Tryz.underlying90 rfl (by kernel_rfl))) rfl ⟨rfl,g⟩
set_option maxHeartbeats 4000000 in
theorem tWalked (w:World) (c:Cf) (d:Wd) (s:St) (rv r:Nat) (y:Kt) (h:TkAt w c d s r y) (hr:w.cell? ⟨rv,0,none⟩ = some (.pointer (some ⟨d.x,0,none⟩))) (n0:0 ≤ y.n) (n1:y.n < 4611686018427387904) (hI:Inv c s) (hw:∀ i:Int,0 ≤ rd y.ws i ∧ rd y.ws i ≤ 18446744073709551615) (ok:y.x.wk.Ok) (z:Kt)
  (hz:(⟨(stepK c s ⟨y.ws,y.n,y.x.wk⟩).ws,(stepK c s ⟨y.ws,y.n,y.x.wk⟩).n,{ y.x with wk:=(stepK c s ⟨y.ws,y.n,y.x.wk⟩).x }⟩:Kt) = z) :
  Calls Tryz.prog 96 #[.pointer (some ⟨rv,0,none⟩),.pointer (some ⟨r,0,none⟩)] w fun e w' => e = .returned (.bool z.x.wk.done) ∧ LeftT c d s r z w w':=by
 obtain ⟨⟨zws,zn,zx⟩,hzk⟩:∃ z,stepK c s ⟨y.ws,y.n,y.x.wk⟩ = z:=⟨_,rfl⟩
 have HZ:Hid ((⟨zws,zn,{ y.x with wk:=zx }⟩:Kt) = z):=Lib.hid (by rw [← hz,hzk])
 have HZK:=Lib.hid hzk
 have H:=Lib.hid h
 have HI:=Lib.hid hI
 clear hz hzk h hI
 go_enter Tryz.func96,Tryz.ntmps96
 go_wp2_with (first | (refine load_mid rfl 63 _ rfl r 4 rfl y.x.l y.x.wk.l _ Tryz.underlying63 rfl (by kernel_rfl) H.out.box (by rfl) ?_) | fail)
 refine (kStep _ c d s ⟨y.ws,y.n,y.x.wk⟩ H.out.wd HI.out n0 n1 hw ok _ HZK.out).mono ?_;rintro e w2 ⟨rfl,q2⟩
 have H2:=Lib.hid (H.out.step q2)
 have Q2:Hid (But (So d r) w w2):=Lib.hid (so_m q2.1)
 clear q2
 go_wp2_with (first | (refine store_part rfl 63 _ _ rfl r 4 rfl _ rfl y.x.l ({ y.x with wk:=zx }:Tk).l H2.out.box (Nat.le_of_ble_eq_true rfl) (by kernel_rfl) rfl rfl ?_;intro w3 B_ q_;have H3:=Lib.hid (H2.out.put (x:={ y.x with wk:=zx }) B_ q_);have Q3:Hid (But (So d r) w w3):=Lib.hid (Q2.out.trans (so_r q_));have c13:=H3.out.box.cell 13 (.bool zx.done) rfl;clear B_ q_) | fail)
 go_ret
 refine ⟨by rw [← HZ.out];rfl,Q3.out,?_⟩
 rw [← HZ.out]
 exact H3.out
def zTk:Tk:=⟨0,false,0,0,⟨0,0,0,0,0,0,0,0,false,false⟩,false,false⟩
def tW (w:World) (x:Nat) (l:List Value):World:=((w.alloc (.cells #[.pointer (some ⟨x,0,none⟩)] 29)).alloc (.cells l.toArray 90)).alloc (.cells zTk.l.toArray 90)
theorem tVars (w:World) (c:Cf) (d:Wd) (s:St) (y:Kt) (h:WdAt w c d y.ws y.n s) :
  TkAt (tW w d.x y.x.l) c d s (w.heap.size + 1) y ∧ Box (tW w d.x y.x.l) (w.heap.size + 1 + 1) zTk.l ∧ (tW w d.x y.x.l).cell? ⟨w.heap.size,0,none⟩ = some (.pointer (some ⟨d.x,0,none⟩)) ∧ Grown w (tW w d.x y.x.l):=by
 obtain ⟨A1,h1⟩:∃ A,w.alloc (.cells #[.pointer (some ⟨d.x,0,none⟩)] 29) = A:=⟨_,rfl⟩
 obtain ⟨A2,h2⟩:∃ A,A1.alloc (.cells y.x.l.toArray 90) = A:=⟨_,rfl⟩
 obtain ⟨A3,h3⟩:∃ A,A2.alloc (.cells zTk.l.toArray 90) = A:=⟨_,rfl⟩
 have hW:tW w d.x y.x.l = A3:=by unfold tW;rw [h1,h2,h3]
 rw [hW]
 have z1:A1.heap.size = w.heap.size + 1:=by rw [← h1];simp
 have z2:A2.heap.size = w.heap.size + 1 + 1:=by rw [← h2];simp [z1]
 have g1:Grown w A1:=by rw [← h1];go_grown
 have g2:Grown A1 A2:=by rw [← h2];go_grown
 have g3:Grown A2 A3:=by rw [← h3];go_grown
 have c0:A1.cell? ⟨w.heap.size,0,none⟩ = some (.pointer (some ⟨d.x,0,none⟩)):=by rw [← h1];simp [go_sem]
 have B2:=Box.made A1 y.x.l 90
 rw [h2,z1] at B2
 have B3:=Box.made A2 zTk.l 90
 rw [h3,z2] at B3
 exact ⟨⟨h.grown (gtr g1 (gtr g2 g3)),B2.grown g3,h.ow_lt (by omega),fun e => by have:=h.xlt;omega,by have:=h.book.o6;omega⟩,B3,gcell (gtr g2 g3) c0,gtr g1 (gtr g2 g3)⟩
def LeftS (c:Cf) (d:Wd) (s:St) (z:Kt) (w w':World):Prop:=But (Ow d) w w' ∧ WdAt w' c d z.ws z.n s
theorem tEnd {w w1 w2 w3:World} {c:Cf} {d:Wd} {s:St} {z y:Kt} (h:WdAt w c d y.ws y.n s) (g:Grown w w1) (h2:LeftT c d s (w.heap.size + 1) z w1 w2) (hB:Box w2 (w.heap.size + 1 + 1) zTk.l) (q3:But (fun i => i = w.heap.size + 1 + 1) w2 w3):LeftS c d s z w w3:=by
 have q:But (fun i => (Ow d i ∨ i = w.heap.size + 1) ∨ i = w.heap.size + 1 + 1) w w3:=(((But.of_grown g).trans h2.1).mono fun _ h => .inl h).trans (q3.mono fun _ h => .inr h)
 exact ⟨(q.only (by omega)).only (by omega),h2.2.wd.othV q3 (by have:=h.book.o6;omega) (fun m => h.ow_lt (i:=w.heap.size + 1 + 1) (by omega) (.inr m)) (fun e => by have:=h.xlt;omega) (hB.cell 1 _ rfl) (fun _ e => by cases e)⟩
set_option maxHeartbeats 16000000 in
theorem tStep (w:World) (c:Cf) (d:Wd) (s:St) (y:Kt) (h:WdAt w c d y.ws y.n s) (hI:Inv c s) (hN:NdOk c s) (hcp:c.ops ≤ 9999) (n0:0 ≤ y.n) (n1:y.n < 4611686018427387904) (hw:∀ i:Int,0 ≤ rd y.ws i ∧ rd y.ws i ≤ 18446744073709551615) (ok:y.x.wk.Ok) (w0:0 ≤ y.x.want) (w1:y.x.want ≤ 18446744073709551615)
  (f0:-1 ≤ y.x.wk.found) (f1:y.x.wk.found ≤ 9223372036854775807) (u0:-9223372036854775808 ≤ y.x.op) (u1:y.x.op ≤ 9223372036854775807) (z:Kt) (hz:stepT c s y = z) :
  Calls Tryz.prog 45 #[.pointer (some ⟨d.x,0,none⟩),.agg y.x.l.toArray] w fun e w' => e = .returned (.agg z.x.l.toArray) ∧ LeftS c d s z w w':=by
 have hmf:=mkFunc
 have HD:=Lib.hid h
 have HI:=Lib.hid hI
 obtain ⟨h1,h2,h3,h4⟩:=tVars w c d s y h
 have HV:=Lib.hid h1
 have HB:=Lib.hid h2
 have HG:=Lib.hid h4
 have r0:=h3
 have e14:=h1.box.cell 14 _ rfl
 have e2:=h1.box.cell 2 _ rfl
 clear h h1 h2 h3 h4 hI
 unfold tW at HV HB HG r0 e14 e2
 obtain ⟨L,hL⟩:∃ L,y.x.l = L:=⟨_,rfl⟩
 rw [hL] at HV HB HG r0 e14 e2 ⊢
 have HL:=Lib.hid hL
 clear hL
 simp only [zTk,Tk.l] at r0 e14 e2
 obtain ⟨dn,hd⟩:∃ b,y.x.done = b:=⟨_,rfl⟩
 rw [hd] at e14
 cases dn
 ·by_cases hb:y.x.phase < 0 ∨ 6 ≤ y.x.phase
  ·as_aux_lemma =>
    have HZ:Hid ((⟨y.ws,y.n,{ y.x with done:=true }⟩:Kt) = z):=Lib.hid (by rw [← hz];unfold stepT;rw [hd];simp only [Bool.false_eq_true,if_false];repeat rw [if_neg (by omega)])
    have p0:(y.x.phase == 0) = false:=by simp;omega
    have p1:(y.x.phase == 1) = false:=by simp;omega
    have p2:(y.x.phase == 2) = false:=by simp;omega
    have p3:(y.x.phase == 3) = false:=by simp;omega
    have p4:(y.x.phase == 4) = false:=by simp;omega
    have p5:(y.x.phase == 5) = false:=by simp;omega
    clear hz hd hb
    go_enter Tryz.func45,Tryz.ntmps45
    go_wp2_with (first | (refine store_cell rfl 4 _ _ rfl (w.heap.size + 1) 14 rfl (.bool true) rfl rfl _ ({ y.x with done:=true }:Tk).l HV.out.box (Nat.le_of_ble_eq_true rfl) (by kernel_rfl) rfl ?_;intro w7 B7 q7;have H7:=Lib.hid (HV.out.put (x:={ y.x with done:=true }) B7 q7);have HB7:=Lib.hid (HB.out.but q7 (by omega));have Q7:Hid (But (So d (w.heap.size + 1)) _ w7):=Lib.hid (so_r q7);clear B7 q7) | (refine load_box rfl 90 _ rfl (w.heap.size + 1) rfl _ _ Tryz.underlying90 rfl (by kernel_rfl) H7.out.box ?_) | (refine store_box rfl 90 _ _ rfl (w.heap.size + 1 + 1) _ HB7.out _ rfl rfl rfl (by kernel_rfl) rfl ?_;intro w9 B9 q9;have HB9:=Lib.hid B9;have Q9:=Lib.hid q9;clear B9 q9) | fail)
    exact bodyPost_ret (v:=.agg ({ y.x with done:=true }:Tk).l.toArray) (results_c (ty:=90) rfl rfl (load_run HB9.out 90 _ Tryz.underlying90 rfl (by kernel_rfl))) rfl ⟨by rw [← HZ.out],by rw [← HZ.out];exact tEnd HD.out HG.out ⟨Q7.out,H7.out⟩ HB7.out Q9.out⟩
  rcases (show y.x.phase = 0 ∨ y.x.phase = 1 ∨ y.x.phase = 2 ∨ y.x.phase = 3 ∨ y.x.phase = 4 ∨ y.x.phase = 5 by omega) with hp | hp | hp | hp | hp | hp
  ·clear hb
   as_aux_lemma =>
    have HPh:=Lib.hid hp
    have HDn:=Lib.hid hd
    rw [hp] at e2
    have HZ:Hid (askT c s y = z):=Lib.hid (by rw [← hz];unfold stepT;simp [hd,hp])
    clear hz hp hd
    go_enter Tryz.func45,Tryz.ntmps45
    go_wp2_with fail
    refine (tAsk _ c d s (w.heap.size + 1) y HV.out n0 n1 HI.out z HZ.out).mono ?_;rintro e w3 ⟨rfl,q3,h3⟩
    have H3:=Lib.hid h3
    have Q3:=Lib.hid q3
    have HB3:=Lib.hid (HB.out.but q3 (by rintro (h | h);exact HD.out.ow_lt (by omega) h;omega))
    clear q3 h3
    clear r0 e14 e2
    go_wp2_with (first | (refine load_box rfl 90 _ rfl (w.heap.size + 1) rfl _ _ Tryz.underlying90 rfl (by kernel_rfl) H3.out.box ?_) | (refine store_box rfl 90 _ _ rfl (w.heap.size + 1 + 1) _ HB3.out _ rfl rfl rfl (by kernel_rfl) rfl ?_;intro w9 B9 q9;have HB9:=Lib.hid B9;have Q9:=Lib.hid q9;clear B9 q9) | fail)
    exact bodyPost_ret (v:=.agg (z.x:Tk).l.toArray) (results_c (ty:=90) rfl rfl (load_run HB9.out 90 _ Tryz.underlying90 rfl (by kernel_rfl))) rfl ⟨rfl,tEnd HD.out HG.out ⟨Q3.out,H3.out⟩ HB3.out Q9.out⟩
  ·clear hb
   as_aux_lemma =>
    have HPh:=Lib.hid hp
    have HDn:=Lib.hid hd
    rw [hp] at e2
    obtain ⟨⟨zws,zn,zx⟩,hzk⟩:∃ z,stepK c s ⟨y.ws,y.n,y.x.wk⟩ = z:=⟨_,rfl⟩
    have HF:Hid (-1 ≤ zx.found ∧ zx.found ≤ 9223372036854775807):=Lib.hid (by
     have e:=step_fnd c s ⟨y.ws,y.n,y.x.wk⟩
     rw [hzk] at e
     rcases e with e | ⟨a,e⟩ <;> simp only at e <;> rw [e]
     ·exact ⟨f0,f1⟩
     ·have:=hN.at_ a;omega)
    obtain ⟨dz,hdz⟩:∃ b,zx.done = b:=⟨_,rfl⟩
    have HZK:Hid ((⟨(stepK c s ⟨y.ws,y.n,y.x.wk⟩).ws,(stepK c s ⟨y.ws,y.n,y.x.wk⟩).n,{ y.x with wk:=(stepK c s ⟨y.ws,y.n,y.x.wk⟩).x }⟩:Kt) = ⟨zws,zn,{ y.x with wk:=zx }⟩):=Lib.hid (by rw [hzk])
    have HDz:=Lib.hid hdz
    cases dz
    ·have HZ:Hid ((⟨zws,zn,{ y.x with wk:=zx }⟩:Kt) = z):=Lib.hid (by rw [← hz];unfold stepT wlkT wkdX;simp [hd,hp,hzk,hdz])
     clear hz hp hd hzk hdz
     go_enter Tryz.func45,Tryz.ntmps45
     go_wp2_with fail
     refine (tWalked _ c d s w.heap.size (w.heap.size + 1) y HV.out r0 n0 n1 HI.out hw ok _ HZK.out).mono ?_;rintro e w3 ⟨rfl,q3,h3⟩
     simp only
     rw [HDz.out]
     have H3:=Lib.hid h3
     have Q3:=Lib.hid q3
     have HB3:=Lib.hid (HB.out.but q3 (by rintro (h | h);exact HD.out.ow_lt (by omega) h;omega))
     clear q3 h3
     clear r0 e14 e2
     go_wp2_with (first | (refine load_box rfl 90 _ rfl (w.heap.size + 1) rfl _ _ Tryz.underlying90 rfl (by kernel_rfl) H3.out.box ?_) | (refine store_box rfl 90 _ _ rfl (w.heap.size + 1 + 1) _ HB3.out _ rfl rfl rfl (by kernel_rfl) rfl ?_;intro w9 B9 q9;have HB9:=Lib.hid B9;have Q9:=Lib.hid q9;clear B9 q9) | fail)
     exact bodyPost_ret (v:=.agg ({ y.x with wk:=zx }:Tk).l.toArray) (results_c (ty:=90) rfl rfl (load_run HB9.out 90 _ Tryz.underlying90 rfl (by kernel_rfl))) rfl ⟨by rw [← HZ.out],by rw [← HZ.out];exact tEnd HD.out HG.out ⟨Q3.out,H3.out⟩ HB3.out Q9.out⟩
    ·have HZ:Hid ((⟨zws,zn,{ ({ y.x with wk:=zx }:Tk) with want:=fndX zx.found,phase:=2 }⟩:Kt) = z):=Lib.hid (by rw [← hz];unfold stepT wlkT wkdX;simp [hd,hp,hzk,hdz])
     clear hz hp hd hzk hdz
     go_enter Tryz.func45,Tryz.ntmps45
     go_wp2_with fail
     refine (tWalked _ c d s w.heap.size (w.heap.size + 1) y HV.out r0 n0 n1 HI.out hw ok _ HZK.out).mono ?_;rintro e w3 ⟨rfl,q3,h3⟩
     simp only
     rw [HDz.out]
     have H3:=Lib.hid h3
     have Q3:=Lib.hid q3
     have HB3:=Lib.hid (HB.out.but q3 (by rintro (h | h);exact HD.out.ow_lt (by omega) h;omega))
     clear q3 h3
     clear r0 e14 e2
     have ff:=HF.out
     go_wp2_with fail
     refine (tChoose _ c d s (w.heap.size + 1) ⟨zws,zn,{ y.x with wk:=zx }⟩ H3.out (by have:=ff.1;simp only;omega) ff.2 z HZ.out).mono ?_;rintro e w4 ⟨rfl,q4,h4⟩
     have H4:=Lib.hid h4
     have Q4:=Lib.hid (Q3.out.trans q4)
     have HB4:=Lib.hid (HB3.out.but q4 (by rintro (h | h);exact HD.out.ow_lt (by omega) h;omega))
     clear q4 h4
     go_wp2_with (first | (refine load_box rfl 90 _ rfl (w.heap.size + 1) rfl _ _ Tryz.underlying90 rfl (by kernel_rfl) H4.out.box ?_) | (refine store_box rfl 90 _ _ rfl (w.heap.size + 1 + 1) _ HB4.out _ rfl rfl rfl (by kernel_rfl) rfl ?_;intro w9 B9 q9;have HB9:=Lib.hid B9;have Q9:=Lib.hid q9;clear B9 q9) | fail)
     exact bodyPost_ret (v:=.agg (z.x:Tk).l.toArray) (results_c (ty:=90) rfl rfl (load_run HB9.out 90 _ Tryz.underlying90 rfl (by kernel_rfl))) rfl ⟨rfl,tEnd HD.out HG.out ⟨Q4.out,H4.out⟩ HB4.out Q9.out⟩
  ·clear hb
   as_aux_lemma =>
    have HPh:=Lib.hid hp
    have HDn:=Lib.hid hd
    rw [hp] at e2
    have HZ:Hid (setT c y = z):=Lib.hid (by rw [← hz];unfold stepT;simp [hd,hp])
    clear hz hp hd
    go_enter Tryz.func45,Tryz.ntmps45
    go_wp2_with fail
    refine (tSettle _ c d s (w.heap.size + 1) y HV.out n0 n1 z HZ.out).mono ?_;rintro e w3 ⟨rfl,q3,h3⟩
    have H3:=Lib.hid h3
    have Q3:=Lib.hid q3
    have HB3:=Lib.hid (HB.out.but q3 (by rintro (h | h);exact HD.out.ow_lt (by omega) h;omega))
    clear q3 h3
    clear r0 e14 e2
    go_wp2_with (first | (refine load_box rfl 90 _ rfl (w.heap.size + 1) rfl _ _ Tryz.underlying90 rfl (by kernel_rfl) H3.out.box ?_) | (refine store_box rfl 90 _ _ rfl (w.heap.size + 1 + 1) _ HB3.out _ rfl rfl rfl (by kernel_rfl) rfl ?_;intro w9 B9 q9;have HB9:=Lib.hid B9;have Q9:=Lib.hid q9;clear B9 q9) | fail)
    exact bodyPost_ret (v:=.agg (z.x:Tk).l.toArray) (results_c (ty:=90) rfl rfl (load_run HB9.out 90 _ Tryz.underlying90 rfl (by kernel_rfl))) rfl ⟨rfl,tEnd HD.out HG.out ⟨Q3.out,H3.out⟩ HB3.out Q9.out⟩
  ·clear hb
   as_aux_lemma =>
    have HPh:=Lib.hid hp
    have HDn:=Lib.hid hd
    rw [hp] at e2
    have HZ:Hid (outT c y = z):=Lib.hid (by rw [← hz];unfold stepT;simp [hd,hp])
    clear hz hp hd
    go_enter Tryz.func45,Tryz.ntmps45
    go_wp2_with fail
    refine (tTakeOut _ c d s (w.heap.size + 1) y HV.out n0 n1 w0 w1 u0 u1 z HZ.out).mono ?_;rintro e w3 ⟨rfl,q3,h3⟩
    have H3:=Lib.hid h3
    have Q3:=Lib.hid q3
    have HB3:=Lib.hid (HB.out.but q3 (by rintro (h | h);exact HD.out.ow_lt (by omega) h;omega))
    clear q3 h3
    clear r0 e14 e2
    go_wp2_with (first | (refine load_box rfl 90 _ rfl (w.heap.size + 1) rfl _ _ Tryz.underlying90 rfl (by kernel_rfl) H3.out.box ?_) | (refine store_box rfl 90 _ _ rfl (w.heap.size + 1 + 1) _ HB3.out _ rfl rfl rfl (by kernel_rfl) rfl ?_;intro w9 B9 q9;have HB9:=Lib.hid B9;have Q9:=Lib.hid q9;clear B9 q9) | fail)
    exact bodyPost_ret (v:=.agg (z.x:Tk).l.toArray) (results_c (ty:=90) rfl rfl (load_run HB9.out 90 _ Tryz.underlying90 rfl (by kernel_rfl))) rfl ⟨rfl,tEnd HD.out HG.out ⟨Q3.out,H3.out⟩ HB3.out Q9.out⟩
  ·clear hb
   as_aux_lemma =>
    have HPh:=Lib.hid hp
    have HDn:=Lib.hid hd
    rw [hp] at e2
    have HZ:Hid (whoT c s y = z):=Lib.hid (by rw [← hz];unfold stepT;simp [hd,hp])
    clear hz hp hd
    go_enter Tryz.func45,Tryz.ntmps45
    go_wp2_with fail
    refine (tAskWhose _ c d s (w.heap.size + 1) y HV.out n0 n1 HI.out hw w0 w1 z HZ.out).mono ?_;rintro e w3 ⟨rfl,q3,h3⟩
    have H3:=Lib.hid h3
    have Q3:=Lib.hid q3
    have HB3:=Lib.hid (HB.out.but q3 (by rintro (h | h);exact HD.out.ow_lt (by omega) h;omega))
    clear q3 h3
    clear r0 e14 e2
    go_wp2_with (first | (refine load_box rfl 90 _ rfl (w.heap.size + 1) rfl _ _ Tryz.underlying90 rfl (by kernel_rfl) H3.out.box ?_) | (refine store_box rfl 90 _ _ rfl (w.heap.size + 1 + 1) _ HB3.out _ rfl rfl rfl (by kernel_rfl) rfl ?_;intro w9 B9 q9;have HB9:=Lib.hid B9;have Q9:=Lib.hid q9;clear B9 q9) | fail)
    exact bodyPost_ret (v:=.agg (z.x:Tk).l.toArray) (results_c (ty:=90) rfl rfl (load_run HB9.out 90 _ Tryz.underlying90 rfl (by kernel_rfl))) rfl ⟨rfl,tEnd HD.out HG.out ⟨Q3.out,H3.out⟩ HB3.out Q9.out⟩
  ·clear hb
   as_aux_lemma =>
    have HPh:=Lib.hid hp
    have HDn:=Lib.hid hd
    rw [hp] at e2
    obtain ⟨⟨zws,zn,zx⟩,hzk⟩:∃ z,stepK c s ⟨y.ws,y.n,y.x.wk⟩ = z:=⟨_,rfl⟩
    have HF:Hid (-1 ≤ zx.found ∧ zx.found ≤ 9223372036854775807):=Lib.hid (by
     have e:=step_fnd c s ⟨y.ws,y.n,y.x.wk⟩
     rw [hzk] at e
     rcases e with e | ⟨a,e⟩ <;> simp only at e <;> rw [e]
     ·exact ⟨f0,f1⟩
     ·have:=hN.at_ a;omega)
    obtain ⟨dz,hdz⟩:∃ b,zx.done = b:=⟨_,rfl⟩
    have HZK:Hid ((⟨(stepK c s ⟨y.ws,y.n,y.x.wk⟩).ws,(stepK c s ⟨y.ws,y.n,y.x.wk⟩).n,{ y.x with wk:=(stepK c s ⟨y.ws,y.n,y.x.wk⟩).x }⟩:Kt) = ⟨zws,zn,{ y.x with wk:=zx }⟩):=Lib.hid (by rw [hzk])
    have HDz:=Lib.hid hdz
    cases dz
    ·have HZ:Hid ((⟨zws,zn,{ ({ y.x with wk:=zx }:Tk) with done:=false }⟩:Kt) = z):=Lib.hid (by rw [← hz];unfold stepT wlkT wkdX;simp [hd,hp,hzk,hdz])
     clear hz hp hd hzk hdz
     go_enter Tryz.func45,Tryz.ntmps45
     go_wp2_with fail
     refine (tWalked _ c d s w.heap.size (w.heap.size + 1) y HV.out r0 n0 n1 HI.out hw ok _ HZK.out).mono ?_;rintro e w3 ⟨rfl,q3,h3⟩
     simp only
     rw [HDz.out]
     have H3:=Lib.hid h3
     have Q3:=Lib.hid q3
     have HB3:=Lib.hid (HB.out.but q3 (by rintro (h | h);exact HD.out.ow_lt (by omega) h;omega))
     clear q3 h3
     clear r0 e14 e2
     go_wp2_with (first | (refine store_cell rfl 4 _ _ rfl (w.heap.size + 1) 14 rfl (.bool false) rfl rfl ({ y.x with wk:=zx }:Tk).l ({ ({ y.x with wk:=zx }:Tk) with done:=false }:Tk).l H3.out.box (Nat.le_of_ble_eq_true rfl) (by kernel_rfl) rfl ?_;intro w7 B7 q7;have H7:=Lib.hid (H3.out.put (x:={ ({ y.x with wk:=zx }:Tk) with done:=false }) B7 q7);have HB7:=Lib.hid (HB3.out.but q7 (by omega));have Q7:Hid (But (So d (w.heap.size + 1)) _ w7):=Lib.hid (Q3.out.trans (so_r q7));clear B7 q7) | (refine load_box rfl 90 _ rfl (w.heap.size + 1) rfl _ _ Tryz.underlying90 rfl (by kernel_rfl) H7.out.box ?_) | (refine store_box rfl 90 _ _ rfl (w.heap.size + 1 + 1) _ HB7.out _ rfl rfl rfl (by kernel_rfl) rfl ?_;intro w9 B9 q9;have HB9:=Lib.hid B9;have Q9:=Lib.hid q9;clear B9 q9) | fail)
     exact bodyPost_ret (v:=.agg ({ ({ y.x with wk:=zx }:Tk) with done:=false }:Tk).l.toArray) (results_c (ty:=90) rfl rfl (load_run HB9.out 90 _ Tryz.underlying90 rfl (by kernel_rfl))) rfl ⟨by rw [← HZ.out],by rw [← HZ.out];exact tEnd HD.out HG.out ⟨Q7.out,H7.out⟩ HB7.out Q9.out⟩
    ·have HZ:Hid ((⟨zws,zn,{ ({ y.x with wk:=zx }:Tk) with done:=true }⟩:Kt) = z):=Lib.hid (by rw [← hz];unfold stepT wlkT wkdX;simp [hd,hp,hzk,hdz])
     clear hz hp hd hzk hdz
     go_enter Tryz.func45,Tryz.ntmps45
     go_wp2_with fail
     refine (tWalked _ c d s w.heap.size (w.heap.size + 1) y HV.out r0 n0 n1 HI.out hw ok _ HZK.out).mono ?_;rintro e w3 ⟨rfl,q3,h3⟩
     simp only
     rw [HDz.out]
     have H3:=Lib.hid h3
     have Q3:=Lib.hid q3
     have HB3:=Lib.hid (HB.out.but q3 (by rintro (h | h);exact HD.out.ow_lt (by omega) h;omega))
     clear q3 h3
     clear r0 e14 e2
     go_wp2_with (first | (refine store_cell rfl 4 _ _ rfl (w.heap.size + 1) 14 rfl (.bool true) rfl rfl ({ y.x with wk:=zx }:Tk).l ({ ({ y.x with wk:=zx }:Tk) with done:=true }:Tk).l H3.out.box (Nat.le_of_ble_eq_true rfl) (by kernel_rfl) rfl ?_;intro w7 B7 q7;have H7:=Lib.hid (H3.out.put (x:={ ({ y.x with wk:=zx }:Tk) with done:=true }) B7 q7);have HB7:=Lib.hid (HB3.out.but q7 (by omega));have Q7:Hid (But (So d (w.heap.size + 1)) _ w7):=Lib.hid (Q3.out.trans (so_r q7));clear B7 q7) | (refine load_box rfl 90 _ rfl (w.heap.size + 1) rfl _ _ Tryz.underlying90 rfl (by kernel_rfl) H7.out.box ?_) | (refine store_box rfl 90 _ _ rfl (w.heap.size + 1 + 1) _ HB7.out _ rfl rfl rfl (by kernel_rfl) rfl ?_;intro w9 B9 q9;have HB9:=Lib.hid B9;have Q9:=Lib.hid q9;clear B9 q9) | fail)
     exact bodyPost_ret (v:=.agg ({ ({ y.x with wk:=zx }:Tk) with done:=true }:Tk).l.toArray) (results_c (ty:=90) rfl rfl (load_run HB9.out 90 _ Tryz.underlying90 rfl (by kernel_rfl))) rfl ⟨by rw [← HZ.out],by rw [← HZ.out];exact tEnd HD.out HG.out ⟨Q7.out,H7.out⟩ HB7.out Q9.out⟩
 ·have HZ:Hid (y = z):=Lib.hid (by rw [← hz];unfold stepT;rw [if_pos hd])
  clear hz hd
  go_enter Tryz.func45,Tryz.ntmps45
  go_wp2_with (first | (refine load_box rfl 90 _ rfl (w.heap.size + 1) rfl _ _ Tryz.underlying90 rfl (by kernel_rfl) HV.out.box ?_) | (refine store_box rfl 90 _ _ rfl (w.heap.size + 1 + 1) _ HB.out _ rfl rfl rfl (by kernel_rfl) rfl ?_;intro w9 B9 q9;have HB9:=Lib.hid B9;have Q9:=Lib.hid q9;clear B9 q9) | fail)
  have HE:LeftT c d s (w.heap.size + 1) y _ _:=⟨But.refl _ _,HV.out⟩
  exact bodyPost_ret (v:=.agg (y.x:Tk).l.toArray) (results_c (ty:=90) rfl rfl (load_run HB9.out 90 _ Tryz.underlying90 rfl (by kernel_rfl))) rfl ⟨by rw [← HZ.out],by rw [← HZ.out];exact tEnd HD.out HG.out HE HB.out Q9.out⟩
end Go.Proofs.YtcogckjpmmjmbaaGreat
