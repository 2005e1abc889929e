/- Package place: Step. -/
import Derived.Test.YtcogckjpmmjmbaaGreatQAGMapF
namespace Go.Proofs.YtcogckjpmmjmbaaGreat
open Go.ChangeShapes Go.WideShapes Go.ChangeAt Go.RowKit
set_option maxRecDepth 100000
set_option linter.unusedVariables false
def zPut:Put:=⟨0,0,0,0,false,⟨0,0,0,0,0,0,0,0,false,false⟩,false,false⟩
theorem pVars (w:World) (c:Cf) (d:Wd) (y:Ku) (h:WdAt w c d y.ws y.n y.s) :
  PlAt ((w.alloc (.cells y.x.l.toArray 65)).alloc (.cells zPut.l.toArray 65)) c d w.heap.size y ∧ Box ((w.alloc (.cells y.x.l.toArray 65)).alloc (.cells zPut.l.toArray 65)) (w.heap.size + 1) zPut.l
   ∧ Grown w ((w.alloc (.cells y.x.l.toArray 65)).alloc (.cells zPut.l.toArray 65)):=by
 have g1:Grown w (w.alloc (.cells y.x.l.toArray 65)):=by go_grown
 have g2:Grown (w.alloc (.cells y.x.l.toArray 65)) ((w.alloc (.cells y.x.l.toArray 65)).alloc (.cells zPut.l.toArray 65)):=by go_grown
 have hB:=Box.made (w.alloc (.cells y.x.l.toArray 65)) zPut.l 65
 rw [show (w.alloc (.cells y.x.l.toArray 65)).heap.size = w.heap.size + 1 by simp] at hB
 exact ⟨⟨h.grown (gtr g1 g2),(Box.made w y.x.l _).grown g2,h.ow_lt (Nat.le_refl _),fun e => by have:=h.xlt;omega,h.book.o6⟩,hB,gtr g1 g2⟩
def LeftU (c:Cf) (d:Wd) (z:Ku) (w w':World):Prop:=But (Ow d) w w' ∧ WdAt w' c d z.ws z.n z.s
theorem pEnd {w w1 w2 w3:World} {c:Cf} {d:Wd} {z y:Ku} (h:WdAt w c d y.ws y.n y.s) (g:Grown w w1) (h2:LeftP c d w.heap.size z w1 w2) (hB:Box w2 (w.heap.size + 1) zPut.l) (q3:But (fun i => i = w.heap.size + 1) w2 w3):LeftU c d z w w3:=by
 have q:But (fun i => (Ow d i ∨ i = w.heap.size) ∨ i = w.heap.size + 1) w w3:=(((But.of_grown g).trans h2.1).mono fun _ h => .inl h).trans (q3.mono fun _ h => .inr h)
 exact ⟨(q.only (by omega)).only (Nat.le_refl _),h2.2.wd.othB q3 (by have:=h.book.o6;omega) (fun m => h.ow_lt (i:=w.heap.size + 1) (by omega) (.inr m)) (fun e => by have:=h.xlt;omega) (hB.cell 1 _ rfl)⟩
set_option maxHeartbeats 16000000 in
theorem pStep (w:World) (c:Cf) (d:Wd) (y:Ku) (h:WdAt w c d y.ws y.n y.s) (hI:Inv c y.s) (n0:0 ≤ y.n) (n1:y.n < 4611686018427387904) (hw:∀ i:Int,0 ≤ rd y.ws i ∧ rd y.ws i ≤ 18446744073709551615) (ok:y.x.wk.Ok) (u0:-9223372036854775808 ≤ y.x.node) (u1:y.x.node ≤ 9223372036854775807) (z:Ku) (hz:stepU c y = z) :
  Calls Tryz.prog 30 #[.pointer (some ⟨d.x,0,none⟩),.agg y.x.l.toArray] w fun e w' => e = .returned (.agg z.x.l.toArray) ∧ LeftU c d z w w':=by
 have HD:=Lib.hid h
 have hI:=Lib.hid hI
 obtain ⟨h1,h2,h3⟩:=pVars w c d y h
 have HV:=Lib.hid h1
 have HB:=Lib.hid h2
 have HG:=Lib.hid h3
 have e6:=h1.box.cell 15 _ rfl
 have e2:=h1.box.cell 2 _ rfl
 clear h h1 h2 h3
 obtain ⟨L,hL⟩:∃ L,y.x.l = L:=⟨_,rfl⟩
 rw [hL] at HV HB HG e6 e2 ⊢
 have HL:=Lib.hid hL
 clear hL
 simp only [zPut,Put.l] at e6 e2
 obtain ⟨dn,hd⟩:∃ b,y.x.done = b:=⟨_,rfl⟩
 rw [hd] at e6
 cases dn
 ·by_cases hb:y.x.phase < 0 ∨ 6 ≤ y.x.phase
  ·as_aux_lemma =>
    have HZ:Hid ((⟨y.ws,y.n,y.s,{ y.x with done:=true }⟩:Ku) = z):=Lib.hid (by rw [← hz];unfold stepU;rw [hd];simp only [Bool.false_eq_true,if_false];repeat rw [if_neg (by omega)])
    have HDn:=Lib.hid hd
    have HPb:=Lib.hid hb
    clear hz hd hb
    go_enter Tryz.func30,Tryz.ntmps30
    go_wp2_with fail
    refine wp_region_plang (.one [1,2] 0 (.one [] 3 (.fin [4,5,6,7,8]))) (by kernel_rfl) (by kernel_rfl) (by kernel_rfl) ?_
    intro w1 g1
    have H1:=Lib.hid (HV.out.grown g1)
    have HB1:=Lib.hid (HB.out.grown g1)
    have HG1:=Lib.hid (gtr HG.out g1)
    have d2:∀ g:GrW w1,g.w.cell? ⟨w.heap.size,2,none⟩ = some (.int .i64 y.x.phase):=GrW.cell (H1.out.box.cell 2 _ rfl)
    refine plan_one ?_
    try simp only [Act.put]
    simp only [nths,nth,List.map_cons,List.map_nil,List.getD_cons_zero,List.getD_cons_succ]
    repeat go_big_quiet_step (fail)
    clear d2 e2 e6 g1
    refine wpQuiet_nil ?_
    go_wp2_with fail
    refine (pActs _ w.heap.size).mono ?_;rintro e w2 ⟨mb,rfl,hM,g2⟩
    have H2:=Lib.hid (H1.out.grown g2)
    have HB2:=Lib.hid (HB1.out.grown g2)
    have HG2:=Lib.hid (gtr HG1.out g2)
    have hlk:∀ g:GrW w2,(Instr.lookup 162 (.map (some mb)) (.int .i64 y.x.phase) true).run Tryz.prog g.w = .ok (.tuple #[.nilFunc,.bool false]) g.w:=fun g => lookF_out (hM.grown g.gr) Tryz.underlying162 Tryz.underlying3 _ (fun w => by kernel_rfl) _ (by have:=HPb.out;simpa [actsP] using this)
    go_wp2_with fail
    refine nxt_grow g2 (plan_one ?_)
    try simp only [Act.put]
    simp only [nths,nth,List.map_nil,List.getD_cons_zero,List.getD_cons_succ]
    repeat go_big_quiet_step (fail)
    refine wpQuiet_nil ?_
    have hlk2:=hlk ⟨w2,Grown.refl _⟩
    go_wp2_with fail
    refine nxt_grow (Grown.refl _) (plan_fin ?_)
    clear g2 hM
    simp only [nths,nth,List.map_cons,List.map_nil,List.getD_cons_zero,List.getD_cons_succ]
    repeat go_big_quiet_step (fail)
    refine wpQuiet_nil ?_
    clear hlk hlk2
    go_wp2_with (first | (refine store_cell rfl 4 _ _ rfl w.heap.size 15 rfl (.bool true) rfl rfl _ ({ y.x with done:=true }:Put).l H2.out.box (Nat.le_of_ble_eq_true rfl) (by kernel_rfl) rfl ?_;intro w7 B7 q7;have H7:=Lib.hid (H2.out.put (x:={ y.x with done:=true }) B7 q7);have HB7:=Lib.hid (HB2.out.but q7 (by omega));have Q7:Hid (But (So d w.heap.size) _ w7):=Lib.hid (so_r q7);clear B7 q7) | (refine load_box rfl 65 _ rfl w.heap.size rfl _ _ Tryz.underlying65 rfl (by kernel_rfl) H7.out.box ?_) | (refine store_box rfl 65 _ _ rfl (w.heap.size + 1) _ HB7.out _ rfl rfl rfl (by kernel_rfl) rfl ?_;intro w9 B9 q9;have HB9:=Lib.hid B9;have Q9:=Lib.hid q9;clear B9 q9) | fail)
    exact bodyPost_ret (v:=.agg ({ y.x with done:=true }:Put).l.toArray) (results_c (ty:=65) rfl rfl (load_run HB9.out 65 _ Tryz.underlying65 rfl (by kernel_rfl))) rfl ⟨by rw [← HZ.out],by rw [← HZ.out];exact pEnd HD.out HG2.out ⟨Q7.out,H7.out⟩ HB7.out Q9.out⟩
  rcases (show y.x.phase = 0 ∨ y.x.phase = 1 ∨ y.x.phase = 2 ∨ y.x.phase = 3 ∨ y.x.phase = 4 ∨ y.x.phase = 5 by omega) with hp | hp | hp | hp | hp | hp
  ·clear hb
   as_aux_lemma =>
    have HZ:Hid (askU c y = z):=Lib.hid (by rw [← hz];unfold stepU;simp [hd,hp])
    have hp0:=hp
    rw [hp] at e2
    clear hz hp0
    have HP:=Lib.hid hp
    have HDn:=Lib.hid hd
    clear hp hd
    go_enter Tryz.func30,Tryz.ntmps30
    go_wp2_with fail
    refine wp_region_plang (.one [1,2] 0 (.one [] 3 (.fin [4,5,6,7,8]))) (by kernel_rfl) (by kernel_rfl) (by kernel_rfl) ?_
    intro w1 g1
    have H1:=Lib.hid (HV.out.grown g1)
    have HB1:=Lib.hid (HB.out.grown g1)
    have HG1:=Lib.hid (gtr HG.out g1)
    have d2:∀ g:GrW w1,g.w.cell? ⟨w.heap.size,2,none⟩ = some (.int .i64 0):=GrW.cell (by have:=H1.out.box.cell 2 _ rfl;rw [HP.out] at this;exact this)
    refine plan_one ?_
    try simp only [Act.put]
    simp only [nths,nth,List.map_cons,List.map_nil,List.getD_cons_zero,List.getD_cons_succ]
    repeat go_big_quiet_step (fail)
    clear d2 e2 e6 g1
    refine wpQuiet_nil ?_
    go_wp2_with fail
    refine (pActs _ w.heap.size).mono ?_;rintro e w2 ⟨mb,rfl,hM,g2⟩
    have H2:=Lib.hid (H1.out.grown g2)
    have HB2:=Lib.hid (HB1.out.grown g2)
    have HG2:=Lib.hid (gtr HG1.out g2)
    have hlk:∀ g:GrW w2,(Instr.lookup 162 (.map (some mb)) (.int .i64 0) true).run Tryz.prog g.w = .ok (.tuple #[.func (.func 157) #[.pointer (some ⟨w.heap.size,0,none⟩)] #[],.bool true]) g.w:=fun g => lookF_in (hM.grown g.gr) Tryz.underlying162 Tryz.underlying3 0 _ rfl
    go_wp2_with fail
    refine nxt_grow g2 (plan_one ?_)
    try simp only [Act.put]
    simp only [nths,nth,List.map_nil,List.getD_cons_zero,List.getD_cons_succ]
    repeat go_big_quiet_step (fail)
    refine wpQuiet_nil ?_
    have hlk2:=hlk ⟨w2,Grown.refl _⟩
    go_wp2_with fail
    refine nxt_grow (Grown.refl _) (plan_fin ?_)
    clear g2 hM
    simp only [nths,nth,List.map_cons,List.map_nil,List.getD_cons_zero,List.getD_cons_succ]
    repeat go_big_quiet_step (fail)
    refine wpQuiet_nil ?_
    clear hlk hlk2
    go_wp2_with fail
    refine (pAsk _ c d w.heap.size y H2.out n0 n1 hI.out (by have:=HP.out;omega) z HZ.out).mono ?_;rintro e w3 ⟨rfl,q3,h3⟩
    have H3:=Lib.hid h3
    have Q3:=Lib.hid q3
    have HB3:=Lib.hid (HB2.out.but q3 (by rintro (h | h);exact HD.out.ow_lt (by omega) h;omega))
    clear q3 h3
    go_wp2_with (first | (refine load_box rfl 65 _ rfl w.heap.size rfl _ _ Tryz.underlying65 rfl (by kernel_rfl) H3.out.box ?_) | (refine store_box rfl 65 _ _ rfl (w.heap.size + 1) _ HB3.out _ rfl rfl rfl (by kernel_rfl) rfl ?_;intro w9 B9 q9;have HB9:=Lib.hid B9;have Q9:=Lib.hid q9;clear B9 q9) | fail)
    exact bodyPost_ret (v:=.agg (z.x:Put).l.toArray) (results_c (ty:=65) rfl rfl (load_run HB9.out 65 _ Tryz.underlying65 rfl (by kernel_rfl))) rfl ⟨rfl,pEnd HD.out HG2.out ⟨Q3.out,H3.out⟩ HB3.out Q9.out⟩
  ·clear hb
   as_aux_lemma =>
    have HZ:Hid (wlkU c y = z):=Lib.hid (by rw [← hz];unfold stepU;simp [hd,hp])
    have hp0:=hp
    rw [hp] at e2
    clear hz hp0
    have HP:=Lib.hid hp
    have HDn:=Lib.hid hd
    clear hp hd
    go_enter Tryz.func30,Tryz.ntmps30
    go_wp2_with fail
    refine wp_region_plang (.one [1,2] 0 (.one [] 3 (.fin [4,5,6,7,8]))) (by kernel_rfl) (by kernel_rfl) (by kernel_rfl) ?_
    intro w1 g1
    have H1:=Lib.hid (HV.out.grown g1)
    have HB1:=Lib.hid (HB.out.grown g1)
    have HG1:=Lib.hid (gtr HG.out g1)
    have d2:∀ g:GrW w1,g.w.cell? ⟨w.heap.size,2,none⟩ = some (.int .i64 1):=GrW.cell (by have:=H1.out.box.cell 2 _ rfl;rw [HP.out] at this;exact this)
    refine plan_one ?_
    try simp only [Act.put]
    simp only [nths,nth,List.map_cons,List.map_nil,List.getD_cons_zero,List.getD_cons_succ]
    repeat go_big_quiet_step (fail)
    clear d2 e2 e6 g1
    refine wpQuiet_nil ?_
    go_wp2_with fail
    refine (pActs _ w.heap.size).mono ?_;rintro e w2 ⟨mb,rfl,hM,g2⟩
    have H2:=Lib.hid (H1.out.grown g2)
    have HB2:=Lib.hid (HB1.out.grown g2)
    have HG2:=Lib.hid (gtr HG1.out g2)
    have hlk:∀ g:GrW w2,(Instr.lookup 162 (.map (some mb)) (.int .i64 1) true).run Tryz.prog g.w = .ok (.tuple #[.func (.func 158) #[.pointer (some ⟨w.heap.size,0,none⟩)] #[],.bool true]) g.w:=fun g => lookF_in (hM.grown g.gr) Tryz.underlying162 Tryz.underlying3 1 _ rfl
    go_wp2_with fail
    refine nxt_grow g2 (plan_one ?_)
    try simp only [Act.put]
    simp only [nths,nth,List.map_nil,List.getD_cons_zero,List.getD_cons_succ]
    repeat go_big_quiet_step (fail)
    refine wpQuiet_nil ?_
    have hlk2:=hlk ⟨w2,Grown.refl _⟩
    go_wp2_with fail
    refine nxt_grow (Grown.refl _) (plan_fin ?_)
    clear g2 hM
    simp only [nths,nth,List.map_cons,List.map_nil,List.getD_cons_zero,List.getD_cons_succ]
    repeat go_big_quiet_step (fail)
    refine wpQuiet_nil ?_
    clear hlk hlk2
    go_wp2_with fail
    refine (pApproach _ c d w.heap.size y H2.out n0 n1 hI.out hw ok HP.out z HZ.out).mono ?_;rintro e w3 ⟨rfl,q3,h3⟩
    have H3:=Lib.hid h3
    have Q3:=Lib.hid q3
    have HB3:=Lib.hid (HB2.out.but q3 (by rintro (h | h);exact HD.out.ow_lt (by omega) h;omega))
    clear q3 h3
    go_wp2_with (first | (refine load_box rfl 65 _ rfl w.heap.size rfl _ _ Tryz.underlying65 rfl (by kernel_rfl) H3.out.box ?_) | (refine store_box rfl 65 _ _ rfl (w.heap.size + 1) _ HB3.out _ rfl rfl rfl (by kernel_rfl) rfl ?_;intro w9 B9 q9;have HB9:=Lib.hid B9;have Q9:=Lib.hid q9;clear B9 q9) | fail)
    exact bodyPost_ret (v:=.agg (z.x:Put).l.toArray) (results_c (ty:=65) rfl rfl (load_run HB9.out 65 _ Tryz.underlying65 rfl (by kernel_rfl))) rfl ⟨rfl,pEnd HD.out HG2.out ⟨Q3.out,H3.out⟩ HB3.out Q9.out⟩
  ·clear hb
   as_aux_lemma =>
    have HZ:Hid (askU c y = z):=Lib.hid (by rw [← hz];unfold stepU;simp [hd,hp])
    have hp0:=hp
    rw [hp] at e2
    clear hz hp0
    have HP:=Lib.hid hp
    have HDn:=Lib.hid hd
    clear hp hd
    go_enter Tryz.func30,Tryz.ntmps30
    go_wp2_with fail
    refine wp_region_plang (.one [1,2] 0 (.one [] 3 (.fin [4,5,6,7,8]))) (by kernel_rfl) (by kernel_rfl) (by kernel_rfl) ?_
    intro w1 g1
    have H1:=Lib.hid (HV.out.grown g1)
    have HB1:=Lib.hid (HB.out.grown g1)
    have HG1:=Lib.hid (gtr HG.out g1)
    have d2:∀ g:GrW w1,g.w.cell? ⟨w.heap.size,2,none⟩ = some (.int .i64 2):=GrW.cell (by have:=H1.out.box.cell 2 _ rfl;rw [HP.out] at this;exact this)
    refine plan_one ?_
    try simp only [Act.put]
    simp only [nths,nth,List.map_cons,List.map_nil,List.getD_cons_zero,List.getD_cons_succ]
    repeat go_big_quiet_step (fail)
    clear d2 e2 e6 g1
    refine wpQuiet_nil ?_
    go_wp2_with fail
    refine (pActs _ w.heap.size).mono ?_;rintro e w2 ⟨mb,rfl,hM,g2⟩
    have H2:=Lib.hid (H1.out.grown g2)
    have HB2:=Lib.hid (HB1.out.grown g2)
    have HG2:=Lib.hid (gtr HG1.out g2)
    have hlk:∀ g:GrW w2,(Instr.lookup 162 (.map (some mb)) (.int .i64 2) true).run Tryz.prog g.w = .ok (.tuple #[.func (.func 157) #[.pointer (some ⟨w.heap.size,0,none⟩)] #[],.bool true]) g.w:=fun g => lookF_in (hM.grown g.gr) Tryz.underlying162 Tryz.underlying3 2 _ rfl
    go_wp2_with fail
    refine nxt_grow g2 (plan_one ?_)
    try simp only [Act.put]
    simp only [nths,nth,List.map_nil,List.getD_cons_zero,List.getD_cons_succ]
    repeat go_big_quiet_step (fail)
    refine wpQuiet_nil ?_
    have hlk2:=hlk ⟨w2,Grown.refl _⟩
    go_wp2_with fail
    refine nxt_grow (Grown.refl _) (plan_fin ?_)
    clear g2 hM
    simp only [nths,nth,List.map_cons,List.map_nil,List.getD_cons_zero,List.getD_cons_succ]
    repeat go_big_quiet_step (fail)
    refine wpQuiet_nil ?_
    clear hlk hlk2
    go_wp2_with fail
    refine (pAsk _ c d w.heap.size y H2.out n0 n1 hI.out (by have:=HP.out;omega) z HZ.out).mono ?_;rintro e w3 ⟨rfl,q3,h3⟩
    have H3:=Lib.hid h3
    have Q3:=Lib.hid q3
    have HB3:=Lib.hid (HB2.out.but q3 (by rintro (h | h);exact HD.out.ow_lt (by omega) h;omega))
    clear q3 h3
    go_wp2_with (first | (refine load_box rfl 65 _ rfl w.heap.size rfl _ _ Tryz.underlying65 rfl (by kernel_rfl) H3.out.box ?_) | (refine store_box rfl 65 _ _ rfl (w.heap.size + 1) _ HB3.out _ rfl rfl rfl (by kernel_rfl) rfl ?_;intro w9 B9 q9;have HB9:=Lib.hid B9;have Q9:=Lib.hid q9;clear B9 q9) | fail)
    exact bodyPost_ret (v:=.agg (z.x:Put).l.toArray) (results_c (ty:=65) rfl rfl (load_run HB9.out 65 _ Tryz.underlying65 rfl (by kernel_rfl))) rfl ⟨rfl,pEnd HD.out HG2.out ⟨Q3.out,H3.out⟩ HB3.out Q9.out⟩
  ·clear hb
   as_aux_lemma =>
    have HZ:Hid (layU c y = z):=Lib.hid (by rw [← hz];unfold stepU;simp [hd,hp])
    have hp0:=hp
    rw [hp] at e2
    clear hz hp0
    have HP:=Lib.hid hp
    have HDn:=Lib.hid hd
    clear hp hd
    go_enter Tryz.func30,Tryz.ntmps30
    go_wp2_with fail
    refine wp_region_plang (.one [1,2] 0 (.one [] 3 (.fin [4,5,6,7,8]))) (by kernel_rfl) (by kernel_rfl) (by kernel_rfl) ?_
    intro w1 g1
    have H1:=Lib.hid (HV.out.grown g1)
    have HB1:=Lib.hid (HB.out.grown g1)
    have HG1:=Lib.hid (gtr HG.out g1)
    have d2:∀ g:GrW w1,g.w.cell? ⟨w.heap.size,2,none⟩ = some (.int .i64 3):=GrW.cell (by have:=H1.out.box.cell 2 _ rfl;rw [HP.out] at this;exact this)
    refine plan_one ?_
    try simp only [Act.put]
    simp only [nths,nth,List.map_cons,List.map_nil,List.getD_cons_zero,List.getD_cons_succ]
    repeat go_big_quiet_step (fail)
    clear d2 e2 e6 g1
    refine wpQuiet_nil ?_
    go_wp2_with fail
    refine (pActs _ w.heap.size).mono ?_;rintro e w2 ⟨mb,rfl,hM,g2⟩
    have H2:=Lib.hid (H1.out.grown g2)
    have HB2:=Lib.hid (HB1.out.grown g2)
    have HG2:=Lib.hid (gtr HG1.out g2)
    have hlk:∀ g:GrW w2,(Instr.lookup 162 (.map (some mb)) (.int .i64 3) true).run Tryz.prog g.w = .ok (.tuple #[.func (.func 159) #[.pointer (some ⟨w.heap.size,0,none⟩)] #[],.bool true]) g.w:=fun g => lookF_in (hM.grown g.gr) Tryz.underlying162 Tryz.underlying3 3 _ rfl
    go_wp2_with fail
    refine nxt_grow g2 (plan_one ?_)
    try simp only [Act.put]
    simp only [nths,nth,List.map_nil,List.getD_cons_zero,List.getD_cons_succ]
    repeat go_big_quiet_step (fail)
    refine wpQuiet_nil ?_
    have hlk2:=hlk ⟨w2,Grown.refl _⟩
    go_wp2_with fail
    refine nxt_grow (Grown.refl _) (plan_fin ?_)
    clear g2 hM
    simp only [nths,nth,List.map_cons,List.map_nil,List.getD_cons_zero,List.getD_cons_succ]
    repeat go_big_quiet_step (fail)
    refine wpQuiet_nil ?_
    clear hlk hlk2
    go_wp2_with fail
    refine (pLay _ c d w.heap.size y H2.out n0 n1 hI.out ok.u0 ok.u1 z HZ.out).mono ?_;rintro e w3 ⟨rfl,q3,h3⟩
    have H3:=Lib.hid h3
    have Q3:=Lib.hid q3
    have HB3:=Lib.hid (HB2.out.but q3 (by rintro (h | h);exact HD.out.ow_lt (by omega) h;omega))
    clear q3 h3
    go_wp2_with (first | (refine load_box rfl 65 _ rfl w.heap.size rfl _ _ Tryz.underlying65 rfl (by kernel_rfl) H3.out.box ?_) | (refine store_box rfl 65 _ _ rfl (w.heap.size + 1) _ HB3.out _ rfl rfl rfl (by kernel_rfl) rfl ?_;intro w9 B9 q9;have HB9:=Lib.hid B9;have Q9:=Lib.hid q9;clear B9 q9) | fail)
    exact bodyPost_ret (v:=.agg (z.x:Put).l.toArray) (results_c (ty:=65) rfl rfl (load_run HB9.out 65 _ Tryz.underlying65 rfl (by kernel_rfl))) rfl ⟨rfl,pEnd HD.out HG2.out ⟨Q3.out,H3.out⟩ HB3.out Q9.out⟩
  ·clear hb
   as_aux_lemma =>
    have HZ:Hid (lnkU c y = z):=Lib.hid (by rw [← hz];unfold stepU;simp [hd,hp])
    have hp0:=hp
    rw [hp] at e2
    clear hz hp0
    have HP:=Lib.hid hp
    have HDn:=Lib.hid hd
    clear hp hd
    go_enter Tryz.func30,Tryz.ntmps30
    go_wp2_with fail
    refine wp_region_plang (.one [1,2] 0 (.one [] 3 (.fin [4,5,6,7,8]))) (by kernel_rfl) (by kernel_rfl) (by kernel_rfl) ?_
    intro w1 g1
    have H1:=Lib.hid (HV.out.grown g1)
    have HB1:=Lib.hid (HB.out.grown g1)
    have HG1:=Lib.hid (gtr HG.out g1)
    have d2:∀ g:GrW w1,g.w.cell? ⟨w.heap.size,2,none⟩ = some (.int .i64 4):=GrW.cell (by have:=H1.out.box.cell 2 _ rfl;rw [HP.out] at this;exact this)
    refine plan_one ?_
    try simp only [Act.put]
    simp only [nths,nth,List.map_cons,List.map_nil,List.getD_cons_zero,List.getD_cons_succ]
    repeat go_big_quiet_step (fail)
    clear d2 e2 e6 g1
    refine wpQuiet_nil ?_
    go_wp2_with fail
    refine (pActs _ w.heap.size).mono ?_;rintro e w2 ⟨mb,rfl,hM,g2⟩
    have H2:=Lib.hid (H1.out.grown g2)
    have HB2:=Lib.hid (HB1.out.grown g2)
    have HG2:=Lib.hid (gtr HG1.out g2)
    have hlk:∀ g:GrW w2,(Instr.lookup 162 (.map (some mb)) (.int .i64 4) true).run Tryz.prog g.w = .ok (.tuple #[.func (.func 160) #[.pointer (some ⟨w.heap.size,0,none⟩)] #[],.bool true]) g.w:=fun g => lookF_in (hM.grown g.gr) Tryz.underlying162 Tryz.underlying3 4 _ rfl
    go_wp2_with fail
    refine nxt_grow g2 (plan_one ?_)
    try simp only [Act.put]
    simp only [nths,nth,List.map_nil,List.getD_cons_zero,List.getD_cons_succ]
    repeat go_big_quiet_step (fail)
    refine wpQuiet_nil ?_
    have hlk2:=hlk ⟨w2,Grown.refl _⟩
    go_wp2_with fail
    refine nxt_grow (Grown.refl _) (plan_fin ?_)
    clear g2 hM
    simp only [nths,nth,List.map_cons,List.map_nil,List.getD_cons_zero,List.getD_cons_succ]
    repeat go_big_quiet_step (fail)
    refine wpQuiet_nil ?_
    clear hlk hlk2
    go_wp2_with fail
    refine (pLink _ c d w.heap.size y H2.out n0 n1 u0 u1 ok.u0 ok.u1 z HZ.out).mono ?_;rintro e w3 ⟨rfl,q3,h3⟩
    have H3:=Lib.hid h3
    have Q3:=Lib.hid q3
    have HB3:=Lib.hid (HB2.out.but q3 (by rintro (h | h);exact HD.out.ow_lt (by omega) h;omega))
    clear q3 h3
    go_wp2_with (first | (refine load_box rfl 65 _ rfl w.heap.size rfl _ _ Tryz.underlying65 rfl (by kernel_rfl) H3.out.box ?_) | (refine store_box rfl 65 _ _ rfl (w.heap.size + 1) _ HB3.out _ rfl rfl rfl (by kernel_rfl) rfl ?_;intro w9 B9 q9;have HB9:=Lib.hid B9;have Q9:=Lib.hid q9;clear B9 q9) | fail)
    exact bodyPost_ret (v:=.agg (z.x:Put).l.toArray) (results_c (ty:=65) rfl rfl (load_run HB9.out 65 _ Tryz.underlying65 rfl (by kernel_rfl))) rfl ⟨rfl,pEnd HD.out HG2.out ⟨Q3.out,H3.out⟩ HB3.out Q9.out⟩
  ·clear hb
   as_aux_lemma =>
    have HZ:Hid (wlkU c y = z):=Lib.hid (by rw [← hz];unfold stepU;simp [hd,hp])
    have hp0:=hp
    rw [hp] at e2
    clear hz hp0
    have HP:=Lib.hid hp
    have HDn:=Lib.hid hd
    clear hp hd
    go_enter Tryz.func30,Tryz.ntmps30
    go_wp2_with fail
    refine wp_region_plang (.one [1,2] 0 (.one [] 3 (.fin [4,5,6,7,8]))) (by kernel_rfl) (by kernel_rfl) (by kernel_rfl) ?_
    intro w1 g1
    have H1:=Lib.hid (HV.out.grown g1)
    have HB1:=Lib.hid (HB.out.grown g1)
    have HG1:=Lib.hid (gtr HG.out g1)
    have d2:∀ g:GrW w1,g.w.cell? ⟨w.heap.size,2,none⟩ = some (.int .i64 5):=GrW.cell (by have:=H1.out.box.cell 2 _ rfl;rw [HP.out] at this;exact this)
    refine plan_one ?_
    try simp only [Act.put]
    simp only [nths,nth,List.map_cons,List.map_nil,List.getD_cons_zero,List.getD_cons_succ]
    repeat go_big_quiet_step (fail)
    clear d2 e2 e6 g1
    refine wpQuiet_nil ?_
    go_wp2_with fail
    refine (pActs _ w.heap.size).mono ?_;rintro e w2 ⟨mb,rfl,hM,g2⟩
    have H2:=Lib.hid (H1.out.grown g2)
    have HB2:=Lib.hid (HB1.out.grown g2)
    have HG2:=Lib.hid (gtr HG1.out g2)
    have hlk:∀ g:GrW w2,(Instr.lookup 162 (.map (some mb)) (.int .i64 5) true).run Tryz.prog g.w = .ok (.tuple #[.func (.func 161) #[.pointer (some ⟨w.heap.size,0,none⟩)] #[],.bool true]) g.w:=fun g => lookF_in (hM.grown g.gr) Tryz.underlying162 Tryz.underlying3 5 _ rfl
    go_wp2_with fail
    refine nxt_grow g2 (plan_one ?_)
    try simp only [Act.put]
    simp only [nths,nth,List.map_nil,List.getD_cons_zero,List.getD_cons_succ]
    repeat go_big_quiet_step (fail)
    refine wpQuiet_nil ?_
    have hlk2:=hlk ⟨w2,Grown.refl _⟩
    go_wp2_with fail
    refine nxt_grow (Grown.refl _) (plan_fin ?_)
    clear g2 hM
    simp only [nths,nth,List.map_cons,List.map_nil,List.getD_cons_zero,List.getD_cons_succ]
    repeat go_big_quiet_step (fail)
    refine wpQuiet_nil ?_
    clear hlk hlk2
    go_wp2_with fail
    refine (pClean _ c d w.heap.size y H2.out n0 n1 hI.out hw ok HP.out HDn.out z HZ.out).mono ?_;rintro e w3 ⟨rfl,q3,h3⟩
    have H3:=Lib.hid h3
    have Q3:=Lib.hid q3
    have HB3:=Lib.hid (HB2.out.but q3 (by rintro (h | h);exact HD.out.ow_lt (by omega) h;omega))
    clear q3 h3
    go_wp2_with (first | (refine load_box rfl 65 _ rfl w.heap.size rfl _ _ Tryz.underlying65 rfl (by kernel_rfl) H3.out.box ?_) | (refine store_box rfl 65 _ _ rfl (w.heap.size + 1) _ HB3.out _ rfl rfl rfl (by kernel_rfl) rfl ?_;intro w9 B9 q9;have HB9:=Lib.hid B9;have Q9:=Lib.hid q9;clear B9 q9) | fail)
    exact bodyPost_ret (v:=.agg (z.x:Put).l.toArray) (results_c (ty:=65) rfl rfl (load_run HB9.out 65 _ Tryz.underlying65 rfl (by kernel_rfl))) rfl ⟨rfl,pEnd HD.out HG2.out ⟨Q3.out,H3.out⟩ HB3.out Q9.out⟩
 ·have HZ:Hid (y = z):=Lib.hid (by rw [← hz];unfold stepU;rw [if_pos hd])
  clear hz hd
  go_enter Tryz.func30,Tryz.ntmps30
  go_wp2_with (first | (refine load_box rfl 65 _ rfl w.heap.size rfl _ _ Tryz.underlying65 rfl (by kernel_rfl) HV.out.box ?_) | (refine store_box rfl 65 _ _ rfl (w.heap.size + 1) _ HB.out _ rfl rfl rfl (by kernel_rfl) rfl ?_;intro w9 B9 q9;have HB9:=Lib.hid B9;have Q9:=Lib.hid q9;clear B9 q9) | fail)
  have HE:LeftP c d w.heap.size y _ _:=⟨But.refl _ _,HV.out⟩
  exact bodyPost_ret (v:=.agg (y.x:Put).l.toArray) (results_c (ty:=65) rfl rfl (load_run HB9.out 65 _ Tryz.underlying65 rfl (by kernel_rfl))) rfl ⟨by rw [← HZ.out],by rw [← HZ.out];exact pEnd HD.out HG.out HE HB.out Q9.out⟩
end Go.Proofs.YtcogckjpmmjmbaaGreat
