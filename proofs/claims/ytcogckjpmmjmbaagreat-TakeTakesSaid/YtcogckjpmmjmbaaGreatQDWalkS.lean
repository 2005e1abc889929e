/- Package walk: New and Step. -/
import Derived.Test.YtcogckjpmmjmbaaGreatQDWalkJ
namespace Go.Proofs.YtcogckjpmmjmbaaGreat
open Go.ChangeShapes Go.WideShapes Go.ChangeAt Go.RowKit
set_option maxRecDepth 100000
set_option linter.unusedVariables false
theorem kActions (w:World):Calls Tryz.prog 168 #[] w fun e w' => e = .returned (.agg #[.func (.func 222) #[] #[],.func (.func 223) #[] #[],.func (.func 224) #[] #[],.func (.func 225) #[] #[],.func (.func 226) #[] #[],.func (.func 227) #[] #[],.func (.func 228) #[] #[],.func (.func 229) #[] #[]]) ∧ Grown w w':=by
 go_enter Tryz.func168,Tryz.ntmps168
 go_wp2_with fail
 exact bodyPost_ret (v:=.agg #[.func (.func 222) #[] #[],.func (.func 223) #[] #[],.func (.func 224) #[] #[],.func (.func 225) #[] #[],.func (.func 226) #[] #[],.func (.func 227) #[] #[],.func (.func 228) #[] #[],.func (.func 229) #[] #[]]) (by simp [results,Tryz.results168,go_sem]) rfl ⟨rfl,by go_grown⟩
theorem kIdx0 (w:World):(Instr.index 238 (.agg #[.func (.func 222) #[] #[],.func (.func 223) #[] #[],.func (.func 224) #[] #[],.func (.func 225) #[] #[],.func (.func 226) #[] #[],.func (.func 227) #[] #[],.func (.func 228) #[] #[],.func (.func 229) #[] #[]]) (.int .i64 0)).run Tryz.prog w = .ok (.func (.func 222) #[] #[]) w:=by kernel_rfl
theorem kIdx1 (w:World):(Instr.index 238 (.agg #[.func (.func 222) #[] #[],.func (.func 223) #[] #[],.func (.func 224) #[] #[],.func (.func 225) #[] #[],.func (.func 226) #[] #[],.func (.func 227) #[] #[],.func (.func 228) #[] #[],.func (.func 229) #[] #[]]) (.int .i64 1)).run Tryz.prog w = .ok (.func (.func 223) #[] #[]) w:=by kernel_rfl
theorem kIdx2 (w:World):(Instr.index 238 (.agg #[.func (.func 222) #[] #[],.func (.func 223) #[] #[],.func (.func 224) #[] #[],.func (.func 225) #[] #[],.func (.func 226) #[] #[],.func (.func 227) #[] #[],.func (.func 228) #[] #[],.func (.func 229) #[] #[]]) (.int .i64 2)).run Tryz.prog w = .ok (.func (.func 224) #[] #[]) w:=by kernel_rfl
theorem kIdx3 (w:World):(Instr.index 238 (.agg #[.func (.func 222) #[] #[],.func (.func 223) #[] #[],.func (.func 224) #[] #[],.func (.func 225) #[] #[],.func (.func 226) #[] #[],.func (.func 227) #[] #[],.func (.func 228) #[] #[],.func (.func 229) #[] #[]]) (.int .i64 3)).run Tryz.prog w = .ok (.func (.func 225) #[] #[]) w:=by kernel_rfl
theorem kIdx4 (w:World):(Instr.index 238 (.agg #[.func (.func 222) #[] #[],.func (.func 223) #[] #[],.func (.func 224) #[] #[],.func (.func 225) #[] #[],.func (.func 226) #[] #[],.func (.func 227) #[] #[],.func (.func 228) #[] #[],.func (.func 229) #[] #[]]) (.int .i64 4)).run Tryz.prog w = .ok (.func (.func 226) #[] #[]) w:=by kernel_rfl
theorem kIdx5 (w:World):(Instr.index 238 (.agg #[.func (.func 222) #[] #[],.func (.func 223) #[] #[],.func (.func 224) #[] #[],.func (.func 225) #[] #[],.func (.func 226) #[] #[],.func (.func 227) #[] #[],.func (.func 228) #[] #[],.func (.func 229) #[] #[]]) (.int .i64 5)).run Tryz.prog w = .ok (.func (.func 227) #[] #[]) w:=by kernel_rfl
theorem kIdx6 (w:World):(Instr.index 238 (.agg #[.func (.func 222) #[] #[],.func (.func 223) #[] #[],.func (.func 224) #[] #[],.func (.func 225) #[] #[],.func (.func 226) #[] #[],.func (.func 227) #[] #[],.func (.func 228) #[] #[],.func (.func 229) #[] #[]]) (.int .i64 6)).run Tryz.prog w = .ok (.func (.func 228) #[] #[]) w:=by kernel_rfl
theorem kIdx7 (w:World):(Instr.index 238 (.agg #[.func (.func 222) #[] #[],.func (.func 223) #[] #[],.func (.func 224) #[] #[],.func (.func 225) #[] #[],.func (.func 226) #[] #[],.func (.func 227) #[] #[],.func (.func 228) #[] #[],.func (.func 229) #[] #[]]) (.int .i64 7)).run Tryz.prog w = .ok (.func (.func 229) #[] #[]) w:=by kernel_rfl
def newK (key mode:Int):Wk:=⟨key,mode,0,0,0,0,-1,-1,false,false⟩
theorem kNew (w:World) (key mode:Int):Calls Tryz.prog 231 #[.int .u64 key,.int .i64 mode] w fun e w' => e = .returned (.agg (newK key mode).l.toArray) ∧ Grown w w':=by
 go_enter Tryz.func231,Tryz.ntmps231
 go_wp2_with fail
 have g:Grown w (w.alloc (.cells (newK key mode).l.toArray 63)):=by go_grown
 exact bodyPost_ret (v:=.agg (newK key mode).l.toArray) (results_c (ty:=63) rfl rfl (load_run (Box.made w (newK key mode).l 63) 63 _ Tryz.underlying63 rfl (by kernel_rfl))) rfl ⟨rfl,g⟩
structure Wk.Ok (x:Wk):Prop where
 u0:-9223372036854775808 ≤ x.curr
 u1:x.curr ≤ 9223372036854775807
 b0:0 ≤ x.next
 b1:x.next ≤ 18446744073709551615
def zWk:Wk:=⟨0,0,0,0,0,0,0,0,false,false⟩
theorem kVars (w:World) (c:Cf) (d:Wd) (s:St) (y:Kd) (h:WdAt w c d y.ws y.n s) :
  WkAt ((w.alloc (.cells y.x.l.toArray 63)).alloc (.cells zWk.l.toArray 63)) c d s w.heap.size y ∧ Box ((w.alloc (.cells y.x.l.toArray 63)).alloc (.cells zWk.l.toArray 63)) (w.heap.size + 1) zWk.l
   ∧ Grown w ((w.alloc (.cells y.x.l.toArray 63)).alloc (.cells zWk.l.toArray 63)):=by
 have g1:Grown w (w.alloc (.cells y.x.l.toArray 63)):=by go_grown
 have g2:Grown (w.alloc (.cells y.x.l.toArray 63)) ((w.alloc (.cells y.x.l.toArray 63)).alloc (.cells zWk.l.toArray 63)):=by go_grown
 have hB:=Box.made (w.alloc (.cells y.x.l.toArray 63)) zWk.l 63
 rw [show (w.alloc (.cells y.x.l.toArray 63)).heap.size = w.heap.size + 1 by simp] at hB
 exact ⟨⟨h.grown (gtr g1 g2),(Box.made w y.x.l _).grown g2,h.new (Nat.le_refl _),fun e => by have:=h.xlt;omega⟩,hB,gtr g1 g2⟩
theorem kEnd {w w1 w2 w3:World} {c:Cf} {d:Wd} {s:St} {z:Kd} {zs:List Int} {zn:Int} {s0:St} (h:WdAt w c d zs zn s0) (g:Grown w w1) (h2:LeftK c d s w.heap.size z w1 w2) (hB:Box w2 (w.heap.size + 1) zWk.l) (q3:But (fun i => i = w.heap.size + 1) w2 w3):LeftW c d z.ws z.n s w w3:=by
 have q:But (fun i => (Mine d.p d.b i ∨ i = w.heap.size) ∨ i = w.heap.size + 1) w w3:=(((But.of_grown g).trans h2.1).mono fun _ h => .inl h).trans (q3.mono fun _ h => .inr h)
 exact ⟨(q.only (by omega)).only (Nat.le_refl _),h2.2.wd.writes q3 (hB.cell 0 _ rfl) (h.new (by omega)) (fun e => by have:=h.xlt;omega)⟩
set_option maxHeartbeats 16000000 in
theorem kStep (w:World) (c:Cf) (d:Wd) (s:St) (y:Kd) (h:WdAt w c d y.ws y.n s) (hI:Inv c s) (n0:0 ≤ y.n) (n1:y.n < 4611686018427387904) (hw:∀ i:Int,0 ≤ rd y.ws i ∧ rd y.ws i ≤ 18446744073709551615) (ok:y.x.Ok) (z:Kd) (hz:stepK c s y = z) :
  Calls Tryz.prog 97 #[.pointer (some ⟨d.x,0,none⟩),.agg y.x.l.toArray] w fun e w' => e = .returned (.agg z.x.l.toArray) ∧ LeftW c d z.ws z.n s w w':=by
 have HD:=Lib.hid h
 have HI:=Lib.hid hI
 obtain ⟨h1,h2,h3⟩:=kVars w c d s y h
 have HV:=Lib.hid h1
 have HB:=Lib.hid h2
 have HG:=Lib.hid h3
 have e9:=h1.box.cell 9 _ rfl
 have e2:=h1.box.cell 2 _ rfl
 clear h h1 h2 h3 hI
 obtain ⟨L,hL⟩:∃ L,y.x.l = L:=⟨_,rfl⟩
 rw [hL] at HV HB HG e9 e2 ⊢
 have HL:=Lib.hid hL
 clear hL
 simp only [zWk,Wk.l] at e9 e2
 obtain ⟨b,hd⟩:∃ b,y.x.done = b:=⟨_,rfl⟩
 rw [hd] at e9
 cases b
 ·obtain ⟨p,hp⟩:∃ p,y.x.phase = p:=⟨_,rfl⟩
  rw [hp] at e2
  by_cases hlo:p < 0
  ·have HZ:Hid ((⟨y.ws,y.n,{ y.x with done:=true }⟩:Kd) = z):=Lib.hid (by rw [← hz];unfold stepK;rw [hd,hp];simp only [Bool.false_eq_true,if_false];repeat rw [if_neg (by omega)])
   have dlo:decide (p < 0) = true:=decide_eq_true hlo
   clear hz ok hw n0 n1 hd hp
   go_enter Tryz.func97,Tryz.ntmps97
   go_wp2_with (first | (refine store_cell rfl 4 _ _ rfl w.heap.size 9 rfl (.bool true) rfl rfl _ ({ y.x with done:=true }:Wk).l HV.out.box (Nat.le_of_ble_eq_true rfl) (by kernel_rfl) rfl ?_;intro w7 B7 q7;have H7:=Lib.hid (HV.out.put (x:={ y.x with done:=true }) B7 q7);have HB7:=Lib.hid (HB.out.but q7 (by omega));have Q7:Hid (But (Sk d w.heap.size) _ w7):=Lib.hid (but_r q7);clear B7 q7) | (refine load_box rfl 63 _ rfl w.heap.size rfl _ _ Tryz.underlying63 rfl (by kernel_rfl) H7.out.box ?_) | (refine store_box rfl 63 _ _ rfl (w.heap.size + 1) _ HB7.out _ rfl rfl rfl (by kernel_rfl) rfl ?_;intro w9 B9 q9;have HB9:=Lib.hid B9;have Q9:=Lib.hid q9;clear B9 q9) | fail)
   exact bodyPost_ret (v:=.agg ({ y.x with done:=true }:Wk).l.toArray) (results_c (ty:=63) rfl rfl (load_run HB9.out 63 _ Tryz.underlying63 rfl (by kernel_rfl))) rfl ⟨by rw [← HZ.out],by rw [← HZ.out];exact kEnd HD.out HG.out ⟨Q7.out,H7.out⟩ HB7.out Q9.out⟩
  have dlo:decide (p < 0) = false:=decide_eq_false hlo
  by_cases hhi:8 ≤ p
  ·have HZ:Hid ((⟨y.ws,y.n,{ y.x with done:=true }⟩:Kd) = z):=Lib.hid (by rw [← hz];unfold stepK;rw [hd,hp];simp only [Bool.false_eq_true,if_false];repeat rw [if_neg (by omega)])
   have dhi:decide (8 ≤ p) = true:=decide_eq_true hhi
   clear hz ok hw n0 n1 hd hp
   go_enter Tryz.func97,Tryz.ntmps97
   go_wp2_with (first | (refine store_cell rfl 4 _ _ rfl w.heap.size 9 rfl (.bool true) rfl rfl _ ({ y.x with done:=true }:Wk).l HV.out.box (Nat.le_of_ble_eq_true rfl) (by kernel_rfl) rfl ?_;intro w7 B7 q7;have H7:=Lib.hid (HV.out.put (x:={ y.x with done:=true }) B7 q7);have HB7:=Lib.hid (HB.out.but q7 (by omega));have Q7:Hid (But (Sk d w.heap.size) _ w7):=Lib.hid (but_r q7);clear B7 q7) | (refine load_box rfl 63 _ rfl w.heap.size rfl _ _ Tryz.underlying63 rfl (by kernel_rfl) H7.out.box ?_) | (refine store_box rfl 63 _ _ rfl (w.heap.size + 1) _ HB7.out _ rfl rfl rfl (by kernel_rfl) rfl ?_;intro w9 B9 q9;have HB9:=Lib.hid B9;have Q9:=Lib.hid q9;clear B9 q9) | fail)
   exact bodyPost_ret (v:=.agg ({ y.x with done:=true }:Wk).l.toArray) (results_c (ty:=63) rfl rfl (load_run HB9.out 63 _ Tryz.underlying63 rfl (by kernel_rfl))) rfl ⟨by rw [← HZ.out],by rw [← HZ.out];exact kEnd HD.out HG.out ⟨Q7.out,H7.out⟩ HB7.out Q9.out⟩
  have hc:p = 0 ∨ p = 1 ∨ p = 2 ∨ p = 3 ∨ p = 4 ∨ p = 5 ∨ p = 6 ∨ p = 7:=by omega
  clear dlo hlo hhi
  have u0:=ok.u0;have u1:=ok.u1;have b0:=ok.b0;have b1:=ok.b1
  rcases hc with hc | hc | hc | hc | hc | hc | hc | hc
  ·subst hc
   have HZ:Hid (begK c s y = z):=Lib.hid (by rw [← hz];unfold stepK;rw [hd,hp];simp)
   have hix:=kIdx0
   have d2:∀ g:GrW ((w.alloc (.cells L.toArray 63)).alloc (.cells #[.int .u64 0,.int .i64 0,.int .i64 0,.int .i64 0,.int .i64 0,.int .u64 0,.int .i64 0,.int .i64 0,.bool false,.bool false] 63)),g.w.cell? ⟨w.heap.size,2,none⟩ = some (.int .i64 0):=GrW.cell e2
   clear hz hd hp ok
   go_enter Tryz.func97,Tryz.ntmps97
   go_wp2_with fail
   refine wp_region_grow (by kernel_rfl) (by kernel_rfl) ?_
   repeat (go_big_quiet_step ((go_at_call 168;exact grcall (kActions _))))
   refine wpQuiet_nil ?_
   rintro w1 ⟨⟨_,g1⟩,rfl⟩
   have H1:=Lib.hid (HV.out.grown g1)
   have HB1:=Lib.hid (HB.out.grown g1)
   have HG1:=Lib.hid (gtr HG.out g1)
   clear g1 d2 e2 e9 hix
   go_wp2_with fail
   refine (kBegin _ c d s _ y H1.out HI.out n0 n1 hw z HZ.out).mono ?_;rintro e w2 ⟨rfl,q2,h2⟩
   have H2:=Lib.hid h2
   have Q2:=Lib.hid q2
   have HB2:=Lib.hid (HB1.out.but q2 (by rintro (h | h);exact HD.out.new (by omega) h;omega))
   clear q2 h2
   go_wp2_with (first | (refine load_box rfl 63 _ rfl w.heap.size rfl _ _ Tryz.underlying63 rfl (by kernel_rfl) H2.out.box ?_) | (refine store_box rfl 63 _ _ rfl (w.heap.size + 1) _ HB2.out _ rfl rfl rfl (by kernel_rfl) rfl ?_;intro w9 B9 q9;have HB9:=Lib.hid B9;have Q9:=Lib.hid q9;clear B9 q9) | fail)
   exact bodyPost_ret (v:=.agg (z.x:Wk).l.toArray) (results_c (ty:=63) rfl rfl (load_run HB9.out 63 _ Tryz.underlying63 rfl (by kernel_rfl))) rfl ⟨rfl,kEnd HD.out HG1.out ⟨Q2.out,H2.out⟩ HB2.out Q9.out⟩
  ·subst hc
   have HZ:Hid (peeK c y = z):=Lib.hid (by rw [← hz];unfold stepK;rw [hd,hp];simp)
   have hix:=kIdx1
   have d2:∀ g:GrW ((w.alloc (.cells L.toArray 63)).alloc (.cells #[.int .u64 0,.int .i64 0,.int .i64 0,.int .i64 0,.int .i64 0,.int .u64 0,.int .i64 0,.int .i64 0,.bool false,.bool false] 63)),g.w.cell? ⟨w.heap.size,2,none⟩ = some (.int .i64 1):=GrW.cell e2
   clear hz hd hp ok
   go_enter Tryz.func97,Tryz.ntmps97
   go_wp2_with fail
   refine wp_region_grow (by kernel_rfl) (by kernel_rfl) ?_
   repeat (go_big_quiet_step ((go_at_call 168;exact grcall (kActions _))))
   refine wpQuiet_nil ?_
   rintro w1 ⟨⟨_,g1⟩,rfl⟩
   have H1:=Lib.hid (HV.out.grown g1)
   have HB1:=Lib.hid (HB.out.grown g1)
   have HG1:=Lib.hid (gtr HG.out g1)
   clear g1 d2 e2 e9 hix
   go_wp2_with fail
   refine (kPeek _ c d s _ y H1.out HI.out n0 n1 hw z HZ.out).mono ?_;rintro e w2 ⟨rfl,q2,h2⟩
   have H2:=Lib.hid h2
   have Q2:=Lib.hid q2
   have HB2:=Lib.hid (HB1.out.but q2 (by rintro (h | h);exact HD.out.new (by omega) h;omega))
   clear q2 h2
   go_wp2_with (first | (refine load_box rfl 63 _ rfl w.heap.size rfl _ _ Tryz.underlying63 rfl (by kernel_rfl) H2.out.box ?_) | (refine store_box rfl 63 _ _ rfl (w.heap.size + 1) _ HB2.out _ rfl rfl rfl (by kernel_rfl) rfl ?_;intro w9 B9 q9;have HB9:=Lib.hid B9;have Q9:=Lib.hid q9;clear B9 q9) | fail)
   exact bodyPost_ret (v:=.agg (z.x:Wk).l.toArray) (results_c (ty:=63) rfl rfl (load_run HB9.out 63 _ Tryz.underlying63 rfl (by kernel_rfl))) rfl ⟨rfl,kEnd HD.out HG1.out ⟨Q2.out,H2.out⟩ HB2.out Q9.out⟩
  ·subst hc
   have HZ:Hid (unlK c s y = z):=Lib.hid (by rw [← hz];unfold stepK;rw [hd,hp];simp)
   have hix:=kIdx2
   have d2:∀ g:GrW ((w.alloc (.cells L.toArray 63)).alloc (.cells #[.int .u64 0,.int .i64 0,.int .i64 0,.int .i64 0,.int .i64 0,.int .u64 0,.int .i64 0,.int .i64 0,.bool false,.bool false] 63)),g.w.cell? ⟨w.heap.size,2,none⟩ = some (.int .i64 2):=GrW.cell e2
   clear hz hd hp ok
   go_enter Tryz.func97,Tryz.ntmps97
   go_wp2_with fail
   refine wp_region_grow (by kernel_rfl) (by kernel_rfl) ?_
   repeat (go_big_quiet_step ((go_at_call 168;exact grcall (kActions _))))
   refine wpQuiet_nil ?_
   rintro w1 ⟨⟨_,g1⟩,rfl⟩
   have H1:=Lib.hid (HV.out.grown g1)
   have HB1:=Lib.hid (HB.out.grown g1)
   have HG1:=Lib.hid (gtr HG.out g1)
   clear g1 d2 e2 e9 hix
   go_wp2_with fail
   refine (kUnlink _ c d s _ y H1.out HI.out n0 n1 b0 b1 u0 u1 z HZ.out).mono ?_;rintro e w2 ⟨rfl,q2,h2⟩
   have H2:=Lib.hid h2
   have Q2:=Lib.hid q2
   have HB2:=Lib.hid (HB1.out.but q2 (by rintro (h | h);exact HD.out.new (by omega) h;omega))
   clear q2 h2
   go_wp2_with (first | (refine load_box rfl 63 _ rfl w.heap.size rfl _ _ Tryz.underlying63 rfl (by kernel_rfl) H2.out.box ?_) | (refine store_box rfl 63 _ _ rfl (w.heap.size + 1) _ HB2.out _ rfl rfl rfl (by kernel_rfl) rfl ?_;intro w9 B9 q9;have HB9:=Lib.hid B9;have Q9:=Lib.hid q9;clear B9 q9) | fail)
   exact bodyPost_ret (v:=.agg (z.x:Wk).l.toArray) (results_c (ty:=63) rfl rfl (load_run HB9.out 63 _ Tryz.underlying63 rfl (by kernel_rfl))) rfl ⟨rfl,kEnd HD.out HG1.out ⟨Q2.out,H2.out⟩ HB2.out Q9.out⟩
  ·subst hc
   have HZ:Hid (jdgK c s y = z):=Lib.hid (by rw [← hz];unfold stepK;rw [hd,hp];simp)
   have hix:=kIdx3
   have d2:∀ g:GrW ((w.alloc (.cells L.toArray 63)).alloc (.cells #[.int .u64 0,.int .i64 0,.int .i64 0,.int .i64 0,.int .i64 0,.int .u64 0,.int .i64 0,.int .i64 0,.bool false,.bool false] 63)),g.w.cell? ⟨w.heap.size,2,none⟩ = some (.int .i64 3):=GrW.cell e2
   clear hz hd hp ok
   go_enter Tryz.func97,Tryz.ntmps97
   go_wp2_with fail
   refine wp_region_grow (by kernel_rfl) (by kernel_rfl) ?_
   repeat (go_big_quiet_step ((go_at_call 168;exact grcall (kActions _))))
   refine wpQuiet_nil ?_
   rintro w1 ⟨⟨_,g1⟩,rfl⟩
   have H1:=Lib.hid (HV.out.grown g1)
   have HB1:=Lib.hid (HB.out.grown g1)
   have HG1:=Lib.hid (gtr HG.out g1)
   clear g1 d2 e2 e9 hix
   go_wp2_with fail
   refine (kJudge _ c d s _ y H1.out HI.out n0 n1 b0 b1 z HZ.out).mono ?_;rintro e w2 ⟨rfl,q2,h2⟩
   have H2:=Lib.hid h2
   have Q2:=Lib.hid q2
   have HB2:=Lib.hid (HB1.out.but q2 (by rintro (h | h);exact HD.out.new (by omega) h;omega))
   clear q2 h2
   go_wp2_with (first | (refine load_box rfl 63 _ rfl w.heap.size rfl _ _ Tryz.underlying63 rfl (by kernel_rfl) H2.out.box ?_) | (refine store_box rfl 63 _ _ rfl (w.heap.size + 1) _ HB2.out _ rfl rfl rfl (by kernel_rfl) rfl ?_;intro w9 B9 q9;have HB9:=Lib.hid B9;have Q9:=Lib.hid q9;clear B9 q9) | fail)
   exact bodyPost_ret (v:=.agg (z.x:Wk).l.toArray) (results_c (ty:=63) rfl rfl (load_run HB9.out 63 _ Tryz.underlying63 rfl (by kernel_rfl))) rfl ⟨rfl,kEnd HD.out HG1.out ⟨Q2.out,H2.out⟩ HB2.out Q9.out⟩
  ·subst hc
   have HZ:Hid (mrkK c y = z):=Lib.hid (by rw [← hz];unfold stepK;rw [hd,hp];simp)
   have hix:=kIdx4
   have d2:∀ g:GrW ((w.alloc (.cells L.toArray 63)).alloc (.cells #[.int .u64 0,.int .i64 0,.int .i64 0,.int .i64 0,.int .i64 0,.int .u64 0,.int .i64 0,.int .i64 0,.bool false,.bool false] 63)),g.w.cell? ⟨w.heap.size,2,none⟩ = some (.int .i64 4):=GrW.cell e2
   clear hz hd hp ok
   go_enter Tryz.func97,Tryz.ntmps97
   go_wp2_with fail
   refine wp_region_grow (by kernel_rfl) (by kernel_rfl) ?_
   repeat (go_big_quiet_step ((go_at_call 168;exact grcall (kActions _))))
   refine wpQuiet_nil ?_
   rintro w1 ⟨⟨_,g1⟩,rfl⟩
   have H1:=Lib.hid (HV.out.grown g1)
   have HB1:=Lib.hid (HB.out.grown g1)
   have HG1:=Lib.hid (gtr HG.out g1)
   clear g1 d2 e2 e9 hix
   go_wp2_with fail
   refine (kMark _ c d s _ y H1.out HI.out n0 n1 b0 b1 z HZ.out).mono ?_;rintro e w2 ⟨rfl,q2,h2⟩
   have H2:=Lib.hid h2
   have Q2:=Lib.hid q2
   have HB2:=Lib.hid (HB1.out.but q2 (by rintro (h | h);exact HD.out.new (by omega) h;omega))
   clear q2 h2
   go_wp2_with (first | (refine load_box rfl 63 _ rfl w.heap.size rfl _ _ Tryz.underlying63 rfl (by kernel_rfl) H2.out.box ?_) | (refine store_box rfl 63 _ _ rfl (w.heap.size + 1) _ HB2.out _ rfl rfl rfl (by kernel_rfl) rfl ?_;intro w9 B9 q9;have HB9:=Lib.hid B9;have Q9:=Lib.hid q9;clear B9 q9) | fail)
   exact bodyPost_ret (v:=.agg (z.x:Wk).l.toArray) (results_c (ty:=63) rfl rfl (load_run HB9.out 63 _ Tryz.underlying63 rfl (by kernel_rfl))) rfl ⟨rfl,kEnd HD.out HG1.out ⟨Q2.out,H2.out⟩ HB2.out Q9.out⟩
  ·subst hc
   have HZ:Hid (askK c y = z):=Lib.hid (by rw [← hz];unfold stepK;rw [hd,hp];simp)
   have hix:=kIdx5
   have d2:∀ g:GrW ((w.alloc (.cells L.toArray 63)).alloc (.cells #[.int .u64 0,.int .i64 0,.int .i64 0,.int .i64 0,.int .i64 0,.int .u64 0,.int .i64 0,.int .i64 0,.bool false,.bool false] 63)),g.w.cell? ⟨w.heap.size,2,none⟩ = some (.int .i64 5):=GrW.cell e2
   clear hz hd hp ok
   go_enter Tryz.func97,Tryz.ntmps97
   go_wp2_with fail
   refine wp_region_grow (by kernel_rfl) (by kernel_rfl) ?_
   repeat (go_big_quiet_step ((go_at_call 168;exact grcall (kActions _))))
   refine wpQuiet_nil ?_
   rintro w1 ⟨⟨_,g1⟩,rfl⟩
   have H1:=Lib.hid (HV.out.grown g1)
   have HB1:=Lib.hid (HB.out.grown g1)
   have HG1:=Lib.hid (gtr HG.out g1)
   clear g1 d2 e2 e9 hix
   go_wp2_with fail
   refine (kAsk _ c d s _ y H1.out HI.out n0 n1 z HZ.out).mono ?_;rintro e w2 ⟨rfl,q2,h2⟩
   have H2:=Lib.hid h2
   have Q2:=Lib.hid q2
   have HB2:=Lib.hid (HB1.out.but q2 (by rintro (h | h);exact HD.out.new (by omega) h;omega))
   clear q2 h2
   go_wp2_with (first | (refine load_box rfl 63 _ rfl w.heap.size rfl _ _ Tryz.underlying63 rfl (by kernel_rfl) H2.out.box ?_) | (refine store_box rfl 63 _ _ rfl (w.heap.size + 1) _ HB2.out _ rfl rfl rfl (by kernel_rfl) rfl ?_;intro w9 B9 q9;have HB9:=Lib.hid B9;have Q9:=Lib.hid q9;clear B9 q9) | fail)
   exact bodyPost_ret (v:=.agg (z.x:Wk).l.toArray) (results_c (ty:=63) rfl rfl (load_run HB9.out 63 _ Tryz.underlying63 rfl (by kernel_rfl))) rfl ⟨rfl,kEnd HD.out HG1.out ⟨Q2.out,H2.out⟩ HB2.out Q9.out⟩
  ·subst hc
   have HZ:Hid (setK c s y 1 = z):=Lib.hid (by rw [← hz];unfold stepK;rw [hd,hp];simp)
   have hix:=kIdx6
   have d2:∀ g:GrW ((w.alloc (.cells L.toArray 63)).alloc (.cells #[.int .u64 0,.int .i64 0,.int .i64 0,.int .i64 0,.int .i64 0,.int .u64 0,.int .i64 0,.int .i64 0,.bool false,.bool false] 63)),g.w.cell? ⟨w.heap.size,2,none⟩ = some (.int .i64 6):=GrW.cell e2
   clear hz hd hp ok
   go_enter Tryz.func97,Tryz.ntmps97
   go_wp2_with fail
   refine wp_region_grow (by kernel_rfl) (by kernel_rfl) ?_
   repeat (go_big_quiet_step ((go_at_call 168;exact grcall (kActions _))))
   refine wpQuiet_nil ?_
   rintro w1 ⟨⟨_,g1⟩,rfl⟩
   have H1:=Lib.hid (HV.out.grown g1)
   have HB1:=Lib.hid (HB.out.grown g1)
   have HG1:=Lib.hid (gtr HG.out g1)
   clear g1 d2 e2 e9 hix
   go_wp2_with fail
   refine (kLetIn _ c d s _ y H1.out HI.out n0 n1 z HZ.out).mono ?_;rintro e w2 ⟨rfl,q2,h2⟩
   have H2:=Lib.hid h2
   have Q2:=Lib.hid q2
   have HB2:=Lib.hid (HB1.out.but q2 (by rintro (h | h);exact HD.out.new (by omega) h;omega))
   clear q2 h2
   go_wp2_with (first | (refine load_box rfl 63 _ rfl w.heap.size rfl _ _ Tryz.underlying63 rfl (by kernel_rfl) H2.out.box ?_) | (refine store_box rfl 63 _ _ rfl (w.heap.size + 1) _ HB2.out _ rfl rfl rfl (by kernel_rfl) rfl ?_;intro w9 B9 q9;have HB9:=Lib.hid B9;have Q9:=Lib.hid q9;clear B9 q9) | fail)
   exact bodyPost_ret (v:=.agg (z.x:Wk).l.toArray) (results_c (ty:=63) rfl rfl (load_run HB9.out 63 _ Tryz.underlying63 rfl (by kernel_rfl))) rfl ⟨rfl,kEnd HD.out HG1.out ⟨Q2.out,H2.out⟩ HB2.out Q9.out⟩
  ·subst hc
   have HZ:Hid (setK c s y 2 = z):=Lib.hid (by rw [← hz];unfold stepK;rw [hd,hp];simp)
   have hix:=kIdx7
   have d2:∀ g:GrW ((w.alloc (.cells L.toArray 63)).alloc (.cells #[.int .u64 0,.int .i64 0,.int .i64 0,.int .i64 0,.int .i64 0,.int .u64 0,.int .i64 0,.int .i64 0,.bool false,.bool false] 63)),g.w.cell? ⟨w.heap.size,2,none⟩ = some (.int .i64 7):=GrW.cell e2
   clear hz hd hp ok
   go_enter Tryz.func97,Tryz.ntmps97
   go_wp2_with fail
   refine wp_region_grow (by kernel_rfl) (by kernel_rfl) ?_
   repeat (go_big_quiet_step ((go_at_call 168;exact grcall (kActions _))))
   refine wpQuiet_nil ?_
   rintro w1 ⟨⟨_,g1⟩,rfl⟩
   have H1:=Lib.hid (HV.out.grown g1)
   have HB1:=Lib.hid (HB.out.grown g1)
   have HG1:=Lib.hid (gtr HG.out g1)
   clear g1 d2 e2 e9 hix
   go_wp2_with fail
   refine (kRefuse _ c d s _ y H1.out HI.out n0 n1 z HZ.out).mono ?_;rintro e w2 ⟨rfl,q2,h2⟩
   have H2:=Lib.hid h2
   have Q2:=Lib.hid q2
   have HB2:=Lib.hid (HB1.out.but q2 (by rintro (h | h);exact HD.out.new (by omega) h;omega))
   clear q2 h2
   go_wp2_with (first | (refine load_box rfl 63 _ rfl w.heap.size rfl _ _ Tryz.underlying63 rfl (by kernel_rfl) H2.out.box ?_) | (refine store_box rfl 63 _ _ rfl (w.heap.size + 1) _ HB2.out _ rfl rfl rfl (by kernel_rfl) rfl ?_;intro w9 B9 q9;have HB9:=Lib.hid B9;have Q9:=Lib.hid q9;clear B9 q9) | fail)
   exact bodyPost_ret (v:=.agg (z.x:Wk).l.toArray) (results_c (ty:=63) rfl rfl (load_run HB9.out 63 _ Tryz.underlying63 rfl (by kernel_rfl))) rfl ⟨rfl,kEnd HD.out HG1.out ⟨Q2.out,H2.out⟩ HB2.out Q9.out⟩
 ·have HZ:Hid (y = z):=Lib.hid (by rw [← hz];unfold stepK;rw [if_pos hd])
  clear hz ok hw n0 n1 hd
  go_enter Tryz.func97,Tryz.ntmps97
  go_wp2_with (first | (refine load_box rfl 63 _ rfl w.heap.size rfl _ _ Tryz.underlying63 rfl (by kernel_rfl) HV.out.box ?_) | (refine store_box rfl 63 _ _ rfl (w.heap.size + 1) _ HB.out _ rfl rfl rfl (by kernel_rfl) rfl ?_;intro w9 B9 q9;have HB9:=Lib.hid B9;have Q9:=Lib.hid q9;clear B9 q9) | fail)
  have HE:LeftK c d s w.heap.size y _ _:=⟨But.refl _ _,HV.out⟩
  exact bodyPost_ret (v:=.agg (y.x:Wk).l.toArray) (results_c (ty:=63) rfl rfl (load_run HB9.out 63 _ Tryz.underlying63 rfl (by kernel_rfl))) rfl ⟨by rw [← HZ.out],by rw [← HZ.out];exact kEnd HD.out HG.out HE HB.out Q9.out⟩
end Go.Proofs.YtcogckjpmmjmbaaGreat
