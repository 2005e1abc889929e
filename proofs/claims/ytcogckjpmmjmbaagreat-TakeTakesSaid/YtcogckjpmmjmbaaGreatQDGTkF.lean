/- A delete, done to its end (corrielaw12.finish). -/
import Derived.Test.YtcogckjpmmjmbaaGreatQDTkS
import Derived.Test.YtcogckjpmmjmbaaGreatQDGWkCl
import Derived.Test.YtcogckjpmmjmbaaGreatQDGPlH
import Derived.Test.YtcogckjpmmjmbaaGreatQDMScene
import Derived.Test.YtcogckjpmmjmbaaGreatQDRLaid
import Derived.Test.YtcogckjpmmjmbaaGreatQDLaid12
namespace Go.Proofs.YtcogckjpmmjmbaaGreat
open Go.ChangeShapes Go.WideShapes Go.ChangeAt Go.RowKit
set_option maxRecDepth 100000
set_option linter.unusedVariables false
theorem runT_stay {c:Cf} {s:St} {y:Kt} {k:Nat} (hd:(runT c s y k).x.done = true):∀ j,runT c s y (k + j) = runT c s y k
 | 0 => rfl
 | j + 1 => by
  have h:=runT_stay hd j
  show stepT c s (runT c s y (k + j)) = _
  rw [h]
  unfold stepT
  rw [if_pos hd]
def tX (w:World) (l:List Value):World:=(w.alloc (.cells l.toArray 90)).alloc (.cells zTk.l.toArray 90)
theorem tVars2 (w:World) (c:Cf) (d:Wd) (s:St) (y:Kt) (h:WdAt w c d y.ws y.n s) :
  TkAt (tX w y.x.l) c d s w.heap.size y ∧ Box (tX w y.x.l) (w.heap.size + 1) zTk.l ∧ Grown w (tX w y.x.l):=by
 obtain ⟨A2,h2⟩:∃ A,w.alloc (.cells y.x.l.toArray 90) = A:=⟨_,rfl⟩
 obtain ⟨A3,h3⟩:∃ A,A2.alloc (.cells zTk.l.toArray 90) = A:=⟨_,rfl⟩
 have hW:tX w y.x.l = A3:=by unfold tX;rw [h2,h3]
 rw [hW]
 have z2:A2.heap.size = w.heap.size + 1:=by rw [← h2];simp
 have g2:Grown w A2:=by rw [← h2];go_grown
 have g3:Grown A2 A3:=by rw [← h3];go_grown
 have B2:=Box.made w y.x.l 90
 rw [h2] at B2
 have B3:=Box.made A2 zTk.l 90
 rw [h3,z2] at B3
 exact ⟨⟨h.grown (gtr g2 g3),B2.grown g3,h.ow_lt (Nat.le_refl _),fun e => by have:=h.xlt;omega,h.book.o6⟩,B3,gtr g2 g3⟩
theorem fEnd {w w1 w2 w3:World} {c:Cf} {d:Wd} {s:St} {z y:Kt} (h:WdAt w c d y.ws y.n s) (g:Grown w w1) (h2:LeftT c d s w.heap.size z w1 w2) (hB:Box w2 (w.heap.size + 1) zTk.l) (q3:But (fun i => i = w.heap.size + 1) w2 w3):LeftS c d s z w w3:=by
 have q:But (fun i => (Ow d i ∨ i = w.heap.size) ∨ i = w.heap.size + 1) w w3:=(((But.of_grown g).trans h2.1).mono fun _ h => .inl h).trans (q3.mono fun _ h => .inr h)
 exact ⟨(q.only (by omega)).only (Nat.le_refl _),h2.2.wd.othV q3 (by have:=h.book.o6;omega) (fun m => h.ow_lt (i:=w.heap.size + 1) (by omega) (.inr m)) (fun e => by have:=h.xlt;omega) (hB.cell 1 _ rfl) (fun _ e => by cases e)⟩
set_option maxHeartbeats 16000000 in
theorem tFinish (w:World) (c:Cf) (d:Wd) (s:St) (y:Kt) (M:Int) (hM:M ≤ 1000000000) (h:WdAt w c d y.ws y.n s) (hI:Inv c s) (hN:NdOk c s) (hcp:c.ops ≤ 9999) (hK:∀ k:Nat,TOk c (runT c s y k) (M + k)) (u0:-9223372036854775808 ≤ y.x.op) (u1:y.x.op ≤ 9223372036854775807) :
  Calls Tryz.prog 52 #[.pointer (some ⟨d.x,0,none⟩),.agg y.x.l.toArray] w fun e w' => e = .returned (.agg (runT c s y 600).x.l.toArray) ∧ LeftS c d s (runT c s y 600) w w':=by
 have HD:=Lib.hid h
 have HI:=Lib.hid hI
 have HN:=Lib.hid hN
 have HK:=Lib.hid hK
 obtain ⟨h1,h2,h3⟩:=tVars2 w c d s y h
 have HV:=Lib.hid h1
 have HB:=Lib.hid h2
 have HG:=Lib.hid h3
 have HNr:Hid (¬ So d w.heap.size (w.heap.size + 1)):=Lib.hid (by
  rintro (x | x)
  ·exact h.ow_lt (by omega) x
  ·omega)
 clear h h1 h2 h3 hI hN hK
 obtain ⟨WX,hWX⟩:∃ W,tX w y.x.l = W:=⟨_,rfl⟩
 rw [hWX] at HV HB HG
 unfold tX at hWX
 obtain ⟨LL,hLL⟩:∃ L,y.x.l = L:=⟨_,rfl⟩
 rw [hLL] at hWX ⊢
 have HWX:=Lib.hid hWX
 clear hWX hLL
 simp only [zTk,Tk.l] at HWX
 go_enter Tryz.func52,Tryz.ntmps52
 go_wp2_with fail
 rw [HWX.out]
 clear HWX
 go_loopw [5] (fun s5 wr => ∃ k:Nat,s5 = .int .i64 (k:Int) ∧ k ≤ 600 ∧ But (So d w.heap.size) WX wr ∧ TkAt wr c d s w.heap.size (runT c s y k)) (fun s5 _ => 600 - (intOf s5).toNat)
 case atStart => exact ⟨0,rfl,Nat.zero_le _,But.refl _ _,HV.out⟩
 case round =>
  clear HV
  obtain ⟨k,rfl,hk,hq,hwk⟩:=hrel
  obtain ⟨wo,hwo⟩:∃ x,x = wr:=⟨_,rfl⟩
  subst hwo
  have HQ:=Lib.hid hq
  have HO:=Lib.hid (HK.out k)
  have HSt:Hid ((runT c s y k).x.done = true → runT c s y 600 = runT c s y k):=Lib.hid (fun hd => by have:=runT_stay hd (600 - k);rwa [show k + (600 - k) = 600 by omega] at this)
  have HS:Hid (runT c s y (k + 1) = stepT c s (runT c s y k)):=Lib.hid rfl
  have HOp:Hid ((runT c s y k).x.op = y.x.op):=Lib.hid (runT_op c s y k).1
  have HKe:Hid (k = 600 → runT c s y 600 = runT c s y k):=Lib.hid (fun e => by rw [e])
  obtain ⟨z,hz⟩:∃ z,runT c s y k = z:=⟨_,rfl⟩
  rw [hz] at hwk HO HSt HS HOp HKe
  have HY:=Lib.hid hwk
  have m0:=HO.out.n0
  have m1:=HO.out.n1
  have c14:=HY.out.box.cell 14 (.bool z.x.done) rfl
  obtain ⟨dn,hd⟩:∃ b,z.x.done = b:=⟨_,rfl⟩
  rw [hd] at c14 HSt
  clear hwk hq hz hd
  by_cases hk2:k < 600
  ·have hlt:(k:Int) < 600:=by omega
   cases dn
   ·as_aux_lemma =>
     clear HSt HKe
     go_wp2_with (first | (refine load_box rfl 90 _ rfl w.heap.size rfl _ _ Tryz.underlying90 rfl (by kernel_rfl) HY.out.box ?_) | fail)
     refine (tStep _ c d s z HY.out.wd HI.out HN.out hcp m0 (by omega) HO.out.wok HO.out.ok HO.out.w0 HO.out.w1 HO.out.f0 HO.out.f1 (by rw [HOp.out];exact u0) (by rw [HOp.out];exact u1) _ rfl).mono ?_;rintro e w4 ⟨rfl,q4⟩
     have H4:Hid (TkAt w4 c d s w.heap.size ⟨(stepT c s z).ws,(stepT c s z).n,z.x⟩):=Lib.hid ⟨q4.2,HY.out.box.but q4.1 HY.out.nm,HY.out.nm,HY.out.nx,HY.out.hr⟩
     have Q4:Hid (But (So d w.heap.size) WX w4):=Lib.hid (HQ.out.trans (q4.1.mono fun _ h => .inl h))
     clear q4 c14
     go_wp2_with (first | (refine store_box rfl 90 _ _ rfl w.heap.size _ H4.out.box _ rfl rfl rfl (by kernel_rfl) rfl ?_;intro w8 B8 q8;have H8:Hid (TkAt w8 c d s w.heap.size (stepT c s z)):=Lib.hid (H4.out.put (x:=(stepT c s z).x) B8 q8);have Q8:Hid (But (So d w.heap.size) WX w8):=Lib.hid (Q4.out.trans (so_r q8));clear B8 q8) | fail)
     refine ⟨⟨k + 1,by simp,hk2,Q8.out,?_⟩,by simp [intOf];omega⟩
     rw [HS.out]
     exact H8.out
   ·as_aux_lemma =>
     have HE:Hid (runT c s y 600 = z):=Lib.hid (HSt.out rfl)
     clear HSt HKe
     have HBo:=Lib.hid (HB.out.but HQ.out HNr.out)
     go_wp2_with (first | (refine load_box rfl 90 _ rfl w.heap.size rfl _ _ Tryz.underlying90 rfl (by kernel_rfl) HY.out.box ?_) | (refine store_box rfl 90 _ _ rfl (w.heap.size + 1) _ HBo.out _ rfl rfl rfl (by kernel_rfl) rfl ?_;intro w9 B9 q9;have HB9:=Lib.hid B9;have Q9:=Lib.hid q9;clear B9 q9) | fail)
     exact bodyPost_ret (v:=.agg (z.x:Tk).l.toArray) (results_c (ty:=90) rfl rfl (load_run HB9.out 90 _ Tryz.underlying90 rfl (by kernel_rfl))) rfl ⟨by rw [HE.out],by rw [HE.out];exact fEnd HD.out HG.out ⟨HQ.out,HY.out⟩ HBo.out Q9.out⟩
  ·as_aux_lemma =>
    have hlt:¬ (k:Int) < 600:=by omega
    have HE:Hid (runT c s y 600 = z):=Lib.hid (HKe.out (by omega))
    clear HSt HKe
    have HBo:=Lib.hid (HB.out.but HQ.out HNr.out)
    go_wp2_with (first | (refine load_box rfl 90 _ rfl w.heap.size rfl _ _ Tryz.underlying90 rfl (by kernel_rfl) HY.out.box ?_) | (refine store_box rfl 90 _ _ rfl (w.heap.size + 1) _ HBo.out _ rfl rfl rfl (by kernel_rfl) rfl ?_;intro w9 B9 q9;have HB9:=Lib.hid B9;have Q9:=Lib.hid q9;clear B9 q9) | fail)
    exact bodyPost_ret (v:=.agg (z.x:Tk).l.toArray) (results_c (ty:=90) rfl rfl (load_run HB9.out 90 _ Tryz.underlying90 rfl (by kernel_rfl))) rfl ⟨by rw [HE.out],by rw [HE.out];exact fEnd HD.out HG.out ⟨HQ.out,HY.out⟩ HBo.out Q9.out⟩
end Go.Proofs.YtcogckjpmmjmbaaGreat
namespace Go.Proofs.YtcogckjpmmjmbaaGreat
set_option maxRecDepth 100000
set_option linter.unusedVariables false
theorem sortedI_key {xs:List It} {x:It} (h:x ∈ sortedI xs):∃ y ∈ xs,x.key = y.key:=by
 unfold sortedI at h
 obtain ⟨k,hk⟩:=List.getElem?_of_mem h
 rw [fixTo_get] at hk
 cases hc:(foldI xs)[k]? with
 | none => rw [hc] at hk;cases hk
 | some y =>
  rw [hc] at hk
  simp only [Option.map_some,Option.some.injEq] at hk
  refine ⟨y,?_,?_⟩
  ·rcases foldI_mem xs [] y (List.mem_of_getElem? hc) with h | h
   ·exact h
   ·cases h
  ·rw [← hk];split
   ·unfold keptI clr;split <;> rfl
   ·rfl
def opsK (k:Int) (l:List (Nat × Cal)):List Int:=(l.filter fun x => decide (32 ≤ x.1) && decide (x.2.kind = k)).map fun x => (x.1:Int)
theorem opsK_app (k:Int) (l m:List (Nat × Cal)):opsK k (l ++ m) = opsK k l ++ opsK k m:=by simp [opsK]
theorem opsK_take {k:Int} {l:List (Nat × Cal)} {j:Nat} {x:Nat × Cal} (h:l[j]? = some x):opsK k (l.take (j + 1)) = if 32 ≤ x.1 ∧ x.2.kind = k then opsK k (l.take j) ++ [(x.1:Int)] else opsK k (l.take j):=by
 rw [List.take_add_one,h,opsK_app]
 by_cases q:32 ≤ x.1 ∧ x.2.kind = k
 ·rw [if_pos q];simp [opsK,q.1,q.2]
 ·rw [if_neg q]
  have:opsK k [x] = []:=by
   unfold opsK
   rw [List.filter_cons_of_neg (by simpa using q)]
   rfl
  rw [show (some x).toList = [x] from rfl,this,List.append_nil]
theorem opsK_len (k:Int) (l:List (Nat × Cal)):(opsK k l).length ≤ l.length:=by
 unfold opsK
 rw [List.length_map]
 exact List.length_filter_le _ _
theorem look_of_mem {α:Type}:∀ {l:List (Nat × α)} {n:Nat} {x:α},(l.map (·.1)).Nodup → (n,x) ∈ l → look l n = some x
 | [],_,_,_,h => by cases h
 | (m,y) :: r,n,x,hd,h => by
  rw [List.map_cons,List.nodup_cons] at hd
  simp only [look]
  rcases List.mem_cons.1 h with h | h
  ·cases h;simp
  ·have hne:¬ m = n:=fun e => hd.1 (by subst e;exact List.mem_map.2 ⟨_,h,rfl⟩)
   rw [if_neg hne]
   exact look_of_mem hd.2 h
theorem opsK_mem {c:Cf} {s:St} (hI:Inv c s) {k op:Int} (h:op ∈ opsK k s.ops):32 ≤ op ∧ op < c.ops ∧ ∃ x:Cal,lookI s.ops op = some x ∧ x.kind = k:=by
 unfold opsK at h
 obtain ⟨⟨n,x⟩,h1,rfl⟩:=List.mem_map.1 h
 obtain ⟨h2,h3⟩:=List.mem_filter.1 h1
 simp only [Bool.and_eq_true,decide_eq_true_eq] at h3
 have hl:=look_of_mem hI.d1 h2
 obtain ⟨i,m,g1,g2,g3⟩:=hI.k1 _ h2
 have h4:=hI.b1 i g1
 simp only at g3
 have h5:i * c.k + c.k ≤ c.t * c.k:=by
  have:=Nat.mul_le_mul_right c.k (show i + 1 ≤ c.t by omega)
  rw [Nat.add_mul,Nat.one_mul] at this
  exact this
 refine ⟨by simp only;omega,by simp only [Cf.ops];omega,x,by rw [lookI_nat];exact hl,h3.2⟩
structure LW (c:Cf) (L:Ly):Prop where
 lay:Lay0 c L.ws
 inv:Inv c L.s
 low:∀ x ∈ L.s.nodes,x.2 < c.k
 o0:0 ≤ L.op
 o1:L.op < c.k
 a0:0 ≤ L.at_
 a1:L.at_ < c.nodes
 zero:∀ o:Int,c.k ≤ o → o < c.ops → wd c L.ws o = 0
 made:∀ j,at_ L.s.made j ≤ L.s.nodes.length
theorem LW.zero_ {c:Cf} (ok:c.Ok):LW c (ly0 c):=by
 have h0:∀ i,rd (List.replicate c.len 0) i = 0:=by
  intro i
  unfold rd
  split
  ·rw [List.getD_eq_getElem?_getD,List.getElem?_replicate];split <;> rfl
  ·rfl
 have k1:=ok.k1
 have b1:=nodes_lt ok
 exact ⟨⟨ok,by simp [ly0]⟩,Inv.new,(fun x hx => by cases hx),Int.le_refl _,by simp only [ly0];omega,by simp only [ly0];omega,b1,(fun o _ _ => h0 _),fun j => by rw [show (ly0 c).s.made = List.replicate c.t 0 from rfl,at_new];exact Nat.zero_le _⟩
theorem begin_low {c:Cf} {s:St} (hI:Inv c s) (ok:c.Ok) (x:Cal):(beginI c s 0 x).2.1 < c.k:=by
 have k1:=ok.k1
 unfold beginI
 split
 ·simp only;omega
 ·unfold beginS
  split
  ·simp only;omega
  split
  ·simp only;omega
  ·rename_i h1 h2
   have:=hI.b1 0 (by have:=ok.t1;omega)
   simp only [Int.toNat_zero,Nat.zero_mul,Nat.zero_add] at *
   omega
theorem begin_made (c:Cf) (s:St) (th:Int) (x:Cal):(beginI c s th x).1.made = s.made ∧ (beginI c s th x).1.nodes = s.nodes:=by
 unfold beginI
 split
 ·exact ⟨rfl,rfl⟩
 ·unfold beginS
  repeat' split
  all_goals exact ⟨rfl,rfl⟩
theorem LW.begin_ {c:Cf} {L:Ly} (h:LW c L) (x:It) (hw:0 ≤ x.word):LW c (lyA c L x):=by
 have ok:=h.lay.ok
 have hlo:=begin_low h.inv ok ⟨1,x.key,x.val,0⟩
 obtain ⟨m1,m2⟩:=begin_made c L.s 0 ⟨1,x.key,x.val,0⟩
 have hk:(c.k:Int) ≤ c.ops:=by
  have h1:c.k * 1 ≤ c.k * c.t:=Nat.mul_le_mul_left _ ok.t1
  rw [Nat.mul_comm c.k c.t] at h1
  simp only [Cf.ops];omega
 refine ⟨h.lay.sw _ _ _,h.inv.beginI _ _,?_,?_,?_,h.a0,h.a1,fun o h1 h2 => ?_,fun j => ?_⟩
 ·simp only [lyA];rw [m2];exact h.low
 ·simp only [lyA];omega
 ·simp only [lyA];omega
 ·simp only [lyA]
  rw [wd_sw h.lay (by omega) (by omega),if_neg (by omega)]
  exact h.zero o h1 h2
 ·simp only [lyA];rw [m1,m2];exact h.made j
theorem LW.make_ {c:Cf} {L:Ly} (h:LW c L) (x:It):LW c (lyB c L x):=by
 have ok:=h.lay.ok
 have hnd:(makeI c L.s 0 L.op).2.1 < c.nodes:=by
  have b1:=nodes_lt ok
  unfold makeI
  split
  ·simp only;omega
  ·unfold makeS
   split
   ·simp only;omega
   ·rename_i h1 h2
    have hm:=h.inv.b3 0 (by have:=ok.t1;omega)
    have h3:c.k * 1 ≤ c.k * c.t:=Nat.mul_le_mul_left _ ok.t1
    rw [Nat.mul_comm c.k c.t] at h3
    simp only [Int.toNat_zero,Nat.zero_mul,Nat.add_zero,Cf.nodes] at *
    omega
 have l1:Lay0 c (lyW c L ((makeI c L.s 0 L.op).2.1:Nat)):=h.lay.wr _ _
 refine ⟨l1.wr _ _,h.inv.makeI _ _,?_,h.o0,h.o1,by simp only [lyB];omega,by simp only [lyB];omega,fun o h1 h2 => ?_,fun j => ?_⟩
 ·simp only [lyB]
  unfold makeI
  split
  ·exact h.low
  ·unfold makeS
   split
   ·exact h.low
   ·intro y hy
    simp only [List.mem_append,List.mem_singleton] at hy
    rcases hy with hy | hy
    ·exact h.low y hy
    ·subst hy
     have:=h.o1;have:=h.o0
     simp only
     omega
 ·simp only [lyB]
  rw [wd_wrn l1 (by omega) (by omega)]
  unfold lyW
  rw [wd_wrn h.lay h.a0 h.a1]
  exact h.zero o h1 h2
 ·simp only [lyB]
  have hm:=h.made j
  unfold makeI
  split
  ·exact hm
  ·unfold makeS
   split
   ·exact hm
   ·simp only [List.length_append,List.length_cons,List.length_nil]
    rw [at_bump (by rw [h.inv.l3];have:=ok.t1;omega)]
    split
    ·rename_i e;rw [e] at hm;omega
    ·omega
theorem layL_lw {c:Cf} (ok:c.Ok) (xs:List It) (hx:∀ x ∈ xs,0 ≤ x.word):LW c (layL c xs):=by
 have hall:∀ (xs:List It) (L:Ly),LW c L → (∀ x ∈ xs,0 ≤ x.word) → LW c (xs.foldl (lyI c) L):=by
  intro xs
  induction xs with
  | nil => intro L h _;exact h
  | cons x r ih =>
   intro L h hx
   rw [List.foldl_cons]
   refine ih _ ?_ (fun y hy => hx y (List.mem_cons_of_mem _ hy))
   unfold lyI
   split
   ·exact h.make_ x
   ·exact (h.begin_ x (hx x (List.mem_cons_self ..))).make_ x
 exact hall xs _ (LW.zero_ ok) hx
theorem lyC_made (c:Cf):∀ (xs:List Cal) (s:St),(lyC c s xs).made = s.made
 | [],_ => rfl
 | x :: r,s => by
  unfold lyC
  rw [List.foldl_cons]
  exact (lyC_made c r _).trans (begin_made c s 2 x).1
structure Own0 (c:Cf) (s:St) (ws:List Int) (op:Int) (l:List Int):Prop where
 w:wd c ws op = 0
 nc:∀ a ∈ l,opAt s a ≠ op
 rm:∀ j,at_ s.made j < 2 * c.k
theorem own0_of {f:Nat} (hf:f ≤ 255) {xs:List It} (hl:xs.length ≤ 12) (hw:∀ x ∈ xs,0 ≤ x.word) (cs:List Cal) {L:Ly} (hL:layL (c9 f) (sortedI xs) = L) {s:St} (hs:lyC (c9 f) L.s cs = s) (hn:L.s.nodes.length ≤ 12)
  {op:Int} (h1:32 ≤ op) (h2:op < (c9 f).ops) (l:List Int):Own0 (c9 f) s L.ws op l:=by
 have h:=layL_lw (c9_ok hf) (sortedI xs) (fun x hx => by obtain ⟨y,hy,he⟩:=sortedI_word hx;rw [he];exact hw y hy)
 rw [hL] at h
 have hk:(c9 f).k = 16:=rfl
 refine ⟨h.zero op (by rw [hk];omega) h2,fun a _ => ?_,fun j => ?_⟩
 ·rw [← hs,lyC_opAt]
  unfold opAt
  rcases e:lookI L.s.nodes a with _ | x
  ·simp only [carriedOf];omega
  ·have hx:x < 16:=by
    unfold lookI at e
    split at e
    ·cases e
    ·have:=h.low _ (look_mem e)
     rw [hk] at this
     exact this
   simp only [carriedOf]
   omega
 ·rw [← hs,lyC_made,hk]
  have:=h.made j
  omega
theorem Scn.pb {c:Cf} {s:St} {ws:List Int} {xs:List It} (h:Scn c s ws (sortedI xs)) (hw:∀ i:Int,0 ≤ rd ws i ∧ rd ws i ≤ 18446744073709551615):PB c s ws (ids xs.length):=by
 have hu:=h.up
 rw [sortedI_len] at hu
 have h1:=h.lk
 have h2:=h.sc
 rw [sortedI_len] at h1 h2
 exact ⟨h.lay,hw,h.b1,h1,ids_nd _,h2,h.hd,hu⟩
end Go.Proofs.YtcogckjpmmjmbaaGreat
namespace Go.Proofs.YtcogckjpmmjmbaaGreat
open Go.ChangeShapes Go.WideShapes Go.ChangeAt Go.RowKit Go.Deep
set_option maxRecDepth 100000
set_option linter.unusedVariables false
theorem call_cellsK {H:Type} {enc:TypeId × Value → H} {w:World} {base:Nat} {spare:Nat → Bool} {held:Bool} {fuel:Nat} {cs:List Value} {x:DataW H × List MemPlace}
  (h:DataW.trod enc Tryz.prog w base spare held fuel 80 cs = some x):∃ a:Cal,cs = a.l ∧ 0 ≤ a.key:=by
 obtain ⟨xs,n,-,-,hlen,hxl,hf⟩:=DataW.trod_struct Tryz.underlying80 h
 have hlen4:cs.length = 4:=hlen.trans (by kernel_rfl)
 have hx4:xs.length = 4:=hxl
 have c3:Tryz.prog.cellsOf 3 = 1:=by kernel_rfl
 have cu:Tryz.prog.cellsOf 46 = 1:=by kernel_rfl
 match cs,hlen4 with
 | [a0,a1,a2,a3],_ =>
  have f0:=hf 0 _ rfl
  have f1:=hf 1 _ rfl
  have f2:=hf 2 _ rfl
  have f3:=hf 3 _ rfl
  rw [List.getElem?_eq_getElem (by omega)] at f0 f1 f2 f3
  obtain ⟨k,hk,-⟩:=DataW.trod_int Tryz.underlying3 f0
  obtain ⟨v,hv,-,wv⟩:=DataW.trod_int Tryz.underlying46 f1
  obtain ⟨z,hz,-⟩:=DataW.trod_int Tryz.underlying46 f2
  obtain ⟨m,hm,-⟩:=DataW.trod_int Tryz.underlying3 f3
  simp [c3,cu] at hk hv hz hm
  subst hk hv hz hm
  exact ⟨⟨k,v,z,m⟩,rfl,(lit_u64 wv).1⟩
theorem open_sceneK {H:Type} {enc:TypeId × Value → H} {w:World} {r:Reach} {b base:Nat} {spare:Nat → Bool} {held:Bool} {v:Value} {d:DataW H} {p:List MemPlace}
  (hv:Value.okWide Tryz.prog w r b 25 v) (h:DataW.Trod enc Tryz.prog w base spare held 25 v d p) :
  ∃ (f:Nat) (vi vc:Value) (xs:List It) (cs:List Cal),v = .agg #[.int .u8 (f:Int),vi,vc] ∧ f ≤ 255 ∧ RowO w vi (flatI xs) xs.length ∧ RowO w vc (flatK cs) cs.length ∧ (∀ x ∈ xs,x.Wf) ∧ ∀ x ∈ cs,0 ≤ x.key:=by
 obtain ⟨cs,rfl,hs,hc⟩:=open_flat (n:=3) (ts:=[5,22,23]) (by kernel_rfl) (by kernel_rfl) (by kernel_rfl) hv
 obtain ⟨l⟩:=cs
 simp only [List.size_toArray] at hs
 match l,hs with
 | [c0,c1,c2],_ =>
  obtain ⟨f,rfl,wf⟩:=cell_int Tryz.underlying5 (hc 0 _ 5 rfl rfl)
  obtain ⟨f0,f1⟩:=has_u8 wf
  obtain ⟨fuel,hf⟩:=h
  obtain ⟨xs,n,-,-,-,hxl,hg⟩:=DataW.trod_struct Tryz.underlying25 hf
  have hx3:xs.length = 3:=hxl
  have g1:=hg 1 _ rfl
  have g2:=hg 2 _ rfl
  rw [List.getElem?_eq_getElem (by omega)] at g1 g2
  simp only [Value.cells] at g1 g2
  obtain ⟨ys,h1,h2⟩:=open_rowO (f:=It.l) (k:=5) Tryz.underlying22 (by kernel_rfl) (by decide) (fun _ => rfl) (fun h => item_cells h) g1
  obtain ⟨zs,h3,h4⟩:=open_rowO (f:=Cal.l) (k:=4) (G:=fun x => 0 ≤ x.key) Tryz.underlying23 (by kernel_rfl) (by decide) (fun _ => rfl) (fun h => call_cellsK h) g2
  exact ⟨f.toNat,c1,c2,ys,zs,by simp;omega,by omega,h1,h3,h2,h4⟩
end Go.Proofs.YtcogckjpmmjmbaaGreat
namespace Go.Proofs.YtcogckjpmmjmbaaGreat
open Go.ChangeShapes Go.WideShapes Go.ChangeAt Go.RowKit
set_option maxRecDepth 100000
set_option linter.unusedVariables false
structure OpsR1 (w0:World) (T go:Nat) (L:List Value) (fl:List Value) (vt:Value) (xs:List Int) (W:World):Prop where
 g:Grown w0 W
 box:Box W T L
 ops:∀ j u,fl[j]? = some u → W.cell? ⟨go,j,none⟩ = some u
 told:W.ownsRow (T + 1) 3 1 vt xs.length (ints xs)
theorem OpsR1.grown {w0 W W':World} {T go:Nat} {L fl:List Value} {vt:Value} {xs:List Int} (h:OpsR1 w0 T go L fl vt xs W) (q:Grown W W'):OpsR1 w0 T go L fl vt xs W' :=
 ⟨gtr h.g q,h.box.grown q,fun j u e => gcell q (h.ops j u e),own_grown h.told q⟩
end Go.Proofs.YtcogckjpmmjmbaaGreat
namespace Go.Proofs.YtcogckjpmmjmbaaGreat
open Go.ChangeShapes Go.WideShapes Go.ChangeAt Go.RowKit
set_option maxRecDepth 100000
set_option linter.unusedVariables false
structure OpsR2 (w0:World) (T go:Nat) (L:List Value) (fl:List Value) (vt:Value) (xs:List Int) (W:World):Prop where
 g:Grown w0 W
 box:Box W T L
 ops:∀ j u,fl[j]? = some u → W.cell? ⟨go,j,none⟩ = some u
 told:W.ownsRow (T + 1) 3 1 vt xs.length (ints xs)
theorem OpsR2.grown {w0 W W':World} {T go:Nat} {L fl:List Value} {vt:Value} {xs:List Int} (h:OpsR2 w0 T go L fl vt xs W) (q:Grown W W'):OpsR2 w0 T go L fl vt xs W' :=
 ⟨gtr h.g q,h.box.grown q,fun j u e => gcell q (h.ops j u e),own_grown h.told q⟩
set_option maxHeartbeats 16000000 in
theorem deletes_at2 (w:World) (f:Nat) (hf:f ≤ 255) (vi vc:Value) (xs:List It) (cs:List Cal) (hi:RowO w vi (flatI xs) xs.length) (hc:RowO w vc (flatK cs) cs.length) (hl1:xs.length ≤ 12) (hl2:cs.length ≤ 6)
  (hw:∀ x ∈ xs,0 ≤ x.word ∧ x.word ≤ 18446744073709551615) (L:Ly) (hL:layL (c9 f) (sortedI xs) = L) (s:St) (hs:lyC (c9 f) L.s cs = s) (hso:s.ops.length < 20) :
  Calls Tryz.prog 49 #[.agg #[.int .u8 (f:Int),vi,vc]] w fun e w' => ∃ v,e = .returned v ∧ RowC w' v (ints (opsK 2 s.ops)) (opsK 2 s.ops).length ∧ Grown w w' ∧ ∀ g,InRow v g → w.heap.size ≤ g:=by
 have HRy:Hid (∀ W,Grown w W → Calls Tryz.prog 17 #[.agg #[.int .u8 (f:Int),vi,vc]] W (RLaid (c9 f) L.ws L.n s W)):=Lib.hid (fun W q => rLay_at W f hf vi vc xs cs (hi.grown q) (hc.grown q) hl1 hl2 hw L hL s hs)
 have HB:=Lib.hid (Box.made w [.int .u8 (f:Int),vi,vc] 25)
 have GB:Hid (Grown w (w.alloc (.cells #[.int .u8 (f:Int),vi,vc] 25))):=Lib.hid (by go_grown)
 have e0:=HB.out.cell 0 (.int .u8 (f:Int)) rfl
 have e1:=HB.out.cell 1 vi rfl
 have e2:=HB.out.cell 2 vc rfl
 clear hi hc hw hL hs
 go_enter Tryz.func49,Tryz.ntmps49
 go_wp2_with fail
 refine (HRy.out _ GB.out).mono ?_;rintro e w4 ⟨bk,cp,sl,rfl,hh,hlen,hrf,hlo,g4⟩
 obtain ⟨c,hcc⟩:∃ c,c9 f = c:=⟨_,rfl⟩
 rw [hcc]
 rw [hcc] at hrf
 obtain ⟨NO,hNO⟩:∃ n,s.ops.length = n:=⟨_,rfl⟩
 obtain ⟨A4,go,k4,e4,hA4,hgo,hops⟩:∃ (A4:Option Addr) (go k4:Nat),Value.slice sl.a4 sl.m4 sl.k4 = .slice A4 NO k4 ∧ (0 < NO → A4 = some ⟨go,0,none⟩) ∧ go < w4.heap.size ∧ (∀ j u,(flatC s.ops)[j]? = some u → w4.cell? ⟨go,j,none⟩ = some u):=by
  have hpos:0 < w4.heap.size:=by have:=GB.out.2.2;have:=g4.2.2;simp at *;omega
  rcases hrf.f4 with ⟨h0,hz,he⟩ | ⟨h0,g,cap,he,-,hr⟩
  ·exact ⟨none,0,0,by rw [he,← hNO,h0],fun h => by omega,hpos,fun j u hu => by rw [hz] at hu;simp at hu⟩
  ·refine ⟨_,g,cap,by rw [he,hNO],fun _ => rfl,?_,hr⟩
   have h1:0 < (flatC s.ops).length:=by rw [flatC_len];omega
   exact World.block_lt_of_cell? _ _ (hr 0 _ (List.getElem?_eq_getElem h1))
 have ga:Grown w4 (w4.alloc (.cells (RwL c bk c.len cp L.n sl).toArray 42)):=by go_grown
 have hbx:=Box.made w4 (RwL c bk c.len cp L.n sl) 42
 obtain ⟨T,hT⟩:∃ T,w4.heap.size = T:=⟨_,rfl⟩
 obtain ⟨wa,hwa⟩:∃ x,w4.alloc (.cells (RwL c bk c.len cp L.n sl).toArray 42) = x:=⟨_,rfl⟩
 rw [hwa] at ga hbx
 rw [hT] at hbx hgo
 have HG:Hid (Grown w wa):=Lib.hid (gtr GB.out (gtr g4 ga))
 obtain ⟨LT,hLT⟩:∃ l,RwL c bk c.len cp L.n sl = l:=⟨_,rfl⟩
 have HE15:Hid (LT[15]? = some (.slice A4 NO k4)):=Lib.hid (by rw [← hLT,← e4];rfl)
 rw [hLT] at hbx
 have HS:Hid (OpsR2 w T go LT (flatC s.ops) (.slice none 0 0) [] wa):=Lib.hid ⟨HG.out,hbx,fun j u hu => gcell ga (hops j u hu),own_nil _ _ _ _⟩
 have HA4:=Lib.hid hA4
 have HTw:Hid (w.heap.size ≤ T):=Lib.hid (by rw [← hT];exact Nat.le_trans GB.out.2.2 g4.2.2)
 have HWA:=Lib.hid hwa
 have HTT:=Lib.hid hT
 have HNO:=Lib.hid hNO
 have hno:NO < 20:=by omega
 clear hh hlen hrf hlo g4 ga e4 hA4 hops hbx hwa hT hLT HRy HB GB e0 e1 e2 hNO hso
 simp only [RwL] at HWA ⊢
 go_wp2_with fail
 rw [HWA.out,HTT.out]
 clear HWA HTT HG
 go_loopw [3,5] (fun s3 s5 wr => ∃ (i:Nat) (vt:Value),vt = s3 ∧ s5 = .int .i64 (i:Int) ∧ i ≤ NO ∧ OpsR2 w T go LT (flatC s.ops) vt (opsK 2 (s.ops.take i)) wr) (fun _ s5 _ => NO - (intOf s5).toNat)
 case atStart => exact ⟨0,.slice none 0 0,rfl,rfl,Nat.zero_le _,HS.out⟩
 case round =>
  clear HS
  obtain ⟨i,vt,rfl,rfl,hi2,hp⟩:=hrel
  obtain ⟨wo,hwo⟩:∃ x,x = wr:=⟨_,rfl⟩
  subst hwo
  have HP:=Lib.hid hp
  have e15:=hp.box.cell 15 _ HE15.out
  clear hp
  by_cases hiN:i < NO
  ·as_aux_lemma =>
    have hlt:(i:Int) < (NO:Int):=by omega
    obtain rfl:=HA4.out (by omega)
    obtain ⟨⟨n,⟨kd,ky,vl,lm⟩⟩,hx⟩:∃ x,s.ops[i]? = some x:=⟨_,List.getElem?_eq_getElem (by rw [HNO.out];exact hiN)⟩
    have HX:=Lib.hid hx
    have HSt:=Lib.hid (opsK_take (k:=2) hx)
    have c0:wo.cell? ⟨go,i * 5,none⟩ = some (.int .i64 (n:Int)):=HP.out.ops _ _ (by have:=flat_at (k:=5) (o:=0) (f:=fun p:Nat × Cal => [Value.int .i64 (p.1:Int),.int .i64 p.2.kind,.int .u64 p.2.key,.int .u64 p.2.val,.int .i64 p.2.lim]) (fun _ => rfl) (by decide) s.ops i _ hx;simpa [flatC] using this)
    have c1:wo.cell? ⟨go,i * 5 + 1,none⟩ = some (.int .i64 kd):=HP.out.ops _ _ (by have:=flat_at (k:=5) (o:=1) (f:=fun p:Nat × Cal => [Value.int .i64 (p.1:Int),.int .i64 p.2.kind,.int .u64 p.2.key,.int .u64 p.2.val,.int .i64 p.2.lim]) (fun _ => rfl) (by decide) s.ops i _ hx;simpa [flatC] using this)
    clear hx
    by_cases h32:32 ≤ n
    ·have d32:decide ((32:Int) ≤ (n:Int)) = true:=decide_eq_true (by omega)
     by_cases hk:kd = 2
     ·have ek:(kd == 2) = true:=by simpa using hk
      have HS2:Hid (opsK 2 (s.ops.take (i + 1)) = opsK 2 (s.ops.take i) ++ [(n:Int)]):=Lib.hid (HSt.out.trans (if_pos ⟨h32,hk⟩))
      have hln:(opsK 2 (s.ops.take i)).length ≤ 20:=Nat.le_trans (opsK_len _ _) (by rw [List.length_take];omega)
      obtain ⟨acc,hacc⟩:∃ l,opsK 2 (s.ops.take i) = l:=⟨_,rfl⟩
      rw [hacc] at HP hln HS2
      clear hk hacc HSt
      go_wp2_with (first | (at_builtin;refine pause ?_) | fail)
      unfold Pause
      have ga:Grown wo (wo.alloc (.cells #[.int .i64 (n:Int)] 3)):=by go_grown
      have hTw:=HP.out.box.lt
      refine wpList_add rfl _ _ 36 rfl (T + 1) 3 (.int .i64 0) 1 8 Tryz.underlying36 info_int rfl (by decide) vt acc.length (ints acc) (own_grown HP.out.told ga) _ 1 0 [.int .i64 (n:Int)] (.inr ⟨by decide,wo.heap.size,1,rfl,Nat.zero_le _,fun j u hj => ?news⟩) rfl (by simp [Value.oneCell']) (by omega) (by decide) (by simp;omega) rfl rfl ?_
      case news =>
       rcases j with _ | j
       ·cases hj;simp [go_sem]
       ·cases hj
      intro vt' W5 r5 fr5 q5
      have hin:∀ i,InRow vt i → T + 1 ≤ i:=fun i hi => (own_at HP.out.told hi).1
      have HN:Hid (OpsR2 w T go LT (flatC s.ops) vt' (acc ++ [(n:Int)]) W5):=Lib.hid ⟨But.fresh (gtr HP.out.g ga) q5 (fun i hi => by have h1:=hin i hi;have h2:=HTw.out;omega),(HP.out.box.grown ga).but q5 (fun hi => by have:=hin _ hi;omega),
       fun j u hu => q5.cell (fun hi => by have:=hin _ hi;omega) (gcell ga (HP.out.ops j u hu)),by simpa [ints] using r5⟩
      clear r5 fr5 q5 ga hin c0 c1 e15
      go_wp2_with fail
      exact ⟨⟨i + 1,vt',rfl,by simp,hiN,by rw [HS2.out];exact HN.out⟩,by simp [intOf];omega⟩
     ·have ek:(kd == 2) = false:=by simpa using hk
      have HS2:Hid (opsK 2 (s.ops.take (i + 1)) = opsK 2 (s.ops.take i)):=Lib.hid (HSt.out.trans (if_neg (fun h => hk h.2)))
      clear hk
      go_wp2_with fail
      exact ⟨⟨i + 1,vt,rfl,by simp,hiN,by rw [HS2.out];exact HP.out⟩,by simp [intOf];omega⟩
    ·have d32:decide ((32:Int) ≤ (n:Int)) = false:=decide_eq_false (by omega)
     have HS2:Hid (opsK 2 (s.ops.take (i + 1)) = opsK 2 (s.ops.take i)):=Lib.hid (HSt.out.trans (if_neg (fun h => h32 h.1)))
     clear h32
     go_wp2_with fail
     exact ⟨⟨i + 1,vt,rfl,by simp,hiN,by rw [HS2.out];exact HP.out⟩,by simp [intOf];omega⟩
  ·as_aux_lemma =>
    have hlt:¬ (i:Int) < (NO:Int):=by omega
    obtain rfl:i = NO:=by omega
    have HE:Hid (s.ops.take i = s.ops):=Lib.hid (by rw [← HNO.out,List.take_length])
    rw [HE.out] at HP
    go_wp2_with fail
    go_ret
    exact ⟨vt,rfl,own_rowC HP.out.told,HP.out.g,fun g hg => by have h1:=(own_at HP.out.told hg).1;have h2:=HTw.out;omega⟩
end Go.Proofs.YtcogckjpmmjmbaaGreat
namespace Go.Proofs.YtcogckjpmmjmbaaGreat
open Go.ChangeShapes Go.WideShapes Go.ChangeAt Go.RowKit
set_option maxRecDepth 100000
set_option linter.unusedVariables false
def xs12:List It:=[⟨4,7,1,false,false⟩]
def cs12:List Cal:=[⟨2,4,0,0⟩,⟨2,4,0,0⟩]
def aw12:Ly:=layL (c9 0) (sortedI xs12)
def as12:St:=lyC (c9 0) aw12.s cs12
def at12:Kt:=⟨aw12.ws,aw12.n,newT 32 true⟩
def ae12:Kt:=runT (c9 0) as12 at12 24
def au12:Kt:=⟨ae12.ws,ae12.n,newT 33 true⟩
def af12:Kt:=runT (c9 0) as12 au12 8
theorem ae12_x:(ae12.x.done,ae12.x.won) = (true,true):=by decide +kernel
theorem af12_x:(af12.x.done,af12.x.won) = (true,false):=by decide +kernel
theorem af12_n:af12.n = ae12.n + 4:=by decide +kernel
theorem ae12_n:0 ≤ ae12.n ∧ ae12.n ≤ 40:=by decide +kernel
theorem af12_p:(rawP (c9 0) af12.ws as12).length = 0:=by decide +kernel
theorem af12_c:(chainI (c9 0) af12.ws 0).length = 0:=by decide +kernel
theorem aw12_n:0 ≤ aw12.n ∧ aw12.n ≤ 6:=by decide +kernel
set_option maxHeartbeats 16000000 in
theorem awake12_at (w:World):Calls Tryz.prog 40 #[] w fun e w' => e = .returned (.bool true) ∧ Grown w w':=by
 have HW:Hid (∀ x ∈ xs12,0 ≤ x.word ∧ x.word ≤ 18446744073709551615):=Lib.hid (by unfold xs12;simp)
 have HLk:Hid (LyOk (c9 0) aw12 1):=Lib.hid (by
  have:=layL_ok (c9 0) (sortedI xs12) (fun x hx => by obtain ⟨y,hy,he⟩:=sortedI_word hx;rw [he];exact HW.out y hy) 1 (by decide +kernel)
  rwa [List.take_of_length_le (by decide +kernel)] at this)
 have HInv:Hid (Inv (c9 0) as12):=Lib.hid (lyC_inv cs12 HLk.out.inv)
 have HNd:Hid (NdOk (c9 0) as12):=Lib.hid (lyC_nd cs12 (layL_nd _))
 have HK1:Hid (∀ k:Nat,TOk (c9 0) (runT (c9 0) as12 at12 k) (6 + k)):=Lib.hid (fun k => TOk.run (by decide) HNd.out (y:=at12) ⟨HLk.out.wok,⟨by decide +kernel,by decide +kernel,by decide +kernel,by decide +kernel⟩,aw12_n.1,aw12_n.2,by decide +kernel,by decide +kernel,by decide +kernel,by decide +kernel⟩ k)
 have HE1:Hid (runT (c9 0) as12 at12 600 = ae12):=Lib.hid (runT_stay (k:=24) (by have:=ae12_x;simp only [Prod.mk.injEq] at this;exact this.1) 576)
 have HK2:Hid (∀ k:Nat,TOk (c9 0) (runT (c9 0) as12 au12 k) (40 + k)):=Lib.hid (fun k => TOk.run (by decide) HNd.out (y:=au12) ⟨(HK1.out 24).wok,⟨by decide +kernel,by decide +kernel,by decide +kernel,by decide +kernel⟩,ae12_n.1,ae12_n.2,by decide +kernel,by decide +kernel,by decide +kernel,by decide +kernel⟩ k)
 have HE2:Hid (runT (c9 0) as12 au12 600 = af12):=Lib.hid (runT_stay (k:=8) (by have:=af12_x;simp only [Prod.mk.injEq] at this;exact this.1) 592)
 have HWf:Hid (WOk af12.ws):=Lib.hid (HK2.out 8).wok
 have hn1:=ae12_n
 go_enter Tryz.func40,Tryz.ntmps40
 go_wp2_with fail
 have g1:Grown w (w.alloc (.cells (flatI xs12).toArray 105)):=by go_grown
 have g2:Grown (w.alloc (.cells (flatI xs12).toArray 105)) ((w.alloc (.cells (flatI xs12).toArray 105)).alloc (.cells (flatK cs12).toArray 80)):=by go_grown
 have z1:(w.alloc (.cells (flatI xs12).toArray 105)).heap.size = w.heap.size + 1:=by simp
 have g3:Grown ((w.alloc (.cells (flatI xs12).toArray 105)).alloc (.cells (flatK cs12).toArray 80)) (((w.alloc (.cells (flatI xs12).toArray 105)).alloc (.cells (flatK cs12).toArray 80)).alloc (.cells #[.int .u8 0,.slice (some ⟨w.heap.size,0,none⟩) 1 1,.slice (some ⟨w.heap.size + 1,0,none⟩) 2 2] 25)):=by go_grown
 have hlay:=lay12_at (((w.alloc (.cells (flatI xs12).toArray 105)).alloc (.cells (flatK cs12).toArray 80)).alloc (.cells #[.int .u8 0,.slice (some ⟨w.heap.size,0,none⟩) 1 1,.slice (some ⟨w.heap.size + 1,0,none⟩) 2 2] 25)) 0 (by omega) (.slice (some ⟨w.heap.size,0,none⟩) 1 1) (.slice (some ⟨w.heap.size + 1,0,none⟩) 2 2) xs12 cs12
  ⟨some ⟨w.heap.size,0,none⟩,w.heap.size,0,1,rfl,fun _ => rfl,fun j u hj => gcell g3 (gcell g2 (by rw [Nat.zero_add,World.cell?_alloc_new];simpa using hj))⟩
  ⟨some ⟨w.heap.size + 1,0,none⟩,w.heap.size + 1,0,2,rfl,fun _ => rfl,fun j u hj => gcell g3 (by rw [← z1,Nat.zero_add,World.cell?_alloc_new];simpa using hj)⟩ (by decide) (by decide) HW.out aw12 rfl as12 rfl
 change Calls _ _ #[.agg #[.int .u8 0,_,_]] _ _ at hlay
 have HLay:=Lib.hid hlay
 have G0:=Lib.hid (gtr g1 (gtr g2 g3))
 clear hlay g1 g2 g3 z1
 refine HLay.out.mono ?_;rintro e w1 ⟨d,rfl,g1,h1,f1⟩
 have HD:=Lib.hid h1
 have G1:=Lib.hid (gtr G0.out g1)
 have HFr:Hid (∀ i,Ow d i → w.heap.size ≤ i):=Lib.hid (fun i hi => Nat.le_trans G0.out.2.2 (f1 i hi))
 obtain ⟨c,hc⟩:∃ c,c9 0 = c:=⟨_,rfl⟩
 obtain ⟨s,hs⟩:∃ s,as12 = s:=⟨_,rfl⟩
 obtain ⟨y0,hy0⟩:∃ y,at12 = y:=⟨_,rfl⟩
 obtain ⟨y1,hy1⟩:∃ y,ae12 = y:=⟨_,rfl⟩
 obtain ⟨y2,hy2⟩:∃ y,au12 = y:=⟨_,rfl⟩
 obtain ⟨y3,hy3⟩:∃ y,af12 = y:=⟨_,rfl⟩
 have HX0:Hid (y0.x = newT 32 true):=Lib.hid (by rw [← hy0];rfl)
 have HX2:Hid (y2.x = newT 33 true ∧ y2.ws = y1.ws ∧ y2.n = y1.n):=Lib.hid (by rw [← hy2,← hy1];exact ⟨rfl,rfl,rfl⟩)
 have HD0:Hid (WdAt w1 c d y0.ws y0.n s):=Lib.hid (by rw [← hy0,← hc,← hs];exact HD.out)
 have HP3:Hid ((rawP c y3.ws s).length = 0 ∧ (chainI c y3.ws 0).length = 0):=Lib.hid (by rw [← hy3,← hc,← hs];exact ⟨af12_p,af12_c⟩)
 have HN3:Hid (y3.n = y1.n + 4):=Lib.hid (by rw [← hy3,← hy1];exact af12_n)
 have HXX1:Hid (y1.x.done = true ∧ y1.x.won = true):=Lib.hid (by rw [← hy1];have:=ae12_x;simp only [Prod.mk.injEq] at this;exact this)
 have HXX3:Hid (y3.x.done = true ∧ y3.x.won = false):=Lib.hid (by rw [← hy3];have:=af12_x;simp only [Prod.mk.injEq] at this;exact this)
 have HCo:Hid (c.ops ≤ 9999):=Lib.hid (by rw [← hc];decide)
 rw [hc,hs] at HInv HNd HK1 HK2 HE1 HE2
 rw [hy0,hy1] at HE1
 rw [hy2,hy3] at HE2
 rw [hy0] at HK1
 rw [hy2] at HK2
 rw [hy3] at HWf
 rw [hy1] at hn1
 clear HLay h1 f1 g1 HD hc hs hy0 hy1 hy2 hy3 HLk HW G0
 go_wp2_with fail
 refine (tNew _ 32 true).mono ?_;rintro e w2 ⟨rfl,g2⟩
 rw [← HX0.out]
 have G2:=Lib.hid (gtr G1.out g2)
 have HD2:=Lib.hid (HD0.out.grown g2)
 clear g2 G1 HD0
 go_wp2_with fail
 refine (tFinish _ c d s y0 6 (by omega) HD2.out HInv.out HNd.out HCo.out HK1.out (by rw [HX0.out];decide) (by rw [HX0.out];decide)).mono ?_;rintro e w3 ⟨rfl,q3,h3⟩
 rw [HE1.out] at h3 ⊢
 have HD3:=Lib.hid h3
 have G3:Hid (Grown w w3):=Lib.hid (But.fresh G2.out q3 HFr.out)
 have ga:Grown w3 (w3.alloc (.cells y1.x.l.toArray 90)):=by go_grown
 have hB:=Box.made w3 y1.x.l 90
 obtain ⟨T,hT⟩:∃ T,w3.heap.size = T:=⟨_,rfl⟩
 obtain ⟨wa,hwa⟩:∃ x,w3.alloc (.cells y1.x.l.toArray 90) = x:=⟨_,rfl⟩
 rw [hwa] at hB ga
 rw [hT] at hB
 have HBa:=Lib.hid hB
 have HDa:=Lib.hid (HD3.out.grown ga)
 have Ga:=Lib.hid (gtr G3.out ga)
 have HNo:Hid (¬ Ow d T):=Lib.hid (HD3.out.ow_lt (by omega))
 have HWA:=Lib.hid hwa
 have HTT:=Lib.hid hT
 have k5:=HDa.out.k5
 clear q3 h3 ga hB hwa hT HD3 G3 HD2 G2
 simp only [Tk.l] at HWA ⊢
 rw [← HWA.out] at k5
 go_wp2_with fail
 rw [HWA.out,HTT.out]
 clear HWA HTT
 refine (Steps_at _ d.p d.b _ _ HDa.out.bank).mono ?_;rintro e w4 ⟨rfl,g4⟩
 have HD4:=Lib.hid (HDa.out.grown g4)
 have HB4:=Lib.hid (HBa.out.grown g4)
 have G4:=Lib.hid (gtr Ga.out g4)
 clear g4 k5 HDa HBa Ga
 go_wp2_with fail
 refine (tNew _ 33 true).mono ?_;rintro e w5 ⟨rfl,g5⟩
 rw [← HX2.out.1]
 have HD5:Hid (WdAt w5 c d y2.ws y2.n s):=Lib.hid (by rw [HX2.out.2.1,HX2.out.2.2];exact HD4.out.grown g5)
 have HB5:=Lib.hid (HB4.out.grown g5)
 have G5:=Lib.hid (gtr G4.out g5)
 clear g5 HD4 HB4 G4
 go_wp2_with fail
 refine (tFinish _ c d s y2 40 (by omega) HD5.out HInv.out HNd.out HCo.out HK2.out (by rw [HX2.out.1];decide) (by rw [HX2.out.1];decide)).mono ?_;rintro e w6 ⟨rfl,q6,h6⟩
 rw [HE2.out] at h6 ⊢
 have HD6:=Lib.hid h6
 have HB6:=Lib.hid (HB5.out.but q6 HNo.out)
 have G6:Hid (Grown w w6):=Lib.hid (But.fresh G5.out q6 HFr.out)
 have ga:Grown w6 (w6.alloc (.cells y3.x.l.toArray 90)):=by go_grown
 have hB:=Box.made w6 y3.x.l 90
 obtain ⟨U,hU⟩:∃ T,w6.heap.size = T:=⟨_,rfl⟩
 obtain ⟨wb,hwb⟩:∃ x,w6.alloc (.cells y3.x.l.toArray 90) = x:=⟨_,rfl⟩
 rw [hwb] at hB ga
 rw [hU] at hB
 have HD7:=Lib.hid (HD6.out.grown ga)
 have G7:=Lib.hid (gtr G6.out ga)
 have x14:wb.cell? ⟨T,14,none⟩ = some (.bool true):=by rw [← HXX1.out.1];exact (HB6.out.grown ga).cell 14 _ rfl
 have x15:wb.cell? ⟨T,15,none⟩ = some (.bool true):=by rw [← HXX1.out.2];exact (HB6.out.grown ga).cell 15 _ rfl
 have y14:wb.cell? ⟨U,14,none⟩ = some (.bool true):=by rw [← HXX3.out.1];exact hB.cell 14 _ rfl
 have y15:wb.cell? ⟨U,15,none⟩ = some (.bool false):=by rw [← HXX3.out.2];exact hB.cell 15 _ rfl
 have HWB:=Lib.hid hwb
 have HUU:=Lib.hid hU
 have HX14:=Lib.hid x14
 have HX15:=Lib.hid x15
 have HY14:=Lib.hid y14
 have HY15:=Lib.hid y15
 clear q6 h6 ga hB hwb hU HD6 G6 HB6 HB5 HD5 G5 x14 x15 y14 y15
 simp only [Tk.l] at HWB ⊢
 have c1:=HX14.out
 have c2:=HX15.out
 have c3:=HY14.out
 have c4:=HY15.out
 rw [← HWB.out] at c1 c2 c3 c4
 rw [← HUU.out] at c3 c4
 go_wp2_with fail
 rw [HWB.out]
 clear c1 c2 c3 c4 HWB HUU
 refine (Pairs_at _ c d y3.ws y3.n s HD7.out HInv.out HWf.out (by rw [HP3.out.1];decide)).mono ?_;rintro e w8 ⟨v8,rfl,fl8,g8⟩
 have HPl:Hid ((sortP (rawP c y3.ws s)).length = 0):=Lib.hid (by rw [sortP_len];exact HP3.out.1)
 obtain rfl:v8 = .slice none 0 0:=by
  rcases fl8 with ⟨-,-,h⟩ | ⟨h,-⟩
  ·exact h
  ·rw [HPl.out] at h;cases h
 have HD8:=Lib.hid (HD7.out.grown g8)
 have G8:=Lib.hid (gtr G7.out g8)
 clear g8 fl8
 go_wp2_with fail
 refine (Chain_at _ c d y3.ws y3.n s HD8.out HInv.out HWf.out 0).mono ?_;rintro e w9 ⟨v9,rfl,fl9,-,g9⟩
 obtain rfl:v9 = .slice none 0 0:=by
  rcases fl9 with ⟨-,-,h⟩ | ⟨h,-⟩
  ·exact h
  ·rw [HP3.out.2] at h;cases h
 have HD9:=Lib.hid (HD8.out.grown g9)
 have G9:=Lib.hid (gtr G8.out g9)
 have k5:=HD9.out.k5
 clear g9 fl9
 go_wp2_with fail
 refine (Steps_at _ d.p d.b _ _ HD9.out.bank).mono ?_;rintro e w10 ⟨rfl,g10⟩
 rw [HN3.out]
 clear k5
 go_wp2_with fail
 go_ret
 exact ⟨rfl,gtr G9.out g10⟩
end Go.Proofs.YtcogckjpmmjmbaaGreat
