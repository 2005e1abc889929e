/- The document's Sound. -/
import Derived.Test.YtcogckjpmmjmbaaGreatQCGMapF
import Derived.Test.YtcogckjpmmjmbaaGreatQCMSorted
import Derived.Test.YtcogckjpmmjmbaaGreatQCMRefW
import Derived.Test.YtcogckjpmmjmbaaGreatQCGMRoute
import Derived.Test.YtcogckjpmmjmbaaGreatQCRPr
import Derived.Test.YtcogckjpmmjmbaaGreatQCGWkCl
namespace Go.Proofs.YtcogckjpmmjmbaaGreat
open Go.ChangeShapes Go.WideShapes Go.ChangeAt Go.RowKit
set_option maxRecDepth 100000
set_option linter.unusedVariables false
theorem Box.midR {w:World} {b f:Nat} {l l':List Value} (h:Box w b l) (hl:(l.drop f).take l'.length = l'):w.rangeAt b f l':=fun j v hv => by
 refine h.cell (f + j) v ?_
 rw [← hl] at hv
 rw [List.getElem?_take] at hv
 split at hv
 ·rw [List.getElem?_drop] at hv;exact hv
 ·cases hv
theorem loadMid {P:Program} {ops:Array Oper} {rest:List Oper} {op:Oper} {a:Act} {w:World} {Q:Exit → Act → World → Prop} (hgd:op.guard = none) (ty:TypeId) (x:Operand) (ho:op.op = .load ty x)
  (b f:Nat) (hx:a.eval x = .pointer (some ⟨b,f,none⟩)) (l l':List Value) (d:TypeDesc) (hu:P.underlying ty = some d) (hd:d.isRow = true) (hi:(P.info? ty).map (·.size) = some l'.length) (hB:Box w b l) (hl:(l.drop f).take l'.length = l')
  (h:wpList P ops Q rest (a.put op.dst (.agg l'.toArray)) w):wpList P ops Q (op :: rest) a w :=
 wpList_load_mid hgd ty x ho b f hx l' d (hB.midR hl) hu hd hi h
theorem wpQuiet_load_mid {P:Program} {ops:Array Oper} {C:World → Prop} {Q:Act → Prop} {rest:List Oper} {op:Oper} {a:Act} (hgd:op.guard = none) (ty:TypeId) (x:Operand) (ho:op.op = .load ty x)
  (b f:Nat) (hx:a.eval x = .pointer (some ⟨b,f,none⟩)) (l l':List Value) (d:TypeDesc) (hu:P.underlying ty = some d) (hd:d.isRow = true) (hi:(P.info? ty).map (·.size) = some l'.length) (hB:∀ w,C w → Box w b l) (hl:(l.drop f).take l'.length = l')
  (h:wpQuiet P ops C Q rest (a.put op.dst (.agg l'.toArray))):wpQuiet P ops C Q (op :: rest) a :=
 Go.BigFrame.wpQuiet_want (by unfold Region.wanted;rw [hgd]) fun K hK => ⟨_,fun w hw => by
  unfold Oper.quietAt execOp
  simp only [ho,hx,Instr.loadAt,Instr.sureAddr,Sem.run_bind,Sem.run_pure,Result.andThen_ok,run_loadVar_mid w b f ty l' d ((hB w hw).midR hl) hu hd hi]
  exact ⟨rfl,rfl⟩,hK _ h⟩
theorem load_boxg {P:Program} {ops:Array Oper} {rest:List Oper} {op:Oper} {a:Act} {w:World} {Q:Exit → Act → World → Prop} (hgd:Region.wanted op (yielded ops a.tmps) = true) (ty:TypeId) (x:Operand) (ho:op.op = .load ty x)
  (b:Nat) (hx:a.eval x = .pointer (some ⟨b,0,none⟩)) (l:List Value) (d:TypeDesc) (hu:P.underlying ty = some d) (hd:d.isRow = true) (hi:(P.info? ty).map (·.size) = some l.length) (hB:Box w b l)
  (h:wpList P ops Q rest (a.put op.dst (.agg l.toArray)) w):wpList P ops Q (op :: rest) a w :=
 Go.BigFrame.wpList_want hgd fun _ hK => wp_load_mid ty x ho b 0 hx l d hB.range hu hd hi (hK _ _ h)
theorem firV_take {s:St} {op:Int} {l:List Int} {m:Nat} {a:Int} (ha:l[m]? = some a):firV s op (l.take (m + 1)) = (firV s op (l.take m) && !(opAt s a == op)):=by
 unfold firV
 rw [List.take_add_one,ha,List.all_append]
 simp
theorem opnV_take {c:Cf} {ws:List Int} {s:St} {key:Int} {l:List Int} {m:Nat} {a:Int} (ha:l[m]? = some a):opnV c ws s key (l.take (m + 1)) = (opnV c ws s key (l.take m) || ((kyN s a == key) && !overV c ws (opAt s a))):=by
 unfold opnV
 rw [List.take_add_one,ha,List.any_append]
 simp
theorem leV_take {s:St} {key:Int} {l:List Int} {m:Nat} {a:Int} (ha:l[m]? = some a) (hle:kyN s a ≤ key) (h:leV s key (l.take m) = true):leV s key (l.take (m + 1)) = true:=by
 unfold leV at h ⊢
 rw [List.take_add_one,ha,List.all_append,h]
 simp [hle]
theorem leV_no {s:St} {key:Int} {l:List Int} {m i:Nat} {a:Int} (ha:l[m]? = some a) (hm:m < i) (hle:¬ kyN s a ≤ key):leV s key (l.take i) = false:=by
 unfold leV
 rw [List.all_eq_false]
 refine ⟨a,?_,by simpa using hle⟩
 rw [List.mem_take_iff_getElem]
 obtain ⟨h1,h2⟩:=List.getElem?_eq_some_iff.1 ha
 exact ⟨m,by omega,h2⟩
structure RsR (w0:World) (L:List Value) (gl:Nat) (l:List Int) (W:World):Prop where
 g:Grown w0 W
 box:Box W w0.heap.size L
 cells:∀ (j:Nat) (a:Int),l[j]? = some a → W.cell? ⟨gl,j,none⟩ = some (.int .i64 a)
theorem RsR.grown {w0 W W':World} {L:List Value} {gl:Nat} {l:List Int} (h:RsR w0 L gl l W) (q:Grown W W'):RsR w0 L gl l W':=⟨gtr h.g q,h.box.grown q,fun j a e => gcell q (h.cells j a e)⟩
set_option maxHeartbeats 16000000 in
theorem rSound_at (w:World) (hi:Nat) (c:Cf) (b q cap:Nat) (ws:List Int) (n:Int) (s:St) (sl:Sl) (h:RwAt w hi c b q ws s sl) (hok:c.Ok) (hws:WOk ws) (hl:s.ops.length ≤ 99999) (hln:s.nodes.length ≤ 99999) (hn:0 ≤ n) (hn':n < 4611686018427387904) (hky:∀ a,0 ≤ kyN s a) :
  Calls Tryz.prog 24 #[.agg (RwL c b q cap n sl).toArray] w fun e w' => e = .returned (.bool (sndTo c ws s c.b)) ∧ Grown w w':=by
 have HR:=Lib.hid h
 have HOk:=Lib.hid hok
 have HWs:=Lib.hid hws
 have HKy:=Lib.hid hky
 have hb64:=hok.b64
 obtain ⟨V,hV⟩:∃ V,sndTo c ws s c.b = V:=⟨_,rfl⟩
 rw [hV]
 have HV:=Lib.hid hV
 clear h hok hws hky hV
 have HB0:=Lib.hid (Box.made w (RwL c b q cap n sl) 42)
 have GB:Hid (Grown w (w.alloc (.cells (RwL c b q cap n sl).toArray 42))):=Lib.hid (by go_grown)
 go_enter Tryz.func24,Tryz.ntmps24
 go_wp2_with fail
 go_loopw [3] (fun s3 wr => ∃ (k:Nat),s3 = .int .i64 (k:Int) ∧ k ≤ c.b ∧ sndTo c ws s k = true ∧ Grown w wr ∧ Box wr w.heap.size (RwL c b q cap n sl)) (fun s3 _ => c.b - (intOf s3).toNat)
 case atStart => exact ⟨0,rfl,Nat.zero_le _,rfl,GB.out,HB0.out⟩
 case round =>
  clear GB HB0
  obtain ⟨k,rfl,hk,hsn,hg,hbx⟩:=hrel
  obtain ⟨wo,hwo⟩:∃ x,x = wr:=⟨_,rfl⟩
  subst hwo
  have HSn:=Lib.hid hsn
  have HG:=Lib.hid hg
  have HBx:=Lib.hid hbx
  have e1:=hbx.cell 1 _ rfl
  clear hsn hg hbx
  by_cases hkb:k < c.b
  ·as_aux_lemma =>
    have hlt:(k:Int) < (c.b:Int):=by omega
    go_wp2_with (first | (refine load_box rfl 42 _ rfl w.heap.size rfl _ _ Tryz.underlying42 rfl (by kernel_rfl) HBx.out ?_) | fail)
    refine (rChain_at _ hi c b q cap ws n s sl (HR.out.grown HG.out) HOk.out HWs.out hn hn' k).mono ?_;rintro e w2 ⟨vl,rfl,fl,rc,g2⟩
    have HNo:Hid (sndB c ws s k = false → V = false):=Lib.hid (fun e => by rw [← HV.out];exact sndTo_le c ws s k e c.b hkb)
    have HYes:Hid (sndB c ws s k = true → sndTo c ws s (k + 1) = true):=Lib.hid (fun e => by simp only [sndTo,HSn.out,e,Bool.and_self])
    have HD:Hid (sndB c ws s k = sndD c ws s k [] (chainI c ws k)):=Lib.hid (sndB_D HKy.out)
    obtain ⟨l,hll⟩:∃ l,chainI c ws k = l:=⟨_,rfl⟩
    have hl9:l.length ≤ 9999:=by rw [← hll];exact chainI_len HOk.out _ _
    rw [hll] at fl rc HD
    obtain ⟨Al,gl,cpl,rfl,hAl,hcp,hcl⟩:∃ (Al:Option Addr) (gl cpl:Nat),vl = .slice Al l.length cpl ∧ (0 < l.length → Al = some ⟨gl,0,none⟩) ∧ l.length ≤ cpl ∧ (∀ (j:Nat) (a:Int),l[j]? = some a → w2.cell? ⟨gl,j,none⟩ = some (.int .i64 a)):=by
     rcases rc with ⟨rfl,h0,-⟩ | ⟨g,cap,rfl,hc,hr⟩
     ·exact ⟨none,0,0,by rw [h0],fun h => by omega,by omega,fun j a ha => by rw [List.eq_nil_of_length_eq_zero h0] at ha;simp at ha⟩
     ·exact ⟨_,g,cap,rfl,fun _ => rfl,hc,fun j a ha => hr j _ (by simp [ints,ha])⟩
    obtain ⟨N,hN⟩:∃ N,l.length = N:=⟨_,rfl⟩
    rw [hN] at hl9 hAl hcp ⊢
    have HN:=Lib.hid hN
    have HAl:=Lib.hid hAl
    have HR2:Hid (RsR w (RwL c b q cap n sl) gl l w2):=Lib.hid ⟨gtr HG.out g2,HBx.out.grown g2,hcl⟩
    clear hll fl rc hAl hcl hN g2 e1 HG HBx HSn
    go_wp2_with fail
    go_loopw [5] (fun s5 wr => ∃ (i:Nat),s5 = .int .i64 (i:Int) ∧ i ≤ N ∧ sndB c ws s k = sndD c ws s k (l.take i) (l.drop i) ∧ RsR w (RwL c b q cap n sl) gl l wr) (fun s5 _ => N - (intOf s5).toNat)
    case atStart => exact ⟨0,rfl,Nat.zero_le _,HD.out,HR2.out⟩
    case round =>
     clear HD HR2
     obtain ⟨i,rfl,hi2,hdd,hrs⟩:=hrel
     obtain ⟨wi,hwi⟩:∃ x,x = wr:=⟨_,rfl⟩
     subst hwi
     have HDD:=Lib.hid hdd
     have HI:=Lib.hid hrs
     clear hdd hrs
     by_cases hiN:i < N
     ·as_aux_lemma =>
       have hlt:(i:Int) < (N:Int):=by omega
       obtain rfl:=HAl.out (by omega)
       obtain ⟨a,ha⟩:∃ a,l[i]? = some a:=⟨_,List.getElem?_eq_getElem (by rw [HN.out];exact hiN)⟩
       have hdr:l.drop i = a :: l.drop (i + 1):=by
        obtain ⟨h1,h2⟩:=List.getElem?_eq_some_iff.1 ha
        rw [List.drop_eq_getElem_cons h1,h2]
       have htk:l.take (i + 1) = l.take i ++ [a]:=by rw [List.take_add_one,ha];rfl
       have HFalse:Hid (fitD c ws s k (l.take i) a = false → V = false):=Lib.hid (fun e => HNo.out (by rw [HDD.out,hdr];unfold sndD;rw [e];simp))
       have HTrue:Hid (fitD c ws s k (l.take i) a = true → sndB c ws s k = sndD c ws s k (l.take (i + 1)) (l.drop (i + 1))):=Lib.hid (fun e => by rw [HDD.out,hdr,htk];conv => lhs;unfold sndD;rw [if_pos e])
       obtain ⟨op,hop⟩:∃ o,opAt s a = o:=⟨_,rfl⟩
       have HOp:=Lib.hid hop
       have hcell:=HI.out.cells i a ha
       have HHas:Hid (∀ w' W,Grown w' W → Grown wi w' → Calls Tryz.prog 80 #[.slice (some ⟨gl,0,none⟩) i cpl,.int .i64 a] W fun e w'' => e = .returned (.bool (decide (a ∈ l.take i))) ∧ Grown W w''):=Lib.hid (fun w' W h1 h2 => by
        have hlen:(l.take i).length = i:=by rw [List.length_take,HN.out];omega
        exact has_at W _ (l.take i) (.inr ⟨gl,cpl,by rw [hlen],by rw [hlen];omega,fun j u hu => by
         simp only [ints,List.getElem?_map,Option.map_eq_some_iff] at hu
         obtain ⟨x,hx,rfl⟩:=hu
         exact gcell (gtr h2 h1) (HI.out.cells j x (by rw [List.getElem?_take] at hx;split at hx;exact hx;cases hx))⟩) (by omega) a _ rfl)
       have HA:=Lib.hid ha
       clear ha hop hdr htk
       have b1:∀ g:GrW wi,g.w.cell? ⟨gl,i,none⟩ = some (.int .i64 a):=GrW.cell hcell
       go_wp2_with fail
       refine wp_region_grow (by kernel_rfl) (by kernel_rfl) ?_
       repeat (first | (refine wpQuiet_load_mid rfl 40 _ rfl w.heap.size 7 rfl (RwL c b q cap n sl) [.int .i64 c.t,.int .i64 c.b,.int .i64 c.i,.int .i64 c.f,.int .i64 c.k,.slice sl.a1 sl.m1 sl.k1,.slice sl.a2 sl.m2 sl.k2,.slice sl.a3 sl.m3 sl.k3,.slice sl.a4 sl.m4 sl.k4,.slice sl.a5 sl.m5 sl.k5] _ Tryz.underlying40 rfl (by kernel_rfl) (Box.grw HI.out.box) rfl ?_;simp only [Act.put,List.setIfInBounds_toArray,List.set_cons_succ,List.set_cons_zero]) | go_big_quiet_step ((go_at_call 78;exact grcall (rCarried_at _ hi c s _ _ _ _ _ ((HR.out.grown (gtr HI.out.g (GrW.gr _))).refs) HOk.out hln a op HOp.out))))
       refine wpQuiet_nil ?_
       rintro w3 ⟨⟨_,g3⟩,rfl⟩
       clear b1 hcell
       have H3:=Lib.hid (HI.out.grown g3)
       have G3:Hid (Grown wi w3):=Lib.hid g3
       clear g3
       obtain ⟨ox,hox⟩:∃ ox,lookI s.ops op = ox:=⟨_,rfl⟩
       have HOx:=Lib.hid hox
       clear hox
       go_wp2_with (first | (refine loadMid rfl 40 _ rfl w.heap.size 7 rfl (RwL c b q cap n sl) [.int .i64 c.t,.int .i64 c.b,.int .i64 c.i,.int .i64 c.f,.int .i64 c.k,.slice sl.a1 sl.m1 sl.k1,.slice sl.a2 sl.m2 sl.k2,.slice sl.a3 sl.m3 sl.k3,.slice sl.a4 sl.m4 sl.k4,.slice sl.a5 sl.m5 sl.k5] _ Tryz.underlying40 rfl (by kernel_rfl) H3.out.box rfl ?_) | fail)
       refine (rCall_at _ hi c s _ _ _ _ _ (HR.out.grown H3.out.g).refs HOk.out hl op _ HOx.out).mono ?_;rintro e w6 ⟨rfl,g6⟩
       obtain ⟨⟨xk,xy,xv,xl⟩,hx⟩:∃ x,ox.getD Cal.zero = x:=⟨_,rfl⟩
       have HX:Hid (calAt s op = ⟨xk,xy,xv,xl⟩):=Lib.hid (by unfold calAt;rw [HOx.out];exact hx)
       rw [hx]
       unfold Cal.v
       simp only
       obtain ⟨er,her⟩:∃ er,errOf ox = er:=⟨_,rfl⟩
       have HEr:Hid (er = 0 ∨ er ≠ 0 ∧ ¬ xk = 1):=Lib.hid (by
        rcases ox with _ | y
        ·refine .inr ⟨by rw [← her];decide,?_⟩
         simp only [Option.getD_none,Cal.zero,Cal.mk.injEq] at hx
         omega
        ·exact .inl (by rw [← her];rfl))
       rw [her]
       clear her hx
       have ga:Grown w6 (w6.alloc (.cells #[.int .i64 xk,.int .u64 xy,.int .u64 xv,.int .i64 xl] 80)):=by go_grown
       have hBk:=Box.made w6 [.int .i64 xk,.int .u64 xy,.int .u64 xv,.int .i64 xl] 80
       obtain ⟨wa,hwa⟩:∃ x,w6.alloc (.cells #[.int .i64 xk,.int .u64 xy,.int .u64 xv,.int .i64 xl] 80) = x:=⟨_,rfl⟩
       obtain ⟨X,hX⟩:∃ x,w6.heap.size = x:=⟨_,rfl⟩
       rw [hX] at hBk
       rw [show w6.alloc (.cells ([Value.int .i64 xk,.int .u64 xy,.int .u64 xv,.int .i64 xl]:List Value).toArray 80) = wa from hwa] at hBk
       rw [hwa] at ga
       have HA7:=Lib.hid (H3.out.grown (gtr g6 ga))
       have GA7:=Lib.hid (gtr G3.out (gtr g6 ga))
       have HBk:=Lib.hid hBk
       have HWA:=Lib.hid hwa
       have HXX:=Lib.hid hX
       clear ga hBk hwa hX g6 H3 G3
       go_wp2_with fail
       rw [HWA.out,HXX.out]
       clear HWA HXX
       obtain ⟨zb,hzb⟩:∃ z,zBucket xy c.b = z:=⟨_,rfl⟩
       obtain ⟨hm,hhm⟩:∃ z,decide (a ∈ l.take i) = z:=⟨_,rfl⟩
       have HFit:Hid (fitD c ws s k (l.take i) a = ((decide (xk = 1) && decide (zb = (k:Int)) && !hm) && (leV s xy (l.take i) && !(firV s op (l.take i) && ((refOf c ws a % 2 == 1 && !overV c ws op) || (opnV c ws s xy (l.take i) && insV c ws s op)))))):=Lib.hid (by
        unfold fitD kyN
        rw [HOp.out,HX.out,hhm]
        simp only [hzb])
       have HKy2:Hid (kyN s a = xy):=Lib.hid (by unfold kyN;rw [HOp.out,HX.out])
       rw [hhm] at HHas
       have HZb:=Lib.hid hzb
       have z0:∀ g:GrW wa,g.w.cell? ⟨X,0,none⟩ = some (.int .i64 xk):=GrW.cell (HBk.out.cell 0 _ rfl)
       have z1:∀ g:GrW wa,g.w.cell? ⟨X,1,none⟩ = some (.int .u64 xy):=GrW.cell (HBk.out.cell 1 _ rfl)
       have f1:∀ g:GrW wa,g.w.cell? ⟨w.heap.size,1,none⟩ = some (.int .i64 c.b):=GrW.cell (HA7.out.box.cell 1 _ rfl)
       have b1:∀ g:GrW wa,g.w.cell? ⟨gl,i,none⟩ = some (.int .i64 a):=GrW.cell (HA7.out.cells i a HA.out)
       clear hzb hhm
       have HBu:Hid (∀ W,Calls Tryz.prog 84 #[.int .u64 xy,.int .i64 c.b] W fun e w' => e = .returned (.int .i64 zb) ∧ Grown W w'):=Lib.hid (fun W => by rw [← HZb.out];exact refBucket_any xy c.b W)
       rcases HEr.out with hr | ⟨hr,hxk⟩
       ·subst hr
        by_cases hxk:xk = 1
        ·have e9:(xk != 1) = false:=by simpa using hxk
         have HXk:=Lib.hid hxk
         clear hxk
         by_cases hzk:zb = (k:Int)
         ·have e8:(zb != (k:Int)) = false:=by simpa using hzk
          have HZk:=Lib.hid hzk
          clear hzk
          cases hm
          ·refine wp_region_grow (by kernel_rfl) (by kernel_rfl) ?_
           repeat (go_big_quiet_step ((first | (go_at_call 84;exact grcall (HBu.out _)) | (go_at_call 80;exact grcall (HHas.out _ _ (GrW.gr _) GA7.out)))))
           refine wpQuiet_nil ?_
           rintro w8 ⟨⟨_,g8⟩,rfl⟩
           have GG:=Lib.hid (gtr HA7.out.g g8)
           clear z0 z1 f1 b1
           have HA8:=Lib.hid (HA7.out.grown g8)
           have HBk8:=Lib.hid (HBk.out.grown g8)
           clear g8 HA7 HBk GA7 HHas GG HBu HEr HZb
           go_wp2_with fail
           go_loopw [9,10,11] (fun s9 s10 s11 wr => ∃ (m:Nat),s9 = .bool (firV s op (l.take m)) ∧ s10 = .bool (opnV c ws s xy (l.take m)) ∧ s11 = .int .i64 (m:Int) ∧ m ≤ i ∧ leV s xy (l.take m) = true ∧ Box wr X [.int .i64 xk,.int .u64 xy,.int .u64 xv,.int .i64 xl] ∧ RsR w (RwL c b q cap n sl) gl l wr) (fun _ _ s11 _ => i - (intOf s11).toNat)
           case atStart => exact ⟨0,by simp [firV],by simp [opnV],rfl,Nat.zero_le _,by simp [leV],HBk8.out,HA8.out⟩
           case round =>
            clear HBk8 HA8
            obtain ⟨m,rfl,rfl,rfl,hm,hle,hbk,hrs⟩:=hrel
            obtain ⟨wj,hwj⟩:∃ x,x = wr:=⟨_,rfl⟩
            subst hwj
            have HLe:=Lib.hid hle
            have HBk:=Lib.hid hbk
            have HJ:=Lib.hid hrs
            clear hle hbk hrs
            by_cases hmi:m < i
            ·as_aux_lemma =>
              have hlt:(m:Int) < (i:Int):=by omega
              obtain ⟨a2,ha2⟩:∃ a,l[m]? = some a:=⟨_,List.getElem?_eq_getElem (by rw [HN.out];omega)⟩
              obtain ⟨o2,ho2⟩:∃ o,opAt s a2 = o:=⟨_,rfl⟩
              have HO2:=Lib.hid ho2
              obtain ⟨fv,hfv⟩:∃ v,firV s op (l.take m) = v:=⟨_,rfl⟩
              obtain ⟨ov,hov⟩:∃ v,opnV c ws s xy (l.take m) = v:=⟨_,rfl⟩
              have HF1:Hid (firV s op (l.take (m + 1)) = (fv && !(o2 == op))):=Lib.hid (by rw [firV_take ha2,hfv,ho2])
              have b1:∀ g:GrW wj,g.w.cell? ⟨gl,m,none⟩ = some (.int .i64 a2):=GrW.cell (HJ.out.cells m a2 ha2)
              rw [hfv,hov]
              have HA2:=Lib.hid ha2
              have HOv:=Lib.hid hov
              clear ha2 ho2 hfv hov
              go_wp2_with fail
              refine wp_region_grow (by kernel_rfl) (by kernel_rfl) ?_
              repeat (first | (refine wpQuiet_load_mid rfl 40 _ rfl w.heap.size 7 rfl (RwL c b q cap n sl) [.int .i64 c.t,.int .i64 c.b,.int .i64 c.i,.int .i64 c.f,.int .i64 c.k,.slice sl.a1 sl.m1 sl.k1,.slice sl.a2 sl.m2 sl.k2,.slice sl.a3 sl.m3 sl.k3,.slice sl.a4 sl.m4 sl.k4,.slice sl.a5 sl.m5 sl.k5] _ Tryz.underlying40 rfl (by kernel_rfl) (Box.grw HJ.out.box) rfl ?_;simp only [Act.put,List.setIfInBounds_toArray,List.set_cons_succ,List.set_cons_zero]) | go_big_quiet_step ((go_at_call 78;exact grcall (rCarried_at _ hi c s _ _ _ _ _ ((HR.out.grown (gtr HJ.out.g (GrW.gr _))).refs) HOk.out hln a2 o2 HO2.out))))
              refine wpQuiet_nil ?_
              rintro v3 ⟨⟨_,g3⟩,rfl⟩
              clear b1
              have HJ3:=Lib.hid (HJ.out.grown g3)
              have HBk3:=Lib.hid (HBk.out.grown g3)
              clear g3
              obtain ⟨oy,hoy⟩:∃ ox,lookI s.ops o2 = ox:=⟨_,rfl⟩
              have HOy:=Lib.hid hoy
              clear hoy
              go_wp2_with (first | (refine loadMid rfl 40 _ rfl w.heap.size 7 rfl (RwL c b q cap n sl) [.int .i64 c.t,.int .i64 c.b,.int .i64 c.i,.int .i64 c.f,.int .i64 c.k,.slice sl.a1 sl.m1 sl.k1,.slice sl.a2 sl.m2 sl.k2,.slice sl.a3 sl.m3 sl.k3,.slice sl.a4 sl.m4 sl.k4,.slice sl.a5 sl.m5 sl.k5] _ Tryz.underlying40 rfl (by kernel_rfl) HJ3.out.box rfl ?_) | fail)
              refine (rCall_at _ hi c s _ _ _ _ _ (HR.out.grown HJ3.out.g).refs HOk.out hl o2 _ HOy.out).mono ?_;rintro e v6 ⟨rfl,g6⟩
              obtain ⟨⟨yk,yy,yv,yl⟩,hy⟩:∃ x,oy.getD Cal.zero = x:=⟨_,rfl⟩
              have HY2:Hid (kyN s a2 = yy):=Lib.hid (by unfold kyN calAt;rw [HO2.out,HOy.out,hy])
              have HO1:Hid (opnV c ws s xy (l.take (m + 1)) = (ov || ((yy == xy) && !overV c ws o2))):=Lib.hid (by rw [opnV_take HA2.out,HOv.out,HY2.out,HO2.out])
              rw [hy]
              unfold Cal.v
              simp only
              clear hy
              have ga:Grown v6 (v6.alloc (.cells #[.int .i64 yk,.int .u64 yy,.int .u64 yv,.int .i64 yl] 80)):=by go_grown
              have c1:(v6.alloc (.cells #[.int .i64 yk,.int .u64 yy,.int .u64 yv,.int .i64 yl] 80)).cell? ⟨v6.heap.size,1,none⟩ = some (.int .u64 yy):=by simp [go_sem]
              have HJ4:=Lib.hid (HJ3.out.grown (gtr g6 ga))
              have HBk4:=Lib.hid (HBk3.out.grown (gtr g6 ga))
              have k1:=HBk4.out.cell 1 (.int .u64 xy) rfl
              clear ga g6 HJ3 HBk3 HJ HBk
              by_cases hgt:yy ≤ xy
              ·have dg:decide (xy < yy) = false:=decide_eq_false (by omega)
               have HLe2:Hid (leV s xy (l.take (m + 1)) = true):=Lib.hid (leV_take HA2.out (by rw [HY2.out];exact hgt) HLe.out)
               clear hgt
               obtain ⟨vv,hvv⟩:∃ v,decide (2 ≤ wrdOf c ws o2) = v:=⟨_,rfl⟩
               have HVv:=Lib.hid hvv
               have HVv2:Hid (overV c ws o2 = vv):=Lib.hid hvv
               obtain ⟨ek,hek⟩:∃ v,(yy == xy) = v:=⟨_,rfl⟩
               rw [hek] at HO1
               have e77:=hek
               clear hvv hek
               cases fv
               ·cases ov
                ·cases ek
                 ·as_aux_lemma =>
                   go_wp2_with fail
                   exact ⟨⟨m + 1,by rw [HF1.out];simp,by rw [HO1.out];simp,by simp,hmi,HLe2.out,HBk4.out,HJ4.out⟩,by simp [intOf];omega⟩
                 ·as_aux_lemma =>
                   go_wp2_with (first | (refine load_boxg (by rfl) 42 _ rfl w.heap.size rfl (RwL c b q cap n sl) _ Tryz.underlying42 rfl (by kernel_rfl) HJ4.out.box ?_) | fail)
                   refine (rOver_at _ hi c b q cap ws n s sl (HR.out.grown HJ4.out.g) hn hn' o2 _ HVv.out).mono ?_;rintro e u1 ⟨rfl,q1⟩
                   have HU1:=Lib.hid (HJ4.out.grown q1)
                   have HBu1:=Lib.hid (HBk4.out.grown q1)
                   clear q1 k1 c1
                   go_wp2_with fail
                   exact ⟨⟨m + 1,by rw [HF1.out];simp,by rw [HO1.out,HVv2.out];simp,by simp,hmi,HLe2.out,HBu1.out,HU1.out⟩,by simp [intOf];omega⟩
                ·as_aux_lemma =>
                  go_wp2_with fail
                  exact ⟨⟨m + 1,by rw [HF1.out];simp,by rw [HO1.out];simp,by simp,hmi,HLe2.out,HBk4.out,HJ4.out⟩,by simp [intOf];omega⟩
               ·cases ov
                ·cases ek
                 ·as_aux_lemma =>
                   go_wp2_with fail
                   exact ⟨⟨m + 1,by rw [HF1.out];simp [bne],by rw [HO1.out];simp,by simp,hmi,HLe2.out,HBk4.out,HJ4.out⟩,by simp [intOf];omega⟩
                 ·as_aux_lemma =>
                   go_wp2_with (first | (refine load_boxg (by rfl) 42 _ rfl w.heap.size rfl (RwL c b q cap n sl) _ Tryz.underlying42 rfl (by kernel_rfl) HJ4.out.box ?_) | fail)
                   refine (rOver_at _ hi c b q cap ws n s sl (HR.out.grown HJ4.out.g) hn hn' o2 _ HVv.out).mono ?_;rintro e u1 ⟨rfl,q1⟩
                   have HU1:=Lib.hid (HJ4.out.grown q1)
                   have HBu1:=Lib.hid (HBk4.out.grown q1)
                   clear q1 k1 c1
                   go_wp2_with fail
                   exact ⟨⟨m + 1,by rw [HF1.out];simp [bne],by rw [HO1.out,HVv2.out];simp,by simp,hmi,HLe2.out,HBu1.out,HU1.out⟩,by simp [intOf];omega⟩
                ·as_aux_lemma =>
                  go_wp2_with fail
                  exact ⟨⟨m + 1,by rw [HF1.out];simp [bne],by rw [HO1.out];simp,by simp,hmi,HLe2.out,HBk4.out,HJ4.out⟩,by simp [intOf];omega⟩
              ·have dg:decide (xy < yy) = true:=decide_eq_true (by omega)
               have HNle:Hid (leV s xy (l.take i) = false):=Lib.hid (leV_no HA2.out hmi (by rw [HY2.out];exact hgt))
               clear hgt
               go_wp2_with fail
               go_ret
               exact ⟨ret_bool (HFalse.out (by rw [HFit.out,HNle.out];simp)).symm,HJ4.out.g⟩
            ·as_aux_lemma =>
              obtain rfl:m = i:=by omega
              have hlt:¬ (m:Int) < (m:Int):=by omega
              rw [HLe.out] at HFit
              have b1:∀ g:GrW wj,g.w.cell? ⟨gl,m,none⟩ = some (.int .i64 a):=GrW.cell (HJ.out.cells m a HA.out)
              have HNx:Hid (vNext c.t c.b c.i c.f c.k a = nxtI c a):=Lib.hid rfl
              obtain ⟨rv,hrv⟩:∃ r,refOf c ws a = r:=⟨_,rfl⟩
              have HRv:Hid (rd ws (nxtI c a) = rv):=Lib.hid hrv
              obtain ⟨hr0,hr1⟩:0 ≤ rv ∧ rv ≤ 18446744073709551615:=by rw [← HRv.out];exact HWs.out _
              obtain ⟨mk,hmk⟩:∃ z,(rv % 2 == 1) = z:=⟨_,rfl⟩
              rw [hrv,hmk] at HFit
              have HMk:Hid (∀ W,Calls Tryz.prog 63 #[.int .u64 rv] W fun e w' => e = .returned (.bool mk) ∧ Grown W w'):=Lib.hid (fun W => by rw [← hmk];exact refMarked_any rv W hr0 hr1)
              obtain ⟨fv,hfv⟩:∃ v,firV s op (l.take m) = v:=⟨_,rfl⟩
              obtain ⟨ov,hov⟩:∃ v,opnV c ws s xy (l.take m) = v:=⟨_,rfl⟩
              obtain ⟨vv,hvv⟩:∃ v,overV c ws op = v:=⟨_,rfl⟩
              obtain ⟨iv,hiv⟩:∃ v,insV c ws s op = v:=⟨_,rfl⟩
              rw [hfv,hov,hvv,hiv] at HFit
              rw [hfv,hov]
              have HVv:Hid (decide (2 ≤ wrdOf c ws op) = vv):=Lib.hid hvv
              have HIv:=Lib.hid hiv
              clear hfv hov hvv hiv hrv hmk
              have e5:=hr0
              go_wp2_with fail
              refine wp_region_grow (by kernel_rfl) (by kernel_rfl) ?_
              repeat (first | (refine wpQuiet_load_box rfl 42 _ rfl w.heap.size rfl _ _ Tryz.underlying42 rfl (by kernel_rfl) (Box.grw HJ.out.box) ?_;simp only [Act.put,List.setIfInBounds_toArray,List.set_cons_succ,List.set_cons_zero]) | (refine wpQuiet_load_mid rfl 32 _ rfl w.heap.size 0 rfl (RwL c b q cap n sl) [.int .i64 c.t,.int .i64 c.b,.int .i64 c.i,.int .i64 c.f,.int .i64 c.k] _ Tryz.underlying32 rfl (by kernel_rfl) (Box.grw HJ.out.box) rfl ?_;simp only [Act.put,List.setIfInBounds_toArray,List.set_cons_succ,List.set_cons_zero]) | go_big_quiet_step ((first | (go_at_call 86;with_reducible exact grcall (rNext_at _ _ _ _ _ _ _ _ HNx.out)) | (go_at_call 68;exact grcall (rwPeek_g c b q cap ws n sl HR.out.len (HR.out.holds.grown HJ.out.g) HR.out.few hn hn' _ _ HRv.out _)) | (go_at_call 63;exact grcall (HMk.out _)))))
              refine wpQuiet_nil ?_
              rintro v3 ⟨⟨_,g3⟩,rfl⟩
              clear b1
              have HJ3:=Lib.hid (HJ.out.grown g3)
              clear g3 HJ HBk
              cases fv
              ·as_aux_lemma =>
                go_wp2_with fail
                exact ⟨⟨m + 1,by simp,hiN,HTrue.out (by rw [HFit.out];simp [HXk.out,HZk.out]),HJ3.out⟩,by simp [intOf];omega⟩
              ·cases mk
               ·cases ov
                ·as_aux_lemma =>
                  go_wp2_with fail
                  exact ⟨⟨m + 1,by simp,hiN,HTrue.out (by rw [HFit.out];simp [HXk.out,HZk.out]),HJ3.out⟩,by simp [intOf];omega⟩
                ·cases iv
                 ·as_aux_lemma =>
                   go_wp2_with (first | (refine load_boxg (by rfl) 42 _ rfl w.heap.size rfl (RwL c b q cap n sl) _ Tryz.underlying42 rfl (by kernel_rfl) HJ3.out.box ?_) | fail)
                   refine (rIns_at _ hi c b q cap ws n s sl (HR.out.grown HJ3.out.g) HOk.out hl hn hn' op _ HIv.out).mono ?_;rintro e u2 ⟨rfl,q2⟩
                   have HU2:=Lib.hid (HJ3.out.grown q2)
                   clear q2
                   go_wp2_with fail
                   exact ⟨⟨m + 1,by simp,hiN,HTrue.out (by rw [HFit.out];simp [HXk.out,HZk.out]),HU2.out⟩,by simp [intOf];omega⟩
                 ·as_aux_lemma =>
                   go_wp2_with (first | (refine load_boxg (by rfl) 42 _ rfl w.heap.size rfl (RwL c b q cap n sl) _ Tryz.underlying42 rfl (by kernel_rfl) HJ3.out.box ?_) | fail)
                   refine (rIns_at _ hi c b q cap ws n s sl (HR.out.grown HJ3.out.g) HOk.out hl hn hn' op _ HIv.out).mono ?_;rintro e u2 ⟨rfl,q2⟩
                   have HU2:=Lib.hid (HJ3.out.grown q2)
                   clear q2
                   go_wp2_with fail
                   go_ret
                   exact ⟨ret_bool (HFalse.out (by rw [HFit.out];simp)).symm,HU2.out.g⟩
               ·cases vv
                ·as_aux_lemma =>
                  go_wp2_with (first | (refine load_boxg (by rfl) 42 _ rfl w.heap.size rfl (RwL c b q cap n sl) _ Tryz.underlying42 rfl (by kernel_rfl) HJ3.out.box ?_) | fail)
                  refine (rOver_at _ hi c b q cap ws n s sl (HR.out.grown HJ3.out.g) hn hn' op _ HVv.out).mono ?_;rintro e u1 ⟨rfl,q1⟩
                  have HU1:=Lib.hid (HJ3.out.grown q1)
                  clear q1
                  go_wp2_with fail
                  go_ret
                  exact ⟨ret_bool (HFalse.out (by rw [HFit.out];simp)).symm,HU1.out.g⟩
                ·cases ov
                 ·as_aux_lemma =>
                   go_wp2_with (first | (refine load_boxg (by rfl) 42 _ rfl w.heap.size rfl (RwL c b q cap n sl) _ Tryz.underlying42 rfl (by kernel_rfl) HJ3.out.box ?_) | fail)
                   refine (rOver_at _ hi c b q cap ws n s sl (HR.out.grown HJ3.out.g) hn hn' op _ HVv.out).mono ?_;rintro e u1 ⟨rfl,q1⟩
                   have HU1:=Lib.hid (HJ3.out.grown q1)
                   clear q1
                   go_wp2_with fail
                   exact ⟨⟨m + 1,by simp,hiN,HTrue.out (by rw [HFit.out];simp [HXk.out,HZk.out]),HU1.out⟩,by simp [intOf];omega⟩
                 ·cases iv
                  ·as_aux_lemma =>
                    go_wp2_with (first | (refine load_boxg (by rfl) 42 _ rfl w.heap.size rfl (RwL c b q cap n sl) _ Tryz.underlying42 rfl (by kernel_rfl) HJ3.out.box ?_) | fail)
                    refine (rOver_at _ hi c b q cap ws n s sl (HR.out.grown HJ3.out.g) hn hn' op _ HVv.out).mono ?_;rintro e u1 ⟨rfl,q1⟩
                    have HU1:=Lib.hid (HJ3.out.grown q1)
                    clear q1
                    go_wp2_with (first | (refine load_boxg (by rfl) 42 _ rfl w.heap.size rfl (RwL c b q cap n sl) _ Tryz.underlying42 rfl (by kernel_rfl) HU1.out.box ?_) | fail)
                    refine (rIns_at _ hi c b q cap ws n s sl (HR.out.grown HU1.out.g) HOk.out hl hn hn' op _ HIv.out).mono ?_;rintro e u2 ⟨rfl,q2⟩
                    have HU2:=Lib.hid (HU1.out.grown q2)
                    clear q2
                    go_wp2_with fail
                    exact ⟨⟨m + 1,by simp,hiN,HTrue.out (by rw [HFit.out];simp [HXk.out,HZk.out]),HU2.out⟩,by simp [intOf];omega⟩
                  ·as_aux_lemma =>
                    go_wp2_with (first | (refine load_boxg (by rfl) 42 _ rfl w.heap.size rfl (RwL c b q cap n sl) _ Tryz.underlying42 rfl (by kernel_rfl) HJ3.out.box ?_) | fail)
                    refine (rOver_at _ hi c b q cap ws n s sl (HR.out.grown HJ3.out.g) hn hn' op _ HVv.out).mono ?_;rintro e u1 ⟨rfl,q1⟩
                    have HU1:=Lib.hid (HJ3.out.grown q1)
                    clear q1
                    go_wp2_with (first | (refine load_boxg (by rfl) 42 _ rfl w.heap.size rfl (RwL c b q cap n sl) _ Tryz.underlying42 rfl (by kernel_rfl) HU1.out.box ?_) | fail)
                    refine (rIns_at _ hi c b q cap ws n s sl (HR.out.grown HU1.out.g) HOk.out hl hn hn' op _ HIv.out).mono ?_;rintro e u2 ⟨rfl,q2⟩
                    have HU2:=Lib.hid (HU1.out.grown q2)
                    clear q2
                    go_wp2_with fail
                    go_ret
                    exact ⟨ret_bool (HFalse.out (by rw [HFit.out];simp)).symm,HU2.out.g⟩
          ·refine wp_region_grow (by kernel_rfl) (by kernel_rfl) ?_
           repeat (go_big_quiet_step ((first | (go_at_call 84;exact grcall (HBu.out _)) | (go_at_call 80;exact grcall (HHas.out _ _ (GrW.gr _) GA7.out)))))
           refine wpQuiet_nil ?_
           rintro w8 ⟨⟨_,g8⟩,rfl⟩
           have GG:=Lib.hid (gtr HA7.out.g g8)
           clear z0 z1 f1 b1
           go_wp2_with fail
           go_ret
           exact ⟨ret_bool (HFalse.out (by rw [HFit.out];simp)).symm,GG.out⟩
         ·have e8:(zb != (k:Int)) = true:=by simpa using hzk
          have HZk:=Lib.hid hzk
          clear hzk
          refine wp_region_grow (by kernel_rfl) (by kernel_rfl) ?_
          repeat (go_big_quiet_step ((first | (go_at_call 84;exact grcall (HBu.out _)) | (go_at_call 80;exact grcall (HHas.out _ _ (GrW.gr _) GA7.out)))))
          refine wpQuiet_nil ?_
          rintro w8 ⟨⟨_,g8⟩,rfl⟩
          have GG:=Lib.hid (gtr HA7.out.g g8)
          clear z0 z1 f1 b1
          go_wp2_with fail
          go_ret
          exact ⟨ret_bool (HFalse.out (by rw [HFit.out];simp [HZk.out])).symm,GG.out⟩
        ·have e9:(xk != 1) = true:=by simpa using hxk
         have HXk:=Lib.hid hxk
         clear hxk
         refine wp_region_grow (by kernel_rfl) (by kernel_rfl) ?_
         repeat (go_big_quiet_step ((first | (go_at_call 84;exact grcall (HBu.out _)) | (go_at_call 80;exact grcall (HHas.out _ _ (GrW.gr _) GA7.out)))))
         refine wpQuiet_nil ?_
         rintro w8 ⟨⟨_,g8⟩,rfl⟩
         have GG:=Lib.hid (gtr HA7.out.g g8)
         clear z0 z1 f1 b1
         go_wp2_with fail
         go_ret
         exact ⟨ret_bool (HFalse.out (by rw [HFit.out];simp [HXk.out])).symm,GG.out⟩
       ·have e9:(er != 0) = true:=by simpa using hr
        have HXk:=Lib.hid hxk
        clear hr hxk
        refine wp_region_grow (by kernel_rfl) (by kernel_rfl) ?_
        repeat (go_big_quiet_step ((first | (go_at_call 84;exact grcall (HBu.out _)) | (go_at_call 80;exact grcall (HHas.out _ _ (GrW.gr _) GA7.out)))))
        refine wpQuiet_nil ?_
        rintro w8 ⟨⟨_,g8⟩,rfl⟩
        have GG:=Lib.hid (gtr HA7.out.g g8)
        clear z0 z1 f1 b1
        go_wp2_with fail
        go_ret
        exact ⟨ret_bool (HFalse.out (by rw [HFit.out];simp [HXk.out])).symm,GG.out⟩
     ·as_aux_lemma =>
       have hlt:¬ (i:Int) < (N:Int):=by omega
       obtain rfl:i = N:=by omega
       have HEnd:Hid (sndTo c ws s (k + 1) = true):=Lib.hid (HYes.out (by rw [HDD.out,← HN.out,List.drop_length];rfl))
       go_wp2_with fail
       exact ⟨⟨k + 1,by simp,hkb,HEnd.out,HI.out.g,HI.out.box⟩,by simp [intOf];omega⟩
  ·as_aux_lemma =>
    have hlt:¬ (k:Int) < (c.b:Int):=by omega
    obtain rfl:k = c.b:=by omega
    go_wp2_with fail
    go_ret
    exact ⟨ret_bool (by rw [← HV.out];exact HSn.out.symm),HG.out⟩
end Go.Proofs.YtcogckjpmmjmbaaGreat
