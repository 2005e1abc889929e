/- Pairs, sorted by their keys, those of one key in the turn in which they stood: slices.SortStableFunc of at most 20 pairs. -/
import Derived.Test.YtcogckjpmmjmbaaGreatQDMIter
import Derived.Test.YtcogckjpmmjmbaaGreatQDMBkRefB
import Derived.Deep.CutRange
import Derived.Test.YtcogckjpmmjmbaaGreatQDMChain
namespace Go.Proofs.YtcogckjpmmjmbaaGreat
open Go.ChangeShapes Go.WideShapes Go.ChangeAt Go.RowKit
set_option maxRecDepth 100000
set_option linter.unusedVariables false
def flatP (ps:List (Int × Int)):List Value:=ps.flatMap fun p => [.int .u64 p.1,.int .u64 p.2]
def insP:List (Int × Int) → (Int × Int) → List (Int × Int)
 | [],x => [x]
 | y :: r,x => if y.1 ≤ x.1 then y :: insP r x else x :: y :: r
def sortP (ps:List (Int × Int)):List (Int × Int):=ps.foldl insP []
def UpP (ps:List (Int × Int)):Prop:=ps.Pairwise fun a b => a.1 ≤ b.1
theorem insP_mem (x:Int × Int):∀ (l:List (Int × Int)) (y:Int × Int),y ∈ insP l x ↔ y = x ∨ y ∈ l
 | [],y => by simp [insP]
 | z :: r,y => by
  unfold insP
  split
  ·simp only [List.mem_cons,insP_mem x r y]
   constructor
   ·rintro (h | h | h) <;> simp [h]
   ·rintro (h | h | h) <;> simp [h]
  ·simp
theorem insP_len (x:Int × Int):∀ (l:List (Int × Int)),(insP l x).length = l.length + 1
 | [] => rfl
 | z :: r => by unfold insP;split <;> simp [insP_len x r]
theorem insP_up (x:Int × Int):∀ (l:List (Int × Int)),UpP l → UpP (insP l x)
 | [],_ => by simp [insP,UpP]
 | z :: r,h => by
  unfold UpP at h
  rw [List.pairwise_cons] at h
  unfold insP
  split
  ·rename_i hz
   unfold UpP
   rw [List.pairwise_cons]
   refine ⟨fun y hy => ?_,insP_up x r h.2⟩
   rcases (insP_mem x r y).1 hy with rfl | hy
   ·exact hz
   ·exact h.1 y hy
  ·rename_i hz
   unfold UpP
   rw [List.pairwise_cons,List.pairwise_cons]
   refine ⟨fun y hy => ?_,h⟩
   simp only [List.mem_cons] at hy
   rcases hy with rfl | hy
   ·omega
   ·have:=h.1 y hy;omega
theorem foldP_up:∀ (ps l:List (Int × Int)),UpP l → UpP (ps.foldl insP l)
 | [],_,h => h
 | x :: r,l,h => foldP_up r _ (insP_up x l h)
theorem sortP_up (ps:List (Int × Int)):UpP (sortP ps):=foldP_up ps [] (by simp [UpP])
theorem foldP_len:∀ (ps l:List (Int × Int)),(ps.foldl insP l).length = l.length + ps.length
 | [],_ => rfl
 | x :: r,l => by rw [List.foldl_cons,foldP_len r,insP_len,List.length_cons];omega
theorem sortP_len (ps:List (Int × Int)):(sortP ps).length = ps.length:=by unfold sortP;rw [foldP_len];simp
theorem sortP_app (ps:List (Int × Int)) (x:Int × Int):sortP (ps ++ [x]) = insP (sortP ps) x:=by simp [sortP]
theorem insP_split (x:Int × Int):∀ (pre mid:List (Int × Int)),(∀ y ∈ pre,y.1 ≤ x.1) → (∀ y ∈ mid,x.1 < y.1) → insP (pre ++ mid) x = pre ++ x :: mid
 | [],[],_,_ => rfl
 | [],y :: r,_,h => by
  have:=h y (by simp)
  simp only [List.nil_append,insP,if_neg (show ¬ y.1 ≤ x.1 by omega)]
 | z :: p,mid,h,h' => by
  simp only [List.cons_append,insP,if_pos (h z (by simp)),insP_split x p mid (fun y hy => h y (by simp [hy])) h']
theorem flatP_len (ps:List (Int × Int)):(flatP ps).length = ps.length * 2:=by
 induction ps with
 | nil => rfl
 | cons x r ih => simp only [flatP,List.flatMap_cons,List.length_append,List.length_cons,List.length_nil] at ih ⊢;omega
theorem flatP_0 {ps:List (Int × Int)} {j:Nat} {x:Int × Int} (h:ps[j]? = some x):(flatP ps)[j * 2]? = some (.int .u64 x.1):=flat_at (k:=2) (o:=0) (fun _ => rfl) (by decide) ps j x h
theorem flatP_1 {ps:List (Int × Int)} {j:Nat} {x:Int × Int} (h:ps[j]? = some x):(flatP ps)[j * 2 + 1]? = some (.int .u64 x.2):=flat_at (k:=2) (o:=1) (fun _ => rfl) (by decide) ps j x h
theorem flatP_app (a b:List (Int × Int)):flatP (a ++ b) = flatP a ++ flatP b:=by simp [flatP]
theorem flatP_mid (a b:List (Int × Int)) (x y:Int × Int) (n:Nat) (hn:n = a.length * 2):(flatP (a ++ x :: b)).take n ++ [.int .u64 y.1,.int .u64 y.2] ++ (flatP (a ++ x :: b)).drop (n + 2) = flatP (a ++ y :: b):=by
 subst hn
 rw [flatP_app,List.take_left' (flatP_len a),flatP_app]
 have:(flatP a ++ flatP (x :: b)).drop (a.length * 2 + 2) = flatP b:=by
  rw [← flatP_len a,List.drop_length_add_append]
  simp [flatP]
 rw [this]
 simp [flatP]
def cmpV (a b:Int):Int:=if a < b then -1 else if b < a then 1 else 0
theorem Compare_at (a b:Int) (w:World):Calls Tryz.prog 76 #[.int .u64 a,.int .u64 b] w fun e w' => e = .returned (.int .i64 (cmpV a b)) ∧ Grown w w':=by
 obtain ⟨v,hv⟩:∃ v,cmpV a b = v:=⟨_,rfl⟩
 rw [hv]
 unfold cmpV at hv
 by_cases h1:a < b
 ·rw [if_pos h1] at hv;subst hv
  have e1:decide (a < b) = true:=decide_eq_true h1
  go_enter Tryz.func76,Tryz.ntmps76
  go_wp2
  go_ret
  exact ⟨rfl,by go_grown⟩
 ·rw [if_neg h1] at hv
  by_cases h2:b < a
  ·rw [if_pos h2] at hv;subst hv
   go_enter Tryz.func76,Tryz.ntmps76
   go_wp2
   go_ret
   exact ⟨rfl,by go_grown⟩
  ·rw [if_neg h2] at hv;subst hv
   go_enter Tryz.func76,Tryz.ntmps76
   go_wp2
   go_ret
   exact ⟨rfl,by go_grown⟩
theorem byKey_at (a a' b b':Int) (v:Int) (hv:cmpV a b = v) (w:World):Calls Tryz.prog 75 #[.agg #[.int .u64 a,.int .u64 a'],.agg #[.int .u64 b,.int .u64 b']] w fun e w' => e = .returned (.int .i64 v) ∧ Grown w w':=by
 have HV:=Lib.hid hv
 clear hv
 go_enter Tryz.func75,Tryz.ntmps75
 go_wp2_with fail
 refine (Compare_at _ _ _).mono ?_;rintro e w1 ⟨rfl,g1⟩
 rw [HV.out]
 go_wp2
 go_ret
 exact ⟨rfl,gtr (by go_grown) g1⟩
end Go.Proofs.YtcogckjpmmjmbaaGreat
namespace Go.Proofs.YtcogckjpmmjmbaaGreat
open Go.ChangeShapes Go.WideShapes Go.ChangeAt Go.RowKit
set_option maxRecDepth 100000
set_option linter.unusedVariables false
def Sorted1 (g:Nat) (ps:List (Int × Int)) (w:World) (e:Ending) (w':World):Prop:=e = .returned (.tuple #[]) ∧ Box w' g (flatP (sortP ps)) ∧ But (fun i => i = g) w w'
theorem Box.sub {w:World} {b:Nat} {l:List Value} (h:Box w b l) (j:Nat) (u:Value) (hj:l[j]? = some u):w.cell? ⟨b,j,none⟩ = some u:=h.cell j u hj
set_option maxHeartbeats 4000000 in
theorem insort_at (w:World) (g cap n:Nat) (ps:List (Int × Int)) (hn:ps.length = n) (hn1:1 ≤ n) (hn9:n ≤ 9999) (h:Box w g (flatP ps)) :
  Calls Tryz.prog 207 #[.slice (some ⟨g,0,none⟩) n cap,.int .i64 0,.int .i64 n,.func (.func 75) #[] #[]] w (Sorted1 g ps w):=by
 have HB:=Lib.hid h
 have HN:=Lib.hid hn
 clear h hn
 have hn':(n:Int) ≤ 9999:=by omega
 go_enter Tryz.func207,Tryz.ntmps207
 go_wp2_with fail
 go_loopw [8] (fun s8 wr => ∃ (done rest:List (Int × Int)),s8 = .int .i64 (done.length:Int) ∧ 1 ≤ done.length ∧ ps = done ++ rest ∧ Box wr g (flatP (sortP done ++ rest)) ∧ But (fun i => i = g) w wr) (fun s8 _ => n - (intOf s8).toNat)
 case atStart =>
  obtain ⟨x,r,hx⟩:∃ x r,ps = x :: r:=by
   have:=HN.out
   cases ps with
   | nil => simp at this;omega
   | cons x r => exact ⟨x,r,rfl⟩
  refine ⟨[x],r,by simp,by simp,by simpa using hx,?_,But.refl _ _⟩
  have:=HB.out
  rw [hx] at this
  simpa [sortP,insP] using this
 case round =>
  obtain ⟨done,rest,rfl,hd1,hps,hB,hq⟩:=hrel
  have HBr:=Lib.hid hB
  have HQ:=Lib.hid hq
  have HPS:=Lib.hid hps
  have hlen:done.length + rest.length = n:=by rw [← HN.out,hps];simp
  clear hB hq hps
  cases rest with
  | nil =>
   have hdn:done.length = n:=by simpa using hlen
   have hlt:¬ (done.length:Int) < (n:Int):=by omega
   go_wp2_with fail
   go_end0
   refine ⟨rfl,?_,HQ.out⟩
   have h1:=HBr.out
   rw [HPS.out]
   simpa using h1
  | cons x rest =>
   have hlt:(done.length:Int) < (n:Int):=by simp only [List.length_cons] at hlen;omega
   go_wp2_with fail
   go_loopw [9] (fun s9 wi => ∃ (j:Nat) (pre mid:List (Int × Int)),s9 = .int .i64 (j:Int) ∧ pre.length = j ∧ sortP done = pre ++ mid ∧ (∀ y ∈ mid,x.1 < y.1) ∧ Box wi g (flatP (pre ++ x :: (mid ++ rest))) ∧ But (fun i => i = g) w wi) (fun s9 _ => (intOf s9).toNat)
   case atStart => exact ⟨done.length,sortP done,[],rfl,sortP_len done,by simp,fun y hy => by simp at hy,by simpa using HBr.out,HQ.out⟩
   case round =>
    obtain ⟨j,pre,mid,rfl,hj,hsp,hmid,hBi,hqi⟩:=hrel
    have HBi:=Lib.hid hBi
    have HQi:=Lib.hid hqi
    have HSP:=Lib.hid hsp
    have HM:=Lib.hid hmid
    have HJ:=Lib.hid hj
    clear hBi hqi hsp hmid hj
    cases j with
    | zero =>
     have h00:¬ (0:Int) < 0:=by omega
     go_wp2_with fail
     refine wp_region_grow (by kernel_rfl) (by kernel_rfl) ?_
     repeat (go_big_quiet_step (fail))
     refine wpQuiet_nil ?_
     rintro w2 ⟨⟨_,g2⟩,rfl⟩
     go_wp2_with fail
     have hpre:pre = []:=List.eq_nil_of_length_eq_zero HJ.out
     refine ⟨⟨done ++ [x],rest,by simp,by simp,by rw [HPS.out];simp,?_,HQi.out.trans (But.of_grown g2)⟩,?_⟩
     ·have h1:=HBi.out.grown g2
      have h2:sortP (done ++ [x]) = x :: mid:=by
       rw [sortP_app,HSP.out,hpre]
       exact insP_split x [] mid (fun y hy => by simp at hy) HM.out
      rw [h2]
      rw [hpre] at h1
      simpa using h1
     ·simp [intOf];omega
    | succ i =>
     obtain ⟨j,hji⟩:∃ j,i + 1 = j:=⟨_,rfl⟩
     have HJI:=Lib.hid hji
     rw [hji]
     have hj0:decide (0 < j) = true:=decide_eq_true (by omega)
     have hj1:(j:Int) - 1 = i:=by omega
     have hplen:pre.length = j:=by rw [HJ.out,hji]
     have htot:pre.length + (1 + (mid.length + rest.length)) = n:=by
      have h1:=sortP_len done
      rw [HSP.out] at h1
      simp only [List.length_append] at h1
      simp only [List.length_cons] at hlen
      omega
     obtain ⟨p,z,hpz⟩:∃ p z,pre = p ++ [z]:=by
      rcases List.eq_nil_or_concat pre with h | ⟨p,z,h⟩
      ·rw [h] at hplen;simp at hplen;omega
      ·exact ⟨p,z,by simpa using h⟩
     have hpl:p.length = i:=by rw [hpz] at hplen;simp at hplen;omega
     have hL:pre ++ x :: (mid ++ rest) = p ++ z :: x :: (mid ++ rest):=by rw [hpz];simp
     have hBz:=HBi.out
     rw [hL] at hBz
     have hz:(p ++ z :: x :: (mid ++ rest))[i]? = some z:=by rw [List.getElem?_append_right (by omega),hpl];simp
     have hx:(p ++ z :: x :: (mid ++ rest))[j]? = some x:=by rw [List.getElem?_append_right (by omega),show j - p.length = 1 by omega];simp
     have hjn:j < n:=by omega
     have hin:i < n:=by omega
     have hjn':(j:Int) ≤ 9999:=by omega
     have d0:∀ q:GrW wr,q.w.cell? ⟨g,j * 2,none⟩ = some (.int .u64 x.1):=GrW.cell (hBz.cell _ _ (flatP_0 hx))
     have d1:∀ q:GrW wr,q.w.cell? ⟨g,j * 2 + 1,none⟩ = some (.int .u64 x.2):=GrW.cell (hBz.cell _ _ (flatP_1 hx))
     have d2:∀ q:GrW wr,q.w.cell? ⟨g,i * 2,none⟩ = some (.int .u64 z.1):=GrW.cell (hBz.cell _ _ (flatP_0 hz))
     have d3:∀ q:GrW wr,q.w.cell? ⟨g,i * 2 + 1,none⟩ = some (.int .u64 z.2):=GrW.cell (hBz.cell _ _ (flatP_1 hz))
     have HBZ:=Lib.hid hBz
     have HPZ:=Lib.hid hpz
     have HPL:=Lib.hid hpl
     have HX:=Lib.hid hx
     have HZ:=Lib.hid hz
     clear hji hplen htot hpl hL hBz hx hz hpz
     by_cases hlt2:x.1 < z.1
     ·have hv:cmpV x.1 z.1 = -1:=if_pos hlt2
      have HV:=Lib.hid hv
      clear hv
      go_wp2_with fail
      refine wp_region_grow (by kernel_rfl) (by kernel_rfl) ?_
      repeat (go_big_quiet_step ((go_at_call 75;exact grcall (byKey_at _ _ _ _ _ HV.out _))))
      refine wpQuiet_nil ?_
      rintro w2 ⟨⟨_,g2⟩,rfl⟩
      clear d0 d1 d2 d3
      go_wp2_with fail
      refine wp_region_plant (.two [0,1,2,3,4,5,6,7,8,10,11,12] 9 (.one [] 13 (.one [14] 15 (.one [16] 17 (.fin [])))) 13 (.one [] 9 (.one [14] 15 (.one [16] 17 (.fin []))))) (by kernel_rfl) (by kernel_rfl) (by kernel_rfl) ?_
      intro w3 g3
      have hB3:=HBZ.out.grown (gtr g2 g3)
      have d0:w3.cell? ⟨g,j * 2,none⟩ = some (.int .u64 x.1):=hB3.cell _ _ (flatP_0 HX.out)
      have d1:w3.cell? ⟨g,j * 2 + 1,none⟩ = some (.int .u64 x.2):=hB3.cell _ _ (flatP_1 HX.out)
      have d2:w3.cell? ⟨g,i * 2,none⟩ = some (.int .u64 z.1):=hB3.cell _ _ (flatP_0 HZ.out)
      have d3:w3.cell? ⟨g,i * 2 + 1,none⟩ = some (.int .u64 z.2):=hB3.cell _ _ (flatP_1 HZ.out)
      refine plan_two ?_
      simp only [nths,nth,List.map_cons,List.map_nil,List.getD_cons_zero,List.getD_cons_succ]
      repeat go_big_quiet_step (fail)
      refine wpQuiet_nil ?_
      constructor
      ·go_wp2_with fail
       refine nxt_true (plan_one ?_)
       simp only [nths,nth,List.map_nil,List.getD_cons_zero,List.getD_cons_succ]
       refine wpQuiet_nil ?_
       go_wp2_with fail
       refine nxt_true (plan_one ?_)
       simp only [nths,nth,List.map_cons,List.map_nil,List.getD_cons_zero,List.getD_cons_succ]
       repeat go_big_quiet_step (fail)
       refine wpQuiet_nil ?_
       refine store_part rfl 108 _ _ rfl g (j * 2) rfl #[.int .u64 z.1,.int .u64 z.2] rfl (flatP (p ++ z :: x :: (mid ++ rest))) _ hB3 ?_ (by kernel_rfl) rfl rfl ?_
       case refine_1 => (rw [flatP_len];have:=HPL.out;have:=HJI.out;simp;omega)
       intro w4 B4 q4
       go_wp2_with fail
       have HB4:Hid (Box w4 g (flatP ((p ++ [z]) ++ z :: (mid ++ rest)))):=Lib.hid (by
        have h1:=flatP_mid (p ++ [z]) (mid ++ rest) x z (j * 2) (by have:=HPL.out;have:=HJI.out;simp;omega)
        have h2:p ++ z :: x :: (mid ++ rest) = (p ++ [z]) ++ x :: (mid ++ rest):=by simp
        rw [h2] at B4
        rw [← h1];exact B4)
       clear B4
       refine nxt_true (plan_one ?_)
       simp only [nths,nth,List.map_cons,List.map_nil,List.getD_cons_zero,List.getD_cons_succ]
       repeat go_big_quiet_step (fail)
       refine wpQuiet_nil ?_
       refine store_part rfl 108 _ _ rfl g (i * 2) rfl #[.int .u64 x.1,.int .u64 x.2] rfl (flatP ((p ++ [z]) ++ z :: (mid ++ rest))) _ HB4.out ?_ (by kernel_rfl) rfl rfl ?_
       case refine_1 => (rw [flatP_len];have:=HPL.out;have:=HJI.out;simp;omega)
       intro w5 B5 q5
       go_wp2_with fail
       have HB5:Hid (Box w5 g (flatP (p ++ x :: ((z :: mid) ++ rest)))):=Lib.hid (by
        have h1:=flatP_mid p (z :: (mid ++ rest)) z x (i * 2) (by rw [HPL.out])
        have h2:(p ++ [z]) ++ z :: (mid ++ rest) = p ++ z :: (z :: (mid ++ rest)):=by simp
        rw [h2] at B5
        have h3:p ++ x :: ((z :: mid) ++ rest) = p ++ x :: (z :: (mid ++ rest)):=by simp
        rw [h3,← h1];exact B5)
       clear B5
       refine nxt_true (plan_fin ?_)
       simp only [nths,List.map_nil]
       refine wpQuiet_nil ?_
       clear d0 d1 d2 d3
       go_wp2_with fail
       refine ⟨⟨i,p,z :: mid,rfl,HPL.out,by rw [HSP.out,HPZ.out];simp,?_,HB5.out,(HQi.out.trans (But.of_grown (gtr g2 g3))).trans (q4.trans q5)⟩,by simp [intOf];omega⟩
       intro y hy
       simp only [List.mem_cons] at hy
       rcases hy with rfl | hy
       ·exact hlt2
       ·exact HM.out y hy
      ·go_wp2_with fail
       refine nxt_true (plan_one ?_)
       simp only [nths,nth,List.map_nil,List.getD_cons_zero,List.getD_cons_succ]
       refine wpQuiet_nil ?_
       go_wp2_with fail
       refine nxt_true (plan_one ?_)
       simp only [nths,nth,List.map_cons,List.map_nil,List.getD_cons_zero,List.getD_cons_succ]
       repeat go_big_quiet_step (fail)
       refine wpQuiet_nil ?_
       refine store_part rfl 108 _ _ rfl g (j * 2) rfl #[.int .u64 z.1,.int .u64 z.2] rfl (flatP (p ++ z :: x :: (mid ++ rest))) _ hB3 ?_ (by kernel_rfl) rfl rfl ?_
       case refine_1 => (rw [flatP_len];have:=HPL.out;have:=HJI.out;simp;omega)
       intro w4 B4 q4
       go_wp2_with fail
       have HB4:Hid (Box w4 g (flatP ((p ++ [z]) ++ z :: (mid ++ rest)))):=Lib.hid (by
        have h1:=flatP_mid (p ++ [z]) (mid ++ rest) x z (j * 2) (by have:=HPL.out;have:=HJI.out;simp;omega)
        have h2:p ++ z :: x :: (mid ++ rest) = (p ++ [z]) ++ x :: (mid ++ rest):=by simp
        rw [h2] at B4
        rw [← h1];exact B4)
       clear B4
       refine nxt_true (plan_one ?_)
       simp only [nths,nth,List.map_cons,List.map_nil,List.getD_cons_zero,List.getD_cons_succ]
       repeat go_big_quiet_step (fail)
       refine wpQuiet_nil ?_
       refine store_part rfl 108 _ _ rfl g (i * 2) rfl #[.int .u64 x.1,.int .u64 x.2] rfl (flatP ((p ++ [z]) ++ z :: (mid ++ rest))) _ HB4.out ?_ (by kernel_rfl) rfl rfl ?_
       case refine_1 => (rw [flatP_len];have:=HPL.out;have:=HJI.out;simp;omega)
       intro w5 B5 q5
       go_wp2_with fail
       have HB5:Hid (Box w5 g (flatP (p ++ x :: ((z :: mid) ++ rest)))):=Lib.hid (by
        have h1:=flatP_mid p (z :: (mid ++ rest)) z x (i * 2) (by rw [HPL.out])
        have h2:(p ++ [z]) ++ z :: (mid ++ rest) = p ++ z :: (z :: (mid ++ rest)):=by simp
        rw [h2] at B5
        have h3:p ++ x :: ((z :: mid) ++ rest) = p ++ x :: (z :: (mid ++ rest)):=by simp
        rw [h3,← h1];exact B5)
       clear B5
       refine nxt_true (plan_fin ?_)
       simp only [nths,List.map_nil]
       refine wpQuiet_nil ?_
       clear d0 d1 d2 d3
       go_wp2_with fail
       refine ⟨⟨i,p,z :: mid,rfl,HPL.out,by rw [HSP.out,HPZ.out];simp,?_,HB5.out,(HQi.out.trans (But.of_grown (gtr g2 g3))).trans (q4.trans q5)⟩,by simp [intOf];omega⟩
       intro y hy
       simp only [List.mem_cons] at hy
       rcases hy with rfl | hy
       ·exact hlt2
       ·exact HM.out y hy
     ·obtain ⟨v,hv,hv0⟩:∃ v,cmpV x.1 z.1 = v ∧ ¬ v < 0:=by
       refine ⟨_,rfl,?_⟩
       unfold cmpV
       rw [if_neg hlt2]
       split <;> omega
      have HV:=Lib.hid hv
      clear hv
      go_wp2_with fail
      refine wp_region_grow (by kernel_rfl) (by kernel_rfl) ?_
      repeat (go_big_quiet_step ((go_at_call 75;exact grcall (byKey_at _ _ _ _ _ HV.out _))))
      refine wpQuiet_nil ?_
      rintro w2 ⟨⟨_,g2⟩,rfl⟩
      clear d0 d1 d2 d3
      go_wp2_with fail
      refine ⟨⟨done ++ [x],rest,by simp,by simp,by rw [HPS.out];simp,?_,HQi.out.trans (But.of_grown g2)⟩,by simp [intOf];omega⟩
      have h1:=HBZ.out.grown g2
      have hup:=sortP_up done
      have h2:sortP (done ++ [x]) = p ++ z :: x :: mid:=by
       rw [sortP_app,HSP.out]
       rw [HSP.out,HPZ.out] at hup
       rw [HPZ.out,insP_split x (p ++ [z]) mid ?_ HM.out]
       ·simp
       ·unfold UpP at hup
        rw [List.pairwise_append] at hup
        have h3:=hup.1
        rw [List.pairwise_append] at h3
        intro y hy
        simp only [List.mem_append,List.mem_singleton] at hy
        rcases hy with hy | rfl
        ·have:=h3.2.2 y hy z (by simp);omega
        ·omega
      rw [h2]
      simpa using h1
end Go.Proofs.YtcogckjpmmjmbaaGreat
namespace Go.Proofs.YtcogckjpmmjmbaaGreat
open Go.ChangeShapes Go.WideShapes Go.ChangeAt Go.RowKit
set_option maxRecDepth 100000
set_option linter.unusedVariables false
theorem stable_at (w:World) (g cap n:Nat) (ps:List (Int × Int)) (hn:ps.length = n) (hn1:1 ≤ n) (hn9:n < 20) (h:Box w g (flatP ps)) :
  Calls Tryz.prog 146 #[.slice (some ⟨g,0,none⟩) n cap,.int .i64 n,.func (.func 75) #[] #[]] w (Sorted1 g ps w):=by
 have HB:=Lib.hid h
 have HN:=Lib.hid hn
 have e1:decide ((20:Int) ≤ (n:Int)) = false:=decide_eq_false (by omega)
 have e2:decide (20 ≤ n) = false:=decide_eq_false (by omega)
 have e3:decide ((20:Int) < (n:Int)) = false:=decide_eq_false (by omega)
 have e4:decide (20 < n) = false:=decide_eq_false (by omega)
 clear h hn
 go_enter Tryz.func146,Tryz.ntmps146
 go_wp2_with fail
 refine wp_loop_rounds 1 ?_
 rw [rounds_succ]
 go_wp2_with fail
 refine (insort_at _ g cap n ps HN.out hn1 (by omega) HB.out).mono ?_;rintro e w1 ⟨rfl,hB,q1⟩
 go_wp2_with fail
 refine wp_loop_rounds 1 ?_
 rw [rounds_succ]
 go_wp2_with fail
 go_end0
 exact ⟨rfl,hB,q1⟩
theorem sortStable_at (w:World) (lo n:Nat) (v:Value) (ps:List (Int × Int)) (hn:ps.length = n) (hn9:n < 20) (h:w.ownsRow lo 108 2 v n (flatP ps)) (hv:0 < n ∨ v = .slice none 0 0) :
  Calls Tryz.prog 74 #[v,.func (.func 75) #[] #[]] w
   fun e w' => e = .returned (.tuple #[]) ∧ w'.ownsRow lo 108 2 v n (flatP (sortP ps)) ∧ But (InRow v) w w':=by
 rcases hv with hv | rfl
 ·obtain ⟨g,cap,rfl⟩:=own_open h hv
  have hb:=own_at h (g:=g) rfl
  have hbox:Box w g (flatP ps):=by
   rcases h.2 with ⟨he,-⟩ | ⟨g0,cap0,cur,he,-,hh,-⟩
   ·cases he
   ·cases he
    refine ⟨fun j u hu => ?_,fun j => ?_,hb.2⟩
    ·have:=h.cells (g:=g) rfl j u hu;rwa [add0] at this
    ·unfold World.frozen?;rw [hh];simp
  have HB:=Lib.hid hbox
  have HH:=Lib.hid h
  clear h hbox
  go_enter Tryz.func74,Tryz.ntmps74
  go_wp2_with fail
  refine (stable_at _ g cap n ps hn (by omega) hn9 HB.out).mono ?_;rintro e w1 ⟨rfl,hB,q1⟩
  go_wp2_with fail
  go_end0
  refine ⟨rfl,?_,q1.mono (fun i hi => by subst hi;rfl)⟩
  have hx:=HH.out
  refine ⟨by rw [flatP_len,sortP_len];rw [hn],.inr ?_⟩
  rcases hx.2 with ⟨he,-⟩ | ⟨g0,cap0,cur,he,h1,hh,h2,h3,h4,h5⟩
  ·cases he
  ·cases he
   have hk:=q1.1.2.2 g hb.2
   rw [hh] at hk
   cases hw:w1.heap[g]? with
   | none => rw [hw] at hk;cases hk
   | some o =>
    rw [hw] at hk
    cases o with
    | cells cur' t' fr' =>
     obtain ⟨rfl,rfl,hsz,-⟩:=hk
     refine ⟨g,cap,cur',rfl,h1,hw,h2,h3,hsz.trans h4,?_⟩
     have hl:(flatP (sortP ps)).length = n * 2:=by rw [flatP_len,sortP_len,hn]
     apply List.ext_getElem?
     intro j
     by_cases hj:j < n * 2
     ·have hc:=hB.cell j _ (List.getElem?_eq_getElem (by rw [hl];exact hj))
      rw [List.getElem?_take_of_lt hj]
      simp only [World.cell?,hw] at hc
      rw [show (flatP (sortP ps))[j]? = some _ from List.getElem?_eq_getElem (by rw [hl];exact hj)]
      simpa using hc
     ·rw [List.getElem?_eq_none (by simp;omega),List.getElem?_eq_none (by rw [hl];omega)]
    | _ => exact absurd hk (by simp)
 ·have hn0:n = 0:=by
   rcases h.2 with ⟨-,h0⟩ | ⟨g0,cap0,cur,he,-⟩
   ·exact h0
   ·cases he
  subst hn0
  have hps:ps = []:=List.eq_nil_of_length_eq_zero hn
  subst hps
  have HH:=Lib.hid h
  clear h
  go_enter Tryz.func74,Tryz.ntmps74
  go_wp2_with fail
  have hz:Calls Tryz.prog 207 #[.slice none 0 0,.int .i64 0,.int .i64 0,.func (.func 75) #[] #[]] w fun e w' => e = .returned (.tuple #[]) ∧ Grown w w':=by
   go_enter Tryz.func207,Tryz.ntmps207
   go_wp2_with fail
   refine wp_loop_rounds 1 ?_
   rw [rounds_succ]
   go_wp2_with fail
   go_end0
   exact ⟨rfl,by go_grown⟩
  have hs:Calls Tryz.prog 146 #[.slice none 0 0,.int .i64 0,.func (.func 75) #[] #[]] w fun e w' => e = .returned (.tuple #[]) ∧ Grown w w':=by
   go_enter Tryz.func146,Tryz.ntmps146
   go_wp2_with fail
   refine wp_loop_rounds 1 ?_
   rw [rounds_succ]
   go_wp2_with fail
   refine hz.mono ?_;rintro e w1 ⟨rfl,g1⟩
   go_wp2_with fail
   refine wp_loop_rounds 1 ?_
   rw [rounds_succ]
   go_wp2_with fail
   go_end0
   exact ⟨rfl,g1⟩
  refine hs.mono ?_;rintro e w1 ⟨rfl,g1⟩
  go_wp2_with fail
  go_end0
  exact ⟨rfl,by simpa [sortP,flatP] using own_grown HH.out g1,But.of_grown g1⟩
end Go.Proofs.YtcogckjpmmjmbaaGreat
