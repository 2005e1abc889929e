/- Pairs, sorted by their keys, those of one key in the turn in which they stood: slices.SortStableFunc of at most 20 pairs. -/
import Derived.Test.YtmokcgifknmchaaGreatYA
import Derived.Test.YtmokcgifknmchaaGreatMSort
import Derived.Test.YtmokcgifknmchaaGreatMIter
import Derived.Test.YtmokcgifknmchaaGreatMBkRefB
import Derived.Deep.CutRange
import Derived.Test.YtmokcgifknmchaaGreatMChain
import Derived.Test.YtmokcgifknmchaaGreatMSound
namespace Go.Proofs.YtmokcgifknmchaaGreat
open Go.ChangeShapes Go.WideShapes Go.ChangeAt Go.RowKit
set_option maxRecDepth 100000
set_option linter.unusedVariables false
def insP:List (Int × Int) → (Int × Int) → List (Int × Int)
 | [],x => [x]
 | y :: r,x => if y.1 ≤ x.1 then y :: insP r x else x :: y :: r
def sortP (ps:List (Int × Int)):List (Int × Int):=ps.foldl insP []
def UpP (ps:List (Int × Int)):Prop:=ps.Pairwise fun a b => a.1 ≤ b.1
theorem insP_mem (x:Int × Int):∀ (l:List (Int × Int)) (y:Int × Int),y ∈ insP l x ↔ y = x ∨ y ∈ l
 | [],y => by simp [insP]
 | z :: r,y => by
  unfold insP
  split
  ·simp only [List.mem_cons,insP_mem x r y]
   constructor
   ·rintro (h | h | h) <;> simp [h]
   ·rintro (h | h | h) <;> simp [h]
  ·simp
theorem insP_len (x:Int × Int):∀ (l:List (Int × Int)),(insP l x).length = l.length + 1
 | [] => rfl
 | z :: r => by unfold insP;split <;> simp [insP_len x r]
theorem insP_up (x:Int × Int):∀ (l:List (Int × Int)),UpP l → UpP (insP l x)
 | [],_ => by simp [insP,UpP]
 | z :: r,h => by
  unfold UpP at h
  rw [List.pairwise_cons] at h
  unfold insP
  split
  ·rename_i hz
   unfold UpP
   rw [List.pairwise_cons]
   refine ⟨fun y hy => ?_,insP_up x r h.2⟩
   rcases (insP_mem x r y).1 hy with rfl | hy
   ·exact hz
   ·exact h.1 y hy
  ·rename_i hz
   unfold UpP
   rw [List.pairwise_cons,List.pairwise_cons]
   refine ⟨fun y hy => ?_,h⟩
   simp only [List.mem_cons] at hy
   rcases hy with rfl | hy
   ·omega
   ·have:=h.1 y hy;omega
theorem foldP_up:∀ (ps l:List (Int × Int)),UpP l → UpP (ps.foldl insP l)
 | [],_,h => h
 | x :: r,l,h => foldP_up r _ (insP_up x l h)
theorem sortP_up (ps:List (Int × Int)):UpP (sortP ps):=foldP_up ps [] (by simp [UpP])
theorem foldP_len:∀ (ps l:List (Int × Int)),(ps.foldl insP l).length = l.length + ps.length
 | [],_ => rfl
 | x :: r,l => by rw [List.foldl_cons,foldP_len r,insP_len,List.length_cons];omega
theorem sortP_len (ps:List (Int × Int)):(sortP ps).length = ps.length:=by unfold sortP;rw [foldP_len];simp
theorem sortP_app (ps:List (Int × Int)) (x:Int × Int):sortP (ps ++ [x]) = insP (sortP ps) x:=by simp [sortP]
theorem insP_split (x:Int × Int):∀ (pre mid:List (Int × Int)),(∀ y ∈ pre,y.1 ≤ x.1) → (∀ y ∈ mid,x.1 < y.1) → insP (pre ++ mid) x = pre ++ x :: mid
 | [],[],_,_ => rfl
 | [],y :: r,_,h => by
  have:=h y (by simp)
  simp only [List.nil_append,insP,if_neg (show ¬ y.1 ≤ x.1 by omega)]
 | z :: p,mid,h,h' => by
  simp only [List.cons_append,insP,if_pos (h z (by simp)),insP_split x p mid (fun y hy => h y (by simp [hy])) h']
theorem flatP_len (ps:List (Int × Int)):(flatP ps).length = ps.length * 2:=by
 induction ps with
 | nil => rfl
 | cons x r ih => simp only [flatP,List.flatMap_cons,List.length_append,List.length_cons,List.length_nil] at ih ⊢;omega
theorem flatP_one (ps:List (Int × Int)):∀ u ∈ flatP ps,u.oneCell' = true:=by
 intro u hu
 simp only [flatP,List.mem_flatMap] at hu
 obtain ⟨p,-,hp⟩:=hu
 simp only [List.mem_cons,List.not_mem_nil,or_false] at hp
 rcases hp with rfl | rfl <;> rfl
theorem flatP_0 {ps:List (Int × Int)} {j:Nat} {x:Int × Int} (h:ps[j]? = some x):(flatP ps)[j * 2]? = some (.int .u64 x.1):=flat_at (k:=2) (o:=0) (fun _ => rfl) (by decide) ps j x h
theorem flatP_1 {ps:List (Int × Int)} {j:Nat} {x:Int × Int} (h:ps[j]? = some x):(flatP ps)[j * 2 + 1]? = some (.int .u64 x.2):=flat_at (k:=2) (o:=1) (fun _ => rfl) (by decide) ps j x h
theorem flatP_app (a b:List (Int × Int)):flatP (a ++ b) = flatP a ++ flatP b:=by simp [flatP]
theorem flatP_mid (a b:List (Int × Int)) (x y:Int × Int) (n:Nat) (hn:n = a.length * 2):(flatP (a ++ x :: b)).take n ++ [.int .u64 y.1,.int .u64 y.2] ++ (flatP (a ++ x :: b)).drop (n + 2) = flatP (a ++ y :: b):=by
 subst hn
 rw [flatP_app,List.take_left' (flatP_len a),flatP_app]
 have:(flatP a ++ flatP (x :: b)).drop (a.length * 2 + 2) = flatP b:=by
  rw [← flatP_len a,List.drop_length_add_append]
  simp [flatP]
 rw [this]
 simp [flatP]
def cmpV (a b:Int):Int:=if a < b then -1 else if b < a then 1 else 0
theorem Compare_at (a b:Int) (w:World):Calls Tryz.prog 71 #[.int .u64 a,.int .u64 b] w fun e w' => e = .returned (.int .i64 (cmpV a b)) ∧ Grown w w':=by
 obtain ⟨v,hv⟩:∃ v,cmpV a b = v:=⟨_,rfl⟩
 rw [hv]
 unfold cmpV at hv
 by_cases h1:a < b
 ·rw [if_pos h1] at hv;subst hv
  have e1:decide (a < b) = true:=decide_eq_true h1
  go_enter Tryz.func71,Tryz.ntmps71
  go_wp2
  go_ret
  exact ⟨rfl,by go_grown⟩
 ·rw [if_neg h1] at hv
  by_cases h2:b < a
  ·rw [if_pos h2] at hv;subst hv
   go_enter Tryz.func71,Tryz.ntmps71
   go_wp2
   go_ret
   exact ⟨rfl,by go_grown⟩
  ·rw [if_neg h2] at hv;subst hv
   go_enter Tryz.func71,Tryz.ntmps71
   go_wp2
   go_ret
   exact ⟨rfl,by go_grown⟩
theorem byKey_at (a a' b b':Int) (v:Int) (hv:cmpV a b = v) (w:World):Calls Tryz.prog 70 #[.agg #[.int .u64 a,.int .u64 a'],.agg #[.int .u64 b,.int .u64 b']] w fun e w' => e = .returned (.int .i64 v) ∧ Grown w w':=by
 have HV:=Lib.hid hv
 clear hv
 go_enter Tryz.func70,Tryz.ntmps70
 go_wp2_with fail
 refine (Compare_at _ _ _).mono ?_;rintro e w1 ⟨rfl,g1⟩
 rw [HV.out]
 go_wp2
 go_ret
 exact ⟨rfl,gtr (by go_grown) g1⟩
end Go.Proofs.YtmokcgifknmchaaGreat
namespace Go.Proofs.YtmokcgifknmchaaGreat
open Go.ChangeShapes Go.WideShapes Go.ChangeAt Go.RowKit
set_option maxRecDepth 100000
set_option linter.unusedVariables false
def Sorted1 (g:Nat) (ps:List (Int × Int)) (w:World) (e:Ending) (w':World):Prop:=e = .returned (.tuple #[]) ∧ Box w' g (flatP (sortP ps)) ∧ But (fun i => i = g) w w'
set_option maxHeartbeats 4000000 in
theorem insort_at (w:World) (g cap n:Nat) (ps:List (Int × Int)) (hn:ps.length = n) (hn1:1 ≤ n) (hn9:n ≤ 9999) (h:Box w g (flatP ps)) :
  Calls Tryz.prog 191 #[.slice (some ⟨g,0,none⟩) n cap,.int .i64 0,.int .i64 n,.func (.func 70) #[] #[]] w (Sorted1 g ps w):=by
 have HB:=Lib.hid h
 have HN:=Lib.hid hn
 clear h hn
 have hn':(n:Int) ≤ 9999:=by omega
 go_enter Tryz.func191,Tryz.ntmps191
 go_wp2_with fail
 go_loopw [8] (fun s8 wr => ∃ (done rest:List (Int × Int)),s8 = .int .i64 (done.length:Int) ∧ 1 ≤ done.length ∧ ps = done ++ rest ∧ Box wr g (flatP (sortP done ++ rest)) ∧ But (fun i => i = g) w wr) (fun s8 _ => n - (intOf s8).toNat)
 case atStart =>
  obtain ⟨x,r,hx⟩:∃ x r,ps = x :: r:=by
   have:=HN.out
   cases ps with
   | nil => simp at this;omega
   | cons x r => exact ⟨x,r,rfl⟩
  refine ⟨[x],r,by simp,by simp,by simpa using hx,?_,But.refl _ _⟩
  have:=HB.out
  rw [hx] at this
  simpa [sortP,insP] using this
 case round =>
  obtain ⟨done,rest,rfl,hd1,hps,hB,hq⟩:=hrel
  have HBr:=Lib.hid hB
  have HQ:=Lib.hid hq
  have HPS:=Lib.hid hps
  have hlen:done.length + rest.length = n:=by rw [← HN.out,hps];simp
  clear hB hq hps
  cases rest with
  | nil =>
   have hdn:done.length = n:=by simpa using hlen
   have hlt:¬ (done.length:Int) < (n:Int):=by omega
   go_wp2_with fail
   go_end0
   refine ⟨rfl,?_,HQ.out⟩
   have h1:=HBr.out
   rw [HPS.out]
   simpa using h1
  | cons x rest =>
   have hlt:(done.length:Int) < (n:Int):=by simp only [List.length_cons] at hlen;omega
   go_wp2_with fail
   go_loopw [9] (fun s9 wi => ∃ (j:Nat) (pre mid:List (Int × Int)),s9 = .int .i64 (j:Int) ∧ pre.length = j ∧ sortP done = pre ++ mid ∧ (∀ y ∈ mid,x.1 < y.1) ∧ Box wi g (flatP (pre ++ x :: (mid ++ rest))) ∧ But (fun i => i = g) w wi) (fun s9 _ => (intOf s9).toNat)
   case atStart => exact ⟨done.length,sortP done,[],rfl,sortP_len done,by simp,fun y hy => by simp at hy,by simpa using HBr.out,HQ.out⟩
   case round =>
    obtain ⟨j,pre,mid,rfl,hj,hsp,hmid,hBi,hqi⟩:=hrel
    have HBi:=Lib.hid hBi
    have HQi:=Lib.hid hqi
    have HSP:=Lib.hid hsp
    have HM:=Lib.hid hmid
    have HJ:=Lib.hid hj
    clear hBi hqi hsp hmid hj
    cases j with
    | zero =>
     have h00:¬ (0:Int) < 0:=by omega
     go_wp2_with fail
     refine wp_region_grow (by kernel_rfl) (by kernel_rfl) ?_
     repeat (go_big_quiet_step (fail))
     refine wpQuiet_nil ?_
     rintro w2 ⟨⟨_,g2⟩,rfl⟩
     go_wp2_with fail
     have hpre:pre = []:=List.eq_nil_of_length_eq_zero HJ.out
     refine ⟨⟨done ++ [x],rest,by simp,by simp,by rw [HPS.out];simp,?_,HQi.out.trans (But.of_grown g2)⟩,?_⟩
     ·have h1:=HBi.out.grown g2
      have h2:sortP (done ++ [x]) = x :: mid:=by
       rw [sortP_app,HSP.out,hpre]
       exact insP_split x [] mid (fun y hy => by simp at hy) HM.out
      rw [h2]
      rw [hpre] at h1
      simpa using h1
     ·simp [intOf];omega
    | succ i =>
     obtain ⟨j,hji⟩:∃ j,i + 1 = j:=⟨_,rfl⟩
     have HJI:=Lib.hid hji
     rw [hji]
     have hj0:decide (0 < j) = true:=decide_eq_true (by omega)
     have hj1:(j:Int) - 1 = i:=by omega
     have hplen:pre.length = j:=by rw [HJ.out,hji]
     have htot:pre.length + (1 + (mid.length + rest.length)) = n:=by
      have h1:=sortP_len done
      rw [HSP.out] at h1
      simp only [List.length_append] at h1
      simp only [List.length_cons] at hlen
      omega
     obtain ⟨p,z,hpz⟩:∃ p z,pre = p ++ [z]:=by
      rcases List.eq_nil_or_concat pre with h | ⟨p,z,h⟩
      ·rw [h] at hplen;simp at hplen;omega
      ·exact ⟨p,z,by simpa using h⟩
     have hpl:p.length = i:=by rw [hpz] at hplen;simp at hplen;omega
     have hL:pre ++ x :: (mid ++ rest) = p ++ z :: x :: (mid ++ rest):=by rw [hpz];simp
     have hBz:=HBi.out
     rw [hL] at hBz
     have hz:(p ++ z :: x :: (mid ++ rest))[i]? = some z:=by rw [List.getElem?_append_right (by omega),hpl];simp
     have hx:(p ++ z :: x :: (mid ++ rest))[j]? = some x:=by rw [List.getElem?_append_right (by omega),show j - p.length = 1 by omega];simp
     have hjn:j < n:=by omega
     have hin:i < n:=by omega
     have hjn':(j:Int) ≤ 9999:=by omega
     have d0:∀ q:GrW wr,q.w.cell? ⟨g,j * 2,none⟩ = some (.int .u64 x.1):=GrW.cell (hBz.cell _ _ (flatP_0 hx))
     have d1:∀ q:GrW wr,q.w.cell? ⟨g,j * 2 + 1,none⟩ = some (.int .u64 x.2):=GrW.cell (hBz.cell _ _ (flatP_1 hx))
     have d2:∀ q:GrW wr,q.w.cell? ⟨g,i * 2,none⟩ = some (.int .u64 z.1):=GrW.cell (hBz.cell _ _ (flatP_0 hz))
     have d3:∀ q:GrW wr,q.w.cell? ⟨g,i * 2 + 1,none⟩ = some (.int .u64 z.2):=GrW.cell (hBz.cell _ _ (flatP_1 hz))
     have HBZ:=Lib.hid hBz
     have HPZ:=Lib.hid hpz
     have HPL:=Lib.hid hpl
     have HX:=Lib.hid hx
     have HZ:=Lib.hid hz
     clear hji hplen htot hpl hL hBz hx hz hpz
     by_cases hlt2:x.1 < z.1
     ·have hv:cmpV x.1 z.1 = -1:=if_pos hlt2
      have HV:=Lib.hid hv
      clear hv
      go_wp2_with fail
      refine wp_region_grow (by kernel_rfl) (by kernel_rfl) ?_
      repeat (go_big_quiet_step ((go_at_call 70;exact grcall (byKey_at _ _ _ _ _ HV.out _))))
      refine wpQuiet_nil ?_
      rintro w2 ⟨⟨_,g2⟩,rfl⟩
      clear d0 d1 d2 d3
      go_wp2_with fail
      refine wp_region_plant (.two [0,1,2,3,4,5,6,7,8,10,11,12] 9 (.one [] 13 (.one [14] 15 (.one [16] 17 (.fin [])))) 13 (.one [] 9 (.one [14] 15 (.one [16] 17 (.fin []))))) (by kernel_rfl) (by kernel_rfl) (by kernel_rfl) ?_
      intro w3 g3
      have hB3:=HBZ.out.grown (gtr g2 g3)
      have d0:w3.cell? ⟨g,j * 2,none⟩ = some (.int .u64 x.1):=hB3.cell _ _ (flatP_0 HX.out)
      have d1:w3.cell? ⟨g,j * 2 + 1,none⟩ = some (.int .u64 x.2):=hB3.cell _ _ (flatP_1 HX.out)
      have d2:w3.cell? ⟨g,i * 2,none⟩ = some (.int .u64 z.1):=hB3.cell _ _ (flatP_0 HZ.out)
      have d3:w3.cell? ⟨g,i * 2 + 1,none⟩ = some (.int .u64 z.2):=hB3.cell _ _ (flatP_1 HZ.out)
      refine plan_two ?_
      simp only [nths,nth,List.map_cons,List.map_nil,List.getD_cons_zero,List.getD_cons_succ]
      repeat go_big_quiet_step (fail)
      refine wpQuiet_nil ?_
      constructor
      ·go_wp2_with fail
       refine nxt_true (plan_one ?_)
       simp only [nths,nth,List.map_nil,List.getD_cons_zero,List.getD_cons_succ]
       refine wpQuiet_nil ?_
       go_wp2_with fail
       refine nxt_true (plan_one ?_)
       simp only [nths,nth,List.map_cons,List.map_nil,List.getD_cons_zero,List.getD_cons_succ]
       repeat go_big_quiet_step (fail)
       refine wpQuiet_nil ?_
       refine store_part rfl 106 _ _ rfl g (j * 2) rfl #[.int .u64 z.1,.int .u64 z.2] rfl (flatP (p ++ z :: x :: (mid ++ rest))) _ hB3 ?_ (by kernel_rfl) rfl rfl ?_
       case refine_1 => (rw [flatP_len];have:=HPL.out;have:=HJI.out;simp;omega)
       intro w4 B4 q4
       go_wp2_with fail
       have HB4:Hid (Box w4 g (flatP ((p ++ [z]) ++ z :: (mid ++ rest)))):=Lib.hid (by
        have h1:=flatP_mid (p ++ [z]) (mid ++ rest) x z (j * 2) (by have:=HPL.out;have:=HJI.out;simp;omega)
        have h2:p ++ z :: x :: (mid ++ rest) = (p ++ [z]) ++ x :: (mid ++ rest):=by simp
        rw [h2] at B4
        rw [← h1];exact B4)
       clear B4
       refine nxt_true (plan_one ?_)
       simp only [nths,nth,List.map_cons,List.map_nil,List.getD_cons_zero,List.getD_cons_succ]
       repeat go_big_quiet_step (fail)
       refine wpQuiet_nil ?_
       refine store_part rfl 106 _ _ rfl g (i * 2) rfl #[.int .u64 x.1,.int .u64 x.2] rfl (flatP ((p ++ [z]) ++ z :: (mid ++ rest))) _ HB4.out ?_ (by kernel_rfl) rfl rfl ?_
       case refine_1 => (rw [flatP_len];have:=HPL.out;have:=HJI.out;simp;omega)
       intro w5 B5 q5
       go_wp2_with fail
       have HB5:Hid (Box w5 g (flatP (p ++ x :: ((z :: mid) ++ rest)))):=Lib.hid (by
        have h1:=flatP_mid p (z :: (mid ++ rest)) z x (i * 2) (by rw [HPL.out])
        have h2:(p ++ [z]) ++ z :: (mid ++ rest) = p ++ z :: (z :: (mid ++ rest)):=by simp
        rw [h2] at B5
        have h3:p ++ x :: ((z :: mid) ++ rest) = p ++ x :: (z :: (mid ++ rest)):=by simp
        rw [h3,← h1];exact B5)
       clear B5
       refine nxt_true (plan_fin ?_)
       simp only [nths,List.map_nil]
       refine wpQuiet_nil ?_
       clear d0 d1 d2 d3
       go_wp2_with fail
       refine ⟨⟨i,p,z :: mid,rfl,HPL.out,by rw [HSP.out,HPZ.out];simp,?_,HB5.out,(HQi.out.trans (But.of_grown (gtr g2 g3))).trans (q4.trans q5)⟩,by simp [intOf];omega⟩
       intro y hy
       simp only [List.mem_cons] at hy
       rcases hy with rfl | hy
       ·exact hlt2
       ·exact HM.out y hy
      ·go_wp2_with fail
       refine nxt_true (plan_one ?_)
       simp only [nths,nth,List.map_nil,List.getD_cons_zero,List.getD_cons_succ]
       refine wpQuiet_nil ?_
       go_wp2_with fail
       refine nxt_true (plan_one ?_)
       simp only [nths,nth,List.map_cons,List.map_nil,List.getD_cons_zero,List.getD_cons_succ]
       repeat go_big_quiet_step (fail)
       refine wpQuiet_nil ?_
       refine store_part rfl 106 _ _ rfl g (j * 2) rfl #[.int .u64 z.1,.int .u64 z.2] rfl (flatP (p ++ z :: x :: (mid ++ rest))) _ hB3 ?_ (by kernel_rfl) rfl rfl ?_
       case refine_1 => (rw [flatP_len];have:=HPL.out;have:=HJI.out;simp;omega)
       intro w4 B4 q4
       go_wp2_with fail
       have HB4:Hid (Box w4 g (flatP ((p ++ [z]) ++ z :: (mid ++ rest)))):=Lib.hid (by
        have h1:=flatP_mid (p ++ [z]) (mid ++ rest) x z (j * 2) (by have:=HPL.out;have:=HJI.out;simp;omega)
        have h2:p ++ z :: x :: (mid ++ rest) = (p ++ [z]) ++ x :: (mid ++ rest):=by simp
        rw [h2] at B4
        rw [← h1];exact B4)
       clear B4
       refine nxt_true (plan_one ?_)
       simp only [nths,nth,List.map_cons,List.map_nil,List.getD_cons_zero,List.getD_cons_succ]
       repeat go_big_quiet_step (fail)
       refine wpQuiet_nil ?_
       refine store_part rfl 106 _ _ rfl g (i * 2) rfl #[.int .u64 x.1,.int .u64 x.2] rfl (flatP ((p ++ [z]) ++ z :: (mid ++ rest))) _ HB4.out ?_ (by kernel_rfl) rfl rfl ?_
       case refine_1 => (rw [flatP_len];have:=HPL.out;have:=HJI.out;simp;omega)
       intro w5 B5 q5
       go_wp2_with fail
       have HB5:Hid (Box w5 g (flatP (p ++ x :: ((z :: mid) ++ rest)))):=Lib.hid (by
        have h1:=flatP_mid p (z :: (mid ++ rest)) z x (i * 2) (by rw [HPL.out])
        have h2:(p ++ [z]) ++ z :: (mid ++ rest) = p ++ z :: (z :: (mid ++ rest)):=by simp
        rw [h2] at B5
        have h3:p ++ x :: ((z :: mid) ++ rest) = p ++ x :: (z :: (mid ++ rest)):=by simp
        rw [h3,← h1];exact B5)
       clear B5
       refine nxt_true (plan_fin ?_)
       simp only [nths,List.map_nil]
       refine wpQuiet_nil ?_
       clear d0 d1 d2 d3
       go_wp2_with fail
       refine ⟨⟨i,p,z :: mid,rfl,HPL.out,by rw [HSP.out,HPZ.out];simp,?_,HB5.out,(HQi.out.trans (But.of_grown (gtr g2 g3))).trans (q4.trans q5)⟩,by simp [intOf];omega⟩
       intro y hy
       simp only [List.mem_cons] at hy
       rcases hy with rfl | hy
       ·exact hlt2
       ·exact HM.out y hy
     ·obtain ⟨v,hv,hv0⟩:∃ v,cmpV x.1 z.1 = v ∧ ¬ v < 0:=by
       refine ⟨_,rfl,?_⟩
       unfold cmpV
       rw [if_neg hlt2]
       split <;> omega
      have HV:=Lib.hid hv
      clear hv
      go_wp2_with fail
      refine wp_region_grow (by kernel_rfl) (by kernel_rfl) ?_
      repeat (go_big_quiet_step ((go_at_call 70;exact grcall (byKey_at _ _ _ _ _ HV.out _))))
      refine wpQuiet_nil ?_
      rintro w2 ⟨⟨_,g2⟩,rfl⟩
      clear d0 d1 d2 d3
      go_wp2_with fail
      refine ⟨⟨done ++ [x],rest,by simp,by simp,by rw [HPS.out];simp,?_,HQi.out.trans (But.of_grown g2)⟩,by simp [intOf];omega⟩
      have h1:=HBZ.out.grown g2
      have hup:=sortP_up done
      have h2:sortP (done ++ [x]) = p ++ z :: x :: mid:=by
       rw [sortP_app,HSP.out]
       rw [HSP.out,HPZ.out] at hup
       rw [HPZ.out,insP_split x (p ++ [z]) mid ?_ HM.out]
       ·simp
       ·unfold UpP at hup
        rw [List.pairwise_append] at hup
        have h3:=hup.1
        rw [List.pairwise_append] at h3
        intro y hy
        simp only [List.mem_append,List.mem_singleton] at hy
        rcases hy with hy | rfl
        ·have:=h3.2.2 y hy z (by simp);omega
        ·omega
      rw [h2]
      simpa using h1
end Go.Proofs.YtmokcgifknmchaaGreat
namespace Go.Proofs.YtmokcgifknmchaaGreat
open Go.ChangeShapes Go.WideShapes Go.ChangeAt Go.RowKit
set_option maxRecDepth 100000
set_option linter.unusedVariables false
theorem stable_at (w:World) (g cap n:Nat) (ps:List (Int × Int)) (hn:ps.length = n) (hn1:1 ≤ n) (hn9:n < 20) (h:Box w g (flatP ps)) :
  Calls Tryz.prog 135 #[.slice (some ⟨g,0,none⟩) n cap,.int .i64 n,.func (.func 70) #[] #[]] w (Sorted1 g ps w):=by
 have HB:=Lib.hid h
 have HN:=Lib.hid hn
 have e1:decide ((20:Int) ≤ (n:Int)) = false:=decide_eq_false (by omega)
 have e2:decide (20 ≤ n) = false:=decide_eq_false (by omega)
 have e3:decide ((20:Int) < (n:Int)) = false:=decide_eq_false (by omega)
 have e4:decide (20 < n) = false:=decide_eq_false (by omega)
 clear h hn
 go_enter Tryz.func135,Tryz.ntmps135
 go_wp2_with fail
 refine wp_loop_rounds 1 ?_
 rw [rounds_succ]
 go_wp2_with fail
 refine (insort_at _ g cap n ps HN.out hn1 (by omega) HB.out).mono ?_;rintro e w1 ⟨rfl,hB,q1⟩
 go_wp2_with fail
 refine wp_loop_rounds 1 ?_
 rw [rounds_succ]
 go_wp2_with fail
 go_end0
 exact ⟨rfl,hB,q1⟩
theorem sortStable_at (w:World) (lo n:Nat) (v:Value) (ps:List (Int × Int)) (hn:ps.length = n) (hn9:n < 20) (h:w.ownsRow lo 106 2 v n (flatP ps)) (hv:0 < n ∨ v = .slice none 0 0) :
  Calls Tryz.prog 69 #[v,.func (.func 70) #[] #[]] w
   fun e w' => e = .returned (.tuple #[]) ∧ w'.ownsRow lo 106 2 v n (flatP (sortP ps)) ∧ But (InRow v) w w':=by
 rcases hv with hv | rfl
 ·obtain ⟨g,cap,rfl⟩:=own_open h hv
  have hb:=own_at h (g:=g) rfl
  have hbox:Box w g (flatP ps):=by
   rcases h.2 with ⟨he,-⟩ | ⟨g0,cap0,cur,he,-,hh,-⟩
   ·cases he
   ·cases he
    refine ⟨fun j u hu => ?_,fun j => ?_,hb.2⟩
    ·have:=h.cells (g:=g) rfl j u hu;rwa [add0] at this
    ·unfold World.frozen?;rw [hh];simp
  have HB:=Lib.hid hbox
  have HH:=Lib.hid h
  clear h hbox
  go_enter Tryz.func69,Tryz.ntmps69
  go_wp2_with fail
  refine (stable_at _ g cap n ps hn (by omega) hn9 HB.out).mono ?_;rintro e w1 ⟨rfl,hB,q1⟩
  go_wp2_with fail
  go_end0
  refine ⟨rfl,?_,q1.mono (fun i hi => by subst hi;rfl)⟩
  have hx:=HH.out
  refine ⟨by rw [flatP_len,sortP_len];rw [hn],.inr ?_⟩
  rcases hx.2 with ⟨he,-⟩ | ⟨g0,cap0,cur,he,h1,hh,h2,h3,h4,h5⟩
  ·cases he
  ·cases he
   have hk:=q1.1.2.2 g hb.2
   rw [hh] at hk
   cases hw:w1.heap[g]? with
   | none => rw [hw] at hk;cases hk
   | some o =>
    rw [hw] at hk
    cases o with
    | cells cur' t' fr' =>
     obtain ⟨rfl,rfl,hsz,-⟩:=hk
     refine ⟨g,cap,cur',rfl,h1,hw,h2,h3,hsz.trans h4,?_⟩
     have hl:(flatP (sortP ps)).length = n * 2:=by rw [flatP_len,sortP_len,hn]
     apply List.ext_getElem?
     intro j
     by_cases hj:j < n * 2
     ·have hc:=hB.cell j _ (List.getElem?_eq_getElem (by rw [hl];exact hj))
      rw [List.getElem?_take_of_lt hj]
      simp only [World.cell?,hw] at hc
      rw [show (flatP (sortP ps))[j]? = some _ from List.getElem?_eq_getElem (by rw [hl];exact hj)]
      simpa using hc
     ·rw [List.getElem?_eq_none (by simp;omega),List.getElem?_eq_none (by rw [hl];omega)]
    | _ => exact absurd hk (by simp)
 ·have hn0:n = 0:=by
   rcases h.2 with ⟨-,h0⟩ | ⟨g0,cap0,cur,he,-⟩
   ·exact h0
   ·cases he
  subst hn0
  have hps:ps = []:=List.eq_nil_of_length_eq_zero hn
  subst hps
  have HH:=Lib.hid h
  clear h
  go_enter Tryz.func69,Tryz.ntmps69
  go_wp2_with fail
  have hz:Calls Tryz.prog 191 #[.slice none 0 0,.int .i64 0,.int .i64 0,.func (.func 70) #[] #[]] w fun e w' => e = .returned (.tuple #[]) ∧ Grown w w':=by
   go_enter Tryz.func191,Tryz.ntmps191
   go_wp2_with fail
   refine wp_loop_rounds 1 ?_
   rw [rounds_succ]
   go_wp2_with fail
   go_end0
   exact ⟨rfl,by go_grown⟩
  have hs:Calls Tryz.prog 135 #[.slice none 0 0,.int .i64 0,.func (.func 70) #[] #[]] w fun e w' => e = .returned (.tuple #[]) ∧ Grown w w':=by
   go_enter Tryz.func135,Tryz.ntmps135
   go_wp2_with fail
   refine wp_loop_rounds 1 ?_
   rw [rounds_succ]
   go_wp2_with fail
   refine hz.mono ?_;rintro e w1 ⟨rfl,g1⟩
   go_wp2_with fail
   refine wp_loop_rounds 1 ?_
   rw [rounds_succ]
   go_wp2_with fail
   go_end0
   exact ⟨rfl,g1⟩
  refine hs.mono ?_;rintro e w1 ⟨rfl,g1⟩
  go_wp2_with fail
  go_end0
  exact ⟨rfl,by simpa [sortP,flatP] using own_grown HH.out g1,But.of_grown g1⟩
end Go.Proofs.YtmokcgifknmchaaGreat
namespace Go.Proofs.YtmokcgifknmchaaGreat
open Go.ChangeShapes Go.WideShapes Go.ChangeAt Go.RowKit Go.Shelf
set_option maxRecDepth 100000
set_option linter.unusedVariables false
attribute [local go_sem] Oper.semAt_some
theorem isInsert_at (a b o k y v l q:Int) (r:Bool) (hr:decide (k = 1) = r) (w:World) :
  Calls Tryz.prog 134 #[.agg #[.int .i64 a,.int .u64 b,.int .i64 o,.int .i64 k,.int .u64 y,.int .u64 v,.int .i64 l,.int .u64 q]] w fun e w' => e = .returned (.bool r) ∧ Grown w w':=by
 have hr':(k == 1) = r:=by rw [← hr];rfl
 clear hr
 go_enter Tryz.func134,Tryz.ntmps134
 go_wp2
 go_ret
 exact ⟨rfl,by go_grown⟩
theorem hasKey_at (a b o k y v l q:Int) (r:Bool) (hr:decide (k = 1 ∧ q = 1) = r) (w:World) :
  Calls Tryz.prog 68 #[.agg #[.int .i64 a,.int .u64 b,.int .i64 o,.int .i64 k,.int .u64 y,.int .u64 v,.int .i64 l,.int .u64 q]] w fun e w' => e = .returned (.bool r) ∧ Grown w w':=by
 by_cases h1:k = 1
 ·have e1:decide (k = 1) = true:=decide_eq_true h1
  have hr':(q == 1) = r:=by rw [← hr];simp only [h1,true_and];rfl
  clear hr h1
  have HE:=Lib.hid e1
  clear e1
  go_enter Tryz.func68,Tryz.ntmps68
  go_wp2_with fail
  refine (isInsert_at a b o k y v l q true HE.out _).mono ?_;rintro e w1 ⟨rfl,g1⟩
  have c4:w1.cell? ⟨w.heap.size,7,none⟩ = some (.int .u64 q):=gcell g1 (by simp)
  go_wp2
  go_ret
  exact ⟨rfl,gtr (by go_grown) g1⟩
 ·have e1:decide (k = 1) = false:=decide_eq_false h1
  have hr':r = false:=by rw [← hr];simp [h1]
  subst hr'
  clear hr h1
  have HE:=Lib.hid e1
  clear e1
  go_enter Tryz.func68,Tryz.ntmps68
  go_wp2_with fail
  refine (isInsert_at a b o k y v l q false HE.out _).mono ?_;rintro e w1 ⟨rfl,g1⟩
  go_wp2
  go_ret
  exact ⟨rfl,gtr (by go_grown) g1⟩
theorem buckets_at (w:World) (c:Cf) (d:Wd) (ws:List Int) (n:Int) (s:St) (h:WdAt w c d ws n s):Calls Tryz.prog 66 #[.pointer (some ⟨d.x,0,none⟩)] w fun e w' => e = .returned (.int .i64 c.b) ∧ Grown w w':=by
 have k0:=h.k0
 have k1:=h.k1
 have k2:=h.k2
 have k3:=h.k3
 have k4:=h.k4
 have HU:Hid ((if zOk c.t c.b c.i c.f c.k = true then 0 else 1) = (0:Int)):=Lib.hid (if_pos h.book.ok.z)
 clear h
 go_enter Tryz.func66,Tryz.ntmps66
 go_wp2_with fail
 refine (May_at _ _ _ _ _ _ _ HU.out).mono ?_;rintro e w1 ⟨rfl,g1⟩
 replace k1:=gcell g1 k1
 go_wp2
 go_ret
 exact ⟨rfl,g1⟩
def nodesTo (c:Cf) (ws:List Int):Nat → List Int
 | 0 => []
 | k + 1 => nodesTo c ws k ++ chainI c ws k
def rawP (c:Cf) (ws:List Int) (s:St):List (Int × Int):=(foldN c ws s (nodesTo c ws c.b) ([],[])).2
theorem stepP_len (c:Cf) (ws:List Int) (s:St) (acc:List Int × List (Int × Int)) (i:Int):acc.2.length ≤ (stepP c ws s acc i).2.length:=by unfold stepP;split <;> simp
theorem foldN_len (c:Cf) (ws:List Int) (s:St):∀ (l:List Int) (acc:List Int × List (Int × Int)),acc.2.length ≤ (foldN c ws s l acc).2.length
 | [],acc => Nat.le_refl _
 | x :: r,acc => Nat.le_trans (stepP_len c ws s acc x) (foldN_len c ws s r _)
theorem foldN_app (c:Cf) (ws:List Int) (s:St) (a b:List Int) (acc:List Int × List (Int × Int)):foldN c ws s (a ++ b) acc = foldN c ws s b (foldN c ws s a acc):=by simp [foldN]
theorem nodesTo_le (c:Cf) (ws:List Int) (k:Nat):∀ m,k ≤ m → ∃ r,nodesTo c ws m = nodesTo c ws k ++ r
 | 0,h => ⟨[],by have hk:k = 0:=Nat.le_zero.1 h;subst hk;simp⟩
 | m + 1,h => by
  by_cases hk:k ≤ m
  ·obtain ⟨r,hr⟩:=nodesTo_le c ws k m hk
   exact ⟨r ++ chainI c ws m,by rw [show nodesTo c ws (m + 1) = nodesTo c ws m ++ chainI c ws m from rfl,hr,List.append_assoc]⟩
  ·have hk':k = m + 1:=by omega
   subst hk'
   exact ⟨[],by simp⟩
theorem info_pair:(Tryz.prog.info? 106).map (fun i => (i.zero,i.size,i.bytes)) = some (some (.agg #[.int .u64 0,.int .u64 0]),2,16):=by kernel_rfl
theorem leaves_marks {P:Program} {fn:Func} {tmps:Array Value} {R:Ending → World → Prop} {n:Nat}:∀ (marks:List Nat) (W:World),marks.Nodup → (∀ D ∈ marks,W.heap[D]? = some (.deferred (some []))) →
  (∀ W',Kept (fun i => i ∈ marks) W W' → LeavesIn Fence.wide n P fn tmps R [] .returning W') → LeavesInM Fence.wide n P fn tmps R (marks.map fun D => { target:=.collected D,args:=#[] }) .returning W
 | [],W,_,_,h => h W (Kept.refl _ _)
 | D :: ds,W,hnd,hm,h => by
  rw [List.nodup_cons] at hnd
  have hD:=hm D (by simp)
  have hk:Kept (fun i => i = D) W (W.putObj D (.deferred none)):=kept_put hD rfl rfl
  refine ⟨by simp,.inl ⟨D,_,rfl,run_takeDeferred hD,?_⟩⟩
  refine leaves_marks ds _ hnd.2 (fun E hE => ?_) (fun W' q => h W' ((hk.mono (fun i hi => by simp [hi])).trans (q.mono (fun i hi => by simp [hi]))))
  have hne:E ≠ D:=fun e => hnd.1 (e ▸ hE)
  exact (World.putObj_heap_other hne).trans (hm E (by simp [hE]))
def PairsTold (w:World) (ps:List (Int × Int)) (e:Ending) (w':World):Prop:=∃ v,e = .returned v ∧ FlatAt w' w.heap.size v (flatP ps) ps.length ∧ Grown w w'
set_option maxHeartbeats 4000000 in
theorem Pairs_at (w:World) (c:Cf) (d:Wd) (ws:List Int) (n:Int) (s:St) (h:WdAt w c d ws n s) (hI:Inv c s) (hws:WOk ws) (hfew:(rawP c ws s).length < 20) :
  Calls Tryz.prog 19 #[.pointer (some ⟨d.x,0,none⟩)] w (PairsTold w (sortP (rawP c ws s))):=by
 have HD:=Lib.hid h
 have hb64:=h.book.ok.b64
 clear h
 refine (callsIn_wide (n:=9)).1 ?_
 refine callsIn_of_wp_marks Tryz.func19 rfl trivial ?_ rfl
 simp only [Tryz.ntmps19,List.size_toArray,List.length_cons,List.length_nil,Nat.reduceAdd,Nat.reduceSub,Array.replicate_succ,Array.replicate_zero,List.push_toArray,List.append_toArray,List.nil_append,List.cons_append]
 have hmm:=flag_make (P:=Tryz.prog)
 gi_wp2_with fail
 have G0:Grown w (((w.alloc (.cells #[.slice none 0 0] 55)).alloc (.map #[] 0)).alloc (.cells #[.map (some (w.heap.size + 1))] 135)):=gtr (show Grown w (w.alloc (.cells #[.slice none 0 0] 55)) by go_grown) (gtr (grown_map _) (show Grown ((w.alloc (.cells #[.slice none 0 0] 55)).alloc (.map #[] 0)) (((w.alloc (.cells #[.slice none 0 0] 55)).alloc (.map #[] 0)).alloc (.cells #[.map (some (w.heap.size + 1))] 135)) by go_grown))
 refine ⟨trivial,?_⟩
 refine (callsIn_wide.2 (buckets_at _ c d ws n s (HD.out.grown G0))).mono ?_
 rintro e w1 ⟨rfl,g1⟩
 have G1:=gtr G0 g1
 have c0:=gcell g1 (show (((w.alloc (.cells #[.slice none 0 0] 55)).alloc (.map #[] 0)).alloc (.cells #[.map (some (w.heap.size + 1))] 135)).cell? ⟨w.heap.size + 1 + 1,0,none⟩ = some (.map (some (w.heap.size + 1))) by simp [go_sem])
 have B0:=(Box.made w [.slice none 0 0] 55).grown (gtr (grown_map _) (gtr (show Grown ((w.alloc (.cells #[.slice none 0 0] 55)).alloc (.map #[] 0)) (((w.alloc (.cells #[.slice none 0 0] 55)).alloc (.map #[] 0)).alloc (.cells #[.map (some (w.heap.size + 1))] 135)) by go_grown) g1))
 have M0:=(FlagAt.made (w.alloc (.cells #[.slice none 0 0] 55)) .i64).grown (gtr (show Grown ((w.alloc (.cells #[.slice none 0 0] 55)).alloc (.map #[] 0)) (((w.alloc (.cells #[.slice none 0 0] 55)).alloc (.map #[] 0)).alloc (.cells #[.map (some (w.heap.size + 1))] 135)) by go_grown) g1)
 have hz1:(w.alloc (.cells #[.slice none 0 0] 55)).heap.size = w.heap.size + 1:=World.size_alloc _ _
 rw [hz1] at M0
 have hlt1:=World.block_lt_of_cell? _ _ c0
 simp only at hlt1
 gi_wp2_with fail
 refine wpIn_loop (fun a' wr => ∃ (k:Nat) (marks Z:List Nat) (v:Value) (u5 u6 u11 u12 u13 u14 u15 u16 u17 u18 u19 u20 u21 u22 u23 u24 u25 u26 u27 u28 u29 u30 u31 u32 u33 u34 u35 u36 u37 u38 u39:Value),a' = { tmps:=(.pointer (some ⟨d.x,0,none⟩) :: undef :: .slice none 0 0 :: .pointer (some ⟨w.heap.size,0,none⟩) :: .pointer (some ⟨w.heap.size + 1 + 1,0,none⟩) :: u5 :: u6 :: .map (some (w.heap.size + 1)) :: .pointer (some ⟨d.x,0,none⟩) :: .int .i64 c.b :: .int .i64 (k:Int) :: u11 :: u12 :: u13 :: u14 :: u15 :: u16 :: u17 :: u18 :: u19 :: u20 :: u21 :: u22 :: u23 :: u24 :: u25 :: u26 :: u27 :: u28 :: u29 :: u30 :: u31 :: u32 :: u33 :: u34 :: u35 :: u36 :: u37 :: u38 :: u39 :: undef :: undef :: undef :: []).toArray,defers:=marks.map fun D => { target:=.collected D,args:=#[] } } ∧ k ≤ c.b ∧ marks.Nodup ∧ (∀ D ∈ marks,D ∈ Z ∧ w.heap.size + 1 + 1 < D) ∧ (∀ i ∈ Z,i < wr.heap.size) ∧ (w.heap.size ∈ Z ∧ w.heap.size + 1 ∈ Z ∧ w.heap.size + 1 + 1 ∈ Z) ∧
   PrI w w.heap.size (w.heap.size + 1 + 1) (w.heap.size + 1) Z marks v (foldN c ws s (nodesTo c ws k) ([],[])) wr ∧ w.heap.size + 1 + 1 < wr.heap.size) (fun a' _ => c.b - (intOf (a'.tmps.getD 10 undef)).toNat) ?start ?round
 case start => exact ⟨0,[],[w.heap.size,w.heap.size + 1,w.heap.size + 1 + 1],.slice none 0 0,_,_,_,_,_,_,_,_,_,_,_,_,_,_,_,_,_,_,_,_,_,_,_,_,_,_,_,_,_,_,_,rfl,Nat.zero_le _,List.nodup_nil,(fun D hD => by simp at hD),(fun i hi => by simp at hi;omega),⟨by simp,by simp,by simp⟩,⟨G1,B0,c0,M0,own_nil _ _ _ _,.inr rfl,(fun i hi => by cases hi),(fun D hD => by simp at hD)⟩,hlt1⟩
 case round =>
  rintro a' wr ⟨k,marks,Z,v,u5,u6,u11,u12,u13,u14,u15,u16,u17,u18,u19,u20,u21,u22,u23,u24,u25,u26,u27,u28,u29,u30,u31,u32,u33,u34,u35,u36,u37,u38,u39,rfl,hk,hnd,hmz,hzlt,hz,hP,hszr⟩
  have HP:=Lib.hid hP
  obtain ⟨acc,hacc⟩:∃ acc,foldN c ws s (nodesTo c ws k) ([],[]) = acc:=⟨_,rfl⟩
  have HACC:=Lib.hid hacc
  rw [hacc] at hP
  clear hacc
  have hmlt:∀ D ∈ marks,D < wr.heap.size:=fun D hD => (Array.getElem?_eq_some_iff.1 (hP.mks D hD)).1
  by_cases hkb:k < c.b
  ·have hlt:(k:Int) < (c.b:Int):=by omega
   gi_wp2_with fail
   refine ⟨trivial,?_⟩
   refine (callsIn_wide.2 (nodes_at _ _ _)).mono ?_
   rintro e w2 ⟨b1,b2,rfl,c1,c2,hb1,hb2,g2⟩
   have hP2:=hP.grown g2
   have l1:=World.block_lt_of_cell? _ _ c1
   have l2:=World.block_lt_of_cell? _ _ c2
   simp only at l1 l2
   have hsz2:=g2.2.2
   have hrw:∀ i,InRow v i → w.heap.size ≤ i ∧ i < wr.heap.size:=fun i hi => own_at hP.row hi
   gi_wp2_with fail
   refine range_law (gf:=128) (lb:=#[.pointer (some ⟨b1,0,none⟩),.pointer (some ⟨b2,0,none⟩)]) rfl (fun _ _ => rfl)
    (nodes1_iter w w2 c d ws n s HD.out hI hws hP2.g b1 b2 k c1 c2 (fun i => w.heap.size ≤ i ∧ i ≠ b1 ∧ i ≠ b2) (fun i hi => hi.1) (fun hi => hi.2.1 rfl) (fun hi => hi.2.2 rfl)) ⟨by omega,by omega,by omega⟩ (fun _ => rfl)
    (fun pre W => ∃ v,PrI w w.heap.size (w.heap.size + 1 + 1) (w.heap.size + 1) (b1 :: b2 :: w2.heap.size :: (w2.heap.size + 1) :: Z) marks v (foldN c ws s pre acc) W) (fun _ _ _ => False) ?hI (fun _ _ _ _ h _ => h)
    ⟨v,hP2.g,hP2.box,hP2.tbl,hP2.map,hP2.row,hP2.nil,fun i hi => by
     have h1:=hrw i hi
     have h2:=hP2.far i hi
     simp only [List.mem_cons,not_or]
     exact ⟨by omega,by omega,by omega,by omega,h2⟩,hP2.mks⟩ ?round2 ?done (fun _ _ _ _ h _ _ => h.elim)
   case hI =>
    rintro pre A C ⟨v,hv⟩ q
    exact ⟨v,hv.kept q (fun i hi => by omega) (by omega) (by omega) (by omega) (fun i hi e => hv.far i hi (by simp [e])) (fun D hD e => by have:=hmlt D hD;omega)⟩
   case done =>
    rintro W ⟨v,hv⟩ hdd hWr
    have hWl:=(Array.getElem?_eq_some_iff.1 hdd).1
    dsimp only
    gi_wp2_with fail
    refine ⟨⟨k + 1,w2.heap.size :: marks,b1 :: b2 :: w2.heap.size :: (w2.heap.size + 1) :: Z,v,_,_,_,_,_,_,_,_,_,_,_,_,_,_,_,_,_,_,_,_,_,_,_,_,_,_,_,_,_,_,_,rfl,by omega,?_,?_,?_,?_,?_,by omega⟩,?_⟩
    ·rw [List.nodup_cons];exact ⟨fun hD => by have:=hmlt _ hD;omega,hnd⟩
    ·intro D hD
     simp only [List.mem_cons] at hD
     rcases hD with rfl | hD
     ·exact ⟨by simp,by omega⟩
     ·exact ⟨by simp [(hmz D hD).1],(hmz D hD).2⟩
    ·intro i hi
     have hW2:w2.heap.size + 1 < W.heap.size:=hWr
     simp only [List.mem_cons] at hi
     rcases hi with rfl | rfl | rfl | rfl | hi
     ·omega
     ·omega
     ·omega
     ·omega
     ·have:=hzlt i hi;omega
    ·exact ⟨by simp [hz.1],by simp [hz.2.1],by simp [hz.2.2]⟩
    ·have hf:foldN c ws s (nodesTo c ws (k + 1)) ([],[]) = foldN c ws s (chainI c ws k) acc:=by
      rw [show nodesTo c ws (k + 1) = nodesTo c ws k ++ chainI c ws k from rfl,foldN_app,HACC.out]
     rw [hf]
     exact ⟨hv.g,hv.box,hv.tbl,hv.map,hv.row,hv.nil,hv.far,fun D hD => by
      simp only [List.mem_cons] at hD
      rcases hD with rfl | hD
      ·exact hdd
      ·exact hv.mks D hD⟩
    ·simp [intOf];omega
   case round2 =>
    rintro pre x post A W hx ⟨v,hA⟩ gA hlA
    dsimp only
    simp only [List.zip_toArray,List.zip_cons_cons,List.zip_nil_right,List.size_toArray,List.length_cons,List.length_nil,List.foldl_toArray',List.foldl_cons,List.foldl_nil,List.setIfInBounds_toArray,List.set_cons_succ,List.set_cons_zero]
    gi_wp2_with (first | (refine store_boxIn rfl 141 _ _ rfl W.heap.size _ (Box.made W [.int .i64 0,.int .u64 0,.int .i64 0,.int .i64 0,.int .u64 0,.int .u64 0,.int .i64 0,.int .u64 0] 141) (nodeL c ws s x).toArray rfl rfl rfl (by kernel_rfl) rfl ?_;intro W1 B1 q1) | fail)
    have gW:Grown W W1:=But.fresh (by go_grown) q1 (fun i hi => by subst hi;exact Nat.le_refl _)
    refine ⟨gW,fun W₂ q => ?_⟩
    have hrow:∀ i,InRow v i → w.heap.size ≤ i ∧ i < A.heap.size:=fun i hi => own_at hA.row hi
    have hfar:∀ i,InRow v i → i ≠ b1 ∧ i ≠ b2 ∧ i ≠ w2.heap.size ∧ i ≠ w2.heap.size + 1 ∧ i ∉ Z:=fun i hi => by
     have:=hA.far i hi
     simpa [List.mem_cons,not_or] using this
    have hA1:=(hA.grown gA).grown gW
    have hA2:=hA1.kept q (fun i hi => by omega) (by omega) (by omega) (by omega) (fun i hi e => (hfar i hi).2.2.2.1 e) (fun D hD e => by have:=hmlt D hD;omega)
    have hAW:=gA.2.2
    have B2:=B1.kept q (by omega)
    have hz2:w2.heap.size + 1 < W₂.heap.size:=by have:=gW.2.2;have:=q.size;omega
    obtain ⟨fa,hfa⟩:∃ fa,foldN c ws s pre acc = fa:=⟨_,rfl⟩
    have HFA:=Lib.hid hfa
    rw [hfa] at hA2
    clear hfa hA hA1
    gi_wp2_with (first | (refine load_boxIn rfl 141 _ rfl W.heap.size rfl _ _ Tryz.underlying141 rfl (by kernel_rfl) B2 ?_) | fail)
    refine ⟨trivial,?_⟩
    have hsnoc:foldN c ws s (pre ++ [x]) acc = stepP c ws s fa x:=by rw [foldN_app,HFA.out];rfl
    have HS:=Lib.hid hsnoc
    clear hsnoc
    have tb:=hA2.tbl
    have HA2:=Lib.hid hA2
    clear hA2
    by_cases hkey:(calAt s (opAt s x)).kind = 1 ∧ wrdOf c ws (opAt s x) = 1
    ·have HK:=Lib.hid (decide_eq_true hkey)
     have HKP:=Lib.hid hkey
     clear hkey
     refine (CallsIn.inRound _ (callsIn_wide.2 (hasKey_at _ _ _ _ _ _ _ _ _ HK.out _))).mono ?_
     rintro e W3 ⟨rfl,g3⟩
     have hA3:=HA2.out.grown g3
     have B3:=B2.grown g3
     replace tb:=hA3.tbl
     have e2:=B3.cell 2 _ rfl
     have e4:=B3.cell 4 _ rfl
     have e5:=B3.cell 5 _ rfl
     have hl:=flag_look (P:=Tryz.prog) hA3.map Tryz.underlying135 Tryz.underlying3 (show (zeroValue 4).run Tryz.prog W3 = .ok (.bool false) W3 by kernel_rfl) (opAt s x)
     have c0:=hA3.box.cell 0 _ rfl
     have f0:=hA3.box.free 0
     have HA3:=Lib.hid hA3
     clear hA3
     by_cases hop:opAt s x ∈ fa.1
     ·have HOP:=Lib.hid hop
      rw [decide_eq_true hop] at hl
      clear hop
      gi_wp2_with fail
      refine ⟨Kept.of_grown g3,v,?_⟩
      rw [HS.out]
      have:stepP c ws s fa x = fa:=if_neg (fun h => h.2 HOP.out)
      rw [this]
      exact HA3.out
     ·have HOP:=Lib.hid hop
      rw [decide_eq_false hop] at hl
      clear hop
      gi_wp2_with (first | (gi_at_mapUpdate;refine pause ?_) | fail)
      unfold Pause
      refine wpListIn_flag rfl _ _ _ 135 rfl _ _ Tryz.underlying135 .i64 Tryz.underlying3 (w.heap.size + 1) fa.1 (opAt s x) HA3.out.map rfl rfl rfl ?_
      intro W4 m4 q4 z4
      have hlb:=HA3.out.box.lt
      have hWs:A.heap.size ≤ W.heap.size:=gA.2.2
      replace c0:=q4.cell (by omega) c0
      replace f0:W4.frozen? ⟨w.heap.size,0,none⟩ = false:=q4.frozen f0
      replace e4:=q4.cell (by omega) e4
      replace e5:=q4.cell (by omega) e5
      have hrow4:∀ i,InRow v i → ¬ i = w.heap.size + 1:=fun i hi e => (hfar i hi).2.2.2.2 (by rw [e];exact hz.2.1)
      have r4:=own_kept HA3.out.row q4.kept hrow4
      have b4:=HA3.out.box.but q4 (by omega)
      have t4:=q4.cell (by omega) HA3.out.tbl
      have hl3:W₂.heap.size ≤ W4.heap.size:=by rw [z4];exact g3.2.2
      have R4:=Lib.hid r4
      have HZ4:=Lib.hid z4
      clear hl r4 tb z4
      gi_wp2_with (first | (gi_at_builtin;refine pause ?_) | fail)
      unfold Pause
      have ga:Grown W4 (W4.alloc (.cells #[.int .u64 (calAt s (opAt s x)).key,.int .u64 (calAt s (opAt s x)).val] 106)):=by go_grown
      refine wpListIn_add rfl _ _ 55 rfl w.heap.size 106 (.agg #[.int .u64 0,.int .u64 0]) 2 16 Tryz.underlying55 info_pair rfl (by decide) v fa.2.length (flatP fa.2) (own_grown R4.out ga) _ 1 0 [.int .u64 (calAt s (opAt s x)).key,.int .u64 (calAt s (opAt s x)).val] (.inr ⟨by decide,W4.heap.size,1,rfl,Nat.zero_le _,fun j u hj => ?news⟩) rfl (by simp [Value.oneCell']) ?h63 (by decide) ?hbase rfl rfl ?_
      case news =>
       rcases j with _ | _ | j
       ·cases hj;simp [go_sem]
       ·cases hj;simp [go_sem]
       ·cases hj
      case h63 =>
       have h1:fa.2.length ≤ (rawP c ws s).length:=by
        rw [← HFA.out]
        have h2:(foldN c ws s (nodesTo c ws (k + 1)) ([],[])).2.length ≤ (rawP c ws s).length:=by
         obtain ⟨r,hr⟩:=nodesTo_le c ws (k + 1) c.b (by omega)
         unfold rawP;rw [hr,foldN_app];exact foldN_len _ _ _ _ _
        refine Nat.le_trans ?_ h2
        rw [show nodesTo c ws (k + 1) = nodesTo c ws k ++ chainI c ws k from rfl,foldN_app,HACC.out,hx,foldN_app]
        exact foldN_len _ _ _ _ _
       omega
      case hbase => have:=HA3.out.g.2.2;simp;omega
      intro v' W5 r5 fr5 q5
      obtain ⟨g',cap',hv'⟩:=own_open r5 (by omega)
      have hne:¬ InRow v w.heap.size:=fun e => (hfar _ e).2.2.2.2 hz.1
      have hnt:¬ InRow v (w.heap.size + 1 + 1):=fun e => (hfar _ e).2.2.2.2 hz.2.2
      have hnm:¬ InRow v (w.heap.size + 1):=fun e => (hfar _ e).2.2.2.2 hz.2.1
      replace c0:=q5.cell hne (gcell ga c0)
      replace f0:W5.frozen? ⟨w.heap.size,0,none⟩ = false:=q5.frozen ((ga.2.1 _).trans f0)
      have B5:=(b4.grown ga).but q5 hne
      have t5:=q5.cell hnt (gcell ga t4)
      have m5:=(m4.grown ga).but q5 hnm
      clear e4 e5
      rw [hv']
      gi_wp2_with fail
      rw [← hv']
      have q6:But (fun i => (InRow v i ∨ i = w.heap.size) ∨ i = w.heap.size + 1) W₂ (W5.setCell ⟨w.heap.size,0,none⟩ v') :=
       ((((But.of_grown g3).trans (q4.mono (fun _ h => .inr h))).trans (But.of_grown ga)).trans (q5.mono (fun _ h => .inl (.inl h)))).setCell (.inl (.inl (.inr rfl))) _
      have qs:But (fun i => i = w.heap.size) W5 (W5.setCell ⟨w.heap.size,0,none⟩ v'):=But.setCell (S:=fun i => i = w.heap.size) (But.refl _ W5) (a:=⟨w.heap.size,0,none⟩) (.inl rfl) v'
      have hG5:Grown w (W5.setCell ⟨w.heap.size,0,none⟩ v'):=But.fresh HA2.out.g q6 (fun i hi => by
       rcases hi with (hi | rfl) | rfl
       ·exact (hrow i hi).1
       ·exact Nat.le_refl _
       ·omega)
      have hne':¬ InRow v' w.heap.size:=fun e => by
       rcases fr5 with e1 | ⟨g,e1,h1⟩
       ·exact hne (by unfold InRow at e ⊢;rw [← e1];exact e)
       ·unfold InRow at e;rw [e1] at e;cases e;simp at h1;omega
      refine ⟨q6.kept.mono ?_,v',?_⟩
      ·have hA0:w.heap.size + 1 + 1 < A.heap.size:=by omega
       rintro i ((hi | rfl) | rfl)
       ·have h1:=hrow i hi
        have h2:=hfar i hi
        exact ⟨⟨h1.1,h2.1,h2.2.1⟩,h1.2,h2.2.2.1,h2.2.2.2.1⟩
       ·exact ⟨⟨by omega,by omega,by omega⟩,by omega,by omega,by omega⟩
       ·exact ⟨⟨by omega,by omega,by omega⟩,by omega,by omega,by omega⟩
      ·rw [HS.out]
       have hst:stepP c ws s fa x = (addK fa.1 (opAt s x),fa.2 ++ [((calAt s (opAt s x)).key,(calAt s (opAt s x)).val)]):=if_pos ⟨HKP.out,HOP.out⟩
       rw [hst]
       refine ⟨hG5,B5.set (j:=0) (by simp) v',qs.cell (by omega) t5,m5.but qs (by omega),?_,.inl (by simp),?_,fun D hD => ?_⟩
       ·have h1:=own_kept r5 qs.kept (fun g hg e => hne' (e ▸ hg))
        simpa [flatP] using h1
       ·intro i hi
        rcases fr5 with e1 | ⟨g,e1,h1⟩
        ·exact HA2.out.far i (by unfold InRow at hi ⊢;rw [← e1];exact hi)
        ·unfold InRow at hi;rw [e1] at hi;cases hi
         simp at h1
         have hZ:=hzlt
         simp only [List.mem_cons,not_or]
         exact ⟨by omega,by omega,by omega,by omega,fun hm => by have:=hZ i hm;omega⟩
       ·have h1:=HA2.out.mks D hD
        exact (q6.kept.same D (Array.getElem?_eq_some_iff.1 h1).1 (fun hi => by
         have h2:=(hmz D hD).2
         rcases hi with (hi | rfl) | rfl
         ·exact (hfar D hi).2.2.2.2 (hmz D hD).1
         ·omega
         ·omega)).trans h1
    ·have HK:=Lib.hid (decide_eq_false hkey)
     have HKP:=Lib.hid hkey
     clear hkey
     refine (CallsIn.inRound _ (callsIn_wide.2 (hasKey_at _ _ _ _ _ _ _ _ _ HK.out _))).mono ?_
     rintro e W3 ⟨rfl,g3⟩
     gi_wp2_with fail
     refine ⟨Kept.of_grown g3,v,?_⟩
     rw [HS.out]
     have:stepP c ws s fa x = fa:=if_neg (fun h => HKP.out h.1)
     rw [this]
     exact HA2.out.grown g3
  ·have hlt:¬ (k:Int) < (c.b:Int):=by omega
   have hkc:k = c.b:=by omega
   have cP:=hP.box.cell 0 _ rfl
   have hraw:acc.2 = rawP c ws s:=by unfold rawP;rw [← hkc,HACC.out]
   have HR:=Lib.hid hraw
   have HKC:=Lib.hid hkc
   have HPP:=Lib.hid hP
   clear hraw hkc hP HP
   gi_wp2_with fail
   refine ⟨trivial,?_⟩
   refine (callsIn_wide.2 (sortStable_at wr w.heap.size _ v acc.2 rfl (by rw [HR.out];exact hfew) HPP.out.row HPP.out.nil)).mono ?_
   rintro e w3 ⟨rfl,r3,q3⟩
   have hne:∀ i,InRow v i → i ≠ w.heap.size:=fun i hi e => HPP.out.far i hi (by rw [e];exact hz.1)
   have cP3:=q3.cell (fun h => hne _ h rfl) cP
   have hG3:Grown w w3:=But.fresh HPP.out.g q3 (fun i hi => (own_at HPP.out.row hi).1)
   have hM3:∀ D ∈ marks,w3.heap[D]? = some (.deferred (some [])):=fun D hD => (q3.kept.same D (hmlt D hD) (fun hi => HPP.out.far D hi (hmz D hD).1)).trans (HPP.out.mks D hD)
   clear cP
   gi_wp2_with fail
   refine leaves_marks marks w3 hnd hM3 (fun W' q => ?_)
   have hG4:=q.fresh hG3 (fun i hi => by have:=(hmz i hi).2;omega)
   have r4:=own_kept r3 q (fun i hi hm => HPP.out.far i hi (hmz i hm).1)
   refine ⟨_,results_tmp rfl _ _ _,v,rfl,?_,hG4⟩
   have hl:(sortP (rawP c ws s)).length = acc.2.length:=by rw [sortP_len,HR.out]
   rw [hl,← HR.out]
   exact own_flat r4 HPP.out.nil
end Go.Proofs.YtmokcgifknmchaaGreat
namespace Go.Proofs.YtmokcgifknmchaaGreat
open Go.ChangeShapes Go.WideShapes Go.ChangeAt Go.RowKit
set_option maxRecDepth 100000
set_option linter.unusedVariables false
theorem ndOf_l (c:Cf) (ws:List Int) (s:St) (i:Int):(ndOf c ws s i).l = nodeL c ws s i:=rfl
theorem zFlag (w:World):(zeroValue 4).run Tryz.prog w = .ok (.bool false) w:=by kernel_rfl
set_option maxHeartbeats 4000000 in
theorem bears_at (w:World) (b m1 m2 m3:Nat) (p:Ps) (h:PassAt w b m1 m2 m3 p) (x:Nd) (hn0:0 ≤ x.next) (hn1:x.next ≤ 18446744073709551615) :
  Calls Tryz.prog 140 #[.pointer (some ⟨b,0,none⟩),.agg x.l.toArray] w fun e w' => e = .returned (.bool (bearsV p x)) ∧ Grown w w':=by
 obtain ⟨num,next,op,⟨kd,ky,vl,lm⟩,wd⟩:=x
 obtain ⟨key,nk,ok,pk⟩:=p
 simp only at hn0 hn1
 unfold Nd.l
 simp only
 obtain ⟨V,hV⟩:∃ V,bearsV ⟨key,nk,ok,pk⟩ ⟨num,next,op,⟨kd,ky,vl,lm⟩,wd⟩ = V:=⟨_,rfl⟩
 rw [hV]
 have hV':(if num ∈ nk ∨ ky < key then false else if op ∈ ok ∨ 2 ≤ wd then true else !(next % 2 == 1) && !(decide (wd = 1) && decide (ky ∈ pk))) = V:=hV
 clear hV
 have gN:Grown w (w.alloc (.cells #[.int .i64 num,.int .u64 next,.int .i64 op,.int .i64 kd,.int .u64 ky,.int .u64 vl,.int .i64 lm,.int .u64 wd] 141)):=by go_grown
 have HF:=Lib.hid (h.grown gN)
 have cq0:(w.alloc (.cells #[.int .i64 num,.int .u64 next,.int .i64 op,.int .i64 kd,.int .u64 ky,.int .u64 vl,.int .i64 lm,.int .u64 wd] 141)).cell? ⟨w.heap.size,0,none⟩ = some (.int .i64 num):=by simp [go_sem]
 have cq1:(w.alloc (.cells #[.int .i64 num,.int .u64 next,.int .i64 op,.int .i64 kd,.int .u64 ky,.int .u64 vl,.int .i64 lm,.int .u64 wd] 141)).cell? ⟨w.heap.size,1,none⟩ = some (.int .u64 next):=by simp [go_sem]
 have cq2:(w.alloc (.cells #[.int .i64 num,.int .u64 next,.int .i64 op,.int .i64 kd,.int .u64 ky,.int .u64 vl,.int .i64 lm,.int .u64 wd] 141)).cell? ⟨w.heap.size,2,none⟩ = some (.int .i64 op):=by simp [go_sem]
 have cq4:(w.alloc (.cells #[.int .i64 num,.int .u64 next,.int .i64 op,.int .i64 kd,.int .u64 ky,.int .u64 vl,.int .i64 lm,.int .u64 wd] 141)).cell? ⟨w.heap.size,4,none⟩ = some (.int .u64 ky):=by simp [go_sem]
 have cq7:(w.alloc (.cells #[.int .i64 num,.int .u64 next,.int .i64 op,.int .i64 kd,.int .u64 ky,.int .u64 vl,.int .i64 lm,.int .u64 wd] 141)).cell? ⟨w.heap.size,7,none⟩ = some (.int .u64 wd):=by simp [go_sem]
 have cp0:=HF.out.box.cell 0 _ rfl
 have cp1:=HF.out.box.cell 1 _ rfl
 have cp2:=HF.out.box.cell 2 _ rfl
 have cp3:=HF.out.box.cell 3 _ rfl
 clear h
 have HVV:=Lib.hid hV'
 clear hV'
 go_enter Tryz.func140,Tryz.ntmps140
 go_wp2_with fail
 obtain ⟨w1,hw1⟩:∃ w1,w.alloc (.cells #[.int .i64 num,.int .u64 next,.int .i64 op,.int .i64 kd,.int .u64 ky,.int .u64 vl,.int .i64 lm,.int .u64 wd] 141) = w1:=⟨_,rfl⟩
 rw [hw1] at HF gN cq0 cq1 cq2 cq4 cq7 cp0 cp1 cp2 cp3 ⊢
 clear hw1
 generalize w.heap.size = nb at cq0 cq1 cq2 cq4 cq7 ⊢
 have q0:∀ g:GrW w1,g.w.cell? ⟨nb,0,none⟩ = some (.int .i64 num):=GrW.cell cq0
 have q1:∀ g:GrW w1,g.w.cell? ⟨nb,1,none⟩ = some (.int .u64 next):=GrW.cell cq1
 have q2:∀ g:GrW w1,g.w.cell? ⟨nb,2,none⟩ = some (.int .i64 op):=GrW.cell cq2
 have q4:∀ g:GrW w1,g.w.cell? ⟨nb,4,none⟩ = some (.int .u64 ky):=GrW.cell cq4
 have q7:∀ g:GrW w1,g.w.cell? ⟨nb,7,none⟩ = some (.int .u64 wd):=GrW.cell cq7
 have p0:∀ g:GrW w1,g.w.cell? ⟨b,0,none⟩ = some (.int .u64 key):=GrW.cell cp0
 have p1:∀ g:GrW w1,g.w.cell? ⟨b,1,none⟩ = some (.map (some m1)):=GrW.cell cp1
 have p2:∀ g:GrW w1,g.w.cell? ⟨b,2,none⟩ = some (.map (some m2)):=GrW.cell cp2
 have p3:∀ g:GrW w1,g.w.cell? ⟨b,3,none⟩ = some (.map (some m3)):=GrW.cell cp3
 clear cq0 cq1 cq2 cq4 cq7 cp0 cp1 cp2 cp3
 have GN:=Lib.hid gN
 clear gN
 by_cases h1:num ∈ nk
 ·have Hl1:=Lib.hid h1
  have l1:∀ g:GrW w1,(Instr.lookup 135 (.map (some m1)) (.int .i64 num) false).run Tryz.prog g.w = .ok (.bool true) g.w:=fun g => by rw [flag_look (HF.out.f1.grown (gtr (Grown.refl _) g.gr)) Tryz.underlying135 Tryz.underlying3 (zFlag _),decide_eq_true Hl1.out]
  refine wp_region_grow (by kernel_rfl) (by kernel_rfl) ?_
  repeat (go_big_quiet_step (fail))
  refine wpQuiet_nil ?_
  rintro w2 ⟨⟨_,g2⟩,rfl⟩
  go_wp2_with fail
  go_ret
  exact ⟨ret_bool (by rw [← HVV.out];simp [Hl1.out]),gtr GN.out g2⟩
 ·have Hl1:=Lib.hid h1
  have l1:∀ g:GrW w1,(Instr.lookup 135 (.map (some m1)) (.int .i64 num) false).run Tryz.prog g.w = .ok (.bool false) g.w:=fun g => by rw [flag_look (HF.out.f1.grown (gtr (Grown.refl _) g.gr)) Tryz.underlying135 Tryz.underlying3 (zFlag _),decide_eq_false Hl1.out]
  by_cases h2:ky < key
  ·have HE:=Lib.hid h2
   have e2:decide (ky < key) = true:=decide_eq_true h2
   refine wp_region_grow (by kernel_rfl) (by kernel_rfl) ?_
   repeat (go_big_quiet_step (fail))
   refine wpQuiet_nil ?_
   rintro w2 ⟨⟨_,g2⟩,rfl⟩
   go_wp2_with fail
   go_ret
   exact ⟨ret_bool (by rw [← HVV.out];simp [Hl1.out,HE.out]),gtr GN.out g2⟩
  ·have HE:=Lib.hid h2
   have e2:decide (ky < key) = false:=decide_eq_false h2
   by_cases h3:op ∈ ok
   ·have Hl2:=Lib.hid h3
    refine wp_region_grow (by kernel_rfl) (by kernel_rfl) ?_
    repeat (go_big_quiet_step (fail))
    refine wpQuiet_nil ?_
    rintro w2 ⟨⟨_,g2⟩,rfl⟩
    clear l1
    replace q0:∀ g:GrW w2,g.w.cell? ⟨nb,0,none⟩ = some (.int .i64 num):=GrW.cell (q0 ⟨w2,g2⟩)
    replace q1:∀ g:GrW w2,g.w.cell? ⟨nb,1,none⟩ = some (.int .u64 next):=GrW.cell (q1 ⟨w2,g2⟩)
    replace q2:∀ g:GrW w2,g.w.cell? ⟨nb,2,none⟩ = some (.int .i64 op):=GrW.cell (q2 ⟨w2,g2⟩)
    replace q4:∀ g:GrW w2,g.w.cell? ⟨nb,4,none⟩ = some (.int .u64 ky):=GrW.cell (q4 ⟨w2,g2⟩)
    replace q7:∀ g:GrW w2,g.w.cell? ⟨nb,7,none⟩ = some (.int .u64 wd):=GrW.cell (q7 ⟨w2,g2⟩)
    replace p0:∀ g:GrW w2,g.w.cell? ⟨b,0,none⟩ = some (.int .u64 key):=GrW.cell (p0 ⟨w2,g2⟩)
    replace p1:∀ g:GrW w2,g.w.cell? ⟨b,1,none⟩ = some (.map (some m1)):=GrW.cell (p1 ⟨w2,g2⟩)
    replace p2:∀ g:GrW w2,g.w.cell? ⟨b,2,none⟩ = some (.map (some m2)):=GrW.cell (p2 ⟨w2,g2⟩)
    replace p3:∀ g:GrW w2,g.w.cell? ⟨b,3,none⟩ = some (.map (some m3)):=GrW.cell (p3 ⟨w2,g2⟩)
    have HG:=Lib.hid g2
    clear g2
    have l2:∀ g:GrW w2,(Instr.lookup 135 (.map (some m2)) (.int .i64 op) false).run Tryz.prog g.w = .ok (.bool true) g.w:=fun g => by rw [flag_look (HF.out.f2.grown (gtr HG.out g.gr)) Tryz.underlying135 Tryz.underlying3 (zFlag _),decide_eq_true Hl2.out]
    go_wp2_with fail
    refine wp_region_grow (by kernel_rfl) (by kernel_rfl) ?_
    repeat (go_big_quiet_step (((go_at_call 195;exact grcall (Over_any _ _)))))
    refine wpQuiet_nil ?_
    rintro w3 ⟨⟨_,g3⟩,rfl⟩
    go_wp2_with fail
    go_ret
    exact ⟨ret_bool (by rw [← HVV.out];simp [Hl1.out,HE.out,Hl2.out]),gtr GN.out (gtr HG.out g3)⟩
   ·have Hl2:=Lib.hid h3
    refine wp_region_grow (by kernel_rfl) (by kernel_rfl) ?_
    repeat (go_big_quiet_step (fail))
    refine wpQuiet_nil ?_
    rintro w2 ⟨⟨_,g2⟩,rfl⟩
    clear l1
    replace q0:∀ g:GrW w2,g.w.cell? ⟨nb,0,none⟩ = some (.int .i64 num):=GrW.cell (q0 ⟨w2,g2⟩)
    replace q1:∀ g:GrW w2,g.w.cell? ⟨nb,1,none⟩ = some (.int .u64 next):=GrW.cell (q1 ⟨w2,g2⟩)
    replace q2:∀ g:GrW w2,g.w.cell? ⟨nb,2,none⟩ = some (.int .i64 op):=GrW.cell (q2 ⟨w2,g2⟩)
    replace q4:∀ g:GrW w2,g.w.cell? ⟨nb,4,none⟩ = some (.int .u64 ky):=GrW.cell (q4 ⟨w2,g2⟩)
    replace q7:∀ g:GrW w2,g.w.cell? ⟨nb,7,none⟩ = some (.int .u64 wd):=GrW.cell (q7 ⟨w2,g2⟩)
    replace p0:∀ g:GrW w2,g.w.cell? ⟨b,0,none⟩ = some (.int .u64 key):=GrW.cell (p0 ⟨w2,g2⟩)
    replace p1:∀ g:GrW w2,g.w.cell? ⟨b,1,none⟩ = some (.map (some m1)):=GrW.cell (p1 ⟨w2,g2⟩)
    replace p2:∀ g:GrW w2,g.w.cell? ⟨b,2,none⟩ = some (.map (some m2)):=GrW.cell (p2 ⟨w2,g2⟩)
    replace p3:∀ g:GrW w2,g.w.cell? ⟨b,3,none⟩ = some (.map (some m3)):=GrW.cell (p3 ⟨w2,g2⟩)
    have HG:=Lib.hid g2
    clear g2
    have l2:∀ g:GrW w2,(Instr.lookup 135 (.map (some m2)) (.int .i64 op) false).run Tryz.prog g.w = .ok (.bool false) g.w:=fun g => by rw [flag_look (HF.out.f2.grown (gtr HG.out g.gr)) Tryz.underlying135 Tryz.underlying3 (zFlag _),decide_eq_false Hl2.out]
    go_wp2_with fail
    by_cases h4:2 ≤ wd
    ·have HE4:=Lib.hid h4
     have e4:decide (2 ≤ wd) = true:=decide_eq_true h4
     refine wp_region_grow (by kernel_rfl) (by kernel_rfl) ?_
     repeat (go_big_quiet_step (((go_at_call 195;exact grcall (Over_any _ _)))))
     refine wpQuiet_nil ?_
     rintro w3 ⟨⟨_,g3⟩,rfl⟩
     go_wp2_with fail
     go_ret
     exact ⟨ret_bool (by rw [← HVV.out];simp [Hl1.out,HE.out,Hl2.out,HE4.out]),gtr GN.out (gtr HG.out g3)⟩
    ·have HE4:=Lib.hid h4
     have e4:decide (2 ≤ wd) = false:=decide_eq_false h4
     by_cases h5:next % 2 = 1
     ·have HE5:=Lib.hid h5
      have e5:(next % 2 == 1) = true:=by simpa using h5
      refine wp_region_grow (by kernel_rfl) (by kernel_rfl) ?_
      repeat (go_big_quiet_step (((go_at_call 195;exact grcall (Over_any _ _)))))
      refine wpQuiet_nil ?_
      rintro w3 ⟨⟨_,g3⟩,rfl⟩
      clear l2 e4
      replace q0:∀ g:GrW w3,g.w.cell? ⟨nb,0,none⟩ = some (.int .i64 num):=GrW.cell (q0 ⟨w3,g3⟩)
      replace q1:∀ g:GrW w3,g.w.cell? ⟨nb,1,none⟩ = some (.int .u64 next):=GrW.cell (q1 ⟨w3,g3⟩)
      replace q2:∀ g:GrW w3,g.w.cell? ⟨nb,2,none⟩ = some (.int .i64 op):=GrW.cell (q2 ⟨w3,g3⟩)
      replace q4:∀ g:GrW w3,g.w.cell? ⟨nb,4,none⟩ = some (.int .u64 ky):=GrW.cell (q4 ⟨w3,g3⟩)
      replace q7:∀ g:GrW w3,g.w.cell? ⟨nb,7,none⟩ = some (.int .u64 wd):=GrW.cell (q7 ⟨w3,g3⟩)
      replace p0:∀ g:GrW w3,g.w.cell? ⟨b,0,none⟩ = some (.int .u64 key):=GrW.cell (p0 ⟨w3,g3⟩)
      replace p1:∀ g:GrW w3,g.w.cell? ⟨b,1,none⟩ = some (.map (some m1)):=GrW.cell (p1 ⟨w3,g3⟩)
      replace p2:∀ g:GrW w3,g.w.cell? ⟨b,2,none⟩ = some (.map (some m2)):=GrW.cell (p2 ⟨w3,g3⟩)
      replace p3:∀ g:GrW w3,g.w.cell? ⟨b,3,none⟩ = some (.map (some m3)):=GrW.cell (p3 ⟨w3,g3⟩)
      replace HG:=Lib.hid (gtr HG.out g3)
      clear g3
      go_wp2_with fail
      refine wp_region_grow (by kernel_rfl) (by kernel_rfl) ?_
      repeat (go_big_quiet_step (((go_at_call 196;exact grcall (Marked_any _ _ hn0 hn1)))))
      refine wpQuiet_nil ?_
      rintro w4 ⟨⟨_,g4⟩,rfl⟩
      go_wp2_with fail
      go_ret
      exact ⟨ret_bool (by rw [← HVV.out];simp [Hl1.out,HE.out,Hl2.out,HE4.out,HE5.out]),gtr GN.out (gtr HG.out g4)⟩
     ·have HE5:=Lib.hid h5
      have e5:(next % 2 == 1) = false:=by simpa using h5
      refine wp_region_grow (by kernel_rfl) (by kernel_rfl) ?_
      repeat (go_big_quiet_step (((go_at_call 195;exact grcall (Over_any _ _)))))
      refine wpQuiet_nil ?_
      rintro w3 ⟨⟨_,g3⟩,rfl⟩
      clear l2 e4
      replace q0:∀ g:GrW w3,g.w.cell? ⟨nb,0,none⟩ = some (.int .i64 num):=GrW.cell (q0 ⟨w3,g3⟩)
      replace q1:∀ g:GrW w3,g.w.cell? ⟨nb,1,none⟩ = some (.int .u64 next):=GrW.cell (q1 ⟨w3,g3⟩)
      replace q2:∀ g:GrW w3,g.w.cell? ⟨nb,2,none⟩ = some (.int .i64 op):=GrW.cell (q2 ⟨w3,g3⟩)
      replace q4:∀ g:GrW w3,g.w.cell? ⟨nb,4,none⟩ = some (.int .u64 ky):=GrW.cell (q4 ⟨w3,g3⟩)
      replace q7:∀ g:GrW w3,g.w.cell? ⟨nb,7,none⟩ = some (.int .u64 wd):=GrW.cell (q7 ⟨w3,g3⟩)
      replace p0:∀ g:GrW w3,g.w.cell? ⟨b,0,none⟩ = some (.int .u64 key):=GrW.cell (p0 ⟨w3,g3⟩)
      replace p1:∀ g:GrW w3,g.w.cell? ⟨b,1,none⟩ = some (.map (some m1)):=GrW.cell (p1 ⟨w3,g3⟩)
      replace p2:∀ g:GrW w3,g.w.cell? ⟨b,2,none⟩ = some (.map (some m2)):=GrW.cell (p2 ⟨w3,g3⟩)
      replace p3:∀ g:GrW w3,g.w.cell? ⟨b,3,none⟩ = some (.map (some m3)):=GrW.cell (p3 ⟨w3,g3⟩)
      replace HG:=Lib.hid (gtr HG.out g3)
      clear g3
      by_cases h6:wd = 1
      ·have HE6:=Lib.hid h6
       have e6:(wd == 1) = true:=by simpa using h6
       by_cases h7:ky ∈ pk
       ·have Hl3:=Lib.hid h7
        have l3:∀ g:GrW w3,(Instr.lookup 220 (.map (some m3)) (.int .u64 ky) false).run Tryz.prog g.w = .ok (.bool true) g.w:=fun g => by rw [flag_look (HF.out.f3.grown (gtr HG.out g.gr)) Tryz.underlying220 Tryz.underlying46 (zFlag _),decide_eq_true Hl3.out]
        go_wp2_with fail
        refine wp_region_grow (by kernel_rfl) (by kernel_rfl) ?_
        repeat (go_big_quiet_step (((go_at_call 196;exact grcall (Marked_any _ _ hn0 hn1)))))
        refine wpQuiet_nil ?_
        rintro w4 ⟨⟨_,g4⟩,rfl⟩
        go_wp2_with fail
        go_ret
        exact ⟨ret_bool (by rw [← HVV.out];simp [Hl1.out,Hl2.out,HE6.out,Hl3.out]),gtr GN.out (gtr HG.out g4)⟩
       ·have Hl3:=Lib.hid h7
        have l3:∀ g:GrW w3,(Instr.lookup 220 (.map (some m3)) (.int .u64 ky) false).run Tryz.prog g.w = .ok (.bool false) g.w:=fun g => by rw [flag_look (HF.out.f3.grown (gtr HG.out g.gr)) Tryz.underlying220 Tryz.underlying46 (zFlag _),decide_eq_false Hl3.out]
        go_wp2_with fail
        refine wp_region_grow (by kernel_rfl) (by kernel_rfl) ?_
        repeat (go_big_quiet_step (((go_at_call 196;exact grcall (Marked_any _ _ hn0 hn1)))))
        refine wpQuiet_nil ?_
        rintro w4 ⟨⟨_,g4⟩,rfl⟩
        go_wp2_with fail
        go_ret
        exact ⟨ret_bool (by rw [← HVV.out];simp [Hl1.out,HE.out,Hl2.out,HE5.out,HE6.out,Hl3.out]),gtr GN.out (gtr HG.out g4)⟩
      ·have HE6:=Lib.hid h6
       have e6:(wd == 1) = false:=by simpa using h6
       go_wp2_with fail
       refine wp_region_grow (by kernel_rfl) (by kernel_rfl) ?_
       repeat (go_big_quiet_step (((go_at_call 196;exact grcall (Marked_any _ _ hn0 hn1)))))
       refine wpQuiet_nil ?_
       rintro w4 ⟨⟨_,g4⟩,rfl⟩
       go_wp2_with fail
       go_ret
       exact ⟨ret_bool (by rw [← HVV.out];simp [Hl1.out,HE.out,Hl2.out,HE5.out,HE6.out]),gtr GN.out (gtr HG.out g4)⟩
set_option maxHeartbeats 4000000 in
theorem pass_at (w:World) (b m1 m2 m3:Nat) (p:Ps) (h:PassAt w b m1 m2 m3 p) (x:Nd) :
  Calls Tryz.prog 141 #[.pointer (some ⟨b,0,none⟩),.agg x.l.toArray] w fun e w' => e = .returned (.tuple #[]) ∧ PassAt w' b m1 m2 m3 (passV p x) ∧ But (PsOwn b m1 m2 m3) w w':=by
 obtain ⟨num,next,op,⟨kd,ky,vl,lm⟩,wd⟩:=x
 obtain ⟨key,nk,ok,pk⟩:=p
 unfold Nd.l
 simp only
 have gN:Grown w (w.alloc (.cells #[.int .i64 num,.int .u64 next,.int .i64 op,.int .i64 kd,.int .u64 ky,.int .u64 vl,.int .i64 lm,.int .u64 wd] 141)):=by go_grown
 have hb:=h.b1
 have hlt:=h.box.lt
 have l1:=h.f1.lt
 have l2:=h.f2.lt
 have l3:=h.f3.lt
 have h':=h.grown gN
 have BN:=Box.made w [.int .i64 num,.int .u64 next,.int .i64 op,.int .i64 kd,.int .u64 ky,.int .u64 vl,.int .i64 lm,.int .u64 wd] 141
 have cp0:=h'.box.cell 0 _ rfl
 have fp0:=h'.box.free 0
 have gA:Grown (w.setCell ⟨b,0,none⟩ (.int .u64 ky)) ((w.setCell ⟨b,0,none⟩ (.int .u64 ky)).alloc (.cells #[.int .i64 num,.int .u64 next,.int .i64 op,.int .i64 kd,.int .u64 ky,.int .u64 vl,.int .i64 lm,.int .u64 wd] 141)):=by go_grown
 have qA:But (fun i => i = b) w (w.setCell ⟨b,0,none⟩ (.int .u64 ky)):=But.setCell (S:=fun i => i = b) (But.refl _ w) (a:=⟨b,0,none⟩) (.inl rfl) _
 have HB:=Lib.hid ((h.box.set (j:=0) (by simp) (.int .u64 ky)).grown gA)
 have HF1:=Lib.hid ((h.f1.but qA (by omega)).grown gA)
 have HF2:=Lib.hid ((h.f2.but qA (by omega)).grown gA)
 have HF3:=Lib.hid ((h.f3.but qA (by omega)).grown gA)
 have hzA:(w.setCell ⟨b,0,none⟩ (.int .u64 ky)).heap.size = w.heap.size:=by simp
 have BN:=Box.made (w.setCell ⟨b,0,none⟩ (.int .u64 ky)) [.int .i64 num,.int .u64 next,.int .i64 op,.int .i64 kd,.int .u64 ky,.int .u64 vl,.int .i64 lm,.int .u64 wd] 141
 rw [hzA] at BN
 have HN:=Lib.hid BN
 have QQ:=Lib.hid ((qA.mono (T:=PsOwn b m1 m2 m3) (fun i hi => .inl hi)).trans (But.of_grown gA))
 have d12:=h.d12
 have d13:=h.d13
 have d23:=h.d23
 clear h h' BN hzA qA gA
 go_enter Tryz.func141,Tryz.ntmps141
 go_wp2_with fail
 clear cp0 fp0
 generalize hnb:w.heap.size = nb at *
 have HNB:=Lib.hid hnb
 clear hnb
 generalize ((w.setCell ⟨b,0,none⟩ (.int .u64 ky)).alloc (.cells #[.int .i64 num,.int .u64 next,.int .i64 op,.int .i64 kd,.int .u64 ky,.int .u64 vl,.int .i64 lm,.int .u64 wd] 141)) = w1 at *
 refine wp_region_planb (fun q => q = m1) (.one [0,1,2,3,4,5] 6 (.fin [])) (by kernel_rfl) (by kernel_rfl) (by kernel_rfl) ?_
 intro v2 g2
 have d0:∀ q:ButW (fun q => q = m1) v2,q.w.cell? ⟨b,1,none⟩ = some (.map (some m1)):=ButW.cell (by omega) ((HB.out.grown g2).cell 1 _ rfl)
 have d1:∀ q:ButW (fun q => q = m1) v2,q.w.cell? ⟨nb,0,none⟩ = some (.int .i64 num):=ButW.cell (by omega) ((HN.out.grown g2).cell 0 _ rfl)
 refine plan_one ?_
 simp only [nths,nth,List.map_cons,List.map_nil,List.getD_cons_zero,List.getD_cons_succ]
 repeat go_big_quiet_step (fail)
 clear d0 d1
 refine wpQuiet_nil ?_
 refine wpList_flag rfl _ _ _ 135 rfl _ _ Tryz.underlying135 .i64 Tryz.underlying3 m1 nk num (HF1.out.grown g2) rfl rfl rfl ?_
 intro y2 fl2 q2 z2
 have Z2:=Lib.hid z2
 clear z2
 go_wp2_with fail
 refine nxt_but q2 (plan_fin ?_)
 simp only [nths,List.map_nil]
 refine wpQuiet_nil ?_
 go_wp2_with fail
 have Q2:But (PsOwn b m1 m2 m3) w y2:=(QQ.out.trans (But.of_grown g2)).trans (q2.mono (fun i hi => .inr (.inl hi)))
 replace QQ:=Lib.hid Q2
 replace HB:=Lib.hid ((HB.out.grown g2).but q2 (by omega))
 replace HN:=Lib.hid ((HN.out.grown g2).but q2 (by omega))
 replace HF1:=Lib.hid fl2
 replace HF2:=Lib.hid ((HF2.out.grown g2).but q2 (by omega))
 replace HF3:=Lib.hid ((HF3.out.grown g2).but q2 (by omega))
 clear g2 q2 fl2 Q2
 refine wp_region_planb (fun q => q = m2) (.one [0,1,2,3,4,5] 6 (.fin [])) (by kernel_rfl) (by kernel_rfl) (by kernel_rfl) ?_
 intro v3 g3
 have d0:∀ q:ButW (fun q => q = m2) v3,q.w.cell? ⟨b,2,none⟩ = some (.map (some m2)):=ButW.cell (by omega) ((HB.out.grown g3).cell 2 _ rfl)
 have d1:∀ q:ButW (fun q => q = m2) v3,q.w.cell? ⟨nb,2,none⟩ = some (.int .i64 op):=ButW.cell (by omega) ((HN.out.grown g3).cell 2 _ rfl)
 refine plan_one ?_
 simp only [nths,nth,List.map_cons,List.map_nil,List.getD_cons_zero,List.getD_cons_succ]
 repeat go_big_quiet_step (fail)
 clear d0 d1
 refine wpQuiet_nil ?_
 refine wpList_flag rfl _ _ _ 135 rfl _ _ Tryz.underlying135 .i64 Tryz.underlying3 m2 ok op (HF2.out.grown g3) rfl rfl rfl ?_
 intro y3 fl3 q3 z3
 have Z3:=Lib.hid z3
 clear z3
 go_wp2_with fail
 refine nxt_but q3 (plan_fin ?_)
 simp only [nths,List.map_nil]
 refine wpQuiet_nil ?_
 have s7:=((HN.out.grown g3).but q3 (by omega)).cell 7 _ rfl
 have Q3:But (PsOwn b m1 m2 m3) w y3:=(QQ.out.trans (But.of_grown g3)).trans (q3.mono (fun i hi => .inr (.inr (.inl hi))))
 replace QQ:=Lib.hid Q3
 replace HB:=Lib.hid ((HB.out.grown g3).but q3 (by omega))
 replace HN:=Lib.hid ((HN.out.grown g3).but q3 (by omega))
 replace HF1:=Lib.hid ((HF1.out.grown g3).but q3 (by omega))
 replace HF2:=Lib.hid fl3
 replace HF3:=Lib.hid ((HF3.out.grown g3).but q3 (by omega))
 clear g3 q3 fl3 Q3
 go_wp2_with fail
 refine (Over_any _ _).mono ?_;rintro e y4 ⟨rfl,g4⟩
 replace QQ:=Lib.hid (QQ.out.trans (But.of_grown g4))
 replace HB:=Lib.hid (HB.out.grown g4)
 replace HN:=Lib.hid (HN.out.grown g4)
 replace HF1:=Lib.hid (HF1.out.grown g4)
 replace HF2:=Lib.hid (HF2.out.grown g4)
 replace HF3:=Lib.hid (HF3.out.grown g4)
 clear g4 s7
 by_cases hov:2 ≤ wd
 ·have e4:decide (2 ≤ wd) = true:=decide_eq_true hov
  have HOV:=Lib.hid hov
  clear hov
  go_wp2_with fail
  go_end0
  refine ⟨rfl,?_,QQ.out⟩
  rw [show passV ⟨key,nk,ok,pk⟩ ⟨num,next,op,⟨kd,ky,vl,lm⟩,wd⟩ = ⟨ky,addK nk num,addK ok op,pk⟩ by unfold passV;simp only [if_pos HOV.out]]
  exact ⟨HB.out,HF1.out,HF2.out,HF3.out,d12,d13,d23⟩
 ·have e4:decide (2 ≤ wd) = false:=decide_eq_false hov
  have HOV:=Lib.hid hov
  clear hov
  go_wp2_with fail
  refine wp_region_planb (fun q => q = m3) (.one [0,1,2,3,4,5,6] 7 (.fin [])) (by kernel_rfl) (by kernel_rfl) (by kernel_rfl) ?_
  intro v5 g5
  have d0:∀ q:ButW (fun q => q = m3) v5,q.w.cell? ⟨b,3,none⟩ = some (.map (some m3)):=ButW.cell (by omega) ((HB.out.grown g5).cell 3 _ rfl)
  have d1:∀ q:ButW (fun q => q = m3) v5,q.w.cell? ⟨nb,4,none⟩ = some (.int .u64 ky):=ButW.cell (by omega) ((HN.out.grown g5).cell 4 _ rfl)
  refine plan_one ?_
  simp only [nths,nth,List.map_cons,List.map_nil,List.getD_cons_zero,List.getD_cons_succ]
  repeat go_big_quiet_step (fail)
  clear d0 d1
  refine wpQuiet_nil ?_
  refine wpList_flag rfl _ _ _ 220 rfl _ _ Tryz.underlying220 .u64 Tryz.underlying46 m3 pk ky (HF3.out.grown g5) rfl rfl rfl ?_
  intro y5 fl5 q5 z5
  have Z5:=Lib.hid z5
  clear z5
  go_wp2_with fail
  refine nxt_but q5 (plan_fin ?_)
  simp only [nths,List.map_nil]
  refine wpQuiet_nil ?_
  have Q5:But (PsOwn b m1 m2 m3) w y5:=(QQ.out.trans (But.of_grown g5)).trans (q5.mono (fun i hi => .inr (.inr (.inr hi))))
  replace QQ:=Lib.hid Q5
  replace HB:=Lib.hid ((HB.out.grown g5).but q5 (by omega))
  replace HN:=Lib.hid ((HN.out.grown g5).but q5 (by omega))
  replace HF1:=Lib.hid ((HF1.out.grown g5).but q5 (by omega))
  replace HF2:=Lib.hid ((HF2.out.grown g5).but q5 (by omega))
  replace HF3:=Lib.hid fl5
  clear g5 q5 fl5 Q5
  go_wp2_with fail
  go_end0
  refine ⟨rfl,?_,QQ.out⟩
  rw [show passV ⟨key,nk,ok,pk⟩ ⟨num,next,op,⟨kd,ky,vl,lm⟩,wd⟩ = ⟨ky,addK nk num,addK ok op,addK pk ky⟩ by unfold passV;simp only [if_neg (show ¬ 2 ≤ wd by have:=HOV.out;omega)]]
  exact ⟨HB.out,HF1.out,HF2.out,HF3.out,d12,d13,d23⟩
end Go.Proofs.YtmokcgifknmchaaGreat
namespace Go.Proofs.YtmokcgifknmchaaGreat
open Go.ChangeShapes Go.WideShapes Go.ChangeAt Go.RowKit Go.Shelf
set_option maxRecDepth 100000
set_option linter.unusedVariables false
attribute [local go_sem] Oper.semAt_some
def sndB (c:Cf) (ws:List Int) (s:St) (b:Int):Bool:=sndL c ws s b ps0 (chainI c ws b)
def sndW (w:World) (x:Value) (b:Int):World :=
 (((((((w.alloc (.cells #[x] 29)).alloc (.cells #[.int .i64 b] 3)).alloc (.cells #[.bool false] 4)).alloc (.map #[] 0)).alloc (.map #[] 0)).alloc (.map #[] 0)).alloc
  (.cells #[.int .u64 0,.map (some (w.heap.size + 1 + 1 + 1)),.map (some (w.heap.size + 1 + 1 + 1 + 1)),.map (some (w.heap.size + 1 + 1 + 1 + 1 + 1))] 222))
theorem snd_start (w:World) (x:Value) (b:Int):(sndW w x b).cell? ⟨w.heap.size,0,none⟩ = some x ∧ (sndW w x b).cell? ⟨w.heap.size + 1,0,none⟩ = some (.int .i64 b) ∧ (sndW w x b).heap.size = w.heap.size + 1 + 1 + 1 + 1 + 1 + 1 + 1 ∧
  SdI w (w.heap.size + 1 + 1) (w.heap.size + 1 + 1 + 1 + 1 + 1 + 1) (w.heap.size + 1 + 1 + 1) (w.heap.size + 1 + 1 + 1 + 1) (w.heap.size + 1 + 1 + 1 + 1 + 1) ps0 (sndW w x b):=by
 obtain ⟨A1,h1⟩:∃ A,(w.alloc (.cells #[x] 29)).alloc (.cells #[.int .i64 b] 3) = A:=⟨_,rfl⟩
 obtain ⟨A2,h2⟩:∃ A,A1.alloc (.cells #[.bool false] 4) = A:=⟨_,rfl⟩
 obtain ⟨A3,h3⟩:∃ A,A2.alloc (.map #[] 0) = A:=⟨_,rfl⟩
 obtain ⟨A4,h4⟩:∃ A,A3.alloc (.map #[] 0) = A:=⟨_,rfl⟩
 obtain ⟨A5,h5⟩:∃ A,A4.alloc (.map #[] 0) = A:=⟨_,rfl⟩
 obtain ⟨A6,h6⟩:∃ A,A5.alloc (.cells #[.int .u64 0,.map (some (w.heap.size + 1 + 1 + 1)),.map (some (w.heap.size + 1 + 1 + 1 + 1)),.map (some (w.heap.size + 1 + 1 + 1 + 1 + 1))] 222) = A:=⟨_,rfl⟩
 have hW:sndW w x b = A6:=by unfold sndW;rw [h1,h2,h3,h4,h5,h6]
 rw [hW]
 have z1:A1.heap.size = w.heap.size + 1 + 1:=by rw [← h1];simp
 have z2:A2.heap.size = w.heap.size + 1 + 1 + 1:=by rw [← h2];simp [z1]
 have z3:A3.heap.size = w.heap.size + 1 + 1 + 1 + 1:=by rw [← h3];simp [z2]
 have z4:A4.heap.size = w.heap.size + 1 + 1 + 1 + 1 + 1:=by rw [← h4];simp [z3]
 have z5:A5.heap.size = w.heap.size + 1 + 1 + 1 + 1 + 1 + 1:=by rw [← h5];simp [z4]
 have z6:A6.heap.size = w.heap.size + 1 + 1 + 1 + 1 + 1 + 1 + 1:=by rw [← h6];simp [z5]
 have g1:Grown w A1:=by rw [← h1];go_grown
 have g2:Grown A1 A2:=by rw [← h2];go_grown
 have g3:Grown A2 A3:=by rw [← h3];exact grown_map _
 have g4:Grown A3 A4:=by rw [← h4];exact grown_map _
 have g5:Grown A4 A5:=by rw [← h5];exact grown_map _
 have g6:Grown A5 A6:=by rw [← h6];go_grown
 have g26:Grown A2 A6:=gtr g3 (gtr g4 (gtr g5 g6))
 have c0:A1.cell? ⟨w.heap.size,0,none⟩ = some x:=by rw [← h1];simp [go_sem]
 have c1:A1.cell? ⟨w.heap.size + 1,0,none⟩ = some (.int .i64 b):=by rw [← h1];simp [go_sem]
 have B2:=Box.made A1 [.bool false] 4
 rw [z1] at B2
 rw [show A1.alloc (.cells [Value.bool false].toArray 4) = A2 from h2] at B2
 have F1:=FlagAt.made A2 .i64
 rw [h3,z2] at F1
 have F2:=FlagAt.made A3 .i64
 rw [h4,z3] at F2
 have F3:=FlagAt.made A4 .u64
 rw [h5,z4] at F3
 have B6:=Box.made A5 [.int .u64 0,.map (some (w.heap.size + 1 + 1 + 1)),.map (some (w.heap.size + 1 + 1 + 1 + 1)),.map (some (w.heap.size + 1 + 1 + 1 + 1 + 1))] 222
 rw [z5] at B6
 rw [show A5.alloc (.cells [Value.int .u64 0,.map (some (w.heap.size + 1 + 1 + 1)),.map (some (w.heap.size + 1 + 1 + 1 + 1)),.map (some (w.heap.size + 1 + 1 + 1 + 1 + 1))].toArray 222) = A6 from h6] at B6
 exact ⟨gcell (gtr g2 g26) c0,gcell (gtr g2 g26) c1,z6,gtr g1 (gtr g2 g26),B2.grown g26,⟨B6,F1.grown (gtr g4 (gtr g5 g6)),F2.grown (gtr g5 g6),F3.grown g6,by omega,by omega,by omega⟩⟩
set_option maxHeartbeats 4000000 in
theorem soundBucket_at (w:World) (c:Cf) (d:Wd) (ws:List Int) (n:Int) (s:St) (h:WdAt w c d ws n s) (hI:Inv c s) (hws:WOk ws) (b:Int) :
  Calls Tryz.prog 78 #[.pointer (some ⟨d.x,0,none⟩),.int .i64 b] w fun e w' => e = .returned (.bool (sndB c ws s b)) ∧ Grown w w':=by
 have HD:=Lib.hid h
 have k1:=h.k1
 have hdx:=h.xlt
 clear h
 obtain ⟨V,hV⟩:∃ V,sndB c ws s b = V:=⟨_,rfl⟩
 rw [hV]
 have HV:=Lib.hid hV
 clear hV
 refine (callsIn_wide (n:=9)).1 ?_
 refine callsIn_of_wp_marks Tryz.func78 rfl trivial ?_ rfl
 simp only [Tryz.ntmps78,List.size_toArray,List.length_cons,List.length_nil,Nat.reduceAdd,Nat.reduceSub,Array.replicate_succ,Array.replicate_zero,List.push_toArray,List.append_toArray,List.nil_append,List.cons_append]
 have hmm:=flag_make (P:=Tryz.prog)
 gi_wp2_with fail
 refine ⟨trivial,?_⟩
 obtain ⟨s0,s1,sz,hS⟩:=snd_start w (.pointer (some ⟨d.x,0,none⟩)) b
 obtain ⟨A6,hA6⟩:∃ A,sndW w (.pointer (some ⟨d.x,0,none⟩)) b = A:=⟨_,rfl⟩
 rw [hA6] at s0 s1 sz hS
 unfold sndW at hA6
 rw [hA6]
 clear hA6 hmm
 refine (callsIn_wide.2 (nodes_at _ _ _)).mono ?_
 rintro e w1 ⟨b1,b2,rfl,c1,c2,hb1,hb2,g1⟩
 have l1:=World.block_lt_of_cell? _ _ c1
 have l2:=World.block_lt_of_cell? _ _ c2
 simp only at l1 l2
 rw [sz] at hb1 hb2
 have hS1:=hS.grown g1
 have s0':=gcell g1 s0
 have s1':=gcell g1 s1
 clear s0 s1 hS
 have hlw:=hS1.g.2.2
 gi_wp2_with fail
 refine range_law (gf:=128) (lb:=#[.pointer (some ⟨b1,0,none⟩),.pointer (some ⟨b2,0,none⟩)]) rfl (fun _ _ => rfl)
  (nodes1_iter w w1 c d ws n s HD.out hI hws hS1.g b1 b2 b c1 c2 (fun i => w.heap.size ≤ i ∧ i ≠ b1 ∧ i ≠ b2) (fun i hi => hi.1) (fun hi => hi.2.1 rfl) (fun hi => hi.2.2 rfl)) ⟨by omega,by omega,by omega⟩ (fun _ => rfl)
  (fun pre W => ∃ p,SdI w (w.heap.size + 1 + 1) (w.heap.size + 1 + 1 + 1 + 1 + 1 + 1) (w.heap.size + 1 + 1 + 1) (w.heap.size + 1 + 1 + 1 + 1) (w.heap.size + 1 + 1 + 1 + 1 + 1) p W ∧
   W.cell? ⟨w.heap.size,0,none⟩ = some (.pointer (some ⟨d.x,0,none⟩)) ∧ W.cell? ⟨w.heap.size + 1,0,none⟩ = some (.int .i64 b) ∧ ∀ rest,chainI c ws b = pre ++ rest → V = sndL c ws s b p rest)
  (fun co _ W => co = .ret ∧ Grown w W ∧ Box W (w.heap.size + 1 + 1) [.bool false] ∧ V = false) ?hI ?hIx ⟨ps0,hS1,s0',s1',fun rest hr => by rw [← HV.out];unfold sndB;rw [hr];simp⟩ ?round ?done ?stop
 case hI =>
  rintro pre A C ⟨p,hp,a0,a1,hr⟩ q
  exact ⟨p,hp.kept q (fun i hi => by omega) (by omega) (fun i hi e => by unfold PsOwn at hi;omega),q.cell (by omega) a0,q.cell (by omega) a1,hr⟩
 case hIx =>
  rintro co pre A C ⟨hc,hg,hb,hv⟩ q
  exact ⟨hc,q.fresh hg (fun i hi => by omega),hb.kept q (by omega),hv⟩
 case done =>
  rintro W ⟨p,hp,-,-,hr⟩ hdd hWr
  have hv:V = true:=by rw [hr [] (by simp)];rfl
  have c9:=hp.res.cell 0 _ rfl
  have f9:=hp.res.free 0
  have HP:=Lib.hid hp
  have HVT:=Lib.hid hv
  clear hr hp hv
  dsimp only
  gi_wp2_with fail
  have hset:But (fun i => i = w.heap.size + 1 + 1) W (W.setCell ⟨w.heap.size + 1 + 1,0,none⟩ (.bool true)):=But.setCell (S:=fun i => i = w.heap.size + 1 + 1) (But.refl _ W) (a:=⟨w.heap.size + 1 + 1,0,none⟩) (.inl rfl) _
  have c10:(W.setCell ⟨w.heap.size + 1 + 1,0,none⟩ (.bool true)).cell? ⟨w.heap.size + 1 + 1,0,none⟩ = some (.bool true):=World.cell?_setCell_same _ _ _ c9
  refine leaves_marks [w1.heap.size] _ (by simp) (fun D hD => ?_) (fun W' q => ?_)
  ·simp only [List.mem_singleton] at hD
   subst hD
   exact (hset.kept.same _ (Array.getElem?_eq_some_iff.1 hdd).1 (by omega)).trans hdd
  ·have c11:=q.cell (by simp;omega) c10
   refine ⟨.bool true,by simp [results,Tryz.results78,go_sem,c11],by rw [HVT.out],?_⟩
   exact q.fresh (But.fresh HP.out.g hset (fun i hi => by omega)) (fun i hi => by simp at hi;omega)
 case stop =>
  rintro co pre W - ⟨rfl,hg,hb,hv⟩ hdd hWr
  dsimp only
  gi_wp2_with fail
  have c10:=hb.cell 0 _ rfl
  refine leaves_marks [w1.heap.size] _ (by simp) (fun D hD => ?_) (fun W' q => ?_)
  ·simp only [List.mem_singleton] at hD
   subst hD
   exact hdd
  ·have c11:=q.cell (by simp;omega) c10
   refine ⟨.bool false,by simp [results,Tryz.results78,go_sem,c11],by rw [hv],?_⟩
   exact q.fresh hg (fun i hi => by simp at hi;omega)
 case round =>
  rintro pre x post A W hx ⟨p,hA,a0,a1,hr⟩ gA hlA
  have HX:=Lib.hid hx
  have HRr:=Lib.hid hr
  clear hx hr
  dsimp only
  simp only [List.zip_toArray,List.zip_cons_cons,List.zip_nil_right,List.size_toArray,List.length_cons,List.length_nil,List.foldl_toArray',List.foldl_cons,List.foldl_nil,List.setIfInBounds_toArray,List.set_cons_succ,List.set_cons_zero]
  gi_wp2_with (first | (refine store_boxIn rfl 141 _ _ rfl W.heap.size _ (Box.made W [.int .i64 0,.int .u64 0,.int .i64 0,.int .i64 0,.int .u64 0,.int .u64 0,.int .i64 0,.int .u64 0] 141) (nodeL c ws s x).toArray rfl rfl rfl (by kernel_rfl) rfl ?_;intro W1 B1 q1) | fail)
  have gW:Grown W W1:=But.fresh (by go_grown) q1 (fun i hi => by subst hi;exact Nat.le_refl _)
  refine ⟨gW,fun W₂ q => ?_⟩
  have hAW:=gA.2.2
  have hA2:=((hA.grown gA).grown gW).kept q (fun i hi => by omega) (by omega) (fun i hi e => by unfold PsOwn at hi;omega)
  have a0':=q.cell (by omega) (gcell (gtr gA gW) a0)
  have a1':=q.cell (by omega) (gcell (gtr gA gW) a1)
  have B2:=B1.kept q (by omega)
  have hstep:V = if fitV c b p (ndOf c ws s x) = true then sndL c ws s b (passV p (ndOf c ws s x)) post else false:=HRr.out (x :: post) HX.out
  have hnx:=hws (nxtI c x)
  have hnn:(ndOf c ws s x).next = rd ws (nxtI c x):=rfl
  rw [← hnn] at hnx
  have hpost:∀ rest,chainI c ws b = (pre ++ [x]) ++ rest → rest = post:=fun rest h => by
   rw [HX.out] at h;simpa using h.symm
  rw [← ndOf_l] at B2
  simp only [← ndOf_l]
  have HPost:=Lib.hid hpost
  have HSt:=Lib.hid hstep
  clear hpost hstep
  gi_wp2_with fail
  generalize ndOf c ws s x = y at *
  obtain ⟨num,next,op,⟨kd,ky,vl,lm⟩,wd⟩:=y
  unfold Nd.l at B2
  simp only at B2 hnx HSt
  clear hnn
  have HNx:=Lib.hid hnx
  have HB2:=Lib.hid B2
  have HA2:=Lib.hid hA2
  have HG2:=Lib.hid hA2.g
  have hW2:W.heap.size < W₂.heap.size:=B2.lt
  clear hnx B2 hA2
  refine wpIn_region_planR (.one [0] 1 (.one [2,3,4,5,6,7,8,9,10,11,13] 12 (.one [14,15,16,17] 18 (.fin [19,20])))) (by kernel_rfl) (by kernel_rfl) (by kernel_rfl) (by kernel_rfl) ?_
  intro w5 g5
  have e0:∀ g:GrW w5,g.w.cell? ⟨W.heap.size,0,none⟩ = some (.int .i64 num):=GrW.cell ((HB2.out.grown g5).cell 0 _ rfl)
  have e1:∀ g:GrW w5,g.w.cell? ⟨W.heap.size,1,none⟩ = some (.int .u64 next):=GrW.cell ((HB2.out.grown g5).cell 1 _ rfl)
  have e2:∀ g:GrW w5,g.w.cell? ⟨W.heap.size,2,none⟩ = some (.int .i64 op):=GrW.cell ((HB2.out.grown g5).cell 2 _ rfl)
  have e3:∀ g:GrW w5,g.w.cell? ⟨W.heap.size,3,none⟩ = some (.int .i64 kd):=GrW.cell ((HB2.out.grown g5).cell 3 _ rfl)
  have e4:∀ g:GrW w5,g.w.cell? ⟨W.heap.size,4,none⟩ = some (.int .u64 ky):=GrW.cell ((HB2.out.grown g5).cell 4 _ rfl)
  have e5:∀ g:GrW w5,g.w.cell? ⟨W.heap.size,5,none⟩ = some (.int .u64 vl):=GrW.cell ((HB2.out.grown g5).cell 5 _ rfl)
  have e6:∀ g:GrW w5,g.w.cell? ⟨W.heap.size,6,none⟩ = some (.int .i64 lm):=GrW.cell ((HB2.out.grown g5).cell 6 _ rfl)
  have e7:∀ g:GrW w5,g.w.cell? ⟨W.heap.size,7,none⟩ = some (.int .u64 wd):=GrW.cell ((HB2.out.grown g5).cell 7 _ rfl)
  have r0:∀ g:GrW w5,g.w.cell? ⟨w.heap.size,0,none⟩ = some (.pointer (some ⟨d.x,0,none⟩)):=GrW.cell (gcell g5 a0')
  have r1:∀ g:GrW w5,g.w.cell? ⟨w.heap.size + 1,0,none⟩ = some (.int .i64 b):=GrW.cell (gcell g5 a1')
  have rk:∀ g:GrW w5,g.w.cell? ⟨d.x,1,none⟩ = some (.int .i64 c.b):=GrW.cell (gcell (gtr HG2.out g5) k1)
  refine plan_one ?_
  simp only [nths,nth,List.map_cons,List.map_nil,List.getD_cons_zero,List.getD_cons_succ]
  repeat go_big_quiet_step (fail)
  refine wpQuiet_nil ?_
  go_wp2_with fail
  by_cases hk:kd = 1
  ·have HK:=Lib.hid (decide_eq_true hk)
   clear hk
   refine (isInsert_at num next op kd ky vl lm wd true HK.out _).mono ?_;rintro e u6 ⟨rfl,g6⟩
   go_wp2_with fail
   refine nxt_stay g6 (plan_one ?_)
   simp only [nths,nth,List.map_cons,List.map_nil,List.getD_cons_zero,List.getD_cons_succ]
   repeat go_big_quiet_step (fail)
   refine wpQuiet_nil ?_
   by_cases hb:zBucket ky c.b = b
   ·have hbq:(zBucket ky c.b != b) = false:=by simpa using hb
    have HBq:=Lib.hid (decide_eq_true hb)
    clear hb
    go_wp2_with fail
    refine (Bucket_any ky c.b _).mono ?_;rintro e u7 ⟨rfl,g7⟩
    go_wp2_with fail
    refine nxt_stay (gtr g6 g7) (plan_one ?_)
    simp only [nths,nth,List.map_cons,List.map_nil,List.getD_cons_zero,List.getD_cons_succ]
    repeat go_big_quiet_step (fail)
    refine wpQuiet_nil ?_
    obtain ⟨V8,hV8⟩:∃ v,bearsV p ⟨num,next,op,⟨kd,ky,vl,lm⟩,wd⟩ = v:=⟨_,rfl⟩
    have HV8:=Lib.hid hV8
    clear hV8
    cases V8
    ·go_wp2_with fail
     refine (bears_at _ _ _ _ _ p ((HA2.out.grown (gtr g5 (gtr g6 g7))).ps) ⟨num,next,op,⟨kd,ky,vl,lm⟩,wd⟩ HNx.out.1 HNx.out.2).mono ?_;rintro e u8 ⟨rfl,g8⟩
     rw [HV8.out]
     go_wp2_with fail
     refine nxt_stay (gtr g6 (gtr g7 g8)) (plan_fin ?_)
     simp only [nths,nth,List.map_cons,List.map_nil,List.getD_cons_zero,List.getD_cons_succ]
     repeat go_big_quiet_step (fail)
     refine wpQuiet_nil ?_
     clear e0 e1 e2 e3 e4 e5 e6 e7 r0 r1 rk
     have G:=gtr g5 (gtr g6 (gtr g7 g8))
     have hres:=(HA2.out.grown G).res
     have c4:=hres.cell 0 _ rfl
     have f4:=hres.free 0
     gi_wp2_with fail
     have hB4:=hres.set (j:=0) (by simp) (.bool false)
     have qS:But (fun i => i = w.heap.size + 1 + 1) W₂ (u8.setCell ⟨w.heap.size + 1 + 1,0,none⟩ (.bool false)):=But.setCell (S:=fun i => i = w.heap.size + 1 + 1) (But.of_grown G) (a:=⟨w.heap.size + 1 + 1,0,none⟩) (.inl rfl) _
     refine ⟨qS.kept.mono (fun i hi => ?_),rfl,But.fresh HG2.out qS (fun i hi => by subst hi;omega),hB4,?_⟩
     ·subst hi;exact ⟨⟨by omega,by omega,by omega⟩,by omega,by omega,by omega⟩
     ·rw [HSt.out]
      exact if_neg (by unfold fitV;simp only [HK.out,HBq.out,HV8.out,Bool.and_false];decide)
    ·go_wp2_with fail
     refine (bears_at _ _ _ _ _ p ((HA2.out.grown (gtr g5 (gtr g6 g7))).ps) ⟨num,next,op,⟨kd,ky,vl,lm⟩,wd⟩ HNx.out.1 HNx.out.2).mono ?_;rintro e u8 ⟨rfl,g8⟩
     rw [HV8.out]
     go_wp2_with fail
     refine nxt_stay (gtr g6 (gtr g7 g8)) (plan_fin ?_)
     simp only [nths,nth,List.map_cons,List.map_nil,List.getD_cons_zero,List.getD_cons_succ]
     repeat go_big_quiet_step (fail)
     refine wpQuiet_nil ?_
     clear e0 e1 e2 e3 e4 e5 e6 e7 r0 r1 rk
     have G:=gtr g5 (gtr g6 (gtr g7 g8))
     have hA8:=HA2.out.grown G
     have B8:=HB2.out.grown G
     gi_wp2_with (first | (refine load_boxIn rfl 141 _ rfl W.heap.size rfl _ _ Tryz.underlying141 rfl (by kernel_rfl) B8 ?_) | fail)
     refine ⟨trivial,?_⟩
     refine (CallsIn.inRound _ (callsIn_wide.2 (pass_at u8 _ _ _ _ p hA8.ps ⟨num,next,op,⟨kd,ky,vl,lm⟩,wd⟩))).mono ?_
     rintro e u9 ⟨rfl,hp9,q9⟩
     gi_wp2_with fail
     have q29:=(But.of_grown (S:=PsOwn (w.heap.size + 1 + 1 + 1 + 1 + 1 + 1) (w.heap.size + 1 + 1 + 1) (w.heap.size + 1 + 1 + 1 + 1) (w.heap.size + 1 + 1 + 1 + 1 + 1)) G).trans q9
     have hown:∀ i,PsOwn (w.heap.size + 1 + 1 + 1 + 1 + 1 + 1) (w.heap.size + 1 + 1 + 1) (w.heap.size + 1 + 1 + 1 + 1) (w.heap.size + 1 + 1 + 1 + 1 + 1) i → w.heap.size + 1 + 1 < i ∧ i < w.heap.size + 1 + 1 + 1 + 1 + 1 + 1 + 1:=fun i hi => by unfold PsOwn at hi;omega
     refine ⟨q29.kept.mono (fun i hi => ?_),passV p ⟨num,next,op,⟨kd,ky,vl,lm⟩,wd⟩,⟨?_,?_,hp9⟩,?_,?_,fun rest hrest => ?_⟩
     ·have:=hown i hi;exact ⟨⟨by omega,by omega,by omega⟩,by omega,by omega,by omega⟩
     ·exact But.fresh HG2.out q29 (fun i hi => by have:=hown i hi;omega)
     ·exact HA2.out.res.but q29 (fun hi => by have:=hown _ hi;omega)
     ·exact q29.cell (fun hi => by have:=hown _ hi;omega) a0'
     ·exact q29.cell (fun hi => by have:=hown _ hi;omega) a1'
     ·rw [HPost.out rest hrest,HSt.out]
      exact if_pos (by unfold fitV;simp only [HK.out,HBq.out,HV8.out,Bool.and_self])
   ·have hbq:(zBucket ky c.b != b) = true:=by simpa using hb
    have HBq:=Lib.hid (decide_eq_false hb)
    clear hb
    go_wp2_with fail
    refine (Bucket_any ky c.b _).mono ?_;rintro e u7 ⟨rfl,g7⟩
    go_wp2_with fail
    refine nxt_stay (gtr g6 g7) (plan_one ?_)
    simp only [nths,nth,List.map_cons,List.map_nil,List.getD_cons_zero,List.getD_cons_succ]
    repeat go_big_quiet_step (fail)
    refine wpQuiet_nil ?_
    go_wp2_with fail
    refine nxt_stay (gtr g6 g7) (plan_fin ?_)
    simp only [nths,nth,List.map_cons,List.map_nil,List.getD_cons_zero,List.getD_cons_succ]
    repeat go_big_quiet_step (fail)
    refine wpQuiet_nil ?_
    clear e0 e1 e2 e3 e4 e5 e6 e7 r0 r1 rk
    have G:=gtr g5 (gtr g6 g7)
    have hres:=(HA2.out.grown G).res
    have c4:=hres.cell 0 _ rfl
    have f4:=hres.free 0
    gi_wp2_with fail
    have hB4:=hres.set (j:=0) (by simp) (.bool false)
    have qS:But (fun i => i = w.heap.size + 1 + 1) W₂ (u7.setCell ⟨w.heap.size + 1 + 1,0,none⟩ (.bool false)):=But.setCell (S:=fun i => i = w.heap.size + 1 + 1) (But.of_grown G) (a:=⟨w.heap.size + 1 + 1,0,none⟩) (.inl rfl) _
    refine ⟨qS.kept.mono (fun i hi => ?_),rfl,But.fresh HG2.out qS (fun i hi => by subst hi;omega),hB4,?_⟩
    ·subst hi;exact ⟨⟨by omega,by omega,by omega⟩,by omega,by omega,by omega⟩
    ·rw [HSt.out]
     exact if_neg (by unfold fitV;simp only [HK.out,HBq.out,Bool.and_false,Bool.false_and];decide)
  ·have HK:=Lib.hid (decide_eq_false hk)
   have HKn:=Lib.hid hk
   clear hk
   refine (isInsert_at num next op kd ky vl lm wd false HK.out _).mono ?_;rintro e u6 ⟨rfl,g6⟩
   go_wp2_with fail
   refine nxt_stay g6 (plan_one ?_)
   simp only [nths,nth,List.map_cons,List.map_nil,List.getD_cons_zero,List.getD_cons_succ]
   repeat go_big_quiet_step (fail)
   refine wpQuiet_nil ?_
   go_wp2_with fail
   refine nxt_stay g6 (plan_one ?_)
   simp only [nths,nth,List.map_cons,List.map_nil,List.getD_cons_zero,List.getD_cons_succ]
   repeat go_big_quiet_step (fail)
   refine wpQuiet_nil ?_
   go_wp2_with fail
   refine nxt_stay g6 (plan_fin ?_)
   simp only [nths,nth,List.map_cons,List.map_nil,List.getD_cons_zero,List.getD_cons_succ]
   repeat go_big_quiet_step (fail)
   refine wpQuiet_nil ?_
   clear e0 e1 e2 e3 e4 e5 e6 e7 r0 r1 rk
   have G:=gtr g5 g6
   have hres:=(HA2.out.grown G).res
   have c4:=hres.cell 0 _ rfl
   have f4:=hres.free 0
   gi_wp2_with fail
   have hB4:=hres.set (j:=0) (by simp) (.bool false)
   have qS:But (fun i => i = w.heap.size + 1 + 1) W₂ (u6.setCell ⟨w.heap.size + 1 + 1,0,none⟩ (.bool false)):=But.setCell (S:=fun i => i = w.heap.size + 1 + 1) (But.of_grown G) (a:=⟨w.heap.size + 1 + 1,0,none⟩) (.inl rfl) _
   refine ⟨qS.kept.mono (fun i hi => ?_),rfl,But.fresh HG2.out qS (fun i hi => by subst hi;omega),hB4,?_⟩
   ·subst hi;exact ⟨⟨by omega,by omega,by omega⟩,by omega,by omega,by omega⟩
   ·rw [HSt.out]
    exact if_neg (by unfold fitV;simp only [HK.out,Bool.false_and];decide)
end Go.Proofs.YtmokcgifknmchaaGreat
namespace Go.Proofs.YtmokcgifknmchaaGreat
open Go.ChangeShapes Go.WideShapes Go.ChangeAt Go.RowKit Go.Shelf
set_option maxRecDepth 100000
set_option linter.unusedVariables false
attribute [local go_sem] Oper.semAt_some
def sndTo (c:Cf) (ws:List Int) (s:St):Nat → Bool
 | 0 => true
 | k + 1 => sndTo c ws s k && sndB c ws s k
theorem sndTo_le (c:Cf) (ws:List Int) (s:St) (k:Nat) (h:sndB c ws s k = false):∀ m,k < m → sndTo c ws s m = false
 | m + 1,hm => by
  unfold sndTo
  by_cases hk:k = m
  ·subst hk;rw [h,Bool.and_false]
  ·rw [sndTo_le c ws s k h m (by omega),Bool.false_and]
theorem Sound_at (w:World) (c:Cf) (d:Wd) (ws:List Int) (n:Int) (s:St) (h:WdAt w c d ws n s) (hI:Inv c s) (hws:WOk ws) :
  Calls Tryz.prog 21 #[.pointer (some ⟨d.x,0,none⟩)] w fun e w' => e = .returned (.bool (sndTo c ws s c.b)) ∧ Grown w w':=by
 obtain ⟨V,hV⟩:∃ V,sndTo c ws s c.b = V:=⟨_,rfl⟩
 rw [hV]
 have HV:=Lib.hid hV
 have HD:=Lib.hid h
 have hb64:(c.b:Int) ≤ 64:=by have:=h.book.ok.b64;omega
 clear h hV
 go_enter Tryz.func21,Tryz.ntmps21
 go_wp2_with fail
 refine (buckets_at _ c d ws n s HD.out).mono ?_;rintro e w1 ⟨rfl,g1⟩
 go_wp2_with fail
 go_loopw [8] (fun s8 wr => ∃ k:Nat,s8 = .int .i64 (k:Int) ∧ k ≤ c.b ∧ sndTo c ws s k = true ∧ Grown w wr) (fun s8 _ => c.b - (intOf s8).toNat)
 case atStart => exact ⟨0,rfl,Nat.zero_le _,rfl,g1⟩
 case round =>
  obtain ⟨k,rfl,hk,hs,hg⟩:=hrel
  have HS:=Lib.hid hs
  clear hs
  by_cases hkb:k < c.b
  ·have hlt:(k:Int) < (c.b:Int):=by omega
   go_wp2_with fail
   refine (soundBucket_at _ c d ws n s (HD.out.grown hg) hI hws k).mono ?_;rintro e w2 ⟨rfl,g2⟩
   obtain ⟨v,hv⟩:∃ v,sndB c ws s k = v:=⟨_,rfl⟩
   rw [hv]
   have HVk:=Lib.hid hv
   clear hv
   cases v
   ·go_wp2_with fail
    go_ret
    exact ⟨ret_bool (by rw [← HV.out,sndTo_le c ws s k HVk.out c.b hkb]),gtr hg g2⟩
   ·go_wp2_with fail
    refine ⟨⟨k + 1,by simp,hkb,?_,gtr hg g2⟩,by simp [intOf];omega⟩
    unfold sndTo
    rw [HS.out,HVk.out];rfl
  ·have hlt:¬ (k:Int) < (c.b:Int):=by omega
   have HK:Hid (k = c.b):=Lib.hid (by omega)
   clear hkb
   go_wp2_with fail
   go_ret
   exact ⟨ret_bool (by rw [← HV.out,← HK.out,HS.out]),hg⟩
end Go.Proofs.YtmokcgifknmchaaGreat
