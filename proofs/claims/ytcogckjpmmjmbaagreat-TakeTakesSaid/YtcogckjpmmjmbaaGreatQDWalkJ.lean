/- Package walk: to judge. -/
import Derived.Test.YtcogckjpmmjmbaaGreatQDWalkB
namespace Go.Proofs.YtcogckjpmmjmbaaGreat
open Go.ChangeShapes Go.WideShapes Go.ChangeAt Go.RowKit
set_option maxRecDepth 100000
set_option linter.unusedVariables false
def verI (x:Wk) (key op v:Int):Int :=
 if 2 ≤ v then 1 else if key ≠ x.key then 0 else if x.mode = 2 then (if v = 1 then 2 else 3)
 else if x.mode = 1 then (if v = 1 then (if x.seen = op then 5 else 4) else if x.seen = -1 then 7 else 6) else 0
def judV (s:St) (x:Wk) (op k:Int):Wk :=
 if k = 2 then { x with found:=op,stop:=true,done:=true } else if k = 3 then { x with stop:=true,done:=true } else if k = 4 then advK s { x with seen:=op } else if k = 0 then advK s x
 else if k = 6 then { x with phase:=5 } else if k = 7 then { x with phase:=6 } else { x with phase:=4 }
theorem jud_k (s:St) (x:Wk) (v k:Int) (hk:verI x (keyOf_ s x.curr) (opK s x) v = k):judK s x v = judV s x (opK s x) k:=by
 subst hk
 unfold judK verI
 by_cases h1:2 ≤ v
 ·simp [h1,judV]
 by_cases h2:keyOf_ s x.curr = x.key
 ·by_cases h3:x.mode = 2
  ·by_cases h4:v = 1
   ·simp [h2,h3,h4,judV]
   ·simp [h1,h2,h3,h4,judV]
  ·by_cases h5:x.mode = 1
   ·by_cases h4:v = 1
    ·by_cases h6:x.seen = opK s x
     ·simp [h2,h5,h4,h6,judV]
     ·simp [h2,h5,h4,h6,judV]
    ·by_cases h6:x.seen = -1
     ·simp [h1,h2,h5,h4,h6,judV]
     ·simp [h1,h2,h5,h4,h6,judV]
   ·simp [h1,h2,h3,h5,judV]
 ·simp [h1,h2,judV]
theorem ver_k (x:Wk) (key op v:Int):verI x key op v = 0 ∨ verI x key op v = 1 ∨ verI x key op v = 2 ∨ verI x key op v = 3 ∨ verI x key op v = 4 ∨ verI x key op v = 5 ∨ verI x key op v = 6 ∨ verI x key op v = 7:=by
 unfold verI
 repeat' split
 all_goals simp
set_option maxHeartbeats 8000000 in
theorem kVerdict (w:World) (r:Nat) (x:Wk) (hB:Box w r x.l) (key op v k:Int) (hk:verI x key op v = k) :
  Calls Tryz.prog 258 #[.pointer (some ⟨r,0,none⟩),.int .u64 key,.int .i64 op,.int .u64 v] w fun e w' => e = .returned (.int .i64 k) ∧ Grown w w':=by
 have c0:w.cell? ⟨r,0,none⟩ = some (.int .u64 x.key):=hB.cell 0 _ rfl
 have c1:w.cell? ⟨r,1,none⟩ = some (.int .i64 x.mode):=hB.cell 1 _ rfl
 have c6:w.cell? ⟨r,6,none⟩ = some (.int .i64 x.seen):=hB.cell 6 _ rfl
 clear hB
 by_cases hO:2 ≤ v
 ·have dO:decide (2 ≤ v) = true:=by simpa using hO
  obtain rfl:k = 1:=by rw [← hk];unfold verI;simp_all
  clear hk hO
  go_enter Tryz.func258,Tryz.ntmps258
  go_wp2_with fail
  refine (Over_any _ _).mono ?_;rintro e w1 ⟨rfl,g1⟩
  have e0:=gcell g1 c0
  have e1:=gcell g1 c1
  have e6:=gcell g1 c6
  clear c0 c1 c6
  go_wp2
  go_ret
  exact ⟨rfl,g1⟩
 ·by_cases hK:key = x.key
  ·by_cases hM2:x.mode = 2
   ·by_cases hV:v = 1
    ·have dO:decide (2 ≤ v) = false:=by simpa using hO
     have dK:decide (key = x.key) = true:=by simpa using hK
     have bK:(key == x.key) = true:=by simpa using hK
     have nK:(key != x.key) = false:=by simpa using hK
     have dM2:decide (x.mode = 2) = true:=by simpa using hM2
     have bM2:(x.mode == 2) = true:=by simpa using hM2
     have nM2:(x.mode != 2) = false:=by simpa using hM2
     have dV:decide (v = 1) = true:=by simpa using hV
     have bV:(v == 1) = true:=by simpa using hV
     have nV:(v != 1) = false:=by simpa using hV
     obtain rfl:k = 2:=by rw [← hk];unfold verI;simp_all
     clear hk hO hK hM2 hV
     go_enter Tryz.func258,Tryz.ntmps258
     go_wp2_with fail
     refine (Over_any _ _).mono ?_;rintro e w1 ⟨rfl,g1⟩
     have e0:=gcell g1 c0
     have e1:=gcell g1 c1
     have e6:=gcell g1 c6
     clear c0 c1 c6
     go_wp2
     go_ret
     exact ⟨rfl,g1⟩
    ·have dO:decide (2 ≤ v) = false:=by simpa using hO
     have dK:decide (key = x.key) = true:=by simpa using hK
     have bK:(key == x.key) = true:=by simpa using hK
     have nK:(key != x.key) = false:=by simpa using hK
     have dM2:decide (x.mode = 2) = true:=by simpa using hM2
     have bM2:(x.mode == 2) = true:=by simpa using hM2
     have nM2:(x.mode != 2) = false:=by simpa using hM2
     have dV:decide (v = 1) = false:=by simpa using hV
     have bV:(v == 1) = false:=by simpa using hV
     have nV:(v != 1) = true:=by simpa using hV
     obtain rfl:k = 3:=by rw [← hk];unfold verI;simp_all
     clear hk hO hK hM2 hV
     go_enter Tryz.func258,Tryz.ntmps258
     go_wp2_with fail
     refine (Over_any _ _).mono ?_;rintro e w1 ⟨rfl,g1⟩
     have e0:=gcell g1 c0
     have e1:=gcell g1 c1
     have e6:=gcell g1 c6
     clear c0 c1 c6
     go_wp2
     go_ret
     exact ⟨rfl,g1⟩
   ·by_cases hM1:x.mode = 1
    ·by_cases hV:v = 1
     ·by_cases hS:x.seen = op
      ·have dO:decide (2 ≤ v) = false:=by simpa using hO
       have dK:decide (key = x.key) = true:=by simpa using hK
       have bK:(key == x.key) = true:=by simpa using hK
       have nK:(key != x.key) = false:=by simpa using hK
       have dM2:decide (x.mode = 2) = false:=by simpa using hM2
       have bM2:(x.mode == 2) = false:=by simpa using hM2
       have nM2:(x.mode != 2) = true:=by simpa using hM2
       have dM1:decide (x.mode = 1) = true:=by simpa using hM1
       have bM1:(x.mode == 1) = true:=by simpa using hM1
       have nM1:(x.mode != 1) = false:=by simpa using hM1
       have dV:decide (v = 1) = true:=by simpa using hV
       have bV:(v == 1) = true:=by simpa using hV
       have nV:(v != 1) = false:=by simpa using hV
       have dS:decide (x.seen = op) = true:=by simpa using hS
       have bS:(x.seen == op) = true:=by simpa using hS
       have nS:(x.seen != op) = false:=by simpa using hS
       obtain rfl:k = 5:=by rw [← hk];unfold verI;simp_all
       clear hk hO hK hM2 hM1 hV hS
       go_enter Tryz.func258,Tryz.ntmps258
       go_wp2_with fail
       refine (Over_any _ _).mono ?_;rintro e w1 ⟨rfl,g1⟩
       have e0:=gcell g1 c0
       have e1:=gcell g1 c1
       have e6:=gcell g1 c6
       clear c0 c1 c6
       go_wp2
       go_ret
       exact ⟨rfl,g1⟩
      ·have dO:decide (2 ≤ v) = false:=by simpa using hO
       have dK:decide (key = x.key) = true:=by simpa using hK
       have bK:(key == x.key) = true:=by simpa using hK
       have nK:(key != x.key) = false:=by simpa using hK
       have dM2:decide (x.mode = 2) = false:=by simpa using hM2
       have bM2:(x.mode == 2) = false:=by simpa using hM2
       have nM2:(x.mode != 2) = true:=by simpa using hM2
       have dM1:decide (x.mode = 1) = true:=by simpa using hM1
       have bM1:(x.mode == 1) = true:=by simpa using hM1
       have nM1:(x.mode != 1) = false:=by simpa using hM1
       have dV:decide (v = 1) = true:=by simpa using hV
       have bV:(v == 1) = true:=by simpa using hV
       have nV:(v != 1) = false:=by simpa using hV
       have dS:decide (x.seen = op) = false:=by simpa using hS
       have bS:(x.seen == op) = false:=by simpa using hS
       have nS:(x.seen != op) = true:=by simpa using hS
       obtain rfl:k = 4:=by rw [← hk];unfold verI;simp_all
       clear hk hO hK hM2 hM1 hV hS
       go_enter Tryz.func258,Tryz.ntmps258
       go_wp2_with fail
       refine (Over_any _ _).mono ?_;rintro e w1 ⟨rfl,g1⟩
       have e0:=gcell g1 c0
       have e1:=gcell g1 c1
       have e6:=gcell g1 c6
       clear c0 c1 c6
       go_wp2
       go_ret
       exact ⟨rfl,g1⟩
     ·by_cases hN:x.seen = -1
      ·have dO:decide (2 ≤ v) = false:=by simpa using hO
       have dK:decide (key = x.key) = true:=by simpa using hK
       have bK:(key == x.key) = true:=by simpa using hK
       have nK:(key != x.key) = false:=by simpa using hK
       have dM2:decide (x.mode = 2) = false:=by simpa using hM2
       have bM2:(x.mode == 2) = false:=by simpa using hM2
       have nM2:(x.mode != 2) = true:=by simpa using hM2
       have dM1:decide (x.mode = 1) = true:=by simpa using hM1
       have bM1:(x.mode == 1) = true:=by simpa using hM1
       have nM1:(x.mode != 1) = false:=by simpa using hM1
       have dV:decide (v = 1) = false:=by simpa using hV
       have bV:(v == 1) = false:=by simpa using hV
       have nV:(v != 1) = true:=by simpa using hV
       have dN:decide (x.seen = -1) = true:=by simpa using hN
       have bN:(x.seen == (-1)) = true:=by simpa using hN
       have nN:(x.seen != (-1)) = false:=by simpa using hN
       obtain rfl:k = 7:=by rw [← hk];unfold verI;simp_all
       clear hk hO hK hM2 hM1 hV hN
       go_enter Tryz.func258,Tryz.ntmps258
       go_wp2_with fail
       refine (Over_any _ _).mono ?_;rintro e w1 ⟨rfl,g1⟩
       have e0:=gcell g1 c0
       have e1:=gcell g1 c1
       have e6:=gcell g1 c6
       clear c0 c1 c6
       go_wp2
       go_ret
       exact ⟨rfl,g1⟩
      ·have dO:decide (2 ≤ v) = false:=by simpa using hO
       have dK:decide (key = x.key) = true:=by simpa using hK
       have bK:(key == x.key) = true:=by simpa using hK
       have nK:(key != x.key) = false:=by simpa using hK
       have dM2:decide (x.mode = 2) = false:=by simpa using hM2
       have bM2:(x.mode == 2) = false:=by simpa using hM2
       have nM2:(x.mode != 2) = true:=by simpa using hM2
       have dM1:decide (x.mode = 1) = true:=by simpa using hM1
       have bM1:(x.mode == 1) = true:=by simpa using hM1
       have nM1:(x.mode != 1) = false:=by simpa using hM1
       have dV:decide (v = 1) = false:=by simpa using hV
       have bV:(v == 1) = false:=by simpa using hV
       have nV:(v != 1) = true:=by simpa using hV
       have dN:decide (x.seen = -1) = false:=by simpa using hN
       have bN:(x.seen == (-1)) = false:=by simpa using hN
       have nN:(x.seen != (-1)) = true:=by simpa using hN
       obtain rfl:k = 6:=by rw [← hk];unfold verI;simp_all
       clear hk hO hK hM2 hM1 hV hN
       go_enter Tryz.func258,Tryz.ntmps258
       go_wp2_with fail
       refine (Over_any _ _).mono ?_;rintro e w1 ⟨rfl,g1⟩
       have e0:=gcell g1 c0
       have e1:=gcell g1 c1
       have e6:=gcell g1 c6
       clear c0 c1 c6
       go_wp2
       go_ret
       exact ⟨rfl,g1⟩
    ·have dO:decide (2 ≤ v) = false:=by simpa using hO
     have dK:decide (key = x.key) = true:=by simpa using hK
     have bK:(key == x.key) = true:=by simpa using hK
     have nK:(key != x.key) = false:=by simpa using hK
     have dM2:decide (x.mode = 2) = false:=by simpa using hM2
     have bM2:(x.mode == 2) = false:=by simpa using hM2
     have nM2:(x.mode != 2) = true:=by simpa using hM2
     have dM1:decide (x.mode = 1) = false:=by simpa using hM1
     have bM1:(x.mode == 1) = false:=by simpa using hM1
     have nM1:(x.mode != 1) = true:=by simpa using hM1
     obtain rfl:k = 0:=by rw [← hk];unfold verI;simp_all
     clear hk hO hK hM2 hM1
     go_enter Tryz.func258,Tryz.ntmps258
     go_wp2_with fail
     refine (Over_any _ _).mono ?_;rintro e w1 ⟨rfl,g1⟩
     have e0:=gcell g1 c0
     have e1:=gcell g1 c1
     have e6:=gcell g1 c6
     clear c0 c1 c6
     go_wp2
     go_ret
     exact ⟨rfl,g1⟩
  ·have dO:decide (2 ≤ v) = false:=by simpa using hO
   have dK:decide (key = x.key) = false:=by simpa using hK
   have bK:(key == x.key) = false:=by simpa using hK
   have nK:(key != x.key) = true:=by simpa using hK
   obtain rfl:k = 0:=by rw [← hk];unfold verI;simp_all
   clear hk hO hK
   go_enter Tryz.func258,Tryz.ntmps258
   go_wp2_with fail
   refine (Over_any _ _).mono ?_;rintro e w1 ⟨rfl,g1⟩
   have e0:=gcell g1 c0
   have e1:=gcell g1 c1
   have e6:=gcell g1 c6
   clear c0 c1 c6
   go_wp2
   go_ret
   exact ⟨rfl,g1⟩
set_option maxHeartbeats 8000000 in
theorem kJudge (w:World) (c:Cf) (d:Wd) (s:St) (r:Nat) (y:Kd) (h:WkAt w c d s r y) (hI:Inv c s) (n0:0 ≤ y.n) (n1:y.n < 4611686018427387904) (b0:0 ≤ y.x.next) (b1:y.x.next ≤ 18446744073709551615) (z:Kd) (hz:jdgK c s y = z) :
  Calls Tryz.prog 225 #[.pointer (some ⟨r,0,none⟩),.pointer (some ⟨d.x,0,none⟩)] w fun e w' => e = .returned (.tuple #[]) ∧ LeftK c d s r z w w':=by
 obtain ⟨ws,n,x⟩:=y
 simp only at n0 n1 b0 b1
 obtain ⟨op,hop⟩:∃ v,opK s x = v:=⟨_,rfl⟩
 obtain ⟨kv,hkv⟩:∃ v,keyOf_ s x.curr = v:=⟨_,rfl⟩
 obtain ⟨v,hv⟩:∃ v,rd ws (wrdI c op) = v:=⟨_,rfl⟩
 obtain ⟨k,hk⟩:∃ k,verI x kv op v = k:=⟨_,rfl⟩
 have HZ:Hid ((⟨ws,n + cnt ws (wrdI c op),judK s x v⟩:Kd) = z):=Lib.hid (by rw [← hz,← hv,← hop];rfl)
 have HK:Hid (verI x (keyOf_ s x.curr) (opK s x) v = k):=Lib.hid (by rw [hkv,hop];exact hk)
 have HKo:=Lib.hid hk
 have HOP:=Lib.hid hop
 have HKv:=Lib.hid hkv
 have HV:=Lib.hid hv
 have H:=Lib.hid h
 have HI:=Lib.hid hI
 obtain ⟨oo,hoo⟩:∃ o,lookI s.nodes x.curr = o:=⟨_,rfl⟩
 have hcr:carriedOf oo = op:=by rw [← hop,← hoo];rfl
 have HCa:Hid (∀ W,Grown w W → Calls Tryz.prog 206 #[.pointer (some ⟨d.a.p,0,none⟩),.int .i64 x.curr] W fun e w' => e = .returned (.int .i64 op) ∧ Grown W w'):=Lib.hid (fun W q => by
  rw [← hcr]
  exact Carried_at _ c d.a s (H.out.wd.book.grown q) HI.out x.curr oo hoo)
 have c4:∀ g:GrW w,g.w.cell? ⟨r,4,none⟩ = some (.int .i64 x.curr):=GrW.cell (h.box.cell 4 _ rfl)
 have c6:∀ g:GrW w,g.w.cell? ⟨d.x,6,none⟩ = some (.pointer (some ⟨d.a.p,0,none⟩)):=GrW.cell h.wd.k6
 have hk':=hk
 rcases ver_k x kv op v with h0 | h0 | h0 | h0 | h0 | h0 | h0 | h0
 ·obtain rfl:k = 0:=by rw [← hk];exact h0
  clear h hI hz hop hkv hv hk hk' hoo hcr h0
  have HJ:Hid ((⟨ws,n + cnt ws (wrdI c op),judV s x op 0⟩:Kd) = z):=Lib.hid (by rw [← HZ.out,jud_k s x v _ HK.out,HOP.out])
  go_enter Tryz.func225,Tryz.ntmps225
  go_wp2_with fail
  refine wp_region_grow (by kernel_rfl) (by kernel_rfl) ?_
  repeat (go_big_quiet_step ((go_at_call 206;exact grcall (HCa.out (GrW.w _) (GrW.gr _)))))
  refine wpQuiet_nil ?_
  rintro w1 ⟨⟨_,g1⟩,rfl⟩
  have H1:=Lib.hid (H.out.grown g1)
  have Q1:Hid (But (Sk d r) w w1):=Lib.hid (But.of_grown g1)
  clear g1 c4 c6
  go_wp2_with fail
  refine wp_region_planb (Mine d.p d.b) (.one [0,1,2,3,4,5,6,7,8,10,11,12] 9 (.one [] 13 (.one [] 14 (.fin [])))) (by kernel_rfl) (by kernel_rfl) (by kernel_rfl) ?_
  intro w2 g2
  have H2:=Lib.hid (H1.out.grown g2)
  have Q2:Hid (But (Sk d r) w w2):=Lib.hid (Q1.out.trans (But.of_grown g2))
  have d4:∀ g:ButW (Mine d.p d.b) w2,g.w.cell? ⟨r,4,none⟩ = some (.int .i64 x.curr):=ButW.cell H2.out.nm (H2.out.box.cell 4 _ rfl)
  have d6:∀ g:ButW (Mine d.p d.b) w2,g.w.cell? ⟨d.x,6,none⟩ = some (.pointer (some ⟨d.a.p,0,none⟩)):=ButW.cell H2.out.wd.mine (H2.out.wd.k6)
  refine plan_one ?_
  simp only [nths,nth,List.map_cons,List.map_nil,List.getD_cons_zero,List.getD_cons_succ]
  repeat go_big_quiet_step (fail)
  clear d4 d6 g2
  refine wpQuiet_nil ?_
  go_wp2_with fail
  refine (Key_at _ c d.a s H2.out.wd.book HI.out x.curr _ HKv.out).mono ?_;rintro e w3 ⟨rfl,g3⟩
  have H3:=Lib.hid (H2.out.grown g3)
  go_wp2_with fail
  refine nxt_but (But.of_grown g3) (plan_one ?_)
  simp only [nths,nth,List.map_nil,List.getD_cons_zero,List.getD_cons_succ]
  refine wpQuiet_nil ?_
  go_wp2_with fail
  refine (wWord_any _ c d ws n s _ H3.out.wd n0 n1).mono ?_;rintro e w4 ⟨rfl,q4,h4⟩
  rw [HV.out]
  have H4:=Lib.hid (H3.out.step ⟨q4,h4⟩)
  have q24:But (Mine d.p d.b) w2 w4:=(But.of_grown g3).trans q4
  clear q4 h4 g3
  go_wp2_with fail
  refine nxt_but q24 (plan_one ?_)
  simp only [nths,nth,List.map_nil,List.getD_cons_zero,List.getD_cons_succ]
  refine wpQuiet_nil ?_
  go_wp2_with fail
  refine (kVerdict _ r x H4.out.box kv op v _ HKo.out).mono ?_;rintro e w5 ⟨rfl,g5⟩
  have H5:=Lib.hid (H4.out.grown g5)
  have q25:But (Mine d.p d.b) w2 w5:=q24.trans (But.of_grown g5)
  have Q5:=Lib.hid (Q2.out.trans (but_m q25))
  clear g5
  go_wp2_with fail
  refine nxt_but q25 (plan_fin ?_)
  simp only [nths,List.map_nil]
  refine wpQuiet_nil ?_
  clear q24 q25
  go_wp2_with fail
  refine (kAdvance _ c d s r _ H5.out HI.out b0 b1 _ rfl).mono ?_;rintro e w8 ⟨rfl,q8,h8⟩
  have H8:=Lib.hid h8
  have Q8:=Lib.hid (Q5.out.trans q8)
  clear q8 h8
  go_wp2
  go_end0
  refine ⟨rfl,Q8.out,?_⟩
  rw [← HJ.out]
  exact H8.out
 ·obtain rfl:k = 1:=by rw [← hk];exact h0
  clear h hI hz hop hkv hv hk hk' hoo hcr h0
  have HJ:Hid ((⟨ws,n + cnt ws (wrdI c op),judV s x op 1⟩:Kd) = z):=Lib.hid (by rw [← HZ.out,jud_k s x v _ HK.out,HOP.out])
  go_enter Tryz.func225,Tryz.ntmps225
  go_wp2_with fail
  refine wp_region_grow (by kernel_rfl) (by kernel_rfl) ?_
  repeat (go_big_quiet_step ((go_at_call 206;exact grcall (HCa.out (GrW.w _) (GrW.gr _)))))
  refine wpQuiet_nil ?_
  rintro w1 ⟨⟨_,g1⟩,rfl⟩
  have H1:=Lib.hid (H.out.grown g1)
  have Q1:Hid (But (Sk d r) w w1):=Lib.hid (But.of_grown g1)
  clear g1 c4 c6
  go_wp2_with fail
  refine wp_region_planb (Mine d.p d.b) (.one [0,1,2,3,4,5,6,7,8,10,11,12] 9 (.one [] 13 (.one [] 14 (.fin [])))) (by kernel_rfl) (by kernel_rfl) (by kernel_rfl) ?_
  intro w2 g2
  have H2:=Lib.hid (H1.out.grown g2)
  have Q2:Hid (But (Sk d r) w w2):=Lib.hid (Q1.out.trans (But.of_grown g2))
  have d4:∀ g:ButW (Mine d.p d.b) w2,g.w.cell? ⟨r,4,none⟩ = some (.int .i64 x.curr):=ButW.cell H2.out.nm (H2.out.box.cell 4 _ rfl)
  have d6:∀ g:ButW (Mine d.p d.b) w2,g.w.cell? ⟨d.x,6,none⟩ = some (.pointer (some ⟨d.a.p,0,none⟩)):=ButW.cell H2.out.wd.mine (H2.out.wd.k6)
  refine plan_one ?_
  simp only [nths,nth,List.map_cons,List.map_nil,List.getD_cons_zero,List.getD_cons_succ]
  repeat go_big_quiet_step (fail)
  clear d4 d6 g2
  refine wpQuiet_nil ?_
  go_wp2_with fail
  refine (Key_at _ c d.a s H2.out.wd.book HI.out x.curr _ HKv.out).mono ?_;rintro e w3 ⟨rfl,g3⟩
  have H3:=Lib.hid (H2.out.grown g3)
  go_wp2_with fail
  refine nxt_but (But.of_grown g3) (plan_one ?_)
  simp only [nths,nth,List.map_nil,List.getD_cons_zero,List.getD_cons_succ]
  refine wpQuiet_nil ?_
  go_wp2_with fail
  refine (wWord_any _ c d ws n s _ H3.out.wd n0 n1).mono ?_;rintro e w4 ⟨rfl,q4,h4⟩
  rw [HV.out]
  have H4:=Lib.hid (H3.out.step ⟨q4,h4⟩)
  have q24:But (Mine d.p d.b) w2 w4:=(But.of_grown g3).trans q4
  clear q4 h4 g3
  go_wp2_with fail
  refine nxt_but q24 (plan_one ?_)
  simp only [nths,nth,List.map_nil,List.getD_cons_zero,List.getD_cons_succ]
  refine wpQuiet_nil ?_
  go_wp2_with fail
  refine (kVerdict _ r x H4.out.box kv op v _ HKo.out).mono ?_;rintro e w5 ⟨rfl,g5⟩
  have H5:=Lib.hid (H4.out.grown g5)
  have q25:But (Mine d.p d.b) w2 w5:=q24.trans (But.of_grown g5)
  have Q5:=Lib.hid (Q2.out.trans (but_m q25))
  clear g5
  go_wp2_with fail
  refine nxt_but q25 (plan_fin ?_)
  simp only [nths,List.map_nil]
  refine wpQuiet_nil ?_
  clear q24 q25
  go_wp2_with (first | (refine store_cell rfl 3 _ _ rfl r 2 rfl (.int .i64 4) rfl rfl (x:Wk).l ({ x with phase:=4 }:Wk).l H5.out.box (Nat.le_of_ble_eq_true rfl) (by kernel_rfl) rfl ?_;intro w6 B_ q_;have H6:=Lib.hid (H5.out.put (x:={ x with phase:=4 }) B_ q_);have Q6:Hid (But (Sk d r) w w6):=Lib.hid (Q5.out.trans (but_r q_));clear B_ q_) | fail)
  go_end0
  refine ⟨rfl,Q6.out,?_⟩
  rw [← HJ.out]
  exact H6.out
 ·obtain rfl:k = 2:=by rw [← hk];exact h0
  clear h hI hz hop hkv hv hk hk' hoo hcr h0
  have HJ:Hid ((⟨ws,n + cnt ws (wrdI c op),judV s x op 2⟩:Kd) = z):=Lib.hid (by rw [← HZ.out,jud_k s x v _ HK.out,HOP.out])
  go_enter Tryz.func225,Tryz.ntmps225
  go_wp2_with fail
  refine wp_region_grow (by kernel_rfl) (by kernel_rfl) ?_
  repeat (go_big_quiet_step ((go_at_call 206;exact grcall (HCa.out (GrW.w _) (GrW.gr _)))))
  refine wpQuiet_nil ?_
  rintro w1 ⟨⟨_,g1⟩,rfl⟩
  have H1:=Lib.hid (H.out.grown g1)
  have Q1:Hid (But (Sk d r) w w1):=Lib.hid (But.of_grown g1)
  clear g1 c4 c6
  go_wp2_with fail
  refine wp_region_planb (Mine d.p d.b) (.one [0,1,2,3,4,5,6,7,8,10,11,12] 9 (.one [] 13 (.one [] 14 (.fin [])))) (by kernel_rfl) (by kernel_rfl) (by kernel_rfl) ?_
  intro w2 g2
  have H2:=Lib.hid (H1.out.grown g2)
  have Q2:Hid (But (Sk d r) w w2):=Lib.hid (Q1.out.trans (But.of_grown g2))
  have d4:∀ g:ButW (Mine d.p d.b) w2,g.w.cell? ⟨r,4,none⟩ = some (.int .i64 x.curr):=ButW.cell H2.out.nm (H2.out.box.cell 4 _ rfl)
  have d6:∀ g:ButW (Mine d.p d.b) w2,g.w.cell? ⟨d.x,6,none⟩ = some (.pointer (some ⟨d.a.p,0,none⟩)):=ButW.cell H2.out.wd.mine (H2.out.wd.k6)
  refine plan_one ?_
  simp only [nths,nth,List.map_cons,List.map_nil,List.getD_cons_zero,List.getD_cons_succ]
  repeat go_big_quiet_step (fail)
  clear d4 d6 g2
  refine wpQuiet_nil ?_
  go_wp2_with fail
  refine (Key_at _ c d.a s H2.out.wd.book HI.out x.curr _ HKv.out).mono ?_;rintro e w3 ⟨rfl,g3⟩
  have H3:=Lib.hid (H2.out.grown g3)
  go_wp2_with fail
  refine nxt_but (But.of_grown g3) (plan_one ?_)
  simp only [nths,nth,List.map_nil,List.getD_cons_zero,List.getD_cons_succ]
  refine wpQuiet_nil ?_
  go_wp2_with fail
  refine (wWord_any _ c d ws n s _ H3.out.wd n0 n1).mono ?_;rintro e w4 ⟨rfl,q4,h4⟩
  rw [HV.out]
  have H4:=Lib.hid (H3.out.step ⟨q4,h4⟩)
  have q24:But (Mine d.p d.b) w2 w4:=(But.of_grown g3).trans q4
  clear q4 h4 g3
  go_wp2_with fail
  refine nxt_but q24 (plan_one ?_)
  simp only [nths,nth,List.map_nil,List.getD_cons_zero,List.getD_cons_succ]
  refine wpQuiet_nil ?_
  go_wp2_with fail
  refine (kVerdict _ r x H4.out.box kv op v _ HKo.out).mono ?_;rintro e w5 ⟨rfl,g5⟩
  have H5:=Lib.hid (H4.out.grown g5)
  have q25:But (Mine d.p d.b) w2 w5:=q24.trans (But.of_grown g5)
  have Q5:=Lib.hid (Q2.out.trans (but_m q25))
  clear g5
  go_wp2_with fail
  refine nxt_but q25 (plan_fin ?_)
  simp only [nths,List.map_nil]
  refine wpQuiet_nil ?_
  clear q24 q25
  go_wp2_with (first | (refine store_cell rfl 3 _ _ rfl r 7 rfl (.int .i64 op) rfl rfl (x:Wk).l ({ x with found:=op }:Wk).l H5.out.box (Nat.le_of_ble_eq_true rfl) (by kernel_rfl) rfl ?_;intro w6 B_ q_;have H6:=Lib.hid (H5.out.put (x:={ x with found:=op }) B_ q_);have Q6:Hid (But (Sk d r) w w6):=Lib.hid (Q5.out.trans (but_r q_));clear B_ q_) | (refine store_cell rfl 4 _ _ rfl r 8 rfl (.bool true) rfl rfl ({ x with found:=op }:Wk).l ({ x with found:=op,stop:=true }:Wk).l H6.out.box (Nat.le_of_ble_eq_true rfl) (by kernel_rfl) rfl ?_;intro w7 B_ q_;have H7:=Lib.hid (H6.out.put (x:={ x with found:=op,stop:=true }) B_ q_);have Q7:Hid (But (Sk d r) w w7):=Lib.hid (Q6.out.trans (but_r q_));clear B_ q_) | (refine store_cell rfl 4 _ _ rfl r 9 rfl (.bool true) rfl rfl ({ x with found:=op,stop:=true }:Wk).l ({ x with found:=op,stop:=true,done:=true }:Wk).l H7.out.box (Nat.le_of_ble_eq_true rfl) (by kernel_rfl) rfl ?_;intro w8 B_ q_;have H8:=Lib.hid (H7.out.put (x:={ x with found:=op,stop:=true,done:=true }) B_ q_);have Q8:Hid (But (Sk d r) w w8):=Lib.hid (Q7.out.trans (but_r q_));clear B_ q_) | fail)
  go_end0
  refine ⟨rfl,Q8.out,?_⟩
  rw [← HJ.out]
  exact H8.out
 ·obtain rfl:k = 3:=by rw [← hk];exact h0
  clear h hI hz hop hkv hv hk hk' hoo hcr h0
  have HJ:Hid ((⟨ws,n + cnt ws (wrdI c op),judV s x op 3⟩:Kd) = z):=Lib.hid (by rw [← HZ.out,jud_k s x v _ HK.out,HOP.out])
  go_enter Tryz.func225,Tryz.ntmps225
  go_wp2_with fail
  refine wp_region_grow (by kernel_rfl) (by kernel_rfl) ?_
  repeat (go_big_quiet_step ((go_at_call 206;exact grcall (HCa.out (GrW.w _) (GrW.gr _)))))
  refine wpQuiet_nil ?_
  rintro w1 ⟨⟨_,g1⟩,rfl⟩
  have H1:=Lib.hid (H.out.grown g1)
  have Q1:Hid (But (Sk d r) w w1):=Lib.hid (But.of_grown g1)
  clear g1 c4 c6
  go_wp2_with fail
  refine wp_region_planb (Mine d.p d.b) (.one [0,1,2,3,4,5,6,7,8,10,11,12] 9 (.one [] 13 (.one [] 14 (.fin [])))) (by kernel_rfl) (by kernel_rfl) (by kernel_rfl) ?_
  intro w2 g2
  have H2:=Lib.hid (H1.out.grown g2)
  have Q2:Hid (But (Sk d r) w w2):=Lib.hid (Q1.out.trans (But.of_grown g2))
  have d4:∀ g:ButW (Mine d.p d.b) w2,g.w.cell? ⟨r,4,none⟩ = some (.int .i64 x.curr):=ButW.cell H2.out.nm (H2.out.box.cell 4 _ rfl)
  have d6:∀ g:ButW (Mine d.p d.b) w2,g.w.cell? ⟨d.x,6,none⟩ = some (.pointer (some ⟨d.a.p,0,none⟩)):=ButW.cell H2.out.wd.mine (H2.out.wd.k6)
  refine plan_one ?_
  simp only [nths,nth,List.map_cons,List.map_nil,List.getD_cons_zero,List.getD_cons_succ]
  repeat go_big_quiet_step (fail)
  clear d4 d6 g2
  refine wpQuiet_nil ?_
  go_wp2_with fail
  refine (Key_at _ c d.a s H2.out.wd.book HI.out x.curr _ HKv.out).mono ?_;rintro e w3 ⟨rfl,g3⟩
  have H3:=Lib.hid (H2.out.grown g3)
  go_wp2_with fail
  refine nxt_but (But.of_grown g3) (plan_one ?_)
  simp only [nths,nth,List.map_nil,List.getD_cons_zero,List.getD_cons_succ]
  refine wpQuiet_nil ?_
  go_wp2_with fail
  refine (wWord_any _ c d ws n s _ H3.out.wd n0 n1).mono ?_;rintro e w4 ⟨rfl,q4,h4⟩
  rw [HV.out]
  have H4:=Lib.hid (H3.out.step ⟨q4,h4⟩)
  have q24:But (Mine d.p d.b) w2 w4:=(But.of_grown g3).trans q4
  clear q4 h4 g3
  go_wp2_with fail
  refine nxt_but q24 (plan_one ?_)
  simp only [nths,nth,List.map_nil,List.getD_cons_zero,List.getD_cons_succ]
  refine wpQuiet_nil ?_
  go_wp2_with fail
  refine (kVerdict _ r x H4.out.box kv op v _ HKo.out).mono ?_;rintro e w5 ⟨rfl,g5⟩
  have H5:=Lib.hid (H4.out.grown g5)
  have q25:But (Mine d.p d.b) w2 w5:=q24.trans (But.of_grown g5)
  have Q5:=Lib.hid (Q2.out.trans (but_m q25))
  clear g5
  go_wp2_with fail
  refine nxt_but q25 (plan_fin ?_)
  simp only [nths,List.map_nil]
  refine wpQuiet_nil ?_
  clear q24 q25
  go_wp2_with (first | (refine store_cell rfl 4 _ _ rfl r 8 rfl (.bool true) rfl rfl (x:Wk).l ({ x with stop:=true }:Wk).l H5.out.box (Nat.le_of_ble_eq_true rfl) (by kernel_rfl) rfl ?_;intro w6 B_ q_;have H6:=Lib.hid (H5.out.put (x:={ x with stop:=true }) B_ q_);have Q6:Hid (But (Sk d r) w w6):=Lib.hid (Q5.out.trans (but_r q_));clear B_ q_) | (refine store_cell rfl 4 _ _ rfl r 9 rfl (.bool true) rfl rfl ({ x with stop:=true }:Wk).l ({ x with stop:=true,done:=true }:Wk).l H6.out.box (Nat.le_of_ble_eq_true rfl) (by kernel_rfl) rfl ?_;intro w7 B_ q_;have H7:=Lib.hid (H6.out.put (x:={ x with stop:=true,done:=true }) B_ q_);have Q7:Hid (But (Sk d r) w w7):=Lib.hid (Q6.out.trans (but_r q_));clear B_ q_) | fail)
  go_end0
  refine ⟨rfl,Q7.out,?_⟩
  rw [← HJ.out]
  exact H7.out
 ·obtain rfl:k = 4:=by rw [← hk];exact h0
  clear h hI hz hop hkv hv hk hk' hoo hcr h0
  have HJ:Hid ((⟨ws,n + cnt ws (wrdI c op),judV s x op 4⟩:Kd) = z):=Lib.hid (by rw [← HZ.out,jud_k s x v _ HK.out,HOP.out])
  go_enter Tryz.func225,Tryz.ntmps225
  go_wp2_with fail
  refine wp_region_grow (by kernel_rfl) (by kernel_rfl) ?_
  repeat (go_big_quiet_step ((go_at_call 206;exact grcall (HCa.out (GrW.w _) (GrW.gr _)))))
  refine wpQuiet_nil ?_
  rintro w1 ⟨⟨_,g1⟩,rfl⟩
  have H1:=Lib.hid (H.out.grown g1)
  have Q1:Hid (But (Sk d r) w w1):=Lib.hid (But.of_grown g1)
  clear g1 c4 c6
  go_wp2_with fail
  refine wp_region_planb (Mine d.p d.b) (.one [0,1,2,3,4,5,6,7,8,10,11,12] 9 (.one [] 13 (.one [] 14 (.fin [])))) (by kernel_rfl) (by kernel_rfl) (by kernel_rfl) ?_
  intro w2 g2
  have H2:=Lib.hid (H1.out.grown g2)
  have Q2:Hid (But (Sk d r) w w2):=Lib.hid (Q1.out.trans (But.of_grown g2))
  have d4:∀ g:ButW (Mine d.p d.b) w2,g.w.cell? ⟨r,4,none⟩ = some (.int .i64 x.curr):=ButW.cell H2.out.nm (H2.out.box.cell 4 _ rfl)
  have d6:∀ g:ButW (Mine d.p d.b) w2,g.w.cell? ⟨d.x,6,none⟩ = some (.pointer (some ⟨d.a.p,0,none⟩)):=ButW.cell H2.out.wd.mine (H2.out.wd.k6)
  refine plan_one ?_
  simp only [nths,nth,List.map_cons,List.map_nil,List.getD_cons_zero,List.getD_cons_succ]
  repeat go_big_quiet_step (fail)
  clear d4 d6 g2
  refine wpQuiet_nil ?_
  go_wp2_with fail
  refine (Key_at _ c d.a s H2.out.wd.book HI.out x.curr _ HKv.out).mono ?_;rintro e w3 ⟨rfl,g3⟩
  have H3:=Lib.hid (H2.out.grown g3)
  go_wp2_with fail
  refine nxt_but (But.of_grown g3) (plan_one ?_)
  simp only [nths,nth,List.map_nil,List.getD_cons_zero,List.getD_cons_succ]
  refine wpQuiet_nil ?_
  go_wp2_with fail
  refine (wWord_any _ c d ws n s _ H3.out.wd n0 n1).mono ?_;rintro e w4 ⟨rfl,q4,h4⟩
  rw [HV.out]
  have H4:=Lib.hid (H3.out.step ⟨q4,h4⟩)
  have q24:But (Mine d.p d.b) w2 w4:=(But.of_grown g3).trans q4
  clear q4 h4 g3
  go_wp2_with fail
  refine nxt_but q24 (plan_one ?_)
  simp only [nths,nth,List.map_nil,List.getD_cons_zero,List.getD_cons_succ]
  refine wpQuiet_nil ?_
  go_wp2_with fail
  refine (kVerdict _ r x H4.out.box kv op v _ HKo.out).mono ?_;rintro e w5 ⟨rfl,g5⟩
  have H5:=Lib.hid (H4.out.grown g5)
  have q25:But (Mine d.p d.b) w2 w5:=q24.trans (But.of_grown g5)
  have Q5:=Lib.hid (Q2.out.trans (but_m q25))
  clear g5
  go_wp2_with fail
  refine nxt_but q25 (plan_fin ?_)
  simp only [nths,List.map_nil]
  refine wpQuiet_nil ?_
  clear q24 q25
  go_wp2_with (first | (refine store_cell rfl 3 _ _ rfl r 6 rfl (.int .i64 op) rfl rfl (x:Wk).l ({ x with seen:=op }:Wk).l H5.out.box (Nat.le_of_ble_eq_true rfl) (by kernel_rfl) rfl ?_;intro w6 B_ q_;have H6:=Lib.hid (H5.out.put (x:={ x with seen:=op }) B_ q_);have Q6:Hid (But (Sk d r) w w6):=Lib.hid (Q5.out.trans (but_r q_));clear B_ q_) | fail)
  refine (kAdvance _ c d s r _ H6.out HI.out b0 b1 _ rfl).mono ?_;rintro e w8 ⟨rfl,q8,h8⟩
  have H8:=Lib.hid h8
  have Q8:=Lib.hid (Q6.out.trans q8)
  clear q8 h8
  go_wp2
  go_end0
  refine ⟨rfl,Q8.out,?_⟩
  rw [← HJ.out]
  exact H8.out
 ·obtain rfl:k = 5:=by rw [← hk];exact h0
  clear h hI hz hop hkv hv hk hk' hoo hcr h0
  have HJ:Hid ((⟨ws,n + cnt ws (wrdI c op),judV s x op 5⟩:Kd) = z):=Lib.hid (by rw [← HZ.out,jud_k s x v _ HK.out,HOP.out])
  go_enter Tryz.func225,Tryz.ntmps225
  go_wp2_with fail
  refine wp_region_grow (by kernel_rfl) (by kernel_rfl) ?_
  repeat (go_big_quiet_step ((go_at_call 206;exact grcall (HCa.out (GrW.w _) (GrW.gr _)))))
  refine wpQuiet_nil ?_
  rintro w1 ⟨⟨_,g1⟩,rfl⟩
  have H1:=Lib.hid (H.out.grown g1)
  have Q1:Hid (But (Sk d r) w w1):=Lib.hid (But.of_grown g1)
  clear g1 c4 c6
  go_wp2_with fail
  refine wp_region_planb (Mine d.p d.b) (.one [0,1,2,3,4,5,6,7,8,10,11,12] 9 (.one [] 13 (.one [] 14 (.fin [])))) (by kernel_rfl) (by kernel_rfl) (by kernel_rfl) ?_
  intro w2 g2
  have H2:=Lib.hid (H1.out.grown g2)
  have Q2:Hid (But (Sk d r) w w2):=Lib.hid (Q1.out.trans (But.of_grown g2))
  have d4:∀ g:ButW (Mine d.p d.b) w2,g.w.cell? ⟨r,4,none⟩ = some (.int .i64 x.curr):=ButW.cell H2.out.nm (H2.out.box.cell 4 _ rfl)
  have d6:∀ g:ButW (Mine d.p d.b) w2,g.w.cell? ⟨d.x,6,none⟩ = some (.pointer (some ⟨d.a.p,0,none⟩)):=ButW.cell H2.out.wd.mine (H2.out.wd.k6)
  refine plan_one ?_
  simp only [nths,nth,List.map_cons,List.map_nil,List.getD_cons_zero,List.getD_cons_succ]
  repeat go_big_quiet_step (fail)
  clear d4 d6 g2
  refine wpQuiet_nil ?_
  go_wp2_with fail
  refine (Key_at _ c d.a s H2.out.wd.book HI.out x.curr _ HKv.out).mono ?_;rintro e w3 ⟨rfl,g3⟩
  have H3:=Lib.hid (H2.out.grown g3)
  go_wp2_with fail
  refine nxt_but (But.of_grown g3) (plan_one ?_)
  simp only [nths,nth,List.map_nil,List.getD_cons_zero,List.getD_cons_succ]
  refine wpQuiet_nil ?_
  go_wp2_with fail
  refine (wWord_any _ c d ws n s _ H3.out.wd n0 n1).mono ?_;rintro e w4 ⟨rfl,q4,h4⟩
  rw [HV.out]
  have H4:=Lib.hid (H3.out.step ⟨q4,h4⟩)
  have q24:But (Mine d.p d.b) w2 w4:=(But.of_grown g3).trans q4
  clear q4 h4 g3
  go_wp2_with fail
  refine nxt_but q24 (plan_one ?_)
  simp only [nths,nth,List.map_nil,List.getD_cons_zero,List.getD_cons_succ]
  refine wpQuiet_nil ?_
  go_wp2_with fail
  refine (kVerdict _ r x H4.out.box kv op v _ HKo.out).mono ?_;rintro e w5 ⟨rfl,g5⟩
  have H5:=Lib.hid (H4.out.grown g5)
  have q25:But (Mine d.p d.b) w2 w5:=q24.trans (But.of_grown g5)
  have Q5:=Lib.hid (Q2.out.trans (but_m q25))
  clear g5
  go_wp2_with fail
  refine nxt_but q25 (plan_fin ?_)
  simp only [nths,List.map_nil]
  refine wpQuiet_nil ?_
  clear q24 q25
  go_wp2_with (first | (refine store_cell rfl 3 _ _ rfl r 2 rfl (.int .i64 4) rfl rfl (x:Wk).l ({ x with phase:=4 }:Wk).l H5.out.box (Nat.le_of_ble_eq_true rfl) (by kernel_rfl) rfl ?_;intro w6 B_ q_;have H6:=Lib.hid (H5.out.put (x:={ x with phase:=4 }) B_ q_);have Q6:Hid (But (Sk d r) w w6):=Lib.hid (Q5.out.trans (but_r q_));clear B_ q_) | fail)
  go_end0
  refine ⟨rfl,Q6.out,?_⟩
  rw [← HJ.out]
  exact H6.out
 ·obtain rfl:k = 6:=by rw [← hk];exact h0
  clear h hI hz hop hkv hv hk hk' hoo hcr h0
  have HJ:Hid ((⟨ws,n + cnt ws (wrdI c op),judV s x op 6⟩:Kd) = z):=Lib.hid (by rw [← HZ.out,jud_k s x v _ HK.out,HOP.out])
  go_enter Tryz.func225,Tryz.ntmps225
  go_wp2_with fail
  refine wp_region_grow (by kernel_rfl) (by kernel_rfl) ?_
  repeat (go_big_quiet_step ((go_at_call 206;exact grcall (HCa.out (GrW.w _) (GrW.gr _)))))
  refine wpQuiet_nil ?_
  rintro w1 ⟨⟨_,g1⟩,rfl⟩
  have H1:=Lib.hid (H.out.grown g1)
  have Q1:Hid (But (Sk d r) w w1):=Lib.hid (But.of_grown g1)
  clear g1 c4 c6
  go_wp2_with fail
  refine wp_region_planb (Mine d.p d.b) (.one [0,1,2,3,4,5,6,7,8,10,11,12] 9 (.one [] 13 (.one [] 14 (.fin [])))) (by kernel_rfl) (by kernel_rfl) (by kernel_rfl) ?_
  intro w2 g2
  have H2:=Lib.hid (H1.out.grown g2)
  have Q2:Hid (But (Sk d r) w w2):=Lib.hid (Q1.out.trans (But.of_grown g2))
  have d4:∀ g:ButW (Mine d.p d.b) w2,g.w.cell? ⟨r,4,none⟩ = some (.int .i64 x.curr):=ButW.cell H2.out.nm (H2.out.box.cell 4 _ rfl)
  have d6:∀ g:ButW (Mine d.p d.b) w2,g.w.cell? ⟨d.x,6,none⟩ = some (.pointer (some ⟨d.a.p,0,none⟩)):=ButW.cell H2.out.wd.mine (H2.out.wd.k6)
  refine plan_one ?_
  simp only [nths,nth,List.map_cons,List.map_nil,List.getD_cons_zero,List.getD_cons_succ]
  repeat go_big_quiet_step (fail)
  clear d4 d6 g2
  refine wpQuiet_nil ?_
  go_wp2_with fail
  refine (Key_at _ c d.a s H2.out.wd.book HI.out x.curr _ HKv.out).mono ?_;rintro e w3 ⟨rfl,g3⟩
  have H3:=Lib.hid (H2.out.grown g3)
  go_wp2_with fail
  refine nxt_but (But.of_grown g3) (plan_one ?_)
  simp only [nths,nth,List.map_nil,List.getD_cons_zero,List.getD_cons_succ]
  refine wpQuiet_nil ?_
  go_wp2_with fail
  refine (wWord_any _ c d ws n s _ H3.out.wd n0 n1).mono ?_;rintro e w4 ⟨rfl,q4,h4⟩
  rw [HV.out]
  have H4:=Lib.hid (H3.out.step ⟨q4,h4⟩)
  have q24:But (Mine d.p d.b) w2 w4:=(But.of_grown g3).trans q4
  clear q4 h4 g3
  go_wp2_with fail
  refine nxt_but q24 (plan_one ?_)
  simp only [nths,nth,List.map_nil,List.getD_cons_zero,List.getD_cons_succ]
  refine wpQuiet_nil ?_
  go_wp2_with fail
  refine (kVerdict _ r x H4.out.box kv op v _ HKo.out).mono ?_;rintro e w5 ⟨rfl,g5⟩
  have H5:=Lib.hid (H4.out.grown g5)
  have q25:But (Mine d.p d.b) w2 w5:=q24.trans (But.of_grown g5)
  have Q5:=Lib.hid (Q2.out.trans (but_m q25))
  clear g5
  go_wp2_with fail
  refine nxt_but q25 (plan_fin ?_)
  simp only [nths,List.map_nil]
  refine wpQuiet_nil ?_
  clear q24 q25
  go_wp2_with (first | (refine store_cell rfl 3 _ _ rfl r 2 rfl (.int .i64 5) rfl rfl (x:Wk).l ({ x with phase:=5 }:Wk).l H5.out.box (Nat.le_of_ble_eq_true rfl) (by kernel_rfl) rfl ?_;intro w6 B_ q_;have H6:=Lib.hid (H5.out.put (x:={ x with phase:=5 }) B_ q_);have Q6:Hid (But (Sk d r) w w6):=Lib.hid (Q5.out.trans (but_r q_));clear B_ q_) | fail)
  go_end0
  refine ⟨rfl,Q6.out,?_⟩
  rw [← HJ.out]
  exact H6.out
 ·obtain rfl:k = 7:=by rw [← hk];exact h0
  clear h hI hz hop hkv hv hk hk' hoo hcr h0
  have HJ:Hid ((⟨ws,n + cnt ws (wrdI c op),judV s x op 7⟩:Kd) = z):=Lib.hid (by rw [← HZ.out,jud_k s x v _ HK.out,HOP.out])
  go_enter Tryz.func225,Tryz.ntmps225
  go_wp2_with fail
  refine wp_region_grow (by kernel_rfl) (by kernel_rfl) ?_
  repeat (go_big_quiet_step ((go_at_call 206;exact grcall (HCa.out (GrW.w _) (GrW.gr _)))))
  refine wpQuiet_nil ?_
  rintro w1 ⟨⟨_,g1⟩,rfl⟩
  have H1:=Lib.hid (H.out.grown g1)
  have Q1:Hid (But (Sk d r) w w1):=Lib.hid (But.of_grown g1)
  clear g1 c4 c6
  go_wp2_with fail
  refine wp_region_planb (Mine d.p d.b) (.one [0,1,2,3,4,5,6,7,8,10,11,12] 9 (.one [] 13 (.one [] 14 (.fin [])))) (by kernel_rfl) (by kernel_rfl) (by kernel_rfl) ?_
  intro w2 g2
  have H2:=Lib.hid (H1.out.grown g2)
  have Q2:Hid (But (Sk d r) w w2):=Lib.hid (Q1.out.trans (But.of_grown g2))
  have d4:∀ g:ButW (Mine d.p d.b) w2,g.w.cell? ⟨r,4,none⟩ = some (.int .i64 x.curr):=ButW.cell H2.out.nm (H2.out.box.cell 4 _ rfl)
  have d6:∀ g:ButW (Mine d.p d.b) w2,g.w.cell? ⟨d.x,6,none⟩ = some (.pointer (some ⟨d.a.p,0,none⟩)):=ButW.cell H2.out.wd.mine (H2.out.wd.k6)
  refine plan_one ?_
  simp only [nths,nth,List.map_cons,List.map_nil,List.getD_cons_zero,List.getD_cons_succ]
  repeat go_big_quiet_step (fail)
  clear d4 d6 g2
  refine wpQuiet_nil ?_
  go_wp2_with fail
  refine (Key_at _ c d.a s H2.out.wd.book HI.out x.curr _ HKv.out).mono ?_;rintro e w3 ⟨rfl,g3⟩
  have H3:=Lib.hid (H2.out.grown g3)
  go_wp2_with fail
  refine nxt_but (But.of_grown g3) (plan_one ?_)
  simp only [nths,nth,List.map_nil,List.getD_cons_zero,List.getD_cons_succ]
  refine wpQuiet_nil ?_
  go_wp2_with fail
  refine (wWord_any _ c d ws n s _ H3.out.wd n0 n1).mono ?_;rintro e w4 ⟨rfl,q4,h4⟩
  rw [HV.out]
  have H4:=Lib.hid (H3.out.step ⟨q4,h4⟩)
  have q24:But (Mine d.p d.b) w2 w4:=(But.of_grown g3).trans q4
  clear q4 h4 g3
  go_wp2_with fail
  refine nxt_but q24 (plan_one ?_)
  simp only [nths,nth,List.map_nil,List.getD_cons_zero,List.getD_cons_succ]
  refine wpQuiet_nil ?_
  go_wp2_with fail
  refine (kVerdict _ r x H4.out.box kv op v _ HKo.out).mono ?_;rintro e w5 ⟨rfl,g5⟩
  have H5:=Lib.hid (H4.out.grown g5)
  have q25:But (Mine d.p d.b) w2 w5:=q24.trans (But.of_grown g5)
  have Q5:=Lib.hid (Q2.out.trans (but_m q25))
  clear g5
  go_wp2_with fail
  refine nxt_but q25 (plan_fin ?_)
  simp only [nths,List.map_nil]
  refine wpQuiet_nil ?_
  clear q24 q25
  go_wp2_with (first | (refine store_cell rfl 3 _ _ rfl r 2 rfl (.int .i64 6) rfl rfl (x:Wk).l ({ x with phase:=6 }:Wk).l H5.out.box (Nat.le_of_ble_eq_true rfl) (by kernel_rfl) rfl ?_;intro w6 B_ q_;have H6:=Lib.hid (H5.out.put (x:={ x with phase:=6 }) B_ q_);have Q6:Hid (But (Sk d r) w w6):=Lib.hid (Q5.out.trans (but_r q_));clear B_ q_) | fail)
  go_end0
  refine ⟨rfl,Q6.out,?_⟩
  rw [← HJ.out]
  exact H6.out
end Go.Proofs.YtcogckjpmmjmbaaGreat
