/- Two deletes, one behind the other, of one operation, in a sound world. -/
import Derived.Test.YtcogckjpmmjmbaaGreatQDTkJ
import Derived.Test.YtcogckjpmmjmbaaGreatQDGLaid
import Derived.Test.YtcogckjpmmjmbaaGreatQDMRefW
import Derived.Test.YtcogckjpmmjmbaaGreatQDGWkCl
import Derived.Test.YtcogckjpmmjmbaaGreatQDMSound
import Derived.LoopTactic
import Derived.Test.YtcogckjpmmjmbaaGreatQDGTkF
import Derived.Test.YtcogckjpmmjmbaaGreatQDMScene
namespace Go.Proofs.YtcogckjpmmjmbaaGreat
set_option maxRecDepth 100000
set_option linter.unusedVariables false
theorem raw_prs {c:Cf} {s:St} {ws l:List Int} (pb:PB c s ws l) (hs:sndL c ws s 0 ps0 l = true):rawP c ws s = prsL c ws s l ∧ sortP (rawP c ws s) = prsL c ws s l:=by
 have e:rawP c ws s = prsL c ws s l:=by
  unfold rawP
  rw [pb.b1]
  simp only [nodesTo,List.nil_append]
  show (foldN c ws s (chainI c ws 0) ([],[])).2 = _
  rw [pb.chain]
  rfl
 refine ⟨e,?_⟩
 rw [e]
 exact sortP_id ((prs_rise hs).imp fun {a b} h => Int.le_of_lt h)
theorem end_won {c:Cf} {s:St} {op key:Int} {was:List (Int × Int)} {ws:List Int} {won:Bool} {l:List Int} (h:EndT c s op key was ws won l):won = decide ((woK key was).length < was.length) ∧ prsL c ws s l = woK key was:=by
 rcases h with ⟨hw,want,t,-,-,-,-,-,hk,hp⟩ | ⟨hw,hn,hp,-⟩
 ·exact ⟨by rw [hw,decide_eq_true (woK_len hk)],hp⟩
 ·rw [woK_none hn]
  exact ⟨by rw [hw,decide_eq_false (by omega)],hp⟩
structure Twice (c:Cf) (s:St) (key:Int) (was:List (Int × Int)) (y1 y3:Kt):Prop where
 d1:y1.x.done = true
 d3:y3.x.done = true
 won:y1.x.won = decide ((woK key was).length < was.length)
 same:y3.x.won = y1.x.won
 p1:sortP (rawP c y1.ws s) = woK key was
 p3:sortP (rawP c y3.ws s) = woK key was
 snd:sndTo c y3.ws s c.b = true
theorem TJ.twice {c:Cf} {s:St} {op key:Int} (D:DC c s op key) {ws:List Int} {l:List Int} (pb:PB c s ws l) (hs:sndL c ws s 0 ps0 l = true) (w:wd c ws op = 0) (nc:∀ a,opAt s a ≠ op) (hl:l.length ≤ 12) {n:Int} {own:Bool} {y1 y2:Kt}
  (h1:runT c s ⟨ws,n,newT op own⟩ 600 = y1) (h2:(⟨y1.ws,y1.n,newT op (!own)⟩:Kt) = y2):Twice c s key (prsL c ws s l) y1 (runT c s y2 600):=by
 have t0:TJ c s op key (prsL c ws s l) ⟨ws,n,newT op own⟩ l (24 * l.length + 10):=.ask0 pb hs w (fun a _ => nc a) rfl rfl
 obtain ⟨l1,b1,d1,pb1,s1,e1⟩:=t0.ends D 600 (by omega)
 rw [h1] at d1 pb1 s1 e1
 have w1:=end_won e1
 have t2:TJ c s op key (prsL c ws s l) y2 l1 (16 * l1.length + 6):=by
  rw [← h2]
  rcases e1 with ⟨-,want,ht⟩ | ⟨-,hn,hp,ho⟩
  ·exact .ask2 pb1 s1 ht
  ·exact .ask1 pb1 s1 ho (fun a _ => nc a) (.inl ⟨rfl,hn⟩) hp rfl
 obtain ⟨l3,b3,d3,pb3,s3,e3⟩:=t2.ends D 600 (by omega)
 have w3:=end_won e3
 exact ⟨d1,d3,w1.1,w3.1.trans w1.1.symm,(raw_prs pb1 s1).2.trans w1.2,(raw_prs pb3 s3).2.trans w3.2,by rw [pb3.sound];exact s3⟩
end Go.Proofs.YtcogckjpmmjmbaaGreat
namespace Go.Proofs.YtcogckjpmmjmbaaGreat
open Go.ChangeShapes Go.WideShapes Go.ChangeAt Go.RowKit
set_option maxRecDepth 100000
set_option linter.unusedVariables false
set_option maxHeartbeats 8000000 in
theorem without_at (w:World) (lo:Nat) (v0:Value) (ps:List (Int × Int)) (key:Int) (h:FlatAt w lo v0 (flatP ps) ps.length) (hl:ps.length ≤ 9999) :
  Calls Tryz.prog 51 #[v0,.int .u64 key] w fun e w' => ∃ v,e = .returned v ∧ FlatAt w' w.heap.size v (flatP (othP key ps)) (othP key ps).length ∧ Grown w w':=by
 obtain ⟨n,hn⟩:∃ n,ps.length = n:=⟨_,rfl⟩
 rw [hn] at h hl
 have HN:=Lib.hid hn
 clear hn
 obtain ⟨A,g,cap,rfl,hA,hc⟩:∃ (A:Option Addr) (g cap:Nat),v0 = .slice A n cap ∧ (0 < n → A = some ⟨g,0,none⟩) ∧ ∀ j u,(flatP ps)[j]? = some u → w.cell? ⟨g,j,none⟩ = some u:=by
  rcases h with ⟨hz,he,rfl⟩ | ⟨h0,g,cap,rfl,-,hc⟩
  ·exact ⟨none,0,0,by rw [hz],fun h => by omega,fun j u hj => by rw [he] at hj;simp at hj⟩
  ·exact ⟨_,g,cap,rfl,fun _ => rfl,hc⟩
 have HA:=Lib.hid hA
 have HC:=Lib.hid hc
 clear h hA hc
 go_enter Tryz.func51,Tryz.ntmps51
 go_wp2_with fail
 go_loopw [5,6] (fun s5 s6 wr => ∃ (k:Nat) (v:Value),v = s5 ∧ s6 = .int .i64 (k:Int) ∧ k ≤ n ∧ Grown w wr ∧ wr.ownsRow w.heap.size 108 2 v (othP key (ps.take k)).length (flatP (othP key (ps.take k))) ∧ (0 < (othP key (ps.take k)).length ∨ v = .slice none 0 0)) (fun s5 s6 _ => n - (intOf s6).toNat)
 case atStart => exact ⟨0,.slice none 0 0,rfl,rfl,Nat.zero_le _,Grown.refl _,own_nil _ _ _ _,.inr rfl⟩
 case round =>
  obtain ⟨k,v,rfl,rfl,hk,hg,hrow,hnil⟩:=hrel
  obtain ⟨wo,hwo⟩:∃ x,x = wr:=⟨_,rfl⟩
  subst hwo
  have HG:=Lib.hid hg
  have HRow:=Lib.hid hrow
  have HNil:=Lib.hid hnil
  clear hg hrow hnil
  by_cases hkn:k < n
  ·have hlt:(k:Int) < (n:Int):=by omega
   obtain rfl:=HA.out (by omega)
   obtain ⟨⟨yk,yv⟩,hy⟩:∃ y,ps[k]? = some y:=⟨_,List.getElem?_eq_getElem (by rw [HN.out];exact hkn)⟩
   have HY:=Lib.hid hy
   have d0:wo.cell? ⟨g,k * 2,none⟩ = some (.int .u64 yk):=gcell HG.out (HC.out (k * 2) _ (flatP_0 hy))
   have d1:wo.cell? ⟨g,k * 2 + 1,none⟩ = some (.int .u64 yv):=gcell HG.out (HC.out (k * 2 + 1) _ (flatP_1 hy))
   have HT:Hid (othP key (ps.take (k + 1)) = othP key (ps.take k) ++ (if yk ≠ key then [(yk,yv)] else [])):=Lib.hid (by
    unfold othP
    rw [List.take_add_one,hy]
    simp only [Option.toList_some,List.filter_append,List.filter_cons,List.filter_nil]
    by_cases e:yk ≠ key
    ·rw [if_pos e,if_pos (by simpa using e)]
    ·rw [if_neg e,if_neg (by simpa using e)])
   obtain ⟨pre,hpre⟩:∃ pre,othP key (ps.take k) = pre:=⟨_,rfl⟩
   have hpl:pre.length ≤ 9999:=by rw [← hpre];exact Nat.le_trans (List.length_filter_le _ _) (by rw [List.length_take];omega)
   rw [hpre] at HRow HNil HT
   clear hy hpre
   by_cases e:yk = key
   ·have e1:(yk != key) = false:=by simpa using e
    have HT2:Hid (othP key (ps.take (k + 1)) = pre):=Lib.hid (by rw [HT.out,if_neg (by simpa using e)];simp)
    clear e
    go_wp2_with fail
    refine ⟨⟨k + 1,v,rfl,by simp,hkn,HG.out,?_,?_⟩,by simp [intOf];omega⟩
    ·rw [HT2.out];exact HRow.out
    ·rw [HT2.out];exact HNil.out
   ·have e1:(yk != key) = true:=by simpa using e
    have HT2:Hid (othP key (ps.take (k + 1)) = pre ++ [(yk,yv)]):=Lib.hid (by rw [HT.out,if_pos e])
    clear e
    go_wp2_with (first | (at_builtin;refine pause ?_) | fail)
    unfold Pause
    have ga:Grown wo (wo.alloc (.cells #[.int .u64 yk,.int .u64 yv] 108)):=by go_grown
    refine wpList_add rfl _ _ 55 rfl w.heap.size 108 (.agg #[.int .u64 0,.int .u64 0]) 2 16 Tryz.underlying55 info_pair rfl (by decide) v pre.length (flatP pre) (own_grown HRow.out ga) _ 1 0 [.int .u64 yk,.int .u64 yv] (.inr ⟨by decide,wo.heap.size,1,rfl,Nat.zero_le _,fun j u hj => ?news⟩) rfl (by simp [Value.oneCell']) ?h63 (by decide) ?hbase rfl rfl ?_
    case news =>
     rcases j with _ | _ | j
     ·cases hj;simp [go_sem]
     ·cases hj;simp [go_sem]
     ·cases hj
    case h63 => omega
    case hbase => have h1:=HG.out.2.2;simp;omega
    intro v' W5 r5 fr5 q5
    have hG5:Grown w W5:=But.fresh (gtr HG.out ga) q5 (fun i hi => by have:=own_at HRow.out hi;omega)
    obtain ⟨g',cap',hv'⟩:=own_open r5 (by omega)
    have R5:=Lib.hid r5
    have HV':=Lib.hid hv'
    clear r5 hv' q5 fr5 d0 d1
    go_wp2_with fail
    refine ⟨⟨k + 1,v',rfl,by simp,hkn,hG5,?_,?_⟩,by simp [intOf];omega⟩
    ·rw [HT2.out,List.length_append];simpa [flatP] using R5.out
    ·rw [HT2.out];exact .inl (by simp)
  ·have hlt:¬ (k:Int) < (n:Int):=by omega
   have HT:Hid (othP key (ps.take k) = othP key ps):=Lib.hid (by rw [List.take_of_length_le (by have:=HN.out;omega)])
   rw [HT.out] at HRow HNil
   go_wp2_with fail
   go_ret
   exact ⟨v,rfl,own_flat HRow.out HNil.out,HG.out⟩
end Go.Proofs.YtcogckjpmmjmbaaGreat
namespace Go.Proofs.YtcogckjpmmjmbaaGreat
open Go.ChangeShapes Go.WideShapes Go.ChangeAt Go.RowKit
set_option maxRecDepth 100000
set_option linter.unusedVariables false
def SomeB (e:Ending):Prop:=∃ b,e = .returned (.bool b)
set_option maxHeartbeats 8000000 in
theorem taken_at (w:World) (f:Nat) (Ai:Option Addr) (gi oi m capi:Nat) (vc:Value) (xs:List It) (hm:xs.length = m) (hA:0 < m → Ai = some ⟨gi,oi,none⟩) (hci:∀ j u,(flatI xs)[j]? = some u → w.cell? ⟨gi,oi + j,none⟩ = some u)
  (go n capo:Nat) (lo:List Int) (hn:lo.length = n) (hlo:∀ (j:Nat) (a:Int),lo[j]? = some a → w.cell? ⟨go,j,none⟩ = some (.int .i64 a)) (hob:∀ a ∈ lo,0 ≤ a ∧ a ≤ 9999) (hm12:m ≤ 12) (hn9:n ≤ 9999) :
  Calls Tryz.prog 50 #[.agg #[.int .u8 (f:Int),.slice Ai m capi,vc],.slice (some ⟨go,0,none⟩) n capo] w fun e w' => SomeB e ∧ Grown w w':=by
 have HA:=Lib.hid hA
 have HCi:=Lib.hid hci
 have HLo:=Lib.hid hlo
 have HOb:=Lib.hid hob
 have HM:=Lib.hid hm
 have HN:=Lib.hid hn
 have HB:=Lib.hid (Box.made w [.int .u8 (f:Int),.slice Ai m capi,vc] 25)
 have GB:Hid (Grown w (w.alloc (.cells #[.int .u8 (f:Int),.slice Ai m capi,vc] 25))):=Lib.hid (by go_grown)
 clear hA hci hlo hob hm hn
 go_enter Tryz.func50,Tryz.ntmps50
 go_wp2_with fail
 go_loopw [5] (fun s5 wr => ∃ i:Nat,s5 = .int .i64 (i:Int) ∧ i ≤ m ∧ Grown w wr ∧ Box wr w.heap.size [.int .u8 (f:Int),.slice Ai m capi,vc]) (fun s5 _ => m - (intOf s5).toNat)
 case atStart => exact ⟨0,rfl,Nat.zero_le _,GB.out,HB.out⟩
 case round =>
  clear GB HB
  obtain ⟨i,rfl,hi,hg,hb⟩:=hrel
  obtain ⟨wo,hwo⟩:∃ x,x = wr:=⟨_,rfl⟩
  subst hwo
  have HG:=Lib.hid hg
  have HB:=Lib.hid hb
  have e1:=hb.cell 1 (.slice Ai m capi) rfl
  clear hg hb
  by_cases him:i < m
  ·as_aux_lemma =>
    have hlt:(i:Int) < (m:Int):=by omega
    obtain rfl:=HA.out (by omega)
    obtain ⟨⟨xk,xv,xw,xm,xa⟩,hx⟩:∃ x,xs[i]? = some x:=⟨_,List.getElem?_eq_getElem (by rw [HM.out];exact him)⟩
    have HX:=Lib.hid hx
    clear hx
    go_wp2_with fail
    go_loopw [6] (fun s6 wr => ∃ j:Nat,s6 = .int .i64 (j:Int) ∧ j ≤ n ∧ Grown w wr ∧ Box wr w.heap.size [.int .u8 (f:Int),.slice (some ⟨gi,oi,none⟩) m capi,vc]) (fun s6 _ => n - (intOf s6).toNat)
    case atStart => exact ⟨0,rfl,Nat.zero_le _,HG.out,HB.out⟩
    case round =>
     clear HG HB e1
     obtain ⟨j,rfl,hj,hg,hb⟩:=hrel
     obtain ⟨wi,hwi⟩:∃ x,x = wr:=⟨_,rfl⟩
     subst hwi
     have HG:=Lib.hid hg
     have HB:=Lib.hid hb
     clear hg hb
     by_cases hjn:j < n
     ·have hlt2:(j:Int) < (n:Int):=by omega
      obtain ⟨a,ha⟩:∃ a,lo[j]? = some a:=⟨_,List.getElem?_eq_getElem (by rw [HN.out];exact hjn)⟩
      obtain ⟨a0,a1⟩:=HOb.out a (List.mem_of_getElem? ha)
      have d1:∀ g:GrW wi,g.w.cell? ⟨w.heap.size,1,none⟩ = some (.slice (some ⟨gi,oi,none⟩) m capi):=GrW.cell (HB.out.cell 1 _ rfl)
      have d2:∀ g:GrW wi,g.w.cell? ⟨gi,oi + i * 5 + 2,none⟩ = some (.int .u64 xw):=GrW.cell (gcell HG.out (by have:=HCi.out (i * 5 + 2) _ (flatI_2 HX.out);rwa [← Nat.add_assoc] at this))
      have d3:∀ g:GrW wi,g.w.cell? ⟨go,j,none⟩ = some (.int .i64 a):=GrW.cell (gcell HG.out (HLo.out j a ha))
      have q1:IntKind.u64.wrap a = a:=by simp [IntKind.wrap,IntKind.signed,IntKind.bits];omega
      have q2:IntKind.u64.wrap (a + 3) = a + 3:=by simp [IntKind.wrap,IntKind.signed,IntKind.bits];omega
      clear ha
      go_wp2_with fail
      refine wp_region_grow (by kernel_rfl) (by kernel_rfl) ?_
      repeat (go_big_quiet_step (fail))
      refine wpQuiet_nil ?_
      rintro w3 ⟨⟨_,g3⟩,rfl⟩
      have HG3:=Lib.hid (gtr HG.out g3)
      have HB3:=Lib.hid (HB.out.grown g3)
      clear d1 d2 d3 g3 HG HB
      by_cases hq:xw = a + 3
      ·have q3:(xw == a + 3) = true:=by simpa using hq
       have q4:decide (xw = a + 3) = true:=by simpa using hq
       clear hq
       go_wp2_with fail
       go_ret
       exact ⟨⟨_,rfl⟩,HG3.out⟩
      ·have q3:(xw == a + 3) = false:=by simpa using hq
       have q4:decide (xw = a + 3) = false:=by simpa using hq
       clear hq
       go_wp2_with fail
       exact ⟨⟨j + 1,by simp,hjn,HG3.out,HB3.out⟩,by simp [intOf];omega⟩
     ·have hlt2:¬ (j:Int) < (n:Int):=by omega
      go_wp2_with fail
      exact ⟨⟨i + 1,by simp,him,HG.out,HB.out⟩,by simp [intOf];omega⟩
  ·as_aux_lemma =>
    have hlt:¬ (i:Int) < (m:Int):=by omega
    go_wp2_with fail
    go_ret
    exact ⟨⟨_,rfl⟩,HG.out⟩
end Go.Proofs.YtcogckjpmmjmbaaGreat
