/- Has a list a number, and a pair put into a list (corrieref09.has, corrieref09.insert). -/
import Derived.Test.YtmokcgifknmchaaGreatYInsO
import Derived.Test.YtmokcgifknmchaaGreatMSorted
import Derived.Test.YtmokcgifknmchaaGreatMRefW
import Derived.Test.YtmokcgifknmchaaGreatMSound
namespace Go.Proofs.YtmokcgifknmchaaGreat
open Go.ChangeShapes Go.WideShapes Go.ChangeAt Go.RowKit
set_option maxRecDepth 100000
set_option linter.unusedVariables false
set_option maxHeartbeats 4000000 in
theorem has_at (w:World) (v:Value) (xs:List Int) (h:RowC w v (ints xs) xs.length) (hl:xs.length ≤ 99999) (x:Int) (r:Bool) (hr:decide (x ∈ xs) = r) :
  Calls Tryz.prog 75 #[v,.int .i64 x] w fun e w' => e = .returned (.bool r) ∧ Grown w w':=by
 subst hr
 obtain ⟨n,hn⟩:∃ n,xs.length = n:=⟨_,rfl⟩
 rw [hn] at h hl
 rcases h with ⟨rfl,h0,-⟩ | ⟨g,cap,rfl,-,hc⟩
 ·obtain rfl:xs = []:=List.eq_nil_of_length_eq_zero (by omega)
  clear h0 hn hl
  go_enter Tryz.func75,Tryz.ntmps75
  go_wp2_with fail
  refine wp_loop_rounds 1 ?_
  rw [rounds_succ]
  go_wp2_with fail
  go_ret
  exact ⟨by simp,by go_grown⟩
 ·have HC:=Lib.hid hc
  have HN:=Lib.hid hn
  obtain ⟨R,hR⟩:∃ R,decide (x ∈ xs) = R:=⟨_,rfl⟩
  rw [hR]
  have HR:=Lib.hid hR
  clear hc hn hR
  go_enter Tryz.func75,Tryz.ntmps75
  go_wp2_with fail
  go_loopw [5] (fun s5 wr => ∃ k:Nat,s5 = .int .i64 (k:Int) ∧ k ≤ n ∧ (∀ y ∈ xs.take k,y ≠ x) ∧ Grown w wr) (fun s5 _ => n - (intOf s5).toNat)
  case atStart => exact ⟨0,rfl,Nat.zero_le _,by simp,by go_grown⟩
  case round =>
   obtain ⟨k,rfl,hk,hnot,hg⟩:=hrel
   have HNOT:=Lib.hid hnot
   clear hnot
   by_cases hkn:k < n
   ·obtain ⟨y,hy⟩:∃ y,xs[k]? = some y:=⟨_,List.getElem?_eq_getElem (by rw [HN.out];exact hkn)⟩
    have d1:=gcell hg (HC.out k _ (ints_at hy))
    have hlt:(k:Int) < (n:Int):=by omega
    have HY:=Lib.hid hy
    clear hy
    by_cases hyx:y = x
    ·have ey:(y == x) = true:=by simpa using hyx
     have HE:=Lib.hid hyx
     clear hyx
     go_wp2_with fail
     go_ret
     refine ⟨ret_bool ?_,hg⟩
     rw [← HR.out]
     have:=List.mem_of_getElem? HY.out
     rw [HE.out] at this
     simpa using this
    ·have ey:(y == x) = false:=by simpa using hyx
     have HE:=Lib.hid hyx
     clear hyx
     go_wp2_with fail
     refine ⟨⟨k + 1,by simp,hkn,?_,hg⟩,by simp [intOf];omega⟩
     intro z hz
     rw [List.take_add_one,HY.out] at hz
     rcases List.mem_append.1 hz with hz | hz
     ·exact HNOT.out z hz
     ·simp at hz;rw [hz];exact HE.out
   ·have hlt:¬ (k:Int) < (n:Int):=by omega
    have HK:Hid (xs.take k = xs):=Lib.hid (List.take_of_length_le (by have:=HN.out;omega))
    clear hkn
    go_wp2_with fail
    go_ret
    refine ⟨ret_bool ?_,hg⟩
    rw [← HR.out]
    have:=HNOT.out
    rw [HK.out] at this
    simp only [eq_comm (a:=false),decide_eq_false_iff_not]
    exact fun hm => this x hm rfl
theorem insP_at (x:Int × Int):∀ (ps:List (Int × Int)) (k:Nat),(∀ y ∈ ps.take k,y.1 ≤ x.1) → (∀ y,ps[k]? = some y → x.1 < y.1) → k ≤ ps.length → insP ps x = ps.take k ++ x :: ps.drop k
 | [],k,_,_,hk => by simp [insP]
 | z :: r,0,_,h2,_ => by
  have:=h2 z (by simp)
  simp only [insP,if_neg (show ¬ z.1 ≤ x.1 by omega),List.take_zero,List.drop_zero,List.nil_append]
 | z :: r,k + 1,h1,h2,hk => by
  have hz:=h1 z (by simp)
  simp only [insP,if_pos hz,List.take_succ_cons,List.drop_succ_cons,List.cons_append]
  rw [insP_at x r k (fun y hy => h1 y (by simp [hy])) (fun y hy => h2 y (by simpa using hy)) (by simpa using hk)]
end Go.Proofs.YtmokcgifknmchaaGreat
namespace Go.Proofs.YtmokcgifknmchaaGreat
open Go.ChangeShapes Go.WideShapes Go.ChangeAt Go.RowKit
set_option maxRecDepth 100000
set_option linter.unusedVariables false
set_option maxHeartbeats 4000000 in
theorem insert_at (w:World) (v:Value) (ps:List (Int × Int)) (h:RowC w v (flatP ps) ps.length) (hl:ps.length ≤ 9999) (x:Int × Int) (out:List (Int × Int)) (hout:insP ps x = out) :
  Calls Tryz.prog 77 #[v,.agg #[.int .u64 x.1,.int .u64 x.2]] w fun e w' => ∃ v',e = .returned v' ∧ RowC w' v' (flatP out) out.length ∧ FlatAt w' w.heap.size v' (flatP out) out.length ∧ Grown w w':=by
 subst hout
 obtain ⟨xk,xv⟩:=x
 obtain ⟨n,hn⟩:∃ n,ps.length = n:=⟨_,rfl⟩
 rw [hn] at h hl
 rcases h with ⟨rfl,h0,-⟩ | ⟨g,cap,rfl,hncap,hc⟩
 ·obtain rfl:ps = []:=List.eq_nil_of_length_eq_zero (by omega)
  clear h0 hn hl
  go_enter Tryz.func77,Tryz.ntmps77
  go_wp2_with fail
  refine wp_loop_rounds 1 ?_
  rw [rounds_succ]
  go_wp2_with fail
  refine wp_region_grow (by kernel_rfl) (by kernel_rfl) ?_
  repeat (go_big_quiet_step (fail))
  refine wpQuiet_nil ?_
  rintro w3 ⟨⟨_,g3⟩,rfl⟩
  go_wp2_with (first | (at_builtin;refine pause ?_) | fail)
  unfold Pause
  have gp:Grown w w3:=gtr (show Grown w (w.alloc (.cells #[.int .u64 xk,.int .u64 xv] 106)) by go_grown) g3
  have HBn:=Lib.hid ((Box.made w [.int .u64 xk,.int .u64 xv] 106).grown g3)
  have ga:Grown w3 (w3.alloc (.cells #[] 106)):=by go_grown
  have hsz:w.heap.size + 1 ≤ w3.heap.size:=by have:=HBn.out.lt;omega
  have hlk:(([]:List (Int × Int))).length = 0:=rfl
  have hlm:(([]:List (Int × Int))).length = 0:=rfl
  refine wpList_addP rfl _ _ 55 rfl (w.heap.size + 1) 106 (.agg #[.int .u64 0,.int .u64 0]) 2 16 Tryz.underlying55 info_pair rfl (by decide) _ 0 [] w3.heap.size ⟨rfl,.inr ⟨w3.heap.size,0,#[],rfl,hsz,(show (w3.heap.push _)[w3.heap.size]? = _ from Array.getElem?_push_size),Nat.le_refl _,by decide,rfl,rfl⟩⟩ rfl _ 0 (flatP (([]:List (Int × Int)))) (.inl ⟨rfl,rfl,rfl⟩) (by rw [flatP_len,hlk]) (flatP_one _) (by omega) (by decide) (by simp;omega) rfl rfl ?_
  intro v4 w4 g4 r4 o4 fr4 q4
  have hG4:Grown w w4:=But.fresh (gtr gp ga) q4 (fun i hi => by omega)
  have hB4:Box w4 w.heap.size [.int .u64 xk,.int .u64 xv]:=(HBn.out.grown ga).but q4 (fun hi => by omega)
  have h34:w3.heap.size + 1 ≤ w4.heap.size:=by have:=q4.2.2;simpa using this
  have R4:=Lib.hid r4
  have O4:=Lib.hid o4
  have F4:=Lib.hid fr4
  have HB4:=Lib.hid hB4
  have G4:=Lib.hid hG4
  have e0:=hB4.cell 0 _ rfl
  have e1:=hB4.cell 1 _ rfl
  clear r4 o4 fr4 q4 hB4 hG4
  go_wp2_with (first | (at_builtin;refine pause ?_) | fail)
  unfold Pause
  have gb:Grown w4 (w4.alloc (.cells #[.int .u64 xk,.int .u64 xv] 106)):=by go_grown
  refine wpList_addP rfl _ _ 55 rfl (w.heap.size + 1) 106 (.agg #[.int .u64 0,.int .u64 0]) 2 16 Tryz.underlying55 info_pair rfl (by decide) v4 (0 + 0) ([] ++ flatP (([]:List (Int × Int)))) g4 (own_grown R4.out gb) O4.out _ 1 [.int .u64 xk,.int .u64 xv] (.inr ⟨⟨w4.heap.size,0,none⟩,1,rfl,fun j u hj => ?news⟩) rfl (by simp [Value.oneCell']) (by omega) (by decide) (by simp;omega) rfl rfl ?_
  case news =>
   rcases j with _ | _ | j
   ·cases hj;simp [go_sem,Addr.add]
   ·cases hj;simp [go_sem,Addr.add]
   ·cases hj
  intro v5 w5 g5 r5 o5 fr5 q5
  have hg4:w.heap.size + 1 ≤ g4:=by have h1:=F4.out;have h2:w3.heap.size ≤ (w3.alloc (.cells #[] 106)).heap.size:=ga.2.2;omega
  have hG5:Grown w w5:=But.fresh (gtr G4.out gb) q5 (fun i hi => by omega)
  have hg5:w.heap.size + 1 ≤ g5:=by have h1:=fr5;have h2:w4.heap.size ≤ (w4.alloc (.cells #[.int .u64 xk,.int .u64 xv] 106)).heap.size:=gb.2.2;omega
  have h45:w4.heap.size ≤ w5.heap.size:=Nat.le_trans gb.2.2 q5.2.2
  have R5:=Lib.hid r5
  have O5:=Lib.hid o5
  have G5:=Lib.hid hG5
  clear r5 o5 fr5 q5 hG5 e0 e1
  go_wp2_with (first | (at_builtin;refine pause ?_) | fail)
  unfold Pause
  refine wpList_addP rfl _ _ 55 rfl (w.heap.size + 1) 106 (.agg #[.int .u64 0,.int .u64 0]) 2 16 Tryz.underlying55 info_pair rfl (by decide) v5 (0 + 0 + 1) ([] ++ flatP (([]:List (Int × Int))) ++ [.int .u64 xk,.int .u64 xv]) g5 R5.out O5.out _ (0) (flatP (([]:List (Int × Int)))) (.inl ⟨rfl,rfl,rfl⟩) (by rw [flatP_len,hlm]) (flatP_one _) (by omega) (by decide) (by omega) rfl rfl ?_
  intro v6 w6 g6 r6 o6 fr6 q6
  have hG6:Grown w w6:=But.fresh G5.out q6 (fun i hi => by omega)
  have HR6:Hid (w6.ownsRow (w.heap.size + 1) 106 2 v6 (insP [] (xk,xv)).length (flatP (insP [] (xk,xv)))):=Lib.hid (by
   have:=r6
   simpa [flatP,insP,Nat.add_assoc,Nat.add_comm 1] using this)
  have G6:=Lib.hid hG6
  clear r6 o6 fr6 q6 hG6
  go_wp2_with fail
  go_ret
  exact ⟨v6,rfl,own_rowC HR6.out,(own_flat HR6.out (.inl (by rw [insP_len];omega))).mono (by omega),G6.out⟩
 ·have HC:=Lib.hid hc
  have HN:=Lib.hid hn
  have HB:=Lib.hid (Box.made w [.int .u64 xk,.int .u64 xv] 106)
  have GB:Grown w (w.alloc (.cells #[.int .u64 xk,.int .u64 xv] 106)):=by go_grown
  have hcap:(n:Int) ≤ (cap:Int):=by omega
  clear hc hn
  go_enter Tryz.func77,Tryz.ntmps77
  go_wp2_with fail
  have HGB:=Lib.hid GB
  clear GB
  go_loopw [5] (fun s5 wr => ∃ k:Nat,s5 = .int .i64 (k:Int) ∧ k ≤ n ∧ (∀ y ∈ ps.take k,y.1 ≤ xk) ∧ Grown (w.alloc (.cells #[.int .u64 xk,.int .u64 xv] 106)) wr) (fun s5 _ => n - (intOf s5).toNat)
  case atStart => exact ⟨0,rfl,Nat.zero_le _,by simp,by go_grown⟩
  case round =>
   obtain ⟨k,rfl,hk,hpre,hg⟩:=hrel
   have HPRE:=Lib.hid hpre
   have HG:=Lib.hid (gtr HGB.out hg)
   have HGr:=Lib.hid hg
   have HBr:=Lib.hid (HB.out.grown hg)
   clear hpre hg
   by_cases hkn:k < n
   ·obtain ⟨⟨yk,yv⟩,hy⟩:∃ y,ps[k]? = some y:=⟨_,List.getElem?_eq_getElem (by rw [HN.out];exact hkn)⟩
    have d1:∀ q:GrW wr,q.w.cell? ⟨g,k * 2,none⟩ = some (.int .u64 yk):=GrW.cell (gcell HG.out (HC.out (k * 2) _ (flatP_0 hy)))
    have d2:∀ q:GrW wr,q.w.cell? ⟨w.heap.size,0,none⟩ = some (.int .u64 xk):=GrW.cell (HBr.out.cell 0 _ rfl)
    have hlt:decide ((k:Int) < (n:Int)) = true:=decide_eq_true (by omega)
    have HY:=Lib.hid hy
    clear hy
    by_cases hyx:yk ≤ xk
    ·have HE:=Lib.hid hyx
     have ey:decide (yk ≤ xk) = true:=decide_eq_true hyx
     clear hyx
     go_wp2_with fail
     refine wp_region_grow (by kernel_rfl) (by kernel_rfl) ?_
     repeat (go_big_quiet_step (fail))
     refine wpQuiet_nil ?_
     rintro w3 ⟨⟨_,g3⟩,rfl⟩
     clear d1 d2
     go_wp2_with fail
     refine ⟨⟨k + 1,by simp,hkn,?_,?_⟩,by simp [intOf];omega⟩
     ·intro z hz
      rw [List.take_add_one,HY.out] at hz
      rcases List.mem_append.1 hz with hz | hz
      ·exact HPRE.out z hz
      ·simp at hz;rw [hz];exact HE.out
     ·exact gtr HGr.out g3
    ·have HE:=Lib.hid hyx
     have ey:decide (yk ≤ xk) = false:=decide_eq_false hyx
     clear hyx
     go_wp2_with fail
     refine wp_region_grow (by kernel_rfl) (by kernel_rfl) ?_
     repeat (go_big_quiet_step (fail))
     refine wpQuiet_nil ?_
     rintro w3 ⟨⟨_,g3⟩,rfl⟩
     clear d1 d2
     go_wp2_with (first | (at_builtin;refine pause ?_) | fail)
     unfold Pause
     have HIns:Hid (insP ps (xk,xv) = ps.take k ++ (xk,xv) :: ps.drop k):=Lib.hid (insP_at _ _ _ HPRE.out (fun y hy => by have h1:=HY.out;rw [h1] at hy;cases hy;have:=HE.out;simp only;omega) (by have:=HN.out;omega))
     have ga:Grown w3 (w3.alloc (.cells #[] 106)):=by go_grown
     have hsz:w.heap.size + 1 ≤ w3.heap.size:=by have:=(HBr.out.grown g3).lt;omega
     have hlk:(ps.take k).length = k:=by have:=HN.out;rw [List.length_take];omega
     have hlm:(ps.drop k).length = n - k:=by have:=HN.out;rw [List.length_drop];omega
     refine wpList_addP rfl _ _ 55 rfl (w.heap.size + 1) 106 (.agg #[.int .u64 0,.int .u64 0]) 2 16 Tryz.underlying55 info_pair rfl (by decide) _ 0 [] w3.heap.size ⟨rfl,.inr ⟨w3.heap.size,0,#[],rfl,hsz,(show (w3.heap.push _)[w3.heap.size]? = _ from Array.getElem?_push_size),Nat.le_refl _,by decide,rfl,rfl⟩⟩ rfl _ k (flatP (ps.take k)) (part_take (gcells (gtr (gtr HG.out g3) ga) HC.out) (by rw [← flatP_app,List.take_append_drop])) (by rw [flatP_len,hlk]) (flatP_one _) (by omega) (by decide) (by simp;omega) rfl rfl ?_
     intro v4 w4 g4 r4 o4 fr4 q4
     have hG4:Grown w w4:=But.fresh (gtr (gtr HG.out g3) ga) q4 (fun i hi => by omega)
     have hB4:Box w4 w.heap.size [.int .u64 xk,.int .u64 xv]:=((HBr.out.grown g3).grown ga).but q4 (fun hi => by omega)
     have h34:w3.heap.size + 1 ≤ w4.heap.size:=by have:=q4.2.2;simpa using this
     have R4:=Lib.hid r4
     have O4:=Lib.hid o4
     have F4:=Lib.hid fr4
     have HB4:=Lib.hid hB4
     have G4:=Lib.hid hG4
     have e0:=hB4.cell 0 _ rfl
     have e1:=hB4.cell 1 _ rfl
     clear r4 o4 fr4 q4 hB4 hG4
     go_wp2_with (first | (at_builtin;refine pause ?_) | fail)
     unfold Pause
     have gb:Grown w4 (w4.alloc (.cells #[.int .u64 xk,.int .u64 xv] 106)):=by go_grown
     refine wpList_addP rfl _ _ 55 rfl (w.heap.size + 1) 106 (.agg #[.int .u64 0,.int .u64 0]) 2 16 Tryz.underlying55 info_pair rfl (by decide) v4 (0 + k) ([] ++ flatP (ps.take k)) g4 (own_grown R4.out gb) O4.out _ 1 [.int .u64 xk,.int .u64 xv] (.inr ⟨⟨w4.heap.size,0,none⟩,1,rfl,fun j u hj => ?news⟩) rfl (by simp [Value.oneCell']) (by omega) (by decide) (by simp;omega) rfl rfl ?_
     case news =>
      rcases j with _ | _ | j
      ·cases hj;simp [go_sem,Addr.add]
      ·cases hj;simp [go_sem,Addr.add]
      ·cases hj
     intro v5 w5 g5 r5 o5 fr5 q5
     have hg4:w.heap.size + 1 ≤ g4:=by have h1:=F4.out;have h2:w3.heap.size ≤ (w3.alloc (.cells #[] 106)).heap.size:=ga.2.2;omega
     have hG5:Grown w w5:=But.fresh (gtr G4.out gb) q5 (fun i hi => by omega)
     have hg5:w.heap.size + 1 ≤ g5:=by have h1:=fr5;have h2:w4.heap.size ≤ (w4.alloc (.cells #[.int .u64 xk,.int .u64 xv] 106)).heap.size:=gb.2.2;omega
     have h45:w4.heap.size ≤ w5.heap.size:=Nat.le_trans gb.2.2 q5.2.2
     have R5:=Lib.hid r5
     have O5:=Lib.hid o5
     have G5:=Lib.hid hG5
     clear r5 o5 fr5 q5 hG5 e0 e1
     have hfl:flatP ps = flatP (ps.take k) ++ flatP (ps.drop k):=by rw [← flatP_app,List.take_append_drop]
     have HFL:=Lib.hid hfl
     clear hfl
     by_cases hck:cap = k
     ·have HD:Hid (ps.drop k = []):=Lib.hid (List.drop_of_length_le (by have:=HN.out;omega))
      go_wp2_with (first | (at_builtin;refine pause ?_) | fail)
      unfold Pause
      refine wpList_addP rfl _ _ 55 rfl (w.heap.size + 1) 106 (.agg #[.int .u64 0,.int .u64 0]) 2 16 Tryz.underlying55 info_pair rfl (by decide) v5 (0 + k + 1) ([] ++ flatP (ps.take k) ++ [.int .u64 xk,.int .u64 xv]) g5 R5.out O5.out _ (n - k) (flatP (ps.drop k)) (by rw [HD.out];exact .inr ⟨_,_,rfl,fun j u hj => by cases hj⟩) (by rw [flatP_len,hlm]) (flatP_one _) (by omega) (by decide) (by omega) rfl rfl ?_
      intro v6 w6 g6 r6 o6 fr6 q6
      have hG6:Grown w w6:=But.fresh G5.out q6 (fun i hi => by omega)
      have HR6:Hid (w6.ownsRow (w.heap.size + 1) 106 2 v6 (insP ps (xk,xv)).length (flatP (insP ps (xk,xv)))):=Lib.hid (by
       rw [HIns.out,flatP_app,List.length_append,List.length_cons,hlk,hlm]
       have:=r6
       simpa [flatP,insP,Nat.add_assoc,Nat.add_comm 1] using this)
      have G6:=Lib.hid hG6
      clear r6 o6 fr6 q6 hG6
      go_wp2_with fail
      go_ret
      exact ⟨v6,rfl,own_rowC HR6.out,(own_flat HR6.out (.inl (by rw [insP_len];omega))).mono (by omega),G6.out⟩
     ·go_wp2_with (first | (at_builtin;refine pause ?_) | fail)
      unfold Pause
      refine wpList_addP rfl _ _ 55 rfl (w.heap.size + 1) 106 (.agg #[.int .u64 0,.int .u64 0]) 2 16 Tryz.underlying55 info_pair rfl (by decide) v5 (0 + k + 1) ([] ++ flatP (ps.take k) ++ [.int .u64 xk,.int .u64 xv]) g5 R5.out O5.out _ (n - k) (flatP (ps.drop k)) (part_drop (gcells G5.out HC.out) HFL.out (by rw [flatP_len,hlk])) (by rw [flatP_len,hlm]) (flatP_one _) (by omega) (by decide) (by omega) rfl rfl ?_
      intro v6 w6 g6 r6 o6 fr6 q6
      have hG6:Grown w w6:=But.fresh G5.out q6 (fun i hi => by omega)
      have HR6:Hid (w6.ownsRow (w.heap.size + 1) 106 2 v6 (insP ps (xk,xv)).length (flatP (insP ps (xk,xv)))):=Lib.hid (by
       rw [HIns.out,flatP_app,List.length_append,List.length_cons,hlk,hlm]
       have:=r6
       simpa [flatP,insP,Nat.add_assoc,Nat.add_comm 1] using this)
      have G6:=Lib.hid hG6
      clear r6 o6 fr6 q6 hG6
      go_wp2_with fail
      go_ret
      exact ⟨v6,rfl,own_rowC HR6.out,(own_flat HR6.out (.inl (by rw [insP_len];omega))).mono (by omega),G6.out⟩
   ·have hlt:decide ((k:Int) < (n:Int)) = false:=decide_eq_false (by omega)
    go_wp2_with fail
    refine wp_region_grow (by kernel_rfl) (by kernel_rfl) ?_
    repeat (go_big_quiet_step (fail))
    refine wpQuiet_nil ?_
    rintro w3 ⟨⟨_,g3⟩,rfl⟩
    go_wp2_with (first | (at_builtin;refine pause ?_) | fail)
    unfold Pause
    have HIns:Hid (insP ps (xk,xv) = ps.take k ++ (xk,xv) :: ps.drop k):=Lib.hid (insP_at _ _ _ HPRE.out (fun y hy => by have h1:=(List.getElem?_eq_some_iff.1 hy).1;have:=HN.out;omega) (by have:=HN.out;omega))
    have ga:Grown w3 (w3.alloc (.cells #[] 106)):=by go_grown
    have hsz:w.heap.size + 1 ≤ w3.heap.size:=by have:=(HBr.out.grown g3).lt;omega
    have hlk:(ps.take k).length = k:=by have:=HN.out;rw [List.length_take];omega
    have hlm:(ps.drop k).length = n - k:=by have:=HN.out;rw [List.length_drop];omega
    refine wpList_addP rfl _ _ 55 rfl (w.heap.size + 1) 106 (.agg #[.int .u64 0,.int .u64 0]) 2 16 Tryz.underlying55 info_pair rfl (by decide) _ 0 [] w3.heap.size ⟨rfl,.inr ⟨w3.heap.size,0,#[],rfl,hsz,(show (w3.heap.push _)[w3.heap.size]? = _ from Array.getElem?_push_size),Nat.le_refl _,by decide,rfl,rfl⟩⟩ rfl _ k (flatP (ps.take k)) (part_take (gcells (gtr (gtr HG.out g3) ga) HC.out) (by rw [← flatP_app,List.take_append_drop])) (by rw [flatP_len,hlk]) (flatP_one _) (by omega) (by decide) (by simp;omega) rfl rfl ?_
    intro v4 w4 g4 r4 o4 fr4 q4
    have hG4:Grown w w4:=But.fresh (gtr (gtr HG.out g3) ga) q4 (fun i hi => by omega)
    have hB4:Box w4 w.heap.size [.int .u64 xk,.int .u64 xv]:=((HBr.out.grown g3).grown ga).but q4 (fun hi => by omega)
    have h34:w3.heap.size + 1 ≤ w4.heap.size:=by have:=q4.2.2;simpa using this
    have R4:=Lib.hid r4
    have O4:=Lib.hid o4
    have F4:=Lib.hid fr4
    have HB4:=Lib.hid hB4
    have G4:=Lib.hid hG4
    have e0:=hB4.cell 0 _ rfl
    have e1:=hB4.cell 1 _ rfl
    clear r4 o4 fr4 q4 hB4 hG4
    go_wp2_with (first | (at_builtin;refine pause ?_) | fail)
    unfold Pause
    have gb:Grown w4 (w4.alloc (.cells #[.int .u64 xk,.int .u64 xv] 106)):=by go_grown
    refine wpList_addP rfl _ _ 55 rfl (w.heap.size + 1) 106 (.agg #[.int .u64 0,.int .u64 0]) 2 16 Tryz.underlying55 info_pair rfl (by decide) v4 (0 + k) ([] ++ flatP (ps.take k)) g4 (own_grown R4.out gb) O4.out _ 1 [.int .u64 xk,.int .u64 xv] (.inr ⟨⟨w4.heap.size,0,none⟩,1,rfl,fun j u hj => ?news⟩) rfl (by simp [Value.oneCell']) (by omega) (by decide) (by simp;omega) rfl rfl ?_
    case news =>
     rcases j with _ | _ | j
     ·cases hj;simp [go_sem,Addr.add]
     ·cases hj;simp [go_sem,Addr.add]
     ·cases hj
    intro v5 w5 g5 r5 o5 fr5 q5
    have hg4:w.heap.size + 1 ≤ g4:=by have h1:=F4.out;have h2:w3.heap.size ≤ (w3.alloc (.cells #[] 106)).heap.size:=ga.2.2;omega
    have hG5:Grown w w5:=But.fresh (gtr G4.out gb) q5 (fun i hi => by omega)
    have hg5:w.heap.size + 1 ≤ g5:=by have h1:=fr5;have h2:w4.heap.size ≤ (w4.alloc (.cells #[.int .u64 xk,.int .u64 xv] 106)).heap.size:=gb.2.2;omega
    have h45:w4.heap.size ≤ w5.heap.size:=Nat.le_trans gb.2.2 q5.2.2
    have R5:=Lib.hid r5
    have O5:=Lib.hid o5
    have G5:=Lib.hid hG5
    clear r5 o5 fr5 q5 hG5 e0 e1
    have hfl:flatP ps = flatP (ps.take k) ++ flatP (ps.drop k):=by rw [← flatP_app,List.take_append_drop]
    have HFL:=Lib.hid hfl
    clear hfl
    by_cases hck:cap = k
    ·have HD:Hid (ps.drop k = []):=Lib.hid (List.drop_of_length_le (by have:=HN.out;omega))
     go_wp2_with (first | (at_builtin;refine pause ?_) | fail)
     unfold Pause
     refine wpList_addP rfl _ _ 55 rfl (w.heap.size + 1) 106 (.agg #[.int .u64 0,.int .u64 0]) 2 16 Tryz.underlying55 info_pair rfl (by decide) v5 (0 + k + 1) ([] ++ flatP (ps.take k) ++ [.int .u64 xk,.int .u64 xv]) g5 R5.out O5.out _ (n - k) (flatP (ps.drop k)) (by rw [HD.out];exact .inr ⟨_,_,rfl,fun j u hj => by cases hj⟩) (by rw [flatP_len,hlm]) (flatP_one _) (by omega) (by decide) (by omega) rfl rfl ?_
     intro v6 w6 g6 r6 o6 fr6 q6
     have hG6:Grown w w6:=But.fresh G5.out q6 (fun i hi => by omega)
     have HR6:Hid (w6.ownsRow (w.heap.size + 1) 106 2 v6 (insP ps (xk,xv)).length (flatP (insP ps (xk,xv)))):=Lib.hid (by
      rw [HIns.out,flatP_app,List.length_append,List.length_cons,hlk,hlm]
      have:=r6
      simpa [flatP,insP,Nat.add_assoc,Nat.add_comm 1] using this)
     have G6:=Lib.hid hG6
     clear r6 o6 fr6 q6 hG6
     go_wp2_with fail
     go_ret
     exact ⟨v6,rfl,own_rowC HR6.out,(own_flat HR6.out (.inl (by rw [insP_len];omega))).mono (by omega),G6.out⟩
    ·go_wp2_with (first | (at_builtin;refine pause ?_) | fail)
     unfold Pause
     refine wpList_addP rfl _ _ 55 rfl (w.heap.size + 1) 106 (.agg #[.int .u64 0,.int .u64 0]) 2 16 Tryz.underlying55 info_pair rfl (by decide) v5 (0 + k + 1) ([] ++ flatP (ps.take k) ++ [.int .u64 xk,.int .u64 xv]) g5 R5.out O5.out _ (n - k) (flatP (ps.drop k)) (part_drop (gcells G5.out HC.out) HFL.out (by rw [flatP_len,hlk])) (by rw [flatP_len,hlm]) (flatP_one _) (by omega) (by decide) (by omega) rfl rfl ?_
     intro v6 w6 g6 r6 o6 fr6 q6
     have hG6:Grown w w6:=But.fresh G5.out q6 (fun i hi => by omega)
     have HR6:Hid (w6.ownsRow (w.heap.size + 1) 106 2 v6 (insP ps (xk,xv)).length (flatP (insP ps (xk,xv)))):=Lib.hid (by
      rw [HIns.out,flatP_app,List.length_append,List.length_cons,hlk,hlm]
      have:=r6
      simpa [flatP,insP,Nat.add_assoc,Nat.add_comm 1] using this)
     have G6:=Lib.hid hG6
     clear r6 o6 fr6 q6 hG6
     go_wp2_with fail
     go_ret
     exact ⟨v6,rfl,own_rowC HR6.out,(own_flat HR6.out (.inl (by rw [insP_len];omega))).mono (by omega),G6.out⟩
end Go.Proofs.YtmokcgifknmchaaGreat
namespace Go.Proofs.YtmokcgifknmchaaGreat
open Go.ChangeShapes Go.WideShapes Go.ChangeAt Go.RowKit
set_option maxRecDepth 100000
set_option linter.unusedVariables false
end Go.Proofs.YtmokcgifknmchaaGreat
