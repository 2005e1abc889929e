/- Has a list a number, and a pair put into a list (corrieref09.has, corrieref09.insert). -/
import Derived.Test.YtcogckjpmmjmbaaGreatQDMRefW
import Derived.Test.YtcogckjpmmjmbaaGreatQDMSound
namespace Go.Proofs.YtcogckjpmmjmbaaGreat
open Go.ChangeShapes Go.WideShapes Go.ChangeAt Go.RowKit
set_option maxRecDepth 100000
set_option linter.unusedVariables false
end Go.Proofs.YtcogckjpmmjmbaaGreat
namespace Go.Proofs.YtcogckjpmmjmbaaGreat
open Go.ChangeShapes Go.WideShapes Go.ChangeAt Go.RowKit
set_option maxRecDepth 100000
set_option linter.unusedVariables false
theorem part_take {w:World} {g m cap:Nat} {cells pre post:List Value} (h:∀ (j:Nat) (u:Value),cells[j]? = some u → w.cell? ⟨g,j,none⟩ = some u) (hc:cells = pre ++ post) :
  Part w (.slice (some ⟨g,0,none⟩) m cap) pre m:=by
 refine .inr ⟨⟨g,0,none⟩,cap,rfl,fun j u hj => ?_⟩
 have hlt:=(List.getElem?_eq_some_iff.1 hj).1
 have:=h j u (by rw [hc,List.getElem?_append_left hlt];exact hj)
 by_cases hj0:j = 0 <;> simpa [Addr.add,hj0] using this
theorem part_drop {w:World} {g m cap o:Nat} {cells pre post:List Value} (h:∀ (j:Nat) (u:Value),cells[j]? = some u → w.cell? ⟨g,j,none⟩ = some u) (hc:cells = pre ++ post) (ho:pre.length = o) :
  Part w (.slice (some ⟨g,o,none⟩) m cap) post m:=by
 refine .inr ⟨⟨g,o,none⟩,cap,rfl,fun j u hj => ?_⟩
 have:=h (o + j) u (by rw [hc,List.getElem?_append_right (by omega)];simpa [ho] using hj)
 by_cases hj0:j = 0 <;> simpa [Addr.add,hj0] using this
theorem gcells {w w':World} {g:Nat} {cells:List Value} (q:Grown w w') (h:∀ (j:Nat) (u:Value),cells[j]? = some u → w.cell? ⟨g,j,none⟩ = some u):∀ (j:Nat) (u:Value),cells[j]? = some u → w'.cell? ⟨g,j,none⟩ = some u:=fun j u hj => gcell q (h j u hj)
end Go.Proofs.YtcogckjpmmjmbaaGreat
namespace Go.Proofs.YtcogckjpmmjmbaaGreat
open Go.ChangeShapes Go.WideShapes Go.ChangeAt Go.RowKit
set_option maxRecDepth 100000
set_option linter.unusedVariables false
structure It where
 key:Int
 val:Int
 word:Int
 mark:Bool
 again:Bool
def It.l (x:It):List Value:=[.int .u64 x.key,.int .u64 x.val,.int .u64 x.word,.bool x.mark,.bool x.again]
def flatI (xs:List It):List Value:=xs.flatMap It.l
def insI:List It → It → List It
 | [],x => [x]
 | y :: r,x => if y.key ≤ x.key then y :: insI r x else x :: y :: r
def foldI (xs:List It):List It:=xs.foldl insI []
theorem flatI_len (ps:List It):(flatI ps).length = ps.length * 5:=by
 induction ps with
 | nil => rfl
 | cons x r ih => simp only [flatI,It.l,List.flatMap_cons,List.length_append,List.length_cons,List.length_nil] at ih ⊢;omega
theorem flatI_one (ps:List It):∀ u ∈ flatI ps,u.oneCell' = true:=by
 intro u hu
 obtain ⟨x,-,hx⟩:=List.mem_flatMap.1 hu
 simp only [It.l,List.mem_cons,List.not_mem_nil,or_false] at hx
 rcases hx with rfl | rfl | rfl | rfl | rfl <;> rfl
theorem flatI_app (a b:List It):flatI (a ++ b) = flatI a ++ flatI b:=by simp [flatI]
theorem flatI_0 {ps:List It} {j:Nat} {x:It} (h:ps[j]? = some x):(flatI ps)[j * 5]? = some (.int .u64 x.key):=flat_at (k:=5) (o:=0) (fun _ => rfl) (by decide) ps j x h
theorem flatI_1 {ps:List It} {j:Nat} {x:It} (h:ps[j]? = some x):(flatI ps)[j * 5 + 1]? = some (.int .u64 x.val):=flat_at (k:=5) (o:=1) (fun _ => rfl) (by decide) ps j x h
theorem flatI_2 {ps:List It} {j:Nat} {x:It} (h:ps[j]? = some x):(flatI ps)[j * 5 + 2]? = some (.int .u64 x.word):=flat_at (k:=5) (o:=2) (fun _ => rfl) (by decide) ps j x h
theorem flatI_3 {ps:List It} {j:Nat} {x:It} (h:ps[j]? = some x):(flatI ps)[j * 5 + 3]? = some (.bool x.mark):=flat_at (k:=5) (o:=3) (fun _ => rfl) (by decide) ps j x h
theorem flatI_4 {ps:List It} {j:Nat} {x:It} (h:ps[j]? = some x):(flatI ps)[j * 5 + 4]? = some (.bool x.again):=flat_at (k:=5) (o:=4) (fun _ => rfl) (by decide) ps j x h
theorem insI_len (x:It):∀ (l:List It),(insI l x).length = l.length + 1
 | [] => rfl
 | z :: r => by unfold insI;split <;> simp [insI_len x r]
theorem foldI_app (ps:List It) (x:It):foldI (ps ++ [x]) = insI (foldI ps) x:=by simp [foldI]
theorem foldI_step {xs:List It} {k:Nat} {x:It} (h:xs[k]? = some x):foldI (xs.take (k + 1)) = insI (foldI (xs.take k)) x:=by rw [List.take_add_one,h];exact foldI_app _ _
theorem foldlI_len:∀ (ps l:List It),(ps.foldl insI l).length = l.length + ps.length
 | [],l => by simp
 | x :: r,l => by simp only [List.foldl_cons,List.length_cons];rw [foldlI_len r,insI_len];omega
theorem foldI_len (ps:List It):(foldI ps).length = ps.length:=by unfold foldI;rw [foldlI_len];simp
theorem insI_at (x:It):∀ (ps:List It) (k:Nat),(∀ y ∈ ps.take k,y.key ≤ x.key) → (∀ y,ps[k]? = some y → x.key < y.key) → k ≤ ps.length → insI ps x = ps.take k ++ x :: ps.drop k
 | [],k,_,_,hk => by simp [insI]
 | z :: r,0,_,h2,_ => by
  have:=h2 z (by simp)
  simp only [insI,if_neg (show ¬ z.key ≤ x.key by omega),List.take_zero,List.drop_zero,List.nil_append]
 | z :: r,k + 1,h1,h2,hk => by
  have hz:=h1 z (by simp)
  simp only [insI,if_pos hz,List.take_succ_cons,List.drop_succ_cons,List.cons_append]
  rw [insI_at x r k (fun y hy => h1 y (by simp [hy])) (fun y hy => h2 y (by simpa using hy)) (by simpa using hk)]
theorem info_item:(Tryz.prog.info? 105).map (fun i => (i.zero,i.size,i.bytes)) = some (some (.agg #[.int .u64 0,.int .u64 0,.int .u64 0,.bool false,.bool false]),5,32):=by kernel_rfl
def clr (x:It):It:={ x with again:=false }
def keptI (l:List It) (k:Nat) (x:It):It:=if 0 < k ∧ (l[k - 1]?).map It.key = some x.key then x else clr x
def fixTo (l:List It) (m:Nat):List It:=l.mapIdx fun k x => if k < m then keptI l k x else x
theorem keptI_key (l:List It) (k:Nat) (x:It):(keptI l k x).key = x.key:=by unfold keptI clr;split <;> rfl
theorem fixTo_get (l:List It) (m k:Nat):(fixTo l m)[k]? = (l[k]?).map fun x => if k < m then keptI l k x else x:=by simp [fixTo]
theorem fixTo_len (l:List It) (m:Nat):(fixTo l m).length = l.length:=by simp [fixTo]
theorem fixTo_0 (l:List It):fixTo l 0 = l:=by
 refine List.ext_getElem? fun k => ?_
 rw [fixTo_get]
 simp
theorem fixTo_same {l:List It} {m:Nat} {x:It} (h:l[m]? = some x) (hk:keptI l m x = x):fixTo l (m + 1) = fixTo l m:=by
 refine List.ext_getElem? fun k => ?_
 rw [fixTo_get,fixTo_get]
 by_cases hkm:k = m
 ·subst hkm
  rw [h]
  simp [hk]
 ·cases hl:l[k]? with
  | none => rfl
  | some y =>
   simp only [Option.map_some]
   by_cases h1:k < m
   ·rw [if_pos h1,if_pos (by omega)]
   ·rw [if_neg h1,if_neg (by omega)]
theorem fixTo_clr {l:List It} {m:Nat} {x:It} (h:l[m]? = some x) (hk:keptI l m x = clr x):fixTo l (m + 1) = (fixTo l m).set m (clr x):=by
 refine List.ext_getElem? fun k => ?_
 rw [List.getElem?_set,fixTo_get,fixTo_get,fixTo_len]
 by_cases hkm:m = k
 ·subst hkm
  rw [h,if_pos rfl,if_pos (List.getElem?_eq_some_iff.1 h).1]
  simp [hk]
 ·rw [if_neg hkm]
  cases hl:l[k]? with
  | none => rfl
  | some y =>
   simp only [Option.map_some]
   by_cases h1:k < m
   ·rw [if_pos h1,if_pos (by omega)]
   ·rw [if_neg h1,if_neg (by omega)]
theorem flatI_set:∀ (l:List It) (m:Nat) (x:It),l[m]? = some x → (flatI l).set (m * 5 + 4) (.bool false) = flatI (l.set m (clr x))
 | [],m,x,h => by simp at h
 | y :: r,0,x,h => by
  simp at h
  subst h
  rfl
 | y :: r,m + 1,x,h => by
  have ih:=flatI_set r m x (by simpa using h)
  show (y.l ++ flatI r).set ((m + 1) * 5 + 4) _ = y.l ++ flatI (r.set m (clr x))
  rw [← ih,List.set_append_right _ _ (by simp [It.l];omega)]
  congr 2
  simp [It.l];omega
def sortedI (xs:List It):List It:=fixTo (foldI xs) xs.length
def RowO (w:World) (v:Value) (cells:List Value) (n:Nat):Prop :=
 ∃ (A:Option Addr) (bb off cap:Nat),v = .slice A n cap ∧ (0 < n → A = some ⟨bb,off,none⟩) ∧ ∀ j u,cells[j]? = some u → w.cell? ⟨bb,off + j,none⟩ = some u
theorem RowO.grown {w w':World} {v:Value} {cells:List Value} {n:Nat} (h:RowO w v cells n) (q:Grown w w'):RowO w' v cells n:=by
 obtain ⟨A,bb,off,cap,hv,hA,hc⟩:=h
 exact ⟨A,bb,off,cap,hv,hA,fun j u hj => gcell q (hc j u hj)⟩
set_option maxHeartbeats 8000000 in
theorem Sorted_at (w:World) (f:Int) (vi vc:Value) (xs:List It) (h:RowO w vi (flatI xs) xs.length) (hl:xs.length ≤ 12) :
  Calls Tryz.prog 56 #[.agg #[.int .u8 f,vi,vc]] w fun e w' => ∃ v',e = .returned v' ∧ RowC w' v' (flatI (sortedI xs)) xs.length ∧ (∀ g,InRow v' g → w.heap.size ≤ g) ∧ Grown w w':=by
 obtain ⟨n,hn⟩:∃ n,xs.length = n:=⟨_,rfl⟩
 rw [hn] at h hl ⊢
 obtain ⟨A,gi,off,capi,rfl,hA,hc⟩:=h
 rcases Nat.eq_zero_or_pos n with h0 | h0
 ·obtain rfl:xs = []:=List.eq_nil_of_length_eq_zero (by omega)
  subst h0
  clear hn hl hA hc
  go_enter Tryz.func56,Tryz.ntmps56
  have e1:=(Box.made w [.int .u8 f,.slice A 0 capi,vc] 25).cell 1 _ rfl
  go_wp2_with fail
  refine wp_loop_rounds 1 ?_
  rw [rounds_succ]
  go_wp2_with fail
  refine wp_loop_rounds 1 ?_
  rw [rounds_succ]
  go_wp2_with fail
  go_ret
  exact ⟨_,rfl,.inl ⟨rfl,rfl,by simp [sortedI,fixTo,foldI,flatI]⟩,(fun g hg => by cases hg),by go_grown⟩
 ·obtain rfl:=hA h0
  have HC:=Lib.hid hc
  have HN:=Lib.hid hn
  have HB:=Lib.hid (Box.made w [.int .u8 f,.slice (some ⟨gi,off,none⟩) n capi,vc] 25)
  have GB:Grown w (w.alloc (.cells #[.int .u8 f,.slice (some ⟨gi,off,none⟩) n capi,vc] 25)):=by go_grown
  have HGB:=Lib.hid GB
  clear hc hn GB hA
  go_enter Tryz.func56,Tryz.ntmps56
  go_wp2_with fail
  go_loopw [3,4,5,6] (fun s3 s4 s5 s6 wr => ∃ (k:Nat) (v:Value),v = s3 ∧ s4 = .int .i64 (k:Int) ∧ k ≤ n ∧ wr.ownsRow (w.heap.size + 1) 105 5 v k (flatI (foldI (xs.take k))) ∧ (0 < k ∨ v = .slice none 0 0) ∧ Grown w wr ∧ Box wr w.heap.size [.int .u8 f,.slice (some ⟨gi,off,none⟩) n capi,vc]) (fun s3 s4 s5 s6 _ => n - (intOf s4).toNat)
  case atStart => exact ⟨0,.slice none 0 0,rfl,rfl,Nat.zero_le _,own_nil _ _ _ _,.inr rfl,HGB.out,HB.out⟩
  case round =>
   obtain ⟨k,v,rfl,rfl,hk,hrow,hnil,hg,hB⟩:=hrel
   obtain ⟨wo,hwo⟩:∃ x,x = wr:=⟨_,rfl⟩
   subst hwo
   have HRow:=Lib.hid hrow
   have HG:=Lib.hid hg
   have HBr:=Lib.hid hB
   have f1:=hB.cell 1 _ rfl
   clear hrow hg hB
   by_cases hkn:k < n
   ·have hlt:(k:Int) < (n:Int):=by omega
    obtain ⟨⟨xk,xv,xw,xm,xa⟩,hx⟩:∃ y,xs[k]? = some y:=⟨_,List.getElem?_eq_getElem (by rw [HN.out];exact hkn)⟩
    have HX:=Lib.hid hx
    have HFold:=Lib.hid (foldI_step hx)
    clear hx
    rcases hnil with hk0 | rfl
    ·obtain ⟨g,cap,rfl⟩:=own_open HRow.out hk0
     obtain ⟨cur,hcur⟩:∃ cur,foldI (xs.take k) = cur:=⟨_,rfl⟩
     have HCE:=Lib.hid hcur
     have HCur:Hid (cur.length = k):=Lib.hid (by rw [← hcur,foldI_len,List.length_take];have:=HN.out;omega)
     have HRw:Hid (RowC wo (.slice (some ⟨g,0,none⟩) k cap) (flatI cur) k):=Lib.hid (by rw [← hcur];exact own_rowC HRow.out)
     have HCu:Hid (∀ (j:Nat) (u:Value),(flatI cur)[j]? = some u → wo.cell? ⟨g,j,none⟩ = some u):=Lib.hid (by
      rcases HRw.out with ⟨h,-⟩ | ⟨g',cap',he,-,hh⟩
      ·cases h
      ·cases he;exact hh)
     have hkc:(k:Int) ≤ (cap:Int):=by
      rcases HRw.out with ⟨h,-⟩ | ⟨g',cap',he,hh,-⟩
      ·cases h
      ·cases he;omega
     clear hcur
     go_wp2_with fail
     go_loopw [5] (fun s5 wx => ∃ j:Nat,s5 = .int .i64 (j:Int) ∧ j ≤ k ∧ (∀ y ∈ cur.take j,y.key ≤ xk) ∧ Grown wo wx) (fun s5 _ => k - (intOf s5).toNat)
     case atStart => exact ⟨0,rfl,Nat.zero_le _,by simp,Grown.refl _⟩
     case round =>
      obtain ⟨j,rfl,hj,hpre,hgx⟩:=hrel
      have HPRE:=Lib.hid hpre
      have HGx:=Lib.hid hgx
      clear hpre hgx
      have d2:∀ q:GrW wr,q.w.cell? ⟨w.heap.size,1,none⟩ = some (.slice (some ⟨gi,off,none⟩) n capi):=GrW.cell ((HBr.out.grown HGx.out).cell 1 _ rfl)
      have d3:∀ q:GrW wr,q.w.cell? ⟨gi,off + k * 5,none⟩ = some (.int .u64 xk):=GrW.cell (gcell HGx.out (gcell HG.out (HC.out (k * 5) _ (flatI_0 HX.out))))
      by_cases hjk:j < k
      ·obtain ⟨⟨yk,yv,yw,ym,ya⟩,hy⟩:∃ y,cur[j]? = some y:=⟨_,List.getElem?_eq_getElem (by rw [HCur.out];exact hjk)⟩
       have d1:∀ q:GrW wr,q.w.cell? ⟨g,j * 5,none⟩ = some (.int .u64 yk):=GrW.cell (gcell HGx.out (HCu.out (j * 5) _ (flatI_0 hy)))
       have hjl:decide ((j:Int) < (k:Int)) = true:=decide_eq_true (by omega)
       have HY:=Lib.hid hy
       clear hy
       by_cases hyx:yk ≤ xk
       ·have HE:=Lib.hid hyx
        have ey:decide (yk ≤ xk) = true:=decide_eq_true hyx
        clear hyx
        go_wp2_with fail
        refine wp_region_grow (by kernel_rfl) (by kernel_rfl) ?_
        repeat (go_big_quiet_step (fail))
        refine wpQuiet_nil ?_
        rintro w3 ⟨⟨_,g3⟩,rfl⟩
        clear d1 d2 d3
        go_wp2_with fail
        refine ⟨⟨j + 1,by simp,hjk,?_,gtr HGx.out g3⟩,by simp [intOf];omega⟩
        intro z hz
        rw [List.take_add_one,HY.out] at hz
        rcases List.mem_append.1 hz with hz | hz
        ·exact HPRE.out z hz
        ·simp at hz;rw [hz];exact HE.out
       ·have HE:=Lib.hid hyx
        have ey:decide (yk ≤ xk) = false:=decide_eq_false hyx
        clear hyx
        go_wp2_with fail
        refine wp_region_grow (by kernel_rfl) (by kernel_rfl) ?_
        repeat (go_big_quiet_step (fail))
        refine wpQuiet_nil ?_
        rintro w3 ⟨⟨_,g3⟩,rfl⟩
        clear d1 d2 d3
        replace g3:=gtr HGx.out g3
        have HIns:Hid (insI cur ⟨xk,xv,xw,xm,xa⟩ = cur.take j ++ ⟨xk,xv,xw,xm,xa⟩ :: cur.drop j):=Lib.hid (insI_at _ _ _ HPRE.out (fun y hy => by have h1:=HY.out;rw [h1] at hy;cases hy;have:=HE.out;simp only;omega) (by have:=HCur.out;omega))
        go_wp2_with (first | (at_builtin;refine pause ?_) | fail)
        unfold Pause
        have ga:Grown w3 (w3.alloc (.cells #[] 105)):=by go_grown
        have hsz:w.heap.size + 1 ≤ w3.heap.size:=by have:=(HBr.out.grown g3).lt;omega
        have hlk:(cur.take j).length = j:=by have:=HCur.out;rw [List.length_take];omega
        have hlm:(cur.drop j).length = k - j:=by have:=HCur.out;rw [List.length_drop];omega
        refine wpList_addP rfl _ _ 22 rfl (w.heap.size + 1) 105 (.agg #[.int .u64 0,.int .u64 0,.int .u64 0,.bool false,.bool false]) 5 32 Tryz.underlying22 info_item rfl (by decide) _ 0 [] w3.heap.size ⟨rfl,.inr ⟨w3.heap.size,0,#[],rfl,hsz,(show (w3.heap.push _)[w3.heap.size]? = _ from Array.getElem?_push_size),Nat.le_refl _,by decide,rfl,rfl⟩⟩ rfl _ j (flatI (cur.take j)) (part_take (gcells (gtr g3 ga) HCu.out) (by rw [← flatI_app,List.take_append_drop])) (by rw [flatI_len,hlk]) (flatI_one _) (by omega) (by decide) (by simp;omega) rfl rfl ?_
        intro v4 w4 g4 r4 o4 fr4 q4
        have hG4:Grown wo w4:=But.fresh (gtr g3 ga) q4 (fun i hi => by have:=g3.2.2;omega)
        have h34:w3.heap.size + 1 ≤ w4.heap.size:=by have:=q4.2.2;simpa using this
        have hg4:w3.heap.size ≤ g4:=by have h1:=fr4;have h2:w3.heap.size ≤ (w3.alloc (.cells #[] 105)).heap.size:=ga.2.2;omega
        have R4:=Lib.hid r4
        have O4:=Lib.hid o4
        have G4:=Lib.hid hG4
        have e0:=(HBr.out.grown hG4).cell 1 _ rfl
        have e1:w4.cell? ⟨gi,off + k * 5,none⟩ = some (.int .u64 xk):=gcell hG4 (gcell HG.out (HC.out (k * 5) _ (flatI_0 HX.out)))
        have e2:w4.cell? ⟨gi,off + k * 5 + 1,none⟩ = some (.int .u64 xv):=gcell hG4 (gcell HG.out (HC.out (k * 5 + 1) _ (flatI_1 HX.out)))
        have e3:w4.cell? ⟨gi,off + k * 5 + 2,none⟩ = some (.int .u64 xw):=gcell hG4 (gcell HG.out (HC.out (k * 5 + 2) _ (flatI_2 HX.out)))
        have e4:w4.cell? ⟨gi,off + k * 5 + 3,none⟩ = some (.bool xm):=gcell hG4 (gcell HG.out (HC.out (k * 5 + 3) _ (flatI_3 HX.out)))
        have e5:w4.cell? ⟨gi,off + k * 5 + 4,none⟩ = some (.bool xa):=gcell hG4 (gcell HG.out (HC.out (k * 5 + 4) _ (flatI_4 HX.out)))
        clear r4 o4 fr4 q4 hG4
        go_wp2_with (first | (at_builtin;refine pause ?_) | fail)
        unfold Pause
        have gb:Grown w4 (w4.alloc (.cells #[.int .u64 xk,.int .u64 xv,.int .u64 xw,.bool xm,.bool xa] 105)):=by go_grown
        refine wpList_addP rfl _ _ 22 rfl (w.heap.size + 1) 105 (.agg #[.int .u64 0,.int .u64 0,.int .u64 0,.bool false,.bool false]) 5 32 Tryz.underlying22 info_item rfl (by decide) v4 (0 + j) ([] ++ flatI (cur.take j)) g4 (own_grown R4.out gb) O4.out _ 1 [.int .u64 xk,.int .u64 xv,.int .u64 xw,.bool xm,.bool xa] (.inr ⟨⟨w4.heap.size,0,none⟩,1,rfl,fun q u hq => ?news⟩) rfl (by simp [Value.oneCell']) (by omega) (by decide) (by simp;omega) rfl rfl ?_
        case news =>
         rcases q with _ | _ | _ | _ | _ | q
         ·cases hq;simp [go_sem,Addr.add]
         ·cases hq;simp [go_sem,Addr.add]
         ·cases hq;simp [go_sem,Addr.add]
         ·cases hq;simp [go_sem,Addr.add]
         ·cases hq;simp [go_sem,Addr.add]
         ·cases hq
        intro v5 w5 g5 r5 o5 fr5 q5
        have hG5:Grown wo w5:=But.fresh (gtr G4.out gb) q5 (fun i hi => by have:=g3.2.2;omega)
        have hg5:w3.heap.size ≤ g5:=by have h1:=fr5;have h2:w4.heap.size ≤ (w4.alloc (.cells #[.int .u64 xk,.int .u64 xv,.int .u64 xw,.bool xm,.bool xa] 105)).heap.size:=gb.2.2;omega
        have h45:w4.heap.size ≤ w5.heap.size:=Nat.le_trans gb.2.2 q5.2.2
        have R5:=Lib.hid r5
        have O5:=Lib.hid o5
        have G5:=Lib.hid hG5
        clear r5 o5 fr5 q5 hG5 e0 e1 e2 e3 e4 e5
        have HFL:Hid (flatI cur = flatI (cur.take j) ++ flatI (cur.drop j)):=Lib.hid (by rw [← flatI_app,List.take_append_drop])
        by_cases hck:cap = j
        ·have HD:Hid (cur.drop j = []):=Lib.hid (List.drop_of_length_le (by have:=HCur.out;omega))
         go_wp2_with (first | (at_builtin;refine pause ?_) | fail)
         unfold Pause
         refine wpList_addP rfl _ _ 22 rfl (w.heap.size + 1) 105 (.agg #[.int .u64 0,.int .u64 0,.int .u64 0,.bool false,.bool false]) 5 32 Tryz.underlying22 info_item rfl (by decide) v5 (0 + j + 1) ([] ++ flatI (cur.take j) ++ [.int .u64 xk,.int .u64 xv,.int .u64 xw,.bool xm,.bool xa]) g5 R5.out O5.out _ (k - j) (flatI (cur.drop j)) (by rw [HD.out];exact .inr ⟨_,_,rfl,fun q u hq => by cases hq⟩) (by rw [flatI_len,hlm]) (flatI_one _) (by omega) (by decide) (by omega) rfl rfl ?_
         intro v6 w6 g6 r6 o6 fr6 q6
         have hG6:Grown wo w6:=But.fresh G5.out q6 (fun i hi => by have:=g3.2.2;omega)
         have HR6:Hid (w6.ownsRow (w.heap.size + 1) 105 5 v6 (k + 1) (flatI (foldI (xs.take (k + 1))))):=Lib.hid (by
          rw [HFold.out,HCE.out,HIns.out,flatI_app]
          have:=r6
          have hkk:0 + j + 1 + (k - j) = k + 1:=by omega
          rw [hkk] at this
          simpa [flatI,It.l] using this)
         have G6:=Lib.hid hG6
         clear r6 o6 fr6 q6 hG6
         go_wp2_with fail
         exact ⟨⟨k + 1,v6,rfl,by simp,hkn,HR6.out,.inl (by omega),gtr HG.out G6.out,HBr.out.grown G6.out⟩,by simp [intOf];omega⟩
        ·go_wp2_with (first | (at_builtin;refine pause ?_) | fail)
         unfold Pause
         refine wpList_addP rfl _ _ 22 rfl (w.heap.size + 1) 105 (.agg #[.int .u64 0,.int .u64 0,.int .u64 0,.bool false,.bool false]) 5 32 Tryz.underlying22 info_item rfl (by decide) v5 (0 + j + 1) ([] ++ flatI (cur.take j) ++ [.int .u64 xk,.int .u64 xv,.int .u64 xw,.bool xm,.bool xa]) g5 R5.out O5.out _ (k - j) (flatI (cur.drop j)) (part_drop (gcells G5.out HCu.out) HFL.out (by rw [flatI_len,hlk])) (by rw [flatI_len,hlm]) (flatI_one _) (by omega) (by decide) (by omega) rfl rfl ?_
         intro v6 w6 g6 r6 o6 fr6 q6
         have hG6:Grown wo w6:=But.fresh G5.out q6 (fun i hi => by have:=g3.2.2;omega)
         have HR6:Hid (w6.ownsRow (w.heap.size + 1) 105 5 v6 (k + 1) (flatI (foldI (xs.take (k + 1))))):=Lib.hid (by
          rw [HFold.out,HCE.out,HIns.out,flatI_app]
          have:=r6
          have hkk:0 + j + 1 + (k - j) = k + 1:=by omega
          rw [hkk] at this
          simpa [flatI,It.l] using this)
         have G6:=Lib.hid hG6
         clear r6 o6 fr6 q6 hG6
         go_wp2_with fail
         exact ⟨⟨k + 1,v6,rfl,by simp,hkn,HR6.out,.inl (by omega),gtr HG.out G6.out,HBr.out.grown G6.out⟩,by simp [intOf];omega⟩
      ·have hjl:decide ((j:Int) < (k:Int)) = false:=decide_eq_false (by omega)
       go_wp2_with fail
       refine wp_region_grow (by kernel_rfl) (by kernel_rfl) ?_
       repeat (go_big_quiet_step (fail))
       refine wpQuiet_nil ?_
       rintro w3 ⟨⟨_,g3⟩,rfl⟩
       clear d2 d3
       replace g3:=gtr HGx.out g3
       have HIns:Hid (insI cur ⟨xk,xv,xw,xm,xa⟩ = cur.take j ++ ⟨xk,xv,xw,xm,xa⟩ :: cur.drop j):=Lib.hid (insI_at _ _ _ HPRE.out (fun y hy => by have h1:=(List.getElem?_eq_some_iff.1 hy).1;have:=HCur.out;omega) (by have:=HCur.out;omega))
       go_wp2_with (first | (at_builtin;refine pause ?_) | fail)
       unfold Pause
       have ga:Grown w3 (w3.alloc (.cells #[] 105)):=by go_grown
       have hsz:w.heap.size + 1 ≤ w3.heap.size:=by have:=(HBr.out.grown g3).lt;omega
       have hlk:(cur.take j).length = j:=by have:=HCur.out;rw [List.length_take];omega
       have hlm:(cur.drop j).length = k - j:=by have:=HCur.out;rw [List.length_drop];omega
       refine wpList_addP rfl _ _ 22 rfl (w.heap.size + 1) 105 (.agg #[.int .u64 0,.int .u64 0,.int .u64 0,.bool false,.bool false]) 5 32 Tryz.underlying22 info_item rfl (by decide) _ 0 [] w3.heap.size ⟨rfl,.inr ⟨w3.heap.size,0,#[],rfl,hsz,(show (w3.heap.push _)[w3.heap.size]? = _ from Array.getElem?_push_size),Nat.le_refl _,by decide,rfl,rfl⟩⟩ rfl _ j (flatI (cur.take j)) (part_take (gcells (gtr g3 ga) HCu.out) (by rw [← flatI_app,List.take_append_drop])) (by rw [flatI_len,hlk]) (flatI_one _) (by omega) (by decide) (by simp;omega) rfl rfl ?_
       intro v4 w4 g4 r4 o4 fr4 q4
       have hG4:Grown wo w4:=But.fresh (gtr g3 ga) q4 (fun i hi => by have:=g3.2.2;omega)
       have h34:w3.heap.size + 1 ≤ w4.heap.size:=by have:=q4.2.2;simpa using this
       have hg4:w3.heap.size ≤ g4:=by have h1:=fr4;have h2:w3.heap.size ≤ (w3.alloc (.cells #[] 105)).heap.size:=ga.2.2;omega
       have R4:=Lib.hid r4
       have O4:=Lib.hid o4
       have G4:=Lib.hid hG4
       have e0:=(HBr.out.grown hG4).cell 1 _ rfl
       have e1:w4.cell? ⟨gi,off + k * 5,none⟩ = some (.int .u64 xk):=gcell hG4 (gcell HG.out (HC.out (k * 5) _ (flatI_0 HX.out)))
       have e2:w4.cell? ⟨gi,off + k * 5 + 1,none⟩ = some (.int .u64 xv):=gcell hG4 (gcell HG.out (HC.out (k * 5 + 1) _ (flatI_1 HX.out)))
       have e3:w4.cell? ⟨gi,off + k * 5 + 2,none⟩ = some (.int .u64 xw):=gcell hG4 (gcell HG.out (HC.out (k * 5 + 2) _ (flatI_2 HX.out)))
       have e4:w4.cell? ⟨gi,off + k * 5 + 3,none⟩ = some (.bool xm):=gcell hG4 (gcell HG.out (HC.out (k * 5 + 3) _ (flatI_3 HX.out)))
       have e5:w4.cell? ⟨gi,off + k * 5 + 4,none⟩ = some (.bool xa):=gcell hG4 (gcell HG.out (HC.out (k * 5 + 4) _ (flatI_4 HX.out)))
       clear r4 o4 fr4 q4 hG4
       go_wp2_with (first | (at_builtin;refine pause ?_) | fail)
       unfold Pause
       have gb:Grown w4 (w4.alloc (.cells #[.int .u64 xk,.int .u64 xv,.int .u64 xw,.bool xm,.bool xa] 105)):=by go_grown
       refine wpList_addP rfl _ _ 22 rfl (w.heap.size + 1) 105 (.agg #[.int .u64 0,.int .u64 0,.int .u64 0,.bool false,.bool false]) 5 32 Tryz.underlying22 info_item rfl (by decide) v4 (0 + j) ([] ++ flatI (cur.take j)) g4 (own_grown R4.out gb) O4.out _ 1 [.int .u64 xk,.int .u64 xv,.int .u64 xw,.bool xm,.bool xa] (.inr ⟨⟨w4.heap.size,0,none⟩,1,rfl,fun q u hq => ?news⟩) rfl (by simp [Value.oneCell']) (by omega) (by decide) (by simp;omega) rfl rfl ?_
       case news =>
        rcases q with _ | _ | _ | _ | _ | q
        ·cases hq;simp [go_sem,Addr.add]
        ·cases hq;simp [go_sem,Addr.add]
        ·cases hq;simp [go_sem,Addr.add]
        ·cases hq;simp [go_sem,Addr.add]
        ·cases hq;simp [go_sem,Addr.add]
        ·cases hq
       intro v5 w5 g5 r5 o5 fr5 q5
       have hG5:Grown wo w5:=But.fresh (gtr G4.out gb) q5 (fun i hi => by have:=g3.2.2;omega)
       have hg5:w3.heap.size ≤ g5:=by have h1:=fr5;have h2:w4.heap.size ≤ (w4.alloc (.cells #[.int .u64 xk,.int .u64 xv,.int .u64 xw,.bool xm,.bool xa] 105)).heap.size:=gb.2.2;omega
       have h45:w4.heap.size ≤ w5.heap.size:=Nat.le_trans gb.2.2 q5.2.2
       have R5:=Lib.hid r5
       have O5:=Lib.hid o5
       have G5:=Lib.hid hG5
       clear r5 o5 fr5 q5 hG5 e0 e1 e2 e3 e4 e5
       have HFL:Hid (flatI cur = flatI (cur.take j) ++ flatI (cur.drop j)):=Lib.hid (by rw [← flatI_app,List.take_append_drop])
       by_cases hck:cap = j
       ·have HD:Hid (cur.drop j = []):=Lib.hid (List.drop_of_length_le (by have:=HCur.out;omega))
        go_wp2_with (first | (at_builtin;refine pause ?_) | fail)
        unfold Pause
        refine wpList_addP rfl _ _ 22 rfl (w.heap.size + 1) 105 (.agg #[.int .u64 0,.int .u64 0,.int .u64 0,.bool false,.bool false]) 5 32 Tryz.underlying22 info_item rfl (by decide) v5 (0 + j + 1) ([] ++ flatI (cur.take j) ++ [.int .u64 xk,.int .u64 xv,.int .u64 xw,.bool xm,.bool xa]) g5 R5.out O5.out _ (k - j) (flatI (cur.drop j)) (by rw [HD.out];exact .inr ⟨_,_,rfl,fun q u hq => by cases hq⟩) (by rw [flatI_len,hlm]) (flatI_one _) (by omega) (by decide) (by omega) rfl rfl ?_
        intro v6 w6 g6 r6 o6 fr6 q6
        have hG6:Grown wo w6:=But.fresh G5.out q6 (fun i hi => by have:=g3.2.2;omega)
        have HR6:Hid (w6.ownsRow (w.heap.size + 1) 105 5 v6 (k + 1) (flatI (foldI (xs.take (k + 1))))):=Lib.hid (by
         rw [HFold.out,HCE.out,HIns.out,flatI_app]
         have:=r6
         have hkk:0 + j + 1 + (k - j) = k + 1:=by omega
         rw [hkk] at this
         simpa [flatI,It.l] using this)
        have G6:=Lib.hid hG6
        clear r6 o6 fr6 q6 hG6
        go_wp2_with fail
        exact ⟨⟨k + 1,v6,rfl,by simp,hkn,HR6.out,.inl (by omega),gtr HG.out G6.out,HBr.out.grown G6.out⟩,by simp [intOf];omega⟩
       ·go_wp2_with (first | (at_builtin;refine pause ?_) | fail)
        unfold Pause
        refine wpList_addP rfl _ _ 22 rfl (w.heap.size + 1) 105 (.agg #[.int .u64 0,.int .u64 0,.int .u64 0,.bool false,.bool false]) 5 32 Tryz.underlying22 info_item rfl (by decide) v5 (0 + j + 1) ([] ++ flatI (cur.take j) ++ [.int .u64 xk,.int .u64 xv,.int .u64 xw,.bool xm,.bool xa]) g5 R5.out O5.out _ (k - j) (flatI (cur.drop j)) (part_drop (gcells G5.out HCu.out) HFL.out (by rw [flatI_len,hlk])) (by rw [flatI_len,hlm]) (flatI_one _) (by omega) (by decide) (by omega) rfl rfl ?_
        intro v6 w6 g6 r6 o6 fr6 q6
        have hG6:Grown wo w6:=But.fresh G5.out q6 (fun i hi => by have:=g3.2.2;omega)
        have HR6:Hid (w6.ownsRow (w.heap.size + 1) 105 5 v6 (k + 1) (flatI (foldI (xs.take (k + 1))))):=Lib.hid (by
         rw [HFold.out,HCE.out,HIns.out,flatI_app]
         have:=r6
         have hkk:0 + j + 1 + (k - j) = k + 1:=by omega
         rw [hkk] at this
         simpa [flatI,It.l] using this)
        have G6:=Lib.hid hG6
        clear r6 o6 fr6 q6 hG6
        go_wp2_with fail
        exact ⟨⟨k + 1,v6,rfl,by simp,hkn,HR6.out,.inl (by omega),gtr HG.out G6.out,HBr.out.grown G6.out⟩,by simp [intOf];omega⟩
    ·have HK0:Hid (k = 0):=Lib.hid (by
      rcases HRow.out.2 with ⟨-,h⟩ | ⟨g',cap',cur',he,-⟩
      ·exact h
      ·cases he)
     have HIns:Hid (insI (foldI (xs.take k)) ⟨xk,xv,xw,xm,xa⟩ = [] ++ ⟨xk,xv,xw,xm,xa⟩ :: []):=Lib.hid (by rw [HK0.out];rfl)
     go_wp2_with fail
     refine wp_loop_rounds 1 ?_
     rw [rounds_succ]
     go_wp2_with fail
     refine wp_region_grow (by kernel_rfl) (by kernel_rfl) ?_
     repeat (go_big_quiet_step (fail))
     refine wpQuiet_nil ?_
     rintro w3 ⟨⟨_,g3⟩,rfl⟩
     go_wp2_with (first | (at_builtin;refine pause ?_) | fail)
     unfold Pause
     have ga:Grown w3 (w3.alloc (.cells #[] 105)):=by go_grown
     have hsz:w.heap.size + 1 ≤ w3.heap.size:=by have:=(HBr.out.grown g3).lt;omega
     have hlk:(([]:List It)).length = 0:=rfl
     have hlm:(([]:List It)).length = 0:=rfl
     refine wpList_addP rfl _ _ 22 rfl (w.heap.size + 1) 105 (.agg #[.int .u64 0,.int .u64 0,.int .u64 0,.bool false,.bool false]) 5 32 Tryz.underlying22 info_item rfl (by decide) _ 0 [] w3.heap.size ⟨rfl,.inr ⟨w3.heap.size,0,#[],rfl,hsz,(show (w3.heap.push _)[w3.heap.size]? = _ from Array.getElem?_push_size),Nat.le_refl _,by decide,rfl,rfl⟩⟩ rfl _ 0 (flatI (([]:List It))) (.inl ⟨rfl,rfl,rfl⟩) (by rw [flatI_len,hlk]) (flatI_one _) (by omega) (by decide) (by simp;omega) rfl rfl ?_
     intro v4 w4 g4 r4 o4 fr4 q4
     have hG4:Grown wo w4:=But.fresh (gtr g3 ga) q4 (fun i hi => by have:=g3.2.2;omega)
     have h34:w3.heap.size + 1 ≤ w4.heap.size:=by have:=q4.2.2;simpa using this
     have hg4:w3.heap.size ≤ g4:=by have h1:=fr4;have h2:w3.heap.size ≤ (w3.alloc (.cells #[] 105)).heap.size:=ga.2.2;omega
     have R4:=Lib.hid r4
     have O4:=Lib.hid o4
     have G4:=Lib.hid hG4
     have e0:=(HBr.out.grown hG4).cell 1 _ rfl
     have e1:w4.cell? ⟨gi,off + k * 5,none⟩ = some (.int .u64 xk):=gcell hG4 (gcell HG.out (HC.out (k * 5) _ (flatI_0 HX.out)))
     have e2:w4.cell? ⟨gi,off + k * 5 + 1,none⟩ = some (.int .u64 xv):=gcell hG4 (gcell HG.out (HC.out (k * 5 + 1) _ (flatI_1 HX.out)))
     have e3:w4.cell? ⟨gi,off + k * 5 + 2,none⟩ = some (.int .u64 xw):=gcell hG4 (gcell HG.out (HC.out (k * 5 + 2) _ (flatI_2 HX.out)))
     have e4:w4.cell? ⟨gi,off + k * 5 + 3,none⟩ = some (.bool xm):=gcell hG4 (gcell HG.out (HC.out (k * 5 + 3) _ (flatI_3 HX.out)))
     have e5:w4.cell? ⟨gi,off + k * 5 + 4,none⟩ = some (.bool xa):=gcell hG4 (gcell HG.out (HC.out (k * 5 + 4) _ (flatI_4 HX.out)))
     clear r4 o4 fr4 q4 hG4
     go_wp2_with (first | (at_builtin;refine pause ?_) | fail)
     unfold Pause
     have gb:Grown w4 (w4.alloc (.cells #[.int .u64 xk,.int .u64 xv,.int .u64 xw,.bool xm,.bool xa] 105)):=by go_grown
     refine wpList_addP rfl _ _ 22 rfl (w.heap.size + 1) 105 (.agg #[.int .u64 0,.int .u64 0,.int .u64 0,.bool false,.bool false]) 5 32 Tryz.underlying22 info_item rfl (by decide) v4 (0 + 0) ([] ++ flatI (([]:List It))) g4 (own_grown R4.out gb) O4.out _ 1 [.int .u64 xk,.int .u64 xv,.int .u64 xw,.bool xm,.bool xa] (.inr ⟨⟨w4.heap.size,0,none⟩,1,rfl,fun q u hq => ?news⟩) rfl (by simp [Value.oneCell']) (by omega) (by decide) (by simp;omega) rfl rfl ?_
     case news =>
      rcases q with _ | _ | _ | _ | _ | q
      ·cases hq;simp [go_sem,Addr.add]
      ·cases hq;simp [go_sem,Addr.add]
      ·cases hq;simp [go_sem,Addr.add]
      ·cases hq;simp [go_sem,Addr.add]
      ·cases hq;simp [go_sem,Addr.add]
      ·cases hq
     intro v5 w5 g5 r5 o5 fr5 q5
     have hG5:Grown wo w5:=But.fresh (gtr G4.out gb) q5 (fun i hi => by have:=g3.2.2;omega)
     have hg5:w3.heap.size ≤ g5:=by have h1:=fr5;have h2:w4.heap.size ≤ (w4.alloc (.cells #[.int .u64 xk,.int .u64 xv,.int .u64 xw,.bool xm,.bool xa] 105)).heap.size:=gb.2.2;omega
     have h45:w4.heap.size ≤ w5.heap.size:=Nat.le_trans gb.2.2 q5.2.2
     have R5:=Lib.hid r5
     have O5:=Lib.hid o5
     have G5:=Lib.hid hG5
     clear r5 o5 fr5 q5 hG5 e0 e1 e2 e3 e4 e5
     go_wp2_with (first | (at_builtin;refine pause ?_) | fail)
     unfold Pause
     refine wpList_addP rfl _ _ 22 rfl (w.heap.size + 1) 105 (.agg #[.int .u64 0,.int .u64 0,.int .u64 0,.bool false,.bool false]) 5 32 Tryz.underlying22 info_item rfl (by decide) v5 (0 + 0 + 1) ([] ++ flatI (([]:List It)) ++ [.int .u64 xk,.int .u64 xv,.int .u64 xw,.bool xm,.bool xa]) g5 R5.out O5.out _ (0) (flatI (([]:List It))) (.inl ⟨rfl,rfl,rfl⟩) (by rw [flatI_len,hlm]) (flatI_one _) (by omega) (by decide) (by omega) rfl rfl ?_
     intro v6 w6 g6 r6 o6 fr6 q6
     have hG6:Grown wo w6:=But.fresh G5.out q6 (fun i hi => by have:=g3.2.2;omega)
     have HR6:Hid (w6.ownsRow (w.heap.size + 1) 105 5 v6 (k + 1) (flatI (foldI (xs.take (k + 1))))):=Lib.hid (by
      rw [HFold.out,HIns.out,flatI_app]
      have:=r6
      simpa [flatI,It.l,Nat.add_assoc,Nat.add_comm 1,HK0.out] using this)
     have G6:=Lib.hid hG6
     clear r6 o6 fr6 q6 hG6
     go_wp2_with fail
     exact ⟨⟨k + 1,v6,rfl,by simp,hkn,HR6.out,.inl (by omega),gtr HG.out G6.out,HBr.out.grown G6.out⟩,by simp [intOf];omega⟩
   ·have hlt:¬ (k:Int) < (n:Int):=by omega
    obtain rfl:k = n:=by omega
    rcases hnil with hk0 | rfl
    ·obtain ⟨g,cap,rfl⟩:=own_open HRow.out hk0
     obtain ⟨cur,hcur⟩:∃ cur,foldI xs = cur:=⟨_,rfl⟩
     have htk:xs.take k = xs:=List.take_of_length_le (by have:=HN.out;omega)
     have HCur:Hid (cur.length = k):=Lib.hid (by rw [← hcur,foldI_len];exact HN.out)
     have HSo:Hid (sortedI xs = fixTo cur k):=Lib.hid (by unfold sortedI;rw [hcur,HN.out])
     have hat:=own_at HRow.out (g:=g) rfl
     have HAt:=Lib.hid hat
     have HRw:Hid (RowC wo (.slice (some ⟨g,0,none⟩) k cap) (flatI cur) k):=Lib.hid (by rw [← hcur];have:=own_rowC HRow.out;rwa [htk] at this)
     have hkc:k ≤ cap:=by
      rcases HRw.out with ⟨h,-⟩ | ⟨g',cap',he,hh,-⟩
      ·cases h
      ·cases he;omega
     have HBx:Hid (Box wo g (flatI cur)):=Lib.hid (by
      rcases HRw.out with ⟨h,-⟩ | ⟨g',cap',he,-,hh⟩
      ·cases h
      ·cases he
       refine ⟨hh,fun j => ?_,hat.2⟩
       rcases HRow.out.2 with ⟨h,-⟩ | ⟨g2,cap2,cu,he,-,hp,-⟩
       ·cases h
       ·cases he
        simp [World.frozen?,hp])
     clear hcur htk hat
     go_wp2_with fail
     go_loopw [7] (fun s7 wx => ∃ m:Nat,s7 = .int .i64 (m:Int) ∧ m ≤ k ∧ Box wx g (flatI (fixTo cur m)) ∧ Grown w wx) (fun s7 _ => k - (intOf s7).toNat)
     case atStart => exact ⟨0,rfl,Nat.zero_le _,by rw [fixTo_0];exact HBx.out,HG.out⟩
     case round =>
      obtain ⟨m,rfl,hm,hbx,hgx⟩:=hrel
      have HBm:=Lib.hid hbx
      have HGx:=Lib.hid hgx
      clear hbx hgx
      by_cases hmk:m < k
      ·obtain ⟨⟨xk,xv,xw,xm,xa⟩,hx⟩:∃ y,cur[m]? = some y:=⟨_,List.getElem?_eq_getElem (by rw [HCur.out];exact hmk)⟩
       have hxm:(fixTo cur m)[m]? = some ⟨xk,xv,xw,xm,xa⟩:=by rw [fixTo_get,hx];simp
       have HX:=Lib.hid hx
       have HXm:=Lib.hid hxm
       have HLen:Hid (m * 5 + 4 < (flatI (fixTo cur m)).length):=Lib.hid (by rw [flatI_len,fixTo_len,HCur.out];omega)
       have hlt5:(m:Int) < (k:Int):=by omega
       have d1:∀ q:GrW wr,q.w.cell? ⟨g,m * 5,none⟩ = some (.int .u64 xk):=GrW.cell (HBm.out.cell (m * 5) _ (flatI_0 hxm))
       have hkcap:(k:Int) ≤ (cap:Int):=by omega
       clear hx hxm
       rcases m with _ | m
       ·have HS:Hid (fixTo cur (0 + 1) = (fixTo cur 0).set 0 (clr ⟨xk,xv,xw,xm,xa⟩)):=Lib.hid (fixTo_clr HX.out (by simp [keptI]))
        go_wp2_with fail
        refine wp_region_grow (by kernel_rfl) (by kernel_rfl) ?_
        repeat (go_big_quiet_step (fail))
        refine wpQuiet_nil ?_
        rintro w3 ⟨⟨_,g3⟩,rfl⟩
        clear d1
        have c4:w3.cell? ⟨g,4,none⟩ = some (.bool xa):=(HBm.out.grown g3).cell _ _ (flatI_4 HXm.out)
        have z4:w3.frozen? ⟨g,4,none⟩ = false:=(HBm.out.grown g3).free _
        have HB3:=Lib.hid (HBm.out.grown g3)
        go_wp2_with fail
        refine ⟨⟨1,by simp,hmk,?_,?_⟩,by simp [intOf];omega⟩
        ·have:=HB3.out.set (j:=0 * 5 + 4) HLen.out (.bool false)
         rw [flatI_set _ _ _ HXm.out,← HS.out] at this
         exact this
        ·exact But.fresh (gtr HGx.out g3) ((But.refl (· = g) w3).setCell (a:=⟨g,4,none⟩) (.inl rfl) _) (fun i hi => by have:=HAt.out;omega)
       ·obtain ⟨⟨yk,yv,yw,ym,ya⟩,hy⟩:∃ y,cur[m]? = some y:=⟨_,List.getElem?_eq_getElem (by rw [HCur.out];omega)⟩
        have hym:(fixTo cur (m + 1))[m]? = some (keptI cur m ⟨yk,yv,yw,ym,ya⟩):=by rw [fixTo_get,hy];simp
        have d2:∀ q:GrW wr,q.w.cell? ⟨g,m * 5,none⟩ = some (.int .u64 yk):=GrW.cell (by have:=HBm.out.cell (m * 5) _ (flatI_0 hym);rw [keptI_key] at this;exact this)
        have hm0:(((m + 1:Nat):Int) == 0) = false:=by simp;omega
        have hm1:((m:Int) + 1 == 0) = false:=by simp;omega
        have hltm:m < k:=by omega
        have HY:=Lib.hid hy
        clear hy hym
        by_cases hyx:yk = xk
        ·have ey:(yk != xk) = false:=by simp [hyx]
         have HS:Hid (fixTo cur (m + 1 + 1) = fixTo cur (m + 1)):=Lib.hid (fixTo_same HX.out (by unfold keptI;rw [if_pos];exact ⟨by omega,by simp [HY.out,hyx]⟩))
         clear hyx
         go_wp2_with fail
         refine wp_region_grow (by kernel_rfl) (by kernel_rfl) ?_
         repeat (go_big_quiet_step (fail))
         refine wpQuiet_nil ?_
         rintro w3 ⟨⟨_,g3⟩,rfl⟩
         clear d1 d2
         go_wp2_with fail
         refine ⟨⟨m + 1 + 1,by simp,hmk,by rw [HS.out];exact HBm.out.grown g3,gtr HGx.out g3⟩,by simp [intOf];omega⟩
        ·have ey:(yk != xk) = true:=by simp [hyx]
         have HS:Hid (fixTo cur (m + 1 + 1) = (fixTo cur (m + 1)).set (m + 1) (clr ⟨xk,xv,xw,xm,xa⟩)):=Lib.hid (fixTo_clr HX.out (by unfold keptI;rw [if_neg];rintro ⟨-,h⟩;rw [Nat.add_sub_cancel,HY.out] at h;simp at h;exact hyx h))
         clear hyx
         go_wp2_with fail
         refine wp_region_grow (by kernel_rfl) (by kernel_rfl) ?_
         repeat (go_big_quiet_step (fail))
         refine wpQuiet_nil ?_
         rintro w3 ⟨⟨_,g3⟩,rfl⟩
         clear d1 d2
         have c4:w3.cell? ⟨g,(m + 1) * 5 + 4,none⟩ = some (.bool xa):=(HBm.out.grown g3).cell _ _ (flatI_4 HXm.out)
         have z4:w3.frozen? ⟨g,(m + 1) * 5 + 4,none⟩ = false:=(HBm.out.grown g3).free _
         have HB3:=Lib.hid (HBm.out.grown g3)
         go_wp2_with fail
         refine ⟨⟨(m + 1 + 1),by simp,hmk,?_,?_⟩,by simp [intOf];omega⟩
         ·have:=HB3.out.set (j:=(m + 1) * 5 + 4) HLen.out (.bool false)
          rw [flatI_set _ _ _ HXm.out,← HS.out] at this
          exact this
         ·exact But.fresh (gtr HGx.out g3) ((But.refl (· = g) w3).setCell (a:=⟨g,(m + 1) * 5 + 4,none⟩) (.inl rfl) _) (fun i hi => by have:=HAt.out;omega)
      ·have hml:¬ (m:Int) < (k:Int):=by omega
       obtain rfl:m = k:=by omega
       go_wp2_with fail
       go_ret
       exact ⟨_,rfl,by rw [HSo.out];exact .inr ⟨_,_,rfl,hkc,HBm.out.cell⟩,(fun g' hg => Nat.le_trans (m:=g) (by have h2:=HAt.out;omega) (Nat.le_of_eq (by simpa [InRow,Value.ownBlock] using hg))),HGx.out⟩
    ·have hk0:k = 0:=by
      rcases HRow.out.2 with ⟨-,h⟩ | ⟨g',cap',cur',he,-⟩
      ·exact h
      ·cases he
     omega
end Go.Proofs.YtcogckjpmmjmbaaGreat
