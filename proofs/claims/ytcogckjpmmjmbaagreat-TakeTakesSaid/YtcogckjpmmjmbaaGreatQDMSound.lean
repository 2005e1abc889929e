/- Package look: what is asked of a node; Pairs. -/
import Derived.Test.YtcogckjpmmjmbaaGreatQDMChain
import Derived.Test.YtcogckjpmmjmbaaGreatQDMSort
namespace Go.Proofs.YtcogckjpmmjmbaaGreat
open Go.ChangeShapes Go.WideShapes Go.ChangeAt Go.RowKit Go.Shelf
set_option maxRecDepth 100000
set_option linter.unusedVariables false
attribute [local go_sem] Oper.semAt_some
theorem isInsert_at (a b o k y v l q:Int) (r:Bool) (hr:decide (k = 1) = r) (w:World) :
  Calls Tryz.prog 145 #[.agg #[.int .i64 a,.int .u64 b,.int .i64 o,.int .i64 k,.int .u64 y,.int .u64 v,.int .i64 l,.int .u64 q]] w fun e w' => e = .returned (.bool r) ∧ Grown w w':=by
 have hr':(k == 1) = r:=by rw [← hr];rfl
 clear hr
 go_enter Tryz.func145,Tryz.ntmps145
 go_wp2
 go_ret
 exact ⟨rfl,by go_grown⟩
theorem hasKey_at (a b o k y v l q:Int) (r:Bool) (hr:decide (k = 1 ∧ q = 1) = r) (w:World) :
  Calls Tryz.prog 73 #[.agg #[.int .i64 a,.int .u64 b,.int .i64 o,.int .i64 k,.int .u64 y,.int .u64 v,.int .i64 l,.int .u64 q]] w fun e w' => e = .returned (.bool r) ∧ Grown w w':=by
 by_cases h1:k = 1
 ·have e1:decide (k = 1) = true:=decide_eq_true h1
  have hr':(q == 1) = r:=by rw [← hr];simp only [h1,true_and];rfl
  clear hr h1
  have HE:=Lib.hid e1
  clear e1
  go_enter Tryz.func73,Tryz.ntmps73
  go_wp2_with fail
  refine (isInsert_at a b o k y v l q true HE.out _).mono ?_;rintro e w1 ⟨rfl,g1⟩
  have c4:w1.cell? ⟨w.heap.size,7,none⟩ = some (.int .u64 q):=gcell g1 (by simp)
  go_wp2
  go_ret
  exact ⟨rfl,gtr (by go_grown) g1⟩
 ·have e1:decide (k = 1) = false:=decide_eq_false h1
  have hr':r = false:=by rw [← hr];simp [h1]
  subst hr'
  clear hr h1
  have HE:=Lib.hid e1
  clear e1
  go_enter Tryz.func73,Tryz.ntmps73
  go_wp2_with fail
  refine (isInsert_at a b o k y v l q false HE.out _).mono ?_;rintro e w1 ⟨rfl,g1⟩
  go_wp2
  go_ret
  exact ⟨rfl,gtr (by go_grown) g1⟩
theorem buckets_at (w:World) (c:Cf) (d:Wd) (ws:List Int) (n:Int) (s:St) (h:WdAt w c d ws n s):Calls Tryz.prog 71 #[.pointer (some ⟨d.x,0,none⟩)] w fun e w' => e = .returned (.int .i64 c.b) ∧ Grown w w':=by
 have k0:=h.k0
 have k1:=h.k1
 have k2:=h.k2
 have k3:=h.k3
 have k4:=h.k4
 have HU:Hid ((if zOk c.t c.b c.i c.f c.k = true then 0 else 1) = (0:Int)):=Lib.hid (if_pos h.book.ok.z)
 clear h
 go_enter Tryz.func71,Tryz.ntmps71
 go_wp2_with fail
 refine (May_at _ _ _ _ _ _ _ HU.out).mono ?_;rintro e w1 ⟨rfl,g1⟩
 replace k1:=gcell g1 k1
 go_wp2
 go_ret
 exact ⟨rfl,g1⟩
def stepP (c:Cf) (ws:List Int) (s:St) (acc:List Int × List (Int × Int)) (i:Int):List Int × List (Int × Int) :=
 if ((calAt s (opAt s i)).kind = 1 ∧ wrdOf c ws (opAt s i) = 1) ∧ opAt s i ∉ acc.1 then (addK acc.1 (opAt s i),acc.2 ++ [((calAt s (opAt s i)).key,(calAt s (opAt s i)).val)]) else acc
def foldN (c:Cf) (ws:List Int) (s:St) (l:List Int) (acc:List Int × List (Int × Int)):List Int × List (Int × Int):=l.foldl (stepP c ws s) acc
def nodesTo (c:Cf) (ws:List Int):Nat → List Int
 | 0 => []
 | k + 1 => nodesTo c ws k ++ chainI c ws k
def rawP (c:Cf) (ws:List Int) (s:St):List (Int × Int):=(foldN c ws s (nodesTo c ws c.b) ([],[])).2
theorem stepP_len (c:Cf) (ws:List Int) (s:St) (acc:List Int × List (Int × Int)) (i:Int):acc.2.length ≤ (stepP c ws s acc i).2.length:=by unfold stepP;split <;> simp
theorem foldN_len (c:Cf) (ws:List Int) (s:St):∀ (l:List Int) (acc:List Int × List (Int × Int)),acc.2.length ≤ (foldN c ws s l acc).2.length
 | [],acc => Nat.le_refl _
 | x :: r,acc => Nat.le_trans (stepP_len c ws s acc x) (foldN_len c ws s r _)
theorem foldN_app (c:Cf) (ws:List Int) (s:St) (a b:List Int) (acc:List Int × List (Int × Int)):foldN c ws s (a ++ b) acc = foldN c ws s b (foldN c ws s a acc):=by simp [foldN]
theorem nodesTo_le (c:Cf) (ws:List Int) (k:Nat):∀ m,k ≤ m → ∃ r,nodesTo c ws m = nodesTo c ws k ++ r
 | 0,h => ⟨[],by have hk:k = 0:=Nat.le_zero.1 h;subst hk;simp⟩
 | m + 1,h => by
  by_cases hk:k ≤ m
  ·obtain ⟨r,hr⟩:=nodesTo_le c ws k m hk
   exact ⟨r ++ chainI c ws m,by rw [show nodesTo c ws (m + 1) = nodesTo c ws m ++ chainI c ws m from rfl,hr,List.append_assoc]⟩
  ·have hk':k = m + 1:=by omega
   subst hk'
   exact ⟨[],by simp⟩
theorem info_pair:(Tryz.prog.info? 108).map (fun i => (i.zero,i.size,i.bytes)) = some (some (.agg #[.int .u64 0,.int .u64 0]),2,16):=by kernel_rfl
structure PrI (w0:World) (bp bt mb:Nat) (Z marks:List Nat) (v:Value) (acc:List Int × List (Int × Int)) (W:World):Prop where
 g:Grown w0 W
 box:Box W bp [v]
 tbl:W.cell? ⟨bt,0,none⟩ = some (.map (some mb))
 map:FlagAt W mb .i64 acc.1
 row:W.ownsRow w0.heap.size 108 2 v acc.2.length (flatP acc.2)
 nil:0 < acc.2.length ∨ v = .slice none 0 0
 far:∀ i,InRow v i → i ∉ Z
 mks:∀ D ∈ marks,W.heap[D]? = some (.deferred (some []))
theorem PrI.kept {w0 A C:World} {bp bt mb:Nat} {Z marks:List Nat} {v:Value} {acc:List Int × List (Int × Int)} {U:Nat → Prop} (h:PrI w0 bp bt mb Z marks v acc A) (q:Kept U A C) (h0:∀ i,U i → w0.heap.size ≤ i)
  (h1:¬ U bp) (h2:¬ U bt) (h3:¬ U mb) (h4:∀ i,InRow v i → ¬ U i) (h5:∀ D ∈ marks,¬ U D):PrI w0 bp bt mb Z marks v acc C :=
 ⟨q.fresh h.g h0,h.box.kept q h1,q.cell h2 h.tbl,h.map.kept q h3,own_kept h.row q h4,h.nil,h.far,fun D hD => (q.same D (Array.getElem?_eq_some_iff.1 (h.mks D hD)).1 (h5 D hD)).trans (h.mks D hD)⟩
theorem PrI.grown {w0 A C:World} {bp bt mb:Nat} {Z marks:List Nat} {v:Value} {acc:List Int × List (Int × Int)} (h:PrI w0 bp bt mb Z marks v acc A) (q:Grown A C):PrI w0 bp bt mb Z marks v acc C :=
 h.kept (Kept.of_grown (U:=fun _ => False) q) (fun _ f => f.elim) (fun f => f) (fun f => f) (fun f => f) (fun _ _ f => f) (fun _ _ f => f)
theorem leaves_marks {P:Program} {fn:Func} {tmps:Array Value} {R:Ending → World → Prop} {n:Nat}:∀ (marks:List Nat) (W:World),marks.Nodup → (∀ D ∈ marks,W.heap[D]? = some (.deferred (some []))) →
  (∀ W',Kept (fun i => i ∈ marks) W W' → LeavesIn Fence.wide n P fn tmps R [] .returning W') → LeavesInM Fence.wide n P fn tmps R (marks.map fun D => { target:=.collected D,args:=#[] }) .returning W
 | [],W,_,_,h => h W (Kept.refl _ _)
 | D :: ds,W,hnd,hm,h => by
  rw [List.nodup_cons] at hnd
  have hD:=hm D (by simp)
  have hk:Kept (fun i => i = D) W (W.putObj D (.deferred none)):=kept_put hD rfl rfl
  refine ⟨by simp,.inl ⟨D,_,rfl,run_takeDeferred hD,?_⟩⟩
  refine leaves_marks ds _ hnd.2 (fun E hE => ?_) (fun W' q => h W' ((hk.mono (fun i hi => by simp [hi])).trans (q.mono (fun i hi => by simp [hi]))))
  have hne:E ≠ D:=fun e => hnd.1 (e ▸ hE)
  exact (World.putObj_heap_other hne).trans (hm E (by simp [hE]))
def PairsTold (w:World) (ps:List (Int × Int)) (e:Ending) (w':World):Prop:=∃ v,e = .returned v ∧ FlatAt w' w.heap.size v (flatP ps) ps.length ∧ Grown w w'
set_option maxHeartbeats 4000000 in
theorem Pairs_at (w:World) (c:Cf) (d:Wd) (ws:List Int) (n:Int) (s:St) (h:WdAt w c d ws n s) (hI:Inv c s) (hws:WOk ws) (hfew:(rawP c ws s).length < 20) :
  Calls Tryz.prog 21 #[.pointer (some ⟨d.x,0,none⟩)] w (PairsTold w (sortP (rawP c ws s))):=by
 have HD:=Lib.hid h
 have hb64:=h.book.ok.b64
 clear h
 refine (callsIn_wide (n:=9)).1 ?_
 refine callsIn_of_wp_marks Tryz.func21 rfl trivial ?_ rfl
 simp only [Tryz.ntmps21,List.size_toArray,List.length_cons,List.length_nil,Nat.reduceAdd,Nat.reduceSub,Array.replicate_succ,Array.replicate_zero,List.push_toArray,List.append_toArray,List.nil_append,List.cons_append]
 have hmm:=flag_make (P:=Tryz.prog)
 gi_wp2_with fail
 have G0:Grown w (((w.alloc (.cells #[.slice none 0 0] 55)).alloc (.map #[] 0)).alloc (.cells #[.map (some (w.heap.size + 1))] 139)):=gtr (show Grown w (w.alloc (.cells #[.slice none 0 0] 55)) by go_grown) (gtr (grown_map _) (show Grown ((w.alloc (.cells #[.slice none 0 0] 55)).alloc (.map #[] 0)) (((w.alloc (.cells #[.slice none 0 0] 55)).alloc (.map #[] 0)).alloc (.cells #[.map (some (w.heap.size + 1))] 139)) by go_grown))
 refine ⟨trivial,?_⟩
 refine (callsIn_wide.2 (buckets_at _ c d ws n s (HD.out.grown G0))).mono ?_
 rintro e w1 ⟨rfl,g1⟩
 have G1:=gtr G0 g1
 have c0:=gcell g1 (show (((w.alloc (.cells #[.slice none 0 0] 55)).alloc (.map #[] 0)).alloc (.cells #[.map (some (w.heap.size + 1))] 139)).cell? ⟨w.heap.size + 1 + 1,0,none⟩ = some (.map (some (w.heap.size + 1))) by simp [go_sem])
 have B0:=(Box.made w [.slice none 0 0] 55).grown (gtr (grown_map _) (gtr (show Grown ((w.alloc (.cells #[.slice none 0 0] 55)).alloc (.map #[] 0)) (((w.alloc (.cells #[.slice none 0 0] 55)).alloc (.map #[] 0)).alloc (.cells #[.map (some (w.heap.size + 1))] 139)) by go_grown) g1))
 have M0:=(FlagAt.made (w.alloc (.cells #[.slice none 0 0] 55)) .i64).grown (gtr (show Grown ((w.alloc (.cells #[.slice none 0 0] 55)).alloc (.map #[] 0)) (((w.alloc (.cells #[.slice none 0 0] 55)).alloc (.map #[] 0)).alloc (.cells #[.map (some (w.heap.size + 1))] 139)) by go_grown) g1)
 have hz1:(w.alloc (.cells #[.slice none 0 0] 55)).heap.size = w.heap.size + 1:=World.size_alloc _ _
 rw [hz1] at M0
 have hlt1:=World.block_lt_of_cell? _ _ c0
 simp only at hlt1
 gi_wp2_with fail
 refine wpIn_loop (fun a' wr => ∃ (k:Nat) (marks Z:List Nat) (v:Value) (u5 u6 u11 u12 u13 u14 u15 u16 u17 u18 u19 u20 u21 u22 u23 u24 u25 u26 u27 u28 u29 u30 u31 u32 u33 u34 u35 u36 u37 u38 u39:Value),a' = { tmps:=(.pointer (some ⟨d.x,0,none⟩) :: undef :: .slice none 0 0 :: .pointer (some ⟨w.heap.size,0,none⟩) :: .pointer (some ⟨w.heap.size + 1 + 1,0,none⟩) :: u5 :: u6 :: .map (some (w.heap.size + 1)) :: .pointer (some ⟨d.x,0,none⟩) :: .int .i64 c.b :: .int .i64 (k:Int) :: u11 :: u12 :: u13 :: u14 :: u15 :: u16 :: u17 :: u18 :: u19 :: u20 :: u21 :: u22 :: u23 :: u24 :: u25 :: u26 :: u27 :: u28 :: u29 :: u30 :: u31 :: u32 :: u33 :: u34 :: u35 :: u36 :: u37 :: u38 :: u39 :: undef :: undef :: undef :: []).toArray,defers:=marks.map fun D => { target:=.collected D,args:=#[] } } ∧ k ≤ c.b ∧ marks.Nodup ∧ (∀ D ∈ marks,D ∈ Z ∧ w.heap.size + 1 + 1 < D) ∧ (∀ i ∈ Z,i < wr.heap.size) ∧ (w.heap.size ∈ Z ∧ w.heap.size + 1 ∈ Z ∧ w.heap.size + 1 + 1 ∈ Z) ∧
   PrI w w.heap.size (w.heap.size + 1 + 1) (w.heap.size + 1) Z marks v (foldN c ws s (nodesTo c ws k) ([],[])) wr ∧ w.heap.size + 1 + 1 < wr.heap.size) (fun a' _ => c.b - (intOf (a'.tmps.getD 10 undef)).toNat) ?start ?round
 case start => exact ⟨0,[],[w.heap.size,w.heap.size + 1,w.heap.size + 1 + 1],.slice none 0 0,_,_,_,_,_,_,_,_,_,_,_,_,_,_,_,_,_,_,_,_,_,_,_,_,_,_,_,_,_,_,_,rfl,Nat.zero_le _,List.nodup_nil,(fun D hD => by simp at hD),(fun i hi => by simp at hi;omega),⟨by simp,by simp,by simp⟩,⟨G1,B0,c0,M0,own_nil _ _ _ _,.inr rfl,(fun i hi => by cases hi),(fun D hD => by simp at hD)⟩,hlt1⟩
 case round =>
  rintro a' wr ⟨k,marks,Z,v,u5,u6,u11,u12,u13,u14,u15,u16,u17,u18,u19,u20,u21,u22,u23,u24,u25,u26,u27,u28,u29,u30,u31,u32,u33,u34,u35,u36,u37,u38,u39,rfl,hk,hnd,hmz,hzlt,hz,hP,hszr⟩
  have HP:=Lib.hid hP
  obtain ⟨acc,hacc⟩:∃ acc,foldN c ws s (nodesTo c ws k) ([],[]) = acc:=⟨_,rfl⟩
  have HACC:=Lib.hid hacc
  rw [hacc] at hP
  clear hacc
  have hmlt:∀ D ∈ marks,D < wr.heap.size:=fun D hD => (Array.getElem?_eq_some_iff.1 (hP.mks D hD)).1
  by_cases hkb:k < c.b
  ·have hlt:(k:Int) < (c.b:Int):=by omega
   gi_wp2_with fail
   refine ⟨trivial,?_⟩
   refine (callsIn_wide.2 (nodes_at _ _ _)).mono ?_
   rintro e w2 ⟨b1,b2,rfl,c1,c2,hb1,hb2,g2⟩
   have hP2:=hP.grown g2
   have l1:=World.block_lt_of_cell? _ _ c1
   have l2:=World.block_lt_of_cell? _ _ c2
   simp only at l1 l2
   have hsz2:=g2.2.2
   have hrw:∀ i,InRow v i → w.heap.size ≤ i ∧ i < wr.heap.size:=fun i hi => own_at hP.row hi
   gi_wp2_with fail
   refine range_law (gf:=139) (lb:=#[.pointer (some ⟨b1,0,none⟩),.pointer (some ⟨b2,0,none⟩)]) rfl (fun _ _ => rfl)
    (nodes1_iter w w2 c d ws n s HD.out hI hws hP2.g b1 b2 k c1 c2 (fun i => w.heap.size ≤ i ∧ i ≠ b1 ∧ i ≠ b2) (fun i hi => hi.1) (fun hi => hi.2.1 rfl) (fun hi => hi.2.2 rfl)) ⟨by omega,by omega,by omega⟩ (fun _ => rfl)
    (fun pre W => ∃ v,PrI w w.heap.size (w.heap.size + 1 + 1) (w.heap.size + 1) (b1 :: b2 :: w2.heap.size :: (w2.heap.size + 1) :: Z) marks v (foldN c ws s pre acc) W) (fun _ _ _ => False) ?hI (fun _ _ _ _ h _ => h)
    ⟨v,hP2.g,hP2.box,hP2.tbl,hP2.map,hP2.row,hP2.nil,fun i hi => by
     have h1:=hrw i hi
     have h2:=hP2.far i hi
     simp only [List.mem_cons,not_or]
     exact ⟨by omega,by omega,by omega,by omega,h2⟩,hP2.mks⟩ ?round2 ?done (fun _ _ _ _ h _ _ => h.elim)
   case hI =>
    rintro pre A C ⟨v,hv⟩ q
    exact ⟨v,hv.kept q (fun i hi => by omega) (by omega) (by omega) (by omega) (fun i hi e => hv.far i hi (by simp [e])) (fun D hD e => by have:=hmlt D hD;omega)⟩
   case done =>
    rintro W ⟨v,hv⟩ hdd hWr
    have hWl:=(Array.getElem?_eq_some_iff.1 hdd).1
    dsimp only
    gi_wp2_with fail
    refine ⟨⟨k + 1,w2.heap.size :: marks,b1 :: b2 :: w2.heap.size :: (w2.heap.size + 1) :: Z,v,_,_,_,_,_,_,_,_,_,_,_,_,_,_,_,_,_,_,_,_,_,_,_,_,_,_,_,_,_,_,_,rfl,by omega,?_,?_,?_,?_,?_,by omega⟩,?_⟩
    ·rw [List.nodup_cons];exact ⟨fun hD => by have:=hmlt _ hD;omega,hnd⟩
    ·intro D hD
     simp only [List.mem_cons] at hD
     rcases hD with rfl | hD
     ·exact ⟨by simp,by omega⟩
     ·exact ⟨by simp [(hmz D hD).1],(hmz D hD).2⟩
    ·intro i hi
     have hW2:w2.heap.size + 1 < W.heap.size:=hWr
     simp only [List.mem_cons] at hi
     rcases hi with rfl | rfl | rfl | rfl | hi
     ·omega
     ·omega
     ·omega
     ·omega
     ·have:=hzlt i hi;omega
    ·exact ⟨by simp [hz.1],by simp [hz.2.1],by simp [hz.2.2]⟩
    ·have hf:foldN c ws s (nodesTo c ws (k + 1)) ([],[]) = foldN c ws s (chainI c ws k) acc:=by
      rw [show nodesTo c ws (k + 1) = nodesTo c ws k ++ chainI c ws k from rfl,foldN_app,HACC.out]
     rw [hf]
     exact ⟨hv.g,hv.box,hv.tbl,hv.map,hv.row,hv.nil,hv.far,fun D hD => by
      simp only [List.mem_cons] at hD
      rcases hD with rfl | hD
      ·exact hdd
      ·exact hv.mks D hD⟩
    ·simp [intOf];omega
   case round2 =>
    rintro pre x post A W hx ⟨v,hA⟩ gA hlA
    dsimp only
    simp only [List.zip_toArray,List.zip_cons_cons,List.zip_nil_right,List.size_toArray,List.length_cons,List.length_nil,List.foldl_toArray',List.foldl_cons,List.foldl_nil,List.setIfInBounds_toArray,List.set_cons_succ,List.set_cons_zero]
    gi_wp2_with (first | (refine store_boxIn rfl 145 _ _ rfl W.heap.size _ (Box.made W [.int .i64 0,.int .u64 0,.int .i64 0,.int .i64 0,.int .u64 0,.int .u64 0,.int .i64 0,.int .u64 0] 145) (nodeL c ws s x).toArray rfl rfl rfl (by kernel_rfl) rfl ?_;intro W1 B1 q1) | fail)
    have gW:Grown W W1:=But.fresh (by go_grown) q1 (fun i hi => by subst hi;exact Nat.le_refl _)
    refine ⟨gW,fun W₂ q => ?_⟩
    have hrow:∀ i,InRow v i → w.heap.size ≤ i ∧ i < A.heap.size:=fun i hi => own_at hA.row hi
    have hfar:∀ i,InRow v i → i ≠ b1 ∧ i ≠ b2 ∧ i ≠ w2.heap.size ∧ i ≠ w2.heap.size + 1 ∧ i ∉ Z:=fun i hi => by
     have:=hA.far i hi
     simpa [List.mem_cons,not_or] using this
    have hA1:=(hA.grown gA).grown gW
    have hA2:=hA1.kept q (fun i hi => by omega) (by omega) (by omega) (by omega) (fun i hi e => (hfar i hi).2.2.2.1 e) (fun D hD e => by have:=hmlt D hD;omega)
    have hAW:=gA.2.2
    have B2:=B1.kept q (by omega)
    have hz2:w2.heap.size + 1 < W₂.heap.size:=by have:=gW.2.2;have:=q.size;omega
    obtain ⟨fa,hfa⟩:∃ fa,foldN c ws s pre acc = fa:=⟨_,rfl⟩
    have HFA:=Lib.hid hfa
    rw [hfa] at hA2
    clear hfa hA hA1
    gi_wp2_with (first | (refine load_boxIn rfl 145 _ rfl W.heap.size rfl _ _ Tryz.underlying145 rfl (by kernel_rfl) B2 ?_) | fail)
    refine ⟨trivial,?_⟩
    have hsnoc:foldN c ws s (pre ++ [x]) acc = stepP c ws s fa x:=by rw [foldN_app,HFA.out];rfl
    have HS:=Lib.hid hsnoc
    clear hsnoc
    have tb:=hA2.tbl
    have HA2:=Lib.hid hA2
    clear hA2
    by_cases hkey:(calAt s (opAt s x)).kind = 1 ∧ wrdOf c ws (opAt s x) = 1
    ·have HK:=Lib.hid (decide_eq_true hkey)
     have HKP:=Lib.hid hkey
     clear hkey
     refine (CallsIn.inRound _ (callsIn_wide.2 (hasKey_at _ _ _ _ _ _ _ _ _ HK.out _))).mono ?_
     rintro e W3 ⟨rfl,g3⟩
     have hA3:=HA2.out.grown g3
     have B3:=B2.grown g3
     replace tb:=hA3.tbl
     have e2:=B3.cell 2 _ rfl
     have e4:=B3.cell 4 _ rfl
     have e5:=B3.cell 5 _ rfl
     have hl:=flag_look (P:=Tryz.prog) hA3.map Tryz.underlying139 Tryz.underlying3 (show (zeroValue 4).run Tryz.prog W3 = .ok (.bool false) W3 by kernel_rfl) (opAt s x)
     have c0:=hA3.box.cell 0 _ rfl
     have f0:=hA3.box.free 0
     have HA3:=Lib.hid hA3
     clear hA3
     by_cases hop:opAt s x ∈ fa.1
     ·have HOP:=Lib.hid hop
      rw [decide_eq_true hop] at hl
      clear hop
      gi_wp2_with fail
      refine ⟨Kept.of_grown g3,v,?_⟩
      rw [HS.out]
      have:stepP c ws s fa x = fa:=if_neg (fun h => h.2 HOP.out)
      rw [this]
      exact HA3.out
     ·have HOP:=Lib.hid hop
      rw [decide_eq_false hop] at hl
      clear hop
      gi_wp2_with (first | (gi_at_mapUpdate;refine pause ?_) | fail)
      unfold Pause
      refine wpListIn_flag rfl _ _ _ 139 rfl _ _ Tryz.underlying139 .i64 Tryz.underlying3 (w.heap.size + 1) fa.1 (opAt s x) HA3.out.map rfl rfl rfl ?_
      intro W4 m4 q4 z4
      have hlb:=HA3.out.box.lt
      have hWs:A.heap.size ≤ W.heap.size:=gA.2.2
      replace c0:=q4.cell (by omega) c0
      replace f0:W4.frozen? ⟨w.heap.size,0,none⟩ = false:=q4.frozen f0
      replace e4:=q4.cell (by omega) e4
      replace e5:=q4.cell (by omega) e5
      have hrow4:∀ i,InRow v i → ¬ i = w.heap.size + 1:=fun i hi e => (hfar i hi).2.2.2.2 (by rw [e];exact hz.2.1)
      have r4:=own_kept HA3.out.row q4.kept hrow4
      have b4:=HA3.out.box.but q4 (by omega)
      have t4:=q4.cell (by omega) HA3.out.tbl
      have hl3:W₂.heap.size ≤ W4.heap.size:=by rw [z4];exact g3.2.2
      have R4:=Lib.hid r4
      have HZ4:=Lib.hid z4
      clear hl r4 tb z4
      gi_wp2_with (first | (gi_at_builtin;refine pause ?_) | fail)
      unfold Pause
      have ga:Grown W4 (W4.alloc (.cells #[.int .u64 (calAt s (opAt s x)).key,.int .u64 (calAt s (opAt s x)).val] 108)):=by go_grown
      refine wpListIn_add rfl _ _ 55 rfl w.heap.size 108 (.agg #[.int .u64 0,.int .u64 0]) 2 16 Tryz.underlying55 info_pair rfl (by decide) v fa.2.length (flatP fa.2) (own_grown R4.out ga) _ 1 0 [.int .u64 (calAt s (opAt s x)).key,.int .u64 (calAt s (opAt s x)).val] (.inr ⟨by decide,W4.heap.size,1,rfl,Nat.zero_le _,fun j u hj => ?news⟩) rfl (by simp [Value.oneCell']) ?h63 (by decide) ?hbase rfl rfl ?_
      case news =>
       rcases j with _ | _ | j
       ·cases hj;simp [go_sem]
       ·cases hj;simp [go_sem]
       ·cases hj
      case h63 =>
       have h1:fa.2.length ≤ (rawP c ws s).length:=by
        rw [← HFA.out]
        have h2:(foldN c ws s (nodesTo c ws (k + 1)) ([],[])).2.length ≤ (rawP c ws s).length:=by
         obtain ⟨r,hr⟩:=nodesTo_le c ws (k + 1) c.b (by omega)
         unfold rawP;rw [hr,foldN_app];exact foldN_len _ _ _ _ _
        refine Nat.le_trans ?_ h2
        rw [show nodesTo c ws (k + 1) = nodesTo c ws k ++ chainI c ws k from rfl,foldN_app,HACC.out,hx,foldN_app]
        exact foldN_len _ _ _ _ _
       omega
      case hbase => have:=HA3.out.g.2.2;simp;omega
      intro v' W5 r5 fr5 q5
      obtain ⟨g',cap',hv'⟩:=own_open r5 (by omega)
      have hne:¬ InRow v w.heap.size:=fun e => (hfar _ e).2.2.2.2 hz.1
      have hnt:¬ InRow v (w.heap.size + 1 + 1):=fun e => (hfar _ e).2.2.2.2 hz.2.2
      have hnm:¬ InRow v (w.heap.size + 1):=fun e => (hfar _ e).2.2.2.2 hz.2.1
      replace c0:=q5.cell hne (gcell ga c0)
      replace f0:W5.frozen? ⟨w.heap.size,0,none⟩ = false:=q5.frozen ((ga.2.1 _).trans f0)
      have B5:=(b4.grown ga).but q5 hne
      have t5:=q5.cell hnt (gcell ga t4)
      have m5:=(m4.grown ga).but q5 hnm
      clear e4 e5
      rw [hv']
      gi_wp2_with fail
      rw [← hv']
      have q6:But (fun i => (InRow v i ∨ i = w.heap.size) ∨ i = w.heap.size + 1) W₂ (W5.setCell ⟨w.heap.size,0,none⟩ v') :=
       ((((But.of_grown g3).trans (q4.mono (fun _ h => .inr h))).trans (But.of_grown ga)).trans (q5.mono (fun _ h => .inl (.inl h)))).setCell (.inl (.inl (.inr rfl))) _
      have qs:But (fun i => i = w.heap.size) W5 (W5.setCell ⟨w.heap.size,0,none⟩ v'):=But.setCell (S:=fun i => i = w.heap.size) (But.refl _ W5) (a:=⟨w.heap.size,0,none⟩) (.inl rfl) v'
      have hG5:Grown w (W5.setCell ⟨w.heap.size,0,none⟩ v'):=But.fresh HA2.out.g q6 (fun i hi => by
       rcases hi with (hi | rfl) | rfl
       ·exact (hrow i hi).1
       ·exact Nat.le_refl _
       ·omega)
      have hne':¬ InRow v' w.heap.size:=fun e => by
       rcases fr5 with e1 | ⟨g,e1,h1⟩
       ·exact hne (by unfold InRow at e ⊢;rw [← e1];exact e)
       ·unfold InRow at e;rw [e1] at e;cases e;simp at h1;omega
      refine ⟨q6.kept.mono ?_,v',?_⟩
      ·have hA0:w.heap.size + 1 + 1 < A.heap.size:=by omega
       rintro i ((hi | rfl) | rfl)
       ·have h1:=hrow i hi
        have h2:=hfar i hi
        exact ⟨⟨h1.1,h2.1,h2.2.1⟩,h1.2,h2.2.2.1,h2.2.2.2.1⟩
       ·exact ⟨⟨by omega,by omega,by omega⟩,by omega,by omega,by omega⟩
       ·exact ⟨⟨by omega,by omega,by omega⟩,by omega,by omega,by omega⟩
      ·rw [HS.out]
       have hst:stepP c ws s fa x = (addK fa.1 (opAt s x),fa.2 ++ [((calAt s (opAt s x)).key,(calAt s (opAt s x)).val)]):=if_pos ⟨HKP.out,HOP.out⟩
       rw [hst]
       refine ⟨hG5,B5.set (j:=0) (by simp) v',qs.cell (by omega) t5,m5.but qs (by omega),?_,.inl (by simp),?_,fun D hD => ?_⟩
       ·have h1:=own_kept r5 qs.kept (fun g hg e => hne' (e ▸ hg))
        simpa [flatP] using h1
       ·intro i hi
        rcases fr5 with e1 | ⟨g,e1,h1⟩
        ·exact HA2.out.far i (by unfold InRow at hi ⊢;rw [← e1];exact hi)
        ·unfold InRow at hi;rw [e1] at hi;cases hi
         simp at h1
         have hZ:=hzlt
         simp only [List.mem_cons,not_or]
         exact ⟨by omega,by omega,by omega,by omega,fun hm => by have:=hZ i hm;omega⟩
       ·have h1:=HA2.out.mks D hD
        exact (q6.kept.same D (Array.getElem?_eq_some_iff.1 h1).1 (fun hi => by
         have h2:=(hmz D hD).2
         rcases hi with (hi | rfl) | rfl
         ·exact (hfar D hi).2.2.2.2 (hmz D hD).1
         ·omega
         ·omega)).trans h1
    ·have HK:=Lib.hid (decide_eq_false hkey)
     have HKP:=Lib.hid hkey
     clear hkey
     refine (CallsIn.inRound _ (callsIn_wide.2 (hasKey_at _ _ _ _ _ _ _ _ _ HK.out _))).mono ?_
     rintro e W3 ⟨rfl,g3⟩
     gi_wp2_with fail
     refine ⟨Kept.of_grown g3,v,?_⟩
     rw [HS.out]
     have:stepP c ws s fa x = fa:=if_neg (fun h => HKP.out h.1)
     rw [this]
     exact HA2.out.grown g3
  ·have hlt:¬ (k:Int) < (c.b:Int):=by omega
   have hkc:k = c.b:=by omega
   have cP:=hP.box.cell 0 _ rfl
   have hraw:acc.2 = rawP c ws s:=by unfold rawP;rw [← hkc,HACC.out]
   have HR:=Lib.hid hraw
   have HKC:=Lib.hid hkc
   have HPP:=Lib.hid hP
   clear hraw hkc hP HP
   gi_wp2_with fail
   refine ⟨trivial,?_⟩
   refine (callsIn_wide.2 (sortStable_at wr w.heap.size _ v acc.2 rfl (by rw [HR.out];exact hfew) HPP.out.row HPP.out.nil)).mono ?_
   rintro e w3 ⟨rfl,r3,q3⟩
   have hne:∀ i,InRow v i → i ≠ w.heap.size:=fun i hi e => HPP.out.far i hi (by rw [e];exact hz.1)
   have cP3:=q3.cell (fun h => hne _ h rfl) cP
   have hG3:Grown w w3:=But.fresh HPP.out.g q3 (fun i hi => (own_at HPP.out.row hi).1)
   have hM3:∀ D ∈ marks,w3.heap[D]? = some (.deferred (some [])):=fun D hD => (q3.kept.same D (hmlt D hD) (fun hi => HPP.out.far D hi (hmz D hD).1)).trans (HPP.out.mks D hD)
   clear cP
   gi_wp2_with fail
   refine leaves_marks marks w3 hnd hM3 (fun W' q => ?_)
   have hG4:=q.fresh hG3 (fun i hi => by have:=(hmz i hi).2;omega)
   have r4:=own_kept r3 q (fun i hi hm => HPP.out.far i hi (hmz i hm).1)
   refine ⟨_,results_tmp rfl _ _ _,v,rfl,?_,hG4⟩
   have hl:(sortP (rawP c ws s)).length = acc.2.length:=by rw [sortP_len,HR.out]
   rw [hl,← HR.out]
   exact own_flat r4 HPP.out.nil
end Go.Proofs.YtcogckjpmmjmbaaGreat
namespace Go.Proofs.YtcogckjpmmjmbaaGreat
open Go.ChangeShapes Go.WideShapes Go.ChangeAt Go.RowKit
set_option maxRecDepth 100000
set_option linter.unusedVariables false
structure Ps where
 key:Int
 nodes:List Int
 ops:List Int
 opens:List Int
structure Nd where
 num:Int
 next:Int
 op:Int
 cal:Cal
 word:Int
def Nd.l (x:Nd):List Value:=[.int .i64 x.num,.int .u64 x.next,.int .i64 x.op,.int .i64 x.cal.kind,.int .u64 x.cal.key,.int .u64 x.cal.val,.int .i64 x.cal.lim,.int .u64 x.word]
def ndOf (c:Cf) (ws:List Int) (s:St) (i:Int):Nd:=⟨i,refOf c ws i,opAt s i,calAt s (opAt s i),wrdOf c ws (opAt s i)⟩
theorem ndOf_l (c:Cf) (ws:List Int) (s:St) (i:Int):(ndOf c ws s i).l = nodeL c ws s i:=rfl
def bearsV (p:Ps) (x:Nd):Bool :=
 if x.num ∈ p.nodes ∨ x.cal.key < p.key then false
 else if x.op ∈ p.ops ∨ 2 ≤ x.word then true
 else !(x.next % 2 == 1) && !(decide (x.word = 1) && decide (x.cal.key ∈ p.opens))
def passV (p:Ps) (x:Nd):Ps:=⟨x.cal.key,addK p.nodes x.num,addK p.ops x.op,if 2 ≤ x.word then p.opens else addK p.opens x.cal.key⟩
structure PassAt (w:World) (b m1 m2 m3:Nat) (p:Ps):Prop where
 box:Box w b [.int .u64 p.key,.map (some m1),.map (some m2),.map (some m3)]
 f1:FlagAt w m1 .i64 p.nodes
 f2:FlagAt w m2 .i64 p.ops
 f3:FlagAt w m3 .u64 p.opens
 d12:m1 ≠ m2
 d13:m1 ≠ m3
 d23:m2 ≠ m3
theorem PassAt.b1 {w:World} {b m1 m2 m3:Nat} {p:Ps} (h:PassAt w b m1 m2 m3 p):b ≠ m1 ∧ b ≠ m2 ∧ b ≠ m3 :=
 ⟨h.f1.ne (h.box.cell 0 _ rfl),h.f2.ne (h.box.cell 0 _ rfl),h.f3.ne (h.box.cell 0 _ rfl)⟩
theorem PassAt.kept {U:Nat → Prop} {w w':World} {b m1 m2 m3:Nat} {p:Ps} (h:PassAt w b m1 m2 m3 p) (q:Kept U w w') (h0:¬ U b) (h1:¬ U m1) (h2:¬ U m2) (h3:¬ U m3):PassAt w' b m1 m2 m3 p :=
 ⟨h.box.kept q h0,h.f1.kept q h1,h.f2.kept q h2,h.f3.kept q h3,h.d12,h.d13,h.d23⟩
theorem PassAt.grown {w w':World} {b m1 m2 m3:Nat} {p:Ps} (h:PassAt w b m1 m2 m3 p) (q:Grown w w'):PassAt w' b m1 m2 m3 p :=
 h.kept (Kept.of_grown (U:=fun _ => False) q) (fun f => f) (fun f => f) (fun f => f) (fun f => f)
theorem zFlag (w:World):(zeroValue 4).run Tryz.prog w = .ok (.bool false) w:=by kernel_rfl
set_option maxHeartbeats 4000000 in
theorem bears_at (w:World) (b m1 m2 m3:Nat) (p:Ps) (h:PassAt w b m1 m2 m3 p) (x:Nd) (hn0:0 ≤ x.next) (hn1:x.next ≤ 18446744073709551615) :
  Calls Tryz.prog 152 #[.pointer (some ⟨b,0,none⟩),.agg x.l.toArray] w fun e w' => e = .returned (.bool (bearsV p x)) ∧ Grown w w':=by
 obtain ⟨num,next,op,⟨kd,ky,vl,lm⟩,wd⟩:=x
 obtain ⟨key,nk,ok,pk⟩:=p
 simp only at hn0 hn1
 unfold Nd.l
 simp only
 obtain ⟨V,hV⟩:∃ V,bearsV ⟨key,nk,ok,pk⟩ ⟨num,next,op,⟨kd,ky,vl,lm⟩,wd⟩ = V:=⟨_,rfl⟩
 rw [hV]
 have hV':(if num ∈ nk ∨ ky < key then false else if op ∈ ok ∨ 2 ≤ wd then true else !(next % 2 == 1) && !(decide (wd = 1) && decide (ky ∈ pk))) = V:=hV
 clear hV
 have gN:Grown w (w.alloc (.cells #[.int .i64 num,.int .u64 next,.int .i64 op,.int .i64 kd,.int .u64 ky,.int .u64 vl,.int .i64 lm,.int .u64 wd] 145)):=by go_grown
 have HF:=Lib.hid (h.grown gN)
 have cq0:(w.alloc (.cells #[.int .i64 num,.int .u64 next,.int .i64 op,.int .i64 kd,.int .u64 ky,.int .u64 vl,.int .i64 lm,.int .u64 wd] 145)).cell? ⟨w.heap.size,0,none⟩ = some (.int .i64 num):=by simp [go_sem]
 have cq1:(w.alloc (.cells #[.int .i64 num,.int .u64 next,.int .i64 op,.int .i64 kd,.int .u64 ky,.int .u64 vl,.int .i64 lm,.int .u64 wd] 145)).cell? ⟨w.heap.size,1,none⟩ = some (.int .u64 next):=by simp [go_sem]
 have cq2:(w.alloc (.cells #[.int .i64 num,.int .u64 next,.int .i64 op,.int .i64 kd,.int .u64 ky,.int .u64 vl,.int .i64 lm,.int .u64 wd] 145)).cell? ⟨w.heap.size,2,none⟩ = some (.int .i64 op):=by simp [go_sem]
 have cq4:(w.alloc (.cells #[.int .i64 num,.int .u64 next,.int .i64 op,.int .i64 kd,.int .u64 ky,.int .u64 vl,.int .i64 lm,.int .u64 wd] 145)).cell? ⟨w.heap.size,4,none⟩ = some (.int .u64 ky):=by simp [go_sem]
 have cq7:(w.alloc (.cells #[.int .i64 num,.int .u64 next,.int .i64 op,.int .i64 kd,.int .u64 ky,.int .u64 vl,.int .i64 lm,.int .u64 wd] 145)).cell? ⟨w.heap.size,7,none⟩ = some (.int .u64 wd):=by simp [go_sem]
 have cp0:=HF.out.box.cell 0 _ rfl
 have cp1:=HF.out.box.cell 1 _ rfl
 have cp2:=HF.out.box.cell 2 _ rfl
 have cp3:=HF.out.box.cell 3 _ rfl
 clear h
 have HVV:=Lib.hid hV'
 clear hV'
 go_enter Tryz.func152,Tryz.ntmps152
 go_wp2_with fail
 obtain ⟨w1,hw1⟩:∃ w1,w.alloc (.cells #[.int .i64 num,.int .u64 next,.int .i64 op,.int .i64 kd,.int .u64 ky,.int .u64 vl,.int .i64 lm,.int .u64 wd] 145) = w1:=⟨_,rfl⟩
 rw [hw1] at HF gN cq0 cq1 cq2 cq4 cq7 cp0 cp1 cp2 cp3 ⊢
 clear hw1
 generalize w.heap.size = nb at cq0 cq1 cq2 cq4 cq7 ⊢
 have q0:∀ g:GrW w1,g.w.cell? ⟨nb,0,none⟩ = some (.int .i64 num):=GrW.cell cq0
 have q1:∀ g:GrW w1,g.w.cell? ⟨nb,1,none⟩ = some (.int .u64 next):=GrW.cell cq1
 have q2:∀ g:GrW w1,g.w.cell? ⟨nb,2,none⟩ = some (.int .i64 op):=GrW.cell cq2
 have q4:∀ g:GrW w1,g.w.cell? ⟨nb,4,none⟩ = some (.int .u64 ky):=GrW.cell cq4
 have q7:∀ g:GrW w1,g.w.cell? ⟨nb,7,none⟩ = some (.int .u64 wd):=GrW.cell cq7
 have p0:∀ g:GrW w1,g.w.cell? ⟨b,0,none⟩ = some (.int .u64 key):=GrW.cell cp0
 have p1:∀ g:GrW w1,g.w.cell? ⟨b,1,none⟩ = some (.map (some m1)):=GrW.cell cp1
 have p2:∀ g:GrW w1,g.w.cell? ⟨b,2,none⟩ = some (.map (some m2)):=GrW.cell cp2
 have p3:∀ g:GrW w1,g.w.cell? ⟨b,3,none⟩ = some (.map (some m3)):=GrW.cell cp3
 clear cq0 cq1 cq2 cq4 cq7 cp0 cp1 cp2 cp3
 have GN:=Lib.hid gN
 clear gN
 by_cases h1:num ∈ nk
 ·have Hl1:=Lib.hid h1
  have l1:∀ g:GrW w1,(Instr.lookup 139 (.map (some m1)) (.int .i64 num) false).run Tryz.prog g.w = .ok (.bool true) g.w:=fun g => by rw [flag_look (HF.out.f1.grown (gtr (Grown.refl _) g.gr)) Tryz.underlying139 Tryz.underlying3 (zFlag _),decide_eq_true Hl1.out]
  refine wp_region_grow (by kernel_rfl) (by kernel_rfl) ?_
  repeat (go_big_quiet_step (fail))
  refine wpQuiet_nil ?_
  rintro w2 ⟨⟨_,g2⟩,rfl⟩
  go_wp2_with fail
  go_ret
  exact ⟨ret_bool (by rw [← HVV.out];simp [Hl1.out]),gtr GN.out g2⟩
 ·have Hl1:=Lib.hid h1
  have l1:∀ g:GrW w1,(Instr.lookup 139 (.map (some m1)) (.int .i64 num) false).run Tryz.prog g.w = .ok (.bool false) g.w:=fun g => by rw [flag_look (HF.out.f1.grown (gtr (Grown.refl _) g.gr)) Tryz.underlying139 Tryz.underlying3 (zFlag _),decide_eq_false Hl1.out]
  by_cases h2:ky < key
  ·have HE:=Lib.hid h2
   have e2:decide (ky < key) = true:=decide_eq_true h2
   refine wp_region_grow (by kernel_rfl) (by kernel_rfl) ?_
   repeat (go_big_quiet_step (fail))
   refine wpQuiet_nil ?_
   rintro w2 ⟨⟨_,g2⟩,rfl⟩
   go_wp2_with fail
   go_ret
   exact ⟨ret_bool (by rw [← HVV.out];simp [Hl1.out,HE.out]),gtr GN.out g2⟩
  ·have HE:=Lib.hid h2
   have e2:decide (ky < key) = false:=decide_eq_false h2
   by_cases h3:op ∈ ok
   ·have Hl2:=Lib.hid h3
    refine wp_region_grow (by kernel_rfl) (by kernel_rfl) ?_
    repeat (go_big_quiet_step (fail))
    refine wpQuiet_nil ?_
    rintro w2 ⟨⟨_,g2⟩,rfl⟩
    clear l1
    replace q0:∀ g:GrW w2,g.w.cell? ⟨nb,0,none⟩ = some (.int .i64 num):=GrW.cell (q0 ⟨w2,g2⟩)
    replace q1:∀ g:GrW w2,g.w.cell? ⟨nb,1,none⟩ = some (.int .u64 next):=GrW.cell (q1 ⟨w2,g2⟩)
    replace q2:∀ g:GrW w2,g.w.cell? ⟨nb,2,none⟩ = some (.int .i64 op):=GrW.cell (q2 ⟨w2,g2⟩)
    replace q4:∀ g:GrW w2,g.w.cell? ⟨nb,4,none⟩ = some (.int .u64 ky):=GrW.cell (q4 ⟨w2,g2⟩)
    replace q7:∀ g:GrW w2,g.w.cell? ⟨nb,7,none⟩ = some (.int .u64 wd):=GrW.cell (q7 ⟨w2,g2⟩)
    replace p0:∀ g:GrW w2,g.w.cell? ⟨b,0,none⟩ = some (.int .u64 key):=GrW.cell (p0 ⟨w2,g2⟩)
    replace p1:∀ g:GrW w2,g.w.cell? ⟨b,1,none⟩ = some (.map (some m1)):=GrW.cell (p1 ⟨w2,g2⟩)
    replace p2:∀ g:GrW w2,g.w.cell? ⟨b,2,none⟩ = some (.map (some m2)):=GrW.cell (p2 ⟨w2,g2⟩)
    replace p3:∀ g:GrW w2,g.w.cell? ⟨b,3,none⟩ = some (.map (some m3)):=GrW.cell (p3 ⟨w2,g2⟩)
    have HG:=Lib.hid g2
    clear g2
    have l2:∀ g:GrW w2,(Instr.lookup 139 (.map (some m2)) (.int .i64 op) false).run Tryz.prog g.w = .ok (.bool true) g.w:=fun g => by rw [flag_look (HF.out.f2.grown (gtr HG.out g.gr)) Tryz.underlying139 Tryz.underlying3 (zFlag _),decide_eq_true Hl2.out]
    go_wp2_with fail
    refine wp_region_grow (by kernel_rfl) (by kernel_rfl) ?_
    repeat (go_big_quiet_step (((go_at_call 211;exact grcall (Over_any _ _)))))
    refine wpQuiet_nil ?_
    rintro w3 ⟨⟨_,g3⟩,rfl⟩
    go_wp2_with fail
    go_ret
    exact ⟨ret_bool (by rw [← HVV.out];simp [Hl1.out,HE.out,Hl2.out]),gtr GN.out (gtr HG.out g3)⟩
   ·have Hl2:=Lib.hid h3
    refine wp_region_grow (by kernel_rfl) (by kernel_rfl) ?_
    repeat (go_big_quiet_step (fail))
    refine wpQuiet_nil ?_
    rintro w2 ⟨⟨_,g2⟩,rfl⟩
    clear l1
    replace q0:∀ g:GrW w2,g.w.cell? ⟨nb,0,none⟩ = some (.int .i64 num):=GrW.cell (q0 ⟨w2,g2⟩)
    replace q1:∀ g:GrW w2,g.w.cell? ⟨nb,1,none⟩ = some (.int .u64 next):=GrW.cell (q1 ⟨w2,g2⟩)
    replace q2:∀ g:GrW w2,g.w.cell? ⟨nb,2,none⟩ = some (.int .i64 op):=GrW.cell (q2 ⟨w2,g2⟩)
    replace q4:∀ g:GrW w2,g.w.cell? ⟨nb,4,none⟩ = some (.int .u64 ky):=GrW.cell (q4 ⟨w2,g2⟩)
    replace q7:∀ g:GrW w2,g.w.cell? ⟨nb,7,none⟩ = some (.int .u64 wd):=GrW.cell (q7 ⟨w2,g2⟩)
    replace p0:∀ g:GrW w2,g.w.cell? ⟨b,0,none⟩ = some (.int .u64 key):=GrW.cell (p0 ⟨w2,g2⟩)
    replace p1:∀ g:GrW w2,g.w.cell? ⟨b,1,none⟩ = some (.map (some m1)):=GrW.cell (p1 ⟨w2,g2⟩)
    replace p2:∀ g:GrW w2,g.w.cell? ⟨b,2,none⟩ = some (.map (some m2)):=GrW.cell (p2 ⟨w2,g2⟩)
    replace p3:∀ g:GrW w2,g.w.cell? ⟨b,3,none⟩ = some (.map (some m3)):=GrW.cell (p3 ⟨w2,g2⟩)
    have HG:=Lib.hid g2
    clear g2
    have l2:∀ g:GrW w2,(Instr.lookup 139 (.map (some m2)) (.int .i64 op) false).run Tryz.prog g.w = .ok (.bool false) g.w:=fun g => by rw [flag_look (HF.out.f2.grown (gtr HG.out g.gr)) Tryz.underlying139 Tryz.underlying3 (zFlag _),decide_eq_false Hl2.out]
    go_wp2_with fail
    by_cases h4:2 ≤ wd
    ·have HE4:=Lib.hid h4
     have e4:decide (2 ≤ wd) = true:=decide_eq_true h4
     refine wp_region_grow (by kernel_rfl) (by kernel_rfl) ?_
     repeat (go_big_quiet_step (((go_at_call 211;exact grcall (Over_any _ _)))))
     refine wpQuiet_nil ?_
     rintro w3 ⟨⟨_,g3⟩,rfl⟩
     go_wp2_with fail
     go_ret
     exact ⟨ret_bool (by rw [← HVV.out];simp [Hl1.out,HE.out,Hl2.out,HE4.out]),gtr GN.out (gtr HG.out g3)⟩
    ·have HE4:=Lib.hid h4
     have e4:decide (2 ≤ wd) = false:=decide_eq_false h4
     by_cases h5:next % 2 = 1
     ·have HE5:=Lib.hid h5
      have e5:(next % 2 == 1) = true:=by simpa using h5
      refine wp_region_grow (by kernel_rfl) (by kernel_rfl) ?_
      repeat (go_big_quiet_step (((go_at_call 211;exact grcall (Over_any _ _)))))
      refine wpQuiet_nil ?_
      rintro w3 ⟨⟨_,g3⟩,rfl⟩
      clear l2 e4
      replace q0:∀ g:GrW w3,g.w.cell? ⟨nb,0,none⟩ = some (.int .i64 num):=GrW.cell (q0 ⟨w3,g3⟩)
      replace q1:∀ g:GrW w3,g.w.cell? ⟨nb,1,none⟩ = some (.int .u64 next):=GrW.cell (q1 ⟨w3,g3⟩)
      replace q2:∀ g:GrW w3,g.w.cell? ⟨nb,2,none⟩ = some (.int .i64 op):=GrW.cell (q2 ⟨w3,g3⟩)
      replace q4:∀ g:GrW w3,g.w.cell? ⟨nb,4,none⟩ = some (.int .u64 ky):=GrW.cell (q4 ⟨w3,g3⟩)
      replace q7:∀ g:GrW w3,g.w.cell? ⟨nb,7,none⟩ = some (.int .u64 wd):=GrW.cell (q7 ⟨w3,g3⟩)
      replace p0:∀ g:GrW w3,g.w.cell? ⟨b,0,none⟩ = some (.int .u64 key):=GrW.cell (p0 ⟨w3,g3⟩)
      replace p1:∀ g:GrW w3,g.w.cell? ⟨b,1,none⟩ = some (.map (some m1)):=GrW.cell (p1 ⟨w3,g3⟩)
      replace p2:∀ g:GrW w3,g.w.cell? ⟨b,2,none⟩ = some (.map (some m2)):=GrW.cell (p2 ⟨w3,g3⟩)
      replace p3:∀ g:GrW w3,g.w.cell? ⟨b,3,none⟩ = some (.map (some m3)):=GrW.cell (p3 ⟨w3,g3⟩)
      replace HG:=Lib.hid (gtr HG.out g3)
      clear g3
      go_wp2_with fail
      refine wp_region_grow (by kernel_rfl) (by kernel_rfl) ?_
      repeat (go_big_quiet_step (((go_at_call 212;exact grcall (Marked_any _ _ hn0 hn1)))))
      refine wpQuiet_nil ?_
      rintro w4 ⟨⟨_,g4⟩,rfl⟩
      go_wp2_with fail
      go_ret
      exact ⟨ret_bool (by rw [← HVV.out];simp [Hl1.out,HE.out,Hl2.out,HE4.out,HE5.out]),gtr GN.out (gtr HG.out g4)⟩
     ·have HE5:=Lib.hid h5
      have e5:(next % 2 == 1) = false:=by simpa using h5
      refine wp_region_grow (by kernel_rfl) (by kernel_rfl) ?_
      repeat (go_big_quiet_step (((go_at_call 211;exact grcall (Over_any _ _)))))
      refine wpQuiet_nil ?_
      rintro w3 ⟨⟨_,g3⟩,rfl⟩
      clear l2 e4
      replace q0:∀ g:GrW w3,g.w.cell? ⟨nb,0,none⟩ = some (.int .i64 num):=GrW.cell (q0 ⟨w3,g3⟩)
      replace q1:∀ g:GrW w3,g.w.cell? ⟨nb,1,none⟩ = some (.int .u64 next):=GrW.cell (q1 ⟨w3,g3⟩)
      replace q2:∀ g:GrW w3,g.w.cell? ⟨nb,2,none⟩ = some (.int .i64 op):=GrW.cell (q2 ⟨w3,g3⟩)
      replace q4:∀ g:GrW w3,g.w.cell? ⟨nb,4,none⟩ = some (.int .u64 ky):=GrW.cell (q4 ⟨w3,g3⟩)
      replace q7:∀ g:GrW w3,g.w.cell? ⟨nb,7,none⟩ = some (.int .u64 wd):=GrW.cell (q7 ⟨w3,g3⟩)
      replace p0:∀ g:GrW w3,g.w.cell? ⟨b,0,none⟩ = some (.int .u64 key):=GrW.cell (p0 ⟨w3,g3⟩)
      replace p1:∀ g:GrW w3,g.w.cell? ⟨b,1,none⟩ = some (.map (some m1)):=GrW.cell (p1 ⟨w3,g3⟩)
      replace p2:∀ g:GrW w3,g.w.cell? ⟨b,2,none⟩ = some (.map (some m2)):=GrW.cell (p2 ⟨w3,g3⟩)
      replace p3:∀ g:GrW w3,g.w.cell? ⟨b,3,none⟩ = some (.map (some m3)):=GrW.cell (p3 ⟨w3,g3⟩)
      replace HG:=Lib.hid (gtr HG.out g3)
      clear g3
      by_cases h6:wd = 1
      ·have HE6:=Lib.hid h6
       have e6:(wd == 1) = true:=by simpa using h6
       by_cases h7:ky ∈ pk
       ·have Hl3:=Lib.hid h7
        have l3:∀ g:GrW w3,(Instr.lookup 224 (.map (some m3)) (.int .u64 ky) false).run Tryz.prog g.w = .ok (.bool true) g.w:=fun g => by rw [flag_look (HF.out.f3.grown (gtr HG.out g.gr)) Tryz.underlying224 Tryz.underlying46 (zFlag _),decide_eq_true Hl3.out]
        go_wp2_with fail
        refine wp_region_grow (by kernel_rfl) (by kernel_rfl) ?_
        repeat (go_big_quiet_step (((go_at_call 212;exact grcall (Marked_any _ _ hn0 hn1)))))
        refine wpQuiet_nil ?_
        rintro w4 ⟨⟨_,g4⟩,rfl⟩
        go_wp2_with fail
        go_ret
        exact ⟨ret_bool (by rw [← HVV.out];simp [Hl1.out,Hl2.out,HE6.out,Hl3.out]),gtr GN.out (gtr HG.out g4)⟩
       ·have Hl3:=Lib.hid h7
        have l3:∀ g:GrW w3,(Instr.lookup 224 (.map (some m3)) (.int .u64 ky) false).run Tryz.prog g.w = .ok (.bool false) g.w:=fun g => by rw [flag_look (HF.out.f3.grown (gtr HG.out g.gr)) Tryz.underlying224 Tryz.underlying46 (zFlag _),decide_eq_false Hl3.out]
        go_wp2_with fail
        refine wp_region_grow (by kernel_rfl) (by kernel_rfl) ?_
        repeat (go_big_quiet_step (((go_at_call 212;exact grcall (Marked_any _ _ hn0 hn1)))))
        refine wpQuiet_nil ?_
        rintro w4 ⟨⟨_,g4⟩,rfl⟩
        go_wp2_with fail
        go_ret
        exact ⟨ret_bool (by rw [← HVV.out];simp [Hl1.out,HE.out,Hl2.out,HE5.out,HE6.out,Hl3.out]),gtr GN.out (gtr HG.out g4)⟩
      ·have HE6:=Lib.hid h6
       have e6:(wd == 1) = false:=by simpa using h6
       go_wp2_with fail
       refine wp_region_grow (by kernel_rfl) (by kernel_rfl) ?_
       repeat (go_big_quiet_step (((go_at_call 212;exact grcall (Marked_any _ _ hn0 hn1)))))
       refine wpQuiet_nil ?_
       rintro w4 ⟨⟨_,g4⟩,rfl⟩
       go_wp2_with fail
       go_ret
       exact ⟨ret_bool (by rw [← HVV.out];simp [Hl1.out,HE.out,Hl2.out,HE5.out,HE6.out]),gtr GN.out (gtr HG.out g4)⟩
def PsOwn (b m1 m2 m3:Nat):Nat → Prop:=fun i => i = b ∨ i = m1 ∨ i = m2 ∨ i = m3
set_option maxHeartbeats 4000000 in
theorem pass_at (w:World) (b m1 m2 m3:Nat) (p:Ps) (h:PassAt w b m1 m2 m3 p) (x:Nd) :
  Calls Tryz.prog 153 #[.pointer (some ⟨b,0,none⟩),.agg x.l.toArray] w fun e w' => e = .returned (.tuple #[]) ∧ PassAt w' b m1 m2 m3 (passV p x) ∧ But (PsOwn b m1 m2 m3) w w':=by
 obtain ⟨num,next,op,⟨kd,ky,vl,lm⟩,wd⟩:=x
 obtain ⟨key,nk,ok,pk⟩:=p
 unfold Nd.l
 simp only
 have gN:Grown w (w.alloc (.cells #[.int .i64 num,.int .u64 next,.int .i64 op,.int .i64 kd,.int .u64 ky,.int .u64 vl,.int .i64 lm,.int .u64 wd] 145)):=by go_grown
 have hb:=h.b1
 have hlt:=h.box.lt
 have l1:=h.f1.lt
 have l2:=h.f2.lt
 have l3:=h.f3.lt
 have h':=h.grown gN
 have BN:=Box.made w [.int .i64 num,.int .u64 next,.int .i64 op,.int .i64 kd,.int .u64 ky,.int .u64 vl,.int .i64 lm,.int .u64 wd] 145
 have cp0:=h'.box.cell 0 _ rfl
 have fp0:=h'.box.free 0
 have gA:Grown (w.setCell ⟨b,0,none⟩ (.int .u64 ky)) ((w.setCell ⟨b,0,none⟩ (.int .u64 ky)).alloc (.cells #[.int .i64 num,.int .u64 next,.int .i64 op,.int .i64 kd,.int .u64 ky,.int .u64 vl,.int .i64 lm,.int .u64 wd] 145)):=by go_grown
 have qA:But (fun i => i = b) w (w.setCell ⟨b,0,none⟩ (.int .u64 ky)):=But.setCell (S:=fun i => i = b) (But.refl _ w) (a:=⟨b,0,none⟩) (.inl rfl) _
 have HB:=Lib.hid ((h.box.set (j:=0) (by simp) (.int .u64 ky)).grown gA)
 have HF1:=Lib.hid ((h.f1.but qA (by omega)).grown gA)
 have HF2:=Lib.hid ((h.f2.but qA (by omega)).grown gA)
 have HF3:=Lib.hid ((h.f3.but qA (by omega)).grown gA)
 have hzA:(w.setCell ⟨b,0,none⟩ (.int .u64 ky)).heap.size = w.heap.size:=by simp
 have BN:=Box.made (w.setCell ⟨b,0,none⟩ (.int .u64 ky)) [.int .i64 num,.int .u64 next,.int .i64 op,.int .i64 kd,.int .u64 ky,.int .u64 vl,.int .i64 lm,.int .u64 wd] 145
 rw [hzA] at BN
 have HN:=Lib.hid BN
 have QQ:=Lib.hid ((qA.mono (T:=PsOwn b m1 m2 m3) (fun i hi => .inl hi)).trans (But.of_grown gA))
 have d12:=h.d12
 have d13:=h.d13
 have d23:=h.d23
 clear h h' BN hzA qA gA
 go_enter Tryz.func153,Tryz.ntmps153
 go_wp2_with fail
 clear cp0 fp0
 generalize hnb:w.heap.size = nb at *
 have HNB:=Lib.hid hnb
 clear hnb
 generalize ((w.setCell ⟨b,0,none⟩ (.int .u64 ky)).alloc (.cells #[.int .i64 num,.int .u64 next,.int .i64 op,.int .i64 kd,.int .u64 ky,.int .u64 vl,.int .i64 lm,.int .u64 wd] 145)) = w1 at *
 refine wp_region_planb (fun q => q = m1) (.one [0,1,2,3,4,5] 6 (.fin [])) (by kernel_rfl) (by kernel_rfl) (by kernel_rfl) ?_
 intro v2 g2
 have d0:∀ q:ButW (fun q => q = m1) v2,q.w.cell? ⟨b,1,none⟩ = some (.map (some m1)):=ButW.cell (by omega) ((HB.out.grown g2).cell 1 _ rfl)
 have d1:∀ q:ButW (fun q => q = m1) v2,q.w.cell? ⟨nb,0,none⟩ = some (.int .i64 num):=ButW.cell (by omega) ((HN.out.grown g2).cell 0 _ rfl)
 refine plan_one ?_
 simp only [nths,nth,List.map_cons,List.map_nil,List.getD_cons_zero,List.getD_cons_succ]
 repeat go_big_quiet_step (fail)
 clear d0 d1
 refine wpQuiet_nil ?_
 refine wpList_flag rfl _ _ _ 139 rfl _ _ Tryz.underlying139 .i64 Tryz.underlying3 m1 nk num (HF1.out.grown g2) rfl rfl rfl ?_
 intro y2 fl2 q2 z2
 have Z2:=Lib.hid z2
 clear z2
 go_wp2_with fail
 refine nxt_but q2 (plan_fin ?_)
 simp only [nths,List.map_nil]
 refine wpQuiet_nil ?_
 go_wp2_with fail
 have Q2:But (PsOwn b m1 m2 m3) w y2:=(QQ.out.trans (But.of_grown g2)).trans (q2.mono (fun i hi => .inr (.inl hi)))
 replace QQ:=Lib.hid Q2
 replace HB:=Lib.hid ((HB.out.grown g2).but q2 (by omega))
 replace HN:=Lib.hid ((HN.out.grown g2).but q2 (by omega))
 replace HF1:=Lib.hid fl2
 replace HF2:=Lib.hid ((HF2.out.grown g2).but q2 (by omega))
 replace HF3:=Lib.hid ((HF3.out.grown g2).but q2 (by omega))
 clear g2 q2 fl2 Q2
 refine wp_region_planb (fun q => q = m2) (.one [0,1,2,3,4,5] 6 (.fin [])) (by kernel_rfl) (by kernel_rfl) (by kernel_rfl) ?_
 intro v3 g3
 have d0:∀ q:ButW (fun q => q = m2) v3,q.w.cell? ⟨b,2,none⟩ = some (.map (some m2)):=ButW.cell (by omega) ((HB.out.grown g3).cell 2 _ rfl)
 have d1:∀ q:ButW (fun q => q = m2) v3,q.w.cell? ⟨nb,2,none⟩ = some (.int .i64 op):=ButW.cell (by omega) ((HN.out.grown g3).cell 2 _ rfl)
 refine plan_one ?_
 simp only [nths,nth,List.map_cons,List.map_nil,List.getD_cons_zero,List.getD_cons_succ]
 repeat go_big_quiet_step (fail)
 clear d0 d1
 refine wpQuiet_nil ?_
 refine wpList_flag rfl _ _ _ 139 rfl _ _ Tryz.underlying139 .i64 Tryz.underlying3 m2 ok op (HF2.out.grown g3) rfl rfl rfl ?_
 intro y3 fl3 q3 z3
 have Z3:=Lib.hid z3
 clear z3
 go_wp2_with fail
 refine nxt_but q3 (plan_fin ?_)
 simp only [nths,List.map_nil]
 refine wpQuiet_nil ?_
 have s7:=((HN.out.grown g3).but q3 (by omega)).cell 7 _ rfl
 have Q3:But (PsOwn b m1 m2 m3) w y3:=(QQ.out.trans (But.of_grown g3)).trans (q3.mono (fun i hi => .inr (.inr (.inl hi))))
 replace QQ:=Lib.hid Q3
 replace HB:=Lib.hid ((HB.out.grown g3).but q3 (by omega))
 replace HN:=Lib.hid ((HN.out.grown g3).but q3 (by omega))
 replace HF1:=Lib.hid ((HF1.out.grown g3).but q3 (by omega))
 replace HF2:=Lib.hid fl3
 replace HF3:=Lib.hid ((HF3.out.grown g3).but q3 (by omega))
 clear g3 q3 fl3 Q3
 go_wp2_with fail
 refine (Over_any _ _).mono ?_;rintro e y4 ⟨rfl,g4⟩
 replace QQ:=Lib.hid (QQ.out.trans (But.of_grown g4))
 replace HB:=Lib.hid (HB.out.grown g4)
 replace HN:=Lib.hid (HN.out.grown g4)
 replace HF1:=Lib.hid (HF1.out.grown g4)
 replace HF2:=Lib.hid (HF2.out.grown g4)
 replace HF3:=Lib.hid (HF3.out.grown g4)
 clear g4 s7
 by_cases hov:2 ≤ wd
 ·have e4:decide (2 ≤ wd) = true:=decide_eq_true hov
  have HOV:=Lib.hid hov
  clear hov
  go_wp2_with fail
  go_end0
  refine ⟨rfl,?_,QQ.out⟩
  rw [show passV ⟨key,nk,ok,pk⟩ ⟨num,next,op,⟨kd,ky,vl,lm⟩,wd⟩ = ⟨ky,addK nk num,addK ok op,pk⟩ by unfold passV;simp only [if_pos HOV.out]]
  exact ⟨HB.out,HF1.out,HF2.out,HF3.out,d12,d13,d23⟩
 ·have e4:decide (2 ≤ wd) = false:=decide_eq_false hov
  have HOV:=Lib.hid hov
  clear hov
  go_wp2_with fail
  refine wp_region_planb (fun q => q = m3) (.one [0,1,2,3,4,5,6] 7 (.fin [])) (by kernel_rfl) (by kernel_rfl) (by kernel_rfl) ?_
  intro v5 g5
  have d0:∀ q:ButW (fun q => q = m3) v5,q.w.cell? ⟨b,3,none⟩ = some (.map (some m3)):=ButW.cell (by omega) ((HB.out.grown g5).cell 3 _ rfl)
  have d1:∀ q:ButW (fun q => q = m3) v5,q.w.cell? ⟨nb,4,none⟩ = some (.int .u64 ky):=ButW.cell (by omega) ((HN.out.grown g5).cell 4 _ rfl)
  refine plan_one ?_
  simp only [nths,nth,List.map_cons,List.map_nil,List.getD_cons_zero,List.getD_cons_succ]
  repeat go_big_quiet_step (fail)
  clear d0 d1
  refine wpQuiet_nil ?_
  refine wpList_flag rfl _ _ _ 224 rfl _ _ Tryz.underlying224 .u64 Tryz.underlying46 m3 pk ky (HF3.out.grown g5) rfl rfl rfl ?_
  intro y5 fl5 q5 z5
  have Z5:=Lib.hid z5
  clear z5
  go_wp2_with fail
  refine nxt_but q5 (plan_fin ?_)
  simp only [nths,List.map_nil]
  refine wpQuiet_nil ?_
  have Q5:But (PsOwn b m1 m2 m3) w y5:=(QQ.out.trans (But.of_grown g5)).trans (q5.mono (fun i hi => .inr (.inr (.inr hi))))
  replace QQ:=Lib.hid Q5
  replace HB:=Lib.hid ((HB.out.grown g5).but q5 (by omega))
  replace HN:=Lib.hid ((HN.out.grown g5).but q5 (by omega))
  replace HF1:=Lib.hid ((HF1.out.grown g5).but q5 (by omega))
  replace HF2:=Lib.hid ((HF2.out.grown g5).but q5 (by omega))
  replace HF3:=Lib.hid fl5
  clear g5 q5 fl5 Q5
  go_wp2_with fail
  go_end0
  refine ⟨rfl,?_,QQ.out⟩
  rw [show passV ⟨key,nk,ok,pk⟩ ⟨num,next,op,⟨kd,ky,vl,lm⟩,wd⟩ = ⟨ky,addK nk num,addK ok op,addK pk ky⟩ by unfold passV;simp only [if_neg (show ¬ 2 ≤ wd by have:=HOV.out;omega)]]
  exact ⟨HB.out,HF1.out,HF2.out,HF3.out,d12,d13,d23⟩
end Go.Proofs.YtcogckjpmmjmbaaGreat
namespace Go.Proofs.YtcogckjpmmjmbaaGreat
open Go.ChangeShapes Go.WideShapes Go.ChangeAt Go.RowKit Go.Shelf
set_option maxRecDepth 100000
set_option linter.unusedVariables false
attribute [local go_sem] Oper.semAt_some
def fitV (c:Cf) (b:Int) (p:Ps) (x:Nd):Bool:=decide (x.cal.kind = 1) && decide (zBucket x.cal.key c.b = b) && bearsV p x
def sndL (c:Cf) (ws:List Int) (s:St) (b:Int):Ps → List Int → Bool
 | _,[] => true
 | p,i :: r => if fitV c b p (ndOf c ws s i) = true then sndL c ws s b (passV p (ndOf c ws s i)) r else false
def ps0:Ps:=⟨0,[],[],[]⟩
def sndB (c:Cf) (ws:List Int) (s:St) (b:Int):Bool:=sndL c ws s b ps0 (chainI c ws b)
structure SdI (w0:World) (rb b m1 m2 m3:Nat) (p:Ps) (W:World):Prop where
 g:Grown w0 W
 res:Box W rb [.bool false]
 ps:PassAt W b m1 m2 m3 p
theorem SdI.kept {U:Nat → Prop} {w0 A C:World} {rb b m1 m2 m3:Nat} {p:Ps} (h:SdI w0 rb b m1 m2 m3 p A) (q:Kept U A C) (h0:∀ i,U i → w0.heap.size ≤ i) (h1:¬ U rb) (h2:∀ i,PsOwn b m1 m2 m3 i → ¬ U i):SdI w0 rb b m1 m2 m3 p C :=
 ⟨q.fresh h.g h0,h.res.kept q h1,h.ps.kept q (h2 _ (.inl rfl)) (h2 _ (.inr (.inl rfl))) (h2 _ (.inr (.inr (.inl rfl)))) (h2 _ (.inr (.inr (.inr rfl))))⟩
theorem SdI.grown {w0 A C:World} {rb b m1 m2 m3:Nat} {p:Ps} (h:SdI w0 rb b m1 m2 m3 p A) (q:Grown A C):SdI w0 rb b m1 m2 m3 p C :=
 h.kept (Kept.of_grown (U:=fun _ => False) q) (fun _ f => f.elim) (fun f => f) (fun _ _ f => f)
def sndW (w:World) (x:Value) (b:Int):World :=
 (((((((w.alloc (.cells #[x] 29)).alloc (.cells #[.int .i64 b] 3)).alloc (.cells #[.bool false] 4)).alloc (.map #[] 0)).alloc (.map #[] 0)).alloc (.map #[] 0)).alloc
  (.cells #[.int .u64 0,.map (some (w.heap.size + 1 + 1 + 1)),.map (some (w.heap.size + 1 + 1 + 1 + 1)),.map (some (w.heap.size + 1 + 1 + 1 + 1 + 1))] 226))
theorem snd_start (w:World) (x:Value) (b:Int):(sndW w x b).cell? ⟨w.heap.size,0,none⟩ = some x ∧ (sndW w x b).cell? ⟨w.heap.size + 1,0,none⟩ = some (.int .i64 b) ∧ (sndW w x b).heap.size = w.heap.size + 1 + 1 + 1 + 1 + 1 + 1 + 1 ∧
  SdI w (w.heap.size + 1 + 1) (w.heap.size + 1 + 1 + 1 + 1 + 1 + 1) (w.heap.size + 1 + 1 + 1) (w.heap.size + 1 + 1 + 1 + 1) (w.heap.size + 1 + 1 + 1 + 1 + 1) ps0 (sndW w x b):=by
 obtain ⟨A1,h1⟩:∃ A,(w.alloc (.cells #[x] 29)).alloc (.cells #[.int .i64 b] 3) = A:=⟨_,rfl⟩
 obtain ⟨A2,h2⟩:∃ A,A1.alloc (.cells #[.bool false] 4) = A:=⟨_,rfl⟩
 obtain ⟨A3,h3⟩:∃ A,A2.alloc (.map #[] 0) = A:=⟨_,rfl⟩
 obtain ⟨A4,h4⟩:∃ A,A3.alloc (.map #[] 0) = A:=⟨_,rfl⟩
 obtain ⟨A5,h5⟩:∃ A,A4.alloc (.map #[] 0) = A:=⟨_,rfl⟩
 obtain ⟨A6,h6⟩:∃ A,A5.alloc (.cells #[.int .u64 0,.map (some (w.heap.size + 1 + 1 + 1)),.map (some (w.heap.size + 1 + 1 + 1 + 1)),.map (some (w.heap.size + 1 + 1 + 1 + 1 + 1))] 226) = A:=⟨_,rfl⟩
 have hW:sndW w x b = A6:=by unfold sndW;rw [h1,h2,h3,h4,h5,h6]
 rw [hW]
 have z1:A1.heap.size = w.heap.size + 1 + 1:=by rw [← h1];simp
 have z2:A2.heap.size = w.heap.size + 1 + 1 + 1:=by rw [← h2];simp [z1]
 have z3:A3.heap.size = w.heap.size + 1 + 1 + 1 + 1:=by rw [← h3];simp [z2]
 have z4:A4.heap.size = w.heap.size + 1 + 1 + 1 + 1 + 1:=by rw [← h4];simp [z3]
 have z5:A5.heap.size = w.heap.size + 1 + 1 + 1 + 1 + 1 + 1:=by rw [← h5];simp [z4]
 have z6:A6.heap.size = w.heap.size + 1 + 1 + 1 + 1 + 1 + 1 + 1:=by rw [← h6];simp [z5]
 have g1:Grown w A1:=by rw [← h1];go_grown
 have g2:Grown A1 A2:=by rw [← h2];go_grown
 have g3:Grown A2 A3:=by rw [← h3];exact grown_map _
 have g4:Grown A3 A4:=by rw [← h4];exact grown_map _
 have g5:Grown A4 A5:=by rw [← h5];exact grown_map _
 have g6:Grown A5 A6:=by rw [← h6];go_grown
 have g26:Grown A2 A6:=gtr g3 (gtr g4 (gtr g5 g6))
 have c0:A1.cell? ⟨w.heap.size,0,none⟩ = some x:=by rw [← h1];simp [go_sem]
 have c1:A1.cell? ⟨w.heap.size + 1,0,none⟩ = some (.int .i64 b):=by rw [← h1];simp [go_sem]
 have B2:=Box.made A1 [.bool false] 4
 rw [z1] at B2
 rw [show A1.alloc (.cells [Value.bool false].toArray 4) = A2 from h2] at B2
 have F1:=FlagAt.made A2 .i64
 rw [h3,z2] at F1
 have F2:=FlagAt.made A3 .i64
 rw [h4,z3] at F2
 have F3:=FlagAt.made A4 .u64
 rw [h5,z4] at F3
 have B6:=Box.made A5 [.int .u64 0,.map (some (w.heap.size + 1 + 1 + 1)),.map (some (w.heap.size + 1 + 1 + 1 + 1)),.map (some (w.heap.size + 1 + 1 + 1 + 1 + 1))] 226
 rw [z5] at B6
 rw [show A5.alloc (.cells [Value.int .u64 0,.map (some (w.heap.size + 1 + 1 + 1)),.map (some (w.heap.size + 1 + 1 + 1 + 1)),.map (some (w.heap.size + 1 + 1 + 1 + 1 + 1))].toArray 226) = A6 from h6] at B6
 exact ⟨gcell (gtr g2 g26) c0,gcell (gtr g2 g26) c1,z6,gtr g1 (gtr g2 g26),B2.grown g26,⟨B6,F1.grown (gtr g4 (gtr g5 g6)),F2.grown (gtr g5 g6),F3.grown g6,by omega,by omega,by omega⟩⟩
set_option maxHeartbeats 4000000 in
theorem soundBucket_at (w:World) (c:Cf) (d:Wd) (ws:List Int) (n:Int) (s:St) (h:WdAt w c d ws n s) (hI:Inv c s) (hws:WOk ws) (b:Int) :
  Calls Tryz.prog 83 #[.pointer (some ⟨d.x,0,none⟩),.int .i64 b] w fun e w' => e = .returned (.bool (sndB c ws s b)) ∧ Grown w w':=by
 have HD:=Lib.hid h
 have k1:=h.k1
 have hdx:=h.xlt
 clear h
 obtain ⟨V,hV⟩:∃ V,sndB c ws s b = V:=⟨_,rfl⟩
 rw [hV]
 have HV:=Lib.hid hV
 clear hV
 refine (callsIn_wide (n:=9)).1 ?_
 refine callsIn_of_wp_marks Tryz.func83 rfl trivial ?_ rfl
 simp only [Tryz.ntmps83,List.size_toArray,List.length_cons,List.length_nil,Nat.reduceAdd,Nat.reduceSub,Array.replicate_succ,Array.replicate_zero,List.push_toArray,List.append_toArray,List.nil_append,List.cons_append]
 have hmm:=flag_make (P:=Tryz.prog)
 gi_wp2_with fail
 refine ⟨trivial,?_⟩
 obtain ⟨s0,s1,sz,hS⟩:=snd_start w (.pointer (some ⟨d.x,0,none⟩)) b
 obtain ⟨A6,hA6⟩:∃ A,sndW w (.pointer (some ⟨d.x,0,none⟩)) b = A:=⟨_,rfl⟩
 rw [hA6] at s0 s1 sz hS
 unfold sndW at hA6
 rw [hA6]
 clear hA6 hmm
 refine (callsIn_wide.2 (nodes_at _ _ _)).mono ?_
 rintro e w1 ⟨b1,b2,rfl,c1,c2,hb1,hb2,g1⟩
 have l1:=World.block_lt_of_cell? _ _ c1
 have l2:=World.block_lt_of_cell? _ _ c2
 simp only at l1 l2
 rw [sz] at hb1 hb2
 have hS1:=hS.grown g1
 have s0':=gcell g1 s0
 have s1':=gcell g1 s1
 clear s0 s1 hS
 have hlw:=hS1.g.2.2
 gi_wp2_with fail
 refine range_law (gf:=139) (lb:=#[.pointer (some ⟨b1,0,none⟩),.pointer (some ⟨b2,0,none⟩)]) rfl (fun _ _ => rfl)
  (nodes1_iter w w1 c d ws n s HD.out hI hws hS1.g b1 b2 b c1 c2 (fun i => w.heap.size ≤ i ∧ i ≠ b1 ∧ i ≠ b2) (fun i hi => hi.1) (fun hi => hi.2.1 rfl) (fun hi => hi.2.2 rfl)) ⟨by omega,by omega,by omega⟩ (fun _ => rfl)
  (fun pre W => ∃ p,SdI w (w.heap.size + 1 + 1) (w.heap.size + 1 + 1 + 1 + 1 + 1 + 1) (w.heap.size + 1 + 1 + 1) (w.heap.size + 1 + 1 + 1 + 1) (w.heap.size + 1 + 1 + 1 + 1 + 1) p W ∧
   W.cell? ⟨w.heap.size,0,none⟩ = some (.pointer (some ⟨d.x,0,none⟩)) ∧ W.cell? ⟨w.heap.size + 1,0,none⟩ = some (.int .i64 b) ∧ ∀ rest,chainI c ws b = pre ++ rest → V = sndL c ws s b p rest)
  (fun co _ W => co = .ret ∧ Grown w W ∧ Box W (w.heap.size + 1 + 1) [.bool false] ∧ V = false) ?hI ?hIx ⟨ps0,hS1,s0',s1',fun rest hr => by rw [← HV.out];unfold sndB;rw [hr];simp⟩ ?round ?done ?stop
 case hI =>
  rintro pre A C ⟨p,hp,a0,a1,hr⟩ q
  exact ⟨p,hp.kept q (fun i hi => by omega) (by omega) (fun i hi e => by unfold PsOwn at hi;omega),q.cell (by omega) a0,q.cell (by omega) a1,hr⟩
 case hIx =>
  rintro co pre A C ⟨hc,hg,hb,hv⟩ q
  exact ⟨hc,q.fresh hg (fun i hi => by omega),hb.kept q (by omega),hv⟩
 case done =>
  rintro W ⟨p,hp,-,-,hr⟩ hdd hWr
  have hv:V = true:=by rw [hr [] (by simp)];rfl
  have c9:=hp.res.cell 0 _ rfl
  have f9:=hp.res.free 0
  have HP:=Lib.hid hp
  have HVT:=Lib.hid hv
  clear hr hp hv
  dsimp only
  gi_wp2_with fail
  have hset:But (fun i => i = w.heap.size + 1 + 1) W (W.setCell ⟨w.heap.size + 1 + 1,0,none⟩ (.bool true)):=But.setCell (S:=fun i => i = w.heap.size + 1 + 1) (But.refl _ W) (a:=⟨w.heap.size + 1 + 1,0,none⟩) (.inl rfl) _
  have c10:(W.setCell ⟨w.heap.size + 1 + 1,0,none⟩ (.bool true)).cell? ⟨w.heap.size + 1 + 1,0,none⟩ = some (.bool true):=World.cell?_setCell_same _ _ _ c9
  refine leaves_marks [w1.heap.size] _ (by simp) (fun D hD => ?_) (fun W' q => ?_)
  ·simp only [List.mem_singleton] at hD
   subst hD
   exact (hset.kept.same _ (Array.getElem?_eq_some_iff.1 hdd).1 (by omega)).trans hdd
  ·have c11:=q.cell (by simp;omega) c10
   refine ⟨.bool true,by simp [results,Tryz.results83,go_sem,c11],by rw [HVT.out],?_⟩
   exact q.fresh (But.fresh HP.out.g hset (fun i hi => by omega)) (fun i hi => by simp at hi;omega)
 case stop =>
  rintro co pre W - ⟨rfl,hg,hb,hv⟩ hdd hWr
  dsimp only
  gi_wp2_with fail
  have c10:=hb.cell 0 _ rfl
  refine leaves_marks [w1.heap.size] _ (by simp) (fun D hD => ?_) (fun W' q => ?_)
  ·simp only [List.mem_singleton] at hD
   subst hD
   exact hdd
  ·have c11:=q.cell (by simp;omega) c10
   refine ⟨.bool false,by simp [results,Tryz.results83,go_sem,c11],by rw [hv],?_⟩
   exact q.fresh hg (fun i hi => by simp at hi;omega)
 case round =>
  rintro pre x post A W hx ⟨p,hA,a0,a1,hr⟩ gA hlA
  have HX:=Lib.hid hx
  have HRr:=Lib.hid hr
  clear hx hr
  dsimp only
  simp only [List.zip_toArray,List.zip_cons_cons,List.zip_nil_right,List.size_toArray,List.length_cons,List.length_nil,List.foldl_toArray',List.foldl_cons,List.foldl_nil,List.setIfInBounds_toArray,List.set_cons_succ,List.set_cons_zero]
  gi_wp2_with (first | (refine store_boxIn rfl 145 _ _ rfl W.heap.size _ (Box.made W [.int .i64 0,.int .u64 0,.int .i64 0,.int .i64 0,.int .u64 0,.int .u64 0,.int .i64 0,.int .u64 0] 145) (nodeL c ws s x).toArray rfl rfl rfl (by kernel_rfl) rfl ?_;intro W1 B1 q1) | fail)
  have gW:Grown W W1:=But.fresh (by go_grown) q1 (fun i hi => by subst hi;exact Nat.le_refl _)
  refine ⟨gW,fun W₂ q => ?_⟩
  have hAW:=gA.2.2
  have hA2:=((hA.grown gA).grown gW).kept q (fun i hi => by omega) (by omega) (fun i hi e => by unfold PsOwn at hi;omega)
  have a0':=q.cell (by omega) (gcell (gtr gA gW) a0)
  have a1':=q.cell (by omega) (gcell (gtr gA gW) a1)
  have B2:=B1.kept q (by omega)
  have hstep:V = if fitV c b p (ndOf c ws s x) = true then sndL c ws s b (passV p (ndOf c ws s x)) post else false:=HRr.out (x :: post) HX.out
  have hnx:=hws (nxtI c x)
  have hnn:(ndOf c ws s x).next = rd ws (nxtI c x):=rfl
  rw [← hnn] at hnx
  have hpost:∀ rest,chainI c ws b = (pre ++ [x]) ++ rest → rest = post:=fun rest h => by
   rw [HX.out] at h;simpa using h.symm
  rw [← ndOf_l] at B2
  simp only [← ndOf_l]
  have HPost:=Lib.hid hpost
  have HSt:=Lib.hid hstep
  clear hpost hstep
  gi_wp2_with fail
  generalize ndOf c ws s x = y at *
  obtain ⟨num,next,op,⟨kd,ky,vl,lm⟩,wd⟩:=y
  unfold Nd.l at B2
  simp only at B2 hnx HSt
  clear hnn
  have HNx:=Lib.hid hnx
  have HB2:=Lib.hid B2
  have HA2:=Lib.hid hA2
  have HG2:=Lib.hid hA2.g
  have hW2:W.heap.size < W₂.heap.size:=B2.lt
  clear hnx B2 hA2
  refine wpIn_region_planR (.one [0] 1 (.one [2,3,4,5,6,7,8,9,10,11,13] 12 (.one [14,15,16,17] 18 (.fin [19,20])))) (by kernel_rfl) (by kernel_rfl) (by kernel_rfl) (by kernel_rfl) ?_
  intro w5 g5
  have e0:∀ g:GrW w5,g.w.cell? ⟨W.heap.size,0,none⟩ = some (.int .i64 num):=GrW.cell ((HB2.out.grown g5).cell 0 _ rfl)
  have e1:∀ g:GrW w5,g.w.cell? ⟨W.heap.size,1,none⟩ = some (.int .u64 next):=GrW.cell ((HB2.out.grown g5).cell 1 _ rfl)
  have e2:∀ g:GrW w5,g.w.cell? ⟨W.heap.size,2,none⟩ = some (.int .i64 op):=GrW.cell ((HB2.out.grown g5).cell 2 _ rfl)
  have e3:∀ g:GrW w5,g.w.cell? ⟨W.heap.size,3,none⟩ = some (.int .i64 kd):=GrW.cell ((HB2.out.grown g5).cell 3 _ rfl)
  have e4:∀ g:GrW w5,g.w.cell? ⟨W.heap.size,4,none⟩ = some (.int .u64 ky):=GrW.cell ((HB2.out.grown g5).cell 4 _ rfl)
  have e5:∀ g:GrW w5,g.w.cell? ⟨W.heap.size,5,none⟩ = some (.int .u64 vl):=GrW.cell ((HB2.out.grown g5).cell 5 _ rfl)
  have e6:∀ g:GrW w5,g.w.cell? ⟨W.heap.size,6,none⟩ = some (.int .i64 lm):=GrW.cell ((HB2.out.grown g5).cell 6 _ rfl)
  have e7:∀ g:GrW w5,g.w.cell? ⟨W.heap.size,7,none⟩ = some (.int .u64 wd):=GrW.cell ((HB2.out.grown g5).cell 7 _ rfl)
  have r0:∀ g:GrW w5,g.w.cell? ⟨w.heap.size,0,none⟩ = some (.pointer (some ⟨d.x,0,none⟩)):=GrW.cell (gcell g5 a0')
  have r1:∀ g:GrW w5,g.w.cell? ⟨w.heap.size + 1,0,none⟩ = some (.int .i64 b):=GrW.cell (gcell g5 a1')
  have rk:∀ g:GrW w5,g.w.cell? ⟨d.x,1,none⟩ = some (.int .i64 c.b):=GrW.cell (gcell (gtr HG2.out g5) k1)
  refine plan_one ?_
  simp only [nths,nth,List.map_cons,List.map_nil,List.getD_cons_zero,List.getD_cons_succ]
  repeat go_big_quiet_step (fail)
  refine wpQuiet_nil ?_
  go_wp2_with fail
  by_cases hk:kd = 1
  ·have HK:=Lib.hid (decide_eq_true hk)
   clear hk
   refine (isInsert_at num next op kd ky vl lm wd true HK.out _).mono ?_;rintro e u6 ⟨rfl,g6⟩
   go_wp2_with fail
   refine nxt_stay g6 (plan_one ?_)
   simp only [nths,nth,List.map_cons,List.map_nil,List.getD_cons_zero,List.getD_cons_succ]
   repeat go_big_quiet_step (fail)
   refine wpQuiet_nil ?_
   by_cases hb:zBucket ky c.b = b
   ·have hbq:(zBucket ky c.b != b) = false:=by simpa using hb
    have HBq:=Lib.hid (decide_eq_true hb)
    clear hb
    go_wp2_with fail
    refine (Bucket_any ky c.b _).mono ?_;rintro e u7 ⟨rfl,g7⟩
    go_wp2_with fail
    refine nxt_stay (gtr g6 g7) (plan_one ?_)
    simp only [nths,nth,List.map_cons,List.map_nil,List.getD_cons_zero,List.getD_cons_succ]
    repeat go_big_quiet_step (fail)
    refine wpQuiet_nil ?_
    obtain ⟨V8,hV8⟩:∃ v,bearsV p ⟨num,next,op,⟨kd,ky,vl,lm⟩,wd⟩ = v:=⟨_,rfl⟩
    have HV8:=Lib.hid hV8
    clear hV8
    cases V8
    ·go_wp2_with fail
     refine (bears_at _ _ _ _ _ p ((HA2.out.grown (gtr g5 (gtr g6 g7))).ps) ⟨num,next,op,⟨kd,ky,vl,lm⟩,wd⟩ HNx.out.1 HNx.out.2).mono ?_;rintro e u8 ⟨rfl,g8⟩
     rw [HV8.out]
     go_wp2_with fail
     refine nxt_stay (gtr g6 (gtr g7 g8)) (plan_fin ?_)
     simp only [nths,nth,List.map_cons,List.map_nil,List.getD_cons_zero,List.getD_cons_succ]
     repeat go_big_quiet_step (fail)
     refine wpQuiet_nil ?_
     clear e0 e1 e2 e3 e4 e5 e6 e7 r0 r1 rk
     have G:=gtr g5 (gtr g6 (gtr g7 g8))
     have hres:=(HA2.out.grown G).res
     have c4:=hres.cell 0 _ rfl
     have f4:=hres.free 0
     gi_wp2_with fail
     have hB4:=hres.set (j:=0) (by simp) (.bool false)
     have qS:But (fun i => i = w.heap.size + 1 + 1) W₂ (u8.setCell ⟨w.heap.size + 1 + 1,0,none⟩ (.bool false)):=But.setCell (S:=fun i => i = w.heap.size + 1 + 1) (But.of_grown G) (a:=⟨w.heap.size + 1 + 1,0,none⟩) (.inl rfl) _
     refine ⟨qS.kept.mono (fun i hi => ?_),rfl,But.fresh HG2.out qS (fun i hi => by subst hi;omega),hB4,?_⟩
     ·subst hi;exact ⟨⟨by omega,by omega,by omega⟩,by omega,by omega,by omega⟩
     ·rw [HSt.out]
      exact if_neg (by unfold fitV;simp only [HK.out,HBq.out,HV8.out,Bool.and_false];decide)
    ·go_wp2_with fail
     refine (bears_at _ _ _ _ _ p ((HA2.out.grown (gtr g5 (gtr g6 g7))).ps) ⟨num,next,op,⟨kd,ky,vl,lm⟩,wd⟩ HNx.out.1 HNx.out.2).mono ?_;rintro e u8 ⟨rfl,g8⟩
     rw [HV8.out]
     go_wp2_with fail
     refine nxt_stay (gtr g6 (gtr g7 g8)) (plan_fin ?_)
     simp only [nths,nth,List.map_cons,List.map_nil,List.getD_cons_zero,List.getD_cons_succ]
     repeat go_big_quiet_step (fail)
     refine wpQuiet_nil ?_
     clear e0 e1 e2 e3 e4 e5 e6 e7 r0 r1 rk
     have G:=gtr g5 (gtr g6 (gtr g7 g8))
     have hA8:=HA2.out.grown G
     have B8:=HB2.out.grown G
     gi_wp2_with (first | (refine load_boxIn rfl 145 _ rfl W.heap.size rfl _ _ Tryz.underlying145 rfl (by kernel_rfl) B8 ?_) | fail)
     refine ⟨trivial,?_⟩
     refine (CallsIn.inRound _ (callsIn_wide.2 (pass_at u8 _ _ _ _ p hA8.ps ⟨num,next,op,⟨kd,ky,vl,lm⟩,wd⟩))).mono ?_
     rintro e u9 ⟨rfl,hp9,q9⟩
     gi_wp2_with fail
     have q29:=(But.of_grown (S:=PsOwn (w.heap.size + 1 + 1 + 1 + 1 + 1 + 1) (w.heap.size + 1 + 1 + 1) (w.heap.size + 1 + 1 + 1 + 1) (w.heap.size + 1 + 1 + 1 + 1 + 1)) G).trans q9
     have hown:∀ i,PsOwn (w.heap.size + 1 + 1 + 1 + 1 + 1 + 1) (w.heap.size + 1 + 1 + 1) (w.heap.size + 1 + 1 + 1 + 1) (w.heap.size + 1 + 1 + 1 + 1 + 1) i → w.heap.size + 1 + 1 < i ∧ i < w.heap.size + 1 + 1 + 1 + 1 + 1 + 1 + 1:=fun i hi => by unfold PsOwn at hi;omega
     refine ⟨q29.kept.mono (fun i hi => ?_),passV p ⟨num,next,op,⟨kd,ky,vl,lm⟩,wd⟩,⟨?_,?_,hp9⟩,?_,?_,fun rest hrest => ?_⟩
     ·have:=hown i hi;exact ⟨⟨by omega,by omega,by omega⟩,by omega,by omega,by omega⟩
     ·exact But.fresh HG2.out q29 (fun i hi => by have:=hown i hi;omega)
     ·exact HA2.out.res.but q29 (fun hi => by have:=hown _ hi;omega)
     ·exact q29.cell (fun hi => by have:=hown _ hi;omega) a0'
     ·exact q29.cell (fun hi => by have:=hown _ hi;omega) a1'
     ·rw [HPost.out rest hrest,HSt.out]
      exact if_pos (by unfold fitV;simp only [HK.out,HBq.out,HV8.out,Bool.and_self])
   ·have hbq:(zBucket ky c.b != b) = true:=by simpa using hb
    have HBq:=Lib.hid (decide_eq_false hb)
    clear hb
    go_wp2_with fail
    refine (Bucket_any ky c.b _).mono ?_;rintro e u7 ⟨rfl,g7⟩
    go_wp2_with fail
    refine nxt_stay (gtr g6 g7) (plan_one ?_)
    simp only [nths,nth,List.map_cons,List.map_nil,List.getD_cons_zero,List.getD_cons_succ]
    repeat go_big_quiet_step (fail)
    refine wpQuiet_nil ?_
    go_wp2_with fail
    refine nxt_stay (gtr g6 g7) (plan_fin ?_)
    simp only [nths,nth,List.map_cons,List.map_nil,List.getD_cons_zero,List.getD_cons_succ]
    repeat go_big_quiet_step (fail)
    refine wpQuiet_nil ?_
    clear e0 e1 e2 e3 e4 e5 e6 e7 r0 r1 rk
    have G:=gtr g5 (gtr g6 g7)
    have hres:=(HA2.out.grown G).res
    have c4:=hres.cell 0 _ rfl
    have f4:=hres.free 0
    gi_wp2_with fail
    have hB4:=hres.set (j:=0) (by simp) (.bool false)
    have qS:But (fun i => i = w.heap.size + 1 + 1) W₂ (u7.setCell ⟨w.heap.size + 1 + 1,0,none⟩ (.bool false)):=But.setCell (S:=fun i => i = w.heap.size + 1 + 1) (But.of_grown G) (a:=⟨w.heap.size + 1 + 1,0,none⟩) (.inl rfl) _
    refine ⟨qS.kept.mono (fun i hi => ?_),rfl,But.fresh HG2.out qS (fun i hi => by subst hi;omega),hB4,?_⟩
    ·subst hi;exact ⟨⟨by omega,by omega,by omega⟩,by omega,by omega,by omega⟩
    ·rw [HSt.out]
     exact if_neg (by unfold fitV;simp only [HK.out,HBq.out,Bool.and_false,Bool.false_and];decide)
  ·have HK:=Lib.hid (decide_eq_false hk)
   have HKn:=Lib.hid hk
   clear hk
   refine (isInsert_at num next op kd ky vl lm wd false HK.out _).mono ?_;rintro e u6 ⟨rfl,g6⟩
   go_wp2_with fail
   refine nxt_stay g6 (plan_one ?_)
   simp only [nths,nth,List.map_cons,List.map_nil,List.getD_cons_zero,List.getD_cons_succ]
   repeat go_big_quiet_step (fail)
   refine wpQuiet_nil ?_
   go_wp2_with fail
   refine nxt_stay g6 (plan_one ?_)
   simp only [nths,nth,List.map_cons,List.map_nil,List.getD_cons_zero,List.getD_cons_succ]
   repeat go_big_quiet_step (fail)
   refine wpQuiet_nil ?_
   go_wp2_with fail
   refine nxt_stay g6 (plan_fin ?_)
   simp only [nths,nth,List.map_cons,List.map_nil,List.getD_cons_zero,List.getD_cons_succ]
   repeat go_big_quiet_step (fail)
   refine wpQuiet_nil ?_
   clear e0 e1 e2 e3 e4 e5 e6 e7 r0 r1 rk
   have G:=gtr g5 g6
   have hres:=(HA2.out.grown G).res
   have c4:=hres.cell 0 _ rfl
   have f4:=hres.free 0
   gi_wp2_with fail
   have hB4:=hres.set (j:=0) (by simp) (.bool false)
   have qS:But (fun i => i = w.heap.size + 1 + 1) W₂ (u6.setCell ⟨w.heap.size + 1 + 1,0,none⟩ (.bool false)):=But.setCell (S:=fun i => i = w.heap.size + 1 + 1) (But.of_grown G) (a:=⟨w.heap.size + 1 + 1,0,none⟩) (.inl rfl) _
   refine ⟨qS.kept.mono (fun i hi => ?_),rfl,But.fresh HG2.out qS (fun i hi => by subst hi;omega),hB4,?_⟩
   ·subst hi;exact ⟨⟨by omega,by omega,by omega⟩,by omega,by omega,by omega⟩
   ·rw [HSt.out]
    exact if_neg (by unfold fitV;simp only [HK.out,Bool.false_and];decide)
end Go.Proofs.YtcogckjpmmjmbaaGreat
namespace Go.Proofs.YtcogckjpmmjmbaaGreat
open Go.ChangeShapes Go.WideShapes Go.ChangeAt Go.RowKit Go.Shelf
set_option maxRecDepth 100000
set_option linter.unusedVariables false
attribute [local go_sem] Oper.semAt_some
def sndTo (c:Cf) (ws:List Int) (s:St):Nat → Bool
 | 0 => true
 | k + 1 => sndTo c ws s k && sndB c ws s k
theorem sndTo_le (c:Cf) (ws:List Int) (s:St) (k:Nat) (h:sndB c ws s k = false):∀ m,k < m → sndTo c ws s m = false
 | m + 1,hm => by
  unfold sndTo
  by_cases hk:k = m
  ·subst hk;rw [h,Bool.and_false]
  ·rw [sndTo_le c ws s k h m (by omega),Bool.false_and]
theorem Sound_at (w:World) (c:Cf) (d:Wd) (ws:List Int) (n:Int) (s:St) (h:WdAt w c d ws n s) (hI:Inv c s) (hws:WOk ws) :
  Calls Tryz.prog 23 #[.pointer (some ⟨d.x,0,none⟩)] w fun e w' => e = .returned (.bool (sndTo c ws s c.b)) ∧ Grown w w':=by
 obtain ⟨V,hV⟩:∃ V,sndTo c ws s c.b = V:=⟨_,rfl⟩
 rw [hV]
 have HV:=Lib.hid hV
 have HD:=Lib.hid h
 have hb64:(c.b:Int) ≤ 64:=by have:=h.book.ok.b64;omega
 clear h hV
 go_enter Tryz.func23,Tryz.ntmps23
 go_wp2_with fail
 refine (buckets_at _ c d ws n s HD.out).mono ?_;rintro e w1 ⟨rfl,g1⟩
 go_wp2_with fail
 go_loopw [8] (fun s8 wr => ∃ k:Nat,s8 = .int .i64 (k:Int) ∧ k ≤ c.b ∧ sndTo c ws s k = true ∧ Grown w wr) (fun s8 _ => c.b - (intOf s8).toNat)
 case atStart => exact ⟨0,rfl,Nat.zero_le _,rfl,g1⟩
 case round =>
  obtain ⟨k,rfl,hk,hs,hg⟩:=hrel
  have HS:=Lib.hid hs
  clear hs
  by_cases hkb:k < c.b
  ·have hlt:(k:Int) < (c.b:Int):=by omega
   go_wp2_with fail
   refine (soundBucket_at _ c d ws n s (HD.out.grown hg) hI hws k).mono ?_;rintro e w2 ⟨rfl,g2⟩
   obtain ⟨v,hv⟩:∃ v,sndB c ws s k = v:=⟨_,rfl⟩
   rw [hv]
   have HVk:=Lib.hid hv
   clear hv
   cases v
   ·go_wp2_with fail
    go_ret
    exact ⟨ret_bool (by rw [← HV.out,sndTo_le c ws s k HVk.out c.b hkb]),gtr hg g2⟩
   ·go_wp2_with fail
    refine ⟨⟨k + 1,by simp,hkb,?_,gtr hg g2⟩,by simp [intOf];omega⟩
    unfold sndTo
    rw [HS.out,HVk.out];rfl
  ·have hlt:¬ (k:Int) < (c.b:Int):=by omega
   have HK:Hid (k = c.b):=Lib.hid (by omega)
   clear hkb
   go_wp2_with fail
   go_ret
   exact ⟨ret_bool (by rw [← HV.out,← HK.out,HS.out]),hg⟩
end Go.Proofs.YtcogckjpmmjmbaaGreat
