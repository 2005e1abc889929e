/- The document's Pairs. -/
import Derived.Test.YtcogckjpmmjmbaaGreatQCInsO
import Derived.Test.YtcogckjpmmjmbaaGreatQCMSorted
import Derived.Test.YtcogckjpmmjmbaaGreatQCMRefW
import Derived.Test.YtcogckjpmmjmbaaGreatQCMSound
namespace Go.Proofs.YtcogckjpmmjmbaaGreat
open Go.ChangeShapes Go.WideShapes Go.ChangeAt Go.RowKit
set_option maxRecDepth 100000
set_option linter.unusedVariables false
theorem rpStep (c:Cf) (ws:List Int) (s:St) (acc:List Int × List (Int × Int)) (a op:Int) (ho:opAt s a = op):stepP c ws s acc a = if insV c ws s op = true ∧ op ∉ acc.1 then (acc.1 ++ [op],acc.2 ++ [((calAt s op).key,(calAt s op).val)]) else acc:=by
 subst ho
 unfold stepP insV addK
 by_cases h1:(calAt s (opAt s a)).kind = 1 ∧ wrdOf c ws (opAt s a) = 1
 ·by_cases h2:opAt s a ∈ acc.1
  ·simp [h1,h2]
  ·simp [h1,h2]
 ·rw [if_neg (fun h => h1 h.1),if_neg (fun h => h1 (of_decide_eq_true h.1))]
theorem rpTake {c:Cf} {ws:List Int} {s:St} {l:List Int} {j:Nat} {a:Int} (acc:List Int × List (Int × Int)) (ha:l[j]? = some a):foldN c ws s (l.take (j + 1)) acc = stepP c ws s (foldN c ws s (l.take j) acc) a:=by
 rw [List.take_add_one,ha,foldN_app]
 rfl
theorem rpFew {c:Cf} {ws:List Int} {s:St} {k:Nat} (hk:k < c.b) (j:Nat):(foldN c ws s ((chainI c ws k).take j) (foldN c ws s (nodesTo c ws k) ([],[]))).2.length ≤ (rawP c ws s).length:=by
 obtain ⟨r,hr⟩:=nodesTo_le c ws (k + 1) c.b hk
 unfold rawP
 rw [hr,show nodesTo c ws (k + 1) = nodesTo c ws k ++ chainI c ws k from rfl]
 conv => rhs;rw [← List.take_append_drop j (chainI c ws k)]
 rw [foldN_app,foldN_app,foldN_app]
 exact Nat.le_trans (foldN_len c ws s _ _) (foldN_len c ws s _ _)
theorem rpRowBut {S:Nat → Prop} {w w':World} {n:Nat} {v:Value} {cells:List Value} (h:RowC w v cells n) (q:But S w w') (hs:∀ g m k,v = .slice (some ⟨g,0,none⟩) m k → ¬ S g):RowC w' v cells n:=by
 rcases h with h | ⟨g,cap,hv,hn,hc⟩
 ·exact .inl h
 ·exact .inr ⟨g,cap,hv,hn,fun j u hu => q.cell (hs g _ _ hv) (hc j u hu)⟩
structure RpR (w0:World) (L:List Value) (vo vt:Value) (acc:List Int × List (Int × Int)) (W:World):Prop where
 g:Grown w0 W
 box:Box W w0.heap.size L
 row:RowC W vo (flatP (sortP acc.2)) (sortP acc.2).length
 flat:FlatAt W w0.heap.size vo (flatP (sortP acc.2)) (sortP acc.2).length
 told:W.ownsRow (w0.heap.size + 1) 3 1 vt acc.1.length (ints acc.1)
 nil:0 < acc.1.length ∨ vt = .slice none 0 0
 far:∀ g m k,vo = .slice (some ⟨g,0,none⟩) m k → ¬ InRow vt g
 len:acc.1.length = acc.2.length
theorem RpR.grown {w0 W W':World} {L:List Value} {vo vt:Value} {acc:List Int × List (Int × Int)} (h:RpR w0 L vo vt acc W) (q:Grown W W'):RpR w0 L vo vt acc W' :=
 ⟨gtr h.g q,h.box.grown q,h.row.grown q,h.flat.grown q,own_grown h.told q,h.nil,h.far,h.len⟩
set_option maxHeartbeats 16000000 in
theorem rPairs_at (w:World) (hi:Nat) (c:Cf) (b q cap:Nat) (ws:List Int) (n:Int) (s:St) (sl:Sl) (h:RwAt w hi c b q ws s sl) (hok:c.Ok) (hws:WOk ws) (hl:s.ops.length ≤ 99999) (hln:s.nodes.length ≤ 99999) (hn:0 ≤ n) (hn':n < 4611686018427387904) (hfew:(rawP c ws s).length < 20) :
  Calls Tryz.prog 22 #[.agg (RwL c b q cap n sl).toArray] w (PairsTold w (sortP (rawP c ws s))):=by
 have HR:=Lib.hid h
 have HOk:=Lib.hid hok
 have HWs:=Lib.hid hws
 have HFew:=Lib.hid hfew
 have hb64:=hok.b64
 clear h hok hws hfew
 have HB0:=Lib.hid (Box.made w (RwL c b q cap n sl) 42)
 have GB:Hid (Grown w (w.alloc (.cells (RwL c b q cap n sl).toArray 42))):=Lib.hid (by go_grown)
 go_enter Tryz.func22,Tryz.ntmps22
 go_wp2_with fail
 go_loopw [3,4,5] (fun s3 s4 s5 wr => ∃ (k:Nat) (vo vt:Value) (acc:List Int × List (Int × Int)),vo = s3 ∧ vt = s4 ∧ s5 = .int .i64 (k:Int) ∧ k ≤ c.b ∧ foldN c ws s (nodesTo c ws k) ([],[]) = acc ∧ RpR w (RwL c b q cap n sl) vo vt acc wr) (fun _ _ s5 _ => c.b - (intOf s5).toNat)
 case atStart => exact ⟨0,.slice none 0 0,.slice none 0 0,([],[]),rfl,rfl,rfl,Nat.zero_le _,rfl,GB.out,HB0.out,.inl ⟨rfl,rfl,rfl⟩,.inl ⟨rfl,rfl,rfl⟩,own_nil _ _ _ _,.inr rfl,(fun _ _ _ h => by cases h),rfl⟩
 case round =>
  obtain ⟨k,vo,vt,acc0,rfl,rfl,rfl,hk,hac,hp⟩:=hrel
  obtain ⟨wo,hwo⟩:∃ x,x = wr:=⟨_,rfl⟩
  subst hwo
  have HP:=Lib.hid hp
  have HAc:=Lib.hid hac
  clear hp hac
  have e0:=HP.out.box.cell 0 _ rfl
  have e1:=HP.out.box.cell 1 _ rfl
  have e2:=HP.out.box.cell 2 _ rfl
  have e3:=HP.out.box.cell 3 _ rfl
  have e4:=HP.out.box.cell 4 _ rfl
  have e5:=HP.out.box.cell 5 _ rfl
  have e6:=HP.out.box.cell 6 _ rfl
  have e7:=HP.out.box.cell 7 _ rfl
  have e8:=HP.out.box.cell 8 _ rfl
  have e9:=HP.out.box.cell 9 _ rfl
  have e10:=HP.out.box.cell 10 _ rfl
  have e11:=HP.out.box.cell 11 _ rfl
  have e12:=HP.out.box.cell 12 _ rfl
  have e13:=HP.out.box.cell 13 _ rfl
  have e14:=HP.out.box.cell 14 _ rfl
  have e15:=HP.out.box.cell 15 _ rfl
  have e16:=HP.out.box.cell 16 _ rfl
  by_cases hkb:k < c.b
  ·as_aux_lemma =>
    have hlt:(k:Int) < (c.b:Int):=by omega
    have HFl:Hid (∀ j,(foldN c ws s ((chainI c ws k).take j) acc0).2.length ≤ (rawP c ws s).length):=Lib.hid (fun j => by rw [← HAc.out];exact rpFew hkb j)
    go_wp2_with fail
    refine (rChain_at _ hi c b q cap ws n s sl (HR.out.grown HP.out.g) HOk.out HWs.out hn hn' k).mono ?_;rintro e w2 ⟨vl,rfl,fl,-,g2⟩
    clear e0 e1 e2 e3 e4 e5 e6 e7 e8 e9 e10 e11 e12 e13 e14 e15 e16
    have HP2:=Lib.hid (HP.out.grown g2)
    have HNx:Hid (nodesTo c ws (k + 1) = nodesTo c ws k ++ chainI c ws k):=Lib.hid rfl
    obtain ⟨l,hll⟩:∃ l,chainI c ws k = l:=⟨_,rfl⟩
    have hl9:l.length ≤ 9999:=by rw [← hll];exact chainI_len HOk.out _ _
    rw [hll] at fl HFl HNx
    obtain ⟨Al,gl,cpl,rfl,hAl,hcl,hgl,hgs⟩:∃ (Al:Option Addr) (gl cpl:Nat),vl = .slice Al l.length cpl ∧ (0 < l.length → Al = some ⟨gl,0,none⟩) ∧ (∀ (j:Nat) (a:Int),l[j]? = some a → w2.cell? ⟨gl,j,none⟩ = some (.int .i64 a)) ∧ ¬ InRow vt gl ∧ gl < w2.heap.size:=by
     have h2:=g2.2.2
     have h3:=HP.out.box.lt
     rcases fl with ⟨hz,-,rfl⟩ | ⟨h0,gl,cpl,rfl,hlo,hr⟩
     ·exact ⟨none,0,0,by rw [hz],fun h => by omega,fun j a ha => by rw [List.eq_nil_of_length_eq_zero hz] at ha;simp at ha,fun h => by have:=own_at HP.out.told h;omega,by omega⟩
     ·exact ⟨_,gl,cpl,rfl,fun _ => rfl,fun j a ha => hr j _ (by simp [ints,ha]),fun h => by have:=own_at HP.out.told h;omega,by
       have:=World.block_lt_of_cell? _ _ (hr 0 _ (by simp only [ints,List.getElem?_map];rw [List.getElem?_eq_getElem h0];rfl))
       exact this⟩
    obtain ⟨N,hN⟩:∃ N,l.length = N:=⟨_,rfl⟩
    rw [hN] at hl9 hAl ⊢
    have HN:=Lib.hid hN
    have HAl:=Lib.hid hAl
    have HCl:=Lib.hid hcl
    have HGl:=Lib.hid hgl
    have HGs:=Lib.hid hgs
    clear hll fl hAl hcl hgl hgs hN g2
    go_wp2_with fail
    go_loopw [3,4,7] (fun s3 s4 s7 wr => ∃ (j:Nat) (vo vt:Value) (acc:List Int × List (Int × Int)),vo = s3 ∧ vt = s4 ∧ s7 = .int .i64 (j:Int) ∧ j ≤ N ∧ foldN c ws s (l.take j) acc0 = acc ∧ RpR w (RwL c b q cap n sl) vo vt acc wr ∧ (∀ (j:Nat) (a:Int),l[j]? = some a → wr.cell? ⟨gl,j,none⟩ = some (.int .i64 a)) ∧ ¬ InRow vt gl ∧ gl < wr.heap.size) (fun _ _ s7 _ => N - (intOf s7).toNat)
    case atStart => exact ⟨0,vo,vt,acc0,rfl,rfl,rfl,Nat.zero_le _,rfl,HP2.out,HCl.out,HGl.out,HGs.out⟩
    case round =>
     clear HCl HGl HGs HP2 HP
     obtain ⟨j,vo,vt,acc,rfl,rfl,rfl,hj,hac,hp,hcl,hgl,hgs⟩:=hrel
     obtain ⟨wi,hwi⟩:∃ x,x = wr:=⟨_,rfl⟩
     subst hwi
     have HP:=Lib.hid hp
     have HA:=Lib.hid hac
     have HCl:=Lib.hid hcl
     have HGl:=Lib.hid hgl
     have HGs:=Lib.hid hgs
     clear hp hac hcl hgl hgs
     by_cases hjN:j < N
     ·as_aux_lemma =>
       have hlt:(j:Int) < (N:Int):=by omega
       obtain rfl:=HAl.out (by omega)
       obtain ⟨a,ha⟩:∃ a,l[j]? = some a:=⟨_,List.getElem?_eq_getElem (by rw [HN.out];exact hjN)⟩
       obtain ⟨op,hop⟩:∃ o,opAt s a = o:=⟨_,rfl⟩
       have HOp:=Lib.hid hop
       have HStep:Hid (foldN c ws s (l.take (j + 1)) acc0 = if insV c ws s op = true ∧ op ∉ acc.1 then (acc.1 ++ [op],acc.2 ++ [((calAt s op).key,(calAt s op).val)]) else acc):=Lib.hid (by rw [rpTake acc0 ha,HA.out,rpStep c ws s acc a op HOp.out])
       have HFl2:Hid (acc.2.length < 20):=Lib.hid (by have h1:=HFl.out j;have h2:=HFew.out;rw [HA.out] at h1;omega)
       have hcell:=HCl.out j a ha
       clear ha hop
       have e0:∀ g:GrW wi,g.w.cell? ⟨w.heap.size,0,none⟩ = some (.int .i64 c.t):=GrW.cell (HP.out.box.cell 0 _ rfl)
       have e1:∀ g:GrW wi,g.w.cell? ⟨w.heap.size,1,none⟩ = some (.int .i64 c.b):=GrW.cell (HP.out.box.cell 1 _ rfl)
       have e2:∀ g:GrW wi,g.w.cell? ⟨w.heap.size,2,none⟩ = some (.int .i64 c.i):=GrW.cell (HP.out.box.cell 2 _ rfl)
       have e3:∀ g:GrW wi,g.w.cell? ⟨w.heap.size,3,none⟩ = some (.int .i64 c.f):=GrW.cell (HP.out.box.cell 3 _ rfl)
       have e4:∀ g:GrW wi,g.w.cell? ⟨w.heap.size,4,none⟩ = some (.int .i64 c.k):=GrW.cell (HP.out.box.cell 4 _ rfl)
       have e5:∀ g:GrW wi,g.w.cell? ⟨w.heap.size,5,none⟩ = some (.slice (some ⟨b,0,none⟩) q cap):=GrW.cell (HP.out.box.cell 5 _ rfl)
       have e6:∀ g:GrW wi,g.w.cell? ⟨w.heap.size,6,none⟩ = some (.int .i64 n):=GrW.cell (HP.out.box.cell 6 _ rfl)
       have e7:∀ g:GrW wi,g.w.cell? ⟨w.heap.size,7,none⟩ = some (.int .i64 c.t):=GrW.cell (HP.out.box.cell 7 _ rfl)
       have e8:∀ g:GrW wi,g.w.cell? ⟨w.heap.size,8,none⟩ = some (.int .i64 c.b):=GrW.cell (HP.out.box.cell 8 _ rfl)
       have e9:∀ g:GrW wi,g.w.cell? ⟨w.heap.size,9,none⟩ = some (.int .i64 c.i):=GrW.cell (HP.out.box.cell 9 _ rfl)
       have e10:∀ g:GrW wi,g.w.cell? ⟨w.heap.size,10,none⟩ = some (.int .i64 c.f):=GrW.cell (HP.out.box.cell 10 _ rfl)
       have e11:∀ g:GrW wi,g.w.cell? ⟨w.heap.size,11,none⟩ = some (.int .i64 c.k):=GrW.cell (HP.out.box.cell 11 _ rfl)
       have e12:∀ g:GrW wi,g.w.cell? ⟨w.heap.size,12,none⟩ = some (.slice sl.a1 sl.m1 sl.k1):=GrW.cell (HP.out.box.cell 12 _ rfl)
       have e13:∀ g:GrW wi,g.w.cell? ⟨w.heap.size,13,none⟩ = some (.slice sl.a2 sl.m2 sl.k2):=GrW.cell (HP.out.box.cell 13 _ rfl)
       have e14:∀ g:GrW wi,g.w.cell? ⟨w.heap.size,14,none⟩ = some (.slice sl.a3 sl.m3 sl.k3):=GrW.cell (HP.out.box.cell 14 _ rfl)
       have e15:∀ g:GrW wi,g.w.cell? ⟨w.heap.size,15,none⟩ = some (.slice sl.a4 sl.m4 sl.k4):=GrW.cell (HP.out.box.cell 15 _ rfl)
       have e16:∀ g:GrW wi,g.w.cell? ⟨w.heap.size,16,none⟩ = some (.slice sl.a5 sl.m5 sl.k5):=GrW.cell (HP.out.box.cell 16 _ rfl)
       have b1:∀ g:GrW wi,g.w.cell? ⟨gl,j,none⟩ = some (.int .i64 a):=GrW.cell hcell
       go_wp2_with fail
       refine wp_region_grow (by kernel_rfl) (by kernel_rfl) ?_
       repeat (go_big_quiet_step ((go_at_call 78;exact grcall (rCarried_at _ hi c s _ _ _ _ _ ((HR.out.grown (gtr HP.out.g (GrW.gr _))).refs) HOk.out hln a op HOp.out))))
       refine wpQuiet_nil ?_
       rintro w3 ⟨⟨_,g3⟩,rfl⟩
       clear e0 e1 e2 e3 e4 e5 e6 e7 e8 e9 e10 e11 e12 e13 e14 e15 e16
       clear b1 hcell
       have HP3:=Lib.hid (HP.out.grown g3)
       have HC3:Hid (∀ (j:Nat) (a:Int),l[j]? = some a → w3.cell? ⟨gl,j,none⟩ = some (.int .i64 a)):=Lib.hid (fun j a h => gcell g3 (HCl.out j a h))
       have HG3:Hid (gl < w3.heap.size):=Lib.hid (Nat.lt_of_lt_of_le HGs.out g3.2.2)
       clear g3
       have e0:=HP3.out.box.cell 0 _ rfl
       have e1:=HP3.out.box.cell 1 _ rfl
       have e2:=HP3.out.box.cell 2 _ rfl
       have e3:=HP3.out.box.cell 3 _ rfl
       have e4:=HP3.out.box.cell 4 _ rfl
       have e5:=HP3.out.box.cell 5 _ rfl
       have e6:=HP3.out.box.cell 6 _ rfl
       have e7:=HP3.out.box.cell 7 _ rfl
       have e8:=HP3.out.box.cell 8 _ rfl
       have e9:=HP3.out.box.cell 9 _ rfl
       have e10:=HP3.out.box.cell 10 _ rfl
       have e11:=HP3.out.box.cell 11 _ rfl
       have e12:=HP3.out.box.cell 12 _ rfl
       have e13:=HP3.out.box.cell 13 _ rfl
       have e14:=HP3.out.box.cell 14 _ rfl
       have e15:=HP3.out.box.cell 15 _ rfl
       have e16:=HP3.out.box.cell 16 _ rfl
       obtain ⟨r,hr⟩:∃ r,insV c ws s op = r:=⟨_,rfl⟩
       rw [hr] at HStep
       have HIr:=Lib.hid hr
       clear hr
       go_wp2_with fail
       refine (rIns_at _ hi c b q cap ws n s sl (HR.out.grown HP3.out.g) HOk.out hl hn hn' op r HIr.out).mono ?_;rintro e w4 ⟨rfl,g4⟩
       clear e0 e1 e2 e3 e4 e5 e6 e7 e8 e9 e10 e11 e12 e13 e14 e15 e16
       have HP4:=Lib.hid (HP3.out.grown g4)
       have HC4:Hid (∀ (j:Nat) (a:Int),l[j]? = some a → w4.cell? ⟨gl,j,none⟩ = some (.int .i64 a)):=Lib.hid (fun j a h => gcell g4 (HC3.out j a h))
       have HG4:Hid (gl < w4.heap.size):=Lib.hid (Nat.lt_of_lt_of_le HG3.out g4.2.2)
       clear g4 HC3 HG3
       cases r
       ·have HS2:=Lib.hid (HStep.out.trans (if_neg (fun h => by cases h.1)))
        go_wp2_with fail
        exact ⟨⟨j + 1,vo,vt,acc,rfl,rfl,by simp,hjN,HS2.out,HP4.out,HC4.out,HGl.out,HG4.out⟩,by simp [intOf];omega⟩
       ·obtain ⟨m,hm⟩:∃ m,decide (op ∈ acc.1) = m:=⟨_,rfl⟩
        have HM:=Lib.hid hm
        clear hm
        have hla:=HP.out.len
        have hfl2:=HFl2.out
        go_wp2_with fail
        refine (has_at _ vt acc.1 (own_rowC HP4.out.told) (by omega) op m HM.out).mono ?_;rintro e w5 ⟨rfl,g5⟩
        have HP5:=Lib.hid (HP4.out.grown g5)
        have HC5:Hid (∀ (j:Nat) (a:Int),l[j]? = some a → w5.cell? ⟨gl,j,none⟩ = some (.int .i64 a)):=Lib.hid (fun j a h => gcell g5 (HC4.out j a h))
        have HG5:Hid (gl < w5.heap.size):=Lib.hid (Nat.lt_of_lt_of_le HG4.out g5.2.2)
        clear g5 HC4 HG4
        cases m
        ·have HS2:=Lib.hid (HStep.out.trans (if_pos ⟨by trivial,of_decide_eq_false HM.out⟩))
         have e7:=HP5.out.box.cell 7 _ rfl
         have e8:=HP5.out.box.cell 8 _ rfl
         have e9:=HP5.out.box.cell 9 _ rfl
         have e10:=HP5.out.box.cell 10 _ rfl
         have e11:=HP5.out.box.cell 11 _ rfl
         have e12:=HP5.out.box.cell 12 _ rfl
         have e13:=HP5.out.box.cell 13 _ rfl
         have e14:=HP5.out.box.cell 14 _ rfl
         have e15:=HP5.out.box.cell 15 _ rfl
         have e16:=HP5.out.box.cell 16 _ rfl
         obtain ⟨ox,hox⟩:∃ ox,lookI s.ops op = ox:=⟨_,rfl⟩
         have HOx:=Lib.hid hox
         clear hox
         go_wp2_with fail
         refine (rCall_at _ hi c s _ _ _ _ _ (HR.out.grown HP5.out.g).refs HOk.out hl op _ HOx.out).mono ?_;rintro e w6 ⟨rfl,g6⟩
         clear e7 e8 e9 e10 e11 e12 e13 e14 e15 e16
         have HP6:=Lib.hid (HP5.out.grown g6)
         have HC6:Hid (∀ (j:Nat) (a:Int),l[j]? = some a → w6.cell? ⟨gl,j,none⟩ = some (.int .i64 a)):=Lib.hid (fun j a h => gcell g6 (HC5.out j a h))
         have HG6:Hid (gl < w6.heap.size):=Lib.hid (Nat.lt_of_lt_of_le HG5.out g6.2.2)
         clear g6 HC5 HG5
         obtain ⟨⟨xk,xy,xv,xl⟩,hx⟩:∃ x,ox.getD Cal.zero = x:=⟨_,rfl⟩
         have HX:Hid (calAt s op = ⟨xk,xy,xv,xl⟩):=Lib.hid (by unfold calAt;rw [HOx.out];exact hx)
         rw [hx]
         unfold Cal.v
         simp only
         clear hx
         obtain ⟨er,her⟩:∃ er,errOf ox = er:=⟨_,rfl⟩
         rw [her]
         clear her
         go_wp2_with (first | (at_builtin;refine pause ?_) | fail)
         unfold Pause
         have ga:Grown w6 ((w6.alloc (.cells #[.int .i64 xk,.int .u64 xy,.int .u64 xv,.int .i64 xl] 80)).alloc (.cells #[.int .i64 op] 3)):=by go_grown
         have c1:((w6.alloc (.cells #[.int .i64 xk,.int .u64 xy,.int .u64 xv,.int .i64 xl] 80)).alloc (.cells #[.int .i64 op] 3)).cell? ⟨w6.heap.size,1,none⟩ = some (.int .u64 xy):=by simp [go_sem]
         have c2:((w6.alloc (.cells #[.int .i64 xk,.int .u64 xy,.int .u64 xv,.int .i64 xl] 80)).alloc (.cells #[.int .i64 op] 3)).cell? ⟨w6.heap.size,2,none⟩ = some (.int .u64 xv):=by simp [go_sem]
         have h6:=HP6.out.box.lt
         refine wpList_add rfl _ _ 36 rfl (w.heap.size + 1) 3 (.int .i64 0) 1 8 Tryz.underlying36 info_int rfl (by decide) vt acc.1.length (ints acc.1) (own_grown HP6.out.told ga) _ 1 0 [.int .i64 op] (.inr ⟨by decide,w6.heap.size + 1,1,rfl,Nat.zero_le _,fun j u hj => ?news⟩) rfl (by simp [Value.oneCell']) (by omega) (by decide) (by simp;omega) rfl rfl ?_
         case news =>
          rcases j with _ | j
          ·cases hj;simp [go_sem]
          ·cases hj
         intro vt' W5 r5 fr5 q5
         have hin:∀ i,InRow vt i → w.heap.size + 1 ≤ i ∧ i < w6.heap.size:=fun i hi => own_at HP6.out.told hi
         have GW:Hid (Grown w W5):=Lib.hid (But.fresh (gtr HP6.out.g ga) q5 (fun i hi => by have:=hin i hi;omega))
         have BW:Hid (Box W5 w.heap.size (RwL c b q cap n sl)):=Lib.hid ((HP6.out.box.grown ga).but q5 (fun hi => by have:=hin _ hi;omega))
         have RW:Hid (RowC W5 vo (flatP (sortP acc.2)) (sortP acc.2).length):=Lib.hid (rpRowBut (HP6.out.row.grown ga) q5 (fun g m k hv => HP6.out.far g m k hv))
         have d1:=q5.cell (fun hi => by have:=hin _ hi;omega) c1
         have d2:=q5.cell (fun hi => by have:=hin _ hi;omega) c2
         have HC7:Hid (∀ (j:Nat) (a:Int),l[j]? = some a → W5.cell? ⟨gl,j,none⟩ = some (.int .i64 a)):=Lib.hid (fun j a h => q5.cell HGl.out (gcell ga (HC6.out j a h)))
         have hsz:w6.heap.size ≤ W5.heap.size:=Nat.le_trans ga.2.2 q5.2.2
         have HG7:Hid (gl < W5.heap.size):=Lib.hid (Nat.lt_of_lt_of_le HG6.out hsz)
         have HGl7:Hid (¬ InRow vt' gl):=Lib.hid (fun hi => by
          rcases fr5 with e | ⟨g,e,hg⟩
          ·exact HGl.out (by unfold InRow at hi ⊢;rw [← e];exact hi)
          ·unfold InRow at hi;rw [e] at hi;cases hi;have:=HG6.out;have:=ga.2.2;omega)
         have HT7:Hid (W5.ownsRow (w.heap.size + 1) 3 1 vt' (acc.1 ++ [op]).length (ints (acc.1 ++ [op]))):=Lib.hid (by simpa [ints] using r5)
         clear r5 fr5 q5 c1 c2 ga hin hsz
         go_wp2_with fail
         refine (insert_at _ vo (sortP acc.2) RW.out (by rw [sortP_len];omega) (xy,xv) _ (sortP_app acc.2 (xy,xv)).symm).mono ?_;rintro e w8 ⟨v8,rfl,rw8,fl8,g8⟩
         have HP8:Hid (RpR w (RwL c b q cap n sl) v8 vt' (acc.1 ++ [op],acc.2 ++ [(xy,xv)]) w8):=Lib.hid ⟨gtr GW.out g8,BW.out.grown g8,rw8,fl8.mono GW.out.2.2,own_grown HT7.out g8,.inl (by simp),(fun g m k hv hi => by
          have h1:=(own_at HT7.out hi).2
          rcases fl8 with ⟨-,-,h⟩ | ⟨-,g',cap',h,hlo,-⟩
          ·rw [hv] at h;cases h
          ·rw [hv] at h;cases h;omega),by simp [hla]⟩
         have HC8:Hid (∀ (j:Nat) (a:Int),l[j]? = some a → w8.cell? ⟨gl,j,none⟩ = some (.int .i64 a)):=Lib.hid (fun j a h => gcell g8 (HC7.out j a h))
         have HG8:Hid (gl < w8.heap.size):=Lib.hid (Nat.lt_of_lt_of_le HG7.out g8.2.2)
         clear rw8 fl8 g8 d1 d2
         go_wp2_with fail
         exact ⟨⟨j + 1,v8,vt',_,rfl,rfl,by simp,hjN,(by rw [HS2.out,HX.out]),HP8.out,HC8.out,HGl7.out,HG8.out⟩,by simp [intOf];omega⟩
        ·have HS2:=Lib.hid (HStep.out.trans (if_neg (fun h => h.2 (of_decide_eq_true HM.out))))
         go_wp2_with fail
         exact ⟨⟨j + 1,vo,vt,acc,rfl,rfl,by simp,hjN,HS2.out,HP5.out,HC5.out,HGl.out,HG5.out⟩,by simp [intOf];omega⟩
     ·as_aux_lemma =>
       have hlt:¬ (j:Int) < (N:Int):=by omega
       obtain rfl:j = N:=by omega
       have HEnd:Hid (foldN c ws s (nodesTo c ws (k + 1)) ([],[]) = acc):=Lib.hid (by rw [HNx.out,foldN_app,HAc.out,← HA.out,← HN.out,List.take_length])
       go_wp2_with fail
       exact ⟨⟨k + 1,vo,vt,acc,rfl,rfl,by simp,hkb,HEnd.out,HP.out⟩,by simp [intOf];omega⟩
  ·as_aux_lemma =>
    have hlt:¬ (k:Int) < (c.b:Int):=by omega
    obtain rfl:k = c.b:=by omega
    have HEnd:Hid (acc0.2 = rawP c ws s):=Lib.hid (by unfold rawP;rw [HAc.out])
    go_wp2_with fail
    go_ret
    exact ⟨vo,rfl,by rw [← HEnd.out];exact HP.out.flat,HP.out.g⟩
end Go.Proofs.YtcogckjpmmjmbaaGreat
