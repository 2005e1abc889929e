/- Package place: what an awake scene's insert comes to. -/
import Derived.Test.YtcogckjpmmjmbaaGreatQAWkSo
import Derived.Test.YtcogckjpmmjmbaaGreatQAPlH
import Derived.Test.YtcogckjpmmjmbaaGreatQAGMapF
import Derived.Test.YtcogckjpmmjmbaaGreatQALaid11
import Derived.Test.YtcogckjpmmjmbaaGreatQAPlS
import Derived.Test.YtcogckjpmmjmbaaGreatQAMSound
import Derived.Test.YtcogckjpmmjmbaaGreatQAInsO
import Derived.Test.YtcogckjpmmjmbaaGreatQAMScene
import Derived.Test.YtcogckjpmmjmbaaGreatQAMSorted
import Derived.Test.YtcogckjpmmjmbaaGreatQAMRefW
import Derived.Test.YtcogckjpmmjmbaaGreatQAGMRoute
import Derived.Test.YtcogckjpmmjmbaaGreatQAGWkCl
import Derived.Test.YtcogckjpmmjmbaaGreatQAMWRef
import Derived.Test.YtcogckjpmmjmbaaGreatQAMBase
import Derived.Test.YtcogckjpmmjmbaaGreatQAWkRun
import Derived.Test.YtcogckjpmmjmbaaGreatQAGLaid
namespace Go.Proofs.YtcogckjpmmjmbaaGreat
set_option maxRecDepth 100000
set_option linter.unusedVariables false
theorem UOk.run {c:Cf} (hc:c.Ok) {y:Ku} {m:Int} {q:Nat} (h:UOk c y m q):∀ k:Nat,UOk c (runU c y k) (m + k) (q + k)
 | 0 => by simpa [runU] using h
 | k + 1 => by
  have:=(UOk.run hc h k).step hc
  rw [show m + (((k + 1:Nat)):Int) = m + k + 1 by omega,show q + (k + 1) = q + k + 1 by omega]
  exact this
def cs11:List Cal:=[⟨1,4,7,0⟩]
def aw11:Ly:=layL (c9 0) (sortedI [])
def as11:St:=lyC (c9 0) aw11.s cs11
def ak11:Ku:=⟨aw11.ws,aw11.n,as11,newU 32 2⟩
def ae11:Ku:=runU (c9 0) ak11 15
theorem ak11_d:∀ k < 15,(runU (c9 0) ak11 k).x.done = false:=by decide +kernel
theorem ae11_x:(ae11.x.done,ae11.x.won,ae11.x.linked) = (true,true,true):=by decide +kernel
theorem ae11_n:ae11.n = 15:=by decide +kernel
theorem ae11_p:sortP (rawP (c9 0) ae11.ws ae11.s) = [(4,7)]:=by decide +kernel
theorem ae11_r:(rawP (c9 0) ae11.ws ae11.s).length = 1:=by decide +kernel
theorem ak11_n:ak11.n = 0:=by decide +kernel
theorem ak11_o:ak11.s.nodes.length ≤ 16:=by decide +kernel
theorem ak11_p:ak11.s.ops.length ≤ 24:=by decide +kernel
end Go.Proofs.YtcogckjpmmjmbaaGreat
namespace Go.Proofs.YtcogckjpmmjmbaaGreat
open Go.ChangeShapes Go.WideShapes Go.ChangeAt Go.RowKit
set_option maxRecDepth 100000
set_option linter.unusedVariables false
theorem PlAt.new {w w':World} {c:Cf} {d:Wd} {s:St} {ws:List Int} {n:Int} {x:Put} {T:Nat} (h:WdAt w c d ws n s) (g:Grown w w') (hB:Box w' T x.l) (hT:w.heap.size ≤ T):PlAt w' c d T ⟨ws,n,s,x⟩ :=
 ⟨h.grown g,hB,h.ow_lt hT,fun e => by have:=h.xlt;omega,by have:=h.book.o6;omega⟩
set_option maxHeartbeats 8000000 in
theorem awake11_at (w:World):Calls Tryz.prog 25 #[] w fun e w' => e = .returned (.bool true) ∧ Grown w w':=by
 have HLk:Hid (LyOk (c9 0) aw11 0):=Lib.hid (by
  have:=layL_ok (c9 0) (sortedI []) (fun x hx => by cases hx) 0 (by decide +kernel)
  rwa [List.take_of_length_le (by decide +kernel)] at this)
 have HK:Hid (∀ k:Nat,UOk (c9 0) (runU (c9 0) ak11 k) (6 + k) (16 + k)):=Lib.hid (fun k => UOk.run (c9_ok (by omega)) (y:=ak11) ⟨HLk.out.wok,⟨by decide +kernel,by decide +kernel,by decide +kernel,by decide +kernel⟩,by rw [ak11_n];decide,by rw [ak11_n];decide,lyC_inv cs11 HLk.out.inv,by decide +kernel,by decide +kernel,ak11_o,by have:=ak11_p;omega⟩ k)
 go_enter Tryz.func25,Tryz.ntmps25
 go_wp2_with fail
 have hgr:Grown w (w.alloc (.cells (flatK cs11).toArray 80)):=by go_grown
 have hlay:=lay11_at (w.alloc (.cells (flatK cs11).toArray 80)) 0 (by omega) (.slice none 0 0) (.slice (some ⟨w.heap.size,0,none⟩) 1 1) [] cs11 ⟨none,0,0,0,rfl,fun h => absurd h (by decide),fun j u hj => by cases hj⟩ ⟨some ⟨w.heap.size,0,none⟩,w.heap.size,0,1,rfl,fun _ => rfl,fun j u hj => by rw [Nat.zero_add,World.cell?_alloc_new];simpa using hj⟩ (by decide) (by decide) (fun x hx => by cases hx) aw11 rfl as11 rfl
 change Calls _ _ #[.agg #[.int .u8 0,_,_]] _ _ at hlay
 have HLay:=Lib.hid hlay
 clear hlay
 refine HLay.out.mono ?_;rintro e w1 ⟨d,rfl,g1,h1,f1⟩
 have HD:=Lib.hid h1
 have G1:=Lib.hid (gtr hgr g1)
 have HFr:Hid (∀ i,Ow d i → w.heap.size ≤ i):=Lib.hid (fun i hi => Nat.le_trans hgr.2.2 (f1 i hi))
 obtain ⟨c,hc⟩:∃ c,c9 0 = c:=⟨_,rfl⟩
 obtain ⟨y0,hy0⟩:∃ y,ak11 = y:=⟨_,rfl⟩
 have HD0:Hid (WdAt w1 c d y0.ws y0.n y0.s):=Lib.hid (by rw [← hy0,← hc];exact HD.out)
 have HX0:Hid (y0.x = newU 32 2):=Lib.hid (by rw [← hy0];rfl)
 have HE:Hid (runU c y0 15 = ae11):=Lib.hid (by rw [← hc,← hy0];rfl)
 have HN:Hid (∀ k < 15,(runU c y0 k).x.done = false):=Lib.hid (by rw [← hc,← hy0];exact ak11_d)
 have HCC:=Lib.hid hc
 rw [hc,hy0] at HK
 clear HLay h1 f1 g1 hgr HD hc hy0 HLk
 go_wp2_with fail
 refine (pNew _ 32 2).mono ?_;rintro e w2 ⟨rfl,g2⟩
 have ga:Grown w2 (w2.alloc (.cells (newU 32 2).l.toArray 65)):=by go_grown
 have HB:=Box.made w2 (newU 32 2).l 65
 obtain ⟨T,hT⟩:∃ T,w2.heap.size = T:=⟨_,rfl⟩
 obtain ⟨wa,hwa⟩:∃ x,w2.alloc (.cells (newU 32 2).l.toArray 65) = x:=⟨_,rfl⟩
 rw [hwa] at HB ga
 rw [hT] at HB
 have HA:Hid (PlAt wa c d T y0):=Lib.hid (PlAt.new (x:=y0.x) HD0.out (gtr g2 ga) (by rw [HX0.out];exact HB) (by have:=g2.2.2;omega))
 have Ga:=Lib.hid (gtr G1.out (gtr g2 ga))
 have hwT:w.heap.size ≤ T:=by have h1:=G1.out.2.2;have h2:=g2.2.2;omega
 have HWA:=Lib.hid hwa
 have HTT:=Lib.hid hT
 clear g2 ga HB hwa hT G1 HD0
 simp only [newU,Put.l] at HWA ⊢
 go_wp2_with fail
 rw [HWA.out,HTT.out]
 clear HWA HTT
 go_loopw [3,4] (fun s3 s4 wr => ∃ k:Nat,s3 = .int .i64 (k:Int) ∧ s4 = .int .i64 (k:Int) ∧ k ≤ 15 ∧ But (So d T) wa wr ∧ PlAt wr c d T (runU c y0 k)) (fun s3 _ _ => 15 - (intOf s3).toNat)
 case atStart => exact ⟨0,rfl,rfl,Nat.zero_le _,But.refl _ _,HA.out⟩
 case round =>
  obtain ⟨k,rfl,rfl,hk,hq,hwk⟩:=hrel
  obtain ⟨wo,hwo⟩:∃ x,x = wr:=⟨_,rfl⟩
  subst hwo
  have HQ:=Lib.hid hq
  have HO:=Lib.hid (HK.out k)
  have hl4:(k:Int) < 40:=by omega
  by_cases hk2:k < 15
  ·have HS:Hid (runU c y0 (k + 1) = stepU c (runU c y0 k)):=Lib.hid rfl
   have hd:=HN.out k hk2
   obtain ⟨y,hy⟩:∃ y,runU c y0 k = y:=⟨_,rfl⟩
   rw [hy] at hwk HO HS hd
   have HY:=Lib.hid hwk
   have c15:wo.cell? ⟨T,15,none⟩ = some (.bool false):=by rw [← hd];exact HY.out.box.cell 15 _ rfl
   have m0:=HO.out.n0
   have m1:=HO.out.n1
   clear hwk hq hy
   go_wp2_with (first | (refine load_box rfl 65 _ rfl T rfl _ _ Tryz.underlying65 rfl (by kernel_rfl) HY.out.box ?_) | fail)
   refine (pStep _ c d y HY.out.wd HO.out.inv m0 (by omega) HO.out.wok HO.out.ok HO.out.u0 HO.out.u1 _ rfl).mono ?_;rintro e w4 ⟨rfl,q4⟩
   have H4:Hid (PlAt w4 c d T ⟨(stepU c y).ws,(stepU c y).n,(stepU c y).s,y.x⟩):=Lib.hid ⟨q4.2,HY.out.box.but q4.1 HY.out.nm,HY.out.nm,HY.out.nx,HY.out.hr⟩
   have Q4:Hid (But (So d T) wa w4):=Lib.hid (HQ.out.trans (q4.1.mono fun _ h => .inl h))
   clear q4 c15
   go_wp2_with (first | (refine store_box rfl 65 _ _ rfl T _ H4.out.box _ rfl rfl rfl (by kernel_rfl) rfl ?_;intro w9 B_ q_;have H9:Hid (PlAt w9 c d T (stepU c y)):=Lib.hid (H4.out.put (x:=(stepU c y).x) B_ q_);have Q9:Hid (But (So d T) wa w9):=Lib.hid (Q4.out.trans (so_r q_));clear B_ q_) | fail)
   refine ⟨⟨k + 1,by simp,by simp,hk2,Q9.out,?_⟩,by simp [intOf];omega⟩
   rw [HS.out]
   exact H9.out
  ·obtain rfl:k = 15:=by omega
   rw [HE.out] at hwk HO
   have HY:=Lib.hid hwk
   have GE:Hid (Grown w wo):=Lib.hid (But.fresh Ga.out HQ.out (fun i hi => by
    rcases hi with h | h
    ·exact HFr.out i h
    ·omega))
   obtain ⟨x1,x2,x3⟩:ae11.x.done = true ∧ ae11.x.won = true ∧ ae11.x.linked = true:=by
    have:=ae11_x
    simp only [Prod.mk.injEq] at this
    exact this
   have c15:wo.cell? ⟨T,15,none⟩ = some (.bool true):=by rw [← x1];exact HY.out.box.cell 15 _ rfl
   have c16:wo.cell? ⟨T,16,none⟩ = some (.bool true):=by rw [← x2];exact HY.out.box.cell 16 _ rfl
   have c4:wo.cell? ⟨T,4,none⟩ = some (.bool true):=by rw [← x3];exact HY.out.box.cell 4 _ rfl
   have HP:Hid (sortP (rawP c ae11.ws ae11.s) = [(4,7)]):=Lib.hid (by rw [← HCC.out];exact ae11_p)
   have HR:Hid ((rawP c ae11.ws ae11.s).length < 20):=Lib.hid (by rw [← HCC.out,ae11_r];decide)
   have HN15:=Lib.hid ae11_n
   clear hwk hq x1 x2 x3
   go_wp2_with fail
   have HWd:=Lib.hid HY.out.wd
   refine (Pairs_at _ c d ae11.ws ae11.n ae11.s HWd.out HO.out.inv HO.out.wok HR.out).mono ?_;rintro e w5 ⟨v,rfl,fl,g5⟩
   rw [HP.out] at fl
   have H5:=Lib.hid (HWd.out.grown g5)
   have G5:=Lib.hid (gtr GE.out g5)
   have k5:=H5.out.k5
   have c15:=gcell g5 c15
   have c16:=gcell g5 c16
   have c4:=gcell g5 c4
   clear g5
   rcases fl with ⟨h0,-⟩ | ⟨-,gl,cl,rfl,-,kl⟩
   ·cases h0
   have q0:=kl 0 _ rfl
   have q1:=kl 1 _ rfl
   clear kl
   go_wp2_with fail
   refine (Steps_at _ d.p d.b _ _ H5.out.bank).mono ?_;rintro e w6 ⟨rfl,g6⟩
   rw [HN15.out]
   have c15:=gcell g6 c15
   have c16:=gcell g6 c16
   have c4:=gcell g6 c4
   have q0:=gcell g6 q0
   have q1:=gcell g6 q1
   clear k5
   go_wp2_with fail
   go_ret
   exact ⟨rfl,gtr G5.out g6⟩
end Go.Proofs.YtcogckjpmmjmbaaGreat
namespace Go.Proofs.YtcogckjpmmjmbaaGreat
set_option maxRecDepth 100000
set_option linter.unusedVariables false
def kyN (s:St) (a:Int):Int:=(calAt s (opAt s a)).key
def overV (c:Cf) (ws:List Int) (op:Int):Bool:=decide (2 ≤ wrdOf c ws op)
def firV (s:St) (op:Int) (l:List Int):Bool:=l.all fun y => !(opAt s y == op)
def opnV (c:Cf) (ws:List Int) (s:St) (key:Int) (l:List Int):Bool:=l.any fun y => (kyN s y == key) && !overV c ws (opAt s y)
def leV (s:St) (key:Int) (l:List Int):Bool:=l.all fun y => decide (kyN s y ≤ key)
def fitD (c:Cf) (ws:List Int) (s:St) (b:Int) (pre:List Int) (x:Int):Bool :=
  (decide ((calAt s (opAt s x)).kind = 1) && decide (zBucket (kyN s x) c.b = b) && !decide (x ∈ pre)) && (leV s (kyN s x) pre &&
    !(firV s (opAt s x) pre && ((refOf c ws x % 2 == 1 && !overV c ws (opAt s x)) || (opnV c ws s (kyN s x) pre && insV c ws s (opAt s x)))))
def sndD (c:Cf) (ws:List Int) (s:St) (b:Int):List Int → List Int → Bool
  | _,[] => true
  | pre,x :: r => if fitD c ws s b pre x = true then sndD c ws s b (pre ++ [x]) r else false
structure PsFor (c:Cf) (ws:List Int) (s:St) (p:Ps) (pre:List Int):Prop where
  nodes:∀ x,x ∈ p.nodes ↔ x ∈ pre
  ops:∀ o,o ∈ p.ops ↔ ∃ y ∈ pre,opAt s y = o
  opens:∀ k,k ∈ p.opens ↔ ∃ y ∈ pre,kyN s y = k ∧ ¬ 2 ≤ wrdOf c ws (opAt s y)
  key:∀ k,0 ≤ k → (k < p.key ↔ ∃ y ∈ pre,k < kyN s y)
theorem PsFor.fit {c:Cf} {ws:List Int} {s:St} {p:Ps} {pre:List Int} (h:PsFor c ws s p pre) (b x:Int) (hk:0 ≤ kyN s x):fitV c b p (ndOf c ws s x) = fitD c ws s b pre x:=by
  have e1:decide (x ∈ p.nodes) = decide (x ∈ pre):=decide_eq_decide.2 (h.nodes x)
  have e2:decide (kyN s x < p.key) = !leV s (kyN s x) pre:=by
    rw [Bool.eq_iff_iff,decide_eq_true_iff,h.key _ hk]
    simp [leV]
  have e3:decide (opAt s x ∈ p.ops) = !firV s (opAt s x) pre:=by
    rw [Bool.eq_iff_iff,decide_eq_true_iff,h.ops]
    simp [firV]
  have e4:decide (kyN s x ∈ p.opens) = opnV c ws s (kyN s x) pre:=by
    rw [Bool.eq_iff_iff,decide_eq_true_iff,h.opens]
    simp [opnV,overV]
  show (decide ((calAt s (opAt s x)).kind = 1) && decide (zBucket (kyN s x) c.b = b) && (if x ∈ p.nodes ∨ kyN s x < p.key then false else if opAt s x ∈ p.ops ∨ 2 ≤ wrdOf c ws (opAt s x) then true else !(refOf c ws x % 2 == 1) && !(decide (wrdOf c ws (opAt s x) = 1) && decide (kyN s x ∈ p.opens)))) =
    ((decide ((calAt s (opAt s x)).kind = 1) && decide (zBucket (kyN s x) c.b = b) && !decide (x ∈ pre)) && (leV s (kyN s x) pre &&
    !(firV s (opAt s x) pre && ((refOf c ws x % 2 == 1 && !decide (2 ≤ wrdOf c ws (opAt s x))) || (opnV c ws s (kyN s x) pre && decide ((calAt s (opAt s x)).kind = 1 ∧ wrdOf c ws (opAt s x) = 1))))))
  have e2':leV s (kyN s x) pre = !decide (kyN s x < p.key):=by rw [e2];simp
  have e3':firV s (opAt s x) pre = !decide (opAt s x ∈ p.ops):=by rw [e3];simp
  rw [e2',e3',← e1,← e4]
  generalize (calAt s (opAt s x)).kind = kd at *
  generalize decide (zBucket (kyN s x) c.b = b) = B
  generalize wrdOf c ws (opAt s x) = wv
  generalize (refOf c ws x % 2 == 1) = mk
  by_cases h1:x ∈ p.nodes
  · simp [h1]
  · by_cases h2:kyN s x < p.key
    · simp [h1,h2]
    · by_cases h3:opAt s x ∈ p.ops
      · simp [h1,h2,h3]
      · by_cases h4:2 ≤ wv
        · have h5:¬ wv = 1:=by omega
          simp [h1,h2,h3,h4,h5]
        · by_cases h5:kd = 1
          · simp [h1,h2,h3,h4,h5,Bool.and_comm]
          · simp [h5]
theorem PsFor.pass {c:Cf} {ws:List Int} {s:St} {p:Ps} {pre:List Int} (h:PsFor c ws s p pre) {b x:Int} (hf:fitD c ws s b pre x = true):PsFor c ws s (passV p (ndOf c ws s x)) (pre ++ [x]):=by
  have hle:∀ y ∈ pre,kyN s y ≤ kyN s x:=by
    unfold fitD at hf
    simp only [Bool.and_eq_true] at hf
    have:=hf.2.1
    unfold leV at this
    intro y hy
    exact of_decide_eq_true (List.all_eq_true.1 this y hy)
  refine ⟨fun y => ?_,fun o => ?_,fun k => ?_,fun k hk => ?_⟩
  · simp only [passV,ndOf,mem_addK,h.nodes,List.mem_append,List.mem_singleton]
  · simp only [passV,ndOf,mem_addK,h.ops,List.mem_append,List.mem_singleton]
    constructor
    · rintro (⟨y,hy,e⟩ | e)
      · exact ⟨y,.inl hy,e⟩
      · exact ⟨x,.inr rfl,e.symm⟩
    · rintro ⟨y,hy | hy,e⟩
      · exact .inl ⟨y,hy,e⟩
      · exact .inr (by rw [← e,hy])
  · show (k ∈ if 2 ≤ wrdOf c ws (opAt s x) then p.opens else addK p.opens (kyN s x)) ↔ _
    by_cases h2:2 ≤ wrdOf c ws (opAt s x)
    · rw [if_pos h2,h.opens]
      constructor
      · rintro ⟨y,hy,e⟩
        exact ⟨y,List.mem_append.2 (.inl hy),e⟩
      · rintro ⟨y,hy,e,e2⟩
        rcases List.mem_append.1 hy with hy | hy
        · exact ⟨y,hy,e,e2⟩
        · rw [List.mem_singleton] at hy
          subst hy
          exact absurd h2 e2
    · rw [if_neg h2,mem_addK,h.opens]
      constructor
      · rintro (⟨y,hy,e⟩ | e)
        · exact ⟨y,List.mem_append.2 (.inl hy),e⟩
        · exact ⟨x,List.mem_append.2 (.inr (List.mem_singleton.2 rfl)),e.symm,h2⟩
      · rintro ⟨y,hy,e,e2⟩
        rcases List.mem_append.1 hy with hy | hy
        · exact .inl ⟨y,hy,e,e2⟩
        · rw [List.mem_singleton] at hy
          subst hy
          exact .inr e.symm
  · simp only [passV,ndOf]
    constructor
    · intro q
      exact ⟨x,List.mem_append.2 (.inr (List.mem_singleton.2 rfl)),q⟩
    · rintro ⟨y,hy,q⟩
      rcases List.mem_append.1 hy with hy | hy
      · exact Int.lt_of_lt_of_le q (hle y hy)
      · rw [List.mem_singleton] at hy
        subst hy
        exact q
theorem PsFor.snd {c:Cf} {ws:List Int} {s:St} {b:Int} (hk:∀ a,0 ≤ kyN s a):∀ {l:List Int} {p:Ps} {pre:List Int},PsFor c ws s p pre → sndL c ws s b p l = sndD c ws s b pre l
  | [],_,_,_ => rfl
  | x :: r,p,pre,h => by
    unfold sndL sndD
    rw [h.fit b x (hk x)]
    by_cases hf:fitD c ws s b pre x = true
    · rw [if_pos hf,if_pos hf]
      exact PsFor.snd hk (h.pass hf)
    · rw [if_neg hf,if_neg hf]
def KeyOk (s:St):Prop:=∀ x ∈ s.ops,0 ≤ x.2.key
theorem KeyOk.cal {s:St} (h:KeyOk s) (o:Int):0 ≤ (calAt s o).key:=by
  unfold calAt
  rcases hl:lookI s.ops o with _ | x
  · exact Int.le_refl _
  · unfold lookI at hl
    split at hl
    · cases hl
    · exact h _ (look_mem hl)
theorem KeyOk.begin_ {c:Cf} {s:St} (h:KeyOk s) (th:Int) {x:Cal} (hx:0 ≤ x.key):KeyOk (beginI c s th x).1:=by
  unfold beginI
  split
  · exact h
  · unfold beginS
    repeat' split
    all_goals first
      | exact h
      | (intro y hy
         simp only [List.mem_append,List.mem_singleton] at hy
         rcases hy with hy | hy
         · exact h y hy
         · subst hy
           exact hx)
theorem KeyOk.make {c:Cf} {s:St} (h:KeyOk s) (th op:Int):KeyOk (makeI c s th op).1:=by
  unfold makeI
  split
  · exact h
  · unfold makeS
    split <;> exact h
theorem lyC_key {c:Cf}:∀ (cs:List Cal) {s:St},KeyOk s → (∀ x ∈ cs,0 ≤ x.key) → KeyOk (lyC c s cs)
  | [],_,h,_ => h
  | x :: r,s,h,hx => by
    unfold lyC
    rw [List.foldl_cons]
    exact lyC_key r (h.begin_ 2 (hx x (List.mem_cons_self ..))) (fun y hy => hx y (List.mem_cons_of_mem _ hy))
theorem lyI_key {c:Cf} {L:Ly} {x:It} (h:KeyOk L.s) (hx:0 ≤ x.key):KeyOk (lyI c L x).s:=by
  unfold lyI lyB lyA
  split
  · exact h.make _ _
  · exact (h.begin_ 0 hx).make _ _
theorem layL_key {c:Cf} (xs:List It) (hx:∀ x ∈ xs,0 ≤ x.key):KeyOk (layL c xs).s:=by
  have hall:∀ (xs:List It) (L:Ly),KeyOk L.s → (∀ x ∈ xs,0 ≤ x.key) → KeyOk (xs.foldl (lyI c) L).s:=by
    intro xs
    induction xs with
    | nil => intro L h _;exact h
    | cons x r ih =>
      intro L h hx
      rw [List.foldl_cons]
      exact ih _ (lyI_key h (hx x (List.mem_cons_self ..))) (fun y hy => hx y (List.mem_cons_of_mem _ hy))
  exact hall xs _ (fun x hx => by cases hx) hx
end Go.Proofs.YtcogckjpmmjmbaaGreat
namespace Go.Proofs.YtcogckjpmmjmbaaGreat
open Go.ChangeShapes Go.WideShapes Go.ChangeAt Go.RowKit
set_option maxRecDepth 100000
set_option linter.unusedVariables false
structure RsR (w0:World) (L:List Value) (gl:Nat) (l:List Int) (W:World):Prop where
 g:Grown w0 W
 box:Box W w0.heap.size L
 cells:∀ (j:Nat) (a:Int),l[j]? = some a → W.cell? ⟨gl,j,none⟩ = some (.int .i64 a)
theorem RsR.grown {w0 W W':World} {L:List Value} {gl:Nat} {l:List Int} (h:RsR w0 L gl l W) (q:Grown W W'):RsR w0 L gl l W':=⟨gtr h.g q,h.box.grown q,fun j a e => gcell q (h.cells j a e)⟩
end Go.Proofs.YtcogckjpmmjmbaaGreat
namespace Go.Proofs.YtcogckjpmmjmbaaGreat
open Go.ChangeShapes Go.WideShapes Go.ChangeAt Go.RowKit
set_option maxRecDepth 100000
set_option linter.unusedVariables false
structure Tk where
 op:Int
 own:Bool
 phase:Int
 want:Int
 wk:Wk
 done:Bool
 won:Bool
def Tk.l (x:Tk):List Value:=[.int .i64 x.op,.bool x.own,.int .i64 x.phase,.int .u64 x.want,.int .u64 x.wk.key,.int .i64 x.wk.mode,.int .i64 x.wk.phase,.int .i64 x.wk.pred,.int .i64 x.wk.curr,.int .u64 x.wk.next,.int .i64 x.wk.seen,.int .i64 x.wk.found,.bool x.wk.stop,.bool x.wk.done,.bool x.done,.bool x.won]
structure Kt where
 ws:List Int
 n:Int
 x:Tk
def keyT (s:St) (op:Int):Int:=((lookI s.ops op).getD Cal.zero).key
def askX (s:St) (x:Tk) (v:Int):Tk :=
 if v = 0 then { x with want:=v,wk:=newK (keyT s x.op) 2,phase:=1 }
 else if v = 1 then { x with want:=v,done:=true }
 else { x with want:=v,phase:=3 }
def askT (c:Cf) (s:St) (y:Kt):Kt:=⟨y.ws,y.n + cnt y.ws (wrdI c y.x.op),askX s y.x (rd y.ws (wrdI c y.x.op))⟩
def fndX (f:Int):Int:=if f = -1 then 1 else zNaming f 2
def wkdX (x:Tk) (z:Wk):Tk:=if z.done then (if x.phase = 1 then { x with wk:=z,want:=fndX z.found,phase:=2 } else { x with wk:=z,done:=true }) else { x with wk:=z }
def wlkT (c:Cf) (s:St) (y:Kt):Kt:=⟨(stepK c s ⟨y.ws,y.n,y.x.wk⟩).ws,(stepK c s ⟨y.ws,y.n,y.x.wk⟩).n,wkdX y.x (stepK c s ⟨y.ws,y.n,y.x.wk⟩).x⟩
def setT (c:Cf) (y:Kt):Kt:=⟨sw y.ws (wrdI c y.x.op) 0 y.x.want,y.n + cnt y.ws (wrdI c y.x.op),{ y.x with phase:=0 }⟩
def outT (c:Cf) (y:Kt):Kt:=⟨sw y.ws (wrdI c (zNamed y.x.want 2)) 1 (zNaming y.x.op 3),y.n + cnt y.ws (wrdI c (zNamed y.x.want 2)),{ y.x with phase:=4 }⟩
def whoX (s:St) (x:Tk) (v:Int):Tk :=
 if zNamed v 3 = x.op then (if x.own then { x with won:=true,wk:=newK (keyT s x.op) 3,phase:=5 } else { x with won:=true,done:=true })
 else { x with won:=false,done:=true }
def whoT (c:Cf) (s:St) (y:Kt):Kt:=⟨y.ws,y.n + cnt y.ws (wrdI c (zNamed y.x.want 2)),whoX s y.x (rd y.ws (wrdI c (zNamed y.x.want 2)))⟩
def stepT (c:Cf) (s:St) (y:Kt):Kt :=
 if y.x.done then y else
 if y.x.phase = 0 then askT c s y else
 if y.x.phase = 1 ∨ y.x.phase = 5 then wlkT c s y else
 if y.x.phase = 2 then setT c y else
 if y.x.phase = 3 then outT c y else
 if y.x.phase = 4 then whoT c s y else
 { y with x:={ y.x with done:=true } }
def runT (c:Cf) (s:St) (y:Kt):Nat → Kt
 | 0 => y
 | k + 1 => stepT c s (runT c s y k)
theorem zNaming_le (n k:Int) (k0:0 ≤ k) (k1:k ≤ 3):0 ≤ zNaming n k ∧ zNaming n k ≤ 18446744073709551615:=by
 unfold zNaming
 split <;> constructor <;> omega
def NdOk (c:Cf) (s:St):Prop:=∀ x ∈ s.nodes,x.2 < c.ops
theorem NdOk.at_ {c:Cf} {s:St} (h:NdOk c s) (a:Int):-1 ≤ opAt s a ∧ opAt s a < c.ops:=by
 unfold opAt
 rcases hl:lookI s.nodes a with _ | x
 ·simp only [carriedOf];omega
 ·have hx:x < c.ops:=by
   unfold lookI at hl
   split at hl
   ·cases hl
   ·exact h _ (look_mem hl)
  simp only [carriedOf]
  omega
theorem NdOk.begin_ {c:Cf} {s:St} (h:NdOk c s) (th:Int) (x:Cal):NdOk c (beginI c s th x).1:=by
 unfold beginI
 split
 ·exact h
 ·unfold beginS
  repeat' split
  all_goals exact h
theorem Inv.opLt {c:Cf} {s:St} (h:Inv c s) {n:Nat} {x:Cal} (hl:look s.ops n = some x):n < c.ops:=by
 obtain ⟨i,m,h1,h2,h3⟩:=h.k1 _ (look_mem hl)
 have h4:=h.b1 i h1
 simp only at h3
 have h5:i * c.k + c.k ≤ c.t * c.k:=by
  have:=Nat.mul_le_mul_right c.k (show i + 1 ≤ c.t by omega)
  rw [Nat.add_mul,Nat.one_mul] at this
  exact this
 simp only [Cf.ops]
 omega
theorem NdOk.make {c:Cf} {s:St} (h:NdOk c s) (hI:Inv c s) (th op:Int):NdOk c (makeI c s th op).1:=by
 unfold makeI
 split
 ·exact h
 ·rename_i hn
  unfold makeS
  split
  ·exact h
  ·intro y hy
   simp only [List.mem_append,List.mem_singleton] at hy
   rcases hy with hy | hy
   ·exact h y hy
   ·subst hy
    simp only
    rcases hl:lookI s.ops op with _ | x
    ·exact absurd (by rw [hl];rfl) (fun e => hn (.inr (.inr e)))
    ·unfold lookI at hl
     split at hl
     ·cases hl
     ·exact hI.opLt hl
theorem layL_nd {c:Cf} (xs:List It):NdOk c (layL c xs).s:=by
 have hall:∀ (xs:List It) (L:Ly),Inv c L.s → NdOk c L.s → NdOk c (xs.foldl (lyI c) L).s:=by
  intro xs
  induction xs with
  | nil => intro L _ h;exact h
  | cons x r ih =>
   intro L hI h
   rw [List.foldl_cons]
   refine ih _ ?_ ?_
   ·unfold lyI lyB lyA
    split
    ·exact hI.makeI _ _
    ·exact (hI.beginI _ _).makeI _ _
   ·unfold lyI lyB lyA
    split
    ·exact h.make hI _ _
    ·exact (h.begin_ _ _).make (hI.beginI _ _) _ _
 exact hall xs _ Inv.new (fun x hx => by cases hx)
theorem lyC_nd {c:Cf}:∀ (cs:List Cal) {s:St},NdOk c s → NdOk c (lyC c s cs)
 | [],_,h => h
 | x :: r,s,h => by
  unfold lyC
  rw [List.foldl_cons]
  exact lyC_nd r (h.begin_ 2 x)
theorem arr_fnd (s:St) (x:Wk) (v:Int):(arrK s x v).found = x.found:=by unfold arrK;split <;> rfl
theorem step_fnd (c:Cf) (s:St) (y:Kd):(stepK c s y).x.found = y.x.found ∨ ∃ a,(stepK c s y).x.found = opAt s a:=by
 unfold stepK
 split
 ·exact .inl rfl
 split
 ·exact .inl (arr_fnd _ _ _)
 split
 ·exact .inl rfl
 split
 ·simp only [unlK]
  split
  ·exact .inl (arr_fnd _ _ _)
  ·exact .inl rfl
 split
 ·simp only [jdgK,judK]
  split
  ·exact .inl rfl
  split
  ·exact .inl (arr_fnd _ _ _)
  split
  ·split
   ·exact .inr ⟨_,rfl⟩
   ·exact .inl rfl
  split
  ·exact .inl (arr_fnd _ _ _)
  split
  ·split
   ·exact .inl rfl
   ·exact .inl (arr_fnd _ _ _)
  ·exact .inl rfl
 split
 ·exact .inl rfl
 split
 ·simp only [askK]
  split <;> exact .inl rfl
 split
 ·exact .inl rfl
 split <;> exact .inl rfl
structure TOk (c:Cf) (y:Kt) (m:Int):Prop where
 wok:∀ i:Int,0 ≤ rd y.ws i ∧ rd y.ws i ≤ 18446744073709551615
 ok:y.x.wk.Ok
 n0:0 ≤ y.n
 n1:y.n ≤ m
 w0:0 ≤ y.x.want
 w1:y.x.want ≤ 18446744073709551615
 f0:-1 ≤ y.x.wk.found
 f1:y.x.wk.found ≤ 9223372036854775807
theorem askX_ok {s:St} {x:Tk} {v:Int} (h:x.wk.Ok):(askX s x v).wk.Ok ∧ (askX s x v).want = v ∧ ((askX s x v).wk.found = -1 ∨ (askX s x v).wk.found = x.wk.found):=by
 unfold askX
 split
 ·exact ⟨newK_ok _ _,rfl,.inl rfl⟩
 ·split <;> exact ⟨h,rfl,.inr rfl⟩
theorem whoX_ok {s:St} {x:Tk} {v:Int} (h:x.wk.Ok):(whoX s x v).wk.Ok ∧ (whoX s x v).want = x.want ∧ ((whoX s x v).wk.found = -1 ∨ (whoX s x v).wk.found = x.wk.found):=by
 unfold whoX
 split
 ·split
  ·exact ⟨newK_ok _ _,rfl,.inl rfl⟩
  ·exact ⟨h,rfl,.inr rfl⟩
 ·exact ⟨h,rfl,.inr rfl⟩
theorem fndX_le (f:Int):0 ≤ fndX f ∧ fndX f ≤ 18446744073709551615:=by
 unfold fndX
 split
 ·constructor <;> omega
 ·exact zNaming_le _ _ (by omega) (by omega)
theorem wkdX_wk (x:Tk) (z:Wk):(wkdX x z).wk = z ∧ ((wkdX x z).want = x.want ∨ (wkdX x z).want = fndX z.found):=by
 unfold wkdX
 split
 ·split
  ·exact ⟨rfl,.inr rfl⟩
  ·exact ⟨rfl,.inl rfl⟩
 ·exact ⟨rfl,.inl rfl⟩
theorem TOk.step {c:Cf} (hc:c.ops ≤ 9999) {s:St} (hN:NdOk c s) {y:Kt} {m:Int} (h:TOk c y m):TOk c (stepT c s y) (m + 1):=by
 have n0:=h.n0;have n1:=h.n1;have w0:=h.w0;have w1:=h.w1;have f0:=h.f0;have f1:=h.f1
 unfold stepT
 split
 ·exact ⟨h.wok,h.ok,n0,by omega,w0,w1,f0,f1⟩
 split
 ·have hc:=cnt_le y.ws (wrdI c y.x.op)
  obtain ⟨a,b,e⟩:=askX_ok (s:=s) (x:=y.x) (v:=rd y.ws (wrdI c y.x.op)) h.ok
  have hr:=h.wok (wrdI c y.x.op)
  refine ⟨h.wok,a,by simp only [askT];omega,by simp only [askT];omega,by simp only [askT];rw [b];exact hr.1,by simp only [askT];rw [b];exact hr.2,?_,?_⟩ <;> simp only [askT] <;> rcases e with e | e <;> rw [e] <;> omega
 split
 ·have hk:=KOk.step (c:=c) (s:=s) (y:=⟨y.ws,y.n,y.x.wk⟩) (m:=m) ⟨h.wok,h.ok,n0,n1⟩
  obtain ⟨a,b⟩:=wkdX_wk y.x (stepK c s ⟨y.ws,y.n,y.x.wk⟩).x
  have e:=step_fnd c s ⟨y.ws,y.n,y.x.wk⟩
  refine ⟨hk.wok,by simp only [wlkT];rw [a];exact hk.ok,hk.n0,hk.n1,?_,?_,?_,?_⟩ <;> simp only [wlkT]
  ·rcases b with b | b <;> rw [b]
   ·exact w0
   ·exact (fndX_le _).1
  ·rcases b with b | b <;> rw [b]
   ·exact w1
   ·exact (fndX_le _).2
  ·rw [a]
   rcases e with e | ⟨z,e⟩ <;> rw [e]
   ·exact f0
   ·exact (hN.at_ z).1
  ·rw [a]
   rcases e with e | ⟨z,e⟩ <;> rw [e]
   ·exact f1
   ·have:=(hN.at_ z).2;omega
 split
 ·have hc:=cnt_le y.ws (wrdI c y.x.op)
  exact ⟨WOk.sw h.wok _ _ _ w0 w1,h.ok,by simp only [setT];omega,by simp only [setT];omega,w0,w1,f0,f1⟩
 split
 ·have hc:=cnt_le y.ws (wrdI c (zNamed y.x.want 2))
  have hz:=zNaming_le y.x.op 3 (by omega) (by omega)
  exact ⟨WOk.sw h.wok _ _ _ hz.1 hz.2,h.ok,by simp only [outT];omega,by simp only [outT];omega,w0,w1,f0,f1⟩
 split
 ·have hc:=cnt_le y.ws (wrdI c (zNamed y.x.want 2))
  obtain ⟨a,b,e⟩:=whoX_ok (s:=s) (x:=y.x) (v:=rd y.ws (wrdI c (zNamed y.x.want 2))) h.ok
  refine ⟨h.wok,a,by simp only [whoT];omega,by simp only [whoT];omega,by simp only [whoT];rw [b];exact w0,by simp only [whoT];rw [b];exact w1,?_,?_⟩ <;> simp only [whoT] <;> rcases e with e | e <;> rw [e] <;> omega
 ·exact ⟨h.wok,h.ok,n0,by simp only;omega,w0,w1,f0,f1⟩
theorem TOk.run {c:Cf} (hc:c.ops ≤ 9999) {s:St} (hN:NdOk c s) {y:Kt} {m:Int} (h:TOk c y m):∀ k:Nat,TOk c (runT c s y k) (m + k)
 | 0 => by simpa [runT] using h
 | k + 1 => by
  have:=(TOk.run hc hN h k).step hc hN
  rw [show m + (((k + 1:Nat)):Int) = m + k + 1 by omega]
  exact this
end Go.Proofs.YtcogckjpmmjmbaaGreat
