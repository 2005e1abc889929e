/- Rows of one's own, appended to; and slices as they are handed on: laws, over any program. -/
import Derived.Test.YtcogckjpmmjmbaaGreatQDMBase
import Derived.Laws.OwnMore
import Derived.Test.YtcogckjpmmjmbaaGreatQDMBook
import Derived.Test.YtcogckjpmmjmbaaGreatQDMLay
import Derived.LoopTactic
namespace Go.Proofs.YtcogckjpmmjmbaaGreat
open Go.ChangeShapes Go.WideShapes Go.ChangeAt Go.RowKit
set_option maxRecDepth 100000
def FlatAt (w:World) (lo:Nat) (v:Value) (cells:List Value) (n:Nat):Prop :=
 (n = 0 ∧ cells = [] ∧ v = .slice none 0 0) ∨ (0 < n ∧ ∃ g cap,v = .slice (some ⟨g,0,none⟩) n cap ∧ lo ≤ g ∧ ∀ j u,cells[j]? = some u → w.cell? ⟨g,j,none⟩ = some u)
theorem FlatAt.but {S:Nat → Prop} {w w':World} {lo n:Nat} {v:Value} {cells:List Value} (h:FlatAt w lo v cells n) (q:But S w w') (hs:∀ i,lo ≤ i → ¬ S i):FlatAt w' lo v cells n:=by
 rcases h with h | ⟨h0,g,cap,hv,hlo,hc⟩
 ·exact .inl h
 ·exact .inr ⟨h0,g,cap,hv,hlo,fun j u hu => q.cell (hs g hlo) (hc j u hu)⟩
theorem FlatAt.grown {w w':World} {lo n:Nat} {v:Value} {cells:List Value} (h:FlatAt w lo v cells n) (q:Grown w w'):FlatAt w' lo v cells n :=
 h.but (S:=fun _ => False) q (fun _ _ f => f)
theorem add0 (g j:Nat):(⟨g,0,none⟩:Addr).add j = ⟨g,j,none⟩:=by unfold Addr.add;split <;> simp_all
theorem But.setRow {w:World} {g:Nat} {cur cs:Array Value} {t:TypeId} (hg:w.heap[g]? = some (.cells cur t (0,0))) (hs:cs.size = cur.size):But (· = g) w (w.setRow g cs):=by
 refine ⟨⟨rfl,rfl,fun i hi => ?_⟩,fun a => ?_,by simp [World.setRow]⟩
 ·by_cases e:i = g
  ·subst e
   rw [hg,setRow_heap w i cur cs t _ hg]
   exact ⟨rfl,rfl,hs,fun j hj => absurd rfl hj⟩
  ·rw [setRow_other w g i cs e]
   exact (World.keptBut_refl w (fun m => m.block = g)).2.2 i hi
 ·unfold World.frozen?
  by_cases e:a.block = g
  ·rw [e,hg,setRow_heap w g cur cs t _ hg]
  ·rw [setRow_other w g a.block cs e]
section
variable {P:Program} {w:World}
theorem run_push (base:Nat) (t ty e:TypeId) (z:Value) (size bytes:Nat) (ht:P.underlying t = some (.slice e)) (hi:(P.info? e).map (fun i => (i.zero,i.size,i.bytes)) = some (some z,size,bytes)) (hzs:z.cells.size = size) (hsz:0 < size)
  (v:Value) (n:Nat) (xs:List Value) (g:Nat) (hown:w.ownsRow base e size v n xs) (hv:v.ownBlock = some g) (x:Value) (m lo:Nat) (cells:List Value) (hx:FlatAt w lo x cells m) (hl:cells.length = m * size)
  (h1:∀ u ∈ cells,u.oneCell' = true) (h63:n + m ≤ 100000) (hb:bytes ≤ 1000) (hbase:base ≤ w.heap.size) :
  ∃ v' w' g',(Builtin.append_ #[t,t] ty #[v,x]).run P w = .ok v' w' ∧ w'.ownsRow base e size v' (n + m) (xs ++ cells) ∧ v'.ownBlock = some g' ∧ (g' = g ∨ w.heap.size ≤ g') ∧ But (· = g) w w':=by
 obtain ⟨i,hi1,hi2,hi3,hi4⟩:=info_parts hi
 rcases hx with ⟨rfl,rfl,rfl⟩ | ⟨hm,ga,ca,rfl,-,hc⟩
 ·have hr:=run_append_owned_none (P:=P) (w:=w) base t ty e i size ht hi1 v n xs hown
  exact ⟨v,w,g,hr,by simpa using hown,hv,.inl rfl,But.refl _ _⟩
 ·have hnews:∀ j u,cells[j]? = some u → w.cell? ((⟨ga,0,none⟩:Addr).add j) = some u:=fun j u hu => by rw [add0];exact hc j u hu
  have hby:(n + m) * bytes ≤ 140737488355328:=Nat.le_trans (Nat.mul_le_mul h63 hb) (by decide)
  obtain ⟨v',w',hr,hown',hgr,-⟩:=run_append_own (P:=P) w base t ty e i z size bytes ht hi1 hi2 hi3 hi4 hzs hsz v n xs hown ⟨ga,0,none⟩ m ca cells hl hnews h1 (by simp only [maxLen];omega) hby hbase
  rcases hown.2 with ⟨rfl,-⟩ | ⟨g0,cap,cur,rfl,hbg,hg,hnc,hcm,hcs,htake⟩
  ·cases hv
  ·have:g0 = g:=by simpa [Value.ownBlock] using hv
   subst this
   by_cases hroom:n + m ≤ cap
   ·have hfit:n * i.size + cells.length ≤ cur.size:=by rw [hl,hcs,hi3,← Nat.add_mul];exact Nat.mul_le_mul_right _ hroom
    have hr2:=run_append_room (P:=P) w t ty e i ht hi1 g0 n cap cur hg ⟨ga,0,none⟩ m ca cells (by rw [hi3];exact hl) hnews h1 hroom hfit
    rw [hr] at hr2
    simp only [Result.ok.injEq] at hr2
    obtain ⟨rfl,rfl⟩:=hr2
    refine ⟨_,_,g0,hr,hown',rfl,.inl rfl,But.setRow hg ?_⟩
    simp only [List.size_toArray,List.length_append,List.length_take,List.length_drop,Array.length_toList]
    omega
   ·have hr2:=run_append_grow (P:=P) w t ty e i z ht hi1 hi2 ⟨g0,0,none⟩ n cap xs (by rw [hi3];exact hown.1) (hown.cells (g:=g0) rfl) ⟨ga,0,none⟩ m ca cells (by rw [hi3];exact hl) hnews (by omega) (by omega) (growslice_fits (by omega) (by rw [hi4];exact hby))
    rw [hr] at hr2
    simp only [Result.ok.injEq] at hr2
    obtain ⟨rfl,rfl⟩:=hr2
    exact ⟨_,_,_,hr,hown',rfl,.inr (Nat.le_refl _),But.of_grown ((Grown.refl w).drew.alloc _ _)⟩
theorem wpList_push {ops:Array Oper} {rest:List Oper} {o:Oper} {a:Act} {Q:Exit → Act → World → Prop} (hgd:o.guard = none) (s x:Operand) (t:TypeId)
  (ho:o.op = .call { callee:=.builtin .append,args:=#[s,x],argTypes:=#[t,t] })
  (base:Nat) (e:TypeId) (z:Value) (size bytes:Nat) (ht:P.underlying t = some (.slice e)) (hi:(P.info? e).map (fun i => (i.zero,i.size,i.bytes)) = some (some z,size,bytes)) (hzs:z.cells.size = size) (hsz:0 < size)
  (v:Value) (n:Nat) (xs:List Value) (g:Nat) (hown:w.ownsRow base e size v n xs) (hv:v.ownBlock = some g) (xv:Value) (m lo:Nat) (cells:List Value) (hx:FlatAt w lo xv cells m) (hl:cells.length = m * size)
  (h1:∀ u ∈ cells,u.oneCell' = true) (h63:n + m ≤ 100000) (hb:bytes ≤ 1000) (hbase:base ≤ w.heap.size) (hs:a.eval s = v) (hxv:a.eval x = xv)
  (h:∀ v' w' g',w'.ownsRow base e size v' (n + m) (xs ++ cells) → v'.ownBlock = some g' → (g' = g ∨ w.heap.size ≤ g') → But (· = g) w w' → wpList P ops Q rest (a.put o.dst v') w'):wpList P ops Q (o :: rest) a w:=by
 obtain ⟨v',w',g',hr,r1,r2,r3,r4⟩:=run_push (P:=P) (w:=w) base t o.type e z size bytes ht hi hzs hsz v n xs g hown hv xv m lo cells hx hl h1 h63 hb hbase
 refine wpList_plain hgd fun K hK => ?_
 unfold Oper.wp execOp
 simp only [ho,resolve,invoke,builtin,Sem.run_bind,Sem.run_pure,Result.andThen_ok,List.map_toArray,List.map_cons,List.map_nil,hs,hxv,hr]
 exact hK _ _ (h v' w' g' r1 r2 r3 r4)
end
theorem FlatAt.of_own {w:World} {base n size:Nat} {e:TypeId} {v:Value} {xs:List Value} (h:w.ownsRow base e size v n xs) (hn:0 < n):FlatAt w base v xs n:=by
 rcases h.2 with ⟨rfl,rfl⟩ | ⟨g,cap,cur,rfl,hb,-⟩
 ·omega
 ·exact .inr ⟨hn,g,cap,rfl,hb,fun j u hu => by have:=h.cells (g:=g) rfl j u hu;rwa [add0] at this⟩
theorem own_made {w:World} {base size:Nat} {e:TypeId} (hb:base ≤ w.heap.size):(w.alloc (.cells #[] e)).ownsRow base e size (.slice (some ⟨w.heap.size,0,none⟩) 0 0) 0 [] :=
 World.ownsRow_made w #[] 0 hb (Nat.zero_le _) (by simp)
theorem own_but {S:Nat → Prop} {w w':World} {base n size g:Nat} {e:TypeId} {v:Value} {xs:List Value} (h:w.ownsRow base e size v n xs) (hv:v.ownBlock = some g) (q:But S w w') (hs:¬ S g):w'.ownsRow base e size v n xs:=by
 refine ⟨h.1,?_⟩
 rcases h.2 with h2 | ⟨g0,cap,cur,rfl,hb,hg,hr⟩
 ·exact .inl h2
 ·have:g0 = g:=by simpa [Value.ownBlock] using hv
  subst this
  refine .inr ⟨g0,cap,cur,rfl,hb,?_,hr⟩
  rw [q.1.block (Array.getElem?_eq_some_iff.1 hg).1 (fun p hp hpi => by subst hpi;exact hs hp)]
  exact hg
end Go.Proofs.YtcogckjpmmjmbaaGreat
namespace Go.Proofs.YtcogckjpmmjmbaaGreat
open Go.ChangeShapes Go.WideShapes Go.ChangeAt Go.RowKit
set_option maxRecDepth 100000
set_option linter.unusedVariables false
def vNat (l:List Nat):List Value:=l.map fun n:Nat => .int .i64 (n:Int)
def flatC (l:List (Nat × Cal)):List Value:=l.flatMap fun p => [.int .i64 (p.1:Int),.int .i64 p.2.kind,.int .u64 p.2.key,.int .u64 p.2.val,.int .i64 p.2.lim]
def flatN (l:List (Nat × Nat)):List Value:=l.flatMap fun p => [.int .i64 (p.1:Int),.int .i64 (p.2:Int)]
theorem vNat_at {l:List Nat} {j:Nat} (hj:j < l.length):(vNat l)[j]? = some (.int .i64 (at_ l j:Int)):=by
 simp [vNat,at_,List.getD,hj]
theorem flat_at {α:Type} {f:α → List Value} {k:Nat} (hf:∀ x,(f x).length = k) {o:Nat} (ho:o < k):∀ (l:List α) (j:Nat) (x:α),l[j]? = some x → (l.flatMap f)[j * k + o]? = (f x)[o]?
 | [],j,x,h => by simp at h
 | y :: l,0,x,h => by
  simp only [List.getElem?_cons_zero,Option.some.injEq] at h
  subst h
  rw [List.flatMap_cons,Nat.zero_mul,Nat.zero_add,List.getElem?_append_left (by rw [hf];exact ho)]
 | y :: l,j + 1,x,h => by
  rw [List.getElem?_cons_succ] at h
  rw [List.flatMap_cons,List.getElem?_append_right (by rw [hf,Nat.add_mul];omega),hf,show (j + 1) * k + o - k = j * k + o by rw [Nat.add_mul];omega]
  exact flat_at hf ho l j x h
theorem flatC_len (l:List (Nat × Cal)):(flatC l).length = l.length * 5:=by
 unfold flatC
 induction l with
 | nil => rfl
 | cons x r ih => rw [List.flatMap_cons,List.length_append,ih,List.length_cons];simp;omega
theorem flatN_len (l:List (Nat × Nat)):(flatN l).length = l.length * 2:=by
 unfold flatN
 induction l with
 | nil => rfl
 | cons x r ih => rw [List.flatMap_cons,List.length_append,ih,List.length_cons];simp;omega
theorem flatC_one (l:List (Nat × Cal)):∀ u ∈ flatC l,u.oneCell' = true:=by
 intro u hu
 simp only [flatC,List.mem_flatMap] at hu
 obtain ⟨p,-,hp⟩:=hu
 simp only [List.mem_cons,List.not_mem_nil,or_false] at hp
 rcases hp with rfl | rfl | rfl | rfl | rfl <;> rfl
theorem flatN_one (l:List (Nat × Nat)):∀ u ∈ flatN l,u.oneCell' = true:=by
 intro u hu
 simp only [flatN,List.mem_flatMap] at hu
 obtain ⟨p,-,hp⟩:=hu
 simp only [List.mem_cons,List.not_mem_nil,or_false] at hp
 rcases hp with rfl | rfl <;> rfl
def RV (c:Cf) (s1 s2 s3 s4 s5:Value):Value:=.agg #[.int .i64 c.t,.int .i64 c.b,.int .i64 c.i,.int .i64 c.f,.int .i64 c.k,s1,s2,s3,s4,s5]
structure RefS (w:World) (hi:Nat) (c:Cf) (s:St) (s1 s2 s3 s4 s5:Value):Prop where
 f1:FlatAt w hi s1 (vNat s.calls) c.t
 f2:FlatAt w hi s2 (vNat s.ins) c.t
 f3:FlatAt w hi s3 (vNat s.made) c.t
 f4:FlatAt w hi s4 (flatC s.ops) s.ops.length
 f5:FlatAt w hi s5 (flatN s.nodes) s.nodes.length
theorem RefS.but {S:Nat → Prop} {w w':World} {hi:Nat} {c:Cf} {s:St} {s1 s2 s3 s4 s5:Value} (h:RefS w hi c s s1 s2 s3 s4 s5) (q:But S w w') (hs:∀ i,hi ≤ i → ¬ S i):RefS w' hi c s s1 s2 s3 s4 s5 :=
 ⟨h.f1.but q hs,h.f2.but q hs,h.f3.but q hs,h.f4.but q hs,h.f5.but q hs⟩
theorem RefS.grown {w w':World} {hi:Nat} {c:Cf} {s:St} {s1 s2 s3 s4 s5:Value} (h:RefS w hi c s s1 s2 s3 s4 s5) (q:Grown w w'):RefS w' hi c s s1 s2 s3 s4 s5 :=
 h.but (S:=fun _ => False) q (fun _ _ f => f)
theorem is_at (w:World) (hi:Nat) (c:Cf) (s:St) (s1 s2 s3 s4 s5:Value) (h:RefS w hi c s s1 s2 s3 s4 s5) (hok:c.Ok) (th:Int) (v:Bool) (hv:decide (0 ≤ th ∧ th < c.t) = v) :
  Calls Tryz.prog 128 #[RV c s1 s2 s3 s4 s5,.int .i64 th] w fun e w' => e = .returned (.bool v) ∧ Grown w w':=by
 rcases h.f1 with ⟨h0,-⟩ | ⟨-,g,cap,rfl,hlo,hc⟩
 ·have:=hok.t1;omega
 ·clear h hc hok
  subst hv
  unfold RV
  by_cases h1:0 ≤ th <;> by_cases h2:th < c.t
  all_goals
   simp only [h1,h2,and_self,and_true,and_false,decide_true,decide_false]
   go_enter Tryz.func128,Tryz.ntmps128
   go_wp2
   go_ret
   exact ⟨rfl,by go_grown⟩
def Find {α:Type} (l:List (Nat × α)) (x r:Int):Prop:=(r = -1 ∧ lookI l x = none) ∨ ∃ (j:Nat) (y:Nat × α),r = j ∧ l[j]? = some y ∧ (y.1:Int) = x ∧ lookI l x = some y.2
theorem find_first {α:Type}:∀ (l:List (Nat × α)) (j:Nat) (y:Nat × α),l[j]? = some y → (∀ i,i < j → ∀ z,l[i]? = some z → (z.1:Int) ≠ (y.1:Int)) → look l y.1 = some y.2
 | [],j,y,h,_ => by simp at h
 | z :: l,0,y,h,_ => by
  simp only [List.getElem?_cons_zero,Option.some.injEq] at h
  subst h
  simp [look]
 | z :: l,j + 1,y,h,hb => by
  rw [List.getElem?_cons_succ] at h
  have hz:z.1 ≠ y.1:=fun e => hb 0 (by omega) z rfl (by rw [e])
  simp only [look,if_neg hz]
  exact find_first l j y h fun i hi q hq => hb (i + 1) (by omega) q (by rwa [List.getElem?_cons_succ])
theorem find_none {α:Type} (l:List (Nat × α)) (x:Int) (h:∀ (i:Nat) (z:Nat × α),l[i]? = some z → (z.1:Int) ≠ x):lookI l x = none:=by
 unfold lookI
 split
 ·rfl
 ·refine look_none fun z hz e => ?_
  obtain ⟨i,hi⟩:=List.getElem?_of_mem hz
  exact h i z hi (by omega)
set_option maxHeartbeats 1000000 in
theorem find_at_ (w:World) (hi:Nat) (c:Cf) (s:St) (s1 s2 s3 s4 s5:Value) (h:RefS w hi c s s1 s2 s3 s4 s5) (hok:c.Ok) (hl:s.ops.length ≤ 99999) (x:Int) :
  Calls Tryz.prog 133 #[RV c s1 s2 s3 s4 s5,.int .i64 x] w fun e w' => ∃ r,e = .returned (.int .i64 r) ∧ Find s.ops x r ∧ Grown w w':=by
 rcases h.f4 with ⟨h0,-,rfl⟩ | ⟨hn,g,cap,rfl,hlo,hc⟩
 ·have hnil:s.ops = []:=List.eq_nil_of_length_eq_zero h0
  have HF:Hid (lookI s.ops x = none):=Lib.hid (by rw [hnil];unfold lookI;split <;> rfl)
  clear h h0 hnil hok
  unfold RV
  go_enter Tryz.func133,Tryz.ntmps133
  go_wp2_with fail
  go_loopw [5] (fun i wr => i = .int .i64 0 ∧ Grown w wr ∧ wr.cell? ⟨w.heap.size,8,none⟩ = some (.slice none 0 0)) (fun i _ => 0)
  case atStart => exact ⟨rfl,by go_grown,by simp⟩
  case round =>
   obtain ⟨rfl,hg,c8⟩:=hrel
   go_wp2_with fail
   go_ret
   exact ⟨_,rfl,.inl ⟨rfl,HF.out⟩,hg⟩
 ·have HC:=Lib.hid hc
  obtain ⟨n,hlen⟩:∃ n,s.ops.length = n:=⟨_,rfl⟩
  rw [hlen] at hn hl ⊢
  have HLEN:=Lib.hid hlen
  clear h hc hok hlen
  unfold RV
  go_enter Tryz.func133,Tryz.ntmps133
  go_wp2_with fail
  go_loopw [5] (fun i wr => ∃ k:Nat,k ≤ n ∧ i = .int .i64 k ∧ Grown w wr ∧ wr.cell? ⟨w.heap.size,8,none⟩ = some (.slice (some ⟨g,0,none⟩) n cap) ∧ ∀ j,j < k → ∀ z,s.ops[j]? = some z → (z.1:Int) ≠ x) (fun i _ => n - (intOf i).toNat)
  case atStart => exact ⟨0,Nat.zero_le _,rfl,by go_grown,by simp,fun j hj => absurd hj (by omega)⟩
  case round =>
   obtain ⟨k,hk,rfl,hg,c8,hb⟩:=hrel
   have HB:=Lib.hid hb
   clear hb
   by_cases hkn:k < n
   ·have ed:decide (k < n) = true:=decide_eq_true hkn
    obtain ⟨y,hy⟩:∃ y,s.ops[k]? = some y:=⟨_,List.getElem?_eq_getElem (by rw [HLEN.out];exact hkn)⟩
    have cy:wr.cell? ⟨g,k * 5,none⟩ = some (.int .i64 (y.1:Int)):=gcell hg (HC.out (k * 5 + 0) _ (flat_at (k:=5) (fun _ => rfl) (by decide) s.ops k y hy))
    have HY:=Lib.hid hy
    clear hy
    by_cases hx:(y.1:Int) = x
    ·have HX:=Lib.hid hx
     subst hx
     go_wp2_with fail
     go_ret
     refine ⟨k,rfl,.inr ⟨k,y,rfl,HY.out,rfl,?_⟩,hg⟩
     rw [lookI_nat]
     exact find_first s.ops k y HY.out fun i hi z hz => HB.out i hi z hz
    ·have ex:((y.1:Int) == x) = false:=by simpa using hx
     go_wp2_with fail
     refine ⟨⟨k + 1,hkn,by simp,hg,c8,fun j hj z hz => ?_⟩,by simp [intOf];omega⟩
     by_cases hjk:j < k
     ·exact HB.out j hjk z hz
     ·obtain rfl:j = k:=by omega
      rw [HY.out] at hz
      cases hz
      exact hx
   ·obtain rfl:k = n:=by omega
    have ed:decide (k < k) = false:=decide_eq_false (by omega)
    clear hkn
    go_wp2_with fail
    go_ret
    exact ⟨_,rfl,.inl ⟨rfl,find_none s.ops x fun i z hz => HB.out i (by
     have:=(List.getElem?_eq_some_iff.1 hz).1
     rw [HLEN.out] at this
     exact this) z hz⟩,hg⟩
end Go.Proofs.YtcogckjpmmjmbaaGreat
namespace Go.Proofs.YtcogckjpmmjmbaaGreat
open Go.ChangeShapes Go.WideShapes Go.ChangeAt Go.RowKit
set_option maxRecDepth 100000
set_option linter.unusedVariables false
structure Box (w:World) (b:Nat) (l:List Value):Prop where
 cell:∀ j u,l[j]? = some u → w.cell? ⟨b,j,none⟩ = some u
 free:∀ j,w.frozen? ⟨b,j,none⟩ = false
 lt:b < w.heap.size
theorem Box.made (w:World) (l:List Value) (t:TypeId):Box (w.alloc (.cells l.toArray t)) w.heap.size l :=
 ⟨fun j u hu => by rw [World.cell?_alloc_new];simpa using hu,fun j => by simp,by simp⟩
theorem Box.but {S:Nat → Prop} {w w':World} {b:Nat} {l:List Value} (h:Box w b l) (q:But S w w') (hs:¬ S b):Box w' b l :=
 ⟨fun j u hu => q.cell hs (h.cell j u hu),fun j => q.frozen (h.free j),Nat.lt_of_lt_of_le h.lt q.2.2⟩
theorem Box.grown {w w':World} {b:Nat} {l:List Value} (h:Box w b l) (q:Grown w w'):Box w' b l:=h.but (S:=fun _ => False) q (fun f => f)
theorem Box.set {w:World} {b:Nat} {l:List Value} (h:Box w b l) {j:Nat} (hj:j < l.length) (v:Value):Box (w.setCell ⟨b,j,none⟩ v) b (l.set j v):=by
 refine ⟨fun i u hu => ?_,fun i => (World.frozen?_setCell _ _ _ _).trans (h.free i),by simpa using h.lt⟩
 by_cases e:j = i
 ·subst e
  rw [List.getElem?_set_self hj] at hu
  cases hu
  exact World.cell?_setCell_same _ _ _ (h.cell j _ (List.getElem?_eq_getElem hj))
 ·rw [List.getElem?_set_ne e] at hu
  exact (World.cell?_setCell_other _ _ _ _ (fun q => e (congrArg Addr.off q))).trans (h.cell i u hu)
theorem Box.put {w:World} {b:Nat} {l:List Value} (h:Box w b l) {a:Addr} (ha:a.block ≠ b) (v:Value):Box (w.setCell a v) b l :=
 ⟨fun i u hu => oth ha (h.cell i u hu),fun i => (World.frozen?_setCell _ _ _ _).trans (h.free i),by simpa using h.lt⟩
def More (w:World) (hi:Nat) (l:List Nat) (h:Nat) (e:Ending) (w':World):Prop :=
 ∃ v,e = .returned v ∧ FlatAt w' hi v (vNat (bump l h)) l.length ∧ Grown w w'
theorem info_int:(Tryz.prog.info? 3).map (fun i => (i.zero,i.size,i.bytes)) = some (some (.int .i64 0),1,8):=by kernel_rfl
theorem vNat_arr {l:List Nat} {j:Nat} (hj:j < l.length) (Z:Array Value):((vNat l).toArray ++ Z)[j]? = some (.int .i64 (at_ l j:Int)):=by
 rw [Array.getElem?_append_left (by simpa [vNat] using hj)]
 simpa using vNat_at hj
theorem vNat_bump {l:List Nat} {j:Nat} (hj:j < l.length) (Z:Array Value):((vNat l).toArray ++ Z).setIfInBounds j (.int .i64 ((at_ l j:Int) + 1)) = (vNat (bump l j)).toArray ++ Z:=by
 rw [Array.setIfInBounds_append_left (by simpa [vNat] using hj)]
 simp [vNat,bump,List.map_set]
theorem more_at (w:World) (lo hi:Nat) (v:Value) (l:List Nat) (h:Nat) (hh:h < l.length) (hv:FlatAt w lo v (vNat l) l.length) (hw:hi ≤ w.heap.size) (hl:l.length ≤ 9999) (hs:at_ l h ≤ 99999) :
  Calls Tryz.prog 129 #[v,.int .i64 h] w (More w hi l h):=by
 rcases hv with ⟨h0,-⟩ | ⟨hn,g,cap,rfl,hlo,hc⟩
 ·omega
 ·have hnews:∀ w',Grown w w' → ∀ j u,(vNat l)[j]? = some u → w'.cell? ((⟨g,0,none⟩:Addr).add j) = some u:=fun w' g' j u hu => by rw [add0];exact gcell g' (hc j u hu)
  have HN:=Lib.hid hnews
  have HH:=Lib.hid hh
  have hd:decide (h < l.length) = true:=decide_eq_true hh
  have hw1:IntKind.i64.wrap ((at_ l h:Int) + 1) = (at_ l h:Int) + 1:=IntWalk.i64_in _ (by omega)
  have HL:Hid ((vNat l).length = l.length):=Lib.hid (by simp [vNat])
  clear hc hnews
  go_enter Tryz.func129,Tryz.ntmps129
  go_wp2_with (at_builtin;refine wpList_append_copy rfl _ _ 36 rfl 3 (.int .i64 0) 8 Tryz.underlying36 info_int _ rfl ⟨g,0,none⟩ l.length _ (vNat l) rfl hn HL.out (HN.out _ (by go_grown)) (by omega) (by omega) ?_;intro cap' Z hcap;have hz:=vNat_arr HH.out Z)
  go_ret
  rw [vNat_bump HH.out]
  refine ⟨_,rfl,.inr ⟨hn,_,_,rfl,by omega,fun j u hu => ?_⟩,by go_grown⟩
  have e:(w.alloc (.cells #[] 3)).heap.size = w.heap.size + 1:=by simp
  show ((w.alloc (.cells #[] 3)).alloc (.cells ((vNat (bump l h)).toArray ++ Z) 3)).cell? ⟨w.heap.size + 1,j,none⟩ = some u
  rw [← e,World.cell?_alloc_new,Array.getElem?_append_left (by have:=(List.getElem?_eq_some_iff.1 hu).1;simpa using this)]
  simpa using hu
theorem Box.fill {w:World} {b:Nat} {l:List Value} (h:Box w b l) (hl:l.length = 10) (x0 x1 x2 x3 x4 x5 x6 x7 x8 x9:Value):Box ((((((((((w.setCell ⟨b,0,none⟩ x0).setCell ⟨b,1,none⟩ x1).setCell ⟨b,2,none⟩ x2).setCell ⟨b,3,none⟩ x3).setCell ⟨b,4,none⟩ x4).setCell ⟨b,5,none⟩ x5).setCell ⟨b,6,none⟩ x6).setCell ⟨b,7,none⟩ x7).setCell ⟨b,8,none⟩ x8).setCell ⟨b,9,none⟩ x9) b [x0,x1,x2,x3,x4,x5,x6,x7,x8,x9]:=by
 have e:((((((((((l.set 0 x0).set 1 x1).set 2 x2).set 3 x3).set 4 x4).set 5 x5).set 6 x6).set 7 x7).set 8 x8).set 9 x9) = [x0,x1,x2,x3,x4,x5,x6,x7,x8,x9]:=by
  match l,hl with
  | [a0,a1,a2,a3,a4,a5,a6,a7,a8,a9],_ => rfl
 rw [← e]
 exact ((((((((((h.set (by simp [hl]) x0).set (by simp [hl]) x1).set (by simp [hl]) x2).set (by simp [hl]) x3).set (by simp [hl]) x4).set (by simp [hl]) x5).set (by simp [hl]) x6).set (by simp [hl]) x7).set (by simp [hl]) x8).set (by simp [hl]) x9)
theorem FlatAt.mono {w:World} {lo lo' n:Nat} {v:Value} {cells:List Value} (h:FlatAt w lo v cells n) (hl:lo' ≤ lo):FlatAt w lo' v cells n:=by
 rcases h with h | ⟨h0,g,cap,hv,hlo,hc⟩
 ·exact .inl h
 ·exact .inr ⟨h0,g,cap,hv,Nat.le_trans hl hlo,hc⟩
theorem But.fill {S:Nat → Prop} {W w:World} {b:Nat} (g:But S W w) (hb:S b ∨ W.heap.size ≤ b) (x0 x1 x2 x3 x4 x5 x6 x7 x8 x9:Value):But S W ((((((((((w.setCell ⟨b,0,none⟩ x0).setCell ⟨b,1,none⟩ x1).setCell ⟨b,2,none⟩ x2).setCell ⟨b,3,none⟩ x3).setCell ⟨b,4,none⟩ x4).setCell ⟨b,5,none⟩ x5).setCell ⟨b,6,none⟩ x6).setCell ⟨b,7,none⟩ x7).setCell ⟨b,8,none⟩ x8).setCell ⟨b,9,none⟩ x9) :=
 (((((((((g.setCell hb x0).setCell hb x1).setCell hb x2).setCell hb x3).setCell hb x4).setCell hb x5).setCell hb x6).setCell hb x7).setCell hb x8).setCell hb x9
theorem Grown.fill {W w:World} {b:Nat} (g:Grown W w) (hb:W.heap.size ≤ b) (x0 x1 x2 x3 x4 x5 x6 x7 x8 x9:Value):Grown W ((((((((((w.setCell ⟨b,0,none⟩ x0).setCell ⟨b,1,none⟩ x1).setCell ⟨b,2,none⟩ x2).setCell ⟨b,3,none⟩ x3).setCell ⟨b,4,none⟩ x4).setCell ⟨b,5,none⟩ x5).setCell ⟨b,6,none⟩ x6).setCell ⟨b,7,none⟩ x7).setCell ⟨b,8,none⟩ x8).setCell ⟨b,9,none⟩ x9) :=
 (((((((((g.setCell hb x0).setCell hb x1).setCell hb x2).setCell hb x3).setCell hb x4).setCell hb x5).setCell hb x6).setCell hb x7).setCell hb x8).setCell hb x9
def RNew (hi:Nat) (c:Cf) (w:World) (e:Ending) (w':World):Prop :=
 ∃ s1 s2 s3 s4 s5,e = .returned (.tuple #[RV c s1 s2 s3 s4 s5,.int .i64 0]) ∧ RefS w' hi c (St.new c) s1 s2 s3 s4 s5 ∧ Grown w w'
theorem vNat_zeros (n:Nat) (j:Nat) (u:Value) (hu:(vNat (List.replicate n 0))[j]? = some u):(madeCells (Value.int .i64 0).cells (n * 1))[j]? = some u:=by
 have hj:=(List.getElem?_eq_some_iff.1 hu).1
 have hjn:j < n:=by simpa [vNat] using hj
 rw [List.getElem?_eq_getElem hj] at hu
 simp only [vNat,List.getElem_map,List.getElem_replicate] at hu
 simp [madeCells,hjn,Value.cells,← hu,Nat.mod_one]
theorem made_zeros {n:Nat} {Z:Array Value} (hZ:madeCells (Value.int .i64 0).cells (n * 1) = Z) (w:World) (hi:Nat) (hn:1 ≤ n) (hw:hi ≤ w.heap.size):FlatAt (w.alloc (.cells Z 3)) hi (.slice (some ⟨w.heap.size,0,none⟩) n n) (vNat (List.replicate n 0)) n :=
 .inr ⟨hn,_,_,rfl,hw,fun j u hu => by rw [World.cell?_alloc_new,← hZ];exact vNat_zeros n j u hu⟩
set_option maxHeartbeats 2000000 in
theorem rNew_at (w:World) (hi:Nat) (c:Cf) (hok:c.Ok) (hw:hi ≤ w.heap.size):Calls Tryz.prog 125 #[c.v] w (RNew hi c w):=by
 have hu:(if zOk c.t c.b c.i c.f c.k = true then 0 else 1) = (0:Int):=if_pos hok.z
 have HU:=Lib.hid hu;clear hu
 have t8:=hok.t8
 have t1:=hok.t1
 have hmk:∀ w:World,(Instr.makeSlice 36 (.int .i64 c.t) (.int .i64 c.t)).run Tryz.prog w = .ok (.slice (some ⟨w.heap.size,0,none⟩) c.t c.t) (w.alloc (.cells (madeCells (Value.int .i64 0).cells (c.t * 1)) 3)):=by
  intro w
  obtain ⟨i,hi1,hi2,hi3,hi4⟩:=info_parts info_int
  have:=run_make (P:=Tryz.prog) w 36 3 i (.int .i64 0) Tryz.underlying36 hi1 hi2 .i64 .i64 c.t c.t (by omega) (by omega) (by rw [hi4];omega) (by omega)
  rw [hi3] at this
  simpa using this
 obtain ⟨Z,hZ⟩:∃ Z,madeCells (Value.int .i64 0).cells (c.t * 1) = Z:=⟨_,rfl⟩
 rw [hZ] at hmk
 have HZ:=Lib.hid hZ
 clear hZ
 unfold Cf.v
 clear hok
 go_enter Tryz.func125,Tryz.ntmps125
 go_wp2_with fail
 refine (rMayC_at _ _ _ _ _ _ _ HU.out).mono ?_;rintro e w1 ⟨rfl,g1⟩
 have a0:w1.cell? ⟨w.heap.size,0,none⟩ = some (.int .i64 c.t):=gcell g1 (by simp)
 have a1:w1.cell? ⟨w.heap.size,1,none⟩ = some (.int .i64 c.b):=gcell g1 (by simp)
 have a2:w1.cell? ⟨w.heap.size,2,none⟩ = some (.int .i64 c.i):=gcell g1 (by simp)
 have a3:w1.cell? ⟨w.heap.size,3,none⟩ = some (.int .i64 c.f):=gcell g1 (by simp)
 have a4:w1.cell? ⟨w.heap.size,4,none⟩ = some (.int .i64 c.k):=gcell g1 (by simp)
 have B:=(Box.made (w.alloc (.cells #[.int .i64 c.t,.int .i64 c.b,.int .i64 c.i,.int .i64 c.f,.int .i64 c.k] 32)) [.int .i64 0,.int .i64 0,.int .i64 0,.int .i64 0,.int .i64 0,.slice none 0 0,.slice none 0 0,.slice none 0 0,.slice none 0 0,.slice none 0 0] 40).grown g1
 have hsz:(w.alloc (.cells #[.int .i64 c.t,.int .i64 c.b,.int .i64 c.i,.int .i64 c.f,.int .i64 c.k] 32)).heap.size = w.heap.size + 1:=by simp
 rw [hsz] at B
 clear hsz
 have HB:=Lib.hid B
 clear B
 replace g1:=galloc (galloc g1)
 go_wp2_with fail
 refine wp_region_planb (· = w.heap.size + 1) (.three [0,1,2,4,5,7,8] 3 (.two [] 6 (.one [] 9 (.one [10] 11 (.fin [12]))) 9 (.one [] 6 (.one [10] 11 (.fin [12])))) 6 (.two [] 3 (.one [] 9 (.one [10] 11 (.fin [12]))) 9 (.one [] 3 (.one [10] 11 (.fin [12])))) 9 (.two [] 3 (.one [] 6 (.one [10] 11 (.fin [12]))) 6 (.one [] 3 (.one [10] 11 (.fin [12]))))) (by kernel_rfl) (by kernel_rfl) (by kernel_rfl) ?_
 intro w2 g2
 have d0:∀ g:ButW (· = w.heap.size + 1) w2,g.w.cell? ⟨w.heap.size,0,none⟩ = some (.int .i64 c.t):=ButW.cell (by omega) (gcell g2 a0)
 have d1:∀ g:ButW (· = w.heap.size + 1) w2,g.w.cell? ⟨w.heap.size,1,none⟩ = some (.int .i64 c.b):=ButW.cell (by omega) (gcell g2 a1)
 have d2:∀ g:ButW (· = w.heap.size + 1) w2,g.w.cell? ⟨w.heap.size,2,none⟩ = some (.int .i64 c.i):=ButW.cell (by omega) (gcell g2 a2)
 have d3:∀ g:ButW (· = w.heap.size + 1) w2,g.w.cell? ⟨w.heap.size,3,none⟩ = some (.int .i64 c.f):=ButW.cell (by omega) (gcell g2 a3)
 have d4:∀ g:ButW (· = w.heap.size + 1) w2,g.w.cell? ⟨w.heap.size,4,none⟩ = some (.int .i64 c.k):=ButW.cell (by omega) (gcell g2 a4)
 replace g1:=gtr g1 g2
 replace HB:=Lib.hid (HB.out.grown g2)
 clear g2 a0 a1 a2 a3 a4
 refine plan_three ?_
 simp only [nths,nth,List.map_cons,List.map_nil,List.getD_cons_zero,List.getD_cons_succ]
 repeat go_big_quiet_step (fail)
 clear d0 d1 d2 d3 d4
 refine wpQuiet_nil ⟨?_,?_,?_⟩
 all_goals have G:Grown w2 w2:=Grown.refl _
 ·go_wp2_with fail
  have ku1:Grown w2 (w2.alloc (.cells Z 3)):=by go_grown
  have Fx:FlatAt (w2.alloc (.cells Z 3)) w2.heap.size (.slice (some ⟨w2.heap.size,0,none⟩) c.t c.t) (vNat (List.replicate c.t 0)) c.t:=made_zeros HZ.out w2 w2.heap.size t1 G.2.2
  replace G:=gtr G ku1
  generalize w2.alloc (.cells Z 3) = u1 at *
  obtain ⟨px,hsx⟩:∃ q,w2.heap.size = q:=⟨_,rfl⟩
  replace Fx:FlatAt u1 w2.heap.size (.slice (some ⟨px,0,none⟩) c.t c.t) (vNat (List.replicate c.t 0)) c.t:=by rw [← hsx];exact Fx
  rw [hsx]
  clear hsx
  refine nxt_but (But.of_grown G) (plan_two ?_)
  simp only [nths,nth,List.map_nil,List.getD_cons_zero,List.getD_cons_succ]
  refine wpQuiet_nil ⟨?_,?_⟩
  ·go_wp2_with fail
   have ku2:Grown u1 (u1.alloc (.cells Z 3)):=by go_grown
   have Fy:FlatAt (u1.alloc (.cells Z 3)) w2.heap.size (.slice (some ⟨u1.heap.size,0,none⟩) c.t c.t) (vNat (List.replicate c.t 0)) c.t:=made_zeros HZ.out u1 w2.heap.size t1 G.2.2
   replace Fx:=Fx.grown ku2
   replace G:=gtr G ku2
   generalize u1.alloc (.cells Z 3) = u2 at *
   obtain ⟨py,hsy⟩:∃ q,u1.heap.size = q:=⟨_,rfl⟩
   replace Fy:FlatAt u2 w2.heap.size (.slice (some ⟨py,0,none⟩) c.t c.t) (vNat (List.replicate c.t 0)) c.t:=by rw [← hsy];exact Fy
   rw [hsy]
   clear hsy
   refine nxt_but (But.of_grown G) (plan_one ?_)
   simp only [nths,nth,List.map_nil,List.getD_cons_zero,List.getD_cons_succ]
   refine wpQuiet_nil ?_
   go_wp2_with fail
   have ku3:Grown u2 (u2.alloc (.cells Z 3)):=by go_grown
   have Fz:FlatAt (u2.alloc (.cells Z 3)) w2.heap.size (.slice (some ⟨u2.heap.size,0,none⟩) c.t c.t) (vNat (List.replicate c.t 0)) c.t:=made_zeros HZ.out u2 w2.heap.size t1 G.2.2
   replace Fx:=Fx.grown ku3
   replace Fy:=Fy.grown ku3
   replace G:=gtr G ku3
   generalize u2.alloc (.cells Z 3) = u3 at *
   obtain ⟨pz,hsz⟩:∃ q,u2.heap.size = q:=⟨_,rfl⟩
   replace Fz:FlatAt u3 w2.heap.size (.slice (some ⟨pz,0,none⟩) c.t c.t) (vNat (List.replicate c.t 0)) c.t:=by rw [← hsz];exact Fz
   rw [hsz]
   clear hsz
   refine nxt_but (But.of_grown G) (plan_one ?_)
   simp only [nths,nth,List.map_cons,List.map_nil,List.getD_cons_zero,List.getD_cons_succ]
   repeat go_big_quiet_step (fail)
   refine wpQuiet_nil ?_
   have HC:=Lib.hid (HB.out.grown G)
   have c0:=HC.out.cell 0 _ rfl;have f0:=HC.out.free 0
   have c1:=HC.out.cell 1 _ rfl;have f1:=HC.out.free 1
   have c2:=HC.out.cell 2 _ rfl;have f2:=HC.out.free 2
   have c3:=HC.out.cell 3 _ rfl;have f3:=HC.out.free 3
   have c4:=HC.out.cell 4 _ rfl;have f4:=HC.out.free 4
   have c5:=HC.out.cell 5 _ rfl;have f5:=HC.out.free 5
   have c6:=HC.out.cell 6 _ rfl;have f6:=HC.out.free 6
   have c7:=HC.out.cell 7 _ rfl;have f7:=HC.out.free 7
   have c8:=HC.out.cell 8 _ rfl;have f8:=HC.out.free 8
   have c9:=HC.out.cell 9 _ rfl;have f9:=HC.out.free 9
   have hlt:=HC.out.lt
   have hlt2:=HB.out.lt
   go_wp2_with fail
   have B2:=HC.out.fill rfl (.int .i64 c.t) (.int .i64 c.b) (.int .i64 c.i) (.int .i64 c.f) (.int .i64 c.k) ((.slice (some ⟨px,0,none⟩) c.t c.t)) ((.slice (some ⟨py,0,none⟩) c.t c.t)) ((.slice (some ⟨pz,0,none⟩) c.t c.t)) (.slice none 0 0) (.slice none 0 0)
   have kS:=(But.refl (· = w.heap.size + 1) u3).fill (b:=w.heap.size + 1) (.inl rfl) (.int .i64 c.t) (.int .i64 c.b) (.int .i64 c.i) (.int .i64 c.f) (.int .i64 c.k) ((.slice (some ⟨px,0,none⟩) c.t c.t)) ((.slice (some ⟨py,0,none⟩) c.t c.t)) ((.slice (some ⟨pz,0,none⟩) c.t c.t)) (.slice none 0 0) (.slice none 0 0)
   have qS:=(But.of_grown G).trans kS
   replace Fx:=(Fx.but kS (fun i hi e => by omega)).mono (lo':=hi) (by have:=g1.2.2;omega)
   replace Fy:=(Fy.but kS (fun i hi e => by omega)).mono (lo':=hi) (by have:=g1.2.2;omega)
   replace Fz:=(Fz.but kS (fun i hi e => by omega)).mono (lo':=hi) (by have:=g1.2.2;omega)
   refine nxt_but qS (plan_fin ?_)
   clear kS c0 f0 c1 f1 c2 f2 c3 f3 c4 f4 c5 f5 c6 f6 c7 f7 c8 f8 c9 f9
   simp only [nths,nth,List.map_cons,List.map_nil,List.getD_cons_zero,List.getD_cons_succ]
   repeat go_big_quiet_step (fail)
   refine wpQuiet_nil ?_
   have e0:=B2.cell 0 _ rfl
   have e1:=B2.cell 1 _ rfl
   have e2:=B2.cell 2 _ rfl
   have e3:=B2.cell 3 _ rfl
   have e4:=B2.cell 4 _ rfl
   have e5:=B2.cell 5 _ rfl
   have e6:=B2.cell 6 _ rfl
   have e7:=B2.cell 7 _ rfl
   have e8:=B2.cell 8 _ rfl
   have e9:=B2.cell 9 _ rfl
   have gE:=But.fresh g1 qS (fun i hi => by omega)
   clear B2 qS G HC
   go_wp2_with fail
   refine bodyPost_ret (v:=.tuple #[RV c (.slice (some ⟨px,0,none⟩) c.t c.t) (.slice (some ⟨py,0,none⟩) c.t c.t) (.slice (some ⟨pz,0,none⟩) c.t c.t) (.slice none 0 0) (.slice none 0 0),.int .i64 0]) (by simp [results,Tryz.results125,go_sem,RV,e0,e1,e2,e3,e4,e5,e6,e7,e8,e9]) rfl ?_
   exact ⟨_,_,_,_,_,rfl,⟨Fx,Fy,Fz,.inl ⟨rfl,rfl,rfl⟩,.inl ⟨rfl,rfl,rfl⟩⟩,gE⟩
  ·go_wp2_with fail
   have ku4:Grown u1 (u1.alloc (.cells Z 3)):=by go_grown
   have Fz:FlatAt (u1.alloc (.cells Z 3)) w2.heap.size (.slice (some ⟨u1.heap.size,0,none⟩) c.t c.t) (vNat (List.replicate c.t 0)) c.t:=made_zeros HZ.out u1 w2.heap.size t1 G.2.2
   replace Fx:=Fx.grown ku4
   replace G:=gtr G ku4
   generalize u1.alloc (.cells Z 3) = u4 at *
   obtain ⟨pz,hsz⟩:∃ q,u1.heap.size = q:=⟨_,rfl⟩
   replace Fz:FlatAt u4 w2.heap.size (.slice (some ⟨pz,0,none⟩) c.t c.t) (vNat (List.replicate c.t 0)) c.t:=by rw [← hsz];exact Fz
   rw [hsz]
   clear hsz
   refine nxt_but (But.of_grown G) (plan_one ?_)
   simp only [nths,nth,List.map_nil,List.getD_cons_zero,List.getD_cons_succ]
   refine wpQuiet_nil ?_
   go_wp2_with fail
   have ku5:Grown u4 (u4.alloc (.cells Z 3)):=by go_grown
   have Fy:FlatAt (u4.alloc (.cells Z 3)) w2.heap.size (.slice (some ⟨u4.heap.size,0,none⟩) c.t c.t) (vNat (List.replicate c.t 0)) c.t:=made_zeros HZ.out u4 w2.heap.size t1 G.2.2
   replace Fx:=Fx.grown ku5
   replace Fz:=Fz.grown ku5
   replace G:=gtr G ku5
   generalize u4.alloc (.cells Z 3) = u5 at *
   obtain ⟨py,hsy⟩:∃ q,u4.heap.size = q:=⟨_,rfl⟩
   replace Fy:FlatAt u5 w2.heap.size (.slice (some ⟨py,0,none⟩) c.t c.t) (vNat (List.replicate c.t 0)) c.t:=by rw [← hsy];exact Fy
   rw [hsy]
   clear hsy
   refine nxt_but (But.of_grown G) (plan_one ?_)
   simp only [nths,nth,List.map_cons,List.map_nil,List.getD_cons_zero,List.getD_cons_succ]
   repeat go_big_quiet_step (fail)
   refine wpQuiet_nil ?_
   have HC:=Lib.hid (HB.out.grown G)
   have c0:=HC.out.cell 0 _ rfl;have f0:=HC.out.free 0
   have c1:=HC.out.cell 1 _ rfl;have f1:=HC.out.free 1
   have c2:=HC.out.cell 2 _ rfl;have f2:=HC.out.free 2
   have c3:=HC.out.cell 3 _ rfl;have f3:=HC.out.free 3
   have c4:=HC.out.cell 4 _ rfl;have f4:=HC.out.free 4
   have c5:=HC.out.cell 5 _ rfl;have f5:=HC.out.free 5
   have c6:=HC.out.cell 6 _ rfl;have f6:=HC.out.free 6
   have c7:=HC.out.cell 7 _ rfl;have f7:=HC.out.free 7
   have c8:=HC.out.cell 8 _ rfl;have f8:=HC.out.free 8
   have c9:=HC.out.cell 9 _ rfl;have f9:=HC.out.free 9
   have hlt:=HC.out.lt
   have hlt2:=HB.out.lt
   go_wp2_with fail
   have B2:=HC.out.fill rfl (.int .i64 c.t) (.int .i64 c.b) (.int .i64 c.i) (.int .i64 c.f) (.int .i64 c.k) ((.slice (some ⟨px,0,none⟩) c.t c.t)) ((.slice (some ⟨py,0,none⟩) c.t c.t)) ((.slice (some ⟨pz,0,none⟩) c.t c.t)) (.slice none 0 0) (.slice none 0 0)
   have kS:=(But.refl (· = w.heap.size + 1) u5).fill (b:=w.heap.size + 1) (.inl rfl) (.int .i64 c.t) (.int .i64 c.b) (.int .i64 c.i) (.int .i64 c.f) (.int .i64 c.k) ((.slice (some ⟨px,0,none⟩) c.t c.t)) ((.slice (some ⟨py,0,none⟩) c.t c.t)) ((.slice (some ⟨pz,0,none⟩) c.t c.t)) (.slice none 0 0) (.slice none 0 0)
   have qS:=(But.of_grown G).trans kS
   replace Fx:=(Fx.but kS (fun i hi e => by omega)).mono (lo':=hi) (by have:=g1.2.2;omega)
   replace Fy:=(Fy.but kS (fun i hi e => by omega)).mono (lo':=hi) (by have:=g1.2.2;omega)
   replace Fz:=(Fz.but kS (fun i hi e => by omega)).mono (lo':=hi) (by have:=g1.2.2;omega)
   refine nxt_but qS (plan_fin ?_)
   clear kS c0 f0 c1 f1 c2 f2 c3 f3 c4 f4 c5 f5 c6 f6 c7 f7 c8 f8 c9 f9
   simp only [nths,nth,List.map_cons,List.map_nil,List.getD_cons_zero,List.getD_cons_succ]
   repeat go_big_quiet_step (fail)
   refine wpQuiet_nil ?_
   have e0:=B2.cell 0 _ rfl
   have e1:=B2.cell 1 _ rfl
   have e2:=B2.cell 2 _ rfl
   have e3:=B2.cell 3 _ rfl
   have e4:=B2.cell 4 _ rfl
   have e5:=B2.cell 5 _ rfl
   have e6:=B2.cell 6 _ rfl
   have e7:=B2.cell 7 _ rfl
   have e8:=B2.cell 8 _ rfl
   have e9:=B2.cell 9 _ rfl
   have gE:=But.fresh g1 qS (fun i hi => by omega)
   clear B2 qS G HC
   go_wp2_with fail
   refine bodyPost_ret (v:=.tuple #[RV c (.slice (some ⟨px,0,none⟩) c.t c.t) (.slice (some ⟨py,0,none⟩) c.t c.t) (.slice (some ⟨pz,0,none⟩) c.t c.t) (.slice none 0 0) (.slice none 0 0),.int .i64 0]) (by simp [results,Tryz.results125,go_sem,RV,e0,e1,e2,e3,e4,e5,e6,e7,e8,e9]) rfl ?_
   exact ⟨_,_,_,_,_,rfl,⟨Fx,Fy,Fz,.inl ⟨rfl,rfl,rfl⟩,.inl ⟨rfl,rfl,rfl⟩⟩,gE⟩
 ·go_wp2_with fail
  have ku6:Grown w2 (w2.alloc (.cells Z 3)):=by go_grown
  have Fy:FlatAt (w2.alloc (.cells Z 3)) w2.heap.size (.slice (some ⟨w2.heap.size,0,none⟩) c.t c.t) (vNat (List.replicate c.t 0)) c.t:=made_zeros HZ.out w2 w2.heap.size t1 G.2.2
  replace G:=gtr G ku6
  generalize w2.alloc (.cells Z 3) = u6 at *
  obtain ⟨py,hsy⟩:∃ q,w2.heap.size = q:=⟨_,rfl⟩
  replace Fy:FlatAt u6 w2.heap.size (.slice (some ⟨py,0,none⟩) c.t c.t) (vNat (List.replicate c.t 0)) c.t:=by rw [← hsy];exact Fy
  rw [hsy]
  clear hsy
  refine nxt_but (But.of_grown G) (plan_two ?_)
  simp only [nths,nth,List.map_nil,List.getD_cons_zero,List.getD_cons_succ]
  refine wpQuiet_nil ⟨?_,?_⟩
  ·go_wp2_with fail
   have ku7:Grown u6 (u6.alloc (.cells Z 3)):=by go_grown
   have Fx:FlatAt (u6.alloc (.cells Z 3)) w2.heap.size (.slice (some ⟨u6.heap.size,0,none⟩) c.t c.t) (vNat (List.replicate c.t 0)) c.t:=made_zeros HZ.out u6 w2.heap.size t1 G.2.2
   replace Fy:=Fy.grown ku7
   replace G:=gtr G ku7
   generalize u6.alloc (.cells Z 3) = u7 at *
   obtain ⟨px,hsx⟩:∃ q,u6.heap.size = q:=⟨_,rfl⟩
   replace Fx:FlatAt u7 w2.heap.size (.slice (some ⟨px,0,none⟩) c.t c.t) (vNat (List.replicate c.t 0)) c.t:=by rw [← hsx];exact Fx
   rw [hsx]
   clear hsx
   refine nxt_but (But.of_grown G) (plan_one ?_)
   simp only [nths,nth,List.map_nil,List.getD_cons_zero,List.getD_cons_succ]
   refine wpQuiet_nil ?_
   go_wp2_with fail
   have ku8:Grown u7 (u7.alloc (.cells Z 3)):=by go_grown
   have Fz:FlatAt (u7.alloc (.cells Z 3)) w2.heap.size (.slice (some ⟨u7.heap.size,0,none⟩) c.t c.t) (vNat (List.replicate c.t 0)) c.t:=made_zeros HZ.out u7 w2.heap.size t1 G.2.2
   replace Fy:=Fy.grown ku8
   replace Fx:=Fx.grown ku8
   replace G:=gtr G ku8
   generalize u7.alloc (.cells Z 3) = u8 at *
   obtain ⟨pz,hsz⟩:∃ q,u7.heap.size = q:=⟨_,rfl⟩
   replace Fz:FlatAt u8 w2.heap.size (.slice (some ⟨pz,0,none⟩) c.t c.t) (vNat (List.replicate c.t 0)) c.t:=by rw [← hsz];exact Fz
   rw [hsz]
   clear hsz
   refine nxt_but (But.of_grown G) (plan_one ?_)
   simp only [nths,nth,List.map_cons,List.map_nil,List.getD_cons_zero,List.getD_cons_succ]
   repeat go_big_quiet_step (fail)
   refine wpQuiet_nil ?_
   have HC:=Lib.hid (HB.out.grown G)
   have c0:=HC.out.cell 0 _ rfl;have f0:=HC.out.free 0
   have c1:=HC.out.cell 1 _ rfl;have f1:=HC.out.free 1
   have c2:=HC.out.cell 2 _ rfl;have f2:=HC.out.free 2
   have c3:=HC.out.cell 3 _ rfl;have f3:=HC.out.free 3
   have c4:=HC.out.cell 4 _ rfl;have f4:=HC.out.free 4
   have c5:=HC.out.cell 5 _ rfl;have f5:=HC.out.free 5
   have c6:=HC.out.cell 6 _ rfl;have f6:=HC.out.free 6
   have c7:=HC.out.cell 7 _ rfl;have f7:=HC.out.free 7
   have c8:=HC.out.cell 8 _ rfl;have f8:=HC.out.free 8
   have c9:=HC.out.cell 9 _ rfl;have f9:=HC.out.free 9
   have hlt:=HC.out.lt
   have hlt2:=HB.out.lt
   go_wp2_with fail
   have B2:=HC.out.fill rfl (.int .i64 c.t) (.int .i64 c.b) (.int .i64 c.i) (.int .i64 c.f) (.int .i64 c.k) ((.slice (some ⟨px,0,none⟩) c.t c.t)) ((.slice (some ⟨py,0,none⟩) c.t c.t)) ((.slice (some ⟨pz,0,none⟩) c.t c.t)) (.slice none 0 0) (.slice none 0 0)
   have kS:=(But.refl (· = w.heap.size + 1) u8).fill (b:=w.heap.size + 1) (.inl rfl) (.int .i64 c.t) (.int .i64 c.b) (.int .i64 c.i) (.int .i64 c.f) (.int .i64 c.k) ((.slice (some ⟨px,0,none⟩) c.t c.t)) ((.slice (some ⟨py,0,none⟩) c.t c.t)) ((.slice (some ⟨pz,0,none⟩) c.t c.t)) (.slice none 0 0) (.slice none 0 0)
   have qS:=(But.of_grown G).trans kS
   replace Fx:=(Fx.but kS (fun i hi e => by omega)).mono (lo':=hi) (by have:=g1.2.2;omega)
   replace Fy:=(Fy.but kS (fun i hi e => by omega)).mono (lo':=hi) (by have:=g1.2.2;omega)
   replace Fz:=(Fz.but kS (fun i hi e => by omega)).mono (lo':=hi) (by have:=g1.2.2;omega)
   refine nxt_but qS (plan_fin ?_)
   clear kS c0 f0 c1 f1 c2 f2 c3 f3 c4 f4 c5 f5 c6 f6 c7 f7 c8 f8 c9 f9
   simp only [nths,nth,List.map_cons,List.map_nil,List.getD_cons_zero,List.getD_cons_succ]
   repeat go_big_quiet_step (fail)
   refine wpQuiet_nil ?_
   have e0:=B2.cell 0 _ rfl
   have e1:=B2.cell 1 _ rfl
   have e2:=B2.cell 2 _ rfl
   have e3:=B2.cell 3 _ rfl
   have e4:=B2.cell 4 _ rfl
   have e5:=B2.cell 5 _ rfl
   have e6:=B2.cell 6 _ rfl
   have e7:=B2.cell 7 _ rfl
   have e8:=B2.cell 8 _ rfl
   have e9:=B2.cell 9 _ rfl
   have gE:=But.fresh g1 qS (fun i hi => by omega)
   clear B2 qS G HC
   go_wp2_with fail
   refine bodyPost_ret (v:=.tuple #[RV c (.slice (some ⟨px,0,none⟩) c.t c.t) (.slice (some ⟨py,0,none⟩) c.t c.t) (.slice (some ⟨pz,0,none⟩) c.t c.t) (.slice none 0 0) (.slice none 0 0),.int .i64 0]) (by simp [results,Tryz.results125,go_sem,RV,e0,e1,e2,e3,e4,e5,e6,e7,e8,e9]) rfl ?_
   exact ⟨_,_,_,_,_,rfl,⟨Fx,Fy,Fz,.inl ⟨rfl,rfl,rfl⟩,.inl ⟨rfl,rfl,rfl⟩⟩,gE⟩
  ·go_wp2_with fail
   have ku9:Grown u6 (u6.alloc (.cells Z 3)):=by go_grown
   have Fz:FlatAt (u6.alloc (.cells Z 3)) w2.heap.size (.slice (some ⟨u6.heap.size,0,none⟩) c.t c.t) (vNat (List.replicate c.t 0)) c.t:=made_zeros HZ.out u6 w2.heap.size t1 G.2.2
   replace Fy:=Fy.grown ku9
   replace G:=gtr G ku9
   generalize u6.alloc (.cells Z 3) = u9 at *
   obtain ⟨pz,hsz⟩:∃ q,u6.heap.size = q:=⟨_,rfl⟩
   replace Fz:FlatAt u9 w2.heap.size (.slice (some ⟨pz,0,none⟩) c.t c.t) (vNat (List.replicate c.t 0)) c.t:=by rw [← hsz];exact Fz
   rw [hsz]
   clear hsz
   refine nxt_but (But.of_grown G) (plan_one ?_)
   simp only [nths,nth,List.map_nil,List.getD_cons_zero,List.getD_cons_succ]
   refine wpQuiet_nil ?_
   go_wp2_with fail
   have ku10:Grown u9 (u9.alloc (.cells Z 3)):=by go_grown
   have Fx:FlatAt (u9.alloc (.cells Z 3)) w2.heap.size (.slice (some ⟨u9.heap.size,0,none⟩) c.t c.t) (vNat (List.replicate c.t 0)) c.t:=made_zeros HZ.out u9 w2.heap.size t1 G.2.2
   replace Fy:=Fy.grown ku10
   replace Fz:=Fz.grown ku10
   replace G:=gtr G ku10
   generalize u9.alloc (.cells Z 3) = u10 at *
   obtain ⟨px,hsx⟩:∃ q,u9.heap.size = q:=⟨_,rfl⟩
   replace Fx:FlatAt u10 w2.heap.size (.slice (some ⟨px,0,none⟩) c.t c.t) (vNat (List.replicate c.t 0)) c.t:=by rw [← hsx];exact Fx
   rw [hsx]
   clear hsx
   refine nxt_but (But.of_grown G) (plan_one ?_)
   simp only [nths,nth,List.map_cons,List.map_nil,List.getD_cons_zero,List.getD_cons_succ]
   repeat go_big_quiet_step (fail)
   refine wpQuiet_nil ?_
   have HC:=Lib.hid (HB.out.grown G)
   have c0:=HC.out.cell 0 _ rfl;have f0:=HC.out.free 0
   have c1:=HC.out.cell 1 _ rfl;have f1:=HC.out.free 1
   have c2:=HC.out.cell 2 _ rfl;have f2:=HC.out.free 2
   have c3:=HC.out.cell 3 _ rfl;have f3:=HC.out.free 3
   have c4:=HC.out.cell 4 _ rfl;have f4:=HC.out.free 4
   have c5:=HC.out.cell 5 _ rfl;have f5:=HC.out.free 5
   have c6:=HC.out.cell 6 _ rfl;have f6:=HC.out.free 6
   have c7:=HC.out.cell 7 _ rfl;have f7:=HC.out.free 7
   have c8:=HC.out.cell 8 _ rfl;have f8:=HC.out.free 8
   have c9:=HC.out.cell 9 _ rfl;have f9:=HC.out.free 9
   have hlt:=HC.out.lt
   have hlt2:=HB.out.lt
   go_wp2_with fail
   have B2:=HC.out.fill rfl (.int .i64 c.t) (.int .i64 c.b) (.int .i64 c.i) (.int .i64 c.f) (.int .i64 c.k) ((.slice (some ⟨px,0,none⟩) c.t c.t)) ((.slice (some ⟨py,0,none⟩) c.t c.t)) ((.slice (some ⟨pz,0,none⟩) c.t c.t)) (.slice none 0 0) (.slice none 0 0)
   have kS:=(But.refl (· = w.heap.size + 1) u10).fill (b:=w.heap.size + 1) (.inl rfl) (.int .i64 c.t) (.int .i64 c.b) (.int .i64 c.i) (.int .i64 c.f) (.int .i64 c.k) ((.slice (some ⟨px,0,none⟩) c.t c.t)) ((.slice (some ⟨py,0,none⟩) c.t c.t)) ((.slice (some ⟨pz,0,none⟩) c.t c.t)) (.slice none 0 0) (.slice none 0 0)
   have qS:=(But.of_grown G).trans kS
   replace Fx:=(Fx.but kS (fun i hi e => by omega)).mono (lo':=hi) (by have:=g1.2.2;omega)
   replace Fy:=(Fy.but kS (fun i hi e => by omega)).mono (lo':=hi) (by have:=g1.2.2;omega)
   replace Fz:=(Fz.but kS (fun i hi e => by omega)).mono (lo':=hi) (by have:=g1.2.2;omega)
   refine nxt_but qS (plan_fin ?_)
   clear kS c0 f0 c1 f1 c2 f2 c3 f3 c4 f4 c5 f5 c6 f6 c7 f7 c8 f8 c9 f9
   simp only [nths,nth,List.map_cons,List.map_nil,List.getD_cons_zero,List.getD_cons_succ]
   repeat go_big_quiet_step (fail)
   refine wpQuiet_nil ?_
   have e0:=B2.cell 0 _ rfl
   have e1:=B2.cell 1 _ rfl
   have e2:=B2.cell 2 _ rfl
   have e3:=B2.cell 3 _ rfl
   have e4:=B2.cell 4 _ rfl
   have e5:=B2.cell 5 _ rfl
   have e6:=B2.cell 6 _ rfl
   have e7:=B2.cell 7 _ rfl
   have e8:=B2.cell 8 _ rfl
   have e9:=B2.cell 9 _ rfl
   have gE:=But.fresh g1 qS (fun i hi => by omega)
   clear B2 qS G HC
   go_wp2_with fail
   refine bodyPost_ret (v:=.tuple #[RV c (.slice (some ⟨px,0,none⟩) c.t c.t) (.slice (some ⟨py,0,none⟩) c.t c.t) (.slice (some ⟨pz,0,none⟩) c.t c.t) (.slice none 0 0) (.slice none 0 0),.int .i64 0]) (by simp [results,Tryz.results125,go_sem,RV,e0,e1,e2,e3,e4,e5,e6,e7,e8,e9]) rfl ?_
   exact ⟨_,_,_,_,_,rfl,⟨Fx,Fy,Fz,.inl ⟨rfl,rfl,rfl⟩,.inl ⟨rfl,rfl,rfl⟩⟩,gE⟩
 ·go_wp2_with fail
  have ku11:Grown w2 (w2.alloc (.cells Z 3)):=by go_grown
  have Fz:FlatAt (w2.alloc (.cells Z 3)) w2.heap.size (.slice (some ⟨w2.heap.size,0,none⟩) c.t c.t) (vNat (List.replicate c.t 0)) c.t:=made_zeros HZ.out w2 w2.heap.size t1 G.2.2
  replace G:=gtr G ku11
  generalize w2.alloc (.cells Z 3) = u11 at *
  obtain ⟨pz,hsz⟩:∃ q,w2.heap.size = q:=⟨_,rfl⟩
  replace Fz:FlatAt u11 w2.heap.size (.slice (some ⟨pz,0,none⟩) c.t c.t) (vNat (List.replicate c.t 0)) c.t:=by rw [← hsz];exact Fz
  rw [hsz]
  clear hsz
  refine nxt_but (But.of_grown G) (plan_two ?_)
  simp only [nths,nth,List.map_nil,List.getD_cons_zero,List.getD_cons_succ]
  refine wpQuiet_nil ⟨?_,?_⟩
  ·go_wp2_with fail
   have ku12:Grown u11 (u11.alloc (.cells Z 3)):=by go_grown
   have Fx:FlatAt (u11.alloc (.cells Z 3)) w2.heap.size (.slice (some ⟨u11.heap.size,0,none⟩) c.t c.t) (vNat (List.replicate c.t 0)) c.t:=made_zeros HZ.out u11 w2.heap.size t1 G.2.2
   replace Fz:=Fz.grown ku12
   replace G:=gtr G ku12
   generalize u11.alloc (.cells Z 3) = u12 at *
   obtain ⟨px,hsx⟩:∃ q,u11.heap.size = q:=⟨_,rfl⟩
   replace Fx:FlatAt u12 w2.heap.size (.slice (some ⟨px,0,none⟩) c.t c.t) (vNat (List.replicate c.t 0)) c.t:=by rw [← hsx];exact Fx
   rw [hsx]
   clear hsx
   refine nxt_but (But.of_grown G) (plan_one ?_)
   simp only [nths,nth,List.map_nil,List.getD_cons_zero,List.getD_cons_succ]
   refine wpQuiet_nil ?_
   go_wp2_with fail
   have ku13:Grown u12 (u12.alloc (.cells Z 3)):=by go_grown
   have Fy:FlatAt (u12.alloc (.cells Z 3)) w2.heap.size (.slice (some ⟨u12.heap.size,0,none⟩) c.t c.t) (vNat (List.replicate c.t 0)) c.t:=made_zeros HZ.out u12 w2.heap.size t1 G.2.2
   replace Fz:=Fz.grown ku13
   replace Fx:=Fx.grown ku13
   replace G:=gtr G ku13
   generalize u12.alloc (.cells Z 3) = u13 at *
   obtain ⟨py,hsy⟩:∃ q,u12.heap.size = q:=⟨_,rfl⟩
   replace Fy:FlatAt u13 w2.heap.size (.slice (some ⟨py,0,none⟩) c.t c.t) (vNat (List.replicate c.t 0)) c.t:=by rw [← hsy];exact Fy
   rw [hsy]
   clear hsy
   refine nxt_but (But.of_grown G) (plan_one ?_)
   simp only [nths,nth,List.map_cons,List.map_nil,List.getD_cons_zero,List.getD_cons_succ]
   repeat go_big_quiet_step (fail)
   refine wpQuiet_nil ?_
   have HC:=Lib.hid (HB.out.grown G)
   have c0:=HC.out.cell 0 _ rfl;have f0:=HC.out.free 0
   have c1:=HC.out.cell 1 _ rfl;have f1:=HC.out.free 1
   have c2:=HC.out.cell 2 _ rfl;have f2:=HC.out.free 2
   have c3:=HC.out.cell 3 _ rfl;have f3:=HC.out.free 3
   have c4:=HC.out.cell 4 _ rfl;have f4:=HC.out.free 4
   have c5:=HC.out.cell 5 _ rfl;have f5:=HC.out.free 5
   have c6:=HC.out.cell 6 _ rfl;have f6:=HC.out.free 6
   have c7:=HC.out.cell 7 _ rfl;have f7:=HC.out.free 7
   have c8:=HC.out.cell 8 _ rfl;have f8:=HC.out.free 8
   have c9:=HC.out.cell 9 _ rfl;have f9:=HC.out.free 9
   have hlt:=HC.out.lt
   have hlt2:=HB.out.lt
   go_wp2_with fail
   have B2:=HC.out.fill rfl (.int .i64 c.t) (.int .i64 c.b) (.int .i64 c.i) (.int .i64 c.f) (.int .i64 c.k) ((.slice (some ⟨px,0,none⟩) c.t c.t)) ((.slice (some ⟨py,0,none⟩) c.t c.t)) ((.slice (some ⟨pz,0,none⟩) c.t c.t)) (.slice none 0 0) (.slice none 0 0)
   have kS:=(But.refl (· = w.heap.size + 1) u13).fill (b:=w.heap.size + 1) (.inl rfl) (.int .i64 c.t) (.int .i64 c.b) (.int .i64 c.i) (.int .i64 c.f) (.int .i64 c.k) ((.slice (some ⟨px,0,none⟩) c.t c.t)) ((.slice (some ⟨py,0,none⟩) c.t c.t)) ((.slice (some ⟨pz,0,none⟩) c.t c.t)) (.slice none 0 0) (.slice none 0 0)
   have qS:=(But.of_grown G).trans kS
   replace Fx:=(Fx.but kS (fun i hi e => by omega)).mono (lo':=hi) (by have:=g1.2.2;omega)
   replace Fy:=(Fy.but kS (fun i hi e => by omega)).mono (lo':=hi) (by have:=g1.2.2;omega)
   replace Fz:=(Fz.but kS (fun i hi e => by omega)).mono (lo':=hi) (by have:=g1.2.2;omega)
   refine nxt_but qS (plan_fin ?_)
   clear kS c0 f0 c1 f1 c2 f2 c3 f3 c4 f4 c5 f5 c6 f6 c7 f7 c8 f8 c9 f9
   simp only [nths,nth,List.map_cons,List.map_nil,List.getD_cons_zero,List.getD_cons_succ]
   repeat go_big_quiet_step (fail)
   refine wpQuiet_nil ?_
   have e0:=B2.cell 0 _ rfl
   have e1:=B2.cell 1 _ rfl
   have e2:=B2.cell 2 _ rfl
   have e3:=B2.cell 3 _ rfl
   have e4:=B2.cell 4 _ rfl
   have e5:=B2.cell 5 _ rfl
   have e6:=B2.cell 6 _ rfl
   have e7:=B2.cell 7 _ rfl
   have e8:=B2.cell 8 _ rfl
   have e9:=B2.cell 9 _ rfl
   have gE:=But.fresh g1 qS (fun i hi => by omega)
   clear B2 qS G HC
   go_wp2_with fail
   refine bodyPost_ret (v:=.tuple #[RV c (.slice (some ⟨px,0,none⟩) c.t c.t) (.slice (some ⟨py,0,none⟩) c.t c.t) (.slice (some ⟨pz,0,none⟩) c.t c.t) (.slice none 0 0) (.slice none 0 0),.int .i64 0]) (by simp [results,Tryz.results125,go_sem,RV,e0,e1,e2,e3,e4,e5,e6,e7,e8,e9]) rfl ?_
   exact ⟨_,_,_,_,_,rfl,⟨Fx,Fy,Fz,.inl ⟨rfl,rfl,rfl⟩,.inl ⟨rfl,rfl,rfl⟩⟩,gE⟩
  ·go_wp2_with fail
   have ku14:Grown u11 (u11.alloc (.cells Z 3)):=by go_grown
   have Fy:FlatAt (u11.alloc (.cells Z 3)) w2.heap.size (.slice (some ⟨u11.heap.size,0,none⟩) c.t c.t) (vNat (List.replicate c.t 0)) c.t:=made_zeros HZ.out u11 w2.heap.size t1 G.2.2
   replace Fz:=Fz.grown ku14
   replace G:=gtr G ku14
   generalize u11.alloc (.cells Z 3) = u14 at *
   obtain ⟨py,hsy⟩:∃ q,u11.heap.size = q:=⟨_,rfl⟩
   replace Fy:FlatAt u14 w2.heap.size (.slice (some ⟨py,0,none⟩) c.t c.t) (vNat (List.replicate c.t 0)) c.t:=by rw [← hsy];exact Fy
   rw [hsy]
   clear hsy
   refine nxt_but (But.of_grown G) (plan_one ?_)
   simp only [nths,nth,List.map_nil,List.getD_cons_zero,List.getD_cons_succ]
   refine wpQuiet_nil ?_
   go_wp2_with fail
   have ku15:Grown u14 (u14.alloc (.cells Z 3)):=by go_grown
   have Fx:FlatAt (u14.alloc (.cells Z 3)) w2.heap.size (.slice (some ⟨u14.heap.size,0,none⟩) c.t c.t) (vNat (List.replicate c.t 0)) c.t:=made_zeros HZ.out u14 w2.heap.size t1 G.2.2
   replace Fz:=Fz.grown ku15
   replace Fy:=Fy.grown ku15
   replace G:=gtr G ku15
   generalize u14.alloc (.cells Z 3) = u15 at *
   obtain ⟨px,hsx⟩:∃ q,u14.heap.size = q:=⟨_,rfl⟩
   replace Fx:FlatAt u15 w2.heap.size (.slice (some ⟨px,0,none⟩) c.t c.t) (vNat (List.replicate c.t 0)) c.t:=by rw [← hsx];exact Fx
   rw [hsx]
   clear hsx
   refine nxt_but (But.of_grown G) (plan_one ?_)
   simp only [nths,nth,List.map_cons,List.map_nil,List.getD_cons_zero,List.getD_cons_succ]
   repeat go_big_quiet_step (fail)
   refine wpQuiet_nil ?_
   have HC:=Lib.hid (HB.out.grown G)
   have c0:=HC.out.cell 0 _ rfl;have f0:=HC.out.free 0
   have c1:=HC.out.cell 1 _ rfl;have f1:=HC.out.free 1
   have c2:=HC.out.cell 2 _ rfl;have f2:=HC.out.free 2
   have c3:=HC.out.cell 3 _ rfl;have f3:=HC.out.free 3
   have c4:=HC.out.cell 4 _ rfl;have f4:=HC.out.free 4
   have c5:=HC.out.cell 5 _ rfl;have f5:=HC.out.free 5
   have c6:=HC.out.cell 6 _ rfl;have f6:=HC.out.free 6
   have c7:=HC.out.cell 7 _ rfl;have f7:=HC.out.free 7
   have c8:=HC.out.cell 8 _ rfl;have f8:=HC.out.free 8
   have c9:=HC.out.cell 9 _ rfl;have f9:=HC.out.free 9
   have hlt:=HC.out.lt
   have hlt2:=HB.out.lt
   go_wp2_with fail
   have B2:=HC.out.fill rfl (.int .i64 c.t) (.int .i64 c.b) (.int .i64 c.i) (.int .i64 c.f) (.int .i64 c.k) ((.slice (some ⟨px,0,none⟩) c.t c.t)) ((.slice (some ⟨py,0,none⟩) c.t c.t)) ((.slice (some ⟨pz,0,none⟩) c.t c.t)) (.slice none 0 0) (.slice none 0 0)
   have kS:=(But.refl (· = w.heap.size + 1) u15).fill (b:=w.heap.size + 1) (.inl rfl) (.int .i64 c.t) (.int .i64 c.b) (.int .i64 c.i) (.int .i64 c.f) (.int .i64 c.k) ((.slice (some ⟨px,0,none⟩) c.t c.t)) ((.slice (some ⟨py,0,none⟩) c.t c.t)) ((.slice (some ⟨pz,0,none⟩) c.t c.t)) (.slice none 0 0) (.slice none 0 0)
   have qS:=(But.of_grown G).trans kS
   replace Fx:=(Fx.but kS (fun i hi e => by omega)).mono (lo':=hi) (by have:=g1.2.2;omega)
   replace Fy:=(Fy.but kS (fun i hi e => by omega)).mono (lo':=hi) (by have:=g1.2.2;omega)
   replace Fz:=(Fz.but kS (fun i hi e => by omega)).mono (lo':=hi) (by have:=g1.2.2;omega)
   refine nxt_but qS (plan_fin ?_)
   clear kS c0 f0 c1 f1 c2 f2 c3 f3 c4 f4 c5 f5 c6 f6 c7 f7 c8 f8 c9 f9
   simp only [nths,nth,List.map_cons,List.map_nil,List.getD_cons_zero,List.getD_cons_succ]
   repeat go_big_quiet_step (fail)
   refine wpQuiet_nil ?_
   have e0:=B2.cell 0 _ rfl
   have e1:=B2.cell 1 _ rfl
   have e2:=B2.cell 2 _ rfl
   have e3:=B2.cell 3 _ rfl
   have e4:=B2.cell 4 _ rfl
   have e5:=B2.cell 5 _ rfl
   have e6:=B2.cell 6 _ rfl
   have e7:=B2.cell 7 _ rfl
   have e8:=B2.cell 8 _ rfl
   have e9:=B2.cell 9 _ rfl
   have gE:=But.fresh g1 qS (fun i hi => by omega)
   clear B2 qS G HC
   go_wp2_with fail
   refine bodyPost_ret (v:=.tuple #[RV c (.slice (some ⟨px,0,none⟩) c.t c.t) (.slice (some ⟨py,0,none⟩) c.t c.t) (.slice (some ⟨pz,0,none⟩) c.t c.t) (.slice none 0 0) (.slice none 0 0),.int .i64 0]) (by simp [results,Tryz.results125,go_sem,RV,e0,e1,e2,e3,e4,e5,e6,e7,e8,e9]) rfl ?_
   exact ⟨_,_,_,_,_,rfl,⟨Fx,Fy,Fz,.inl ⟨rfl,rfl,rfl⟩,.inl ⟨rfl,rfl,rfl⟩⟩,gE⟩
end Go.Proofs.YtcogckjpmmjmbaaGreat
