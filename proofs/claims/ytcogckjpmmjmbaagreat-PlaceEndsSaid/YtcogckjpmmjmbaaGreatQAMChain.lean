/- A row of one's own, nil or not, appended to: laws, over any program. -/
import Derived.Test.YtcogckjpmmjmbaaGreatQAMBkRef
import Derived.Test.YtcogckjpmmjmbaaGreatQAMIter
import Derived.OwnWalkIn
import Derived.Test.YtcogckjpmmjmbaaGreatQAMWRef
namespace Go.Proofs.YtcogckjpmmjmbaaGreat
open Go.ChangeShapes Go.WideShapes Go.ChangeAt Go.RowKit
set_option maxRecDepth 100000
def InRow (v:Value):Nat → Prop:=fun i => v.ownBlock = some i
def Fresh (w:World) (v v':Value):Prop:=v'.ownBlock = v.ownBlock ∨ ∃ g,v'.ownBlock = some g ∧ w.heap.size ≤ g
section
variable {P:Program} {w:World}
theorem run_add (base:Nat) (t ty e:TypeId) (z:Value) (size bytes:Nat) (ht:P.underlying t = some (.slice e)) (hi:(P.info? e).map (fun i => (i.zero,i.size,i.bytes)) = some (some z,size,bytes)) (hzs:z.cells.size = size) (hsz:0 < size)
  (v:Value) (n:Nat) (xs:List Value) (hown:w.ownsRow base e size v n xs) (x:Value) (m lo:Nat) (cells:List Value) (hx:FlatAt w lo x cells m) (hl:cells.length = m * size)
  (h1:∀ u ∈ cells,u.oneCell' = true) (h63:n + m ≤ 100000) (hb:bytes ≤ 1000) (hbase:base ≤ w.heap.size) :
  ∃ v' w',(Builtin.append_ #[t,t] ty #[v,x]).run P w = .ok v' w' ∧ w'.ownsRow base e size v' (n + m) (xs ++ cells) ∧ Fresh w v v' ∧ But (InRow v) w w':=by
 obtain ⟨i,hi1,hi2,hi3,hi4⟩:=info_parts hi
 rcases hown.2 with ⟨rfl,rfl⟩ | ⟨g,cap,cur,rfl,hr⟩
 ·rcases hx with ⟨rfl,rfl,rfl⟩ | ⟨hm,ga,ca,rfl,-,hc⟩
  ·have hr:=run_append_owned_none (P:=P) (w:=w) base t ty e i size ht hi1 (.slice none 0 0) 0 xs hown
   exact ⟨_,w,hr,by simpa using hown,.inl rfl,But.refl _ _⟩
  ·have hnews:∀ j u,cells[j]? = some u → w.cell? ((⟨ga,0,none⟩:Addr).add j) = some u:=fun j u hu => by rw [add0];exact hc j u hu
   have hby:m * bytes ≤ 140737488355328:=Nat.le_trans (Nat.mul_le_mul (show m ≤ 100000 by omega) hb) (by decide)
   have hr1:=run_append_nil (P:=P) (w:=w) t ty e i z ht hi1 hi2 ⟨ga,0,none⟩ m ca cells (by rw [hi3];exact hl) hnews hm (by omega) (by rw [hi4];omega)
   obtain ⟨v',w',hr2,hown',-,-⟩:=run_append_own (P:=P) w base t ty e i z size bytes ht hi1 hi2 hi3 hi4 hzs hsz (.slice none 0 0) 0 xs hown ⟨ga,0,none⟩ m ca cells hl hnews h1 (by simp only [maxLen];omega) (by simpa using hby) hbase
   rw [hr1] at hr2
   simp only [Result.ok.injEq] at hr2
   obtain ⟨rfl,rfl⟩:=hr2
   exact ⟨_,_,hr1,hown',.inr ⟨_,rfl,Nat.le_refl _⟩,But.of_grown ((Grown.refl w).drew.alloc _ _)⟩
 ·obtain ⟨v',w',g',h1',h2',h3',h4',h5'⟩:=run_push (P:=P) (w:=w) base t ty e z size bytes ht hi hzs hsz _ n xs g hown rfl x m lo cells hx hl h1 h63 hb hbase
  refine ⟨v',w',h1',h2',?_,h5'.mono (fun j hj => by subst hj;rfl)⟩
  rcases h4' with rfl | h4
  ·exact .inl h3'
  ·exact .inr ⟨g',h3',h4⟩
theorem wpList_add {ops:Array Oper} {rest:List Oper} {o:Oper} {a:Act} {Q:Exit → Act → World → Prop} (hgd:o.guard = none) (s x:Operand) (t:TypeId)
  (ho:o.op = .call { callee:=.builtin .append,args:=#[s,x],argTypes:=#[t,t] })
  (base:Nat) (e:TypeId) (z:Value) (size bytes:Nat) (ht:P.underlying t = some (.slice e)) (hi:(P.info? e).map (fun i => (i.zero,i.size,i.bytes)) = some (some z,size,bytes)) (hzs:z.cells.size = size) (hsz:0 < size)
  (v:Value) (n:Nat) (xs:List Value) (hown:w.ownsRow base e size v n xs) (xv:Value) (m lo:Nat) (cells:List Value) (hx:FlatAt w lo xv cells m) (hl:cells.length = m * size)
  (h1:∀ u ∈ cells,u.oneCell' = true) (h63:n + m ≤ 100000) (hb:bytes ≤ 1000) (hbase:base ≤ w.heap.size) (hs:a.eval s = v) (hxv:a.eval x = xv)
  (h:∀ v' w',w'.ownsRow base e size v' (n + m) (xs ++ cells) → Fresh w v v' → But (InRow v) w w' → wpList P ops Q rest (a.put o.dst v') w'):wpList P ops Q (o :: rest) a w:=by
 obtain ⟨v',w',hr,r1,r2,r3⟩:=run_add (P:=P) (w:=w) base t o.type e z size bytes ht hi hzs hsz v n xs hown xv m lo cells hx hl h1 h63 hb hbase
 refine wpList_plain hgd fun K hK => ?_
 unfold Oper.wp execOp
 simp only [ho,resolve,invoke,builtin,Sem.run_bind,Sem.run_pure,Result.andThen_ok,List.map_toArray,List.map_cons,List.map_nil,hs,hxv,hr]
 exact hK _ _ (h v' w' r1 r2 r3)
theorem wpListIn_add {F:Fence} {nF:Nat} {ops:Array Oper} {rest:List Oper} {o:Oper} {a:Act} {Q:Exit → Act → World → Prop} (hgd:o.guard = none) (s x:Operand) (t:TypeId)
  (ho:o.op = .call { callee:=.builtin .append,args:=#[s,x],argTypes:=#[t,t] })
  (base:Nat) (e:TypeId) (z:Value) (size bytes:Nat) (ht:P.underlying t = some (.slice e)) (hi:(P.info? e).map (fun i => (i.zero,i.size,i.bytes)) = some (some z,size,bytes)) (hzs:z.cells.size = size) (hsz:0 < size)
  (v:Value) (n:Nat) (xs:List Value) (hown:w.ownsRow base e size v n xs) (xv:Value) (m lo:Nat) (cells:List Value) (hx:FlatAt w lo xv cells m) (hl:cells.length = m * size)
  (h1:∀ u ∈ cells,u.oneCell' = true) (h63:n + m ≤ 100000) (hb:bytes ≤ 1000) (hbase:base ≤ w.heap.size) (hs:a.eval s = v) (hxv:a.eval x = xv)
  (h:∀ v' w',w'.ownsRow base e size v' (n + m) (xs ++ cells) → Fresh w v v' → But (InRow v) w w' → wpListIn F nF P ops Q rest (a.put o.dst v') w'):wpListIn F nF P ops Q (o :: rest) a w:=by
 obtain ⟨v',w',hr,r1,r2,r3⟩:=run_add (P:=P) (w:=w) base t o.type e z size bytes ht hi hzs hsz v n xs hown xv m lo cells hx hl h1 h63 hb hbase
 refine wpListIn_plain hgd fun K hK => ?_
 unfold Oper.wpIn
 refine ⟨by simp [Oper.about,ho,resolve,Target.leads,Sem.run_pure],?_⟩
 rw [Oper.semAt_plain F _ _ (by rw [ho];intro c hc';cases hc')]
 simp [execOp,ho,resolve,invoke,builtin,hs,hxv,hr,Result.andThen]
 exact hK _ _ (h v' w' r1 r2 r3)
end
theorem own_kept {U:Nat → Prop} {w w':World} {base n size:Nat} {e:TypeId} {v:Value} {xs:List Value} (h:w.ownsRow base e size v n xs) (q:Kept U w w') (hs:∀ g,InRow v g → ¬ U g):w'.ownsRow base e size v n xs:=by
 refine ⟨h.1,?_⟩
 rcases h.2 with h2 | ⟨g0,cap,cur,rfl,hb,hg,hr⟩
 ·exact .inl h2
 ·refine .inr ⟨g0,cap,cur,rfl,hb,?_,hr⟩
  rw [q.same g0 (Array.getElem?_eq_some_iff.1 hg).1 (hs g0 rfl)]
  exact hg
theorem own_grown {w w':World} {base n size:Nat} {e:TypeId} {v:Value} {xs:List Value} (h:w.ownsRow base e size v n xs) (q:Grown w w'):w'.ownsRow base e size v n xs :=
 own_kept h (Kept.of_grown (U:=fun _ => False) q) (fun _ _ f => f)
theorem own_at {w:World} {base n size:Nat} {e:TypeId} {v:Value} {xs:List Value} (h:w.ownsRow base e size v n xs) {g:Nat} (hg:InRow v g):base ≤ g ∧ g < w.heap.size:=by
 rcases h.2 with ⟨rfl,-⟩ | ⟨g0,cap,cur,rfl,hb,hh,hr⟩
 ·cases hg
 ·have:g0 = g:=by simpa [InRow,Value.ownBlock] using hg
  subst this
  exact ⟨hb,(Array.getElem?_eq_some_iff.1 hh).1⟩
theorem own_flat {w:World} {base n size:Nat} {e:TypeId} {v:Value} {xs:List Value} (h:w.ownsRow base e size v n xs) (hv:0 < n ∨ v = .slice none 0 0):FlatAt w base v xs n:=by
 rcases hv with hv | rfl
 ·exact FlatAt.of_own h hv
 ·rcases h.2 with ⟨-,rfl⟩ | ⟨g0,cap,cur,he,-⟩
  ·have:=h.1
   simp at this
   exact .inl ⟨rfl,by simpa using this,rfl⟩
  ·cases he
def RowC (w:World) (v:Value) (cells:List Value) (n:Nat):Prop :=
 (v = .slice none 0 0 ∧ n = 0 ∧ cells = []) ∨ ∃ g cap,v = .slice (some ⟨g,0,none⟩) n cap ∧ n ≤ cap ∧ ∀ j u,cells[j]? = some u → w.cell? ⟨g,j,none⟩ = some u
theorem RowC.grown {w w':World} {v:Value} {cells:List Value} {n:Nat} (h:RowC w v cells n) (q:Grown w w'):RowC w' v cells n:=by
 rcases h with h | ⟨g,cap,hv,hn,hc⟩
 ·exact .inl h
 ·exact .inr ⟨g,cap,hv,hn,fun j u hu => gcell q (hc j u hu)⟩
theorem own_rowC {w:World} {base n size:Nat} {e:TypeId} {v:Value} {xs:List Value} (h:w.ownsRow base e size v n xs):RowC w v xs n:=by
 rcases h.2 with ⟨rfl,rfl⟩ | ⟨g,cap,cur,rfl,hb,hg,hn,hr⟩
 ·have:=h.1;simp at this;exact .inl ⟨rfl,rfl,by simpa using this⟩
 ·exact .inr ⟨g,cap,rfl,hn,fun j u hu => by have:=h.cells (g:=g) rfl j u hu;rwa [add0] at this⟩
def Part (w:World) (v:Value) (cells:List Value) (m:Nat):Prop :=
 (v = .slice none 0 0 ∧ m = 0 ∧ cells = []) ∨ ∃ (ad:Addr) (cap:Nat),v = .slice (some ad) m cap ∧ ∀ j u,cells[j]? = some u → w.cell? (ad.add j) = some u
theorem Part.grown {w w':World} {v:Value} {cells:List Value} {n:Nat} (h:Part w v cells n) (q:Grown w w'):Part w' v cells n:=by
 rcases h with h | ⟨ad,cap,hv,hc⟩
 ·exact .inl h
 ·refine .inr ⟨ad,cap,hv,fun j u hu => ?_⟩
  have h1:=hc j u hu
  have e:=(Kept.of_grown (U:=fun _ => False) q).same (ad.add j).block (World.block_lt_of_cell? w _ h1) (fun f => f)
  unfold World.cell? at h1 ⊢
  rw [e];exact h1
section
variable {P:Program} {w:World}
theorem run_addP (base:Nat) (t ty e:TypeId) (z:Value) (size bytes:Nat) (ht:P.underlying t = some (.slice e)) (hi:(P.info? e).map (fun i => (i.zero,i.size,i.bytes)) = some (some z,size,bytes)) (hzs:z.cells.size = size) (hsz:0 < size)
  (v:Value) (n:Nat) (xs:List Value) (g:Nat) (hown:w.ownsRow base e size v n xs) (hv:v.ownBlock = some g) (x:Value) (m:Nat) (cells:List Value) (hx:Part w x cells m) (hl:cells.length = m * size)
  (h1:∀ u ∈ cells,u.oneCell' = true) (h63:n + m ≤ 100000) (hb:bytes ≤ 1000) (hbase:base ≤ w.heap.size) :
  ∃ v' w' g',(Builtin.append_ #[t,t] ty #[v,x]).run P w = .ok v' w' ∧ w'.ownsRow base e size v' (n + m) (xs ++ cells) ∧ v'.ownBlock = some g' ∧ (g' = g ∨ w.heap.size ≤ g') ∧ But (· = g) w w':=by
 obtain ⟨i,hi1,hi2,hi3,hi4⟩:=info_parts hi
 rcases hx with ⟨rfl,rfl,rfl⟩ | ⟨ad,ca,rfl,hnews⟩
 ·have hr:=run_append_owned_none (P:=P) (w:=w) base t ty e i size ht hi1 v n xs hown
  exact ⟨v,w,g,hr,by simpa using hown,hv,.inl rfl,But.refl _ _⟩
 ·have hby:(n + m) * bytes ≤ 140737488355328:=Nat.le_trans (Nat.mul_le_mul h63 hb) (by decide)
  obtain ⟨v',w',hr,hown',hgr,-⟩:=run_append_own (P:=P) w base t ty e i z size bytes ht hi1 hi2 hi3 hi4 hzs hsz v n xs hown ad m ca cells hl hnews h1 (by simp only [maxLen];omega) hby hbase
  rcases hown.2 with ⟨rfl,-⟩ | ⟨g0,cap,cur,rfl,hbg,hg,hnc,hcm,hcs,htake⟩
  ·cases hv
  ·have:g0 = g:=by simpa [Value.ownBlock] using hv
   subst this
   by_cases hroom:n + m ≤ cap
   ·have hfit:n * i.size + cells.length ≤ cur.size:=by rw [hl,hcs,hi3,← Nat.add_mul];exact Nat.mul_le_mul_right _ hroom
    have hr2:=run_append_room (P:=P) w t ty e i ht hi1 g0 n cap cur hg ad m ca cells (by rw [hi3];exact hl) hnews h1 hroom hfit
    rw [hr] at hr2
    simp only [Result.ok.injEq] at hr2
    obtain ⟨rfl,rfl⟩:=hr2
    refine ⟨_,_,g0,hr,hown',rfl,.inl rfl,But.setRow hg ?_⟩
    simp only [List.size_toArray,List.length_append,List.length_take,List.length_drop,Array.length_toList]
    omega
   ·have hr2:=run_append_grow (P:=P) w t ty e i z ht hi1 hi2 ⟨g0,0,none⟩ n cap xs (by rw [hi3];exact hown.1) (hown.cells (g:=g0) rfl) ad m ca cells (by rw [hi3];exact hl) hnews (by omega) (by omega) (growslice_fits (by omega) (by rw [hi4];exact hby))
    rw [hr] at hr2
    simp only [Result.ok.injEq] at hr2
    obtain ⟨rfl,rfl⟩:=hr2
    exact ⟨_,_,_,hr,hown',rfl,.inr (Nat.le_refl _),But.of_grown ((Grown.refl w).drew.alloc _ _)⟩
theorem wpList_addP {ops:Array Oper} {rest:List Oper} {o:Oper} {a:Act} {Q:Exit → Act → World → Prop} (hgd:o.guard = none) (s x:Operand) (t:TypeId)
  (ho:o.op = .call { callee:=.builtin .append,args:=#[s,x],argTypes:=#[t,t] })
  (base:Nat) (e:TypeId) (z:Value) (size bytes:Nat) (ht:P.underlying t = some (.slice e)) (hi:(P.info? e).map (fun i => (i.zero,i.size,i.bytes)) = some (some z,size,bytes)) (hzs:z.cells.size = size) (hsz:0 < size)
  (v:Value) (n:Nat) (xs:List Value) (g:Nat) (hown:w.ownsRow base e size v n xs) (hv:v.ownBlock = some g) (xv:Value) (m:Nat) (cells:List Value) (hx:Part w xv cells m) (hl:cells.length = m * size)
  (h1:∀ u ∈ cells,u.oneCell' = true) (h63:n + m ≤ 100000) (hb:bytes ≤ 1000) (hbase:base ≤ w.heap.size) (hs:a.eval s = v) (hxv:a.eval x = xv)
  (h:∀ v' w' g',w'.ownsRow base e size v' (n + m) (xs ++ cells) → v'.ownBlock = some g' → (g' = g ∨ w.heap.size ≤ g') → But (· = g) w w' → wpList P ops Q rest (a.put o.dst v') w'):wpList P ops Q (o :: rest) a w:=by
 obtain ⟨v',w',g',hr,r1,r2,r3,r4⟩:=run_addP (P:=P) (w:=w) base t o.type e z size bytes ht hi hzs hsz v n xs g hown hv xv m cells hx hl h1 h63 hb hbase
 refine wpList_plain hgd fun K hK => ?_
 unfold Oper.wp execOp
 simp only [ho,resolve,invoke,builtin,Sem.run_bind,Sem.run_pure,Result.andThen_ok,List.map_toArray,List.map_cons,List.map_nil,hs,hxv,hr]
 exact hK _ _ (h v' w' g' r1 r2 r3 r4)
end
theorem own_open {w:World} {base n size:Nat} {e:TypeId} {v:Value} {xs:List Value} (h:w.ownsRow base e size v n xs) (hn:0 < n):∃ g cap,v = .slice (some ⟨g,0,none⟩) n cap:=by
 rcases h.2 with ⟨-,rfl⟩ | ⟨g0,cap,cur,he,-⟩
 ·omega
 ·exact ⟨g0,cap,he⟩
theorem own_nil (w:World) (base size:Nat) (e:TypeId):w.ownsRow base e size (.slice none 0 0) 0 []:=⟨by simp,.inl ⟨rfl,rfl⟩⟩
end Go.Proofs.YtcogckjpmmjmbaaGreat
namespace Go.Proofs.YtcogckjpmmjmbaaGreat
open Go.ChangeShapes Go.WideShapes Go.ChangeAt Go.RowKit
set_option maxRecDepth 100000
set_option linter.unusedVariables false
def Pause (p:Prop):Prop:=p
theorem pause {p:Prop} (h:Pause p):p:=h
section
variable {P:Program} {ops:Array Oper} {rest:List Oper} {op:Oper} {a:Act} {w:World} {Q:Exit → Act → World → Prop} {l₀ n:Nat}
theorem wpIn_of_wp {K:Act → World → Prop} (hnd:∀ c,op.op ≠ .defer c) (h:op.wp P a w K Q):op.wpIn (Fence.wide.inRound l₀) n P a w K Q:=by
 refine ⟨fun _ _ => trivial,?_⟩
 have hs:op.semAt (Fence.wide.inRound l₀).round a.eval = execOp a.eval op:=Oper.semAt_eq _ _ _ hnd
 rw [hs]
 unfold Oper.wp at h
 generalize (execOp a.eval op).run P w = r at h
 cases r with
 | ok x w' =>
  cases x <;> simp only [Oper.upon] at h <;> simp only [Oper.uponIn]
  case value u => exact h
  case skip => exact h
  case defer d => exact h
  case enter f args => exact ⟨fun h => by simp [Fence.wide] at h,CallsIn.inRound l₀ (callsIn_wide.2 h)⟩
  case row row args =>
   refine ⟨fun h => by simp [Fence.wide] at h,?_⟩
   intro fr cs _
   obtain ⟨v,w'',h1,h2⟩:=h fr cs
   exact ⟨v,w'',h1,stepsIn_wide.2 h2⟩
 | halt x w' =>
  cases x <;> simp only [Oper.upon] at h <;> simp only [Oper.uponIn]
  case panic u => exact h
theorem wpListIn_lift (hgd:op.guard = none) (hnd:∀ c,op.op ≠ .defer c) (h:∀ K:Act → World → Prop,(∀ a w,wpListIn (Fence.wide.inRound l₀) n P ops Q rest a w → K a w) → op.wp P a w K Q) :
  wpListIn (Fence.wide.inRound l₀) n P ops Q (op :: rest) a w:=wpListIn_plain hgd fun K hK => wpIn_of_wp hnd (h K hK)
theorem store_boxIn (hgd:op.guard = none) (ty:TypeId) (x y:Operand) (ho:op.op = .store ty x y)
  (b:Nat) (l:List Value) (hB:Box w b l) (cells:Array Value) (hx:a.eval x = .pointer (some ⟨b,0,none⟩)) (hy:a.eval y = .agg cells) (hl:cells.size = l.length)
  (hi:(P.info? ty).map (·.size) = some cells.size) (h1:cells.toList.all (·.oneCell') = true)
  (h:∀ w',Box w' b cells.toList → But (fun i => i = b) w w' → wpListIn (Fence.wide.inRound l₀) n P ops Q rest (a.put op.dst undef) w'):wpListIn (Fence.wide.inRound l₀) n P ops Q (op :: rest) a w :=
 wpListIn_lift hgd (fun c hc => by rw [ho] at hc;cases hc) fun K hK => wp_store_mid ty x y ho b 0 cells hx hy (by rw [hl];exact hB.there) hi (by rw [← Array.all_toList];exact h1)
  (hK _ _ (h _ (hB.all cells.toList (by simpa using hl)) (But.cells (S:=fun i => i = b) (.inl rfl) _ _ (But.refl _ w))))
theorem load_boxIn (hgd:op.guard = none) (ty:TypeId) (x:Operand) (ho:op.op = .load ty x)
  (b:Nat) (hx:a.eval x = .pointer (some ⟨b,0,none⟩)) (l:List Value) (d:TypeDesc) (hu:P.underlying ty = some d) (hd:d.isRow = true) (hi:(P.info? ty).map (·.size) = some l.length) (hB:Box w b l)
  (h:wpListIn (Fence.wide.inRound l₀) n P ops Q rest (a.put op.dst (.agg l.toArray)) w):wpListIn (Fence.wide.inRound l₀) n P ops Q (op :: rest) a w :=
 wpListIn_lift hgd (fun c hc => by rw [ho] at hc;cases hc) fun K hK => wp_load_mid ty x ho b 0 hx l d hB.range hu hd hi (hK _ _ h)
end
end Go.Proofs.YtcogckjpmmjmbaaGreat
namespace Go.Proofs.YtcogckjpmmjmbaaGreat
open Go.ChangeShapes Go.WideShapes Go.ChangeAt Go.RowKit Go.Shelf
set_option maxRecDepth 100000
set_option linter.unusedVariables false
attribute [local go_sem] Oper.semAt_some
def ints (l:List Int):List Value:=l.map (.int .i64)
structure ChI (w0:World) (bc r:Nat) (v:Value) (pre:List Int) (W:World):Prop where
 g:Grown w0 W
 box:Box W bc [v]
 row:W.ownsRow w0.heap.size 3 1 v pre.length (ints pre)
 nil:0 < pre.length ∨ v = .slice none 0 0
 far:∀ i,InRow v i → r < i
theorem ChI.kept {w0 A C:World} {bc r:Nat} {v:Value} {pre:List Int} {U:Nat → Prop} (h:ChI w0 bc r v pre A) (q:Kept U A C) (h0:∀ i,U i → w0.heap.size ≤ i) (h1:¬ U bc) (h2:∀ i,InRow v i → ¬ U i):ChI w0 bc r v pre C :=
 ⟨q.fresh h.g h0,h.box.kept q h1,own_kept h.row q h2,h.nil,h.far⟩
end Go.Proofs.YtcogckjpmmjmbaaGreat
