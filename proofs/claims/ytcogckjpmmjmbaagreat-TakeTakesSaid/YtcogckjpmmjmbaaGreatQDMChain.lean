/- A row of one's own, nil or not, appended to: laws, over any program. -/
import Derived.Test.YtcogckjpmmjmbaaGreatQDMBkRef
import Derived.Test.YtcogckjpmmjmbaaGreatQDMIter
import Derived.OwnWalkIn
import Derived.Test.YtcogckjpmmjmbaaGreatQDMWRef
namespace Go.Proofs.YtcogckjpmmjmbaaGreat
open Go.ChangeShapes Go.WideShapes Go.ChangeAt Go.RowKit
set_option maxRecDepth 100000
def InRow (v:Value):Nat → Prop:=fun i => v.ownBlock = some i
def Fresh (w:World) (v v':Value):Prop:=v'.ownBlock = v.ownBlock ∨ ∃ g,v'.ownBlock = some g ∧ w.heap.size ≤ g
section
variable {P:Program} {w:World}
theorem run_add (base:Nat) (t ty e:TypeId) (z:Value) (size bytes:Nat) (ht:P.underlying t = some (.slice e)) (hi:(P.info? e).map (fun i => (i.zero,i.size,i.bytes)) = some (some z,size,bytes)) (hzs:z.cells.size = size) (hsz:0 < size)
    (v:Value) (n:Nat) (xs:List Value) (hown:w.ownsRow base e size v n xs) (x:Value) (m lo:Nat) (cells:List Value) (hx:FlatAt w lo x cells m) (hl:cells.length = m * size)
    (h1:∀ u ∈ cells,u.oneCell' = true) (h63:n + m ≤ 100000) (hb:bytes ≤ 1000) (hbase:base ≤ w.heap.size) :
    ∃ v' w',(Builtin.append_ #[t,t] ty #[v,x]).run P w = .ok v' w' ∧ w'.ownsRow base e size v' (n + m) (xs ++ cells) ∧ Fresh w v v' ∧ But (InRow v) w w':=by
  obtain ⟨i,hi1,hi2,hi3,hi4⟩:=info_parts hi
  rcases hown.2 with ⟨rfl,rfl⟩ | ⟨g,cap,cur,rfl,hr⟩
  · rcases hx with ⟨rfl,rfl,rfl⟩ | ⟨hm,ga,ca,rfl,-,hc⟩
    · have hr:=run_append_owned_none (P:=P) (w:=w) base t ty e i size ht hi1 (.slice none 0 0) 0 xs hown
      exact ⟨_,w,hr,by simpa using hown,.inl rfl,But.refl _ _⟩
    · have hnews:∀ j u,cells[j]? = some u → w.cell? ((⟨ga,0,none⟩:Addr).add j) = some u:=fun j u hu => by rw [add0];exact hc j u hu
      have hby:m * bytes ≤ 140737488355328:=Nat.le_trans (Nat.mul_le_mul (show m ≤ 100000 by omega) hb) (by decide)
      have hr1:=run_append_nil (P:=P) (w:=w) t ty e i z ht hi1 hi2 ⟨ga,0,none⟩ m ca cells (by rw [hi3];exact hl) hnews hm (by omega) (by rw [hi4];omega)
      obtain ⟨v',w',hr2,hown',-,-⟩:=run_append_own (P:=P) w base t ty e i z size bytes ht hi1 hi2 hi3 hi4 hzs hsz (.slice none 0 0) 0 xs hown ⟨ga,0,none⟩ m ca cells hl hnews h1 (by simp only [maxLen];omega) (by simpa using hby) hbase
      rw [hr1] at hr2
      simp only [Result.ok.injEq] at hr2
      obtain ⟨rfl,rfl⟩:=hr2
      exact ⟨_,_,hr1,hown',.inr ⟨_,rfl,Nat.le_refl _⟩,But.of_grown ((Grown.refl w).drew.alloc _ _)⟩
  · obtain ⟨v',w',g',h1',h2',h3',h4',h5'⟩:=run_push (P:=P) (w:=w) base t ty e z size bytes ht hi hzs hsz _ n xs g hown rfl x m lo cells hx hl h1 h63 hb hbase
    refine ⟨v',w',h1',h2',?_,h5'.mono (fun j hj => by subst hj;rfl)⟩
    rcases h4' with rfl | h4
    · exact .inl h3'
    · exact .inr ⟨g',h3',h4⟩
theorem wpList_add {ops:Array Oper} {rest:List Oper} {o:Oper} {a:Act} {Q:Exit → Act → World → Prop} (hgd:o.guard = none) (s x:Operand) (t:TypeId)
    (ho:o.op = .call { callee:=.builtin .append,args:=#[s,x],argTypes:=#[t,t] })
    (base:Nat) (e:TypeId) (z:Value) (size bytes:Nat) (ht:P.underlying t = some (.slice e)) (hi:(P.info? e).map (fun i => (i.zero,i.size,i.bytes)) = some (some z,size,bytes)) (hzs:z.cells.size = size) (hsz:0 < size)
    (v:Value) (n:Nat) (xs:List Value) (hown:w.ownsRow base e size v n xs) (xv:Value) (m lo:Nat) (cells:List Value) (hx:FlatAt w lo xv cells m) (hl:cells.length = m * size)
    (h1:∀ u ∈ cells,u.oneCell' = true) (h63:n + m ≤ 100000) (hb:bytes ≤ 1000) (hbase:base ≤ w.heap.size) (hs:a.eval s = v) (hxv:a.eval x = xv)
    (h:∀ v' w',w'.ownsRow base e size v' (n + m) (xs ++ cells) → Fresh w v v' → But (InRow v) w w' → wpList P ops Q rest (a.put o.dst v') w'):wpList P ops Q (o :: rest) a w:=by
  obtain ⟨v',w',hr,r1,r2,r3⟩:=run_add (P:=P) (w:=w) base t o.type e z size bytes ht hi hzs hsz v n xs hown xv m lo cells hx hl h1 h63 hb hbase
  refine wpList_plain hgd fun K hK => ?_
  unfold Oper.wp execOp
  simp only [ho,resolve,invoke,builtin,Sem.run_bind,Sem.run_pure,Result.andThen_ok,List.map_toArray,List.map_cons,List.map_nil,hs,hxv,hr]
  exact hK _ _ (h v' w' r1 r2 r3)
theorem wpListIn_add {F:Fence} {nF:Nat} {ops:Array Oper} {rest:List Oper} {o:Oper} {a:Act} {Q:Exit → Act → World → Prop} (hgd:o.guard = none) (s x:Operand) (t:TypeId)
    (ho:o.op = .call { callee:=.builtin .append,args:=#[s,x],argTypes:=#[t,t] })
    (base:Nat) (e:TypeId) (z:Value) (size bytes:Nat) (ht:P.underlying t = some (.slice e)) (hi:(P.info? e).map (fun i => (i.zero,i.size,i.bytes)) = some (some z,size,bytes)) (hzs:z.cells.size = size) (hsz:0 < size)
    (v:Value) (n:Nat) (xs:List Value) (hown:w.ownsRow base e size v n xs) (xv:Value) (m lo:Nat) (cells:List Value) (hx:FlatAt w lo xv cells m) (hl:cells.length = m * size)
    (h1:∀ u ∈ cells,u.oneCell' = true) (h63:n + m ≤ 100000) (hb:bytes ≤ 1000) (hbase:base ≤ w.heap.size) (hs:a.eval s = v) (hxv:a.eval x = xv)
    (h:∀ v' w',w'.ownsRow base e size v' (n + m) (xs ++ cells) → Fresh w v v' → But (InRow v) w w' → wpListIn F nF P ops Q rest (a.put o.dst v') w'):wpListIn F nF P ops Q (o :: rest) a w:=by
  obtain ⟨v',w',hr,r1,r2,r3⟩:=run_add (P:=P) (w:=w) base t o.type e z size bytes ht hi hzs hsz v n xs hown xv m lo cells hx hl h1 h63 hb hbase
  refine wpListIn_plain hgd fun K hK => ?_
  unfold Oper.wpIn
  refine ⟨by simp [Oper.about,ho,resolve,Target.leads,Sem.run_pure],?_⟩
  rw [Oper.semAt_plain F _ _ (by rw [ho];intro c hc';cases hc')]
  simp [execOp,ho,resolve,invoke,builtin,hs,hxv,hr,Result.andThen]
  exact hK _ _ (h v' w' r1 r2 r3)
end
theorem own_kept {U:Nat → Prop} {w w':World} {base n size:Nat} {e:TypeId} {v:Value} {xs:List Value} (h:w.ownsRow base e size v n xs) (q:Kept U w w') (hs:∀ g,InRow v g → ¬ U g):w'.ownsRow base e size v n xs:=by
  refine ⟨h.1,?_⟩
  rcases h.2 with h2 | ⟨g0,cap,cur,rfl,hb,hg,hr⟩
  · exact .inl h2
  · refine .inr ⟨g0,cap,cur,rfl,hb,?_,hr⟩
    rw [q.same g0 (Array.getElem?_eq_some_iff.1 hg).1 (hs g0 rfl)]
    exact hg
theorem own_grown {w w':World} {base n size:Nat} {e:TypeId} {v:Value} {xs:List Value} (h:w.ownsRow base e size v n xs) (q:Grown w w'):w'.ownsRow base e size v n xs :=
  own_kept h (Kept.of_grown (U:=fun _ => False) q) (fun _ _ f => f)
theorem own_at {w:World} {base n size:Nat} {e:TypeId} {v:Value} {xs:List Value} (h:w.ownsRow base e size v n xs) {g:Nat} (hg:InRow v g):base ≤ g ∧ g < w.heap.size:=by
  rcases h.2 with ⟨rfl,-⟩ | ⟨g0,cap,cur,rfl,hb,hh,hr⟩
  · cases hg
  · have:g0 = g:=by simpa [InRow,Value.ownBlock] using hg
    subst this
    exact ⟨hb,(Array.getElem?_eq_some_iff.1 hh).1⟩
theorem own_flat {w:World} {base n size:Nat} {e:TypeId} {v:Value} {xs:List Value} (h:w.ownsRow base e size v n xs) (hv:0 < n ∨ v = .slice none 0 0):FlatAt w base v xs n:=by
  rcases hv with hv | rfl
  · exact FlatAt.of_own h hv
  · rcases h.2 with ⟨-,rfl⟩ | ⟨g0,cap,cur,he,-⟩
    · have:=h.1
      simp at this
      exact .inl ⟨rfl,by simpa using this,rfl⟩
    · cases he
def RowC (w:World) (v:Value) (cells:List Value) (n:Nat):Prop :=
  (v = .slice none 0 0 ∧ n = 0 ∧ cells = []) ∨ ∃ g cap,v = .slice (some ⟨g,0,none⟩) n cap ∧ n ≤ cap ∧ ∀ j u,cells[j]? = some u → w.cell? ⟨g,j,none⟩ = some u
theorem RowC.grown {w w':World} {v:Value} {cells:List Value} {n:Nat} (h:RowC w v cells n) (q:Grown w w'):RowC w' v cells n:=by
  rcases h with h | ⟨g,cap,hv,hn,hc⟩
  · exact .inl h
  · exact .inr ⟨g,cap,hv,hn,fun j u hu => gcell q (hc j u hu)⟩
theorem own_rowC {w:World} {base n size:Nat} {e:TypeId} {v:Value} {xs:List Value} (h:w.ownsRow base e size v n xs):RowC w v xs n:=by
  rcases h.2 with ⟨rfl,rfl⟩ | ⟨g,cap,cur,rfl,hb,hg,hn,hr⟩
  · have:=h.1;simp at this;exact .inl ⟨rfl,rfl,by simpa using this⟩
  · exact .inr ⟨g,cap,rfl,hn,fun j u hu => by have:=h.cells (g:=g) rfl j u hu;rwa [add0] at this⟩
def Part (w:World) (v:Value) (cells:List Value) (m:Nat):Prop :=
  (v = .slice none 0 0 ∧ m = 0 ∧ cells = []) ∨ ∃ (ad:Addr) (cap:Nat),v = .slice (some ad) m cap ∧ ∀ j u,cells[j]? = some u → w.cell? (ad.add j) = some u
theorem Part.grown {w w':World} {v:Value} {cells:List Value} {n:Nat} (h:Part w v cells n) (q:Grown w w'):Part w' v cells n:=by
  rcases h with h | ⟨ad,cap,hv,hc⟩
  · exact .inl h
  · refine .inr ⟨ad,cap,hv,fun j u hu => ?_⟩
    have h1:=hc j u hu
    have e:=(Kept.of_grown (U:=fun _ => False) q).same (ad.add j).block (World.block_lt_of_cell? w _ h1) (fun f => f)
    unfold World.cell? at h1 ⊢
    rw [e];exact h1
section
variable {P:Program} {w:World}
theorem run_addP (base:Nat) (t ty e:TypeId) (z:Value) (size bytes:Nat) (ht:P.underlying t = some (.slice e)) (hi:(P.info? e).map (fun i => (i.zero,i.size,i.bytes)) = some (some z,size,bytes)) (hzs:z.cells.size = size) (hsz:0 < size)
    (v:Value) (n:Nat) (xs:List Value) (g:Nat) (hown:w.ownsRow base e size v n xs) (hv:v.ownBlock = some g) (x:Value) (m:Nat) (cells:List Value) (hx:Part w x cells m) (hl:cells.length = m * size)
    (h1:∀ u ∈ cells,u.oneCell' = true) (h63:n + m ≤ 100000) (hb:bytes ≤ 1000) (hbase:base ≤ w.heap.size) :
    ∃ v' w' g',(Builtin.append_ #[t,t] ty #[v,x]).run P w = .ok v' w' ∧ w'.ownsRow base e size v' (n + m) (xs ++ cells) ∧ v'.ownBlock = some g' ∧ (g' = g ∨ w.heap.size ≤ g') ∧ But (· = g) w w':=by
  obtain ⟨i,hi1,hi2,hi3,hi4⟩:=info_parts hi
  rcases hx with ⟨rfl,rfl,rfl⟩ | ⟨ad,ca,rfl,hnews⟩
  · have hr:=run_append_owned_none (P:=P) (w:=w) base t ty e i size ht hi1 v n xs hown
    exact ⟨v,w,g,hr,by simpa using hown,hv,.inl rfl,But.refl _ _⟩
  · have hby:(n + m) * bytes ≤ 140737488355328:=Nat.le_trans (Nat.mul_le_mul h63 hb) (by decide)
    obtain ⟨v',w',hr,hown',hgr,-⟩:=run_append_own (P:=P) w base t ty e i z size bytes ht hi1 hi2 hi3 hi4 hzs hsz v n xs hown ad m ca cells hl hnews h1 (by simp only [maxLen];omega) hby hbase
    rcases hown.2 with ⟨rfl,-⟩ | ⟨g0,cap,cur,rfl,hbg,hg,hnc,hcm,hcs,htake⟩
    · cases hv
    · have:g0 = g:=by simpa [Value.ownBlock] using hv
      subst this
      by_cases hroom:n + m ≤ cap
      · have hfit:n * i.size + cells.length ≤ cur.size:=by rw [hl,hcs,hi3,← Nat.add_mul];exact Nat.mul_le_mul_right _ hroom
        have hr2:=run_append_room (P:=P) w t ty e i ht hi1 g0 n cap cur hg ad m ca cells (by rw [hi3];exact hl) hnews h1 hroom hfit
        rw [hr] at hr2
        simp only [Result.ok.injEq] at hr2
        obtain ⟨rfl,rfl⟩:=hr2
        refine ⟨_,_,g0,hr,hown',rfl,.inl rfl,But.setRow hg ?_⟩
        simp only [List.size_toArray,List.length_append,List.length_take,List.length_drop,Array.length_toList]
        omega
      · have hr2:=run_append_grow (P:=P) w t ty e i z ht hi1 hi2 ⟨g0,0,none⟩ n cap xs (by rw [hi3];exact hown.1) (hown.cells (g:=g0) rfl) ad m ca cells (by rw [hi3];exact hl) hnews (by omega) (by omega) (growslice_fits (by omega) (by rw [hi4];exact hby))
        rw [hr] at hr2
        simp only [Result.ok.injEq] at hr2
        obtain ⟨rfl,rfl⟩:=hr2
        exact ⟨_,_,_,hr,hown',rfl,.inr (Nat.le_refl _),But.of_grown ((Grown.refl w).drew.alloc _ _)⟩
theorem wpList_addP {ops:Array Oper} {rest:List Oper} {o:Oper} {a:Act} {Q:Exit → Act → World → Prop} (hgd:o.guard = none) (s x:Operand) (t:TypeId)
    (ho:o.op = .call { callee:=.builtin .append,args:=#[s,x],argTypes:=#[t,t] })
    (base:Nat) (e:TypeId) (z:Value) (size bytes:Nat) (ht:P.underlying t = some (.slice e)) (hi:(P.info? e).map (fun i => (i.zero,i.size,i.bytes)) = some (some z,size,bytes)) (hzs:z.cells.size = size) (hsz:0 < size)
    (v:Value) (n:Nat) (xs:List Value) (g:Nat) (hown:w.ownsRow base e size v n xs) (hv:v.ownBlock = some g) (xv:Value) (m:Nat) (cells:List Value) (hx:Part w xv cells m) (hl:cells.length = m * size)
    (h1:∀ u ∈ cells,u.oneCell' = true) (h63:n + m ≤ 100000) (hb:bytes ≤ 1000) (hbase:base ≤ w.heap.size) (hs:a.eval s = v) (hxv:a.eval x = xv)
    (h:∀ v' w' g',w'.ownsRow base e size v' (n + m) (xs ++ cells) → v'.ownBlock = some g' → (g' = g ∨ w.heap.size ≤ g') → But (· = g) w w' → wpList P ops Q rest (a.put o.dst v') w'):wpList P ops Q (o :: rest) a w:=by
  obtain ⟨v',w',g',hr,r1,r2,r3,r4⟩:=run_addP (P:=P) (w:=w) base t o.type e z size bytes ht hi hzs hsz v n xs g hown hv xv m cells hx hl h1 h63 hb hbase
  refine wpList_plain hgd fun K hK => ?_
  unfold Oper.wp execOp
  simp only [ho,resolve,invoke,builtin,Sem.run_bind,Sem.run_pure,Result.andThen_ok,List.map_toArray,List.map_cons,List.map_nil,hs,hxv,hr]
  exact hK _ _ (h v' w' g' r1 r2 r3 r4)
end
theorem own_open {w:World} {base n size:Nat} {e:TypeId} {v:Value} {xs:List Value} (h:w.ownsRow base e size v n xs) (hn:0 < n):∃ g cap,v = .slice (some ⟨g,0,none⟩) n cap:=by
  rcases h.2 with ⟨-,rfl⟩ | ⟨g0,cap,cur,he,-⟩
  · omega
  · exact ⟨g0,cap,he⟩
theorem own_nil (w:World) (base size:Nat) (e:TypeId):w.ownsRow base e size (.slice none 0 0) 0 []:=⟨by simp,.inl ⟨rfl,rfl⟩⟩
end Go.Proofs.YtcogckjpmmjmbaaGreat
namespace Go.Proofs.YtcogckjpmmjmbaaGreat
open Go.ChangeShapes Go.WideShapes Go.ChangeAt Go.RowKit
set_option maxRecDepth 100000
set_option linter.unusedVariables false
def Pause (p:Prop):Prop:=p
theorem pause {p:Prop} (h:Pause p):p:=h
section
variable {P:Program} {ops:Array Oper} {rest:List Oper} {op:Oper} {a:Act} {w:World} {Q:Exit → Act → World → Prop} {l₀ n:Nat}
theorem wpIn_of_wp {K:Act → World → Prop} (hnd:∀ c,op.op ≠ .defer c) (h:op.wp P a w K Q):op.wpIn (Fence.wide.inRound l₀) n P a w K Q:=by
  refine ⟨fun _ _ => trivial,?_⟩
  have hs:op.semAt (Fence.wide.inRound l₀).round a.eval = execOp a.eval op:=Oper.semAt_eq _ _ _ hnd
  rw [hs]
  unfold Oper.wp at h
  generalize (execOp a.eval op).run P w = r at h
  cases r with
  | ok x w' =>
    cases x <;> simp only [Oper.upon] at h <;> simp only [Oper.uponIn]
    case value u => exact h
    case skip => exact h
    case defer d => exact h
    case enter f args => exact ⟨fun h => by simp [Fence.wide] at h,CallsIn.inRound l₀ (callsIn_wide.2 h)⟩
    case row row args =>
      refine ⟨fun h => by simp [Fence.wide] at h,?_⟩
      intro fr cs _
      obtain ⟨v,w'',h1,h2⟩:=h fr cs
      exact ⟨v,w'',h1,stepsIn_wide.2 h2⟩
  | halt x w' =>
    cases x <;> simp only [Oper.upon] at h <;> simp only [Oper.uponIn]
    case panic u => exact h
theorem wpListIn_lift (hgd:op.guard = none) (hnd:∀ c,op.op ≠ .defer c) (h:∀ K:Act → World → Prop,(∀ a w,wpListIn (Fence.wide.inRound l₀) n P ops Q rest a w → K a w) → op.wp P a w K Q) :
    wpListIn (Fence.wide.inRound l₀) n P ops Q (op :: rest) a w:=wpListIn_plain hgd fun K hK => wpIn_of_wp hnd (h K hK)
theorem store_boxIn (hgd:op.guard = none) (ty:TypeId) (x y:Operand) (ho:op.op = .store ty x y)
    (b:Nat) (l:List Value) (hB:Box w b l) (cells:Array Value) (hx:a.eval x = .pointer (some ⟨b,0,none⟩)) (hy:a.eval y = .agg cells) (hl:cells.size = l.length)
    (hi:(P.info? ty).map (·.size) = some cells.size) (h1:cells.toList.all (·.oneCell') = true)
    (h:∀ w',Box w' b cells.toList → But (fun i => i = b) w w' → wpListIn (Fence.wide.inRound l₀) n P ops Q rest (a.put op.dst undef) w'):wpListIn (Fence.wide.inRound l₀) n P ops Q (op :: rest) a w :=
  wpListIn_lift hgd (fun c hc => by rw [ho] at hc;cases hc) fun K hK => wp_store_mid ty x y ho b 0 cells hx hy (by rw [hl];exact hB.there) hi (by rw [← Array.all_toList];exact h1)
    (hK _ _ (h _ (hB.all cells.toList (by simpa using hl)) (But.cells (S:=fun i => i = b) (.inl rfl) _ _ (But.refl _ w))))
theorem load_boxIn (hgd:op.guard = none) (ty:TypeId) (x:Operand) (ho:op.op = .load ty x)
    (b:Nat) (hx:a.eval x = .pointer (some ⟨b,0,none⟩)) (l:List Value) (d:TypeDesc) (hu:P.underlying ty = some d) (hd:d.isRow = true) (hi:(P.info? ty).map (·.size) = some l.length) (hB:Box w b l)
    (h:wpListIn (Fence.wide.inRound l₀) n P ops Q rest (a.put op.dst (.agg l.toArray)) w):wpListIn (Fence.wide.inRound l₀) n P ops Q (op :: rest) a w :=
  wpListIn_lift hgd (fun c hc => by rw [ho] at hc;cases hc) fun K hK => wp_load_mid ty x ho b 0 hx l d hB.range hu hd hi (hK _ _ h)
end
end Go.Proofs.YtcogckjpmmjmbaaGreat
namespace Go.Proofs.YtcogckjpmmjmbaaGreat
open Go.ChangeShapes Go.WideShapes Go.ChangeAt Go.RowKit Go.Shelf
set_option maxRecDepth 100000
set_option linter.unusedVariables false
attribute [local go_sem] Oper.semAt_some
def ints (l:List Int):List Value:=l.map (.int .i64)
structure ChI (w0:World) (bc r:Nat) (v:Value) (pre:List Int) (W:World):Prop where
  g:Grown w0 W
  box:Box W bc [v]
  row:W.ownsRow w0.heap.size 3 1 v pre.length (ints pre)
  nil:0 < pre.length ∨ v = .slice none 0 0
  far:∀ i,InRow v i → r < i
theorem ChI.kept {w0 A C:World} {bc r:Nat} {v:Value} {pre:List Int} {U:Nat → Prop} (h:ChI w0 bc r v pre A) (q:Kept U A C) (h0:∀ i,U i → w0.heap.size ≤ i) (h1:¬ U bc) (h2:∀ i,InRow v i → ¬ U i):ChI w0 bc r v pre C :=
  ⟨q.fresh h.g h0,h.box.kept q h1,own_kept h.row q h2,h.nil,h.far⟩
def ChainTold (w:World) (xs:List Int) (e:Ending) (w':World):Prop:=∃ v,e = .returned v ∧ FlatAt w' w.heap.size v (ints xs) xs.length ∧ RowC w' v (ints xs) xs.length ∧ Grown w w'
set_option maxHeartbeats 4000000 in
theorem Chain_at (w:World) (c:Cf) (d:Wd) (ws:List Int) (n:Int) (s:St) (h:WdAt w c d ws n s) (hI:Inv c s) (hws:WOk ws) (b:Int) :
    Calls Tryz.prog 53 #[.pointer (some ⟨d.x,0,none⟩),.int .i64 b] w (ChainTold w (chainI c ws b)):=by
  have HD:=Lib.hid h
  clear h
  refine (callsIn_wide (n:=9)).1 ?_
  refine callsIn_of_wp_marks Tryz.func53 rfl trivial ?_ rfl
  simp only [Tryz.ntmps53,List.size_toArray,List.length_cons,List.length_nil,Nat.reduceAdd,Nat.reduceSub,Array.replicate_succ,Array.replicate_zero,List.push_toArray,List.append_toArray,List.nil_append,List.cons_append]
  gi_wp2_with (first | (refine ⟨trivial,?_⟩;gi_at_call 72;refine (callsIn_wide.2 (nodes_at _ _ _)).mono ?_;rintro e w1 ⟨b1,b2,rfl,c1,c2,hb1,hb2,g1⟩) | fail)
  have hsz:(w.alloc (.cells #[.slice none 0 0] 36)).heap.size = w.heap.size + 1:=by simp
  rw [hsz] at hb1 hb2
  have l1:=World.block_lt_of_cell? _ _ c1
  have l2:=World.block_lt_of_cell? _ _ c2
  simp only at l1 l2
  have B0:=(Box.made w [.slice none 0 0] 36).grown g1
  have G1:Grown w w1:=galloc g1
  have hlw:=G1.2.2
  refine range_law (gf:=139) (lb:=#[.pointer (some ⟨b1,0,none⟩),.pointer (some ⟨b2,0,none⟩)]) rfl (fun _ _ => rfl)
    (nodes1_iter w w1 c d ws n s HD.out hI hws G1 b1 b2 b c1 c2 (fun i => w.heap.size ≤ i ∧ i ≠ b1 ∧ i ≠ b2) (fun i hi => hi.1) (fun hi => hi.2.1 rfl) (fun hi => hi.2.2 rfl)) ⟨by omega,by omega,by omega⟩ (fun _ => rfl)
    (fun pre W => ∃ v,ChI w w.heap.size (w1.heap.size + 1) v pre W) (fun _ _ _ => False) ?hI (fun _ _ _ _ h _ => h) ⟨_,G1,B0,own_nil _ _ _ _,.inr rfl,fun i hi => by cases hi⟩ ?round ?done (fun _ _ _ _ h _ _ => h.elim)
  case hI =>
    rintro pre A C ⟨v,h⟩ q
    exact ⟨v,h.kept q (fun i hi => by omega) (by omega) (fun i hi e => by have:=h.far i hi;omega)⟩
  case done =>
    rintro W ⟨v,hv⟩ hdd hWr
    have c0:=hv.box.cell 0 _ rfl
    dsimp only
    gi_wp2_with fail
    refine ⟨by simp,.inl ⟨_,_,rfl,run_takeDeferred hdd,?_⟩⟩
    have hK:Kept (fun i => i = w1.heap.size) W (W.putObj w1.heap.size (.deferred none)):=kept_put hdd rfl rfl
    have hE:=hv.kept hK (fun i hi => by omega) (by omega) (fun i hi e => by have:=hv.far i hi;omega)
    refine ⟨_,results_tmp rfl _ _ _,v,rfl,own_flat hE.row hE.nil,own_rowC hE.row,hE.g⟩
  case round =>
    rintro pre x post A W hx ⟨v,hA⟩ gA hlA
    dsimp only
    simp only [List.zip_toArray,List.zip_cons_cons,List.zip_nil_right,List.size_toArray,List.length_cons,List.length_nil,List.foldl_toArray',List.foldl_cons,List.foldl_nil,List.setIfInBounds_toArray,List.set_cons_succ,List.set_cons_zero]
    gi_wp2_with (first | (refine store_boxIn rfl 145 _ _ rfl W.heap.size _ (Box.made W [.int .i64 0,.int .u64 0,.int .i64 0,.int .i64 0,.int .u64 0,.int .u64 0,.int .i64 0,.int .u64 0] 145) (nodeL c ws s x).toArray rfl rfl rfl (by kernel_rfl) rfl ?_;intro W1 B1 q1) | fail)
    have gW:Grown W W1:=But.fresh (by go_grown) q1 (fun i hi => by subst hi;exact Nat.le_refl _)
    refine ⟨gW,fun W₂ q => ?_⟩
    have hrow:=fun i hi => own_at hA.row (g:=i) hi
    have hA1:=hA.kept (Kept.of_grown (U:=fun _ => False) (gtr gA gW)) (fun _ f => f.elim) (fun f => f) (fun _ _ f => f)
    have hA2:=hA1.kept q (fun i hi => by omega) (by omega) (fun i hi e => by have:=hA.far i hi;omega)
    have hAW:=gA.2.2
    have B2:=B1.kept q (by omega)
    have e0:=B2.cell 0 _ rfl
    have c0:=hA2.box.cell 0 _ rfl
    have f0:=hA2.box.free 0
    have hz2:w1.heap.size + 1 < W₂.heap.size:=by have:=gW.2.2;have:=q.size;omega
    have HA2:=Lib.hid hA2
    clear q1 B1 hA1 hA2 B2
    gi_wp2_with (first | (gi_at_builtin;refine pause ?_) | fail)
    unfold Pause
    refine wpListIn_add rfl _ _ 36 rfl w.heap.size 3 (.int .i64 0) 1 8 Tryz.underlying36 info_int rfl (by decide) v pre.length (ints pre) (own_grown HA2.out.row (by go_grown)) _ 1 0 [.int .i64 x] (.inr ⟨by decide,W₂.heap.size,1,rfl,Nat.zero_le _,fun j u hj => ?news⟩) rfl (by simp [Value.oneCell']) ?h63 (by decide) ?hbase rfl rfl ?_
    case news =>
      rcases j with _ | j
      · cases hj;simp [go_sem]
      · cases hj
    case h63 => have h1:=chainI_len HD.out.book.ok ws b;rw [hx] at h1;simp at h1;omega
    case hbase => have:=HA2.out.g.2.2;simp;omega
    intro v' W5 r5 fr5 q5
    obtain ⟨g',cap',hv'⟩:=own_open r5 (by omega)
    have ga:Grown W₂ (W₂.alloc (.cells #[.int .i64 x] 3)):=by go_grown
    have hne:¬ InRow v w.heap.size:=fun e => by have:=HA2.out.far _ e;omega
    replace c0:=q5.cell hne (acell c0)
    replace f0:W5.frozen? ⟨w.heap.size,0,none⟩ = false:=q5.frozen ((ga.2.1 _).trans f0)
    have B5:=(HA2.out.box.grown ga).but q5 hne
    rw [hv']
    gi_wp2_with fail
    rw [← hv']
    have q6:But (fun i => InRow v i ∨ i = w.heap.size) W₂ (W5.setCell ⟨w.heap.size,0,none⟩ v'):=((But.of_grown (by go_grown)).trans (q5.mono (fun _ h => .inl h))).setCell (.inl (.inr rfl)) _
    refine ⟨q6.kept.mono ?_,v',⟨?_,B5.set (j:=0) (by simp) v',?_,.inl (by simp),?_⟩⟩
    · rintro i (hi | rfl)
      · have h1:=hrow i hi
        have h2:=HA2.out.far i hi
        omega
      · have:=HA2.out.box.lt
        omega
    · exact But.fresh HA2.out.g q6 (fun i hi => by rcases hi with hi | rfl;· exact (hrow i hi).1
                                                   · exact Nat.le_refl _)
    · have:=own_kept r5 (But.kept (But.setCell (S:=fun i => i = w.heap.size) (But.refl _ W5) (a:=⟨w.heap.size,0,none⟩) (.inl rfl) v')) (fun g hg e => ?_)
      · simpa [ints] using this
      · subst e
        rcases fr5 with e1 | ⟨g,e1,h1⟩
        · exact hne (by unfold InRow at hg ⊢;rw [← e1];exact hg)
        · unfold InRow at hg;rw [e1] at hg;cases hg;simp at h1;omega
    · intro i hi
      rcases fr5 with e1 | ⟨g,e1,h1⟩
      · exact HA2.out.far i (by unfold InRow at hi ⊢;rw [← e1];exact hi)
      · unfold InRow at hi;rw [e1] at hi;cases hi;simp at h1;omega
end Go.Proofs.YtcogckjpmmjmbaaGreat
