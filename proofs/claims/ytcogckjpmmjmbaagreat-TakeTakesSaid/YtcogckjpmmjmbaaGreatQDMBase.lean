/- Small laws about worlds that grow, over any program: of a world that has grown all that was there reads as before; and a statement whose order Go leaves open, all of whose operations read what was there or call functions that make memory alone, does the same in every order. -/
import Derived.Test.YtcogckjpmmjmbaaGreatRows
import Derived.Handy
import Derived.Lib.Hide
import Derived.BigQuiet
import Derived.Deep.RegionHeld3
import Derived.Laws.LoneSync
import Derived.Laws.MakeOwn
import Derived.OwnWalk
import Derived.OrdersHeld
import Derived.WideKeyArgs
import Derived.Deep.Frames
namespace Go.Proofs.YtcogckjpmmjmbaaGreat
open Go.ChangeShapes Go.WideShapes Go.ChangeAt Go.RowKit
set_option maxRecDepth 100000
theorem gtr {a b c:World} (h:Grown a b) (k:Grown b c):Grown a c :=
  ⟨World.keptBut_trans h.1 (World.keptBut_mono (fun _ f => f) k.1),fun x => (k.2.1 x).trans (h.2.1 x),Nat.le_trans h.2.2 k.2.2⟩
theorem gcell {a b:World} (h:Grown a b) {i o:Nat} {v:Value} (k:a.cell? ⟨i,o,none⟩ = some v):b.cell? ⟨i,o,none⟩ = some v:=by
  rw [h.1.cell (World.block_lt_of_cell? a _ k) (fun f => f)];exact k
structure GrW (W:World):Type where
  w:World
  gr:Grown W w
instance (W:World):Nonempty (GrW W):=⟨⟨W,Grown.refl W⟩⟩
theorem GrW.cell {W:World} {i o:Nat} {v:Value} (k:W.cell? ⟨i,o,none⟩ = some v) (g:GrW W):g.w.cell? ⟨i,o,none⟩ = some v:=gcell g.gr k
theorem GrW.frozen {W:World} {a:Addr} {b:Bool} (k:W.frozen? a = b) (g:GrW W):g.w.frozen? a = b:=(g.gr.2.1 a).trans k
theorem grcall {P:Program} {f:FuncId} {args:Array Value} {W:World} {g:GrW W} {v:Value}
    (h:Calls P f args g.w fun e w' => e = .returned v ∧ Grown g.w w'):Calls P f args g.w fun e w'' => e = .returned v ∧ ∃ k:GrW W,w'' = k.w :=
  h.mono fun _ w' ⟨he,hm⟩ => ⟨he,⟨w',gtr g.gr hm⟩,rfl⟩
theorem wp_region_grow {P:Program} {id:Nat} {Q:Exit → Act → World → Prop} {a:Act} {w:World} {l:List Oper} (hm:P.follows .mixedOrders = true) (hB:Region.lexB .any l.toArray = true)
    (h:wpQuiet P l.toArray (fun w' => ∃ g:GrW w,w' = g.w) (fun a' => ∀ w',(∃ g:GrW w,w' = g.w) → Q .normal a' w') l a):(Code.region id l.toArray true).wp P Q a w :=
  wp_region_quiet (C:=fun w' => ∃ g:GrW w,w' = g.w) hm hB ⟨⟨w.drew,(Grown.refl w).drew⟩,rfl⟩ (by simpa using h)
theorem ret_int {k:IntKind} {a b:Int} (h:a = b):Ending.returned (.int k a) = Ending.returned (.int k b):=by rw [h]
theorem ret_bool {a b:Bool} (h:a = b):Ending.returned (.bool a) = Ending.returned (.bool b):=by rw [h]
theorem mkFunc (fn:Fn) (first cap:Array Value) (w:World):(Instr.makeFunc fn first cap).run Tryz.prog w = .ok (.func fn first cap) w:=rfl
end Go.Proofs.YtcogckjpmmjmbaaGreat
namespace Go.Proofs.YtcogckjpmmjmbaaGreat
open Go.ChangeShapes Go.WideShapes Go.ChangeAt Go.RowKit
set_option maxRecDepth 100000
def But (S:Nat → Prop) (w w':World):Prop :=
  w.keptBut w' (fun m => S m.block) ∧ (∀ a,w'.frozen? a = w.frozen? a) ∧ w.heap.size ≤ w'.heap.size
theorem But.refl (S:Nat → Prop) (w:World):But S w w:=⟨World.keptBut_refl _ _,fun _ => rfl,Nat.le_refl _⟩
theorem But.trans {S:Nat → Prop} {a b c:World} (h:But S a b) (k:But S b c):But S a c :=
  ⟨World.keptBut_trans h.1 k.1,fun x => (k.2.1 x).trans (h.2.1 x),Nat.le_trans h.2.2 k.2.2⟩
theorem But.mono {S T:Nat → Prop} {a b:World} (h:But S a b) (hs:∀ i,S i → T i):But T a b :=
  ⟨World.keptBut_mono (fun _ f => hs _ f) h.1,h.2.1,h.2.2⟩
theorem But.of_grown {S:Nat → Prop} {a b:World} (h:Grown a b):But S a b :=
  ⟨World.keptBut_mono (fun _ f => f.elim) h.1,h.2.1,h.2.2⟩
theorem But.cell {S:Nat → Prop} {a b:World} (h:But S a b) {i o:Nat} {v:Value} (hs:¬ S i) (k:a.cell? ⟨i,o,none⟩ = some v):b.cell? ⟨i,o,none⟩ = some v:=by
  rw [h.1.cell (World.block_lt_of_cell? a _ k) hs];exact k
theorem But.alloc {S:Nat → Prop} {W w':World} (h:But S W w') (c:Array Value) (t:TypeId):But S W (w'.alloc (.cells c t)) :=
  ⟨World.keptBut_trans h.1 (World.keptBut_alloc _ _ _),fun a => (frozen?_alloc_cells _ _ _ a).trans (h.2.1 a),Nat.le_trans h.2.2 (by show w'.heap.size ≤ (w'.heap.push _).size;simp)⟩
theorem But.drew {S:Nat → Prop} {W w':World} (h:But S W w'):But S W w'.drew:=h
theorem But.setCell {S:Nat → Prop} {W w':World} (h:But S W w') {a:Addr} (ha:S a.block ∨ W.heap.size ≤ a.block) (v:Value):But S W (w'.setCell a v):=by
  rcases ha with ha | ha
  · exact ⟨World.keptBut_trans h.1 (World.keptBut_setCell _ _ _ ha),fun x => (World.frozen?_setCell _ _ _ _).trans (h.2.1 x),by simpa [World.setCell] using h.2.2⟩
  · obtain ⟨⟨h1,h2,h3⟩,hf,hs⟩:=h
    refine ⟨⟨h1,h2,fun i hi => ?_⟩,fun x => (World.frozen?_setCell _ _ _ _).trans (hf x),by simpa [World.setCell] using hs⟩
    have e:(w'.setCell a v).heap[i]? = w'.heap[i]?:=by
      simp only [World.setCell,Array.getElem?_modify]
      rw [if_neg (by omega)]
    rw [e]
    exact h3 i hi
theorem But.fresh {S:Nat → Prop} {W a b:World} (g:Grown W a) (h:But S a b) (hs:∀ i,S i → W.heap.size ≤ i):Grown W b:=by
  refine ⟨⟨h.1.1.trans g.1.1,h.1.2.1.trans g.1.2.1,fun i hi => ?_⟩,fun x => (h.2.1 x).trans (g.2.1 x),Nat.le_trans g.2.2 h.2.2⟩
  have e:b.heap[i]? = a.heap[i]?:=h.1.block (Nat.lt_of_lt_of_le hi g.2.2) (fun p hp hpi => by have:=hs _ hp;omega)
  rw [e]
  exact g.1.2.2 i hi
theorem But.frozen {S:Nat → Prop} {a b:World} (h:But S a b) {x:Addr} {f:Bool} (k:a.frozen? x = f):b.frozen? x = f:=(h.2.1 x).trans k
theorem wpList_append_copy {P:Program} {w:World} {ops:Array Oper} {rest:List Oper} {o:Oper} {a:Act} {Q:Exit → Act → World → Prop} (hgd:o.guard = none) (s x:Operand) (t:TypeId)
    (ho:o.op = .call { callee:=.builtin .append,args:=#[s,x],argTypes:=#[t,t] })
    (e:TypeId) (z:Value) (bytes:Nat) (ht:P.underlying t = some (.slice e)) (hi:(P.info? e).map (fun i => (i.zero,i.size,i.bytes)) = some (some z,1,bytes))
    (g:Nat) (hs:a.eval s = .slice (some ⟨g,0,none⟩) 0 0) (ad:Addr) (m c:Nat) (news:List Value) (hx:a.eval x = .slice (some ad) m c) (hm:0 < m) (hl:news.length = m)
    (hnews:∀ j u,news[j]? = some u → w.cell? (ad.add j) = some u) (h63:m ≤ 1152921504606846976) (hbytes:m * bytes ≤ 140737488355328)
    (h:∀ cap Z,m ≤ cap → wpList P ops Q rest (a.put o.dst (.slice (some ⟨w.heap.size,0,none⟩) m cap)) (w.drew.alloc (.cells (news.toArray ++ Z) e))):wpList P ops Q (o :: rest) a w:=by
  obtain ⟨i,hi1,hi2,hi3,hi4⟩:=info_parts hi
  have hr:=run_append_grow (P:=P) w t o.type e i z ht hi1 hi2 ⟨g,0,none⟩ 0 0 [] (by simp) (by simp) ad m c news (by rw [hi3,hl,Nat.mul_one]) hnews (by omega) (by omega) (growslice_fits (by omega) (by rw [hi4,Nat.zero_add];exact hbytes))
  simp only [Nat.zero_add,Array.empty_append] at hr
  refine wpList_plain hgd fun K hK => ?_
  unfold Oper.wp execOp
  simp only [ho,resolve,invoke,builtin,Sem.run_bind,Sem.run_pure,Result.andThen_ok,List.map_toArray,List.map_cons,List.map_nil,hs,hx,hr]
  exact hK _ _ (h _ _ (grownCap_ge w m 0 e))
structure ButW (S:Nat → Prop) (W:World):Type where
  w:World
  gr:But S W w
instance (S:Nat → Prop) (W:World):Nonempty (ButW S W):=⟨⟨W,But.refl S W⟩⟩
theorem ButW.cell {S:Nat → Prop} {W:World} {i o:Nat} {v:Value} (hs:¬ S i) (k:W.cell? ⟨i,o,none⟩ = some v) (g:ButW S W):g.w.cell? ⟨i,o,none⟩ = some v:=g.gr.cell hs k
end Go.Proofs.YtcogckjpmmjmbaaGreat
namespace Go.Proofs.YtcogckjpmmjmbaaGreat
open Go.ChangeShapes Go.WideShapes Go.ChangeAt Go.RowKit
set_option maxRecDepth 100000
def floaty (o:Oper):Bool :=
  match o.op with
  | .move .. | .assign .. | .pick .. | .load .. | .binOp .. | .unOp .. | .convert .. | .fieldAddr .. | .field .. | .indexAddr .. | .index .. | .nilCheck .. | .build .. | .makeFunc .. | .extract .. | .slice .. | .makeInterface .. | .sliceToArrayPointer .. => true
  | _ => false
theorem value_only {P:Program} (x:Sem Value) {w w':World} {n:Next} (h:((do pure (.value (← x)):Sem Next)).run P w = .ok n w'):∃ u,n = .value u:=by
  rw [Sem.run_bind] at h
  cases hx:x.run P w with
  | ok u w1 => rw [hx] at h;cases h;exact ⟨u,rfl⟩
  | halt y w1 => rw [hx] at h;cases h
theorem nilCheck_value {P:Program} {ρ:Operand → Value} {x:Operand} {o:Oper} {w w':World} {n:Next} (e:o.op = .nilCheck x) (h:(execOp ρ o).run P w = .ok n w'):∃ u,n = .value u:=by
  have hp:∀ {n:Next} {w w':World},(runtimePanic .nilDeref:Sem Next).run P w ≠ .ok n w':=fun h => by cases h
  unfold execOp at h
  simp only [e] at h
  split at h
  · exact absurd h hp
  · exact absurd h hp
  · exact absurd h hp
  · split at h
    · exact absurd h hp
    · rw [Sem.run_bind] at h
      generalize Sem.run P program w = r at h
      cases r with
      | halt y w1 => cases h
      | ok p w1 =>
        simp only [Result.andThen] at h
        rw [Sem.run_bind] at h
        generalize Sem.run P (nilAhead _ _ _ _) w1 = r at h
        cases r with
        | halt y w2 => cases h
        | ok b w2 =>
          simp only [Result.andThen] at h
          split at h
          · rw [Sem.run_bind] at h
            cases h
          · cases h;exact ⟨_,rfl⟩
    · cases h;exact ⟨_,rfl⟩
  · cases h;exact ⟨_,rfl⟩
theorem floaty_value {P:Program} {o:Oper} {ρ:Operand → Value} {w w':World} {n:Next} (hf:floaty o = true) (h:(execOp ρ o).run P w = .ok n w'):∃ u,n = .value u:=by
  by_cases hn:∃ x,o.op = .nilCheck x
  · obtain ⟨x,e⟩:=hn
    exact nilCheck_value e h
  unfold floaty at hf
  unfold execOp at h
  split at hf
  all_goals first
    | contradiction
    | (exact absurd ⟨_,by assumption⟩ hn)
    | (rename_i e;simp only [e] at h;first | exact value_only _ h | (cases h;exact ⟨_,rfl⟩) | skip)
  all_goals (
    rw [Sem.run_bind] at h
    generalize Sem.run P (asBool _) w = r at h
    cases r with
    | ok u w1 => cases h;exact ⟨_,rfl⟩
    | halt y w1 => cases h)
section
variable {P:Program} {ops:Array Oper} {S:World → Prop} {Q:Act → World → Prop}
theorem yields_of_quiet {o:Oper} {a:Act} {K:Act → Prop} (hf:floaty o = true) (hw:Region.wanted o (yielded ops a.tmps) = true) (h:o.quiet P a S K) :
    ∃ v,YieldsIf P ops S o v a ∧ K (a.put o.dst v):=by
  obtain ⟨v,h1,h2⟩:=h
  refine ⟨v,.inl ⟨hw,fun w hS => ?_⟩,h2⟩
  have h3:=h1 w hS
  unfold Oper.quietAt at h3
  cases hr:(execOp a.eval o).run P w with
  | ok n w' =>
    obtain ⟨u,rfl⟩:=floaty_value hf hr
    rw [hr] at h3
    obtain ⟨rfl,rfl⟩:=h3
    rfl
  | halt x w' => rw [hr] at h3;exact h3.elim
def Nxt (S:World → Prop) (K:(World → Prop) → Act → World → Prop):Exit → Act → World → Prop :=
  fun e a w => e = .normal ∧ ∃ S':World → Prop,(∀ w,S' w → S w) ∧ S' w ∧ K S' a w
def Mix (P:Program) (ops:Array Oper) (Q:Act → World → Prop):List (List Oper × Oper) → List Oper → (World → Prop) → Act → World → Prop
  | [],tl,S,a,w => wpQuiet P ops S (fun a' => Q a' w) tl a
  | (fs,c) :: more,tl,S,a,w => wpQuiet P ops S (fun a' => wpList P ops (Nxt S (Mix P ops Q more tl)) [c] a' w) fs a
def nth (l:List Oper) (i:Nat):Oper:=l.getD i ⟨none,.assign (.const undef),0,"",#[],none⟩
def nths (l:List Oper) (is:List Nat):List Oper:=is.map (nth l)
def segs (l:List Oper) (s:List (List Nat × Nat)):List (List Oper × Oper):=s.map fun (is,c) => (nths l is,nth l c)
def setAll:List Nat → Array Bool → Array Bool
  | [],L => L
  | i :: is,L => setAll is (L.setIfInBounds i true)
def floatsB (ops:Array Oper):List Nat → Array Bool → Bool
  | [],_ => true
  | i :: is,L => (Region.ready .any ops L).contains i && Region.free .any ops L i && (match ops[i]? with | some o => floaty o | none => false) && floatsB ops is (L.setIfInBounds i true)
def mixB (ops:Array Oper):Nat → List (List Nat × Nat) → List Nat → Array Bool → Bool
  | n,[],tl,L => decide (tl.length ≤ n) && floatsB ops tl L && (Region.ready .any ops (setAll tl L)).isEmpty
  | n,(is,c) :: more,tl,L => decide (is.length + 1 ≤ n) && floatsB ops is L && decide (Region.ready .any ops (setAll is L) = [c]) && decide (c < ops.size) && mixB ops (n - is.length - 1) more tl ((setAll is L).setIfInBounds c true)
theorem nth_at {l:List Oper} {i:Nat} {o:Oper} (h:l.toArray[i]? = some o):nth l i = o:=by
  simp only [List.getElem?_toArray] at h
  simp [nth,List.getD,h]
theorem wpAnyH_narrow {md:Region.Mode} {Q:Exit → Act → World → Prop} {S S':World → Prop} (hS:∀ w,S' w → S w):∀ (fuel:Nat) (L:Array Bool) (a:Act) (w:World),wpAnyH P md ops Q S' fuel L a w → wpAnyH P md ops Q S fuel L a w
  | 0,_,_,_,h => h
  | fuel + 1,_,_,_,h => ⟨h.1,fun i hi => wpOp_mono (fun a' w' h' => ⟨hS _ h'.1,wpAnyH_narrow hS fuel _ a' w' h'.2⟩) (h.2 i hi)⟩
def Well (Q:Act → World → Prop):Exit → Act → World → Prop:=fun e a w => e = .normal ∧ Q a w
theorem floats_go {l:List Oper} (hs:Region.noSelect l.toArray = true) {R:Act → Prop}:∀ (is:List Nat) (L:Array Bool) (a:Act) (w:World) (n:Nat),is.length ≤ n → floatsB l.toArray is L = true → S w →
    wpQuiet P l.toArray S R (nths l is) a → (∀ a',R a' → wpAnyH P .any l.toArray (Well Q) S (n - is.length) (setAll is L) a' w) → wpAnyH P .any l.toArray (Well Q) S n L a w
  | [],L,a,w,n,_,_,_,h,hk => hk a h
  | i :: is,L,a,w,n,hn,hB,hS,h,hk => by
    obtain ⟨m,rfl⟩:∃ m,n = m + 1:=⟨n - 1,by simp only [List.length_cons] at hn;omega⟩
    simp only [floatsB,Bool.and_eq_true] at hB
    obtain ⟨⟨⟨hr,hf⟩,ho⟩,hB'⟩:=hB
    cases hi:l.toArray[i]? with
    | none => rw [hi] at ho;cases ho
    | some o =>
      rw [hi] at ho
      have hx:nths l (i :: is) = o :: nths l is:=by simp only [nths,List.map_cons,nth_at hi]
      rw [hx] at h
      simp only [wpQuiet] at h
      have key:∃ v,YieldsIf P l.toArray S o v a ∧ wpQuiet P l.toArray S R (nths l is) (a.put o.dst v):=by
        by_cases hw:Region.wanted o (yielded l.toArray a.tmps) = true
        · rw [if_pos hw] at h
          exact yields_of_quiet ho hw h
        · rw [if_neg hw] at h
          exact ⟨undef,.inr ⟨by simpa using hw,rfl⟩,h⟩
      obtain ⟨v,hy,hq⟩:=key
      refine wpAnyH_take hi hs hf hr (fun c a w hc => (by cases hc.1)) hy hS (floats_go hs is _ _ w m (by simp only [List.length_cons] at hn;omega) hB' hS hq fun a' ha' => ?_)
      have:=hk a' ha'
      simp only [List.length_cons,setAll] at this
      rwa [show m + 1 - (is.length + 1) = m - is.length by omega] at this
theorem mix_go {l:List Oper} (hs:Region.noSelect l.toArray = true):∀ (s:List (List Nat × Nat)) (tl:List Nat) (n:Nat) (S:World → Prop) (L:Array Bool) (a:Act) (w:World),mixB l.toArray n s tl L = true → S w →
    Mix P l.toArray Q (segs l s) (nths l tl) S a w → wpAnyH P .any l.toArray (Well Q) S n L a w
  | [],tl,n,S,L,a,w,hB,hS,h => by
    simp only [mixB,Bool.and_eq_true,decide_eq_true_eq,List.isEmpty_iff] at hB
    obtain ⟨⟨hn,hB⟩,hr⟩:=hB
    exact floats_go (R:=fun a' => Q a' w) hs tl L a w n hn hB hS h fun a' ha' => wpAnyH_done hr ⟨rfl,ha'⟩ _
  | (is,c) :: more,tl,n,S,L,a,w,hB,hS,h => by
    simp only [mixB,Bool.and_eq_true,decide_eq_true_eq] at hB
    obtain ⟨⟨⟨⟨hn,hB⟩,hr⟩,hc⟩,hB'⟩:=hB
    simp only [segs,List.map_cons,Mix] at h
    refine floats_go (R:=fun a' => wpList P l.toArray (Nxt S (Mix P l.toArray Q (segs l more) (nths l tl))) [nth l c] a' w) hs is L a w n (by omega) hB hS h fun a' ha' => ?_
    obtain ⟨m,hm⟩:∃ m,n - is.length = m + 1:=⟨n - is.length - 1,by omega⟩
    rw [hm]
    rw [show n - is.length - 1 = m by omega] at hB'
    refine wpAnyH_all hr (by simp) fun i hi => ?_
    obtain rfl:i = c:=by simpa using hi
    obtain ⟨o,ho⟩:∃ o,l.toArray[i]? = some o:=⟨_,Array.getElem?_eq_getElem hc⟩
    rw [nth_at ho] at ha'
    have back:∀ e a'' w'',Nxt S (Mix P l.toArray Q (segs l more) (nths l tl)) e a'' w'' → e = .normal ∧ (S w'' ∧ wpAnyH P .any l.toArray (Well Q) S m ((setAll is L).setIfInBounds i true) a'' w''):=by
      rintro e a'' w'' ⟨he,S',h1,h2,h3⟩
      exact ⟨he,h1 _ h2,wpAnyH_narrow h1 _ _ _ _ (mix_go hs more tl m S' _ a'' w'' hB' h2 h3)⟩
    unfold wpOp
    simp only [ho]
    simp only [wpList] at ha'
    split
    · rename_i hw
      rw [if_pos hw] at ha'
      rcases ha' with ha' | ⟨_,_,_,hx⟩
      · refine .inl ?_
        unfold Oper.wp at *
        generalize (execOp a'.eval o).run P w = r at ha'
        cases r with
        | ok x w' =>
          cases x <;> simp only [Oper.upon] at ha' ⊢
          case value u => exact (back _ _ _ ha').2
          case skip => exact (back _ _ _ ha').2
          case defer d => exact (back _ _ _ ha').2
          case enter f args =>
            refine Calls.mono ha' fun e w'' he => ?_
            cases e with
            | returned u => exact (back _ _ _ he).2
            | panicked c => exact absurd (back _ _ _ he).1 (by simp)
            | outgrown => obtain ⟨_,_,hx⟩:=he;exact absurd (back _ _ _ hx).1 (by simp)
          case row row args => exact Rows.mono ha' fun u w'' he => (back _ _ _ he).2
        | halt x w' =>
          cases x <;> simp only [Oper.upon] at ha' ⊢
          case panic u => exact absurd (back _ _ _ ha').1 (by simp)
      · exact absurd (back _ _ _ hx).1 (by simp)
    · rename_i hw
      rw [if_neg hw] at ha'
      exact (back _ _ _ ha').2
theorem mix_step {fs:List Oper} {c:Oper} {more:List (List Oper × Oper)} {tl:List Oper} {a:Act} {w:World} (h:wpQuiet P ops S (fun a' => wpList P ops (Nxt S (Mix P ops Q more tl)) [c] a' w) fs a):Mix P ops Q ((fs,c) :: more) tl S a w:=h
theorem mix_last {tl:List Oper} {a:Act} {w:World} (h:wpQuiet P ops S (fun a' => Q a' w) tl a):Mix P ops Q [] tl S a w:=h
theorem wp_region_mix {id:Nat} {Q:Exit → Act → World → Prop} {a:Act} {w:World} {l:List Oper} (S:World → Prop) (s:List (List Nat × Nat)) (tl:List Nat) (hm:P.follows .mixedOrders = true)
    (hs:Region.noSelect l.toArray = true) (hB:mixB l.toArray l.length s tl (Array.replicate l.length false) = true) (hS:S w.drew)
    (h:Mix P l.toArray (fun a' w' => Q .normal a' w') (segs l s) (nths l tl) S a w.drew):(Code.region id l.toArray true).wp P Q a w:=by
  have:=mix_go (Q:=fun a' w' => Q .normal a' w') hs s tl l.length S _ a w.drew hB hS h
  refine Code.wp_mono (Q:=Well fun a' w' => Q .normal a' w') (fun e a w hq => by obtain ⟨rfl,hq⟩:=hq;exact hq) (wp_region_held (S:=S) hm ?_)
  simpa using this
def GrS (w:World):World → Prop:=fun w' => ∃ g:GrW w,w' = g.w
theorem grS_self (w:World):GrS w w:=⟨⟨w,Grown.refl w⟩,rfl⟩
theorem wp_region_mixg {id:Nat} {Q:Exit → Act → World → Prop} {a:Act} {w:World} {l:List Oper} (s:List (List Nat × Nat)) (tl:List Nat) (hm:P.follows .mixedOrders = true)
    (hs:Region.noSelect l.toArray = true) (hB:mixB l.toArray l.length s tl (Array.replicate l.length false) = true)
    (h:∀ w1,Grown w w1 → Mix P l.toArray (fun a' w' => Q .normal a' w') (segs l s) (nths l tl) (fun w' => ∃ g:GrW w1,w' = g.w) a w1):(Code.region id l.toArray true).wp P Q a w :=
  wp_region_mix _ s tl hm hs hB (grS_self _) (h _ (Grown.refl w).drew)
theorem nxt_grow {w0:World} {K:(World → Prop) → Act → World → Prop} {a:Act} {w:World} (hg:Grown w0 w) (h:K (fun w' => ∃ g:GrW w,w' = g.w) a w):Nxt (fun w' => ∃ g:GrW w0,w' = g.w) K .normal a w :=
  ⟨rfl,_,fun _ ⟨g,hw⟩ => ⟨⟨g.w,gtr hg g.gr⟩,hw⟩,grS_self w,h⟩
end
end Go.Proofs.YtcogckjpmmjmbaaGreat
namespace Go.Proofs.YtcogckjpmmjmbaaGreat
open Go.ChangeShapes Go.WideShapes Go.ChangeAt Go.RowKit
set_option maxRecDepth 100000
inductive Plan where
  | fin (tl:List Nat)
  | one (is:List Nat) (c:Nat) (p:Plan)
  | two (is:List Nat) (c:Nat) (p:Plan) (d:Nat) (q:Plan)
  | three (is:List Nat) (c:Nat) (p:Plan) (d:Nat) (q:Plan) (e:Nat) (r:Plan)
section
variable {P:Program} {S:World → Prop} {Q:Act → World → Prop}
def Pl (P:Program) (l:List Oper) (Q:Act → World → Prop):Plan → (World → Prop) → Act → World → Prop
  | .fin tl,S,a,w => wpQuiet P l.toArray S (fun a' => Q a' w) (nths l tl) a
  | .one is c p,S,a,w => wpQuiet P l.toArray S (fun a' => wpList P l.toArray (Nxt S (Pl P l Q p)) [nth l c] a' w) (nths l is) a
  | .two is c p d q,S,a,w => wpQuiet P l.toArray S (fun a' => wpList P l.toArray (Nxt S (Pl P l Q p)) [nth l c] a' w ∧ wpList P l.toArray (Nxt S (Pl P l Q q)) [nth l d] a' w) (nths l is) a
  | .three is c p d q e r,S,a,w => wpQuiet P l.toArray S (fun a' => wpList P l.toArray (Nxt S (Pl P l Q p)) [nth l c] a' w ∧ wpList P l.toArray (Nxt S (Pl P l Q q)) [nth l d] a' w ∧ wpList P l.toArray (Nxt S (Pl P l Q r)) [nth l e] a' w) (nths l is) a
def planB (ops:Array Oper):Nat → Plan → Array Bool → Bool
  | n,.fin tl,L => decide (tl.length ≤ n) && floatsB ops tl L && (Region.ready .any ops (setAll tl L)).isEmpty
  | n,.one is c p,L => decide (is.length + 1 ≤ n) && floatsB ops is L && decide (Region.ready .any ops (setAll is L) = [c]) && decide (c < ops.size) && planB ops (n - is.length - 1) p ((setAll is L).setIfInBounds c true)
  | n,.two is c p d q,L => decide (is.length + 1 ≤ n) && floatsB ops is L && decide (Region.ready .any ops (setAll is L) = [c,d]) && decide (c < ops.size) && decide (d < ops.size) && planB ops (n - is.length - 1) p ((setAll is L).setIfInBounds c true) && planB ops (n - is.length - 1) q ((setAll is L).setIfInBounds d true)
  | n,.three is c p d q e r,L => decide (is.length + 1 ≤ n) && floatsB ops is L && decide (Region.ready .any ops (setAll is L) = [c,d,e]) && decide (c < ops.size) && decide (d < ops.size) && decide (e < ops.size) && planB ops (n - is.length - 1) p ((setAll is L).setIfInBounds c true) && planB ops (n - is.length - 1) q ((setAll is L).setIfInBounds d true) && planB ops (n - is.length - 1) r ((setAll is L).setIfInBounds e true)
theorem effect_go {l:List Oper} {K:(World → Prop) → Act → World → Prop} {i:Nat} {o:Oper} {a:Act} {w:World} {m:Nat} {L:Array Bool} (ho:l.toArray[i]? = some o)
    (h:wpList P l.toArray (Nxt S K) [o] a w)
    (hk:∀ S' a' w',S' w' → K S' a' w' → wpAnyH P .any l.toArray (Well Q) S' m L a' w') :
    wpOp P l.toArray (Well Q) i (fun a' w' => S w' ∧ wpAnyH P .any l.toArray (Well Q) S m L a' w') a w:=by
  have back:∀ e a'' w'',Nxt S K e a'' w'' → e = .normal ∧ (S w'' ∧ wpAnyH P .any l.toArray (Well Q) S m L a'' w''):=by
    rintro e a'' w'' ⟨he,S',h1,h2,h3⟩
    exact ⟨he,h1 _ h2,wpAnyH_narrow h1 _ _ _ _ (hk S' a'' w'' h2 h3)⟩
  unfold wpOp
  simp only [ho]
  simp only [wpList] at h
  split
  · rename_i hw
    rw [if_pos hw] at h
    rcases h with h | ⟨_,_,_,hx⟩
    · refine .inl ?_
      unfold Oper.wp at *
      generalize (execOp a.eval o).run P w = r at h
      cases r with
      | ok x w' =>
        cases x <;> simp only [Oper.upon] at h ⊢
        case value u => exact (back _ _ _ h).2
        case skip => exact (back _ _ _ h).2
        case defer d => exact (back _ _ _ h).2
        case enter f args =>
          refine Calls.mono h fun e w'' he => ?_
          cases e with
          | returned u => exact (back _ _ _ he).2
          | panicked c => exact absurd (back _ _ _ he).1 (by simp)
          | outgrown => obtain ⟨_,_,hx⟩:=he;exact absurd (back _ _ _ hx).1 (by simp)
        case row row args => exact Rows.mono h fun u w'' he => (back _ _ _ he).2
      | halt x w' =>
        cases x <;> simp only [Oper.upon] at h ⊢
        case panic u => exact absurd (back _ _ _ h).1 (by simp)
    · exact absurd (back _ _ _ hx).1 (by simp)
  · rename_i hw
    rw [if_neg hw] at h
    exact (back _ _ _ h).2
theorem plan_go {l:List Oper} (hs:Region.noSelect l.toArray = true):∀ (p:Plan) (n:Nat) (S:World → Prop) (L:Array Bool) (a:Act) (w:World),planB l.toArray n p L = true → S w →
    Pl P l Q p S a w → wpAnyH P .any l.toArray (Well Q) S n L a w
  | .fin tl,n,S,L,a,w,hB,hS,h => by
    simp only [planB,Bool.and_eq_true,decide_eq_true_eq,List.isEmpty_iff] at hB
    obtain ⟨⟨hn,hB⟩,hr⟩:=hB
    exact floats_go (R:=fun a' => Q a' w) hs tl L a w n hn hB hS h fun a' ha' => wpAnyH_done hr ⟨rfl,ha'⟩ _
  | .one is c p,n,S,L,a,w,hB,hS,h => by
    simp only [planB,Bool.and_eq_true,decide_eq_true_eq] at hB
    obtain ⟨⟨⟨⟨hn,hB⟩,hr⟩,hc⟩,hB'⟩:=hB
    refine floats_go (R:=fun a' => wpList P l.toArray (Nxt S (Pl P l Q p)) [nth l c] a' w) hs is L a w n (by omega) hB hS h fun a' ha' => ?_
    obtain ⟨m,hm⟩:∃ m,n - is.length = m + 1:=⟨n - is.length - 1,by omega⟩
    rw [hm]
    rw [show n - is.length - 1 = m by omega] at hB'
    refine wpAnyH_all hr (by simp) fun i hi => ?_
    obtain rfl:i = c:=by simpa using hi
    obtain ⟨o,ho⟩:∃ o,l.toArray[i]? = some o:=⟨_,Array.getElem?_eq_getElem hc⟩
    rw [nth_at ho] at ha'
    exact effect_go ho ha' fun S' a' w' h2 h3 => plan_go hs p m S' _ a' w' hB' h2 h3
  | .two is c p d q,n,S,L,a,w,hB,hS,h => by
    simp only [planB,Bool.and_eq_true,decide_eq_true_eq] at hB
    obtain ⟨⟨⟨⟨⟨⟨hn,hB⟩,hr⟩,hc⟩,hd⟩,hB1⟩,hB2⟩:=hB
    refine floats_go (R:=fun a' => wpList P l.toArray (Nxt S (Pl P l Q p)) [nth l c] a' w ∧ wpList P l.toArray (Nxt S (Pl P l Q q)) [nth l d] a' w) hs is L a w n (by omega) hB hS h fun a' ha' => ?_
    obtain ⟨m,hm⟩:∃ m,n - is.length = m + 1:=⟨n - is.length - 1,by omega⟩
    rw [hm]
    rw [show n - is.length - 1 = m by omega] at hB1 hB2
    obtain ⟨ha1,ha2⟩:=ha'
    refine wpAnyH_all hr (by simp) fun i hi => ?_
    have hi':i = c ∨ i = d:=by simpa using hi
    rcases hi' with rfl | rfl
    · obtain ⟨o,ho⟩:∃ o,l.toArray[i]? = some o:=⟨_,Array.getElem?_eq_getElem hc⟩
      rw [nth_at ho] at ha1
      exact effect_go ho ha1 fun S' a' w' h2 h3 => plan_go hs p m S' _ a' w' hB1 h2 h3
    · obtain ⟨o,ho⟩:∃ o,l.toArray[i]? = some o:=⟨_,Array.getElem?_eq_getElem hd⟩
      rw [nth_at ho] at ha2
      exact effect_go ho ha2 fun S' a' w' h2 h3 => plan_go hs q m S' _ a' w' hB2 h2 h3
  | .three is c p d q e r,n,S,L,a,w,hB,hS,h => by
    simp only [planB,Bool.and_eq_true,decide_eq_true_eq] at hB
    obtain ⟨⟨⟨⟨⟨⟨⟨⟨hn,hB⟩,hr⟩,hc⟩,hd⟩,he⟩,hB1⟩,hB2⟩,hB3⟩:=hB
    refine floats_go (R:=fun a' => wpList P l.toArray (Nxt S (Pl P l Q p)) [nth l c] a' w ∧ wpList P l.toArray (Nxt S (Pl P l Q q)) [nth l d] a' w ∧ wpList P l.toArray (Nxt S (Pl P l Q r)) [nth l e] a' w) hs is L a w n (by omega) hB hS h fun a' ha' => ?_
    obtain ⟨m,hm⟩:∃ m,n - is.length = m + 1:=⟨n - is.length - 1,by omega⟩
    rw [hm]
    rw [show n - is.length - 1 = m by omega] at hB1 hB2 hB3
    obtain ⟨ha1,ha2,ha3⟩:=ha'
    refine wpAnyH_all hr (by simp) fun i hi => ?_
    have hi':i = c ∨ i = d ∨ i = e:=by simpa using hi
    rcases hi' with rfl | rfl | rfl
    · obtain ⟨o,ho⟩:∃ o,l.toArray[i]? = some o:=⟨_,Array.getElem?_eq_getElem hc⟩
      rw [nth_at ho] at ha1
      exact effect_go ho ha1 fun S' a' w' h2 h3 => plan_go hs p m S' _ a' w' hB1 h2 h3
    · obtain ⟨o,ho⟩:∃ o,l.toArray[i]? = some o:=⟨_,Array.getElem?_eq_getElem hd⟩
      rw [nth_at ho] at ha2
      exact effect_go ho ha2 fun S' a' w' h2 h3 => plan_go hs q m S' _ a' w' hB2 h2 h3
    · obtain ⟨o,ho⟩:∃ o,l.toArray[i]? = some o:=⟨_,Array.getElem?_eq_getElem he⟩
      rw [nth_at ho] at ha3
      exact effect_go ho ha3 fun S' a' w' h2 h3 => plan_go hs r m S' _ a' w' hB3 h2 h3
theorem plan_three {l:List Oper} {is:List Nat} {c d e:Nat} {p q r:Plan} {a:Act} {w:World} (h:wpQuiet P l.toArray S (fun a' => wpList P l.toArray (Nxt S (Pl P l Q p)) [nth l c] a' w ∧ wpList P l.toArray (Nxt S (Pl P l Q q)) [nth l d] a' w ∧ wpList P l.toArray (Nxt S (Pl P l Q r)) [nth l e] a' w) (nths l is) a):Pl P l Q (.three is c p d q e r) S a w:=h
theorem plan_one {l:List Oper} {is:List Nat} {c:Nat} {p:Plan} {a:Act} {w:World} (h:wpQuiet P l.toArray S (fun a' => wpList P l.toArray (Nxt S (Pl P l Q p)) [nth l c] a' w) (nths l is) a):Pl P l Q (.one is c p) S a w:=h
theorem plan_two {l:List Oper} {is:List Nat} {c d:Nat} {p q:Plan} {a:Act} {w:World} (h:wpQuiet P l.toArray S (fun a' => wpList P l.toArray (Nxt S (Pl P l Q p)) [nth l c] a' w ∧ wpList P l.toArray (Nxt S (Pl P l Q q)) [nth l d] a' w) (nths l is) a):Pl P l Q (.two is c p d q) S a w:=h
theorem plan_fin {l:List Oper} {tl:List Nat} {a:Act} {w:World} (h:wpQuiet P l.toArray S (fun a' => Q a' w) (nths l tl) a):Pl P l Q (.fin tl) S a w:=h
theorem nxt_stay {w0:World} {K:(World → Prop) → Act → World → Prop} {a:Act} {w:World} (hg:Grown w0 w) (h:K (fun w' => ∃ g:GrW w0,w' = g.w) a w):Nxt (fun w' => ∃ g:GrW w0,w' = g.w) K .normal a w :=
  ⟨rfl,_,fun _ h => h,⟨⟨w,hg⟩,rfl⟩,h⟩
theorem wp_region_plan {id:Nat} {Q:Exit → Act → World → Prop} {a:Act} {w:World} {l:List Oper} (S:World → Prop) (p:Plan) (hm:P.follows .mixedOrders = true)
    (hs:Region.noSelect l.toArray = true) (hB:planB l.toArray l.length p (Array.replicate l.length false) = true) (hS:S w.drew)
    (h:Pl P l (fun a' w' => Q .normal a' w') p S a w.drew):(Code.region id l.toArray true).wp P Q a w:=by
  have:=plan_go (Q:=fun a' w' => Q .normal a' w') hs p l.length S _ a w.drew hB hS h
  refine Code.wp_mono (Q:=Well fun a' w' => Q .normal a' w') (fun e a w hq => by obtain ⟨rfl,hq⟩:=hq;exact hq) (wp_region_held (S:=S) hm ?_)
  simpa using this
theorem wp_region_plang {id:Nat} {Q:Exit → Act → World → Prop} {a:Act} {w:World} {l:List Oper} (p:Plan) (hm:P.follows .mixedOrders = true)
    (hs:Region.noSelect l.toArray = true) (hB:planB l.toArray l.length p (Array.replicate l.length false) = true)
    (h:∀ w1,Grown w w1 → Pl P l (fun a' w' => Q .normal a' w') p (fun w' => ∃ g:GrW w1,w' = g.w) a w1):(Code.region id l.toArray true).wp P Q a w :=
  wp_region_plan _ p hm hs hB (grS_self _) (h _ (Grown.refl w).drew)
theorem wp_region_planb {id:Nat} {Q:Exit → Act → World → Prop} {a:Act} {w:World} {l:List Oper} (B:Nat → Prop) (p:Plan) (hm:P.follows .mixedOrders = true)
    (hs:Region.noSelect l.toArray = true) (hB:planB l.toArray l.length p (Array.replicate l.length false) = true)
    (h:∀ w1,Grown w w1 → Pl P l (fun a' w' => Q .normal a' w') p (fun w' => ∃ g:ButW B w1,w' = g.w) a w1):(Code.region id l.toArray true).wp P Q a w :=
  wp_region_plan _ p hm hs hB ⟨⟨w.drew,But.refl B _⟩,rfl⟩ (h _ (Grown.refl w).drew)
theorem nxt_but {B:Nat → Prop} {w0:World} {K:(World → Prop) → Act → World → Prop} {a:Act} {w:World} (hg:But B w0 w) (h:K (fun w' => ∃ g:ButW B w0,w' = g.w) a w):Nxt (fun w' => ∃ g:ButW B w0,w' = g.w) K .normal a w :=
  ⟨rfl,_,fun _ h => h,⟨⟨w,hg⟩,rfl⟩,h⟩
end
end Go.Proofs.YtcogckjpmmjmbaaGreat
namespace Go.Proofs.YtcogckjpmmjmbaaGreat
open Go.ChangeShapes Go.WideShapes Go.ChangeAt Go.RowKit
set_option maxRecDepth 100000
theorem gblock {a b:World} (h:Grown a b) {i:Nat} (hi:i < a.heap.size):b.heap[i]? = a.heap[i]?:=by
  have hk:=h.1.2.2 i hi
  split at hk
  · rename_i c t fr c' t' fr' e1 e2
    obtain ⟨rfl,rfl,hs,hj⟩:=hk
    have:c' = c:=Array.ext_getElem? fun j => hj j (fun f => f)
    rw [e1,e2,this]
  · rename_i e1 e2
    rcases hk with hk | ⟨rfl,rfl⟩
    · exact hk.elim
    · rw [e1,e2]
  · exact hk
theorem gsame {a b:World} (h:Grown a b) {p:MemPlace} (hb:p.block < a.heap.size):a.sameAt b p:=by
  cases p with
  | cell i o => exact h.1.cell hb (fun f => f)
  | map i => exact gblock h hb
theorem trodAll_stays {H:Type} {enc:TypeId × Value → H} {P:Program} (hl:laidOutB P = true) {W W':World} (hg:Grown W W') {sp:Nat → Bool} :
    ∀ {ts:List TypeId} {vs:List Value} {ds:List (DataW H)} {ps:List MemPlace},(ts.all fun t => P.readableRec t && decide (t < P.types.size)) = true →
      DataW.TrodAll enc P W 0 (fun _ => true) true ts vs ds ps → (∀ p ∈ ps,sp p.block = true) → DataW.TrodAll enc P W' 0 sp true ts vs ds ps
  | [],[],[],_,_,h,_ => h
  | t :: ts,v :: vs,d :: ds,ps,hr,h,hs => by
    have hlt:=h.lt
    obtain ⟨p,q,h1,h2,rfl⟩:=h
    simp only [List.all_cons,Bool.and_eq_true,decide_eq_true_eq] at hr
    refine ⟨p,q,?_,trodAll_stays hl hg hr.2 h2 (fun x hx => hs x (List.mem_append_right _ hx)),rfl⟩
    exact WideElems.Trod_stays hl hr.1.1 hr.1.2 h1 (fun x hx => gsame hg (hlt x (List.mem_append_left _ hx))) (fun x hx => hs x (List.mem_append_left _ hx))
set_option maxRecDepth 100000 in
theorem laidOut:laidOutB Tryz.prog = true:=by kernel_rfl
theorem law_post_any {H:Type} {enc:TypeId × Value → H} {P:Program} (hlaid:laidOutB P = true) {f:Func} {s:ChangeSpec} {W W':World} {args:Array Value} {ds gs:List (DataW H)} {before:List MemPlace} {tb:TypeId}
    (hvs:s.vars = []) (hts:(f.params.toList.all fun t => P.readableRec t && decide (t < P.types.size)) = true) (hrt:f.resultTypes = #[tb]) (htb:P.underlying tb = some .bool)
    (hW:DataW.Whole enc P f.params.toList s.vars false W args.toList ds gs before) (hfn:s.fn H ds = { results:=[.lit (.bool true)],args:=ds }) (hg:Grown W W') :
    s.post enc P f false true false false W args (.bool true) W':=by
  have hW':=hW
  obtain ⟨p,q,hA,hV,rfl,hfz,hnd⟩:=hW
  rw [hvs] at hV
  obtain ⟨rfl,rfl⟩:=trodVars_none hV
  refine post_of_same (pa:=p) (pv:=[]) hW' ?_ ?_ ?_ rfl (hg.frame _) hg.2.1 (ok_one hrt rfl (okWide_bool_mk htb _))
  · intro b sp hd
    rw [hrt,List.append_nil,hfn]
    exact (trodAll_cons_mk (shut_bool htb _) trodAll_mk0)
  · intro sp hs
    rw [List.append_nil,hfn]
    exact trodAll_stays hlaid hg hts hA (fun x hx => hs x (by simpa using hx))
  · intro sp _
    rw [hvs,List.append_nil,hfn]
    rfl
theorem law_post {H:Type} {enc:TypeId × Value → H} {f:Func} {s:ChangeSpec} {W W':World} {args:Array Value} {ds gs:List (DataW H)} {before:List MemPlace} {tb:TypeId}
    (hvs:s.vars = []) (hts:(f.params.toList.all fun t => Tryz.prog.readableRec t && decide (t < Tryz.prog.types.size)) = true) (hrt:f.resultTypes = #[tb]) (htb:Tryz.prog.underlying tb = some .bool)
    (hW:DataW.Whole enc Tryz.prog f.params.toList s.vars false W args.toList ds gs before) (hfn:s.fn H ds = { results:=[.lit (.bool true)],args:=ds }) (hg:Grown W W') :
    s.post enc Tryz.prog f false true false false W args (.bool true) W' :=
  law_post_any laidOut hvs hts hrt htb hW hfn hg
theorem cell_int {P:Program} {w:World} {r:Reach} {b:Nat} {t:TypeId} {k:IntKind} {v:Value} (ht:P.underlying t = some (.int k)) (h:Cell.okWide P w r b t v):∃ n,v = .int k n ∧ k.has n:=by
  unfold Cell.okWide at h
  rw [ht] at h
  unfold Cell.ok at h
  rw [ht] at h
  cases v <;> simp at h
  obtain ⟨rfl,h⟩:=h
  exact ⟨_,rfl,h⟩
theorem cell_bool {P:Program} {w:World} {r:Reach} {b:Nat} {t:TypeId} {v:Value} (ht:P.underlying t = some .bool) (h:Cell.okWide P w r b t v):∃ n,v = .bool n:=by
  unfold Cell.okWide at h
  rw [ht] at h
  unfold Cell.ok at h
  rw [ht] at h
  cases v <;> simp at h
  exact ⟨_,rfl⟩
theorem open_flat {P:Program} {w:World} {r:Reach} {b:Nat} {t:TypeId} {v:Value} {ts:List TypeId} {n:Nat} (ht:(match P.underlying t with | some (.struct _) | some (.array _ _) => true | _ => false) = true)
    (hts:P.cellTypes P.depth t = some ts) (hn:P.cellsOf t = n) (h:Value.okWide P w r b t v) :
    ∃ cs:Array Value,v = .agg cs ∧ cs.size = n ∧ ∀ (i:Nat) (c:Value) (u:TypeId),cs[i]? = some c → ts[i % ts.length]? = some u → Cell.okWide P w r b u c:=by
  unfold Value.okWide at h
  split at h
  all_goals first
    | (obtain ⟨cs,rfl,hs,ts',ht',_,hc⟩:=h
       rw [hts] at ht'
       cases ht'
       refine ⟨cs,rfl,hs.trans hn,fun i c u hi hu => ?_⟩
       obtain ⟨u',hu',hcu⟩:=hc i c hi
       rw [hu] at hu'
       cases hu'
       exact hcu)
    | simp_all
theorem has_u64 {n:Int} (h:IntKind.u64.has n):0 ≤ n ∧ n ≤ 18446744073709551615:=by
  simpa [IntKind.has,IntKind.min,IntKind.max,IntKind.signed,IntKind.bits] using h
theorem has_u8 {n:Int} (h:IntKind.u8.has n):0 ≤ n ∧ n ≤ 255:=by
  simpa [IntKind.has,IntKind.min,IntKind.max,IntKind.signed,IntKind.bits] using h
theorem val_bool {P:Program} {w:World} {r:Reach} {b:Nat} {t:TypeId} {v:Value} (ht:P.underlying t = some .bool) (h:Value.okWide P w r b t v):∃ n,v = .bool n:=by
  unfold Value.okWide at h
  rw [ht] at h
  exact cell_bool ht h
end Go.Proofs.YtcogckjpmmjmbaaGreat
