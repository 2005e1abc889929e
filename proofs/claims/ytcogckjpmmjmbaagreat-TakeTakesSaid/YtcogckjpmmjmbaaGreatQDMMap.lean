/- A map whose keys are 0 .. n-1, at each of them a pointer to the block so many behind the first: how it is made, and what is looked up in it. -/
import Derived.Test.YtcogckjpmmjmbaaGreatQDMBase
import Derived.MapKept
import Derived.Carry
import Derived.ChangeMaps5
import Derived.Maps.OwnOps
import Derived.LoopTactic
import Derived.Test.YtcogckjpmmjmbaaGreatQDMLay
import Derived.Lib.Builder
namespace Go.Proofs.YtcogckjpmmjmbaaGreat
open Go.ChangeShapes Go.WideShapes Go.ChangeAt Go.RowKit Go.ChangeMaps
set_option maxRecDepth 100000
def ent (base i:Nat):MapEntry:={ key:=.int .i64 i,val:=.pointer (some ⟨base + i,0,none⟩),born:=i }
def ents (base n:Nat):Array MapEntry:=((List.range n).map (ent base)).toArray
theorem findNow_app (d:TypeDesc) (k:Value) (r:List MapEntry):∀ (l:List MapEntry) (i:Nat),Instr.findNow d k l i = some none → Instr.findNow d k (l ++ r) i = Instr.findNow d k r (i + l.length)
 | [],i,_ => by simp
 | e :: l,i,h => by
  simp only [List.cons_append,Instr.findNow] at h ⊢
  split at h
  ·cases h
  ·rename_i h1
   rw [findNow_app d k r l (i + 1) h,List.length_cons]
   congr 1;omega
  ·cases h
theorem findNow_hit (d:TypeDesc) (k:Value) (r:List MapEntry) (z:Nat × Value):∀ (l:List MapEntry) (i:Nat),Instr.findNow d k l i = some (some z) → Instr.findNow d k (l ++ r) i = some (some z)
 | [],i,h => by simp [Instr.findNow] at h
 | e :: l,i,h => by
  simp only [List.cons_append,Instr.findNow] at h ⊢
  split at h
  ·exact h
  ·exact findNow_hit d k r z l (i + 1) h
  ·cases h
theorem find_in (base j:Nat):∀ n,j < n → Instr.findNow (.int .i64) (.int .i64 j) ((List.range n).map (ent base)) 0 = some (some (j,.pointer (some ⟨base + j,0,none⟩)))
 | 0,h => absurd h (by omega)
 | n + 1,h => by
  rw [List.range_succ,List.map_append]
  by_cases hn:j < n
  ·exact findNow_hit _ _ _ _ _ _ (find_in base j n hn)
  ·obtain rfl:j = n:=by omega
   rw [findNow_app]
   ·simp [Instr.findNow,Instr.sameNow,ent]
   ·have:∀ m,m ≤ j → Instr.findNow (.int .i64) (.int .i64 j) ((List.range m).map (ent base)) 0 = some none:=by
     intro m
     induction m with
     | zero => intro _;rfl
     | succ m ih =>
      intro hm
      rw [List.range_succ,List.map_append,findNow_app _ _ _ _ _ (ih (by omega))]
      have:((j:Int) == (m:Int)) = false:=by simp;omega
      simp [Instr.findNow,Instr.sameNow,ent,this]
    exact this j (Nat.le_refl _)
theorem find_out (base:Nat) (x:Int):∀ n:Nat,(x < 0 ∨ n ≤ x) → Instr.findNow (.int .i64) (.int .i64 x) ((List.range n).map (ent base)) 0 = some none
 | 0,_ => rfl
 | n + 1,h => by
  rw [List.range_succ,List.map_append,findNow_app _ _ _ _ _ (find_out base x n (by omega))]
  have:(x == (n:Int)) = false:=by simp;omega
  simp [Instr.findNow,Instr.sameNow,ent,this]
def MapAt (w:World) (mb base n:Nat):Prop:=w.heap[mb]? = some (.map (ents base n) n)
theorem MapAt.lt {w:World} {mb base n:Nat} (h:MapAt w mb base n):mb < w.heap.size:=(Array.getElem?_eq_some_iff.1 h).1
theorem MapAt.ne {w:World} {mb base n:Nat} (h:MapAt w mb base n) {i o:Nat} {v:Value} (hc:w.cell? ⟨i,o,none⟩ = some v):i ≠ mb:=by
 rintro rfl
 have h':w.heap[i]? = some (.map (ents base n) n):=h
 simp [World.cell?,h'] at hc
theorem MapAt.but {S:Nat → Prop} {w w':World} {mb base n:Nat} (h:MapAt w mb base n) (g:But S w w') (hs:¬ S mb):MapAt w' mb base n:=by
 have e:w'.heap[mb]? = w.heap[mb]?:=g.1.block h.lt (fun p hp hpi => by subst hpi;exact hs hp)
 exact e.trans h
theorem MapAt.grown {w w':World} {mb base n:Nat} (h:MapAt w mb base n) (g:Grown w w'):MapAt w' mb base n :=
 h.but (S:=fun _ => False) g (fun f => f)
theorem MapAt.made (w:World) (base:Nat):MapAt (w.alloc (.map #[] 0)) w.heap.size base 0:=(MapKept.heap_alloc w _).1
section
variable {P:Program} {t k e:TypeId} {w:World} {mb base n:Nat}
theorem look_in (h:MapAt w mb base n) (ht:P.underlying t = some (.map k e)) (hk:P.underlying k = some (.int .i64)) (j:Nat) (hj:j < n) :
  (Instr.lookup t (.map (some mb)) (.int .i64 j) false).run P w = .ok (.pointer (some ⟨base + j,0,none⟩)) w:=by
 have h1:=find_in base j n hj
 simp [Instr.lookup,run_underlying ht,MapKept.run_getObj_map h,MapKept.run_checkKey hk (show MapKept.IsKey (.int .i64) (.int .i64 j) from rfl),ents,MapKept.run_findKey hk h1,Result.andThen]
theorem look_in_ok (h:MapAt w mb base n) (ht:P.underlying t = some (.map k e)) (hk:P.underlying k = some (.int .i64)) (j:Nat) (hj:j < n) :
  (Instr.lookup t (.map (some mb)) (.int .i64 j) true).run P w = .ok (.tuple #[.pointer (some ⟨base + j,0,none⟩),.bool true]) w:=by
 have h1:=find_in base j n hj
 simp [Instr.lookup,run_underlying ht,MapKept.run_getObj_map h,MapKept.run_checkKey hk (show MapKept.IsKey (.int .i64) (.int .i64 j) from rfl),ents,MapKept.run_findKey hk h1,Result.andThen]
theorem look_out (h:MapAt w mb base n) (ht:P.underlying t = some (.map k e)) (hk:P.underlying k = some (.int .i64)) (hz:(zeroValue e).run P w = .ok (.pointer none) w) (x:Int) (hx:x < 0 ∨ n ≤ x) :
  (Instr.lookup t (.map (some mb)) (.int .i64 x) false).run P w = .ok (.pointer none) w:=by
 have h1:=find_out base x n hx
 simp [Instr.lookup,run_underlying ht,MapKept.run_getObj_map h,MapKept.run_checkKey hk (show MapKept.IsKey (.int .i64) (.int .i64 x) from rfl),ents,MapKept.run_findKey hk h1,hz,Result.andThen]
theorem look_out_ok (h:MapAt w mb base n) (ht:P.underlying t = some (.map k e)) (hk:P.underlying k = some (.int .i64)) (hz:(zeroValue e).run P w = .ok (.pointer none) w) (x:Int) (hx:x < 0 ∨ n ≤ x) :
  (Instr.lookup t (.map (some mb)) (.int .i64 x) true).run P w = .ok (.tuple #[.pointer none,.bool false]) w:=by
 have h1:=find_out base x n hx
 simp [Instr.lookup,run_underlying ht,MapKept.run_getObj_map h,MapKept.run_checkKey hk (show MapKept.IsKey (.int .i64) (.int .i64 x) from rfl),ents,MapKept.run_findKey hk h1,hz,Result.andThen]
theorem run_makeMap_hint (ht:P.underlying t = some (.map k e)) (x:Int):(Instr.makeMap t (some (.int .i64 x))).run P w = .ok (.map (some w.heap.size)) (w.alloc (.map #[] 0)):=by
 simp [Instr.makeMap,run_underlying ht,asInt,asIntOf,Result.andThen]
theorem run_put (h:MapAt w mb base n) (ht:P.underlying t = some (.map k e)) (hk:P.underlying k = some (.int .i64)) :
  ∃ w',(Instr.mapUpdate t (.map (some mb)) (.int .i64 n) (.pointer (some ⟨base + n,0,none⟩))).run P w = .ok () w' ∧ MapAt w' mb base (n + 1) ∧ But (· = mb) w w' ∧ w'.heap.size = w.heap.size:=by
 have h1:=find_out base n n (.inr (by omega))
 refine ⟨setBlock w mb (.map (ents base (n + 1)) (n + 1)),?_,heap_setBlock_same h _,⟨keptBut_setBlock h rfl,frozen?_setBlock h,by simp [setBlock]⟩,by simp [setBlock]⟩
 have he:(ents base n).push { key:=.int .i64 n,val:=.pointer (some ⟨base + n,0,none⟩),born:=n } = ents base (n + 1):=by
  simp [ents,List.range_succ,ent]
 have h2:Instr.findNow (.int .i64) (.int .i64 n) (ents base n).toList 0 = some none:=by simpa [ents] using h1
 simp [Instr.mapUpdate,run_underlying ht,MapKept.run_getObj_map h,MapKept.run_checkKey hk (show MapKept.IsKey (.int .i64) (.int .i64 n) from rfl),MapKept.run_findKey hk h2,he,MapKept.run_setObj_map _ h,Result.andThen,setBlock]
end
theorem wpList_put {P:Program} {w:World} {ops:Array Oper} {rest:List Oper} {o:Oper} {a:Act} {Q:Exit → Act → World → Prop} (hg:o.guard = none) (m x v:Operand) (t:TypeId) (hop:o.op = Op.mapUpdate t m x v)
  (k e:TypeId) (ht:P.underlying t = some (.map k e)) (hk:P.underlying k = some (.int .i64)) (mb base n b':Nat) (h:MapAt w mb base n) (hm:a.eval m = .map (some mb)) (hx:a.eval x = .int .i64 n)
  (hv:a.eval v = .pointer (some ⟨b',0,none⟩)) (hb:b' = base + n)
  (hK:∀ w',MapAt w' mb base (n + 1) → But (· = mb) w w' → w'.heap.size = w.heap.size → wpList P ops Q rest (a.put o.dst undef) w'):wpList P ops Q (o :: rest) a w:=by
 subst hb
 refine wpList_plain hg fun K' hK' => ?_
 obtain ⟨w',hrun,r1,r2,r3⟩:=run_put (P:=P) h ht hk
 unfold Oper.wp
 simp [execOp,hop,hm,hx,hv,hrun,Result.andThen]
 exact hK' _ _ (hK w' r1 r2 r3)
end Go.Proofs.YtcogckjpmmjmbaaGreat
namespace Go.Proofs.YtcogckjpmmjmbaaGreat
open Go.ChangeShapes Go.WideShapes Go.ChangeAt Go.RowKit
set_option maxRecDepth 100000
def intOf:Value → Int
 | .int _ n => n
 | _ => 0
structure Slots (w w':World) (mb base n:Nat):Prop where
 gr:Grown w w'
 map:MapAt w' mb base n
 size:w'.heap.size = base + n
 cell:∀ j,j < n → w'.cell? ⟨base + j,0,none⟩ = some (.pointer none)
 free:∀ j,j < n → w'.frozen? ⟨base + j,0,none⟩ = false
theorem Slots.more {w w1 w2:World} {n:Nat} {t:TypeId} (h:Slots w w1 w.heap.size (w.heap.size + 1) n) (h2:MapAt w2 w.heap.size (w.heap.size + 1) (n + 1))
  (q:But (· = w.heap.size) (w1.alloc (.cells #[.pointer none] t)) w2) (hs:w2.heap.size = w1.heap.size + 1):Slots w w2 w.heap.size (w.heap.size + 1) (n + 1):=by
 have sz:=h.size
 refine ⟨But.fresh (h.gr.alloc _ _) q (fun i hi => by omega),h2,by omega,fun j hj => ?_,fun j hj => ?_⟩
 ·refine q.cell (by omega) ?_
  by_cases hjn:j < n
  ·exact gcell ((Grown.refl _).alloc _ _) (h.cell j hjn)
  ·obtain rfl:j = n:=by omega
   rw [← sz];simp
 ·refine q.frozen ?_
  by_cases hjn:j < n
  ·exact (frozen?_alloc_cells _ _ _ _).trans (h.free j hjn)
  ·obtain rfl:j = n:=by omega
   exact (frozen?_alloc_cells _ _ _ _).trans (by
    have:w1.heap[w.heap.size + 1 + j]? = none:=Array.getElem?_eq_none (by omega)
    simp [World.frozen?,this])
theorem emptyC_at (w:World) (n:Nat) (hn:n ≤ 99999) :
  Calls Tryz.prog 179 #[.int .i64 n] w fun e w' => e = .returned (.map (some w.heap.size)) ∧ Slots w w' w.heap.size (w.heap.size + 1) n:=by
 have hmm:=fun (w:World) => run_makeMap_hint (P:=Tryz.prog) (w:=w) Tryz.underlying175 n
 go_enter Tryz.func179,Tryz.ntmps179
 go_wp2_with fail
 go_loopw [8] (fun i wr => ∃ k:Nat,k ≤ n ∧ i = .int .i64 k ∧ Slots w wr w.heap.size (w.heap.size + 1) k) (fun i _ => n - (intOf i).toNat)
 case atStart =>
  exact ⟨0,Nat.zero_le _,rfl,(Grown.refl w).allocMap _ _,MapAt.made _ _,by simp,fun j hj => absurd hj (by omega),fun j hj => absurd hj (by omega)⟩
 case round =>
  obtain ⟨k,hk,rfl,hR⟩:=hrel
  have HR:=Lib.hid hR
  by_cases hlt:k < n
  ·have ed:decide (k < n) = true:=decide_eq_true hlt
   clear hR
   go_wp2_with (first | (at_mapUpdate;refine wpList_put rfl _ _ _ 175 rfl 3 _ Tryz.underlying175 Tryz.underlying3 w.heap.size (w.heap.size + 1) k _ (HR.out.map.grown (by go_grown)) rfl rfl rfl HR.out.size ?_) | fail)
   intro w1 h1 q1 s1
   have R1:=HR.out.more h1 q1 s1
   go_wp2_with fail
   exact ⟨⟨k + 1,hlt,by simp,R1⟩,by simp [intOf];omega⟩
  ·obtain rfl:k = n:=by omega
   have ed:decide (k < k) = false:=decide_eq_false (by omega)
   clear hlt hR
   go_wp2_with fail
   go_ret
   exact ⟨rfl,HR.out⟩
theorem emptyN_at (w:World) (n:Nat) (hn:n ≤ 99999) :
  Calls Tryz.prog 181 #[.int .i64 n] w fun e w' => e = .returned (.map (some w.heap.size)) ∧ Slots w w' w.heap.size (w.heap.size + 1) n:=by
 have hmm:=fun (w:World) => run_makeMap_hint (P:=Tryz.prog) (w:=w) Tryz.underlying177 n
 go_enter Tryz.func181,Tryz.ntmps181
 go_wp2_with fail
 go_loopw [8] (fun i wr => ∃ k:Nat,k ≤ n ∧ i = .int .i64 k ∧ Slots w wr w.heap.size (w.heap.size + 1) k) (fun i _ => n - (intOf i).toNat)
 case atStart =>
  exact ⟨0,Nat.zero_le _,rfl,(Grown.refl w).allocMap _ _,MapAt.made _ _,by simp,fun j hj => absurd hj (by omega),fun j hj => absurd hj (by omega)⟩
 case round =>
  obtain ⟨k,hk,rfl,hR⟩:=hrel
  have HR:=Lib.hid hR
  by_cases hlt:k < n
  ·have ed:decide (k < n) = true:=decide_eq_true hlt
   clear hR
   go_wp2_with (first | (at_mapUpdate;refine wpList_put rfl _ _ _ 177 rfl 3 _ Tryz.underlying177 Tryz.underlying3 w.heap.size (w.heap.size + 1) k _ (HR.out.map.grown (by go_grown)) rfl rfl rfl HR.out.size ?_) | fail)
   intro w1 h1 q1 s1
   have R1:=HR.out.more h1 q1 s1
   go_wp2_with fail
   exact ⟨⟨k + 1,hlt,by simp,R1⟩,by simp [intOf];omega⟩
  ·obtain rfl:k = n:=by omega
   have ed:decide (k < k) = false:=decide_eq_false (by omega)
   clear hlt hR
   go_wp2_with fail
   go_ret
   exact ⟨rfl,HR.out⟩
end Go.Proofs.YtcogckjpmmjmbaaGreat
namespace Go.Proofs.YtcogckjpmmjmbaaGreat
open Go.ChangeShapes Go.WideShapes Go.ChangeAt Go.RowKit
set_option maxRecDepth 100000
theorem loads64 (w:World) {a:Addr} {x:Int} (hc:w.cell? a = some (.int .i64 x)):(callFunc 137 #[.pointer (some a)]).run Tryz.prog w = .ok (.value (.int .i64 x)) w :=
 run_call_load (P:=Tryz.prog) Tryz.func137 (by kernel_rfl) (by kernel_rfl) (by kernel_rfl) .i64 (by kernel_rfl) hc
theorem adds (w:World) {a:Addr} {x y:Int} (hc:w.cell? a = some (.int .i64 x)) (hz:w.frozen? a = false):(callFunc 235 #[.pointer (some a),.int .i64 y]).run Tryz.prog w = .ok (.value (.int .i64 (IntKind.i64.wrap (x + y)))) (w.setCell a (.int .i64 (IntKind.i64.wrap (x + y)))) :=
 run_call_add (P:=Tryz.prog) Tryz.func235 (by kernel_rfl) (by kernel_rfl) (by kernel_rfl) .i64 (by kernel_rfl) hc hz rfl
theorem loadsp (w:World) {a:Addr} {x:Option Addr} (hc:w.cell? a = some (.pointer x)):(callFunc 221 #[.pointer (some a)]).run Tryz.prog w = .ok (.value (.pointer x)) w:=by
 rw [run_callFunc_extern Tryz.func221 (by kernel_rfl) (by kernel_rfl) (by kernel_rfl) (show Extern.find _ = some (Extern.Atomic.loadT .ptr) by kernel_rfl)]
 change (Sem.run _ (do Extern.Atomic.read .ptr (← asAddr (.pointer (some a)))) w).andThen _ = _
 simp [Extern.Atomic.read,asAddr,hc,Result.andThen]
theorem storesp (w:World) {a:Addr} {y:Option Addr} {u:Value} (hc:w.cell? a = some u) (hz:w.frozen? a = false):(callFunc 238 #[.pointer (some a),.pointer y]).run Tryz.prog w = .ok (.value (.tuple #[])) (w.setCell a (.pointer y)):=by
 rw [run_callFunc_extern Tryz.func238 (by kernel_rfl) (by kernel_rfl) (by kernel_rfl) (show Extern.find _ = some Extern.Atomic.storeT by kernel_rfl)]
 change (Sem.run _ (do
  store (← asAddr (.pointer (some a))) (.pointer y) .atomic
  pure Extern.Atomic.none_) w).andThen _ = _
 simp [asAddr,hc,hz,run_store Tryz.prog w a (.pointer y) .atomic rfl,Result.andThen,Extern.Atomic.none_]
structure Cal where
 kind:Int
 key:Int
 val:Int
 lim:Int
def Cal.v (x:Cal):Value:=.agg #[.int .i64 x.kind,.int .u64 x.key,.int .u64 x.val,.int .i64 x.lim]
def Cal.zero:Cal:=⟨0,0,0,0⟩
def SlotC (w:World) (hi b:Nat):Option Cal → Prop
 | none => w.cell? ⟨b,0,none⟩ = some (.pointer none)
 | some x => ∃ q,hi ≤ q ∧ w.cell? ⟨b,0,none⟩ = some (.pointer (some ⟨q,0,none⟩)) ∧ w.cell? ⟨q,0,none⟩ = some (.int .i64 x.kind) ∧ w.cell? ⟨q,1,none⟩ = some (.int .u64 x.key) ∧ w.cell? ⟨q,2,none⟩ = some (.int .u64 x.val) ∧ w.cell? ⟨q,3,none⟩ = some (.int .i64 x.lim) ∧ w.shape? q = some (80,4)
def SlotN (w:World) (hi b:Nat):Option Nat → Prop
 | none => w.cell? ⟨b,0,none⟩ = some (.pointer none)
 | some x => ∃ q,hi ≤ q ∧ w.cell? ⟨b,0,none⟩ = some (.pointer (some ⟨q,0,none⟩)) ∧ w.cell? ⟨q,0,none⟩ = some (.int .i64 x) ∧ w.shape? q = some (3,1)
theorem value_at (w:World) (q j:Nat) (n:Int) (hc:w.cell? ⟨q,j,none⟩ = some (.int .i64 n)) :
  Calls Tryz.prog 183 #[.pointer (some ⟨q,j,none⟩)] w fun e w' => e = .returned (.int .i64 n) ∧ Grown w w':=by
 have hl:=loads64 w hc
 go_enter Tryz.func183,Tryz.ntmps183
 go_wp2
 go_ret
 exact ⟨rfl,by go_grown⟩
theorem next_more (w:World) (q j n m:Nat) (hc:w.cell? ⟨q,j,none⟩ = some (.int .i64 n)) (hf:w.frozen? ⟨q,j,none⟩ = false) (h:n < m) (hm:m ≤ 99999) :
  Calls Tryz.prog 113 #[.pointer (some ⟨q,j,none⟩),.int .i64 m] w fun e w' => e = .returned (.tuple #[.int .i64 n,.bool true]) ∧ ∃ w1,Grown w w1 ∧ w' = w1.setCell ⟨q,j,none⟩ (.int .i64 ((n + 1:Nat):Int)):=by
 have e1:decide ((m:Int) ≤ n) = false:=decide_eq_false (by omega)
 have HC:=Lib.hid hc
 have HF:=Lib.hid hf
 go_enter Tryz.func113,Tryz.ntmps113
 go_wp2_with fail
 refine (value_at _ q j n hc).mono ?_;rintro e w1 ⟨rfl,g1⟩
 have ha:=adds w1 (gcell g1 HC.out) ((g1.2.1 _).trans HF.out) (y:=1)
 rw [show IntKind.i64.wrap ((n:Int) + 1) = ((n + 1:Nat):Int) from (IntWalk.i64_in _ (by omega)).trans (by omega)] at ha
 clear hc hf
 go_wp2
 go_ret2
 exact ⟨rfl,w1,g1,rfl⟩
theorem next_none (w:World) (q j n m:Nat) (hc:w.cell? ⟨q,j,none⟩ = some (.int .i64 n)) (h:m ≤ n) :
  Calls Tryz.prog 113 #[.pointer (some ⟨q,j,none⟩),.int .i64 m] w fun e w' => e = .returned (.tuple #[.int .i64 0,.bool false]) ∧ Grown w w':=by
 have e1:decide ((m:Int) ≤ n) = true:=decide_eq_true (by omega)
 go_enter Tryz.func113,Tryz.ntmps113
 go_wp2_with fail
 refine (value_at _ q j n hc).mono ?_;rintro e w1 ⟨rfl,g1⟩
 clear hc
 go_wp2
 go_ret2
 exact ⟨rfl,g1⟩
theorem shape_block {a b:World} {q:Nat} (h:b.heap[q]? = a.heap[q]?):b.shape? q = a.shape? q:=by unfold World.shape?;rw [h]
theorem But.shape {S:Nat → Prop} {a b:World} (h:But S a b) {q:Nat} {z:TypeId × Nat} (hs:¬ S q) (k:a.shape? q = some z):b.shape? q = some z:=by
 have hlt:q < a.heap.size:=by
  by_cases hq:q < a.heap.size
  ·exact hq
  ·simp [World.shape?,Array.getElem?_eq_none (Nat.le_of_not_lt hq)] at k
 rw [shape_block (h.1.block hlt (fun p hp hpi => by subst hpi;exact hs hp))];exact k
theorem gshape {a b:World} (h:Grown a b) {q:Nat} {z:TypeId × Nat} (k:a.shape? q = some z):b.shape? q = some z :=
 But.shape (S:=fun _ => False) h (fun f => f) k
theorem from_nil {P:Program} {w:World} {src dst u:TypeId} (hs:P.underlying src = some .unsafePointer) (hd:P.underlying dst = some (.pointer u)):(convert src dst (.pointer none)).run P w = .ok (.pointer none) w:=by
 simp [convert,run_underlying hs,run_underlying hd,Conv.unsafePointer]
theorem to_unsafe {P:Program} {w:World} {src dst t e:TypeId} {cells:Nat} (q:Nat) (hs:P.underlying src = some (.pointer t)) (hd:P.underlying dst = some .unsafePointer) (ht:(P.info? t).map (fun i => decide (i.size = 0)) = some false)
  (hsh:w.shape? q = some (e,cells)) (h0:0 < cells):(convert src dst (.pointer (some ⟨q,0,none⟩))).run P w = .ok (.pointer (some ⟨q,0,none⟩)) w:=by
 obtain ⟨j,hj,hz⟩:=Option.map_eq_some_iff.1 ht
 exact Lib.run_to_unsafe (w:=w) ⟨q,0,none⟩ hs hd hj (by simpa using hz) hsh h0
theorem from_unsafe {P:Program} {w:World} {src dst u e:TypeId} {cells:Nat} (q:Nat) (hs:P.underlying src = some .unsafePointer) (hd:P.underlying dst = some (.pointer u)) (hu:(P.info? u).isSome = true)
  (hsh:w.shape? q = some (e,cells)) (hlies:liesAt P P.depth e (cells / P.cellsOf e) 0 u 1 = true):(convert src dst (.pointer (some ⟨q,0,none⟩))).run P w = .ok (.pointer (some ⟨q,0,none⟩)) w:=by
 obtain ⟨j,hj⟩:=Option.isSome_iff_exists.1 hu
 exact Lib.run_from_unsafe (w:=w) ⟨q,0,none⟩ hs hd hj hsh hlies
theorem getC_out (w:World) (mb base N:Nat) (x:Int) (h:MapAt w mb base N) (hx:x < 0 ∨ N ≤ x) :
  Calls Tryz.prog 95 #[.map (some mb),.int .i64 x] w fun e w' => e = .returned (.tuple #[Cal.zero.v,.bool false]) ∧ Grown w w':=by
 have hl:=fun w' (g:Grown w w') => look_out_ok (P:=Tryz.prog) (h.grown g) Tryz.underlying175 Tryz.underlying3 (w:=w') (show (zeroValue 232).run Tryz.prog w' = .ok (.pointer none) w' by kernel_rfl) x hx
 have hl1:=hl _ ((Grown.refl w).alloc #[.int .i64 0,.int .u64 0,.int .u64 0,.int .i64 0] 80)
 clear hl h hx
 go_enter Tryz.func95,Tryz.ntmps95
 go_wp2
 exact bodyPost_ret (v:=.tuple #[Cal.zero.v,.bool false]) (by simp [results,Tryz.results95,go_sem,Cal.v,Cal.zero]) rfl ⟨rfl,by go_grown⟩
theorem getC_none (w:World) (mb base N n:Nat) (h:MapAt w mb base N) (hn:n < N) (hc:w.cell? ⟨base + n,0,none⟩ = some (.pointer none)) :
  Calls Tryz.prog 95 #[.map (some mb),.int .i64 n] w fun e w' => e = .returned (.tuple #[Cal.zero.v,.bool false]) ∧ Grown w w':=by
 have hl:=fun w' (g:Grown w w') => look_in_ok (P:=Tryz.prog) (w:=w') (h.grown g) Tryz.underlying175 Tryz.underlying3 n hn
 have hl1:=hl _ ((Grown.refl w).alloc #[.int .i64 0,.int .u64 0,.int .u64 0,.int .i64 0] 80)
 have hp:=loadsp _ (gcell ((Grown.refl w).alloc #[.int .i64 0,.int .u64 0,.int .u64 0,.int .i64 0] 80) hc)
 have hcv:=fun w => from_nil (P:=Tryz.prog) (w:=w) Tryz.underlying287 Tryz.underlying234
 clear hl h hc hn
 go_enter Tryz.func95,Tryz.ntmps95
 go_wp2
 exact bodyPost_ret (v:=.tuple #[Cal.zero.v,.bool false]) (by simp [results,Tryz.results95,go_sem,Cal.v,Cal.zero]) rfl ⟨rfl,by go_grown⟩
theorem getC_some (w:World) (mb base N n q:Nat) (x:Cal) (h:MapAt w mb base N) (hn:n < N) (hc:w.cell? ⟨base + n,0,none⟩ = some (.pointer (some ⟨q,0,none⟩))) (d0:w.cell? ⟨q,0,none⟩ = some (.int .i64 x.kind)) (d1:w.cell? ⟨q,1,none⟩ = some (.int .u64 x.key)) (d2:w.cell? ⟨q,2,none⟩ = some (.int .u64 x.val)) (d3:w.cell? ⟨q,3,none⟩ = some (.int .i64 x.lim)) (hsh:w.shape? q = some (80,4)) :
  Calls Tryz.prog 95 #[.map (some mb),.int .i64 n] w fun e w' => e = .returned (.tuple #[x.v,.bool true]) ∧ Grown w w':=by
 have hl:=fun w' (g:Grown w w') => look_in_ok (P:=Tryz.prog) (w:=w') (h.grown g) Tryz.underlying175 Tryz.underlying3 n hn
 have hl1:=hl _ ((Grown.refl w).alloc #[.int .i64 0,.int .u64 0,.int .u64 0,.int .i64 0] 80)
 have hp:=loadsp _ (gcell ((Grown.refl w).alloc #[.int .i64 0,.int .u64 0,.int .u64 0,.int .i64 0] 80) hc)
 have hcv:=from_unsafe (P:=Tryz.prog) q Tryz.underlying287 Tryz.underlying234 (by kernel_rfl) (gshape ((Grown.refl w).alloc #[.int .i64 0,.int .u64 0,.int .u64 0,.int .i64 0] 80) hsh) (by kernel_rfl)
 have hq:=World.block_lt_of_cell? w _ d0
 replace d0:=gcell ((Grown.refl w).alloc #[.int .i64 0,.int .u64 0,.int .u64 0,.int .i64 0] 80) d0
 replace d1:=gcell ((Grown.refl w).alloc #[.int .i64 0,.int .u64 0,.int .u64 0,.int .i64 0] 80) d1
 replace d2:=gcell ((Grown.refl w).alloc #[.int .i64 0,.int .u64 0,.int .u64 0,.int .i64 0] 80) d2
 replace d3:=gcell ((Grown.refl w).alloc #[.int .i64 0,.int .u64 0,.int .u64 0,.int .i64 0] 80) d3
 clear hl h hc hn
 go_enter Tryz.func95,Tryz.ntmps95
 go_wp2
 exact bodyPost_ret (v:=.tuple #[x.v,.bool true]) (by simp [results,Tryz.results95,go_sem,Cal.v]) rfl ⟨rfl,by go_grown⟩
theorem getN_out (w:World) (mb base N:Nat) (x:Int) (h:MapAt w mb base N) (hx:x < 0 ∨ N ≤ x) :
  Calls Tryz.prog 248 #[.map (some mb),.int .i64 x] w fun e w' => e = .returned (.tuple #[.int .i64 0,.bool false]) ∧ Grown w w':=by
 have hl:=fun w' (g:Grown w w') => look_out_ok (P:=Tryz.prog) (h.grown g) Tryz.underlying177 Tryz.underlying3 (w:=w') (show (zeroValue 262).run Tryz.prog w' = .ok (.pointer none) w' by kernel_rfl) x hx
 have hl1:=hl _ (Grown.refl w)
 clear hl h hx
 go_enter Tryz.func248,Tryz.ntmps248
 go_wp2
 go_ret2
 exact ⟨rfl,by go_grown⟩
theorem getN_none (w:World) (mb base N n:Nat) (h:MapAt w mb base N) (hn:n < N) (hc:w.cell? ⟨base + n,0,none⟩ = some (.pointer none)) :
  Calls Tryz.prog 248 #[.map (some mb),.int .i64 n] w fun e w' => e = .returned (.tuple #[.int .i64 0,.bool false]) ∧ Grown w w':=by
 have hl:=fun w' (g:Grown w w') => look_in_ok (P:=Tryz.prog) (w:=w') (h.grown g) Tryz.underlying177 Tryz.underlying3 n hn
 have hl1:=hl _ (Grown.refl w)
 have hp:=loadsp _ (gcell (Grown.refl w) hc)
 have hcv:=fun w => from_nil (P:=Tryz.prog) (w:=w) Tryz.underlying287 Tryz.underlying264
 clear hl h hc hn
 go_enter Tryz.func248,Tryz.ntmps248
 go_wp2
 go_ret2
 exact ⟨rfl,by go_grown⟩
theorem getN_some (w:World) (mb base N n q:Nat) (x:Nat) (h:MapAt w mb base N) (hn:n < N) (hc:w.cell? ⟨base + n,0,none⟩ = some (.pointer (some ⟨q,0,none⟩))) (d0:w.cell? ⟨q,0,none⟩ = some (.int .i64 x)) (hsh:w.shape? q = some (3,1)) :
  Calls Tryz.prog 248 #[.map (some mb),.int .i64 n] w fun e w' => e = .returned (.tuple #[.int .i64 x,.bool true]) ∧ Grown w w':=by
 have hl:=fun w' (g:Grown w w') => look_in_ok (P:=Tryz.prog) (w:=w') (h.grown g) Tryz.underlying177 Tryz.underlying3 n hn
 have hl1:=hl _ (Grown.refl w)
 have hp:=loadsp _ (gcell (Grown.refl w) hc)
 have hcv:=from_unsafe (P:=Tryz.prog) q Tryz.underlying287 Tryz.underlying264 (by kernel_rfl) (gshape (Grown.refl w) hsh) (by kernel_rfl)
 clear hl h hc hn
 go_enter Tryz.func248,Tryz.ntmps248
 go_wp2
 go_ret2
 exact ⟨rfl,by go_grown⟩
end Go.Proofs.YtcogckjpmmjmbaaGreat
