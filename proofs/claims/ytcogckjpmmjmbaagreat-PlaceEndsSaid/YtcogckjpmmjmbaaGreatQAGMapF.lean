/- A map whose keys are 0 .. n-1, at each of them any value: how it is made, and what is looked up in it. -/
import Derived.Test.YtcogckjpmmjmbaaGreatQAMMap
import Derived.Test.YtcogckjpmmjmbaaGreatQAPlB
namespace Go.Proofs.YtcogckjpmmjmbaaGreat
open Go.ChangeShapes Go.WideShapes Go.ChangeAt Go.RowKit Go.ChangeMaps
set_option maxRecDepth 100000
set_option linter.unusedVariables false
def entF:Nat → List Value → List MapEntry
 | _,[] => []
 | i,v :: r => { key:=.int .i64 i,val:=v,born:=i } :: entF (i + 1) r
theorem entF_app (v:Value):∀ (l:List Value) (i:Nat),entF i (l ++ [v]) = entF i l ++ [{ key:=.int .i64 ((i + l.length:Nat):Int),val:=v,born:=i + l.length }]
 | [],i => by simp [entF]
 | k :: r,i => by
  simp only [List.cons_append,entF,entF_app v r (i + 1),List.length_cons,show i + 1 + r.length = i + (r.length + 1) by omega]
theorem entF_out {x:Int}:∀ (l:List Value) (i j:Nat),(x < (i:Int) ∨ ((i + l.length:Nat):Int) ≤ x) → Instr.findNow (.int .i64) (.int .i64 x) (entF i l) j = some none
 | [],_,_,_ => rfl
 | k :: r,i,j,h => by
  simp only [List.length_cons] at h
  have h1:(x == (i:Int)) = false:=by simp;omega
  simp [entF,Instr.findNow,Instr.sameNow,h1]
  exact entF_out r (i + 1) (j + 1) (by omega)
theorem entF_in {v:Value}:∀ (l:List Value) (i j k:Nat),l[k]? = some v → Instr.findNow (.int .i64) (.int .i64 ((i + k:Nat):Int)) (entF i l) j = some (some (j + k,v))
 | [],_,_,_,h => by simp at h
 | u :: r,i,j,0,h => by
  simp only [List.getElem?_cons_zero,Option.some.injEq] at h
  subst h
  simp [entF,Instr.findNow,Instr.sameNow]
 | u :: r,i,j,k + 1,h => by
  have h1:(((i + (k + 1):Nat):Int) == (i:Int)) = false:=by simp;omega
  have ih:=entF_in r (i + 1) (j + 1) k (by simpa using h)
  rw [show i + 1 + k = i + (k + 1) by omega,show j + 1 + k = j + (k + 1) by omega] at ih
  simp only [entF,Instr.findNow,Instr.sameNow,h1]
  exact ih
def MapF (w:World) (mb:Nat) (vs:List Value):Prop:=w.heap[mb]? = some (.map (entF 0 vs).toArray vs.length)
theorem MapF.lt {w:World} {mb:Nat} {vs:List Value} (h:MapF w mb vs):mb < w.heap.size:=(Array.getElem?_eq_some_iff.1 h).1
theorem MapF.but {S:Nat → Prop} {w w':World} {mb:Nat} {vs:List Value} (h:MapF w mb vs) (g:But S w w') (hs:¬ S mb):MapF w' mb vs:=by
 have e:w'.heap[mb]? = w.heap[mb]?:=g.1.block h.lt (fun p hp hpi => by subst hpi;exact hs hp)
 exact e.trans h
theorem MapF.grown {w w':World} {mb:Nat} {vs:List Value} (h:MapF w mb vs) (g:Grown w w'):MapF w' mb vs:=h.but (S:=fun _ => False) g (fun f => f)
theorem MapF.made (w:World):MapF (w.alloc (.map #[] 0)) w.heap.size []:=(MapKept.heap_alloc w _).1
section
variable {P:Program} {t k e:TypeId} {w:World} {mb:Nat} {vs:List Value}
theorem lookF_in (h:MapF w mb vs) (ht:P.underlying t = some (.map k e)) (hk:P.underlying k = some (.int .i64)) (j:Nat) (v:Value) (hj:vs[j]? = some v) :
  (Instr.lookup t (.map (some mb)) (.int .i64 (j:Int)) true).run P w = .ok (.tuple #[v,.bool true]) w:=by
 have h1:=entF_in vs 0 0 j hj
 simp only [Nat.zero_add] at h1
 simp [Instr.lookup,run_underlying ht,MapKept.run_getObj_map h,MapKept.run_checkKey hk (show MapKept.IsKey (.int .i64) (.int .i64 j) from rfl),MapKept.run_findKey hk h1,Result.andThen]
theorem lookF_out (h:MapF w mb vs) (ht:P.underlying t = some (.map k e)) (hk:P.underlying k = some (.int .i64)) (z:Value) (hz:∀ w,(zeroValue e).run P w = .ok z w) (x:Int) (hx:x < 0 ∨ (vs.length:Int) ≤ x) :
  (Instr.lookup t (.map (some mb)) (.int .i64 x) true).run P w = .ok (.tuple #[z,.bool false]) w:=by
 have h1:=entF_out (x:=x) vs 0 0 (by simpa using hx)
 simp [Instr.lookup,run_underlying ht,MapKept.run_getObj_map h,MapKept.run_checkKey hk (show MapKept.IsKey (.int .i64) (.int .i64 x) from rfl),MapKept.run_findKey hk h1,hz,Result.andThen]
theorem runF_put (h:MapF w mb vs) (ht:P.underlying t = some (.map k e)) (hk:P.underlying k = some (.int .i64)) (v:Value) :
  ∃ w',(Instr.mapUpdate t (.map (some mb)) (.int .i64 (vs.length:Int)) v).run P w = .ok () w' ∧ MapF w' mb (vs ++ [v]) ∧ But (· = mb) w w' ∧ w'.heap.size = w.heap.size:=by
 have h1:=entF_out (x:=(vs.length:Int)) vs 0 0 (.inr (by simp))
 refine ⟨setBlock w mb (.map (entF 0 (vs ++ [v])).toArray (vs ++ [v]).length),?_,heap_setBlock_same h _,⟨keptBut_setBlock h rfl,frozen?_setBlock h,by simp [setBlock]⟩,by simp [setBlock]⟩
 have he:(entF 0 vs).toArray.push { key:=.int .i64 (vs.length:Int),val:=v,born:=vs.length } = (entF 0 (vs ++ [v])).toArray:=by
  rw [entF_app];simp
 have h2:Instr.findNow (.int .i64) (.int .i64 (vs.length:Int)) (entF 0 vs).toArray.toList 0 = some none:=by simpa using h1
 simp [Instr.mapUpdate,run_underlying ht,MapKept.run_getObj_map h,MapKept.run_checkKey hk (show MapKept.IsKey (.int .i64) (.int .i64 (vs.length:Int)) from rfl),MapKept.run_findKey hk h2,he,MapKept.run_setObj_map _ h,Result.andThen,setBlock]
end
theorem wpList_insF {P:Program} {w:World} {ops:Array Oper} {rest:List Oper} {o:Oper} {a:Act} {Q:Exit → Act → World → Prop} (hg:o.guard = none) (m x v:Operand) (t:TypeId) (hop:o.op = Op.insert t m x v)
  (k e:TypeId) (ht:P.underlying t = some (.map k e)) (hk:P.underlying k = some (.int .i64)) (mb:Nat) (vs:List Value) (h:MapF w mb vs) (hm:a.eval m = .map (some mb)) (hx:a.eval x = .int .i64 (vs.length:Int))
  (u:Value) (hv:a.eval v = u)
  (hK:∀ w',MapF w' mb (vs ++ [u]) → But (· = mb) w w' → w'.heap.size = w.heap.size → wpList P ops Q rest (a.put o.dst undef) w'):wpList P ops Q (o :: rest) a w:=by
 refine wpList_plain hg fun K' hK' => ?_
 obtain ⟨w',hrun,r1,r2,r3⟩:=runF_put (P:=P) h ht hk u
 unfold Oper.wp
 simp [execOp,hop,hm,hx,hv,hrun,Result.andThen]
 exact hK' _ _ (hK w' r1 r2 r3)
end Go.Proofs.YtcogckjpmmjmbaaGreat
namespace Go.Proofs.YtcogckjpmmjmbaaGreat
open Go.ChangeShapes Go.WideShapes Go.ChangeAt Go.RowKit
set_option maxRecDepth 100000
set_option linter.unusedVariables false
def actsP (r:Nat):List Value:=[.func (.func 157) #[.pointer (some ⟨r,0,none⟩)] #[],.func (.func 158) #[.pointer (some ⟨r,0,none⟩)] #[],.func (.func 157) #[.pointer (some ⟨r,0,none⟩)] #[],.func (.func 159) #[.pointer (some ⟨r,0,none⟩)] #[],.func (.func 160) #[.pointer (some ⟨r,0,none⟩)] #[],.func (.func 161) #[.pointer (some ⟨r,0,none⟩)] #[]]
theorem pActs (w:World) (r:Nat):Calls Tryz.prog 87 #[.pointer (some ⟨r,0,none⟩)] w fun e w' => ∃ mb,e = .returned (.map (some mb)) ∧ MapF w' mb (actsP r) ∧ Grown w w':=by
 have hmf:=mkFunc
 have hmm:∀ w,(Instr.makeMap 162 none).run Tryz.prog w = .ok (.map (some w.heap.size)) (w.alloc (.map #[] 0)):=fun w => by simp [Instr.makeMap,Result.andThen]
 go_enter Tryz.func87,Tryz.ntmps87
 go_wp2_with (first | (refine wpList_insF rfl _ _ _ 162 rfl _ _ Tryz.underlying162 Tryz.underlying3 w.heap.size ([]) (MapF.made w) rfl rfl (.func (.func 157) #[.pointer (some ⟨r,0,none⟩)] #[]) (by rfl) ?_;intro w1 m_ q_ s_;have HM1:=Lib.hid m_;have Q1:Hid (But (· = w.heap.size) (w.alloc (.map #[] 0)) w1):=Lib.hid (q_);clear m_ q_ s_) | (refine wpList_insF rfl _ _ _ 162 rfl _ _ Tryz.underlying162 Tryz.underlying3 w.heap.size ([.func (.func 157) #[.pointer (some ⟨r,0,none⟩)] #[]]) HM1.out rfl rfl (.func (.func 158) #[.pointer (some ⟨r,0,none⟩)] #[]) (by rfl) ?_;intro w2 m_ q_ s_;have HM2:=Lib.hid m_;have Q2:Hid (But (· = w.heap.size) (w.alloc (.map #[] 0)) w2):=Lib.hid (Q1.out.trans q_);clear m_ q_ s_) | (refine wpList_insF rfl _ _ _ 162 rfl _ _ Tryz.underlying162 Tryz.underlying3 w.heap.size ([.func (.func 157) #[.pointer (some ⟨r,0,none⟩)] #[],.func (.func 158) #[.pointer (some ⟨r,0,none⟩)] #[]]) HM2.out rfl rfl (.func (.func 157) #[.pointer (some ⟨r,0,none⟩)] #[]) (by rfl) ?_;intro w3 m_ q_ s_;have HM3:=Lib.hid m_;have Q3:Hid (But (· = w.heap.size) (w.alloc (.map #[] 0)) w3):=Lib.hid (Q2.out.trans q_);clear m_ q_ s_) | (refine wpList_insF rfl _ _ _ 162 rfl _ _ Tryz.underlying162 Tryz.underlying3 w.heap.size ([.func (.func 157) #[.pointer (some ⟨r,0,none⟩)] #[],.func (.func 158) #[.pointer (some ⟨r,0,none⟩)] #[],.func (.func 157) #[.pointer (some ⟨r,0,none⟩)] #[]]) HM3.out rfl rfl (.func (.func 159) #[.pointer (some ⟨r,0,none⟩)] #[]) (by rfl) ?_;intro w4 m_ q_ s_;have HM4:=Lib.hid m_;have Q4:Hid (But (· = w.heap.size) (w.alloc (.map #[] 0)) w4):=Lib.hid (Q3.out.trans q_);clear m_ q_ s_) | (refine wpList_insF rfl _ _ _ 162 rfl _ _ Tryz.underlying162 Tryz.underlying3 w.heap.size ([.func (.func 157) #[.pointer (some ⟨r,0,none⟩)] #[],.func (.func 158) #[.pointer (some ⟨r,0,none⟩)] #[],.func (.func 157) #[.pointer (some ⟨r,0,none⟩)] #[],.func (.func 159) #[.pointer (some ⟨r,0,none⟩)] #[]]) HM4.out rfl rfl (.func (.func 160) #[.pointer (some ⟨r,0,none⟩)] #[]) (by rfl) ?_;intro w5 m_ q_ s_;have HM5:=Lib.hid m_;have Q5:Hid (But (· = w.heap.size) (w.alloc (.map #[] 0)) w5):=Lib.hid (Q4.out.trans q_);clear m_ q_ s_) | (refine wpList_insF rfl _ _ _ 162 rfl _ _ Tryz.underlying162 Tryz.underlying3 w.heap.size ([.func (.func 157) #[.pointer (some ⟨r,0,none⟩)] #[],.func (.func 158) #[.pointer (some ⟨r,0,none⟩)] #[],.func (.func 157) #[.pointer (some ⟨r,0,none⟩)] #[],.func (.func 159) #[.pointer (some ⟨r,0,none⟩)] #[],.func (.func 160) #[.pointer (some ⟨r,0,none⟩)] #[]]) HM5.out rfl rfl (.func (.func 161) #[.pointer (some ⟨r,0,none⟩)] #[]) (by rfl) ?_;intro w6 m_ q_ s_;have HM6:=Lib.hid m_;have Q6:Hid (But (· = w.heap.size) (w.alloc (.map #[] 0)) w6):=Lib.hid (Q5.out.trans q_);clear m_ q_ s_) | fail)
 have g0:Grown w (w.alloc (.map #[] 0)):=(Grown.refl _).allocMap _ _
 have gF:Grown w w6:=But.fresh g0 Q6.out (fun i hi => by omega)
 go_ret
 exact ⟨w.heap.size,rfl,HM6.out,gF⟩
theorem pNew (w:World) (op thread:Int):Calls Tryz.prog 27 #[.int .i64 op,.int .i64 thread] w fun e w' => e = .returned (.agg (newU op thread).l.toArray) ∧ Grown w w':=by
 go_enter Tryz.func27,Tryz.ntmps27
 go_wp2_with fail
 have g:Grown w (w.alloc (.cells (newU op thread).l.toArray 65)):=by go_grown
 exact bodyPost_ret (v:=.agg (newU op thread).l.toArray) (results_c (ty:=65) rfl rfl (load_run (Box.made w (newU op thread).l 65) 65 _ Tryz.underlying65 rfl (by kernel_rfl))) rfl ⟨rfl,g⟩
end Go.Proofs.YtcogckjpmmjmbaaGreat
