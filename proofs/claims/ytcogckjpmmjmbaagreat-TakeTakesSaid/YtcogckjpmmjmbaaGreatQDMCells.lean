/- Package cells, function by function: what each call returns, and what becomes of the words. -/
import Derived.Test.YtcogckjpmmjmbaaGreatQDMBase
import Derived.OwnWalk
namespace Go.Proofs.YtcogckjpmmjmbaaGreat
open Go.ChangeShapes Go.WideShapes Go.ChangeAt Go.RowKit
set_option maxRecDepth 100000
structure Bank (w:World) (p b:Nat) (ws:List Int) (n:Int):Prop where
 words:w.cell? ⟨p,0,none⟩ = some (.slice (some ⟨b,0,none⟩) ws.length ws.length)
 steps:w.cell? ⟨p,1,none⟩ = some (.int .i64 n)
 free:∀ i j,i = p ∨ i = b → w.frozen? ⟨i,j,none⟩ = false
 cells:∀ (j:Nat) (h:j < ws.length),w.cell? ⟨b,j,none⟩ = some (.int .u64 ws[j])
 apart:p ≠ b
 ltb:b < w.heap.size
 few:ws.length ≤ 1048576
theorem loads (w:World) {a:Addr} {x:Int} (hc:w.cell? a = some (.int .u64 x)):(callFunc 197 #[.pointer (some a)]).run Tryz.prog w = .ok (.value (.int .u64 x)) w :=
 run_call_load (P:=Tryz.prog) Tryz.func197 (by kernel_rfl) (by kernel_rfl) (by kernel_rfl) .u64 (by kernel_rfl) hc
theorem loads64c (w:World) {a:Addr} {x:Int} (hc:w.cell? a = some (.int .i64 x)):(callFunc 137 #[.pointer (some a)]).run Tryz.prog w = .ok (.value (.int .i64 x)) w :=
 run_call_load (P:=Tryz.prog) Tryz.func137 (by kernel_rfl) (by kernel_rfl) (by kernel_rfl) .i64 (by kernel_rfl) hc
theorem stores (w:World) {a:Addr} {y:Int} {u:Value} (hc:w.cell? a = some u) (hz:w.frozen? a = false):(callFunc 268 #[.pointer (some a),.int .u64 y]).run Tryz.prog w = .ok (.value (.tuple #[])) (w.setCell a (.int .u64 y)) :=
 run_call_store (P:=Tryz.prog) Tryz.func268 (by kernel_rfl) (by kernel_rfl) (by kernel_rfl) (by kernel_rfl) hc hz
theorem addsc (w:World) {a:Addr} {x y:Int} (hc:w.cell? a = some (.int .i64 x)) (hz:w.frozen? a = false):(callFunc 235 #[.pointer (some a),.int .i64 y]).run Tryz.prog w = .ok (.value (.int .i64 (IntKind.i64.wrap (x + y)))) (w.setCell a (.int .i64 (IntKind.i64.wrap (x + y)))) :=
 run_call_add (P:=Tryz.prog) Tryz.func235 (by kernel_rfl) (by kernel_rfl) (by kernel_rfl) .i64 (by kernel_rfl) hc hz rfl
theorem hits (w:World) {a:Addr} {x y:Int} (hc:w.cell? a = some (.int .u64 x)) (hz:w.frozen? a = false):(callFunc 267 #[.pointer (some a),.int .u64 x,.int .u64 y]).run Tryz.prog w = .ok (.value (.bool true)) (w.setCell a (.int .u64 y)) :=
 run_call_cas_hit (P:=Tryz.prog) Tryz.func267 (by kernel_rfl) (by kernel_rfl) (by kernel_rfl) .u64 (by kernel_rfl) hc hz
theorem misses (w:World) {a:Addr} {v x y:Int} (hc:w.cell? a = some (.int .u64 v)) (hz:w.frozen? a = false) (hv:¬ v = x):(callFunc 267 #[.pointer (some a),.int .u64 x,.int .u64 y]).run Tryz.prog w = .ok (.value (.bool false)) w :=
 run_call_cas_miss (P:=Tryz.prog) Tryz.func267 (by kernel_rfl) (by kernel_rfl) (by kernel_rfl) .u64 (by kernel_rfl) hc hz hv
theorem cLen_at (w:World) (p b:Nat) (ws:List Int) (n:Int) (h:Bank w p b ws n) :
  Calls Tryz.prog 94 #[.pointer (some ⟨p,0,none⟩)] w fun e w' => e = .returned (.int .i64 ws.length) ∧ Grown w w':=by
 have h1:=h.words
 have h2:=h.few
 go_enter Tryz.func94,Tryz.ntmps94
 go_wp2
 go_ret
 exact ⟨rfl,by go_grown⟩
theorem Bank.lt {w:World} {p b:Nat} {ws:List Int} {n:Int} (h:Bank w p b ws n):p < w.heap.size:=World.block_lt_of_cell? w _ h.words
theorem Bank.grown {w w':World} {p b:Nat} {ws:List Int} {n:Int} (h:Bank w p b ws n) (g:Grown w w'):Bank w' p b ws n :=
 ⟨gcell g h.words,gcell g h.steps,fun i j hij => (g.2.1 _).trans (h.free i j hij),fun j hj => gcell g (h.cells j hj),h.apart,Nat.lt_of_lt_of_le h.ltb g.2.2,h.few⟩
theorem reach_at (w:World) (p b:Nat) (ws:List Int) (n:Int) (j:Nat) (hj:j < ws.length) (h:Bank w p b ws n) (kf:Nat) (cap:Array Value) (R:World → Prop)
  (hcf:∀ (xs:Array Value) (w:World),(callFunc kf xs).run Tryz.prog w = .ok (.enter kf xs) w)
  (hk:∀ w1,Grown w w1 → Calls Tryz.prog kf (#[.pointer (some ⟨b,j,none⟩)] ++ cap) w1 fun e w' => e = .returned (.tuple #[]) ∧ R w') :
  Calls Tryz.prog 120 #[.pointer (some ⟨p,0,none⟩),.int .i64 j,.func (.func kf) #[] cap] w fun e w' => e = .returned (.tuple #[]) ∧ R w':=by
 have h2:=h.few
 have HB:=Lib.hid h
 have HK:=Lib.hid hk
 clear h hk
 go_enter Tryz.func120,Tryz.ntmps120
 go_wp2_with fail
 refine (cLen_at _ _ _ _ _ HB.out).mono ?_;rintro e w1 ⟨rfl,g1⟩
 have hb1:=HB.out.grown g1
 have h1:=hb1.words
 go_wp2_with fail
 refine (HK.out _ g1).mono ?_;rintro e w2 ⟨rfl,hr⟩
 go_wp2
 go_end0
 exact ⟨rfl,hr⟩
theorem reach_out (w:World) (p b:Nat) (ws:List Int) (n at_:Int) (hj:at_ < 0 ∨ ws.length ≤ at_) (h:Bank w p b ws n) (f:Value) :
  Calls Tryz.prog 120 #[.pointer (some ⟨p,0,none⟩),.int .i64 at_,f] w fun e w' => e = .returned (.tuple #[]) ∧ Grown w w':=by
 have h2:=h.few
 have HB:=Lib.hid h
 clear h
 by_cases h0:at_ < 0
 ·clear hj
  go_enter Tryz.func120,Tryz.ntmps120
  go_wp2
  go_end0
  exact ⟨rfl,by go_grown⟩
 ·have hj':ws.length ≤ at_:=by omega
  clear hj
  go_enter Tryz.func120,Tryz.ntmps120
  go_wp2_with fail
  refine (cLen_at _ _ _ _ _ HB.out).mono ?_;rintro e w1 ⟨rfl,g1⟩
  go_wp2_with fail
  go_end0
  exact ⟨rfl,g1⟩
theorem Bank.step {w w':World} {p b:Nat} {ws:List Int} {n:Int} (h:Bank w p b ws n) (g:Grown w w') (m:Int):Bank (w'.setCell ⟨p,1,none⟩ (.int .i64 m)) p b ws m:=by
 have h':=h.grown g
 refine ⟨(World.cell?_setCell_other _ _ _ _ (by simp)).trans h'.words,World.cell?_setCell_same _ _ _ h'.steps,fun i j hij => (World.frozen?_setCell _ _ _ _).trans (h'.free i j hij),fun j hj => (World.cell?_setCell_other _ _ _ _ ?_).trans (h'.cells j hj),h'.apart,by simpa using h'.ltb,h'.few⟩
 intro hx
 cases hx
 exact h'.apart rfl
def Mine (p b:Nat):Nat → Prop:=fun i => i = p ∨ i = b
theorem step_at (w:World) (p b:Nat) (ws:List Int) (n:Int) (j:Nat) (hj:j < ws.length) (h:Bank w p b ws n) (hn:0 ≤ n) (hn':n < 4611686018427387904) (kf:Nat) (cap:Array Value) (R:World → Prop)
  (hcf:∀ (xs:Array Value) (w:World),(callFunc kf xs).run Tryz.prog w = .ok (.enter kf xs) w)
  (hk:∀ w1,But (Mine p b) w w1 → Bank w1 p b ws (n + 1) → Calls Tryz.prog kf (#[.pointer (some ⟨b,j,none⟩)] ++ cap) w1 fun e w' => e = .returned (.tuple #[]) ∧ R w') :
  Calls Tryz.prog 239 #[.pointer (some ⟨p,0,none⟩),.int .i64 j,.func (.func kf) #[] cap] w fun e w' => e = .returned (.tuple #[]) ∧ R w':=by
 have hmf:=mkFunc
 have HB:=Lib.hid h
 have HK:=Lib.hid hk
 clear h hk
 go_enter Tryz.func239,Tryz.ntmps239
 go_wp2_with fail
 refine (reach_at _ p b ws n j hj (HB.out.grown (by go_grown)) _ _ R (fun _ _ => rfl) ?_).mono ?_
 ·intro w1 g1
  have g0:Grown w w1:=gtr (by go_grown) g1
  have c0:w1.cell? ⟨w.heap.size,0,none⟩ = some (.pointer (some ⟨p,0,none⟩)):=gcell g1 (by simp)
  have c1:w1.cell? ⟨w.heap.size + 1,0,none⟩ = some (.func (.func kf) #[] cap):=gcell g1 (by simp)
  have hb1:=HB.out.grown g0
  have hs:=hb1.steps
  have hz:=hb1.free p 1 (.inl rfl)
  have ha:=addsc w1 hs hz (y:=1)
  clear hs hz hb1
  rw [show IntKind.i64.wrap (n + 1) = n + 1 from IntWalk.i64_in _ (by omega)] at ha
  have hb2:=HB.out.step g0 (n + 1)
  have q:But (Mine p b) w (w1.setCell ⟨p,1,none⟩ (.int .i64 (n + 1))):=(But.of_grown g0).setCell (.inl (.inl rfl)) _
  go_enter Tryz.func266,Tryz.ntmps266
  go_wp2
  refine (HK.out _ q hb2).mono ?_;rintro e w2 ⟨rfl,hr⟩
  go_wp2
  go_end0
  exact ⟨rfl,hr⟩
 ·rintro e w2 ⟨rfl,hr⟩
  go_wp2
  go_end0
  exact ⟨rfl,hr⟩
theorem step_out (w:World) (p b:Nat) (ws:List Int) (n at_:Int) (hj:at_ < 0 ∨ ws.length ≤ at_) (h:Bank w p b ws n) (kf:Nat) (cap:Array Value) :
  Calls Tryz.prog 239 #[.pointer (some ⟨p,0,none⟩),.int .i64 at_,.func (.func kf) #[] cap] w fun e w' => e = .returned (.tuple #[]) ∧ Grown w w':=by
 have hmf:=mkFunc
 have HB:=Lib.hid h
 have HJ:=Lib.hid hj
 clear h hj
 go_enter Tryz.func239,Tryz.ntmps239
 go_wp2_with fail
 refine (reach_out _ p b ws n at_ HJ.out (HB.out.grown (by go_grown)) _).mono ?_
 rintro e w2 ⟨rfl,hr⟩
 go_wp2
 go_end0
 exact ⟨rfl,gtr (by go_grown) hr⟩
def Left1 (p b:Nat) (ws:List Int) (n:Int) (w w':World):Prop:=But (Mine p b) w w' ∧ Bank w' p b ws n
theorem Bank.put {w:World} {p b:Nat} {ws:List Int} {n:Int} (h:Bank w p b ws n) {a:Addr} (ha:¬ Mine p b a.block) (v:Value):Bank (w.setCell a v) p b ws n:=by
 have h1:∀ j,a ≠ (⟨p,j,none⟩:Addr):=fun j e => ha (.inl (by rw [e]))
 have h2:∀ j,a ≠ (⟨b,j,none⟩:Addr):=fun j e => ha (.inr (by rw [e]))
 exact ⟨(World.cell?_setCell_other _ _ _ _ (h1 _)).trans h.words,(World.cell?_setCell_other _ _ _ _ (h1 _)).trans h.steps,fun i j hij => (World.frozen?_setCell _ _ _ _).trans (h.free i j hij),
  fun j hj => (World.cell?_setCell_other _ _ _ _ (h2 _)).trans (h.cells j hj),h.apart,by simpa using h.ltb,h.few⟩
theorem Bank.mine {w:World} {p b:Nat} {ws:List Int} {n:Int} (h:Bank w p b ws n) {i:Nat} (hi:w.heap.size ≤ i):¬ Mine p b i:=by
 have:=h.lt
 have:=h.ltb
 rintro (rfl | rfl) <;> omega
theorem Left1.put {w w':World} {p b:Nat} {ws ws':List Int} {n n':Int} (h:Left1 p b ws n w w') (h0:Bank w p b ws' n') {a:Addr} (ha:w.heap.size ≤ a.block) (v:Value):Left1 p b ws n w (w'.setCell a v) :=
 ⟨h.1.setCell (.inr ha) v,h.2.put (h0.mine ha) v⟩
theorem fz_new (w:World) {a:Addr} (ha:w.heap.size ≤ a.block):w.frozen? a = false:=by
 have:w.heap[a.block]? = none:=Array.getElem?_eq_none ha
 simp [World.frozen?,this]
theorem Load_at (w:World) (p b:Nat) (ws:List Int) (n:Int) (j:Nat) (hj:j < ws.length) (h:Bank w p b ws n) (hn:0 ≤ n) (hn':n < 4611686018427387904) :
  Calls Tryz.prog 264 #[.pointer (some ⟨p,0,none⟩),.int .i64 j] w fun e w' => e = .returned (.int .u64 ws[j]) ∧ Left1 p b ws (n + 1) w w':=by
 have hmf:=mkFunc
 have HB:=Lib.hid h
 clear h
 go_enter Tryz.func264,Tryz.ntmps264
 go_wp2_with fail
 refine (step_at _ p b ws n j hj (HB.out.grown (by go_grown)) hn hn' _ _ (fun w' => Left1 p b ws (n + 1) w w' ∧ w'.cell? ⟨w.heap.size,0,none⟩ = some (.int .u64 ws[j])) (fun _ _ => rfl) ?_).mono ?_
 ·intro w1 q1 hb1
  have hc:=hb1.cells j hj
  have ha:=loads w1 hc
  have c0:w1.cell? ⟨w.heap.size,0,none⟩ = some (.int .u64 0):=q1.cell (HB.out.mine (Nat.le_refl _)) (by simp)
  have f0:w1.frozen? ⟨w.heap.size,0,none⟩ = false:=q1.frozen (by simp)
  have q:Left1 p b ws (n + 1) w (w1.setCell ⟨w.heap.size,0,none⟩ (.int .u64 ws[j])):=Left1.put ⟨(But.of_grown (by go_grown)).trans q1,hb1⟩ HB.out (Nat.le_refl _) _
  go_enter Tryz.func275,Tryz.ntmps275
  go_wp2
  go_end0
  exact ⟨rfl,q,World.cell?_setCell_same _ _ _ c0⟩
 ·rintro e w2 ⟨rfl,hr,hc⟩
  have f0:w2.frozen? ⟨w.heap.size,0,none⟩ = false:=hr.1.frozen (fz_new _ (Nat.le_refl _))
  go_wp2
  have c9:(w2.setCell ⟨w.heap.size,0,none⟩ (.int .u64 ws[j])).cell? ⟨w.heap.size,0,none⟩ = some (.int .u64 ws[j]):=World.cell?_setCell_same _ _ _ hc
  exact bodyPost_ret (v:=.int .u64 ws[j]) (by simp [results,Tryz.results264,go_sem,c9]) rfl ⟨rfl,hr.put HB.out (Nat.le_refl _) _⟩
theorem Load_out (w:World) (p b:Nat) (ws:List Int) (n at_:Int) (hj:at_ < 0 ∨ ws.length ≤ at_) (h:Bank w p b ws n) :
  Calls Tryz.prog 264 #[.pointer (some ⟨p,0,none⟩),.int .i64 at_] w fun e w' => e = .returned (.int .u64 0) ∧ Grown w w':=by
 have hmf:=mkFunc
 have HB:=Lib.hid h
 have HJ:=Lib.hid hj
 clear h hj
 go_enter Tryz.func264,Tryz.ntmps264
 go_wp2_with fail
 refine (step_out _ p b ws n at_ HJ.out (HB.out.grown (by go_grown)) _ _).mono ?_
 rintro e w1 ⟨rfl,g1⟩
 have c0:w1.cell? ⟨w.heap.size,0,none⟩ = some (.int .u64 0):=gcell g1 (by simp)
 have f0:w1.frozen? ⟨w.heap.size,0,none⟩ = false:=(g1.2.1 _).trans (by simp)
 go_wp2
 have c9:(w1.setCell ⟨w.heap.size,0,none⟩ (.int .u64 0)).cell? ⟨w.heap.size,0,none⟩ = some (.int .u64 0):=World.cell?_setCell_same _ _ _ c0
 exact bodyPost_ret (v:=.int .u64 0) (by simp [results,Tryz.results264,go_sem,c9]) rfl ⟨rfl,(gtr (by go_grown) g1).setCell (Nat.le_refl _) _⟩
theorem Peek_in (w:World) (p b:Nat) (ws:List Int) (n:Int) (j:Nat) (hj:j < ws.length) (h:Bank w p b ws n) :
  Calls Tryz.prog 60 #[.pointer (some ⟨p,0,none⟩),.int .i64 j] w fun e w' => e = .returned (.int .u64 ws[j]) ∧ Grown w w':=by
 have hmf:=mkFunc
 have HB:=Lib.hid h
 clear h
 go_enter Tryz.func60,Tryz.ntmps60
 go_wp2_with fail
 refine (reach_at _ p b ws n j hj (HB.out.grown (by go_grown)) _ _ (fun w' => Grown w w' ∧ w'.cell? ⟨w.heap.size,0,none⟩ = some (.int .u64 ws[j])) (fun _ _ => rfl) ?_).mono ?_
 ·intro w1 g1
  have hb1:=HB.out.grown (gtr (by go_grown) g1)
  have hc:=hb1.cells j hj
  have ha:=loads w1 hc
  have c0:w1.cell? ⟨w.heap.size,0,none⟩ = some (.int .u64 0):=gcell g1 (by simp)
  have f0:w1.frozen? ⟨w.heap.size,0,none⟩ = false:=(g1.2.1 _).trans (by simp)
  clear hb1
  go_enter Tryz.func121,Tryz.ntmps121
  go_wp2
  go_end0
  exact ⟨rfl,(gtr (by go_grown) g1).setCell (Nat.le_refl _) _,World.cell?_setCell_same _ _ _ c0⟩
 ·rintro e w2 ⟨rfl,hr,hc⟩
  have f0:w2.frozen? ⟨w.heap.size,0,none⟩ = false:=(hr.2.1 _).trans (fz_new _ (Nat.le_refl _))
  go_wp2
  have c9:(w2.setCell ⟨w.heap.size,0,none⟩ (.int .u64 ws[j])).cell? ⟨w.heap.size,0,none⟩ = some (.int .u64 ws[j]):=World.cell?_setCell_same _ _ _ hc
  exact bodyPost_ret (v:=.int .u64 ws[j]) (by simp [results,Tryz.results60,go_sem,c9]) rfl ⟨rfl,hr.setCell (Nat.le_refl _) _⟩
theorem Peek_out (w:World) (p b:Nat) (ws:List Int) (n at_:Int) (hj:at_ < 0 ∨ ws.length ≤ at_) (h:Bank w p b ws n) :
  Calls Tryz.prog 60 #[.pointer (some ⟨p,0,none⟩),.int .i64 at_] w fun e w' => e = .returned (.int .u64 0) ∧ Grown w w':=by
 have hmf:=mkFunc
 have HB:=Lib.hid h
 have HJ:=Lib.hid hj
 clear h hj
 go_enter Tryz.func60,Tryz.ntmps60
 go_wp2_with fail
 refine (reach_out _ p b ws n at_ HJ.out (HB.out.grown (by go_grown)) _).mono ?_
 rintro e w1 ⟨rfl,g1⟩
 have c0:w1.cell? ⟨w.heap.size,0,none⟩ = some (.int .u64 0):=gcell g1 (by simp)
 have f0:w1.frozen? ⟨w.heap.size,0,none⟩ = false:=(g1.2.1 _).trans (by simp)
 go_wp2
 have c9:(w1.setCell ⟨w.heap.size,0,none⟩ (.int .u64 0)).cell? ⟨w.heap.size,0,none⟩ = some (.int .u64 0):=World.cell?_setCell_same _ _ _ c0
 exact bodyPost_ret (v:=.int .u64 0) (by simp [results,Tryz.results60,go_sem,c9]) rfl ⟨rfl,(gtr (by go_grown) g1).setCell (Nat.le_refl _) _⟩
theorem Bank.lay {w:World} {p b:Nat} {ws:List Int} {n:Int} (h:Bank w p b ws n) {j:Nat} (hj:j < ws.length) (v:Int):Bank (w.setCell ⟨b,j,none⟩ (.int .u64 v)) p b (ws.set j v) n:=by
 have h1:∀ i,(⟨b,j,none⟩:Addr) ≠ ⟨p,i,none⟩:=fun i e => h.apart (by cases e;rfl)
 refine ⟨(World.cell?_setCell_other _ _ _ _ (h1 _)).trans (by simpa using h.words),(World.cell?_setCell_other _ _ _ _ (h1 _)).trans h.steps,fun i k hij => (World.frozen?_setCell _ _ _ _).trans (h.free i k hij),fun i hi => ?_,h.apart,by simpa using h.ltb,by simpa using h.few⟩
 have hi':i < ws.length:=by simpa using hi
 by_cases e:j = i
 ·subst e
  rw [List.getElem_set_self]
  exact World.cell?_setCell_same _ _ _ (h.cells j hj)
 ·rw [List.getElem_set_ne e]
  exact (World.cell?_setCell_other _ _ _ _ (by intro hx;cases hx;exact e rfl)).trans (h.cells i hi')
theorem Store_in (w:World) (p b:Nat) (ws:List Int) (n:Int) (j:Nat) (v:Int) (hj:j < ws.length) (h:Bank w p b ws n) (hn:0 ≤ n) (hn':n < 4611686018427387904) :
  Calls Tryz.prog 199 #[.pointer (some ⟨p,0,none⟩),.int .i64 j,.int .u64 v] w fun e w' => e = .returned (.tuple #[]) ∧ Left1 p b (ws.set j v) (n + 1) w w':=by
 have hmf:=mkFunc
 have HB:=Lib.hid h
 clear h
 go_enter Tryz.func199,Tryz.ntmps199
 go_wp2_with fail
 refine (step_at _ p b ws n j hj (HB.out.grown (by go_grown)) hn hn' _ _ (fun w' => Left1 p b (ws.set j v) (n + 1) w w') (fun _ _ => rfl) ?_).mono ?_
 ·intro w1 q1 hb1
  have c0:w1.cell? ⟨w.heap.size,0,none⟩ = some (.int .u64 v):=q1.cell (HB.out.mine (Nat.le_refl _)) (by simp)
  have hc:=hb1.cells j hj
  have hz:=hb1.free b j (.inr rfl)
  have ha:=stores w1 hc hz (y:=v)
  have q:Left1 p b (ws.set j v) (n + 1) w (w1.setCell ⟨b,j,none⟩ (.int .u64 v)):=⟨((But.of_grown (by go_grown)).trans q1).setCell (.inl (.inr rfl)) _,hb1.lay hj v⟩
  have Q:=Lib.hid q
  clear hb1 q hc hz
  go_enter Tryz.func244,Tryz.ntmps244
  go_wp2
  go_end0
  exact ⟨rfl,Q.out⟩
 ·rintro e w2 ⟨rfl,hr⟩
  go_wp2
  go_end0
  exact ⟨rfl,hr⟩
theorem Store_out (w:World) (p b:Nat) (ws:List Int) (n at_ v:Int) (hj:at_ < 0 ∨ ws.length ≤ at_) (h:Bank w p b ws n) :
  Calls Tryz.prog 199 #[.pointer (some ⟨p,0,none⟩),.int .i64 at_,.int .u64 v] w fun e w' => e = .returned (.tuple #[]) ∧ Grown w w':=by
 have hmf:=mkFunc
 have HB:=Lib.hid h
 have HJ:=Lib.hid hj
 clear h hj
 go_enter Tryz.func199,Tryz.ntmps199
 go_wp2_with fail
 refine (step_out _ p b ws n at_ HJ.out (HB.out.grown (by go_grown)) _ _).mono ?_
 rintro e w1 ⟨rfl,g1⟩
 go_wp2
 go_end0
 exact ⟨rfl,gtr (by go_grown) g1⟩
theorem Swap_hit (w:World) (p b:Nat) (ws:List Int) (n:Int) (j:Nat) (v:Int) (hj:j < ws.length) (h:Bank w p b ws n) (hn:0 ≤ n) (hn':n < 4611686018427387904) :
  Calls Tryz.prog 191 #[.pointer (some ⟨p,0,none⟩),.int .i64 j,.int .u64 ws[j],.int .u64 v] w fun e w' => e = .returned (.bool true) ∧ Left1 p b (ws.set j v) (n + 1) w w':=by
 have hmf:=mkFunc
 have HB:=Lib.hid h
 clear h
 go_enter Tryz.func191,Tryz.ntmps191
 go_wp2_with fail
 refine (step_at _ p b ws n j hj (HB.out.grown (by go_grown)) hn hn' _ _ (fun w' => Left1 p b (ws.set j v) (n + 1) w w' ∧ w'.cell? ⟨w.heap.size + 1 + 1,0,none⟩ = some (.bool true)) (fun _ _ => rfl) ?_).mono ?_
 ·intro w1 q1 hb1
  have c0:w1.cell? ⟨w.heap.size,0,none⟩ = some (.int .u64 ws[j]):=q1.cell (HB.out.mine (Nat.le_refl _)) (by simp [go_sem])
  have c1:w1.cell? ⟨w.heap.size + 1,0,none⟩ = some (.int .u64 v):=q1.cell (HB.out.mine (by omega)) (by simp [go_sem])
  have c2:w1.cell? ⟨w.heap.size + 1 + 1,0,none⟩ = some (.bool false):=q1.cell (HB.out.mine (by omega)) (by simp [go_sem])
  have f2:w1.frozen? ⟨w.heap.size + 1 + 1,0,none⟩ = false:=q1.frozen (by simp [go_sem])
  have hc:=hb1.cells j hj
  have hz:=hb1.free b j (.inr rfl)
  have ha:=hits w1 hc hz (y:=v)
  have q:Left1 p b (ws.set j v) (n + 1) w (w1.setCell ⟨b,j,none⟩ (.int .u64 v)) ∧ (w1.setCell ⟨b,j,none⟩ (.int .u64 v)).cell? ⟨w.heap.size + 1 + 1,0,none⟩ = some (.bool false) :=
   ⟨⟨((But.of_grown (by go_grown)).trans q1).setCell (.inl (.inr rfl)) _,hb1.lay hj v⟩,(World.cell?_setCell_other _ _ _ _ (by intro hx;cases hx;have:=HB.out.ltb;omega)).trans c2⟩
  have f2':(w1.setCell ⟨b,j,none⟩ (.int .u64 v)).frozen? ⟨w.heap.size + 1 + 1,0,none⟩ = false:=(World.frozen?_setCell _ _ _ _).trans f2
  have c2':=q.2
  have Q:=Lib.hid q
  clear hb1 q hc hz
  go_enter Tryz.func240,Tryz.ntmps240
  go_wp2
  go_end0
  exact ⟨rfl,Q.out.1.put HB.out (by show _ ≤ _ + 1 + 1;omega) _,World.cell?_setCell_same _ _ _ Q.out.2⟩
 ·rintro e w2 ⟨rfl,hr,hc⟩
  have f0:w2.frozen? ⟨w.heap.size + 1 + 1,0,none⟩ = false:=hr.1.frozen (fz_new _ (by show _ ≤ _ + 1 + 1;omega))
  go_wp2
  have c9:(w2.setCell ⟨w.heap.size + 1 + 1,0,none⟩ (.bool true)).cell? ⟨w.heap.size + 1 + 1,0,none⟩ = some (.bool true):=World.cell?_setCell_same _ _ _ hc
  exact bodyPost_ret (v:=.bool true) (by simp [results,Tryz.results191,go_sem,c9]) rfl ⟨rfl,hr.put HB.out (by show _ ≤ _ + 1 + 1;omega) _⟩
theorem Swap_miss (w:World) (p b:Nat) (ws:List Int) (n:Int) (j:Nat) (old v:Int) (hj:j < ws.length) (ho:¬ ws[j] = old) (h:Bank w p b ws n) (hn:0 ≤ n) (hn':n < 4611686018427387904) :
  Calls Tryz.prog 191 #[.pointer (some ⟨p,0,none⟩),.int .i64 j,.int .u64 old,.int .u64 v] w fun e w' => e = .returned (.bool false) ∧ Left1 p b ws (n + 1) w w':=by
 have hmf:=mkFunc
 have HB:=Lib.hid h
 clear h
 have HO:=Lib.hid ho;clear ho
 go_enter Tryz.func191,Tryz.ntmps191
 go_wp2_with fail
 refine (step_at _ p b ws n j hj (HB.out.grown (by go_grown)) hn hn' _ _ (fun w' => Left1 p b ws (n + 1) w w' ∧ w'.cell? ⟨w.heap.size + 1 + 1,0,none⟩ = some (.bool false)) (fun _ _ => rfl) ?_).mono ?_
 ·intro w1 q1 hb1
  have c0:w1.cell? ⟨w.heap.size,0,none⟩ = some (.int .u64 old):=q1.cell (HB.out.mine (Nat.le_refl _)) (by simp [go_sem])
  have c1:w1.cell? ⟨w.heap.size + 1,0,none⟩ = some (.int .u64 v):=q1.cell (HB.out.mine (by omega)) (by simp [go_sem])
  have c2:w1.cell? ⟨w.heap.size + 1 + 1,0,none⟩ = some (.bool false):=q1.cell (HB.out.mine (by omega)) (by simp [go_sem])
  have f2:w1.frozen? ⟨w.heap.size + 1 + 1,0,none⟩ = false:=q1.frozen (by simp [go_sem])
  have hc:=hb1.cells j hj
  have hz:=hb1.free b j (.inr rfl)
  have ha:=misses w1 hc hz HO.out (y:=v)
  have q:Left1 p b ws (n + 1) w w1 ∧ w1.cell? ⟨w.heap.size + 1 + 1,0,none⟩ = some (.bool false):=⟨⟨(But.of_grown (by go_grown)).trans q1,hb1⟩,c2⟩
  have Q:=Lib.hid q
  clear hb1 q hc hz
  go_enter Tryz.func240,Tryz.ntmps240
  go_wp2
  go_end0
  exact ⟨rfl,Q.out.1.put HB.out (by show _ ≤ _ + 1 + 1;omega) _,World.cell?_setCell_same _ _ _ Q.out.2⟩
 ·rintro e w2 ⟨rfl,hr,hc⟩
  have f0:w2.frozen? ⟨w.heap.size + 1 + 1,0,none⟩ = false:=hr.1.frozen (fz_new _ (by show _ ≤ _ + 1 + 1;omega))
  go_wp2
  have c9:(w2.setCell ⟨w.heap.size + 1 + 1,0,none⟩ (.bool false)).cell? ⟨w.heap.size + 1 + 1,0,none⟩ = some (.bool false):=World.cell?_setCell_same _ _ _ hc
  exact bodyPost_ret (v:=.bool false) (by simp [results,Tryz.results191,go_sem,c9]) rfl ⟨rfl,hr.put HB.out (by show _ ≤ _ + 1 + 1;omega) _⟩
theorem Swap_out (w:World) (p b:Nat) (ws:List Int) (n at_ old v:Int) (hj:at_ < 0 ∨ ws.length ≤ at_) (h:Bank w p b ws n) :
  Calls Tryz.prog 191 #[.pointer (some ⟨p,0,none⟩),.int .i64 at_,.int .u64 old,.int .u64 v] w fun e w' => e = .returned (.bool false) ∧ Grown w w':=by
 have hmf:=mkFunc
 have HB:=Lib.hid h
 have HJ:=Lib.hid hj
 clear h hj
 go_enter Tryz.func191,Tryz.ntmps191
 go_wp2_with fail
 refine (step_out _ p b ws n at_ HJ.out (HB.out.grown (by go_grown)) _ _).mono ?_
 rintro e w1 ⟨rfl,g1⟩
 have c0:w1.cell? ⟨w.heap.size + 1 + 1,0,none⟩ = some (.bool false):=gcell g1 (by simp [go_sem])
 have f0:w1.frozen? ⟨w.heap.size + 1 + 1,0,none⟩ = false:=(g1.2.1 _).trans (by simp [go_sem])
 go_wp2
 have c9:(w1.setCell ⟨w.heap.size + 1 + 1,0,none⟩ (.bool false)).cell? ⟨w.heap.size + 1 + 1,0,none⟩ = some (.bool false):=World.cell?_setCell_same _ _ _ c0
 exact bodyPost_ret (v:=.bool false) (by simp [results,Tryz.results191,go_sem,c9]) rfl ⟨rfl,(gtr (by go_grown) g1).setCell (by show _ ≤ _ + 1 + 1;omega) _⟩
theorem Steps_at (w:World) (p b:Nat) (ws:List Int) (n:Int) (h:Bank w p b ws n) :
  Calls Tryz.prog 19 #[.pointer (some ⟨p,0,none⟩)] w fun e w' => e = .returned (.int .i64 n) ∧ Grown w w':=by
 have h1:=h.steps
 have ha:=loads64c w h1
 go_enter Tryz.func19,Tryz.ntmps19
 go_wp2
 go_ret
 exact ⟨rfl,by go_grown⟩
def Born (k:Nat) (w:World) (e:Ending) (w':World):Prop :=
 ∃ p b,e = .returned (.pointer (some ⟨p,0,none⟩)) ∧ Grown w w' ∧ w.heap.size ≤ p ∧ w.heap.size ≤ b ∧ Bank w' p b (List.replicate k 0) 0
theorem madeCells_one (v:Value) (n:Nat):madeCells #[v] n = Array.replicate n v:=by
 apply Array.ext
 ·simp [madeCells]
 ·intro i h1 h2
  simp [madeCells,Nat.mod_one]
theorem info_word:∃ i,Tryz.prog.info? 266 = some i ∧ i.zero = some (.agg #[.int .u64 0]) ∧ i.size = 1 ∧ i.bytes = 8:=by
 have h1:(Tryz.prog.info? 266).map (fun i => (i.size,i.bytes)) = some (1,8):=by kernel_rfl
 have h2:(Tryz.prog.info? 266).bind (·.zero) = some (.agg #[.int .u64 0]):=by kernel_rfl
 generalize Tryz.prog.info? 266 = o at h1 h2
 cases o with
 | none => cases h1
 | some i =>
  simp only [Option.map_some,Option.some.injEq,Prod.mk.injEq] at h1
  exact ⟨i,rfl,h2,h1.1,h1.2⟩
theorem make_words (k:Nat) (hk:k ≤ 1048576) (w:World):(Instr.makeSlice 130 (.int .i64 (k:Int)) (.int .i64 (k:Int))).run Tryz.prog w = .ok (.slice (some ⟨w.heap.size,0,none⟩) k k) (w.alloc (.cells (Array.replicate k (.int .u64 0)) 266)):=by
 obtain ⟨i,hi,hz,hs,hb⟩:=info_word
 have h:=run_make (P:=Tryz.prog) w 130 266 i _ (by kernel_rfl) hi hz .i64 .i64 k k (by omega) (by omega) (by rw [hb];omega) (by omega)
 simpa [hs,Value.cells,madeCells_one] using h
theorem Bank.born (w:World) (k:Nat) (hk:k ≤ 1048576) (t t':TypeId):Bank ((w.alloc (.cells (Array.replicate k (.int .u64 0)) t)).alloc (.cells #[.slice (some ⟨w.heap.size,0,none⟩) k k,.int .i64 0] t')) (w.heap.size + 1) w.heap.size (List.replicate k 0) 0:=by
 refine ⟨by simp,by simp,fun i j hij => ?_,fun j hj => ?_,by omega,by simp;omega,by simpa using hk⟩
 ·rcases hij with rfl | rfl <;> simp
 ·have hj':j < k:=by simpa using hj
  simp [hj']
theorem cNew_at (w:World) (k:Nat) (hk:k ≤ 1048576) :
  Calls Tryz.prog 109 #[.int .i64 k] w (Born k w):=by
 have hm:=make_words k hk
 have e1:decide ((k:Int) < 0) = false:=decide_eq_false (by omega)
 have e2:decide (1048576 < (k:Int)) = false:=decide_eq_false (by omega)
 go_enter Tryz.func109,Tryz.ntmps109
 go_wp2
 go_ret
 exact ⟨_,_,rfl,by go_grown,by omega,Nat.le_refl _,Bank.born w k hk _ _⟩
def rd (ws:List Int) (i:Int):Int:=if 0 ≤ i then ws.getD i.toNat 0 else 0
def wr (ws:List Int) (i v:Int):List Int:=if 0 ≤ i then ws.set i.toNat v else ws
def cnt (ws:List Int) (i:Int):Int:=if 0 ≤ i ∧ i < ws.length then 1 else 0
def may (ws:List Int) (i old:Int):Bool:=decide (0 ≤ i ∧ i < ws.length ∧ rd ws i = old)
def sw (ws:List Int) (i old v:Int):List Int:=if may ws i old = true then wr ws i v else ws
theorem rd_out {ws:List Int} {i:Int} (h:i < 0 ∨ ws.length ≤ i):rd ws i = 0:=by
 unfold rd
 split
 ·rw [List.getD_eq_getElem?_getD,List.getElem?_eq_none (by omega)];rfl
 ·rfl
theorem rd_in {ws:List Int} {j:Nat} (h:j < ws.length):rd ws j = ws[j]:=by
 unfold rd
 rw [if_pos (by omega),Int.toNat_natCast,List.getD_eq_getElem?_getD,List.getElem?_eq_getElem h];rfl
theorem wr_out {ws:List Int} {i v:Int} (h:i < 0 ∨ ws.length ≤ i):wr ws i v = ws:=by
 unfold wr
 split
 ·exact List.set_eq_of_length_le (by omega)
 ·rfl
theorem wr_in {ws:List Int} {j:Nat} {v:Int}:wr ws j v = ws.set j v:=by
 unfold wr
 rw [if_pos (by omega),Int.toNat_natCast]
theorem cnt_out {ws:List Int} {i:Int} (h:i < 0 ∨ ws.length ≤ i):cnt ws i = 0:=if_neg (by omega)
theorem cnt_in {ws:List Int} {j:Nat} (h:j < ws.length):cnt ws j = 1:=if_pos (by omega)
theorem length_wr (ws:List Int) (i v:Int):(wr ws i v).length = ws.length:=by
 unfold wr;split <;> simp
theorem in_or_out (ws:List Int) (i:Int):(i < 0 ∨ ws.length ≤ i) ∨ ∃ j:Nat,i = j ∧ j < ws.length:=by
 by_cases h:i < 0 ∨ ws.length ≤ i
 ·exact .inl h
 ·exact .inr ⟨i.toNat,by omega,by omega⟩
theorem Left1.of_grown {w w':World} {p b:Nat} {ws:List Int} {n:Int} (h:Bank w p b ws n) (g:Grown w w'):Left1 p b ws n w w':=⟨But.of_grown g,h.grown g⟩
theorem Load_any (w:World) (p b:Nat) (ws:List Int) (n i:Int) (h:Bank w p b ws n) (hn:0 ≤ n) (hn':n < 4611686018427387904) :
  Calls Tryz.prog 264 #[.pointer (some ⟨p,0,none⟩),.int .i64 i] w fun e w' => e = .returned (.int .u64 (rd ws i)) ∧ Left1 p b ws (n + cnt ws i) w w':=by
 rcases in_or_out ws i with ho | ⟨j,rfl,hj⟩
 ·rw [rd_out ho,cnt_out ho,Int.add_zero]
  exact (Load_out w p b ws n i ho h).mono fun _ _ ⟨h1,h2⟩ => ⟨h1,.of_grown h h2⟩
 ·rw [rd_in hj,cnt_in hj]
  exact Load_at w p b ws n j hj h hn hn'
theorem Peek_any (w:World) (p b:Nat) (ws:List Int) (n i:Int) (h:Bank w p b ws n) :
  Calls Tryz.prog 60 #[.pointer (some ⟨p,0,none⟩),.int .i64 i] w fun e w' => e = .returned (.int .u64 (rd ws i)) ∧ Grown w w':=by
 rcases in_or_out ws i with ho | ⟨j,rfl,hj⟩
 ·rw [rd_out ho]
  exact Peek_out w p b ws n i ho h
 ·rw [rd_in hj]
  exact Peek_in w p b ws n j hj h
theorem Store_any (w:World) (p b:Nat) (ws:List Int) (n i v:Int) (h:Bank w p b ws n) (hn:0 ≤ n) (hn':n < 4611686018427387904) :
  Calls Tryz.prog 199 #[.pointer (some ⟨p,0,none⟩),.int .i64 i,.int .u64 v] w fun e w' => e = .returned (.tuple #[]) ∧ Left1 p b (wr ws i v) (n + cnt ws i) w w':=by
 rcases in_or_out ws i with ho | ⟨j,rfl,hj⟩
 ·rw [wr_out ho,cnt_out ho,Int.add_zero]
  exact (Store_out w p b ws n i v ho h).mono fun _ _ ⟨h1,h2⟩ => ⟨h1,.of_grown h h2⟩
 ·rw [wr_in,cnt_in hj]
  exact Store_in w p b ws n j v hj h hn hn'
theorem Swap_any (w:World) (p b:Nat) (ws:List Int) (n i old v:Int) (h:Bank w p b ws n) (hn:0 ≤ n) (hn':n < 4611686018427387904) :
  Calls Tryz.prog 191 #[.pointer (some ⟨p,0,none⟩),.int .i64 i,.int .u64 old,.int .u64 v] w fun e w' => e = .returned (.bool (may ws i old)) ∧ Left1 p b (sw ws i old v) (n + cnt ws i) w w':=by
 unfold sw
 rcases in_or_out ws i with ho | ⟨j,rfl,hj⟩
 ·rw [show may ws i old = false from decide_eq_false (by omega),cnt_out ho,Int.add_zero,if_neg (by simp)]
  exact (Swap_out w p b ws n i old v ho h).mono fun _ _ ⟨h1,h2⟩ => ⟨h1,.of_grown h h2⟩
 ·rw [cnt_in hj]
  by_cases ho:ws[j] = old
  ·subst ho
   rw [show may ws j ws[j] = true from decide_eq_true ⟨by omega,by omega,rd_in hj⟩,if_pos rfl,wr_in]
   exact Swap_hit w p b ws n j v hj h hn hn'
  ·rw [show may ws j old = false from decide_eq_false (fun hx => ho ((rd_in hj).symm.trans hx.2.2)),if_neg (by simp)]
   exact Swap_miss w p b ws n j old v hj ho h hn hn'
end Go.Proofs.YtcogckjpmmjmbaaGreat
namespace Go.Proofs.YtcogckjpmmjmbaaGreat
open Go.ChangeShapes Go.WideShapes Go.ChangeAt Go.RowKit
set_option maxRecDepth 100000
set_option linter.unusedVariables false
def Holds (w:World) (b:Nat) (ws:List Int):Prop:=∀ (j:Nat) (h:j < ws.length),w.cell? ⟨b,j,none⟩ = some (.int .u64 ws[j])
theorem info_u64:(Tryz.prog.info? 46).map (fun i => (i.zero,i.size,i.bytes)) = some (some (.int .u64 0),1,8):=by kernel_rfl
def vals (ws:List Int):List Value:=ws.map (.int .u64)
theorem Holds.news {w:World} {b:Nat} {ws:List Int} (h:Holds w b ws):∀ j u,(vals ws)[j]? = some u → w.cell? ((⟨b,0,none⟩:Addr).add j) = some u:=by
 intro j u hu
 obtain ⟨hj,he⟩:=List.getElem?_eq_some_iff.1 hu
 have hj':j < ws.length:=by simpa [vals] using hj
 have e:(⟨b,0,none⟩:Addr).add j = ⟨b,j,none⟩:=by
  unfold Addr.add
  split
  ·rename_i hz;simp_all
  ·simp
 rw [e,h j hj',← he]
 simp [vals]
theorem Holds.grown {w w':World} {b:Nat} {ws:List Int} (h:Holds w b ws) (g:Grown w w'):Holds w' b ws:=fun j hj => gcell g (h j hj)
theorem Holds.made (w:World) (ws:List Int) (Z:Array Value) (t:TypeId):Holds (w.alloc (.cells ((vals ws).toArray ++ Z) t)) w.heap.size ws:=fun j hj => by
 rw [World.cell?_alloc_new,Array.getElem?_append_left (by simpa [vals] using hj)]
 simp [vals,hj]
theorem Holds.lay {w:World} {b:Nat} {ws:List Int} (h:Holds w b ws) {j:Nat} (hj:j < ws.length) (v:Int):Holds (w.setCell ⟨b,j,none⟩ (.int .u64 v)) b (ws.set j v):=fun i hi => by
 have hi':i < ws.length:=by simpa using hi
 by_cases e:j = i
 ·subst e
  rw [List.getElem_set_self]
  exact World.cell?_setCell_same _ _ _ (h j hj)
 ·rw [List.getElem_set_ne e]
  exact (World.cell?_setCell_other _ _ _ _ (by intro hx;cases hx;exact e rfl)).trans (h i hi')
theorem Holds.put {w:World} {b:Nat} {ws:List Int} (h:Holds w b ws) {a:Addr} (ha:a.block ≠ b) (v:Value):Holds (w.setCell a v) b ws:=fun i hi =>
 (World.cell?_setCell_other _ _ _ _ (by intro hx;apply ha;rw [hx])).trans (h i hi)
theorem vals_at {ws:List Int} {j:Nat} (hj:j < ws.length) (Z:Array Value):((vals ws).toArray ++ Z)[j]? = some (.int .u64 ws[j]):=by
 rw [Array.getElem?_append_left (by simpa [vals] using hj)]
 simp [vals,hj]
theorem vals_set {ws:List Int} {j:Nat} (hj:j < ws.length) (v:Int) (Z:Array Value):((vals ws).toArray ++ Z).setIfInBounds j (.int .u64 v) = (vals (ws.set j v)).toArray ++ Z:=by
 rw [Array.setIfInBounds_append_left (by simpa [vals] using hj)]
 simp [vals,List.map_set]
theorem three_ways (ws:List Int) (i:Int):i < 0 ∨ (∃ j:Nat,i = j ∧ ws.length ≤ j) ∨ ∃ j:Nat,i = j ∧ j < ws.length:=by
 by_cases h:i < 0
 ·exact .inl h
 ·by_cases h':ws.length ≤ i.toNat
  ·exact .inr (.inl ⟨i.toNat,by omega,h'⟩)
  ·exact .inr (.inr ⟨i.toNat,by omega,by omega⟩)
def ACells (w:World) (b0:Nat) (ws:List Int) (n:Int) (e:Ending) (w':World):Prop :=
 ∃ b cap,e = .returned (.agg #[.slice (some ⟨b,0,none⟩) ws.length cap,.int .i64 n]) ∧ Grown w w' ∧ Holds w' b ws ∧ (b = b0 ∨ w.heap.size ≤ b)
theorem rStore_in (w:World) (b cap:Nat) (ws:List Int) (n:Int) (j:Nat) (v:Int) (hj:j < ws.length) (hc:Holds w b ws) (hf:ws.length ≤ 1048576) (hn:0 ≤ n) (hn':n < 4611686018427387904) :
  Calls Tryz.prog 136 #[.agg #[.slice (some ⟨b,0,none⟩) ws.length cap,.int .i64 n],.int .i64 j,.int .u64 v] w (ACells w b (ws.set j v) (n + 1)):=by
 have HC:=Lib.hid hc
 clear hc
 have e1:decide ((j:Int) < 0) = false:=decide_eq_false (by omega)
 have e2:decide (ws.length ≤ j) = false:=decide_eq_false (by omega)
 go_enter Tryz.func136,Tryz.ntmps136
 go_wp2_with (at_builtin;refine wpList_append_copy rfl _ _ 33 rfl 46 (.int .u64 0) 8 Tryz.underlying33 info_u64 _ rfl ⟨b,0,none⟩ ws.length _ (vals ws) rfl (by omega) (by simp [vals]) (HC.out.grown (by go_grown)).news (by omega) (by omega) ?_;intro cap' Z hcap;have hz:=vals_at hj Z)
 refine bodyPost_ret (v:=.agg #[.slice (some ⟨w.heap.size + 1 + 1 + 1,0,none⟩) ws.length cap',.int .i64 (n + 1)]) (by simp [results,Tryz.results136,go_sem]) rfl ?_
 rw [vals_set hj]
 exact ⟨_,cap',by simp,by go_grown,Holds.made _ _ _ _,.inr (by simp;omega)⟩
theorem rPeek_any (w:World) (b cap:Nat) (ws:List Int) (n i:Int) (hc:Holds w b ws) (hf:ws.length ≤ 1048576) (hn:0 ≤ n) (hn':n < 4611686018427387904) :
  Calls Tryz.prog 135 #[.agg #[.slice (some ⟨b,0,none⟩) ws.length cap,.int .i64 n],.int .i64 i] w fun e w' => e = .returned (.int .u64 (rd ws i)) ∧ Grown w w':=by
 have HC:=Lib.hid hc
 clear hc
 rcases three_ways ws i with h | ⟨j,rfl,h⟩ | ⟨j,rfl,hj⟩
 ·rw [rd_out (.inl h)]
  have e1:decide (i < 0) = true:=decide_eq_true h
  clear h
  go_enter Tryz.func135,Tryz.ntmps135
  go_wp2
  go_ret
  exact ⟨rfl,by go_grown⟩
 ·rw [rd_out (.inr (by omega))]
  have e1:decide ((j:Int) < 0) = false:=decide_eq_false (by omega)
  have e2:decide (ws.length ≤ j) = true:=decide_eq_true h
  clear h
  go_enter Tryz.func135,Tryz.ntmps135
  go_wp2
  go_ret
  exact ⟨rfl,by go_grown⟩
 ·rw [rd_in hj]
  have e1:decide ((j:Int) < 0) = false:=decide_eq_false (by omega)
  have e2:decide (ws.length ≤ j) = false:=decide_eq_false (by omega)
  have hb:b < w.heap.size:=World.block_lt_of_cell? w _ (HC.out j hj)
  have hx:=HC.out j hj
  go_enter Tryz.func135,Tryz.ntmps135
  go_wp2
  go_ret
  exact ⟨rfl,by go_grown⟩
theorem rStore_any (w:World) (b cap:Nat) (ws:List Int) (n i v:Int) (hc:Holds w b ws) (hf:ws.length ≤ 1048576) (hn:0 ≤ n) (hn':n < 4611686018427387904) :
  Calls Tryz.prog 136 #[.agg #[.slice (some ⟨b,0,none⟩) ws.length cap,.int .i64 n],.int .i64 i,.int .u64 v] w (ACells w b (wr ws i v) (n + cnt ws i)):=by
 have HC:=Lib.hid hc
 clear hc
 rcases three_ways ws i with h | ⟨j,rfl,h⟩ | ⟨j,rfl,hj⟩
 ·rw [wr_out (.inl h),cnt_out (.inl h),Int.add_zero]
  have e1:decide (i < 0) = true:=decide_eq_true h
  clear h
  go_enter Tryz.func136,Tryz.ntmps136
  go_wp2
  exact bodyPost_ret (v:=.agg #[.slice (some ⟨b,0,none⟩) ws.length cap,.int .i64 n]) (by simp [results,Tryz.results136,go_sem]) rfl ⟨b,cap,rfl,by go_grown,HC.out.grown (by go_grown),.inl rfl⟩
 ·rw [wr_out (.inr (by omega)),cnt_out (.inr (by omega)),Int.add_zero]
  have e1:decide ((j:Int) < 0) = false:=decide_eq_false (by omega)
  have e2:decide (ws.length ≤ j) = true:=decide_eq_true h
  clear h
  go_enter Tryz.func136,Tryz.ntmps136
  go_wp2
  exact bodyPost_ret (v:=.agg #[.slice (some ⟨b,0,none⟩) ws.length cap,.int .i64 n]) (by simp [results,Tryz.results136,go_sem]) rfl ⟨b,cap,rfl,by go_grown,HC.out.grown (by go_grown),.inl rfl⟩
 ·rw [wr_in,cnt_in hj]
  have e1:decide ((j:Int) < 0) = false:=decide_eq_false (by omega)
  have e2:decide (ws.length ≤ j) = false:=decide_eq_false (by omega)
  exact rStore_in w b cap ws n j v hj HC.out hf hn hn'
theorem two_cells {w:World} {k:Nat} {u v x y:Value} (h0:w.cell? ⟨k,0,none⟩ = some u) (h1:w.cell? ⟨k,1,none⟩ = some v) :
  ((w.setCell ⟨k,0,none⟩ x).setCell ⟨k,1,none⟩ y).cell? ⟨k,0,none⟩ = some x ∧ ((w.setCell ⟨k,0,none⟩ x).setCell ⟨k,1,none⟩ y).cell? ⟨k,1,none⟩ = some y :=
 ⟨(World.cell?_setCell_other _ _ _ _ (by simp)).trans (World.cell?_setCell_same _ _ _ h0),World.cell?_setCell_same _ _ _ ((World.cell?_setCell_other _ _ _ _ (by simp)).trans h1)⟩
def ASwap (w:World) (b0:Nat) (ws:List Int) (n:Int) (d:Bool) (e:Ending) (w':World):Prop :=
 ∃ b cap,e = .returned (.tuple #[.agg #[.slice (some ⟨b,0,none⟩) ws.length cap,.int .i64 n],.bool d]) ∧ Grown w w' ∧ Holds w' b ws ∧ (b = b0 ∨ w.heap.size ≤ b)
theorem rSwap_any (w:World) (b cap:Nat) (ws:List Int) (n i old v:Int) (hc:Holds w b ws) (hf:ws.length ≤ 1048576) (hn:0 ≤ n) (hn':n < 4611686018427387904) :
  Calls Tryz.prog 202 #[.agg #[.slice (some ⟨b,0,none⟩) ws.length cap,.int .i64 n],.int .i64 i,.int .u64 old,.int .u64 v] w (ASwap w b (sw ws i old v) (n + cnt ws i) (may ws i old)):=by
 unfold sw
 have HC:=Lib.hid hc
 clear hc
 rcases three_ways ws i with h | ⟨j,rfl,h⟩ | ⟨j,rfl,hj⟩
 ·rw [show may ws i old = false from decide_eq_false (by omega),cnt_out (.inl h),Int.add_zero,if_neg (by simp)]
  have e1:decide (i < 0) = true:=decide_eq_true h
  clear h
  go_enter Tryz.func202,Tryz.ntmps202
  go_wp2
  exact bodyPost_ret (v:=.tuple #[.agg #[.slice (some ⟨b,0,none⟩) ws.length cap,.int .i64 n],.bool false]) (by simp [results,Tryz.results202,go_sem]) rfl ⟨b,cap,rfl,by go_grown,HC.out.grown (by go_grown),.inl rfl⟩
 ·rw [show may ws j old = false from decide_eq_false (by omega),cnt_out (.inr (by omega)),Int.add_zero,if_neg (by simp)]
  have e1:decide ((j:Int) < 0) = false:=decide_eq_false (by omega)
  have e2:decide (ws.length ≤ j) = true:=decide_eq_true h
  clear h
  go_enter Tryz.func202,Tryz.ntmps202
  go_wp2
  exact bodyPost_ret (v:=.tuple #[.agg #[.slice (some ⟨b,0,none⟩) ws.length cap,.int .i64 n],.bool false]) (by simp [results,Tryz.results202,go_sem]) rfl ⟨b,cap,rfl,by go_grown,HC.out.grown (by go_grown),.inl rfl⟩
 ·rw [cnt_in hj]
  have e1:decide ((j:Int) < 0) = false:=decide_eq_false (by omega)
  have e2:decide (ws.length ≤ j) = false:=decide_eq_false (by omega)
  have hb:b < w.heap.size:=World.block_lt_of_cell? w _ (HC.out j hj)
  have hx:=HC.out j hj
  by_cases ho:ws[j] = old
  ·rw [show may ws j old = true from decide_eq_true ⟨by omega,by omega,(rd_in hj).trans ho⟩,if_pos rfl,wr_in]
   have e3:(ws[j] != old) = false:=by simp [ho]
   clear ho
   go_enter Tryz.func202,Tryz.ntmps202
   go_wp2_with fail
   refine (rStore_in _ b cap ws n j v hj (HC.out.grown (by go_grown)) hf hn hn').mono ?_;rintro e w1 ⟨b',cap',rfl,g1,h1,hb'⟩
   have c0:w1.cell? ⟨w.heap.size + 1,0,none⟩ = some (.slice none 0 0):=gcell g1 (by simp)
   have c1:w1.cell? ⟨w.heap.size + 1,1,none⟩ = some (.int .i64 0):=gcell g1 (by simp)
   have f0:w1.frozen? ⟨w.heap.size + 1,0,none⟩ = false:=(g1.2.1 _).trans (by simp)
   have f1:w1.frozen? ⟨w.heap.size + 1,1,none⟩ = false:=(g1.2.1 _).trans (by simp)
   have hne:w.heap.size + 1 ≠ b':=by
    rintro rfl
    have h0:=h1 0 (by simp;omega)
    rw [c0] at h0
    cases h0
   go_wp2
   obtain ⟨d0,d1⟩:=two_cells (x:=.slice (some ⟨b',0,none⟩) ws.length cap') (y:=.int .i64 (n + 1)) c0 c1
   refine bodyPost_ret (v:=.tuple #[.agg #[.slice (some ⟨b',0,none⟩) ws.length cap',.int .i64 (n + 1)],.bool true]) (by simp [results,Tryz.results202,go_sem,d0,d1]) rfl ⟨b',cap',by simp,?_,(h1.put hne _).put hne _,hb'.imp id (fun h => by simp at h;omega)⟩
   exact ((gtr (by go_grown) g1).setCell (by simp) _).setCell (by simp) _
  ·rw [show may ws j old = false from decide_eq_false (fun hx => ho ((rd_in hj).symm.trans hx.2.2)),if_neg (by simp)]
   have e3:(ws[j] != old) = true:=by simp [ho]
   clear ho
   go_enter Tryz.func202,Tryz.ntmps202
   go_wp2
   exact bodyPost_ret (v:=.tuple #[.agg #[.slice (some ⟨b,0,none⟩) ws.length cap,.int .i64 (n + 1)],.bool false]) (by simp [results,Tryz.results202,go_sem]) rfl ⟨b,cap,rfl,by go_grown,HC.out.grown (by go_grown),.inl rfl⟩
theorem length_sw (ws:List Int) (i old v:Int):(sw ws i old v).length = ws.length:=by
 unfold sw;split
 ·exact length_wr _ _ _
 ·rfl
end Go.Proofs.YtcogckjpmmjmbaaGreat
namespace Go.Proofs.YtcogckjpmmjmbaaGreat
open Go.ChangeShapes Go.WideShapes Go.ChangeAt Go.RowKit
set_option maxRecDepth 100000
set_option linter.unusedVariables false
def ANew (k:Nat) (w:World) (e:Ending) (w':World):Prop :=
 ∃ b,e = .returned (.agg #[.slice (some ⟨b,0,none⟩) k k,.int .i64 0]) ∧ Grown w w' ∧ Holds w' b (List.replicate k 0) ∧ w.heap.size ≤ b
theorem make_u64 (k:Nat) (hk:k ≤ 1048576) (w:World):(Instr.makeSlice 33 (.int .i64 (k:Int)) (.int .i64 (k:Int))).run Tryz.prog w = .ok (.slice (some ⟨w.heap.size,0,none⟩) k k) (w.alloc (.cells (Array.replicate k (.int .u64 0)) 46)):=by
 obtain ⟨i,hi,hz,hs,hb⟩:=info_parts info_u64
 have h:=run_make (P:=Tryz.prog) w 33 46 i _ (by kernel_rfl) hi hz .i64 .i64 k k (by omega) (by omega) (by rw [hb];omega) (by omega)
 simpa [hs,Value.cells,madeCells_one] using h
theorem cNewR_at (w:World) (k:Nat) (hk:k ≤ 1048576):Calls Tryz.prog 126 #[.int .i64 k] w (ANew k w):=by
 have hm:=make_u64 k hk
 have e1:decide ((k:Int) < 0) = false:=decide_eq_false (by omega)
 have e2:decide (1048576 < (k:Int)) = false:=decide_eq_false (by omega)
 go_enter Tryz.func126,Tryz.ntmps126
 go_wp2
 refine bodyPost_ret (v:=.agg #[.slice (some ⟨w.heap.size + 1,0,none⟩) k k,.int .i64 0]) (by simp [results,Tryz.results126,go_sem]) rfl ⟨_,rfl,by go_grown,fun j hj => ?_,by omega⟩
 have hj':j < k:=by simpa using hj
 simp [go_sem,hj']
structure ActAt where
 k:Int
 i:Int
 old:Int
 v:Int
def Acts (w:World) (bb off m:Nat) (act:Nat → ActAt):Prop :=
 ∀ j,j < m → w.cell? ⟨bb,off + j * 4,none⟩ = some (.int .u8 (act j).k) ∧ w.cell? ⟨bb,off + j * 4 + 1,none⟩ = some (.int .i64 (act j).i) ∧ w.cell? ⟨bb,off + j * 4 + 2,none⟩ = some (.int .u64 (act j).old) ∧
  w.cell? ⟨bb,off + j * 4 + 3,none⟩ = some (.int .u64 (act j).v) ∧ 0 ≤ (act j).k ∧ (act j).k ≤ 255
theorem Acts.grown {w w':World} {bb off m:Nat} {act:Nat → ActAt} (h:Acts w bb off m act) (g:Grown w w'):Acts w' bb off m act:=fun j hj => by
 obtain ⟨h0,h1,h2,h3,h4⟩:=h j hj
 exact ⟨gcell g h0,gcell g h1,gcell g h2,gcell g h3,h4⟩
end Go.Proofs.YtcogckjpmmjmbaaGreat
