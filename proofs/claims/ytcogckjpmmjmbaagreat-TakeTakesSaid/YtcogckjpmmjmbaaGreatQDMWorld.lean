/- Package world, function by function: a layout, cells and a book behind one pointer; each step is of a thing's cell. -/
import Derived.Test.YtcogckjpmmjmbaaGreatQDMCells
import Derived.Test.YtcogckjpmmjmbaaGreatQDMLay
import Derived.Test.YtcogckjpmmjmbaaGreatQDMBook
import Derived.Test.YtcogckjpmmjmbaaGreatQDMBase
import Derived.Test.YtcogckjpmmjmbaaGreatQDGMRoute
namespace Go.Proofs.YtcogckjpmmjmbaaGreat
open Go.ChangeShapes Go.WideShapes Go.ChangeAt Go.RowKit
set_option maxRecDepth 100000
set_option linter.unusedVariables false
structure Wd where
 x:Nat
 p:Nat
 b:Nat
 a:Ad
def Cf.len (c:Cf):Nat:=c.nodes + c.ops + c.t
structure WdAt (w:World) (c:Cf) (d:Wd) (ws:List Int) (n:Int) (s:St):Prop where
 k0:w.cell? ⟨d.x,0,none⟩ = some (.int .i64 c.t)
 k1:w.cell? ⟨d.x,1,none⟩ = some (.int .i64 c.b)
 k2:w.cell? ⟨d.x,2,none⟩ = some (.int .i64 c.i)
 k3:w.cell? ⟨d.x,3,none⟩ = some (.int .i64 c.f)
 k4:w.cell? ⟨d.x,4,none⟩ = some (.int .i64 c.k)
 k5:w.cell? ⟨d.x,5,none⟩ = some (.pointer (some ⟨d.p,0,none⟩))
 k6:w.cell? ⟨d.x,6,none⟩ = some (.pointer (some ⟨d.a.p,0,none⟩))
 bank:Bank w d.p d.b ws n
 book:BookAt w c d.a s
 len:ws.length = c.len
 mine:¬ Mine d.p d.b d.x
 o1:d.a.hi ≤ d.p
 o2:d.a.hi ≤ d.b
 o3:d.a.hi ≤ d.x
theorem WdAt.grown {w w':World} {c:Cf} {d:Wd} {ws:List Int} {n:Int} {s:St} (h:WdAt w c d ws n s) (g:Grown w w'):WdAt w' c d ws n s :=
 ⟨gcell g h.k0,gcell g h.k1,gcell g h.k2,gcell g h.k3,gcell g h.k4,gcell g h.k5,gcell g h.k6,h.bank.grown g,h.book.grown g,h.len,h.mine,h.o1,h.o2,h.o3⟩
theorem SlotC.odd {S:Nat → Prop} {w w':World} {hi b:Nat} (q:But S w w') (hS:∀ i,S i → ∃ v,w.cell? ⟨i,0,none⟩ = some v ∧ (∀ n,v ≠ .int .i64 n) ∧ ∀ a,v ≠ .pointer a) :
  ∀ {o:Option Cal},SlotC w hi b o → SlotC w' hi b o:=by
 have K:∀ {i v},w.cell? ⟨i,0,none⟩ = some v → ((∃ n,v = .int .i64 n) ∨ ∃ a,v = .pointer a) → ¬ S i:=by
  rintro i v hv hx hi
  obtain ⟨u,hu,h1,h2⟩:=hS i hi
  rw [hv] at hu
  cases hu
  rcases hx with ⟨n,rfl⟩ | ⟨a,rfl⟩
  ·exact h1 _ rfl
  ·exact h2 _ rfl
 intro o
 cases o with
 | none => intro h;exact q.cell (K h (.inr ⟨_,rfl⟩)) h
 | some x =>
  rintro ⟨p,h0,h1,h2,h3,h4,h5,h6⟩
  have k1:=K h1 (.inr ⟨_,rfl⟩)
  have k2:=K h2 (.inl ⟨_,rfl⟩)
  exact ⟨p,h0,q.cell k1 h1,q.cell k2 h2,q.cell k2 h3,q.cell k2 h4,q.cell k2 h5,(shape_block (q.1.block (World.block_lt_of_cell? w _ h2) (fun m hm hp => by subst hp;exact k2 hm))).trans h6⟩
theorem SlotN.odd {S:Nat → Prop} {w w':World} {hi b:Nat} (q:But S w w') (hS:∀ i,S i → ∃ v,w.cell? ⟨i,0,none⟩ = some v ∧ (∀ n,v ≠ .int .i64 n) ∧ ∀ a,v ≠ .pointer a) :
  ∀ {o:Option Nat},SlotN w hi b o → SlotN w' hi b o:=by
 have K:∀ {i v},w.cell? ⟨i,0,none⟩ = some v → ((∃ n,v = .int .i64 n) ∨ ∃ a,v = .pointer a) → ¬ S i:=by
  rintro i v hv hx hi
  obtain ⟨u,hu,h1,h2⟩:=hS i hi
  rw [hv] at hu
  cases hu
  rcases hx with ⟨n,rfl⟩ | ⟨a,rfl⟩
  ·exact h1 _ rfl
  ·exact h2 _ rfl
 intro o
 cases o with
 | none => intro h;exact q.cell (K h (.inr ⟨_,rfl⟩)) h
 | some x =>
  rintro ⟨p,h0,h1,h2,h3⟩
  have k1:=K h1 (.inr ⟨_,rfl⟩)
  have k2:=K h2 (.inl ⟨_,rfl⟩)
  exact ⟨p,h0,q.cell k1 h1,q.cell k2 h2,(shape_block (q.1.block (World.block_lt_of_cell? w _ h2) (fun m hm hp => by subst hp;exact k2 hm))).trans h3⟩
theorem BookAt.odd {S:Nat → Prop} {w w':World} {c:Cf} {a:Ad} {s:St} (h:BookAt w c a s) (q:But S w w')
  (hS:∀ i,S i → ∃ v,w.cell? ⟨i,0,none⟩ = some v ∧ (∀ n,v ≠ .int .i64 n) ∧ ∀ a,v ≠ .pointer a):BookAt w' c a s:=by
 have K:∀ {i v},w.cell? ⟨i,0,none⟩ = some v → ((∃ n,v = .int .i64 n) ∨ ∃ a,v = .pointer a) → ¬ S i:=by
  rintro i v hv hx hi
  obtain ⟨u,hu,h1,h2⟩:=hS i hi
  rw [hv] at hu
  cases hu
  rcases hx with ⟨n,rfl⟩ | ⟨a,rfl⟩
  ·exact h1 _ rfl
  ·exact h2 _ rfl
 have kp:=K h.c0 (.inl ⟨_,rfl⟩)
 have kw:∀ j,j < c.t → ¬ S (a.bw + j):=fun j hj => K (h.w0 j hj) (.inl ⟨_,rfl⟩)
 have km:∀ {mb base n:Nat},MapAt w mb base n → ¬ S mb:=fun hm hi => by
  obtain ⟨v,hv,-⟩:=hS _ hi
  exact hm.ne hv rfl
 exact ⟨h.ok,q.cell kp h.c0,q.cell kp h.c1,q.cell kp h.c2,q.cell kp h.c3,q.cell kp h.c4,q.cell kp h.c5,q.cell kp h.c6,q.cell kp h.c7,h.mw.but q (km h.mw),h.mc.but q (km h.mc),h.mn.but q (km h.mn),
  fun j hj => q.cell (kw j hj) (h.w0 j hj),fun j hj => q.cell (kw j hj) (h.w1 j hj),fun j hj => q.cell (kw j hj) (h.w2 j hj),fun j hj => q.cell (kw j hj) (h.w3 j hj),fun j i hj => q.frozen (h.wf j i hj),
  fun n hn => (h.sc n hn).odd q hS,fun n hn => q.frozen (h.sf n hn),fun n hn => (h.sn n hn).odd q hS,fun n hn => q.frozen (h.nf n hn),h.o1,h.o2,h.o3,h.o4,h.o5,Nat.le_trans h.o6 q.2.2⟩
theorem Bank.odd {w:World} {p b:Nat} {ws:List Int} {n:Int} (h:Bank w p b ws n) (hl:0 < ws.length):∀ i,Mine p b i → ∃ v,w.cell? ⟨i,0,none⟩ = some v ∧ (∀ n,v ≠ .int .i64 n) ∧ ∀ a,v ≠ .pointer a:=by
 rintro i (rfl | rfl)
 ·exact ⟨_,h.words,by simp,by simp⟩
 ·exact ⟨_,h.cells 0 hl,by simp,by simp⟩
theorem WdAt.pos {w:World} {c:Cf} {d:Wd} {ws:List Int} {n:Int} {s:St} (h:WdAt w c d ws n s):0 < ws.length:=by
 have:=h.len
 have:=h.book.ok.t1
 unfold Cf.len at *
 omega
theorem WdAt.step {w w':World} {c:Cf} {d:Wd} {ws ws':List Int} {n n':Int} {s:St} (h:WdAt w c d ws n s) (q:But (Mine d.p d.b) w w') (hb:Bank w' d.p d.b ws' n') (hl:ws'.length = ws.length):WdAt w' c d ws' n' s :=
 ⟨q.cell h.mine h.k0,q.cell h.mine h.k1,q.cell h.mine h.k2,q.cell h.mine h.k3,q.cell h.mine h.k4,q.cell h.mine h.k5,q.cell h.mine h.k6,hb,h.book.odd q (h.bank.odd h.pos),hl.trans h.len,h.mine,h.o1,h.o2,h.o3⟩
def LeftW (c:Cf) (d:Wd) (ws:List Int) (n:Int) (s:St) (w w':World):Prop:=But (Mine d.p d.b) w w' ∧ WdAt w' c d ws n s
theorem there_at (w:World) (x:Nat) (kf:Nat) (cap:Array Value) (R:World → Prop)
  (hcf:∀ (xs:Array Value) (w:World),(callFunc kf xs).run Tryz.prog w = .ok (.enter kf xs) w)
  (hk:Calls Tryz.prog kf cap w fun e w' => e = .returned (.tuple #[]) ∧ R w') :
  Calls Tryz.prog 189 #[.pointer (some ⟨x,0,none⟩),.func (.func kf) #[] cap] w fun e w' => e = .returned (.tuple #[]) ∧ R w':=by
 have HK:=Lib.hid hk
 clear hk
 go_enter Tryz.func189,Tryz.ntmps189
 go_wp2_with fail
 refine HK.out.mono ?_;rintro e w2 ⟨rfl,hr⟩
 go_wp2
 go_end0
 exact ⟨rfl,hr⟩
def LeftR (c:Cf) (d:Wd) (ws:List Int) (n:Int) (s:St) (r:Nat) (v:Value) (w w':World):Prop:=But (fun i => Mine d.p d.b i ∨ i = r) w w' ∧ WdAt w' c d ws n s ∧ w'.cell? ⟨r,0,none⟩ = some v
theorem WdAt.put {w:World} {c:Cf} {d:Wd} {ws:List Int} {n:Int} {s:St} (h:WdAt w c d ws n s) {r:Nat} {u v:Value} (hr:w.cell? ⟨r,0,none⟩ = some u) (hm:¬ Mine d.p d.b r) (hx:r ≠ d.x) (h1:∀ n,u ≠ .int .i64 n) (h2:∀ a,u ≠ .pointer a):WdAt (w.setCell ⟨r,0,none⟩ v) c d ws n s:=by
 have q:But (fun i => i = r) w (w.setCell ⟨r,0,none⟩ v):=But.setCell (S:=fun i => i = r) (But.refl _ w) (.inl rfl) _
 have k:¬ d.x = r:=fun e => hx e.symm
 exact ⟨q.cell k h.k0,q.cell k h.k1,q.cell k h.k2,q.cell k h.k3,q.cell k h.k4,q.cell k h.k5,q.cell k h.k6,h.bank.put hm v,h.book.odd q (fun i hi => by subst hi;exact ⟨u,hr,h1,h2⟩),h.len,h.mine,h.o1,h.o2,h.o3⟩
theorem WdAt.xlt {w:World} {c:Cf} {d:Wd} {ws:List Int} {n:Int} {s:St} (h:WdAt w c d ws n s):d.x < w.heap.size:=World.block_lt_of_cell? w _ h.k0
theorem WdAt.new {w:World} {c:Cf} {d:Wd} {ws:List Int} {n:Int} {s:St} (h:WdAt w c d ws n s) {i:Nat} (hi:w.heap.size ≤ i):¬ Mine d.p d.b i:=h.bank.mine hi
theorem WdAt.new2 {w:World} {c:Cf} {d:Wd} {ws:List Int} {n:Int} {s:St} (h:WdAt w c d ws n s) {i j:Nat} (hi:w.heap.size ≤ i) (hj:i ≠ j):¬ (Mine d.p d.b i ∨ i = j):=by
 rintro (k | k)
 ·exact h.new hi k
 ·exact hj k
theorem But.only {S:Nat → Prop} {w w':World} {r:Nat} (h:But (fun i => S i ∨ i = r) w w') (hr:w.heap.size ≤ r):But S w w':=by
 refine ⟨⟨h.1.1,h.1.2.1,fun i hi => ?_⟩,h.2.1,h.2.2⟩
 have e:=h.1.2.2 i hi
 have hne:i ≠ r:=by omega
 simpa [MemPlace.block,hne] using e
theorem WdAt.left {w w1 w2:World} {c:Cf} {d:Wd} {ws ws':List Int} {n n':Int} {s s':St} {r:Nat} {u v:Value} (h:WdAt w c d ws n s) (q:But (fun i => Mine d.p d.b i ∨ i = r) w1 w2) (h2:WdAt w2 c d ws' n' s') (c3:w2.cell? ⟨r,0,none⟩ = some u)
  (hr:w.heap.size ≤ r) (h1:∀ n,u ≠ .int .i64 n) (h3:∀ a,u ≠ .pointer a) (g:Grown w w1):LeftW c d ws' n' s' w (w2.setCell ⟨r,0,none⟩ v):=by
 refine ⟨?_,h2.put c3 (h.new hr) (by have:=h.xlt;omega) h1 h3⟩
 have q2:But (fun i => Mine d.p d.b i ∨ i = r) w (w2.setCell ⟨r,0,none⟩ v):=((But.of_grown g).trans q).setCell (.inl (.inr rfl)) _
 exact q2.only hr
theorem load1_at (w:World) (c:Cf) (d:Wd) (ws:List Int) (n:Int) (s:St) (h:WdAt w c d ws n s) (hn:0 ≤ n) (hn':n < 4611686018427387904) (kf:Nat) (i at_:Int) (r0 r1 r2 r3:Nat)
  (hcf:∀ (xs:Array Value) (w:World),(callFunc kf xs).run Tryz.prog w = .ok (.enter kf xs) w)
  (hof:∀ w1,Calls Tryz.prog kf #[c.v,.int .i64 i] w1 fun e w' => e = .returned (.int .i64 at_) ∧ Grown w1 w')
  (c0:w.cell? ⟨r0,0,none⟩ = some (.pointer (some ⟨d.x,0,none⟩))) (c1:w.cell? ⟨r1,0,none⟩ = some (.func (.func kf) #[] #[])) (c2:w.cell? ⟨r2,0,none⟩ = some (.int .i64 i)) (c3:w.cell? ⟨r3,0,none⟩ = some (.int .u64 0))
  (f3:w.frozen? ⟨r3,0,none⟩ = false) (m3:¬ Mine d.p d.b r3) (x3:r3 ≠ d.x) (m0:¬ (Mine d.p d.b r0 ∨ r0 = r3)) (m1:¬ (Mine d.p d.b r1 ∨ r1 = r3)) (m2:¬ (Mine d.p d.b r2 ∨ r2 = r3)) :
  Calls Tryz.prog 263 #[.pointer (some ⟨r0,0,none⟩),.pointer (some ⟨r1,0,none⟩),.pointer (some ⟨r2,0,none⟩),.pointer (some ⟨r3,0,none⟩)] w
   fun e w' => e = .returned (.tuple #[]) ∧ LeftR c d ws (n + cnt ws at_) s r3 (.int .u64 (rd ws at_)) w w':=by
 have hmf:=mkFunc
 have k0:=h.k0
 have k1:=h.k1
 have k2:=h.k2
 have k3:=h.k3
 have k4:=h.k4
 have k5:=h.k5
 have HD:=Lib.hid h
 have HOF:=Lib.hid hof
 clear h hof
 go_enter Tryz.func263,Tryz.ntmps263
 go_wp2_with fail
 refine wp_region_planb (fun i => Mine d.p d.b i ∨ i = r3) (.one [0,1,2,3,4,5,6] 7 (.one [] 8 (.one [] 9 (.fin [])))) (by kernel_rfl) (by kernel_rfl) (by kernel_rfl) ?_
 intro w2 g2
 have mx:¬ (Mine d.p d.b d.x ∨ d.x = r3):=by rintro (h | h);exact HD.out.mine h;exact x3 h.symm
 have d0:∀ g:ButW (fun i => Mine d.p d.b i ∨ i = r3) w2,g.w.cell? ⟨r0,0,none⟩ = some (.pointer (some ⟨d.x,0,none⟩)):=ButW.cell m0 (gcell g2 c0)
 have d1:∀ g:ButW (fun i => Mine d.p d.b i ∨ i = r3) w2,g.w.cell? ⟨r1,0,none⟩ = some (.func (.func kf) #[] #[]):=ButW.cell m1 (gcell g2 c1)
 have d2:∀ g:ButW (fun i => Mine d.p d.b i ∨ i = r3) w2,g.w.cell? ⟨r2,0,none⟩ = some (.int .i64 i):=ButW.cell m2 (gcell g2 c2)
 have e0:∀ g:ButW (fun i => Mine d.p d.b i ∨ i = r3) w2,g.w.cell? ⟨d.x,0,none⟩ = some (.int .i64 c.t):=ButW.cell mx (gcell g2 k0)
 have e1:∀ g:ButW (fun i => Mine d.p d.b i ∨ i = r3) w2,g.w.cell? ⟨d.x,1,none⟩ = some (.int .i64 c.b):=ButW.cell mx (gcell g2 k1)
 have e2:∀ g:ButW (fun i => Mine d.p d.b i ∨ i = r3) w2,g.w.cell? ⟨d.x,2,none⟩ = some (.int .i64 c.i):=ButW.cell mx (gcell g2 k2)
 have e3:∀ g:ButW (fun i => Mine d.p d.b i ∨ i = r3) w2,g.w.cell? ⟨d.x,3,none⟩ = some (.int .i64 c.f):=ButW.cell mx (gcell g2 k3)
 have e4:∀ g:ButW (fun i => Mine d.p d.b i ∨ i = r3) w2,g.w.cell? ⟨d.x,4,none⟩ = some (.int .i64 c.k):=ButW.cell mx (gcell g2 k4)
 refine plan_one ?_
 simp only [nths,nth,List.map_cons,List.map_nil,List.getD_cons_zero,List.getD_cons_succ]
 repeat go_big_quiet_step (fail)
 clear d0 d1 d2 e0 e1 e2 e3 e4
 refine wpQuiet_nil ?_
 go_wp2_with fail
 refine (HOF.out _).mono ?_;rintro e u3 ⟨rfl,g3⟩
 go_wp2_with fail
 refine nxt_but (But.of_grown g3) (plan_one ?_)
 simp only [nths,nth,List.map_nil,List.getD_cons_zero,List.getD_cons_succ]
 refine wpQuiet_nil ?_
 go_wp2_with fail
 have G3:=gtr g2 g3
 have HD3:=Lib.hid (HD.out.grown G3)
 replace c3:=gcell G3 c3
 replace f3:u3.frozen? ⟨r3,0,none⟩ = false:=(G3.2.1 _).trans f3
 refine (Load_any _ _ _ _ _ _ HD3.out.bank hn hn').mono ?_;rintro e u4 ⟨rfl,q4,b4⟩
 have HD4:=HD3.out.step q4 b4 rfl
 replace c3:=q4.cell m3 c3
 replace f3:=q4.frozen f3
 have q5:But (Mine d.p d.b) w u4:=(But.of_grown G3).trans q4
 have W4:=Lib.hid HD4
 clear HD4 b4 HD3 HD HOF
 go_wp2_with fail
 have qB:But (fun i => Mine d.p d.b i ∨ i = r3) w2 u4:=((But.of_grown g3).trans q4).mono (fun _ h => .inl h)
 refine nxt_but qB (plan_one ?_)
 simp only [nths,nth,List.map_nil,List.getD_cons_zero,List.getD_cons_succ]
 refine wpQuiet_nil ?_
 go_wp2_with fail
 refine nxt_but (qB.setCell (.inl (.inr rfl)) _) (plan_fin ?_)
 simp only [nths,List.map_nil]
 refine wpQuiet_nil ?_
 go_wp2_with fail
 go_end0
 exact ⟨rfl,(q5.mono (fun _ h => .inl h)).setCell (.inl (.inr rfl)) _,W4.out.put c3 m3 x3 (by simp) (by simp),World.cell?_setCell_same _ _ _ c3⟩
theorem load_any (w:World) (c:Cf) (d:Wd) (ws:List Int) (n:Int) (s:St) (h:WdAt w c d ws n s) (hn:0 ≤ n) (hn':n < 4611686018427387904) (kf:Nat) (i at_:Int)
  (hcf:∀ (xs:Array Value) (w:World),(callFunc kf xs).run Tryz.prog w = .ok (.enter kf xs) w)
  (hof:∀ w1,Calls Tryz.prog kf #[c.v,.int .i64 i] w1 fun e w' => e = .returned (.int .i64 at_) ∧ Grown w1 w') :
  Calls Tryz.prog 230 #[.pointer (some ⟨d.x,0,none⟩),.func (.func kf) #[] #[],.int .i64 i] w fun e w' => e = .returned (.int .u64 (rd ws at_)) ∧ LeftW c d ws (n + cnt ws at_) s w w':=by
 have hmf:=mkFunc
 have HD:=Lib.hid h
 have HOF:=Lib.hid hof
 clear h hof
 go_enter Tryz.func230,Tryz.ntmps230
 go_wp2_with fail
 refine (there_at _ d.x _ _ (LeftR c d ws (n + cnt ws at_) s (w.heap.size + 1 + 1 + 1) (.int .u64 (rd ws at_)) _) (fun _ _ => rfl) (load1_at _ c d ws n s (HD.out.grown (by go_grown)) hn hn' kf i at_ _ _ _ _ hcf HOF.out (by simp [go_sem]) (by simp [go_sem]) (by simp [go_sem]) (by simp [go_sem]) (by simp [go_sem]) (HD.out.new (by omega)) (by have:=HD.out.xlt;omega) (HD.out.new2 (by omega) (by omega)) (HD.out.new2 (by omega) (by omega)) (HD.out.new2 (by omega) (by omega)))).mono ?_
 rintro e w2 ⟨rfl,q,h2,c3⟩
 have f0:w2.frozen? ⟨w.heap.size + 1 + 1 + 1,0,none⟩ = false:=q.frozen (by simp [go_sem])
 go_wp2
 have c9:(w2.setCell ⟨w.heap.size + 1 + 1 + 1,0,none⟩ (.int .u64 (rd ws at_))).cell? ⟨w.heap.size + 1 + 1 + 1,0,none⟩ = some (.int .u64 (rd ws at_)):=World.cell?_setCell_same _ _ _ c3
 exact bodyPost_ret (v:=.int .u64 (rd ws at_)) (by simp [results,Tryz.results230,go_sem,c9]) rfl ⟨rfl,HD.out.left q h2 c3 (by omega) (by simp) (by simp) (by go_grown)⟩
end Go.Proofs.YtcogckjpmmjmbaaGreat
namespace Go.Proofs.YtcogckjpmmjmbaaGreat
open Go.ChangeShapes Go.WideShapes Go.ChangeAt Go.RowKit
set_option maxRecDepth 100000
set_option linter.unusedVariables false
theorem length_sw_ (ws:List Int) (i old v:Int):(sw ws i old v).length = ws.length:=by
 unfold sw;split
 ·exact length_wr _ _ _
 ·rfl
theorem store1_at (w:World) (c:Cf) (d:Wd) (ws:List Int) (n:Int) (s:St) (h:WdAt w c d ws n s) (hn:0 ≤ n) (hn':n < 4611686018427387904) (kf:Nat) (i at_ v:Int) (r0 r1 r2 r3:Nat)
  (hcf:∀ (xs:Array Value) (w:World),(callFunc kf xs).run Tryz.prog w = .ok (.enter kf xs) w)
  (hof:∀ w1,Calls Tryz.prog kf #[c.v,.int .i64 i] w1 fun e w' => e = .returned (.int .i64 at_) ∧ Grown w1 w')
  (c0:w.cell? ⟨r0,0,none⟩ = some (.pointer (some ⟨d.x,0,none⟩))) (c1:w.cell? ⟨r1,0,none⟩ = some (.func (.func kf) #[] #[])) (c2:w.cell? ⟨r2,0,none⟩ = some (.int .i64 i)) (c3:w.cell? ⟨r3,0,none⟩ = some (.int .u64 v))
  (m0:¬ Mine d.p d.b r0) (m1:¬ Mine d.p d.b r1) (m2:¬ Mine d.p d.b r2) (m3:¬ Mine d.p d.b r3) :
  Calls Tryz.prog 198 #[.pointer (some ⟨r0,0,none⟩),.pointer (some ⟨r1,0,none⟩),.pointer (some ⟨r2,0,none⟩),.pointer (some ⟨r3,0,none⟩)] w
   fun e w' => e = .returned (.tuple #[]) ∧ LeftW c d (wr ws at_ v) (n + cnt ws at_) s w w':=by
 have hmf:=mkFunc
 have k0:=h.k0
 have k1:=h.k1
 have k2:=h.k2
 have k3:=h.k3
 have k4:=h.k4
 have k5:=h.k5
 have HD:=Lib.hid h
 have HOF:=Lib.hid hof
 clear h hof
 go_enter Tryz.func198,Tryz.ntmps198
 go_wp2_with fail
 refine wp_region_planb (Mine d.p d.b) (.one [0,1,2,3,4,5,6,8] 7 (.one [] 9 (.fin []))) (by kernel_rfl) (by kernel_rfl) (by kernel_rfl) ?_
 intro w2 g2
 have mx:=HD.out.mine
 have d0:∀ g:ButW (Mine d.p d.b) w2,g.w.cell? ⟨r0,0,none⟩ = some (.pointer (some ⟨d.x,0,none⟩)):=ButW.cell m0 (gcell g2 c0)
 have d1:∀ g:ButW (Mine d.p d.b) w2,g.w.cell? ⟨r1,0,none⟩ = some (.func (.func kf) #[] #[]):=ButW.cell m1 (gcell g2 c1)
 have d2:∀ g:ButW (Mine d.p d.b) w2,g.w.cell? ⟨r2,0,none⟩ = some (.int .i64 i):=ButW.cell m2 (gcell g2 c2)
 have d3:∀ g:ButW (Mine d.p d.b) w2,g.w.cell? ⟨r3,0,none⟩ = some (.int .u64 v):=ButW.cell m3 (gcell g2 c3)
 have e0:∀ g:ButW (Mine d.p d.b) w2,g.w.cell? ⟨d.x,0,none⟩ = some (.int .i64 c.t):=ButW.cell mx (gcell g2 k0)
 have e1:∀ g:ButW (Mine d.p d.b) w2,g.w.cell? ⟨d.x,1,none⟩ = some (.int .i64 c.b):=ButW.cell mx (gcell g2 k1)
 have e2:∀ g:ButW (Mine d.p d.b) w2,g.w.cell? ⟨d.x,2,none⟩ = some (.int .i64 c.i):=ButW.cell mx (gcell g2 k2)
 have e3:∀ g:ButW (Mine d.p d.b) w2,g.w.cell? ⟨d.x,3,none⟩ = some (.int .i64 c.f):=ButW.cell mx (gcell g2 k3)
 have e4:∀ g:ButW (Mine d.p d.b) w2,g.w.cell? ⟨d.x,4,none⟩ = some (.int .i64 c.k):=ButW.cell mx (gcell g2 k4)
 refine plan_one ?_
 simp only [nths,nth,List.map_cons,List.map_nil,List.getD_cons_zero,List.getD_cons_succ]
 repeat go_big_quiet_step (fail)
 clear d0 d1 d2 d3 e0 e1 e2 e3 e4
 refine wpQuiet_nil ?_
 go_wp2_with fail
 refine (HOF.out _).mono ?_;rintro e u3 ⟨rfl,g3⟩
 go_wp2_with fail
 refine nxt_but (But.of_grown g3) (plan_one ?_)
 simp only [nths,nth,List.map_nil,List.getD_cons_zero,List.getD_cons_succ]
 refine wpQuiet_nil ?_
 go_wp2_with fail
 have G3:=gtr g2 g3
 have HD3:=Lib.hid (HD.out.grown G3)
 refine (Store_any _ _ _ _ _ _ v HD3.out.bank hn hn').mono ?_;rintro e u4 ⟨rfl,q4,b4⟩
 have W4:=Lib.hid (HD3.out.step q4 b4 (length_wr _ _ _))
 have q5:But (Mine d.p d.b) w u4:=(But.of_grown G3).trans q4
 have qB:But (Mine d.p d.b) w2 u4:=(But.of_grown g3).trans q4
 clear b4 HD3 HD HOF
 go_wp2_with fail
 refine nxt_but qB (plan_fin ?_)
 simp only [nths,List.map_nil]
 refine wpQuiet_nil ?_
 go_wp2_with fail
 go_end0
 exact ⟨rfl,q5,W4.out⟩
theorem store_any (w:World) (c:Cf) (d:Wd) (ws:List Int) (n:Int) (s:St) (h:WdAt w c d ws n s) (hn:0 ≤ n) (hn':n < 4611686018427387904) (kf:Nat) (i at_ v:Int)
  (hcf:∀ (xs:Array Value) (w:World),(callFunc kf xs).run Tryz.prog w = .ok (.enter kf xs) w)
  (hof:∀ w1,Calls Tryz.prog kf #[c.v,.int .i64 i] w1 fun e w' => e = .returned (.int .i64 at_) ∧ Grown w1 w')
  :
  Calls Tryz.prog 123 #[.pointer (some ⟨d.x,0,none⟩),.func (.func kf) #[] #[],.int .i64 i,.int .u64 v] w fun e w' => e = .returned (.tuple #[]) ∧ LeftW c d (wr ws at_ v) (n + cnt ws at_) s w w':=by
 have hmf:=mkFunc
 have HD:=Lib.hid h
 have HOF:=Lib.hid hof
 clear h hof
 go_enter Tryz.func123,Tryz.ntmps123
 go_wp2_with fail
 refine (there_at _ d.x _ _ (LeftW c d (wr ws at_ v) (n + cnt ws at_) s _) (fun _ _ => rfl) (store1_at _ c d ws n s (HD.out.grown (by go_grown)) hn hn' kf i at_ v _ _ _ _ hcf HOF.out (by simp [go_sem]) (by simp [go_sem]) (by simp [go_sem]) (by simp [go_sem]) (HD.out.new (by omega)) (HD.out.new (by omega)) (HD.out.new (by omega)) (HD.out.new (by omega)))).mono ?_
 rintro e w2 ⟨rfl,q,h2⟩
 go_wp2
 go_end0
 exact ⟨rfl,(But.of_grown (by go_grown)).trans q,h2⟩
theorem swap1_at (w:World) (c:Cf) (d:Wd) (ws:List Int) (n:Int) (s:St) (h:WdAt w c d ws n s) (hn:0 ≤ n) (hn':n < 4611686018427387904) (kf:Nat) (i at_ old v:Int) (r0 r1 r2 r3 r4 r5:Nat)
  (hcf:∀ (xs:Array Value) (w:World),(callFunc kf xs).run Tryz.prog w = .ok (.enter kf xs) w)
  (hof:∀ w1,Calls Tryz.prog kf #[c.v,.int .i64 i] w1 fun e w' => e = .returned (.int .i64 at_) ∧ Grown w1 w')
  (c0:w.cell? ⟨r0,0,none⟩ = some (.pointer (some ⟨d.x,0,none⟩))) (c1:w.cell? ⟨r1,0,none⟩ = some (.func (.func kf) #[] #[])) (c2:w.cell? ⟨r2,0,none⟩ = some (.int .i64 i)) (c3:w.cell? ⟨r3,0,none⟩ = some (.int .u64 old)) (c4:w.cell? ⟨r4,0,none⟩ = some (.int .u64 v)) (c5:w.cell? ⟨r5,0,none⟩ = some (.bool false))
  (f5:w.frozen? ⟨r5,0,none⟩ = false) (m5:¬ Mine d.p d.b r5) (x5:r5 ≠ d.x) (m0:¬ (Mine d.p d.b r0 ∨ r0 = r5)) (m1:¬ (Mine d.p d.b r1 ∨ r1 = r5)) (m2:¬ (Mine d.p d.b r2 ∨ r2 = r5)) (m3:¬ (Mine d.p d.b r3 ∨ r3 = r5)) (m4:¬ (Mine d.p d.b r4 ∨ r4 = r5)) :
  Calls Tryz.prog 190 #[.pointer (some ⟨r0,0,none⟩),.pointer (some ⟨r1,0,none⟩),.pointer (some ⟨r2,0,none⟩),.pointer (some ⟨r3,0,none⟩),.pointer (some ⟨r4,0,none⟩),.pointer (some ⟨r5,0,none⟩)] w
   fun e w' => e = .returned (.tuple #[]) ∧ LeftR c d (sw ws at_ old v) (n + cnt ws at_) s r5 (.bool (may ws at_ old)) w w':=by
 obtain ⟨done,hdn⟩:∃ dn,may ws at_ old = dn:=⟨_,rfl⟩
 rw [hdn]
 have HDN:=Lib.hid hdn
 clear hdn
 have hmf:=mkFunc
 have k0:=h.k0
 have k1:=h.k1
 have k2:=h.k2
 have k3:=h.k3
 have k4:=h.k4
 have k5:=h.k5
 have HD:=Lib.hid h
 have HOF:=Lib.hid hof
 clear h hof
 go_enter Tryz.func190,Tryz.ntmps190
 go_wp2_with fail
 refine wp_region_planb (fun i => Mine d.p d.b i ∨ i = r5) (.one [0,1,2,3,4,5,6,8,9] 7 (.one [] 10 (.one [] 11 (.fin [])))) (by kernel_rfl) (by kernel_rfl) (by kernel_rfl) ?_
 intro w2 g2
 have mx:¬ (Mine d.p d.b d.x ∨ d.x = r5):=by rintro (h | h);exact HD.out.mine h;exact x5 h.symm
 have d0:∀ g:ButW (fun i => Mine d.p d.b i ∨ i = r5) w2,g.w.cell? ⟨r0,0,none⟩ = some (.pointer (some ⟨d.x,0,none⟩)):=ButW.cell m0 (gcell g2 c0)
 have d1:∀ g:ButW (fun i => Mine d.p d.b i ∨ i = r5) w2,g.w.cell? ⟨r1,0,none⟩ = some (.func (.func kf) #[] #[]):=ButW.cell m1 (gcell g2 c1)
 have d2:∀ g:ButW (fun i => Mine d.p d.b i ∨ i = r5) w2,g.w.cell? ⟨r2,0,none⟩ = some (.int .i64 i):=ButW.cell m2 (gcell g2 c2)
 have d3:∀ g:ButW (fun i => Mine d.p d.b i ∨ i = r5) w2,g.w.cell? ⟨r3,0,none⟩ = some (.int .u64 old):=ButW.cell m3 (gcell g2 c3)
 have d4:∀ g:ButW (fun i => Mine d.p d.b i ∨ i = r5) w2,g.w.cell? ⟨r4,0,none⟩ = some (.int .u64 v):=ButW.cell m4 (gcell g2 c4)
 have e0:∀ g:ButW (fun i => Mine d.p d.b i ∨ i = r5) w2,g.w.cell? ⟨d.x,0,none⟩ = some (.int .i64 c.t):=ButW.cell mx (gcell g2 k0)
 have e1:∀ g:ButW (fun i => Mine d.p d.b i ∨ i = r5) w2,g.w.cell? ⟨d.x,1,none⟩ = some (.int .i64 c.b):=ButW.cell mx (gcell g2 k1)
 have e2:∀ g:ButW (fun i => Mine d.p d.b i ∨ i = r5) w2,g.w.cell? ⟨d.x,2,none⟩ = some (.int .i64 c.i):=ButW.cell mx (gcell g2 k2)
 have e3:∀ g:ButW (fun i => Mine d.p d.b i ∨ i = r5) w2,g.w.cell? ⟨d.x,3,none⟩ = some (.int .i64 c.f):=ButW.cell mx (gcell g2 k3)
 have e4:∀ g:ButW (fun i => Mine d.p d.b i ∨ i = r5) w2,g.w.cell? ⟨d.x,4,none⟩ = some (.int .i64 c.k):=ButW.cell mx (gcell g2 k4)
 refine plan_one ?_
 simp only [nths,nth,List.map_cons,List.map_nil,List.getD_cons_zero,List.getD_cons_succ]
 repeat go_big_quiet_step (fail)
 clear d0 d1 d2 d3 d4 e0 e1 e2 e3 e4
 refine wpQuiet_nil ?_
 go_wp2_with fail
 refine (HOF.out _).mono ?_;rintro e u3 ⟨rfl,g3⟩
 go_wp2_with fail
 refine nxt_but (But.of_grown g3) (plan_one ?_)
 simp only [nths,nth,List.map_nil,List.getD_cons_zero,List.getD_cons_succ]
 refine wpQuiet_nil ?_
 go_wp2_with fail
 have G3:=gtr g2 g3
 have HD3:=Lib.hid (HD.out.grown G3)
 replace c5:=gcell G3 c5
 replace f5:u3.frozen? ⟨r5,0,none⟩ = false:=(G3.2.1 _).trans f5
 refine (Swap_any _ _ _ _ _ _ old v HD3.out.bank hn hn').mono ?_;rintro e u4 ⟨rfl,q4,b4⟩
 have W4:=Lib.hid (HD3.out.step q4 b4 (length_sw_ _ _ _ _))
 replace c5:=q4.cell m5 c5
 replace f5:=q4.frozen f5
 have q5:But (Mine d.p d.b) w u4:=(But.of_grown G3).trans q4
 have qB:But (fun i => Mine d.p d.b i ∨ i = r5) w2 u4:=((But.of_grown g3).trans q4).mono (fun _ h => .inl h)
 clear b4 HD3 HD HOF
 rw [HDN.out]
 go_wp2_with fail
 refine nxt_but qB (plan_one ?_)
 simp only [nths,nth,List.map_nil,List.getD_cons_zero,List.getD_cons_succ]
 refine wpQuiet_nil ?_
 go_wp2_with fail
 refine nxt_but (qB.setCell (.inl (.inr rfl)) _) (plan_fin ?_)
 simp only [nths,List.map_nil]
 refine wpQuiet_nil ?_
 go_wp2_with fail
 go_end0
 exact ⟨rfl,(q5.mono (fun _ h => .inl h)).setCell (.inl (.inr rfl)) _,W4.out.put c5 m5 x5 (by simp) (by simp),World.cell?_setCell_same _ _ _ c5⟩
theorem swap_any (w:World) (c:Cf) (d:Wd) (ws:List Int) (n:Int) (s:St) (h:WdAt w c d ws n s) (hn:0 ≤ n) (hn':n < 4611686018427387904) (kf:Nat) (i at_ old v:Int)
  (hcf:∀ (xs:Array Value) (w:World),(callFunc kf xs).run Tryz.prog w = .ok (.enter kf xs) w)
  (hof:∀ w1,Calls Tryz.prog kf #[c.v,.int .i64 i] w1 fun e w' => e = .returned (.int .i64 at_) ∧ Grown w1 w')
  :
  Calls Tryz.prog 116 #[.pointer (some ⟨d.x,0,none⟩),.func (.func kf) #[] #[],.int .i64 i,.int .u64 old,.int .u64 v] w fun e w' => e = .returned (.bool (may ws at_ old)) ∧ LeftW c d (sw ws at_ old v) (n + cnt ws at_) s w w':=by
 obtain ⟨done,hdn⟩:∃ dn,may ws at_ old = dn:=⟨_,rfl⟩
 rw [hdn]
 have HDN:=Lib.hid hdn
 clear hdn
 have hmf:=mkFunc
 have HD:=Lib.hid h
 have HOF:=Lib.hid hof
 clear h hof
 go_enter Tryz.func116,Tryz.ntmps116
 go_wp2_with fail
 refine (there_at _ d.x _ _ (LeftR c d (sw ws at_ old v) (n + cnt ws at_) s (w.heap.size + 1 + 1 + 1 + 1 + 1) (.bool (may ws at_ old)) _) (fun _ _ => rfl) (swap1_at _ c d ws n s (HD.out.grown (by go_grown)) hn hn' kf i at_ old v _ _ _ _ _ _ hcf HOF.out (by simp [go_sem]) (by simp [go_sem]) (by simp [go_sem]) (by simp [go_sem]) (by simp [go_sem]) (by simp [go_sem]) (by simp [go_sem]) (HD.out.new (by omega)) (by have:=HD.out.xlt;omega) (HD.out.new2 (by omega) (by omega)) (HD.out.new2 (by omega) (by omega)) (HD.out.new2 (by omega) (by omega)) (HD.out.new2 (by omega) (by omega)) (HD.out.new2 (by omega) (by omega)))).mono ?_
 rintro e w2 ⟨rfl,q,h2,c3⟩
 rw [HDN.out] at c3
 have f0:w2.frozen? ⟨w.heap.size + 1 + 1 + 1 + 1 + 1,0,none⟩ = false:=q.frozen (by simp [go_sem])
 go_wp2
 have c9:(w2.setCell ⟨w.heap.size + 1 + 1 + 1 + 1 + 1,0,none⟩ (.bool done)).cell? ⟨w.heap.size + 1 + 1 + 1 + 1 + 1,0,none⟩ = some (.bool done):=World.cell?_setCell_same _ _ _ c3
 exact bodyPost_ret (v:=.bool done) (by simp [results,Tryz.results116,go_sem,c9]) rfl ⟨rfl,HD.out.left q h2 c3 (by omega) (by simp) (by simp) (by go_grown)⟩
def nxtI (c:Cf) (i:Int):Int:=vNext c.t c.b c.i c.f c.k i
def wrdI (c:Cf) (i:Int):Int:=vWord c.t c.b c.i c.f c.k i
def headI (c:Cf) (key:Int):Int:=vHead c.t c.b c.i c.f c.k (zBucket key c.b)
theorem wNext_any (w:World) (c:Cf) (d:Wd) (ws:List Int) (n:Int) (s:St) (i:Int) (h:WdAt w c d ws n s) (hn:0 ≤ n) (hn':n < 4611686018427387904) :
  Calls Tryz.prog 257 #[.pointer (some ⟨d.x,0,none⟩),.int .i64 i] w fun e w' => e = .returned (.int .u64 (rd ws (nxtI c i))) ∧ LeftW c d (ws) (n + cnt ws (nxtI c i)) s w w':=by
 have HD:=Lib.hid h
 clear h
 go_enter Tryz.func257,Tryz.ntmps257
 go_wp2_with fail
 refine (load_any _ c d ws n s (HD.out.grown (by go_grown)) hn hn' _ i (nxtI c i) (fun _ _ => rfl) (fun _ => Next_at _ _ _ _ _ _ _ _ rfl)).mono ?_;rintro e w1 ⟨rfl,q,h1⟩
 go_wp2_with fail
 go_ret
 exact ⟨rfl,(But.of_grown (by go_grown)).trans q,h1⟩
theorem wLink_any (w:World) (c:Cf) (d:Wd) (ws:List Int) (n:Int) (s:St) (i old v:Int) (h:WdAt w c d ws n s) (hn:0 ≤ n) (hn':n < 4611686018427387904) :
  Calls Tryz.prog 215 #[.pointer (some ⟨d.x,0,none⟩),.int .i64 i,.int .u64 old,.int .u64 v] w fun e w' => e = .returned (.bool (may ws (nxtI c i) old)) ∧ LeftW c d (sw ws (nxtI c i) old v) (n + cnt ws (nxtI c i)) s w w':=by
 have HD:=Lib.hid h
 clear h
 go_enter Tryz.func215,Tryz.ntmps215
 go_wp2_with fail
 refine (swap_any _ c d ws n s (HD.out.grown (by go_grown)) hn hn' _ i (nxtI c i) old v (fun _ _ => rfl) (fun _ => Next_at _ _ _ _ _ _ _ _ rfl)).mono ?_;rintro e w1 ⟨rfl,q,h1⟩
 go_wp2_with fail
 go_ret
 exact ⟨rfl,(But.of_grown (by go_grown)).trans q,h1⟩
theorem wSet_any (w:World) (c:Cf) (d:Wd) (ws:List Int) (n:Int) (s:St) (i v:Int) (h:WdAt w c d ws n s) (hn:0 ≤ n) (hn':n < 4611686018427387904) :
  Calls Tryz.prog 61 #[.pointer (some ⟨d.x,0,none⟩),.int .i64 i,.int .u64 v] w fun e w' => e = .returned (.tuple #[]) ∧ LeftW c d (wr ws (nxtI c i) v) (n + cnt ws (nxtI c i)) s w w':=by
 have HD:=Lib.hid h
 clear h
 go_enter Tryz.func61,Tryz.ntmps61
 go_wp2_with fail
 refine (store_any _ c d ws n s (HD.out.grown (by go_grown)) hn hn' _ i (nxtI c i) v (fun _ _ => rfl) (fun _ => Next_at _ _ _ _ _ _ _ _ rfl)).mono ?_;rintro e w1 ⟨rfl,q,h1⟩
 go_wp2_with fail
 go_end0
 exact ⟨rfl,(But.of_grown (by go_grown)).trans q,h1⟩
theorem wWord_any (w:World) (c:Cf) (d:Wd) (ws:List Int) (n:Int) (s:St) (i:Int) (h:WdAt w c d ws n s) (hn:0 ≤ n) (hn':n < 4611686018427387904) :
  Calls Tryz.prog 169 #[.pointer (some ⟨d.x,0,none⟩),.int .i64 i] w fun e w' => e = .returned (.int .u64 (rd ws (wrdI c i))) ∧ LeftW c d (ws) (n + cnt ws (wrdI c i)) s w w':=by
 have HD:=Lib.hid h
 clear h
 go_enter Tryz.func169,Tryz.ntmps169
 go_wp2_with fail
 refine (load_any _ c d ws n s (HD.out.grown (by go_grown)) hn hn' _ i (wrdI c i) (fun _ _ => rfl) (fun _ => Word_at _ _ _ _ _ _ _ _ rfl)).mono ?_;rintro e w1 ⟨rfl,q,h1⟩
 go_wp2_with fail
 go_ret
 exact ⟨rfl,(But.of_grown (by go_grown)).trans q,h1⟩
theorem wTurn_any (w:World) (c:Cf) (d:Wd) (ws:List Int) (n:Int) (s:St) (i old v:Int) (h:WdAt w c d ws n s) (hn:0 ≤ n) (hn':n < 4611686018427387904) :
  Calls Tryz.prog 58 #[.pointer (some ⟨d.x,0,none⟩),.int .i64 i,.int .u64 old,.int .u64 v] w fun e w' => e = .returned (.bool (may ws (wrdI c i) old)) ∧ LeftW c d (sw ws (wrdI c i) old v) (n + cnt ws (wrdI c i)) s w w':=by
 have HD:=Lib.hid h
 clear h
 go_enter Tryz.func58,Tryz.ntmps58
 go_wp2_with fail
 refine (swap_any _ c d ws n s (HD.out.grown (by go_grown)) hn hn' _ i (wrdI c i) old v (fun _ _ => rfl) (fun _ => Word_at _ _ _ _ _ _ _ _ rfl)).mono ?_;rintro e w1 ⟨rfl,q,h1⟩
 go_wp2_with fail
 go_ret
 exact ⟨rfl,(But.of_grown (by go_grown)).trans q,h1⟩
end Go.Proofs.YtcogckjpmmjmbaaGreat
namespace Go.Proofs.YtcogckjpmmjmbaaGreat
open Go.ChangeShapes Go.WideShapes Go.ChangeAt Go.RowKit
set_option maxRecDepth 100000
set_option linter.unusedVariables false
theorem Head1_at (w:World) (c:Cf) (d:Wd) (ws:List Int) (n:Int) (s:St) (h:WdAt w c d ws n s) (key:Int) (r0 r1 r2:Nat)
  (c0:w.cell? ⟨r0,0,none⟩ = some (.pointer (some ⟨d.x,0,none⟩))) (c1:w.cell? ⟨r1,0,none⟩ = some (.int .u64 key)) (c2:w.cell? ⟨r2,0,none⟩ = some (.int .i64 (-1)))
  (f2:w.frozen? ⟨r2,0,none⟩ = false) (x2:¬ d.x = r2) (m0:¬ r0 = r2) (m1:¬ r1 = r2) :
  Calls Tryz.prog 274 #[.pointer (some ⟨r0,0,none⟩),.pointer (some ⟨r1,0,none⟩),.pointer (some ⟨r2,0,none⟩)] w
   fun e w' => e = .returned (.tuple #[]) ∧ But (fun i => i = r2) w w' ∧ w'.cell? ⟨r2,0,none⟩ = some (.int .i64 (headI c key)):=by
 have k0:=h.k0
 have k1:=h.k1
 have k2:=h.k2
 have k3:=h.k3
 have k4:=h.k4
 have HH:Hid (vHead c.t c.b c.i c.f c.k (zBucket key c.b) = headI c key):=Lib.hid rfl
 clear h
 go_enter Tryz.func274,Tryz.ntmps274
 go_wp2_with fail
 refine wp_region_planb (fun i => i = r2) (.one [0,1,2,3,4,5,6,7,8,9] 10 (.one [] 11 (.one [] 12 (.fin [])))) (by kernel_rfl) (by kernel_rfl) (by kernel_rfl) ?_
 intro w2 g2
 have mx:¬ d.x = r2:=x2
 have d0:∀ g:ButW (fun i => i = r2) w2,g.w.cell? ⟨r0,0,none⟩ = some (.pointer (some ⟨d.x,0,none⟩)):=ButW.cell m0 (gcell g2 c0)
 have d1:∀ g:ButW (fun i => i = r2) w2,g.w.cell? ⟨r1,0,none⟩ = some (.int .u64 key):=ButW.cell m1 (gcell g2 c1)
 have e0:∀ g:ButW (fun i => i = r2) w2,g.w.cell? ⟨d.x,0,none⟩ = some (.int .i64 c.t):=ButW.cell mx (gcell g2 k0)
 have e1:∀ g:ButW (fun i => i = r2) w2,g.w.cell? ⟨d.x,1,none⟩ = some (.int .i64 c.b):=ButW.cell mx (gcell g2 k1)
 have e2:∀ g:ButW (fun i => i = r2) w2,g.w.cell? ⟨d.x,2,none⟩ = some (.int .i64 c.i):=ButW.cell mx (gcell g2 k2)
 have e3:∀ g:ButW (fun i => i = r2) w2,g.w.cell? ⟨d.x,3,none⟩ = some (.int .i64 c.f):=ButW.cell mx (gcell g2 k3)
 have e4:∀ g:ButW (fun i => i = r2) w2,g.w.cell? ⟨d.x,4,none⟩ = some (.int .i64 c.k):=ButW.cell mx (gcell g2 k4)
 refine plan_one ?_
 simp only [nths,nth,List.map_cons,List.map_nil,List.getD_cons_zero,List.getD_cons_succ]
 repeat go_big_quiet_step (fail)
 clear d0 d1 e0 e1 e2 e3 e4
 refine wpQuiet_nil ?_
 go_wp2_with fail
 refine (Bucket_any _ _ _).mono ?_;rintro e u3 ⟨rfl,g3⟩
 go_wp2_with fail
 refine nxt_but (But.of_grown g3) (plan_one ?_)
 simp only [nths,nth,List.map_nil,List.getD_cons_zero,List.getD_cons_succ]
 refine wpQuiet_nil ?_
 go_wp2_with fail
 refine (Head_at _ _ _ _ _ _ _ _ HH.out).mono ?_;rintro e u4 ⟨rfl,g4⟩
 have G4:=gtr g2 (gtr g3 g4)
 replace c2:=gcell G4 c2
 replace f2:u4.frozen? ⟨r2,0,none⟩ = false:=(G4.2.1 _).trans f2
 go_wp2_with fail
 have qB:But (fun i => i = r2) w2 u4:=But.of_grown (gtr g3 g4)
 refine nxt_but qB (plan_one ?_)
 simp only [nths,nth,List.map_nil,List.getD_cons_zero,List.getD_cons_succ]
 refine wpQuiet_nil ?_
 go_wp2_with fail
 refine nxt_but (qB.setCell (.inl rfl) _) (plan_fin ?_)
 simp only [nths,List.map_nil]
 refine wpQuiet_nil ?_
 go_wp2_with fail
 go_end0
 exact ⟨rfl,But.setCell (S:=fun i => i = r2) (But.of_grown G4) (.inl rfl) _,World.cell?_setCell_same _ _ _ c2⟩
theorem wHead_any (w:World) (c:Cf) (d:Wd) (ws:List Int) (n:Int) (s:St) (key:Int) (h:WdAt w c d ws n s) :
  Calls Tryz.prog 255 #[.pointer (some ⟨d.x,0,none⟩),.int .u64 key] w fun e w' => e = .returned (.int .i64 (headI c key)) ∧ Grown w w':=by
 have hmf:=mkFunc
 have HD:=Lib.hid h
 clear h
 go_enter Tryz.func255,Tryz.ntmps255
 go_wp2_with fail
 refine (there_at _ d.x _ _ _ (fun _ _ => rfl) (Head1_at _ c d ws n s (HD.out.grown (by go_grown)) key _ _ _ (by simp [go_sem]) (by simp [go_sem]) (by simp [go_sem]) (by simp [go_sem]) (by have:=HD.out.xlt;omega) (by omega) (by omega))).mono ?_
 rintro e w2 ⟨rfl,q,c2⟩
 go_wp2
 go_ret
 exact ⟨rfl,But.fresh (by go_grown) q (fun i hi => by subst hi;omega)⟩
def NewWd (c:Cf) (w:World) (e:Ending) (w':World):Prop :=
 ∃ d:Wd,e = .returned (.tuple #[.pointer (some ⟨d.x,0,none⟩),.int .i64 0]) ∧ Grown w w' ∧ WdAt w' c d (List.replicate c.len 0) 0 (St.new c) ∧ w.heap.size ≤ d.p ∧ w.heap.size ≤ d.b ∧ w.heap.size ≤ d.x ∧ d.a.lo = w.heap.size + 1
theorem vLen_len {c:Cf} (hok:c.Ok):vLen c.t c.b c.i c.f c.k = ((c.len:Nat):Int):=by
 unfold vLen
 rw [if_pos hok.z]
 have h1:zOps c.t c.b c.i c.f c.k = ((c.ops:Nat):Int):=(if_pos hok.z).trans (by simp [Cf.ops])
 have h2:zNodes c.t c.b c.i c.f c.k = ((c.nodes:Nat):Int):=(if_pos hok.z).trans (by simp [Cf.nodes])
 rw [h1,h2]
 unfold Cf.len
 omega
theorem len_le {c:Cf} (hok:c.Ok):c.len ≤ 1048576:=by
 have:=hok.tk
 have:=hok.b64
 have:=hok.t8
 unfold Cf.len Cf.nodes Cf.ops
 omega
theorem wNew_at (w:World) (c:Cf) (hok:c.Ok):Calls Tryz.prog 54 #[c.v] w (NewWd c w):=by
 have HL:=Lib.hid (vLen_len hok)
 have HM:=Lib.hid (len_le hok)
 have HK:=Lib.hid hok
 clear hok
 unfold Cf.v
 go_enter Tryz.func54,Tryz.ntmps54
 go_wp2_with fail
 refine (New_at _ c HK.out).mono ?_;rintro e w1 ⟨a,rfl,g1,h1,hlo,hhi⟩
 have c0:w1.cell? ⟨w.heap.size,0,none⟩ = some (.int .i64 c.t):=gcell g1 (by simp)
 have c1:w1.cell? ⟨w.heap.size,1,none⟩ = some (.int .i64 c.b):=gcell g1 (by simp)
 have c2:w1.cell? ⟨w.heap.size,2,none⟩ = some (.int .i64 c.i):=gcell g1 (by simp)
 have c3:w1.cell? ⟨w.heap.size,3,none⟩ = some (.int .i64 c.f):=gcell g1 (by simp)
 have c4:w1.cell? ⟨w.heap.size,4,none⟩ = some (.int .i64 c.k):=gcell g1 (by simp)
 replace hlo:a.lo = w.heap.size + 1:=by simpa using hlo
 replace g1:=galloc g1
 have H1:=Lib.hid h1
 have HHI:=Lib.hid hhi
 have HLO:=Lib.hid hlo
 clear h1 hhi hlo
 go_wp2_with fail
 refine wp_region_plang (.one [0,1,4] 2 (.one [] 3 (.one [5] 6 (.fin [7,8])))) (by kernel_rfl) (by kernel_rfl) (by kernel_rfl) ?_
 intro w2 g2
 have d0:∀ g:GrW w2,g.w.cell? ⟨w.heap.size,0,none⟩ = some (.int .i64 c.t):=GrW.cell (gcell g2 c0)
 have d1:∀ g:GrW w2,g.w.cell? ⟨w.heap.size,1,none⟩ = some (.int .i64 c.b):=GrW.cell (gcell g2 c1)
 have d2:∀ g:GrW w2,g.w.cell? ⟨w.heap.size,2,none⟩ = some (.int .i64 c.i):=GrW.cell (gcell g2 c2)
 have d3:∀ g:GrW w2,g.w.cell? ⟨w.heap.size,3,none⟩ = some (.int .i64 c.f):=GrW.cell (gcell g2 c3)
 have d4:∀ g:GrW w2,g.w.cell? ⟨w.heap.size,4,none⟩ = some (.int .i64 c.k):=GrW.cell (gcell g2 c4)
 refine plan_one ?_
 simp only [nths,nth,List.map_cons,List.map_nil,List.getD_cons_zero,List.getD_cons_succ]
 repeat go_big_quiet_step (fail)
 clear d0 d1 d2 d3 d4 c0 c1 c2 c3 c4
 refine wpQuiet_nil ?_
 go_wp2_with fail
 refine (Len_at _ _ _ _ _ _ _ HL.out).mono ?_;rintro e u3 ⟨rfl,g3⟩
 go_wp2_with fail
 refine nxt_grow g3 (plan_one ?_)
 simp only [nths,nth,List.map_nil,List.getD_cons_zero,List.getD_cons_succ]
 refine wpQuiet_nil ?_
 go_wp2_with fail
 refine (cNew_at _ c.len HM.out).mono ?_;rintro e u4 ⟨p,b,rfl,g4,hp,hb,hbank⟩
 have HB:=Lib.hid hbank
 have HP:=Lib.hid hp
 have HBB:=Lib.hid hb
 clear hbank hp hb
 go_wp2_with fail
 refine nxt_grow g4 (plan_one ?_)
 simp only [nths,nth,List.map_cons,List.map_nil,List.getD_cons_zero,List.getD_cons_succ]
 repeat go_big_quiet_step (fail)
 refine wpQuiet_nil ?_
 go_wp2_with fail
 refine nxt_grow (by go_grown) (plan_fin ?_)
 simp only [nths,nth,List.map_cons,List.map_nil,List.getD_cons_zero,List.getD_cons_succ]
 repeat go_big_quiet_step (fail)
 refine wpQuiet_nil ?_
 go_wp2_with fail
 go_ret2
 have G:Grown w1 u4:=gtr g2 (gtr g3 g4)
 have gl:Grown u4 (u4.alloc (.cells #[.int .i64 c.t,.int .i64 c.b,.int .i64 c.i,.int .i64 c.f,.int .i64 c.k,.pointer (some ⟨p,0,none⟩),.pointer (some ⟨a.p,0,none⟩)] 52)):=by go_grown
 have s1:=g1.2.2
 have s2:=(gtr g2 g3).2.2
 have hhi:=HHI.out
 have hp:=HP.out
 have hb:=HBB.out
 have hu:=g4.2.2
 refine ⟨⟨u4.heap.size,p,b,a⟩,rfl,gtr g1 (gtr G gl),⟨by simp,by simp,by simp,by simp,by simp,by simp,by simp,HB.out.grown gl,H1.out.grown (gtr G gl),by simp,HB.out.mine (Nat.le_refl _),?_,?_,?_⟩,?_,?_,?_,HLO.out⟩
 all_goals (simp only;omega)
end Go.Proofs.YtcogckjpmmjmbaaGreat
namespace Go.Proofs.YtcogckjpmmjmbaaGreat
open Go.ChangeShapes Go.WideShapes Go.ChangeAt Go.RowKit
set_option maxRecDepth 100000
set_option linter.unusedVariables false
def c8:Cf:=⟨2,2,1,5,3⟩
end Go.Proofs.YtcogckjpmmjmbaaGreat
