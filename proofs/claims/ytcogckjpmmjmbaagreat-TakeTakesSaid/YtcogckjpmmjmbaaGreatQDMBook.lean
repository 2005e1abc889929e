/- Package book: what a book is in memory, and what may be done to it. -/
import Derived.Test.YtcogckjpmmjmbaaGreatQDMMap
namespace Go.Proofs.YtcogckjpmmjmbaaGreat
open Go.ChangeShapes Go.WideShapes Go.ChangeAt Go.RowKit
set_option maxRecDepth 100000
theorem putC_at (w:World) (mb base N n:Nat) (x:Cal) (u:Value) (h:MapAt w mb base N) (hn:n < N) (hc:w.cell? ⟨base + n,0,none⟩ = some u) (hf:w.frozen? ⟨base + n,0,none⟩ = false) :
  Calls Tryz.prog 115 #[.map (some mb),.int .i64 n,x.v] w fun e w' => e = .returned (.tuple #[]) ∧
   w' = (w.alloc (.cells #[.int .i64 x.kind,.int .u64 x.key,.int .u64 x.val,.int .i64 x.lim] 80)).setCell ⟨base + n,0,none⟩ (.pointer (some ⟨w.heap.size,0,none⟩)):=by
 have g:Grown w (w.alloc (.cells #[.int .i64 x.kind,.int .u64 x.key,.int .u64 x.val,.int .i64 x.lim] 80)):=by go_grown
 have hl1:=look_in (P:=Tryz.prog) (h.grown g) Tryz.underlying175 Tryz.underlying3 n hn
 have hp:=storesp _ (gcell g hc) ((g.2.1 _).trans hf) (y:=some ⟨w.heap.size,0,none⟩)
 have hsh:(w.alloc (.cells #[.int .i64 x.kind,.int .u64 x.key,.int .u64 x.val,.int .i64 x.lim] 80)).shape? w.heap.size = some (80,4):=by
  unfold World.shape?;rw [(MapKept.heap_alloc w _).1];rfl
 have hcv:=to_unsafe (P:=Tryz.prog) w.heap.size Tryz.underlying234 Tryz.underlying287 (by kernel_rfl) hsh (by decide)
 unfold Cal.v
 clear h hc hf hn g hsh
 go_enter Tryz.func115,Tryz.ntmps115
 go_wp2
 go_end0
 exact ⟨rfl,rfl⟩
theorem putN_at (w:World) (mb base N n x:Nat) (u:Value) (h:MapAt w mb base N) (hn:n < N) (hc:w.cell? ⟨base + n,0,none⟩ = some u) (hf:w.frozen? ⟨base + n,0,none⟩ = false) :
  Calls Tryz.prog 119 #[.map (some mb),.int .i64 n,.int .i64 x] w fun e w' => e = .returned (.tuple #[]) ∧
   w' = (w.alloc (.cells #[.int .i64 x] 3)).setCell ⟨base + n,0,none⟩ (.pointer (some ⟨w.heap.size,0,none⟩)):=by
 have g:Grown w (w.alloc (.cells #[.int .i64 x] 3)):=by go_grown
 have hl1:=look_in (P:=Tryz.prog) (h.grown g) Tryz.underlying177 Tryz.underlying3 n hn
 have hp:=storesp _ (gcell g hc) ((g.2.1 _).trans hf) (y:=some ⟨w.heap.size,0,none⟩)
 have hsh:(w.alloc (.cells #[.int .i64 x] 3)).shape? w.heap.size = some (3,1):=by
  unfold World.shape?;rw [(MapKept.heap_alloc w _).1];rfl
 have hcv:=to_unsafe (P:=Tryz.prog) w.heap.size Tryz.underlying264 Tryz.underlying287 (by kernel_rfl) hsh (by decide)
 clear h hc hf hn g hsh
 go_enter Tryz.func119,Tryz.ntmps119
 go_wp2
 go_end0
 exact ⟨rfl,rfl⟩
structure Cf where
 t:Nat
 b:Nat
 i:Nat
 f:Nat
 k:Nat
def Cf.v (c:Cf):Value:=.agg #[.int .i64 c.t,.int .i64 c.b,.int .i64 c.i,.int .i64 c.f,.int .i64 c.k]
def Cf.ops (c:Cf):Nat:=c.t * c.k
def Cf.nodes (c:Cf):Nat:=1 + c.b + 2 * (c.t * c.k)
structure Cf.Ok (c:Cf):Prop where
 z:zOk c.t c.b c.i c.f c.k = true
 t1:1 ≤ c.t
 t8:c.t ≤ 8
 b1:1 ≤ c.b
 b64:c.b ≤ 64
 i2:c.i ≤ 256
 k1:1 ≤ c.k
 k2:c.k ≤ 256
 tk:c.t * c.k ≤ 2048
theorem cf_ok {c:Cf} (h:zOk c.t c.b c.i c.f c.k = true):c.Ok:=by
 obtain ⟨t1,t2,hb,i1,i2,f1,f2,k1,k2⟩:=zOk_spec.1 h
 have b1:(1:Int) ≤ c.b ∧ (c.b:Int) ≤ 64:=by unfold Pow2 at hb;omega
 have:=Nat.mul_le_mul (show c.t ≤ 8 by omega) (show c.k ≤ 256 by omega)
 exact ⟨h,by omega,by omega,by omega,by omega,by omega,by omega,by omega,this⟩
structure St where
 calls:List Nat
 ins:List Nat
 made:List Nat
 ops:List (Nat × Cal)
 nodes:List (Nat × Nat)
def at_ (l:List Nat) (h:Nat):Nat:=l.getD h 0
def bump (l:List Nat) (h:Nat):List Nat:=l.set h (at_ l h + 1)
def look {α:Type}:List (Nat × α) → Nat → Option α
 | [],_ => none
 | (m,x) :: r,n => if m = n then some x else look r n
theorem at_bump {l:List Nat} {h j:Nat} (hl:h < l.length):at_ (bump l h) j = if j = h then at_ l h + 1 else at_ l j:=by
 unfold at_ bump
 by_cases e:j = h
 ·subst e;rw [if_pos rfl];simp [List.getD,hl,at_]
 ·rw [if_neg e];simp [List.getD,List.getElem?_set_ne (Ne.symm e)]
theorem length_bump (l:List Nat) (h:Nat):(bump l h).length = l.length:=by simp [bump]
theorem look_app {α:Type} (x:Nat × α) (n:Nat):∀ l:List (Nat × α),look (l ++ [x]) n = (look l n).or (if x.1 = n then some x.2 else none)
 | [] => by simp [look]
 | (m,y) :: r => by
  simp only [List.cons_append,look]
  by_cases h:m = n
  ·simp [h]
  ·simp [h,look_app x n r]
structure Ad where
 lo:Nat
 hi:Nat
 p:Nat
 mw:Nat
 mc:Nat
 mn:Nat
 bw:Nat
 bc:Nat
 bn:Nat
structure BookAt (w:World) (c:Cf) (a:Ad) (s:St):Prop where
 ok:c.Ok
 c0:w.cell? ⟨a.p,0,none⟩ = some (.int .i64 c.t)
 c1:w.cell? ⟨a.p,1,none⟩ = some (.int .i64 c.b)
 c2:w.cell? ⟨a.p,2,none⟩ = some (.int .i64 c.i)
 c3:w.cell? ⟨a.p,3,none⟩ = some (.int .i64 c.f)
 c4:w.cell? ⟨a.p,4,none⟩ = some (.int .i64 c.k)
 c5:w.cell? ⟨a.p,5,none⟩ = some (.map (some a.mw))
 c6:w.cell? ⟨a.p,6,none⟩ = some (.map (some a.mc))
 c7:w.cell? ⟨a.p,7,none⟩ = some (.map (some a.mn))
 mw:MapAt w a.mw a.bw c.t
 mc:MapAt w a.mc a.bc c.ops
 mn:MapAt w a.mn a.bn c.nodes
 w0:∀ h,h < c.t → w.cell? ⟨a.bw + h,0,none⟩ = some (.int .i64 h)
 w1:∀ h,h < c.t → w.cell? ⟨a.bw + h,1,none⟩ = some (.int .i64 (at_ s.calls h))
 w2:∀ h,h < c.t → w.cell? ⟨a.bw + h,2,none⟩ = some (.int .i64 (at_ s.ins h))
 w3:∀ h,h < c.t → w.cell? ⟨a.bw + h,3,none⟩ = some (.int .i64 (at_ s.made h))
 wf:∀ h j,h < c.t → w.frozen? ⟨a.bw + h,j,none⟩ = false
 sc:∀ n,n < c.ops → SlotC w a.hi (a.bc + n) (look s.ops n)
 sf:∀ n,n < c.ops → w.frozen? ⟨a.bc + n,0,none⟩ = false
 sn:∀ n,n < c.nodes → SlotN w a.hi (a.bn + n) (look s.nodes n)
 nf:∀ n,n < c.nodes → w.frozen? ⟨a.bn + n,0,none⟩ = false
 o1:a.lo ≤ a.bc
 o2:a.bc + c.ops ≤ a.bn
 o3:a.bn + c.nodes ≤ a.p
 o4:a.p < a.bw
 o5:a.bw + c.t ≤ a.hi
 o6:a.hi ≤ w.heap.size
def Own (a:Ad):Nat → Prop:=fun i => a.lo ≤ i ∧ i < a.hi
theorem oth {w:World} {a:Addr} {v x:Value} {i o:Nat} (hb:a.block ≠ i) (k:w.cell? ⟨i,o,none⟩ = some x):(w.setCell a v).cell? ⟨i,o,none⟩ = some x :=
 (World.cell?_setCell_other _ _ _ _ (fun h => hb (by rw [h]))).trans k
theorem set_block {w:World} {a:Addr} {v:Value} {i:Nat} (hb:a.block ≠ i):(w.setCell a v).heap[i]? = w.heap[i]?:=by
 simp only [World.setCell,Array.getElem?_modify];rw [if_neg hb]
theorem MapAt.set {w:World} {mb base n:Nat} (h:MapAt w mb base n) {a:Addr} {v:Value} (hb:a.block ≠ mb):MapAt (w.setCell a v) mb base n:=(set_block hb).trans h
theorem SlotC.grown {w w':World} {hi b:Nat} (g:Grown w w'):∀ {o:Option Cal},SlotC w hi b o → SlotC w' hi b o
 | none,h => gcell g h
 | some _,⟨q,h0,h1,h2,h3,h4,h5,h6⟩ => ⟨q,h0,gcell g h1,gcell g h2,gcell g h3,gcell g h4,gcell g h5,gshape g h6⟩
theorem SlotN.grown {w w':World} {hi b:Nat} (g:Grown w w'):∀ {o:Option Nat},SlotN w hi b o → SlotN w' hi b o
 | none,h => gcell g h
 | some _,⟨q,h0,h1,h2,h3⟩ => ⟨q,h0,gcell g h1,gcell g h2,gshape g h3⟩
theorem SlotC.set {w:World} {hi b:Nat} {a:Addr} {v:Value} (ha:a.block < hi) (hb:a.block ≠ b):∀ {o:Option Cal},SlotC w hi b o → SlotC (w.setCell a v) hi b o
 | none,h => oth hb h
 | some _,⟨q,h0,h1,h2,h3,h4,h5,h6⟩ => have hq:a.block ≠ q:=by omega
  ⟨q,h0,oth hb h1,oth hq h2,oth hq h3,oth hq h4,oth hq h5,(shape_block (set_block hq)).trans h6⟩
theorem SlotN.set {w:World} {hi b:Nat} {a:Addr} {v:Value} (ha:a.block < hi) (hb:a.block ≠ b):∀ {o:Option Nat},SlotN w hi b o → SlotN (w.setCell a v) hi b o
 | none,h => oth hb h
 | some _,⟨q,h0,h1,h2,h3⟩ => have hq:a.block ≠ q:=by omega
  ⟨q,h0,oth hb h1,oth hq h2,(shape_block (set_block hq)).trans h3⟩
theorem SlotC.any {w:World} {hi b:Nat}:∀ {o:Option Cal},SlotC w hi b o → ∃ u,w.cell? ⟨b,0,none⟩ = some u
 | none,h => ⟨_,h⟩
 | some _,⟨_,_,h,_⟩ => ⟨_,h⟩
theorem SlotN.any {w:World} {hi b:Nat}:∀ {o:Option Nat},SlotN w hi b o → ∃ u,w.cell? ⟨b,0,none⟩ = some u
 | none,h => ⟨_,h⟩
 | some _,⟨_,_,h,_⟩ => ⟨_,h⟩
theorem BookAt.grown {w w':World} {c:Cf} {a:Ad} {s:St} (h:BookAt w c a s) (g:Grown w w'):BookAt w' c a s :=
 ⟨h.ok,gcell g h.c0,gcell g h.c1,gcell g h.c2,gcell g h.c3,gcell g h.c4,gcell g h.c5,gcell g h.c6,gcell g h.c7,h.mw.grown g,h.mc.grown g,h.mn.grown g,fun j hj => gcell g (h.w0 j hj),fun j hj => gcell g (h.w1 j hj),fun j hj => gcell g (h.w2 j hj),fun j hj => gcell g (h.w3 j hj),
  fun j i hj => (g.2.1 _).trans (h.wf j i hj),fun n hn => (h.sc n hn).grown g,fun n hn => (g.2.1 _).trans (h.sf n hn),fun n hn => (h.sn n hn).grown g,fun n hn => (g.2.1 _).trans (h.nf n hn),
  h.o1,h.o2,h.o3,h.o4,h.o5,Nat.le_trans h.o6 g.2.2⟩
theorem BookAt.own {w:World} {c:Cf} {a:Ad} {s:St} (h:BookAt w c a s) {i:Nat} (hi:w.heap.size ≤ i):¬ Own a i:=by
 have:=h.o6
 rintro ⟨_,_⟩;omega
theorem BookAt.bumpC {w:World} {c:Cf} {a:Ad} {s:St} (h:BookAt w c a s) (i:Nat) (hi:i < c.t) (hl:s.calls.length = c.t) :
  BookAt (w.setCell ⟨a.bw + i,1,none⟩ (.int .i64 ((at_ s.calls i + 1:Nat):Int))) c a { s with calls:=bump s.calls i }:=by
 have o1:=h.o1;have o2:=h.o2;have o3:=h.o3;have o4:=h.o4;have o5:=h.o5;have o6:=h.o6
 have hp:a.bw + i ≠ a.p:=by omega
 have m1:a.bw + i ≠ a.mw:=h.mw.ne (h.w0 i hi)
 have m2:a.bw + i ≠ a.mc:=h.mc.ne (h.w0 i hi)
 have m3:a.bw + i ≠ a.mn:=h.mn.ne (h.w0 i hi)
 refine ⟨h.ok,oth hp h.c0,oth hp h.c1,oth hp h.c2,oth hp h.c3,oth hp h.c4,oth hp h.c5,oth hp h.c6,oth hp h.c7,h.mw.set m1,h.mc.set m2,h.mn.set m3,fun q hq => by have:=h.w0 q hq;exact (World.cell?_setCell_other _ _ _ _ (fun hx => by simp at hx)).trans this,fun q hq => by
   show (w.setCell ⟨a.bw + i,1,none⟩ (.int .i64 ((at_ s.calls i + 1:Nat):Int))).cell? ⟨a.bw + q,1,none⟩ = some (.int .i64 (at_ (bump s.calls i) q))
   rw [at_bump (by omega)]
   by_cases e:q = i
   ·subst e;rw [if_pos rfl];exact World.cell?_setCell_same _ _ _ (h.w1 q hq)
   ·rw [if_neg e];exact oth (by show a.bw + i ≠ a.bw + q;omega) (h.w1 q hq),fun q hq => by have:=h.w2 q hq;exact (World.cell?_setCell_other _ _ _ _ (fun hx => by simp at hx)).trans this,fun q hq => by have:=h.w3 q hq;exact (World.cell?_setCell_other _ _ _ _ (fun hx => by simp at hx)).trans this,
  fun q r hq => (World.frozen?_setCell _ _ _ _).trans (h.wf q r hq),fun n hn => (h.sc n hn).set (by show a.bw + i < a.hi;omega) (by show a.bw + i ≠ a.bc + n;omega),fun n hn => (World.frozen?_setCell _ _ _ _).trans (h.sf n hn),
  fun n hn => (h.sn n hn).set (by show a.bw + i < a.hi;omega) (by show a.bw + i ≠ a.bn + n;omega),fun n hn => (World.frozen?_setCell _ _ _ _).trans (h.nf n hn),o1,o2,o3,o4,o5,by simpa using o6⟩
theorem BookAt.bumpI {w:World} {c:Cf} {a:Ad} {s:St} (h:BookAt w c a s) (i:Nat) (hi:i < c.t) (hl:s.ins.length = c.t) :
  BookAt (w.setCell ⟨a.bw + i,2,none⟩ (.int .i64 ((at_ s.ins i + 1:Nat):Int))) c a { s with ins:=bump s.ins i }:=by
 have o1:=h.o1;have o2:=h.o2;have o3:=h.o3;have o4:=h.o4;have o5:=h.o5;have o6:=h.o6
 have hp:a.bw + i ≠ a.p:=by omega
 have m1:a.bw + i ≠ a.mw:=h.mw.ne (h.w0 i hi)
 have m2:a.bw + i ≠ a.mc:=h.mc.ne (h.w0 i hi)
 have m3:a.bw + i ≠ a.mn:=h.mn.ne (h.w0 i hi)
 refine ⟨h.ok,oth hp h.c0,oth hp h.c1,oth hp h.c2,oth hp h.c3,oth hp h.c4,oth hp h.c5,oth hp h.c6,oth hp h.c7,h.mw.set m1,h.mc.set m2,h.mn.set m3,fun q hq => by have:=h.w0 q hq;exact (World.cell?_setCell_other _ _ _ _ (fun hx => by simp at hx)).trans this,fun q hq => by have:=h.w1 q hq;exact (World.cell?_setCell_other _ _ _ _ (fun hx => by simp at hx)).trans this,fun q hq => by
   show (w.setCell ⟨a.bw + i,2,none⟩ (.int .i64 ((at_ s.ins i + 1:Nat):Int))).cell? ⟨a.bw + q,2,none⟩ = some (.int .i64 (at_ (bump s.ins i) q))
   rw [at_bump (by omega)]
   by_cases e:q = i
   ·subst e;rw [if_pos rfl];exact World.cell?_setCell_same _ _ _ (h.w2 q hq)
   ·rw [if_neg e];exact oth (by show a.bw + i ≠ a.bw + q;omega) (h.w2 q hq),fun q hq => by have:=h.w3 q hq;exact (World.cell?_setCell_other _ _ _ _ (fun hx => by simp at hx)).trans this,
  fun q r hq => (World.frozen?_setCell _ _ _ _).trans (h.wf q r hq),fun n hn => (h.sc n hn).set (by show a.bw + i < a.hi;omega) (by show a.bw + i ≠ a.bc + n;omega),fun n hn => (World.frozen?_setCell _ _ _ _).trans (h.sf n hn),
  fun n hn => (h.sn n hn).set (by show a.bw + i < a.hi;omega) (by show a.bw + i ≠ a.bn + n;omega),fun n hn => (World.frozen?_setCell _ _ _ _).trans (h.nf n hn),o1,o2,o3,o4,o5,by simpa using o6⟩
theorem BookAt.bumpM {w:World} {c:Cf} {a:Ad} {s:St} (h:BookAt w c a s) (i:Nat) (hi:i < c.t) (hl:s.made.length = c.t) :
  BookAt (w.setCell ⟨a.bw + i,3,none⟩ (.int .i64 ((at_ s.made i + 1:Nat):Int))) c a { s with made:=bump s.made i }:=by
 have o1:=h.o1;have o2:=h.o2;have o3:=h.o3;have o4:=h.o4;have o5:=h.o5;have o6:=h.o6
 have hp:a.bw + i ≠ a.p:=by omega
 have m1:a.bw + i ≠ a.mw:=h.mw.ne (h.w0 i hi)
 have m2:a.bw + i ≠ a.mc:=h.mc.ne (h.w0 i hi)
 have m3:a.bw + i ≠ a.mn:=h.mn.ne (h.w0 i hi)
 refine ⟨h.ok,oth hp h.c0,oth hp h.c1,oth hp h.c2,oth hp h.c3,oth hp h.c4,oth hp h.c5,oth hp h.c6,oth hp h.c7,h.mw.set m1,h.mc.set m2,h.mn.set m3,fun q hq => by have:=h.w0 q hq;exact (World.cell?_setCell_other _ _ _ _ (fun hx => by simp at hx)).trans this,fun q hq => by have:=h.w1 q hq;exact (World.cell?_setCell_other _ _ _ _ (fun hx => by simp at hx)).trans this,fun q hq => by have:=h.w2 q hq;exact (World.cell?_setCell_other _ _ _ _ (fun hx => by simp at hx)).trans this,fun q hq => by
   show (w.setCell ⟨a.bw + i,3,none⟩ (.int .i64 ((at_ s.made i + 1:Nat):Int))).cell? ⟨a.bw + q,3,none⟩ = some (.int .i64 (at_ (bump s.made i) q))
   rw [at_bump (by omega)]
   by_cases e:q = i
   ·subst e;rw [if_pos rfl];exact World.cell?_setCell_same _ _ _ (h.w3 q hq)
   ·rw [if_neg e];exact oth (by show a.bw + i ≠ a.bw + q;omega) (h.w3 q hq),
  fun q r hq => (World.frozen?_setCell _ _ _ _).trans (h.wf q r hq),fun n hn => (h.sc n hn).set (by show a.bw + i < a.hi;omega) (by show a.bw + i ≠ a.bc + n;omega),fun n hn => (World.frozen?_setCell _ _ _ _).trans (h.sf n hn),
  fun n hn => (h.sn n hn).set (by show a.bw + i < a.hi;omega) (by show a.bw + i ≠ a.bn + n;omega),fun n hn => (World.frozen?_setCell _ _ _ _).trans (h.nf n hn),o1,o2,o3,o4,o5,by simpa using o6⟩
theorem BookAt.putOp {w:World} {c:Cf} {a:Ad} {s:St} (h:BookAt w c a s) (i:Nat) (hi:i < c.ops) (x:Cal) (hno:look s.ops i = none) :
  BookAt ((w.alloc (.cells #[.int .i64 x.kind,.int .u64 x.key,.int .u64 x.val,.int .i64 x.lim] 80)).setCell ⟨a.bc + i,0,none⟩ (.pointer (some ⟨w.heap.size,0,none⟩))) c a { s with ops:=s.ops ++ [(i,x)] }:=by
 have o1:=h.o1;have o2:=h.o2;have o3:=h.o3;have o4:=h.o4;have o5:=h.o5;have o6:=h.o6
 obtain ⟨u,hu⟩:=(h.sc i hi).any
 have hlt:=World.block_lt_of_cell? w _ hu
 have hsh:(w.alloc (.cells #[.int .i64 x.kind,.int .u64 x.key,.int .u64 x.val,.int .i64 x.lim] 80)).shape? w.heap.size = some (80,4):=by unfold World.shape?;rw [(MapKept.heap_alloc w _).1];rfl
 have hp:a.bc + i ≠ a.p:=by omega
 have m1:a.bc + i ≠ a.mw:=h.mw.ne hu
 have m2:a.bc + i ≠ a.mc:=h.mc.ne hu
 have m3:a.bc + i ≠ a.mn:=h.mn.ne hu
 have g:Grown w (w.alloc (.cells #[.int .i64 x.kind,.int .u64 x.key,.int .u64 x.val,.int .i64 x.lim] 80)):=by go_grown
 have h':=h.grown g
 have hb:a.bc + i < a.hi:=by omega
 refine ⟨h.ok,oth hp h'.c0,oth hp h'.c1,oth hp h'.c2,oth hp h'.c3,oth hp h'.c4,oth hp h'.c5,oth hp h'.c6,oth hp h'.c7,h'.mw.set m1,h'.mc.set m2,h'.mn.set m3,fun q hq => oth (by show a.bc + i ≠ a.bw + q;omega) (h'.w0 q hq),fun q hq => oth (by show a.bc + i ≠ a.bw + q;omega) (h'.w1 q hq),fun q hq => oth (by show a.bc + i ≠ a.bw + q;omega) (h'.w2 q hq),fun q hq => oth (by show a.bc + i ≠ a.bw + q;omega) (h'.w3 q hq),
  fun q r hq => (World.frozen?_setCell _ _ _ _).trans (h'.wf q r hq),?_,fun n hn => (World.frozen?_setCell _ _ _ _).trans (h'.sf n hn),fun n hn => (h'.sn n hn).set hb (by show a.bc + i ≠ a.bn + n;omega),fun n hn => (World.frozen?_setCell _ _ _ _).trans (h'.nf n hn),o1,o2,o3,o4,o5,by simpa using h'.o6⟩
 intro n hn
 show SlotC _ _ _ (look (s.ops ++ [(i,x)]) n)
 rw [look_app]
 by_cases e:i = n
 ·subst e
  rw [hno]
  simp only [Option.none_or,if_true]
  exact ⟨w.heap.size,o6,World.cell?_setCell_same _ _ _ (gcell g hu),oth (by show a.bc + i ≠ w.heap.size;omega) (by simp),oth (by show a.bc + i ≠ w.heap.size;omega) (by simp),oth (by show a.bc + i ≠ w.heap.size;omega) (by simp),oth (by show a.bc + i ≠ w.heap.size;omega) (by simp),(shape_block (set_block (by show a.bc + i ≠ w.heap.size;omega))).trans hsh⟩
 ·rw [if_neg e,Option.or_none]
  exact (h'.sc n hn).set hb (by show a.bc + i ≠ a.bc + n;omega)
theorem BookAt.putNode {w:World} {c:Cf} {a:Ad} {s:St} (h:BookAt w c a s) (i:Nat) (hi:i < c.nodes) (x:Nat) (hno:look s.nodes i = none) :
  BookAt ((w.alloc (.cells #[.int .i64 x] 3)).setCell ⟨a.bn + i,0,none⟩ (.pointer (some ⟨w.heap.size,0,none⟩))) c a { s with nodes:=s.nodes ++ [(i,x)] }:=by
 have o1:=h.o1;have o2:=h.o2;have o3:=h.o3;have o4:=h.o4;have o5:=h.o5;have o6:=h.o6
 obtain ⟨u,hu⟩:=(h.sn i hi).any
 have hlt:=World.block_lt_of_cell? w _ hu
 have hsh:(w.alloc (.cells #[.int .i64 x] 3)).shape? w.heap.size = some (3,1):=by unfold World.shape?;rw [(MapKept.heap_alloc w _).1];rfl
 have hp:a.bn + i ≠ a.p:=by omega
 have m1:a.bn + i ≠ a.mw:=h.mw.ne hu
 have m2:a.bn + i ≠ a.mc:=h.mc.ne hu
 have m3:a.bn + i ≠ a.mn:=h.mn.ne hu
 have g:Grown w (w.alloc (.cells #[.int .i64 x] 3)):=by go_grown
 have h':=h.grown g
 have hb:a.bn + i < a.hi:=by omega
 refine ⟨h.ok,oth hp h'.c0,oth hp h'.c1,oth hp h'.c2,oth hp h'.c3,oth hp h'.c4,oth hp h'.c5,oth hp h'.c6,oth hp h'.c7,h'.mw.set m1,h'.mc.set m2,h'.mn.set m3,fun q hq => oth (by show a.bn + i ≠ a.bw + q;omega) (h'.w0 q hq),fun q hq => oth (by show a.bn + i ≠ a.bw + q;omega) (h'.w1 q hq),fun q hq => oth (by show a.bn + i ≠ a.bw + q;omega) (h'.w2 q hq),fun q hq => oth (by show a.bn + i ≠ a.bw + q;omega) (h'.w3 q hq),
  fun q r hq => (World.frozen?_setCell _ _ _ _).trans (h'.wf q r hq),fun n hn => (h'.sc n hn).set hb (by show a.bn + i ≠ a.bc + n;omega),fun n hn => (World.frozen?_setCell _ _ _ _).trans (h'.sf n hn),?_,fun n hn => (World.frozen?_setCell _ _ _ _).trans (h'.nf n hn),o1,o2,o3,o4,o5,by simpa using h'.o6⟩
 intro n hn
 show SlotN _ _ _ (look (s.nodes ++ [(i,x)]) n)
 rw [look_app]
 by_cases e:i = n
 ·subst e
  rw [hno]
  simp only [Option.none_or,if_true]
  exact ⟨w.heap.size,o6,World.cell?_setCell_same _ _ _ (gcell g hu),oth (by show a.bn + i ≠ w.heap.size;omega) (by simp),(shape_block (set_block (by show a.bn + i ≠ w.heap.size;omega))).trans hsh⟩
 ·rw [if_neg e,Option.or_none]
  exact (h'.sn n hn).set hb (by show a.bn + i ≠ a.bn + n;omega)
end Go.Proofs.YtcogckjpmmjmbaaGreat
namespace Go.Proofs.YtcogckjpmmjmbaaGreat
open Go.ChangeShapes Go.WideShapes Go.ChangeAt Go.RowKit
set_option maxRecDepth 100000
def lookI {α:Type} (l:List (Nat × α)) (x:Int):Option α:=if x < 0 then none else look l x.toNat
theorem lookI_nat {α:Type} (l:List (Nat × α)) (n:Nat):lookI l n = look l n:=by
 unfold lookI;rw [if_neg (by omega)];rfl
structure Inv (c:Cf) (s:St):Prop where
 l1:s.calls.length = c.t
 l2:s.ins.length = c.t
 l3:s.made.length = c.t
 b1:∀ h,h < c.t → at_ s.calls h ≤ c.k
 b2:∀ h,h < c.t → at_ s.ins h ≤ c.i
 b3:∀ h,h < c.t → at_ s.made h ≤ 2 * c.k
 k1:∀ x ∈ s.ops,∃ h m,h < c.t ∧ m < at_ s.calls h ∧ x.1 = h * c.k + m
 k2:∀ x ∈ s.nodes,∃ h m,h < c.t ∧ m < at_ s.made h ∧ x.1 = 1 + c.b + h * (2 * c.k) + m
 d1:(s.ops.map (·.1)).Nodup
 d2:(s.nodes.map (·.1)).Nodup
theorem look_mem {α:Type}:∀ {l:List (Nat × α)} {n:Nat} {x:α},look l n = some x → (n,x) ∈ l
 | (m,y) :: r,n,x,h => by
  simp only [look] at h
  split at h
  ·cases h;subst_vars;simp
  ·exact List.mem_cons_of_mem _ (look_mem h)
theorem look_none {α:Type} {l:List (Nat × α)} {n:Nat} (h:∀ x ∈ l,x.1 ≠ n):look l n = none:=by
 cases e:look l n with
 | none => rfl
 | some x => exact absurd rfl (h _ (look_mem e))
theorem row_lt {h t k m:Nat} (h1:h < t) (h2:m < k):h * k + m < t * k:=by
 have:=Nat.mul_le_mul_right k (show h + 1 ≤ t from h1)
 rw [Nat.succ_mul] at this
 omega
theorem row_eq {h h' k m m':Nat} (h1:m < k) (h2:m' < k) (e:h * k + m = h' * k + m'):h = h' ∧ m = m':=by
 have a1:(h * k + m) / k = h:=by rw [Nat.mul_comm,Nat.mul_add_div (by omega),Nat.div_eq_of_lt h1,Nat.add_zero]
 have a2:(h' * k + m') / k = h':=by rw [Nat.mul_comm,Nat.mul_add_div (by omega),Nat.div_eq_of_lt h2,Nat.add_zero]
 have:h = h':=by rw [← a1,e,a2]
 subst this
 exact ⟨rfl,by omega⟩
theorem Inv.ro {c:Cf} {s:St} (h:Inv c s) {n:Nat} (hn:c.ops ≤ n):look s.ops n = none:=look_none fun x hx e => by
 obtain ⟨i,m,hi,hm,hxe⟩:=h.k1 x hx
 have:=row_lt (k:=c.k) hi (Nat.lt_of_lt_of_le hm (h.b1 i hi))
 unfold Cf.ops at hn
 omega
theorem Inv.rn {c:Cf} {s:St} (h:Inv c s) {n:Nat} (hn:c.nodes ≤ n):look s.nodes n = none:=look_none fun x hx e => by
 obtain ⟨i,m,hi,hm,hxe⟩:=h.k2 x hx
 have:=row_lt (k:=2 * c.k) hi (Nat.lt_of_lt_of_le hm (h.b3 i hi))
 have e2:c.t * (2 * c.k) = 2 * (c.t * c.k):=by rw [Nat.mul_left_comm]
 unfold Cf.nodes at hn
 omega
theorem Inv.newOp {c:Cf} {s:St} (h:Inv c s) {i:Nat} (_:i < c.t) (hk:at_ s.calls i < c.k):look s.ops (i * c.k + at_ s.calls i) = none:=look_none fun x hx e => by
 obtain ⟨j,m,hj,hm,hxe⟩:=h.k1 x hx
 have:=row_eq hk (Nat.lt_of_lt_of_le hm (h.b1 j hj)) (e.symm.trans hxe)
 obtain ⟨rfl,rfl⟩:=this
 omega
theorem Inv.newNode {c:Cf} {s:St} (h:Inv c s) {i:Nat} (_:i < c.t) (hk:at_ s.made i < 2 * c.k):look s.nodes (1 + c.b + i * (2 * c.k) + at_ s.made i) = none:=look_none fun x hx e => by
 obtain ⟨j,m,hj,hm,hxe⟩:=h.k2 x hx
 have:=row_eq hk (Nat.lt_of_lt_of_le hm (h.b3 j hj)) (show i * (2 * c.k) + at_ s.made i = j * (2 * c.k) + m by omega)
 obtain ⟨rfl,rfl⟩:=this
 omega
theorem writer_in (w:World) (c:Cf) (a:Ad) (s:St) (h:BookAt w c a s) (i:Nat) (hi:i < c.t) :
  Calls Tryz.prog 111 #[.pointer (some ⟨a.p,0,none⟩),.int .i64 i] w fun e w' => e = .returned (.pointer (some ⟨a.bw + i,0,none⟩)) ∧ Grown w w':=by
 have hl:=look_in (P:=Tryz.prog) h.mw Tryz.underlying173 Tryz.underlying3 i hi
 have h5:=h.c5
 clear h hi
 go_enter Tryz.func111,Tryz.ntmps111
 go_wp2
 go_ret
 exact ⟨rfl,by go_grown⟩
theorem writer_out (w:World) (c:Cf) (a:Ad) (s:St) (h:BookAt w c a s) (x:Int) (hx:x < 0 ∨ c.t ≤ x) :
  Calls Tryz.prog 111 #[.pointer (some ⟨a.p,0,none⟩),.int .i64 x] w fun e w' => e = .returned (.pointer none) ∧ Grown w w':=by
 have hl:=look_out (P:=Tryz.prog) h.mw Tryz.underlying173 Tryz.underlying3 (show (zeroValue 187).run Tryz.prog w = .ok (.pointer none) w by kernel_rfl) x hx
 have h5:=h.c5
 clear h hx
 go_enter Tryz.func111,Tryz.ntmps111
 go_wp2
 go_ret
 exact ⟨rfl,by go_grown⟩
theorem getC_any (w:World) (c:Cf) (a:Ad) (s:St) (h:BookAt w c a s) (hI:Inv c s) (x:Int) (o:Option Cal) (ho:lookI s.ops x = o) :
  Calls Tryz.prog 95 #[.map (some a.mc),.int .i64 x] w fun e w' => e = .returned (.tuple #[(o.getD Cal.zero).v,.bool o.isSome]) ∧ Grown w w':=by
 by_cases hx:x < 0 ∨ c.ops ≤ x
 ·have:lookI s.ops x = none:=by
   unfold lookI
   split
   ·rfl
   ·exact hI.ro (by omega)
  rw [this] at ho
  subst ho
  exact getC_out w a.mc a.bc c.ops x h.mc hx
 ·obtain ⟨n,rfl⟩:∃ n:Nat,x = n:=⟨x.toNat,by omega⟩
  rw [lookI_nat] at ho
  have hn:n < c.ops:=by omega
  have hs:=h.sc n hn
  rw [ho] at hs
  cases o with
  | none => exact getC_none w a.mc a.bc c.ops n h.mc hn hs
  | some y => obtain ⟨q,-,h1,h2,h3,h4,h5,h6⟩:=hs;exact getC_some w a.mc a.bc c.ops n q y h.mc hn h1 h2 h3 h4 h5 h6
theorem getN_any (w:World) (c:Cf) (a:Ad) (s:St) (h:BookAt w c a s) (hI:Inv c s) (x:Int) (o:Option Nat) (ho:lookI s.nodes x = o) :
  Calls Tryz.prog 248 #[.map (some a.mn),.int .i64 x] w fun e w' => e = .returned (.tuple #[.int .i64 (o.getD 0:Nat),.bool o.isSome]) ∧ Grown w w':=by
 by_cases hx:x < 0 ∨ c.nodes ≤ x
 ·have:lookI s.nodes x = none:=by
   unfold lookI
   split
   ·rfl
   ·exact hI.rn (by omega)
  rw [this] at ho
  subst ho
  exact getN_out w a.mn a.bn c.nodes x h.mn hx
 ·obtain ⟨n,rfl⟩:∃ n:Nat,x = n:=⟨x.toNat,by omega⟩
  rw [lookI_nat] at ho
  have hn:n < c.nodes:=by omega
  have hs:=h.sn n hn
  rw [ho] at hs
  cases o with
  | none => exact getN_none w a.mn a.bn c.nodes n h.mn hn hs
  | some y => obtain ⟨q,-,h1,h2,h3⟩:=hs;exact getN_some w a.mn a.bn c.nodes n q y h.mn hn h1 h2 h3
theorem four {w:World} {k:Nat} {u0 u1 u2 u3 x0 x1 x2 x3:Value} (h0:w.cell? ⟨k,0,none⟩ = some u0) (h1:w.cell? ⟨k,1,none⟩ = some u1) (h2:w.cell? ⟨k,2,none⟩ = some u2) (h3:w.cell? ⟨k,3,none⟩ = some u3) :
  ((((w.setCell ⟨k,0,none⟩ x0).setCell ⟨k,1,none⟩ x1).setCell ⟨k,2,none⟩ x2).setCell ⟨k,3,none⟩ x3).cell? ⟨k,0,none⟩ = some x0 ∧
  ((((w.setCell ⟨k,0,none⟩ x0).setCell ⟨k,1,none⟩ x1).setCell ⟨k,2,none⟩ x2).setCell ⟨k,3,none⟩ x3).cell? ⟨k,1,none⟩ = some x1 ∧
  ((((w.setCell ⟨k,0,none⟩ x0).setCell ⟨k,1,none⟩ x1).setCell ⟨k,2,none⟩ x2).setCell ⟨k,3,none⟩ x3).cell? ⟨k,2,none⟩ = some x2 ∧
  ((((w.setCell ⟨k,0,none⟩ x0).setCell ⟨k,1,none⟩ x1).setCell ⟨k,2,none⟩ x2).setCell ⟨k,3,none⟩ x3).cell? ⟨k,3,none⟩ = some x3:=by
 have o:∀ {v:World} {i j:Nat} {x y:Value},i ≠ j → v.cell? ⟨k,j,none⟩ = some y → (v.setCell ⟨k,i,none⟩ x).cell? ⟨k,j,none⟩ = some y:=fun hij h => (World.cell?_setCell_other _ _ _ _ (fun e => hij (congrArg Addr.off e))).trans h
 have s:∀ {v:World} {i:Nat} {x y:Value},v.cell? ⟨k,i,none⟩ = some y → (v.setCell ⟨k,i,none⟩ x).cell? ⟨k,i,none⟩ = some x:=fun h => World.cell?_setCell_same _ _ _ h
 exact ⟨o (by decide) (o (by decide) (o (by decide) (s h0))),o (by decide) (o (by decide) (s (o (by decide) h1))),o (by decide) (s (o (by decide) (o (by decide) h2))),s (o (by decide) (o (by decide) (o (by decide) h3)))⟩
theorem Grown.set4 {W w:World} (g:Grown W w) {k:Nat} (hk:W.heap.size ≤ k) (x0 x1 x2 x3:Value):Grown W ((((w.setCell ⟨k,0,none⟩ x0).setCell ⟨k,1,none⟩ x1).setCell ⟨k,2,none⟩ x2).setCell ⟨k,3,none⟩ x3) :=
 (((g.setCell hk _).setCell hk _).setCell hk _).setCell hk _
theorem acell {w:World} {cs:Array Value} {t:TypeId} {i o:Nat} {v:Value} (k:w.cell? ⟨i,o,none⟩ = some v):(w.alloc (.cells cs t)).cell? ⟨i,o,none⟩ = some v:=gcell ((Grown.refl w).alloc _ _) k
def errOf {α:Type} (o:Option α):Int:=if o.isSome then 0 else 4
theorem Call_at (w:World) (c:Cf) (a:Ad) (s:St) (h:BookAt w c a s) (hI:Inv c s) (x:Int) (o:Option Cal) (ho:lookI s.ops x = o) :
  Calls Tryz.prog 36 #[.pointer (some ⟨a.p,0,none⟩),.int .i64 x] w fun e w' => e = .returned (.tuple #[(o.getD Cal.zero).v,.int .i64 (errOf o)]) ∧ Grown w w':=by
 have H:=Lib.hid h
 have HI:=Lib.hid hI
 have HO:=Lib.hid ho
 have h6:=gcell ((Grown.refl w).alloc #[.int .i64 0,.int .u64 0,.int .u64 0,.int .i64 0] 80) h.c6
 clear h hI ho
 cases o with
 | none =>
  go_enter Tryz.func36,Tryz.ntmps36
  go_wp2_with fail
  refine (getC_any _ c a s (H.out.grown (by go_grown)) HI.out x none HO.out).mono ?_;rintro e w1 ⟨rfl,g1⟩
  have z0:w1.cell? ⟨w.heap.size,0,none⟩ = some (.int .i64 0):=gcell g1 (by simp)
  have z1:w1.cell? ⟨w.heap.size,1,none⟩ = some (.int .u64 0):=gcell g1 (by simp)
  have z2:w1.cell? ⟨w.heap.size,2,none⟩ = some (.int .u64 0):=gcell g1 (by simp)
  have z3:w1.cell? ⟨w.heap.size,3,none⟩ = some (.int .i64 0):=gcell g1 (by simp)
  have fz:∀ j,w1.frozen? ⟨w.heap.size,j,none⟩ = false:=fun j => (g1.2.1 _).trans (by simp)
  have f0:=fz 0;have f1:=fz 1;have f2:=fz 2;have f3:=fz 3
  have hlt:w.heap.size < w1.heap.size:=World.block_lt_of_cell? w1 _ z0
  replace g1:=galloc g1
  clear fz h6
  simp only [Option.getD_none,Option.isSome_none,Cal.v,Cal.zero]
  go_wp2
  obtain ⟨e0,e1,e2,e3⟩:=four (x0:=.int .i64 0) (x1:=.int .u64 0) (x2:=.int .u64 0) (x3:=.int .i64 0) z0 z1 z2 z3
  replace e0:=acell (cs:=#[.int .i64 0,.int .u64 0,.int .u64 0,.int .i64 0]) (t:=80) e0
  replace e1:=acell (cs:=#[.int .i64 0,.int .u64 0,.int .u64 0,.int .i64 0]) (t:=80) e1
  replace e2:=acell (cs:=#[.int .i64 0,.int .u64 0,.int .u64 0,.int .i64 0]) (t:=80) e2
  replace e3:=acell (cs:=#[.int .i64 0,.int .u64 0,.int .u64 0,.int .i64 0]) (t:=80) e3
  exact bodyPost_ret (v:=.tuple #[Cal.zero.v,.int .i64 4]) (by simp [results,Tryz.results36,go_sem,e0,e1,e2,e3,Cal.v,Cal.zero]) rfl ⟨rfl,(Grown.set4 g1 (Nat.le_refl _) _ _ _ _).alloc _ _⟩
 | some y =>
  go_enter Tryz.func36,Tryz.ntmps36
  go_wp2_with fail
  refine (getC_any _ c a s (H.out.grown (by go_grown)) HI.out x (some y) HO.out).mono ?_;rintro e w1 ⟨rfl,g1⟩
  have z0:w1.cell? ⟨w.heap.size,0,none⟩ = some (.int .i64 0):=gcell g1 (by simp)
  have z1:w1.cell? ⟨w.heap.size,1,none⟩ = some (.int .u64 0):=gcell g1 (by simp)
  have z2:w1.cell? ⟨w.heap.size,2,none⟩ = some (.int .u64 0):=gcell g1 (by simp)
  have z3:w1.cell? ⟨w.heap.size,3,none⟩ = some (.int .i64 0):=gcell g1 (by simp)
  have fz:∀ j,w1.frozen? ⟨w.heap.size,j,none⟩ = false:=fun j => (g1.2.1 _).trans (by simp)
  have f0:=fz 0;have f1:=fz 1;have f2:=fz 2;have f3:=fz 3
  have hlt:w.heap.size < w1.heap.size:=World.block_lt_of_cell? w1 _ z0
  replace g1:=galloc g1
  clear fz h6
  simp only [Option.getD_some,Option.isSome_some,Cal.v]
  go_wp2
  obtain ⟨e0,e1,e2,e3⟩:=four (x0:=.int .i64 y.kind) (x1:=.int .u64 y.key) (x2:=.int .u64 y.val) (x3:=.int .i64 y.lim) z0 z1 z2 z3
  replace e0:=acell (cs:=#[.int .i64 y.kind,.int .u64 y.key,.int .u64 y.val,.int .i64 y.lim]) (t:=80) e0
  replace e1:=acell (cs:=#[.int .i64 y.kind,.int .u64 y.key,.int .u64 y.val,.int .i64 y.lim]) (t:=80) e1
  replace e2:=acell (cs:=#[.int .i64 y.kind,.int .u64 y.key,.int .u64 y.val,.int .i64 y.lim]) (t:=80) e2
  replace e3:=acell (cs:=#[.int .i64 y.kind,.int .u64 y.key,.int .u64 y.val,.int .i64 y.lim]) (t:=80) e3
  exact bodyPost_ret (v:=.tuple #[y.v,.int .i64 0]) (by simp [results,Tryz.results36,go_sem,e0,e1,e2,e3,Cal.v]) rfl ⟨rfl,(Grown.set4 g1 (Nat.le_refl _) _ _ _ _).alloc _ _⟩
def carriedOf (o:Option Nat):Int:=match o with | none => -1 | some n => n
theorem Carried_at (w:World) (c:Cf) (a:Ad) (s:St) (h:BookAt w c a s) (hI:Inv c s) (x:Int) (o:Option Nat) (ho:lookI s.nodes x = o) :
  Calls Tryz.prog 206 #[.pointer (some ⟨a.p,0,none⟩),.int .i64 x] w fun e w' => e = .returned (.int .i64 (carriedOf o)) ∧ Grown w w':=by
 have H:=Lib.hid h
 have HI:=Lib.hid hI
 have HO:=Lib.hid ho
 have h7:=h.c7
 clear h hI ho
 cases o with
 | none =>
  go_enter Tryz.func206,Tryz.ntmps206
  go_wp2_with fail
  refine (getN_any _ c a s (H.out.grown (by go_grown)) HI.out x (none) HO.out).mono ?_;rintro e w1 ⟨rfl,g1⟩
  clear h7
  simp only [Option.getD_none,Option.isSome_none]
  go_wp2
  go_ret
  exact ⟨rfl,g1⟩
 | some y =>
  go_enter Tryz.func206,Tryz.ntmps206
  go_wp2_with fail
  refine (getN_any _ c a s (H.out.grown (by go_grown)) HI.out x (some y) HO.out).mono ?_;rintro e w1 ⟨rfl,g1⟩
  clear h7
  simp only [Option.getD_some,Option.isSome_some]
  go_wp2
  go_ret
  exact ⟨rfl,g1⟩
def keyOf_ (s:St) (x:Int):Int:=((lookI s.ops (carriedOf (lookI s.nodes x))).getD Cal.zero).key
theorem Key_at (w:World) (c:Cf) (a:Ad) (s:St) (h:BookAt w c a s) (hI:Inv c s) (x v:Int) (hv:keyOf_ s x = v) :
  Calls Tryz.prog 259 #[.pointer (some ⟨a.p,0,none⟩),.int .i64 x] w fun e w' => e = .returned (.int .u64 v) ∧ Grown w w':=by
 obtain ⟨o,ho⟩:∃ o,lookI s.nodes x = o:=⟨_,rfl⟩
 obtain ⟨q,hq⟩:∃ q,lookI s.ops (carriedOf o) = q:=⟨_,rfl⟩
 have hv':(q.getD Cal.zero).key = v:=by rw [← hv,keyOf_,ho,hq]
 have H:=Lib.hid h
 have HI:=Lib.hid hI
 have HO:=Lib.hid ho
 have HQ:=Lib.hid hq
 have HV:=Lib.hid hv'
 clear h hI ho hq hv' hv
 go_enter Tryz.func259,Tryz.ntmps259
 go_wp2_with fail
 refine (Carried_at _ c a s (H.out.grown (by go_grown)) HI.out x o HO.out).mono ?_;rintro e w1 ⟨rfl,g1⟩
 go_wp2_with fail
 refine (Call_at _ c a s (H.out.grown g1) HI.out _ q HQ.out).mono ?_;rintro e w2 ⟨rfl,g2⟩
 simp only [Cal.v]
 go_wp2
 rw [HV.out]
 go_ret
 exact ⟨rfl,by have:=gtr g1 g2;go_grown⟩
end Go.Proofs.YtcogckjpmmjmbaaGreat
namespace Go.Proofs.YtcogckjpmmjmbaaGreat
open Go.ChangeShapes Go.WideShapes Go.ChangeAt Go.RowKit
set_option maxRecDepth 100000
theorem vOp_nat {c:Cf} (h:c.Ok) {i n:Nat} (hi:i < c.t) (hn:n < c.k):vOp c.t c.b c.i c.f c.k i n = ((i * c.k + n:Nat):Int):=by
 unfold vOp
 rw [if_pos ⟨h.z,by omega,by omega,by omega⟩]
 simp
theorem vNode_nat {c:Cf} (h:c.Ok) {i n:Nat} (hi:i < c.t) (hn:n < 2 * c.k):vNode c.t c.b c.i c.f c.k i n = ((1 + c.b + i * (2 * c.k) + n:Nat):Int):=by
 unfold vNode
 rw [if_pos ⟨h.z,by omega,by omega,by omega⟩]
 simp
def kindOk (x:Cal):Prop:=1 ≤ x.kind ∧ x.kind ≤ 4
instance (x:Cal):Decidable (kindOk x):=inferInstanceAs (Decidable (_ ∧ _))
def beginS (c:Cf) (s:St) (i:Nat) (x:Cal):St × Nat × Nat :=
 if at_ s.calls i = c.k then (s,0,2)
 else if x.kind = 1 ∧ at_ s.ins i = c.i then ({ s with calls:=bump s.calls i },0,3)
 else ({ s with calls:=bump s.calls i,ins:=if x.kind = 1 then bump s.ins i else s.ins,ops:=s.ops ++ [(i * c.k + at_ s.calls i,x)] },i * c.k + at_ s.calls i,0)
def beginI (c:Cf) (s:St) (th:Int) (x:Cal):St × Nat × Nat :=
 if th < 0 ∨ c.t ≤ th ∨ ¬ kindOk x then (s,0,1) else beginS c s th.toNat x
def makeS (c:Cf) (s:St) (i op:Nat):St × Nat × Nat :=
 if at_ s.made i = 2 * c.k then (s,0,3)
 else ({ s with made:=bump s.made i,nodes:=s.nodes ++ [(1 + c.b + i * (2 * c.k) + at_ s.made i,op)] },1 + c.b + i * (2 * c.k) + at_ s.made i,0)
def makeI (c:Cf) (s:St) (th op:Int):St × Nat × Nat :=
 if th < 0 ∨ c.t ≤ th ∨ (lookI s.ops op).isNone then (s,0,1) else makeS c s th.toNat op.toNat
def Wr (c:Cf) (a:Ad):Nat → Prop:=fun i => (a.bc ≤ i ∧ i < a.bc + c.ops) ∨ (a.bn ≤ i ∧ i < a.bn + c.nodes) ∨ (a.bw ≤ i ∧ i < a.bw + c.t)
theorem BookAt.wr_own {w:World} {c:Cf} {a:Ad} {s:St} (h:BookAt w c a s):∀ i,Wr c a i → Own a i:=by
 have o1:=h.o1;have o2:=h.o2;have o3:=h.o3;have o4:=h.o4;have o5:=h.o5
 rintro i (h | h | h) <;> exact ⟨by omega,by omega⟩
theorem BookAt.wr_p {w:World} {c:Cf} {a:Ad} {s:St} (h:BookAt w c a s):¬ Wr c a a.p:=by
 have o1:=h.o1;have o2:=h.o2;have o3:=h.o3;have o4:=h.o4;have o5:=h.o5
 rintro (h | h | h) <;> omega
theorem BookAt.wr_new {w:World} {c:Cf} {a:Ad} {s:St} (h:BookAt w c a s) {i:Nat} (hi:w.heap.size ≤ i):¬ Wr c a i:=by
 have o1:=h.o1;have o2:=h.o2;have o3:=h.o3;have o4:=h.o4;have o5:=h.o5;have o6:=h.o6
 rintro (h | h | h) <;> omega
def Told (c:Cf) (a:Ad) (r:St × Nat × Nat) (w:World) (e:Ending) (w':World):Prop :=
 e = .returned (.tuple #[.int .i64 r.2.1,.int .i64 r.2.2]) ∧ But (Own a) w w' ∧ BookAt w' c a r.1
theorem isKind_at (w:World) (n:Int) (v:Bool) (hv:decide (1 ≤ n ∧ n ≤ 4) = v) :
  Calls Tryz.prog 112 #[.int .i64 n] w fun e w' => e = .returned (.bool v) ∧ Grown w w':=by
 subst hv
 by_cases h1:1 ≤ n <;> by_cases h2:n ≤ 4
 all_goals
  simp only [h1,h2,and_self,and_true,and_false,decide_true,decide_false]
  go_enter Tryz.func112,Tryz.ntmps112
  go_wp2
  go_ret
  exact ⟨rfl,by go_grown⟩
theorem Begin_noThread (w:World) (c:Cf) (a:Ad) (s:St) (h:BookAt w c a s) (th:Int) (x:Cal) (ht:th < 0 ∨ c.t ≤ th) :
  Calls Tryz.prog 57 #[.pointer (some ⟨a.p,0,none⟩),.int .i64 th,x.v] w (Told c a (s,0,1) w):=by
 have H:=Lib.hid h
 have HT:=Lib.hid ht
 clear h ht
 unfold Cal.v
 go_enter Tryz.func57,Tryz.ntmps57
 go_wp2_with fail
 refine (writer_out _ c a s (H.out.grown (by go_grown)) th HT.out).mono ?_;rintro e w1 ⟨rfl,g1⟩
 go_wp2_with fail
 go_ret2
 have g:Grown w w1:=gtr (by go_grown) g1
 exact ⟨rfl,But.of_grown g,H.out.grown g⟩
theorem Begin_noKind (w:World) (c:Cf) (a:Ad) (s:St) (h:BookAt w c a s) (i:Nat) (hi:i < c.t) (x:Cal) (hk:¬ kindOk x) :
  Calls Tryz.prog 57 #[.pointer (some ⟨a.p,0,none⟩),.int .i64 i,x.v] w (Told c a (s,0,1) w):=by
 have H:=Lib.hid h
 have HI:=Lib.hid hi
 have HK:Hid (decide (1 ≤ x.kind ∧ x.kind ≤ 4) = false):=Lib.hid (decide_eq_false hk)
 clear h hi hk
 unfold Cal.v
 go_enter Tryz.func57,Tryz.ntmps57
 go_wp2_with fail
 refine (writer_in _ c a s (H.out.grown (by go_grown)) i HI.out).mono ?_;rintro e w1 ⟨rfl,g1⟩
 have z0:w1.cell? ⟨w.heap.size,0,none⟩ = some (.int .i64 x.kind):=gcell g1 (by simp)
 go_wp2_with fail
 refine (isKind_at _ _ _ HK.out).mono ?_;rintro e w2 ⟨rfl,g2⟩
 go_wp2_with fail
 go_ret2
 have g:Grown w w2:=gtr (gtr (by go_grown) g1) g2
 exact ⟨rfl,But.of_grown g,H.out.grown g⟩
theorem Begin_retired (w:World) (c:Cf) (a:Ad) (s:St) (h:BookAt w c a s) (hI:Inv c s) (i:Nat) (hi:i < c.t) (x:Cal) (hk:kindOk x) (e1:at_ s.calls i = c.k) :
  Calls Tryz.prog 57 #[.pointer (some ⟨a.p,0,none⟩),.int .i64 i,x.v] w (Told c a (s,0,2) w):=by
 have H:=Lib.hid h
 have HN:=Lib.hid hI
 have HI:=Lib.hid hi
 have HK:Hid (decide (1 ≤ x.kind ∧ x.kind ≤ 4) = true):=Lib.hid (decide_eq_true hk)
 have OK:=h.ok
 have k2:=OK.k2
 have b1:=hI.b1 i hi
 have i2:=OK.i2
 have b2:=hI.b2 i hi
 clear h hi hk hI
 unfold Cal.v
 go_enter Tryz.func57,Tryz.ntmps57
 go_wp2_with fail
 refine (writer_in _ c a s (H.out.grown (by go_grown)) i HI.out).mono ?_;rintro e w1 ⟨rfl,g1⟩
 have z0:w1.cell? ⟨w.heap.size,0,none⟩ = some (.int .i64 x.kind):=gcell g1 (by simp)
 go_wp2_with fail
 refine (isKind_at _ _ _ HK.out).mono ?_;rintro e w2 ⟨rfl,g2⟩
 replace z0:=gcell g2 z0
 have z1:w2.cell? ⟨w.heap.size,1,none⟩ = some (.int .u64 x.key):=gcell g2 (gcell g1 (by simp))
 have z2:w2.cell? ⟨w.heap.size,2,none⟩ = some (.int .u64 x.val):=gcell g2 (gcell g1 (by simp))
 have z3:w2.cell? ⟨w.heap.size,3,none⟩ = some (.int .i64 x.lim):=gcell g2 (gcell g1 (by simp))
 have g:Grown w w2:=gtr (gtr (by go_grown) g1) g2
 have H2:=Lib.hid (H.out.grown g)
 have hT:¬ Wr c a w.heap.size:=H.out.wr_new (Nat.le_refl _)
 go_wp2_with fail
 refine wp_region_planb (Wr c a) (.one [0,1,2,3,4,5,6,7,8] 9 (.fin [10,11,12,13,14])) (by kernel_rfl) (by kernel_rfl) (by kernel_rfl) ?_
 intro w3 g3
 have H3:=Lib.hid (H2.out.grown g3)
 replace g:=gtr g g3
 have d4:∀ g:ButW (Wr c a) w3,g.w.cell? ⟨a.p,4,none⟩ = some (.int .i64 c.k):=ButW.cell H3.out.wr_p H3.out.c4
 replace z0:=gcell g3 z0
 replace z1:=gcell g3 z1
 replace z2:=gcell g3 z2
 replace z3:=gcell g3 z3
 clear g1 g2 g3 H2 H
 refine plan_one ?_
 simp only [nths,nth,List.map_cons,List.map_nil,List.getD_cons_zero,List.getD_cons_succ]
 repeat go_big_quiet_step (fail)
 refine wpQuiet_nil ?_
 clear d4
 go_wp2_with fail
 refine (next_none _ _ _ _ _ (H3.out.w1 i HI.out) (by omega)).mono ?_;rintro e w4 ⟨rfl,g4⟩
 go_wp2_with fail
 refine nxt_but (But.of_grown g4) (plan_fin ?_)
 simp only [nths,nth,List.map_cons,List.map_nil,List.getD_cons_zero,List.getD_cons_succ]
 repeat go_big_quiet_step (fail)
 refine wpQuiet_nil ?_
 go_wp2_with fail
 go_ret2
 exact ⟨rfl,But.of_grown (gtr g g4),H3.out.grown g4⟩
theorem Begin_full (w:World) (c:Cf) (a:Ad) (s:St) (h:BookAt w c a s) (hI:Inv c s) (i:Nat) (hi:i < c.t) (x:Cal) (hk:kindOk x) (e1:¬ at_ s.calls i = c.k) (h2:Hid (x.kind = 1)) (e3:at_ s.ins i = c.i) :
  Calls Tryz.prog 57 #[.pointer (some ⟨a.p,0,none⟩),.int .i64 i,x.v] w (Told c a ({ s with calls:=bump s.calls i },0,3) w):=by
 have H:=Lib.hid h
 have HN:=Lib.hid hI
 have HI:=Lib.hid hi
 have HK:Hid (decide (1 ≤ x.kind ∧ x.kind ≤ 4) = true):=Lib.hid (decide_eq_true hk)
 have OK:=h.ok
 have k2:=OK.k2
 have b1:=hI.b1 i hi
 have i2:=OK.i2
 have b2:=hI.b2 i hi
 clear h hi hk hI
 unfold Cal.v
 go_enter Tryz.func57,Tryz.ntmps57
 go_wp2_with fail
 refine (writer_in _ c a s (H.out.grown (by go_grown)) i HI.out).mono ?_;rintro e w1 ⟨rfl,g1⟩
 have z0:w1.cell? ⟨w.heap.size,0,none⟩ = some (.int .i64 x.kind):=gcell g1 (by simp)
 go_wp2_with fail
 refine (isKind_at _ _ _ HK.out).mono ?_;rintro e w2 ⟨rfl,g2⟩
 replace z0:=gcell g2 z0
 have z1:w2.cell? ⟨w.heap.size,1,none⟩ = some (.int .u64 x.key):=gcell g2 (gcell g1 (by simp))
 have z2:w2.cell? ⟨w.heap.size,2,none⟩ = some (.int .u64 x.val):=gcell g2 (gcell g1 (by simp))
 have z3:w2.cell? ⟨w.heap.size,3,none⟩ = some (.int .i64 x.lim):=gcell g2 (gcell g1 (by simp))
 have g:Grown w w2:=gtr (gtr (by go_grown) g1) g2
 have H2:=Lib.hid (H.out.grown g)
 have hT:¬ Wr c a w.heap.size:=H.out.wr_new (Nat.le_refl _)
 go_wp2_with fail
 refine wp_region_planb (Wr c a) (.one [0,1,2,3,4,5,6,7,8] 9 (.fin [10,11,12,13,14])) (by kernel_rfl) (by kernel_rfl) (by kernel_rfl) ?_
 intro w3 g3
 have H3:=Lib.hid (H2.out.grown g3)
 replace g:=gtr g g3
 have d4:∀ g:ButW (Wr c a) w3,g.w.cell? ⟨a.p,4,none⟩ = some (.int .i64 c.k):=ButW.cell H3.out.wr_p H3.out.c4
 replace z0:=gcell g3 z0
 replace z1:=gcell g3 z1
 replace z2:=gcell g3 z2
 replace z3:=gcell g3 z3
 clear g1 g2 g3 H2 H
 refine plan_one ?_
 simp only [nths,nth,List.map_cons,List.map_nil,List.getD_cons_zero,List.getD_cons_succ]
 repeat go_big_quiet_step (fail)
 refine wpQuiet_nil ?_
 clear d4
 go_wp2_with fail
 refine (next_more _ _ _ _ _ (H3.out.w1 i HI.out) (H3.out.wf i 1 HI.out) (show at_ s.calls i < c.k by omega) (by omega)).mono ?_;rintro e w5 ⟨rfl,w4,g4,rfl⟩
 have H5:=Lib.hid ((H3.out.grown g4).bumpC i HI.out HN.out.l1)
 have q5:But (Wr c a) w3 (w4.setCell ⟨a.bw + i,1,none⟩ (.int .i64 ((at_ s.calls i + 1:Nat):Int))):=(But.of_grown g4).setCell (.inl (.inr (.inr ⟨by show a.bw ≤ a.bw + i;omega,by show a.bw + i < a.bw + c.t;have:=HI.out;omega⟩))) _
 generalize w4.setCell ⟨a.bw + i,1,none⟩ (.int .i64 ((at_ s.calls i + 1:Nat):Int)) = w5 at *
 go_wp2_with fail
 refine nxt_but q5 (plan_fin ?_)
 simp only [nths,nth,List.map_cons,List.map_nil,List.getD_cons_zero,List.getD_cons_succ]
 repeat go_big_quiet_step (fail)
 refine wpQuiet_nil ?_
 replace z0:=q5.cell hT z0
 replace z1:=q5.cell hT z1
 replace z2:=q5.cell hT z2
 replace z3:=q5.cell hT z3
 have Q5:But (Wr c a) w w5:=(But.of_grown g).trans q5
 clear g4 q5 H3 g
 have e4:(x.kind == 1) = true:=by simp [h2.out]
 go_wp2_with fail
 refine wp_region_planb (Wr c a) (.one [0,1,2,3,4,5,6,7,8] 9 (.fin [10,11,12,13,14])) (by kernel_rfl) (by kernel_rfl) (by kernel_rfl) ?_
 intro w6 g6
 have H6:=Lib.hid (H5.out.grown g6)
 have d2:∀ g:ButW (Wr c a) w6,g.w.cell? ⟨a.p,2,none⟩ = some (.int .i64 c.i):=ButW.cell H6.out.wr_p H6.out.c2
 replace z0:=gcell g6 z0
 replace z1:=gcell g6 z1
 replace z2:=gcell g6 z2
 replace z3:=gcell g6 z3
 replace Q5:=Q5.trans (But.of_grown g6)
 clear g6 H5
 refine plan_one ?_
 simp only [nths,nth,List.map_cons,List.map_nil,List.getD_cons_zero,List.getD_cons_succ]
 repeat go_big_quiet_step (fail)
 refine wpQuiet_nil ?_
 clear d2
 go_wp2_with fail
 refine (next_none _ _ _ _ _ (H6.out.w2 i HI.out) (show c.i ≤ at_ s.ins i by omega)).mono ?_;rintro e w7 ⟨rfl,g7⟩
 go_wp2_with fail
 refine nxt_but (But.of_grown g7) (plan_fin ?_)
 simp only [nths,nth,List.map_cons,List.map_nil,List.getD_cons_zero,List.getD_cons_succ]
 repeat go_big_quiet_step (fail)
 refine wpQuiet_nil ?_
 go_wp2_with fail
 go_ret2
 exact ⟨rfl,(Q5.trans (But.of_grown g7)).mono H6.out.wr_own,H6.out.grown g7⟩
theorem Begin_insert (w:World) (c:Cf) (a:Ad) (s:St) (h:BookAt w c a s) (hI:Inv c s) (i:Nat) (hi:i < c.t) (x:Cal) (hk:kindOk x) (e1:¬ at_ s.calls i = c.k) (h2:Hid (x.kind = 1)) (e3:¬ at_ s.ins i = c.i) (op:Nat) (hop:i * c.k + at_ s.calls i = op) :
  Calls Tryz.prog 57 #[.pointer (some ⟨a.p,0,none⟩),.int .i64 i,x.v] w (Told c a ({ s with calls:=bump s.calls i,ins:=bump s.ins i,ops:=s.ops ++ [(op,x)] },op,0) w):=by
 have HV:Hid (vOp c.t c.b c.i c.f c.k i (at_ s.calls i) = (op:Int)):=Lib.hid (by rw [← hop];exact vOp_nat h.ok hi (by have:=hI.b1 i hi;omega))
 have HL:Hid (op < c.ops):=Lib.hid (by rw [← hop];exact row_lt hi (by have:=hI.b1 i hi;omega))
 have HO:Hid (look s.ops op = none):=Lib.hid (by rw [← hop];exact hI.newOp hi (by have:=hI.b1 i hi;omega))
 clear hop
 have H:=Lib.hid h
 have HN:=Lib.hid hI
 have HI:=Lib.hid hi
 have HK:Hid (decide (1 ≤ x.kind ∧ x.kind ≤ 4) = true):=Lib.hid (decide_eq_true hk)
 have OK:=h.ok
 have k2:=OK.k2
 have b1:=hI.b1 i hi
 have i2:=OK.i2
 have b2:=hI.b2 i hi
 clear h hi hk hI
 unfold Cal.v
 go_enter Tryz.func57,Tryz.ntmps57
 go_wp2_with fail
 refine (writer_in _ c a s (H.out.grown (by go_grown)) i HI.out).mono ?_;rintro e w1 ⟨rfl,g1⟩
 have z0:w1.cell? ⟨w.heap.size,0,none⟩ = some (.int .i64 x.kind):=gcell g1 (by simp)
 go_wp2_with fail
 refine (isKind_at _ _ _ HK.out).mono ?_;rintro e w2 ⟨rfl,g2⟩
 replace z0:=gcell g2 z0
 have z1:w2.cell? ⟨w.heap.size,1,none⟩ = some (.int .u64 x.key):=gcell g2 (gcell g1 (by simp))
 have z2:w2.cell? ⟨w.heap.size,2,none⟩ = some (.int .u64 x.val):=gcell g2 (gcell g1 (by simp))
 have z3:w2.cell? ⟨w.heap.size,3,none⟩ = some (.int .i64 x.lim):=gcell g2 (gcell g1 (by simp))
 have g:Grown w w2:=gtr (gtr (by go_grown) g1) g2
 have H2:=Lib.hid (H.out.grown g)
 have hT:¬ Wr c a w.heap.size:=H.out.wr_new (Nat.le_refl _)
 go_wp2_with fail
 refine wp_region_planb (Wr c a) (.one [0,1,2,3,4,5,6,7,8] 9 (.fin [10,11,12,13,14])) (by kernel_rfl) (by kernel_rfl) (by kernel_rfl) ?_
 intro w3 g3
 have H3:=Lib.hid (H2.out.grown g3)
 replace g:=gtr g g3
 have d4:∀ g:ButW (Wr c a) w3,g.w.cell? ⟨a.p,4,none⟩ = some (.int .i64 c.k):=ButW.cell H3.out.wr_p H3.out.c4
 replace z0:=gcell g3 z0
 replace z1:=gcell g3 z1
 replace z2:=gcell g3 z2
 replace z3:=gcell g3 z3
 clear g1 g2 g3 H2 H
 refine plan_one ?_
 simp only [nths,nth,List.map_cons,List.map_nil,List.getD_cons_zero,List.getD_cons_succ]
 repeat go_big_quiet_step (fail)
 refine wpQuiet_nil ?_
 clear d4
 go_wp2_with fail
 refine (next_more _ _ _ _ _ (H3.out.w1 i HI.out) (H3.out.wf i 1 HI.out) (show at_ s.calls i < c.k by omega) (by omega)).mono ?_;rintro e w5 ⟨rfl,w4,g4,rfl⟩
 have H5:=Lib.hid ((H3.out.grown g4).bumpC i HI.out HN.out.l1)
 have q5:But (Wr c a) w3 (w4.setCell ⟨a.bw + i,1,none⟩ (.int .i64 ((at_ s.calls i + 1:Nat):Int))):=(But.of_grown g4).setCell (.inl (.inr (.inr ⟨by show a.bw ≤ a.bw + i;omega,by show a.bw + i < a.bw + c.t;have:=HI.out;omega⟩))) _
 generalize w4.setCell ⟨a.bw + i,1,none⟩ (.int .i64 ((at_ s.calls i + 1:Nat):Int)) = w5 at *
 go_wp2_with fail
 refine nxt_but q5 (plan_fin ?_)
 simp only [nths,nth,List.map_cons,List.map_nil,List.getD_cons_zero,List.getD_cons_succ]
 repeat go_big_quiet_step (fail)
 refine wpQuiet_nil ?_
 replace z0:=q5.cell hT z0
 replace z1:=q5.cell hT z1
 replace z2:=q5.cell hT z2
 replace z3:=q5.cell hT z3
 have Q5:But (Wr c a) w w5:=(But.of_grown g).trans q5
 clear g4 q5 H3 g
 have e4:(x.kind == 1) = true:=by simp [h2.out]
 go_wp2_with fail
 refine wp_region_planb (Wr c a) (.one [0,1,2,3,4,5,6,7,8] 9 (.fin [10,11,12,13,14])) (by kernel_rfl) (by kernel_rfl) (by kernel_rfl) ?_
 intro w6 g6
 have H6:=Lib.hid (H5.out.grown g6)
 have d2:∀ g:ButW (Wr c a) w6,g.w.cell? ⟨a.p,2,none⟩ = some (.int .i64 c.i):=ButW.cell H6.out.wr_p H6.out.c2
 replace z0:=gcell g6 z0
 replace z1:=gcell g6 z1
 replace z2:=gcell g6 z2
 replace z3:=gcell g6 z3
 replace Q5:=Q5.trans (But.of_grown g6)
 clear g6 H5
 refine plan_one ?_
 simp only [nths,nth,List.map_cons,List.map_nil,List.getD_cons_zero,List.getD_cons_succ]
 repeat go_big_quiet_step (fail)
 refine wpQuiet_nil ?_
 clear d2
 go_wp2_with fail
 refine (next_more _ _ _ _ _ (H6.out.w2 i HI.out) (H6.out.wf i 2 HI.out) (show at_ s.ins i < c.i by omega) (by omega)).mono ?_;rintro e w8 ⟨rfl,w7,g7,rfl⟩
 have H7:=Lib.hid ((H6.out.grown g7).bumpI i HI.out HN.out.l2)
 have q8:But (Wr c a) w6 (w7.setCell ⟨a.bw + i,2,none⟩ (.int .i64 ((at_ s.ins i + 1:Nat):Int))):=(But.of_grown g7).setCell (.inl (.inr (.inr ⟨by show a.bw ≤ a.bw + i;omega,by show a.bw + i < a.bw + c.t;have:=HI.out;omega⟩))) _
 replace H7:Hid (BookAt (w7.setCell ⟨a.bw + i,2,none⟩ (.int .i64 ((at_ s.ins i + 1:Nat):Int))) c a { s with calls:=bump s.calls i,ins:=bump s.ins i }):=H7
 generalize w7.setCell ⟨a.bw + i,2,none⟩ (.int .i64 ((at_ s.ins i + 1:Nat):Int)) = w8 at *
 go_wp2_with fail
 refine nxt_but q8 (plan_fin ?_)
 simp only [nths,nth,List.map_cons,List.map_nil,List.getD_cons_zero,List.getD_cons_succ]
 repeat go_big_quiet_step (fail)
 refine wpQuiet_nil ?_
 replace z0:=q8.cell hT z0
 replace z1:=q8.cell hT z1
 replace z2:=q8.cell hT z2
 replace z3:=q8.cell hT z3
 replace Q5:=Q5.trans q8
 clear g7 q8 H6
 go_wp2_with fail
 refine wp_region_plang (.one [0,1,2,3,4,5,6,7,8] 9 (.fin [10])) (by kernel_rfl) (by kernel_rfl) (by kernel_rfl) ?_
 intro v1 k1
 have HB:=Lib.hid (H7.out.grown k1)
 have d0:∀ g:GrW v1,g.w.cell? ⟨a.p,0,none⟩ = some (.int .i64 c.t):=GrW.cell HB.out.c0
 have d1:∀ g:GrW v1,g.w.cell? ⟨a.p,1,none⟩ = some (.int .i64 c.b):=GrW.cell HB.out.c1
 have d2:∀ g:GrW v1,g.w.cell? ⟨a.p,2,none⟩ = some (.int .i64 c.i):=GrW.cell HB.out.c2
 have d3:∀ g:GrW v1,g.w.cell? ⟨a.p,3,none⟩ = some (.int .i64 c.f):=GrW.cell HB.out.c3
 have d4:∀ g:GrW v1,g.w.cell? ⟨a.p,4,none⟩ = some (.int .i64 c.k):=GrW.cell HB.out.c4
 have d5:∀ g:GrW v1,g.w.cell? ⟨a.bw + i,0,none⟩ = some (.int .i64 i):=GrW.cell (HB.out.w0 i HI.out)
 replace z0:=gcell k1 z0
 replace z1:=gcell k1 z1
 replace z2:=gcell k1 z2
 replace z3:=gcell k1 z3
 replace Q5:=Q5.trans (But.of_grown k1)
 clear k1 H7
 refine plan_one ?_
 simp only [nths,nth,List.map_cons,List.map_nil,List.getD_cons_zero,List.getD_cons_succ]
 repeat go_big_quiet_step (fail)
 refine wpQuiet_nil ?_
 clear d0 d1 d2 d3 d4 d5
 go_wp2_with fail
 refine (Op_at _ _ _ _ _ _ _ _ _ HV.out).mono ?_;rintro e v2 ⟨rfl,k2'⟩
 go_wp2_with fail
 refine nxt_grow k2' (plan_fin ?_)
 simp only [nths,nth,List.map_cons,List.map_nil,List.getD_cons_zero,List.getD_cons_succ]
 repeat go_big_quiet_step (fail)
 refine wpQuiet_nil ?_
 replace z0:=gcell k2' z0
 replace z1:=gcell k2' z1
 replace z2:=gcell k2' z2
 replace z3:=gcell k2' z3
 replace Q5:=Q5.trans (But.of_grown k2')
 have HC:=Lib.hid (HB.out.grown k2')
 clear k2' HB
 go_wp2_with fail
 refine wp_region_planb (Wr c a) (.one [0,1,2,3,4,5] 6 (.fin [])) (by kernel_rfl) (by kernel_rfl) (by kernel_rfl) ?_
 intro v3 k3
 have HD:=Lib.hid (HC.out.grown k3)
 have d6:∀ g:ButW (Wr c a) v3,g.w.cell? ⟨a.p,6,none⟩ = some (.map (some a.mc)):=ButW.cell HD.out.wr_p HD.out.c6
 replace z0:∀ g:ButW (Wr c a) v3,g.w.cell? ⟨w.heap.size,0,none⟩ = some (.int .i64 x.kind):=ButW.cell hT (gcell k3 z0)
 replace z1:∀ g:ButW (Wr c a) v3,g.w.cell? ⟨w.heap.size,1,none⟩ = some (.int .u64 x.key):=ButW.cell hT (gcell k3 z1)
 replace z2:∀ g:ButW (Wr c a) v3,g.w.cell? ⟨w.heap.size,2,none⟩ = some (.int .u64 x.val):=ButW.cell hT (gcell k3 z2)
 replace z3:∀ g:ButW (Wr c a) v3,g.w.cell? ⟨w.heap.size,3,none⟩ = some (.int .i64 x.lim):=ButW.cell hT (gcell k3 z3)
 replace Q5:=Q5.trans (But.of_grown k3)
 clear k3 HC
 refine plan_one ?_
 simp only [nths,nth,List.map_cons,List.map_nil,List.getD_cons_zero,List.getD_cons_succ]
 repeat go_big_quiet_step (fail)
 refine wpQuiet_nil ?_
 clear z0 z1 z2 z3 d6
 obtain ⟨u,hu⟩:=(HD.out.sc op HL.out).any
 go_wp2_with fail
 refine (putC_at _ _ _ _ op x u HD.out.mc HL.out hu (HD.out.sf op HL.out)).mono ?_;rintro e v4 ⟨rfl,rfl⟩
 have HE:=Lib.hid (HD.out.putOp op HL.out x HO.out)
 have q9:But (Wr c a) v3 ((v3.alloc (.cells #[.int .i64 x.kind,.int .u64 x.key,.int .u64 x.val,.int .i64 x.lim] 80)).setCell ⟨a.bc + op,0,none⟩ (.pointer (some ⟨v3.heap.size,0,none⟩))) :=
  ((But.refl _ _).alloc _ _).setCell (.inl (.inl ⟨by show a.bc ≤ a.bc + op;omega,by show a.bc + op < a.bc + c.ops;have:=HL.out;omega⟩)) _
 generalize (v3.alloc (.cells #[.int .i64 x.kind,.int .u64 x.key,.int .u64 x.val,.int .i64 x.lim] 80)).setCell ⟨a.bc + op,0,none⟩ (.pointer (some ⟨v3.heap.size,0,none⟩)) = v5 at *
 go_wp2_with fail
 refine nxt_but q9 (plan_fin ?_)
 simp only [nths,List.map_nil]
 refine wpQuiet_nil ?_
 replace Q5:=Q5.trans q9
 clear q9 hu HD
 go_wp2_with fail
 go_ret2
 exact ⟨rfl,Q5.mono HE.out.wr_own,HE.out⟩
theorem Begin_other (w:World) (c:Cf) (a:Ad) (s:St) (h:BookAt w c a s) (hI:Inv c s) (i:Nat) (hi:i < c.t) (x:Cal) (hk:kindOk x) (e1:¬ at_ s.calls i = c.k) (h2:Hid (¬ x.kind = 1)) (op:Nat) (hop:i * c.k + at_ s.calls i = op) :
  Calls Tryz.prog 57 #[.pointer (some ⟨a.p,0,none⟩),.int .i64 i,x.v] w (Told c a ({ s with calls:=bump s.calls i,ops:=s.ops ++ [(op,x)] },op,0) w):=by
 have HV:Hid (vOp c.t c.b c.i c.f c.k i (at_ s.calls i) = (op:Int)):=Lib.hid (by rw [← hop];exact vOp_nat h.ok hi (by have:=hI.b1 i hi;omega))
 have HL:Hid (op < c.ops):=Lib.hid (by rw [← hop];exact row_lt hi (by have:=hI.b1 i hi;omega))
 have HO:Hid (look s.ops op = none):=Lib.hid (by rw [← hop];exact hI.newOp hi (by have:=hI.b1 i hi;omega))
 clear hop
 have H:=Lib.hid h
 have HN:=Lib.hid hI
 have HI:=Lib.hid hi
 have HK:Hid (decide (1 ≤ x.kind ∧ x.kind ≤ 4) = true):=Lib.hid (decide_eq_true hk)
 have OK:=h.ok
 have k2:=OK.k2
 have b1:=hI.b1 i hi
 have i2:=OK.i2
 have b2:=hI.b2 i hi
 clear h hi hk hI
 unfold Cal.v
 go_enter Tryz.func57,Tryz.ntmps57
 go_wp2_with fail
 refine (writer_in _ c a s (H.out.grown (by go_grown)) i HI.out).mono ?_;rintro e w1 ⟨rfl,g1⟩
 have z0:w1.cell? ⟨w.heap.size,0,none⟩ = some (.int .i64 x.kind):=gcell g1 (by simp)
 go_wp2_with fail
 refine (isKind_at _ _ _ HK.out).mono ?_;rintro e w2 ⟨rfl,g2⟩
 replace z0:=gcell g2 z0
 have z1:w2.cell? ⟨w.heap.size,1,none⟩ = some (.int .u64 x.key):=gcell g2 (gcell g1 (by simp))
 have z2:w2.cell? ⟨w.heap.size,2,none⟩ = some (.int .u64 x.val):=gcell g2 (gcell g1 (by simp))
 have z3:w2.cell? ⟨w.heap.size,3,none⟩ = some (.int .i64 x.lim):=gcell g2 (gcell g1 (by simp))
 have g:Grown w w2:=gtr (gtr (by go_grown) g1) g2
 have H2:=Lib.hid (H.out.grown g)
 have hT:¬ Wr c a w.heap.size:=H.out.wr_new (Nat.le_refl _)
 go_wp2_with fail
 refine wp_region_planb (Wr c a) (.one [0,1,2,3,4,5,6,7,8] 9 (.fin [10,11,12,13,14])) (by kernel_rfl) (by kernel_rfl) (by kernel_rfl) ?_
 intro w3 g3
 have H3:=Lib.hid (H2.out.grown g3)
 replace g:=gtr g g3
 have d4:∀ g:ButW (Wr c a) w3,g.w.cell? ⟨a.p,4,none⟩ = some (.int .i64 c.k):=ButW.cell H3.out.wr_p H3.out.c4
 replace z0:=gcell g3 z0
 replace z1:=gcell g3 z1
 replace z2:=gcell g3 z2
 replace z3:=gcell g3 z3
 clear g1 g2 g3 H2 H
 refine plan_one ?_
 simp only [nths,nth,List.map_cons,List.map_nil,List.getD_cons_zero,List.getD_cons_succ]
 repeat go_big_quiet_step (fail)
 refine wpQuiet_nil ?_
 clear d4
 go_wp2_with fail
 refine (next_more _ _ _ _ _ (H3.out.w1 i HI.out) (H3.out.wf i 1 HI.out) (show at_ s.calls i < c.k by omega) (by omega)).mono ?_;rintro e w5 ⟨rfl,w4,g4,rfl⟩
 have H5:=Lib.hid ((H3.out.grown g4).bumpC i HI.out HN.out.l1)
 have q5:But (Wr c a) w3 (w4.setCell ⟨a.bw + i,1,none⟩ (.int .i64 ((at_ s.calls i + 1:Nat):Int))):=(But.of_grown g4).setCell (.inl (.inr (.inr ⟨by show a.bw ≤ a.bw + i;omega,by show a.bw + i < a.bw + c.t;have:=HI.out;omega⟩))) _
 generalize w4.setCell ⟨a.bw + i,1,none⟩ (.int .i64 ((at_ s.calls i + 1:Nat):Int)) = w5 at *
 go_wp2_with fail
 refine nxt_but q5 (plan_fin ?_)
 simp only [nths,nth,List.map_cons,List.map_nil,List.getD_cons_zero,List.getD_cons_succ]
 repeat go_big_quiet_step (fail)
 refine wpQuiet_nil ?_
 replace z0:=q5.cell hT z0
 replace z1:=q5.cell hT z1
 replace z2:=q5.cell hT z2
 replace z3:=q5.cell hT z3
 have Q5:But (Wr c a) w w5:=(But.of_grown g).trans q5
 clear g4 q5 H3 g
 have e4:(x.kind == 1) = false:=by simp [h2.out]
 have H7:=H5
 go_wp2_with fail
 refine wp_region_plang (.one [0,1,2,3,4,5,6,7,8] 9 (.fin [10])) (by kernel_rfl) (by kernel_rfl) (by kernel_rfl) ?_
 intro v1 k1
 have HB:=Lib.hid (H7.out.grown k1)
 have d0:∀ g:GrW v1,g.w.cell? ⟨a.p,0,none⟩ = some (.int .i64 c.t):=GrW.cell HB.out.c0
 have d1:∀ g:GrW v1,g.w.cell? ⟨a.p,1,none⟩ = some (.int .i64 c.b):=GrW.cell HB.out.c1
 have d2:∀ g:GrW v1,g.w.cell? ⟨a.p,2,none⟩ = some (.int .i64 c.i):=GrW.cell HB.out.c2
 have d3:∀ g:GrW v1,g.w.cell? ⟨a.p,3,none⟩ = some (.int .i64 c.f):=GrW.cell HB.out.c3
 have d4:∀ g:GrW v1,g.w.cell? ⟨a.p,4,none⟩ = some (.int .i64 c.k):=GrW.cell HB.out.c4
 have d5:∀ g:GrW v1,g.w.cell? ⟨a.bw + i,0,none⟩ = some (.int .i64 i):=GrW.cell (HB.out.w0 i HI.out)
 replace z0:=gcell k1 z0
 replace z1:=gcell k1 z1
 replace z2:=gcell k1 z2
 replace z3:=gcell k1 z3
 replace Q5:=Q5.trans (But.of_grown k1)
 clear k1 H7
 refine plan_one ?_
 simp only [nths,nth,List.map_cons,List.map_nil,List.getD_cons_zero,List.getD_cons_succ]
 repeat go_big_quiet_step (fail)
 refine wpQuiet_nil ?_
 clear d0 d1 d2 d3 d4 d5
 go_wp2_with fail
 refine (Op_at _ _ _ _ _ _ _ _ _ HV.out).mono ?_;rintro e v2 ⟨rfl,k2'⟩
 go_wp2_with fail
 refine nxt_grow k2' (plan_fin ?_)
 simp only [nths,nth,List.map_cons,List.map_nil,List.getD_cons_zero,List.getD_cons_succ]
 repeat go_big_quiet_step (fail)
 refine wpQuiet_nil ?_
 replace z0:=gcell k2' z0
 replace z1:=gcell k2' z1
 replace z2:=gcell k2' z2
 replace z3:=gcell k2' z3
 replace Q5:=Q5.trans (But.of_grown k2')
 have HC:=Lib.hid (HB.out.grown k2')
 clear k2' HB
 go_wp2_with fail
 refine wp_region_planb (Wr c a) (.one [0,1,2,3,4,5] 6 (.fin [])) (by kernel_rfl) (by kernel_rfl) (by kernel_rfl) ?_
 intro v3 k3
 have HD:=Lib.hid (HC.out.grown k3)
 have d6:∀ g:ButW (Wr c a) v3,g.w.cell? ⟨a.p,6,none⟩ = some (.map (some a.mc)):=ButW.cell HD.out.wr_p HD.out.c6
 replace z0:∀ g:ButW (Wr c a) v3,g.w.cell? ⟨w.heap.size,0,none⟩ = some (.int .i64 x.kind):=ButW.cell hT (gcell k3 z0)
 replace z1:∀ g:ButW (Wr c a) v3,g.w.cell? ⟨w.heap.size,1,none⟩ = some (.int .u64 x.key):=ButW.cell hT (gcell k3 z1)
 replace z2:∀ g:ButW (Wr c a) v3,g.w.cell? ⟨w.heap.size,2,none⟩ = some (.int .u64 x.val):=ButW.cell hT (gcell k3 z2)
 replace z3:∀ g:ButW (Wr c a) v3,g.w.cell? ⟨w.heap.size,3,none⟩ = some (.int .i64 x.lim):=ButW.cell hT (gcell k3 z3)
 replace Q5:=Q5.trans (But.of_grown k3)
 clear k3 HC
 refine plan_one ?_
 simp only [nths,nth,List.map_cons,List.map_nil,List.getD_cons_zero,List.getD_cons_succ]
 repeat go_big_quiet_step (fail)
 refine wpQuiet_nil ?_
 clear z0 z1 z2 z3 d6
 obtain ⟨u,hu⟩:=(HD.out.sc op HL.out).any
 go_wp2_with fail
 refine (putC_at _ _ _ _ op x u HD.out.mc HL.out hu (HD.out.sf op HL.out)).mono ?_;rintro e v4 ⟨rfl,rfl⟩
 have HE:=Lib.hid (HD.out.putOp op HL.out x HO.out)
 have q9:But (Wr c a) v3 ((v3.alloc (.cells #[.int .i64 x.kind,.int .u64 x.key,.int .u64 x.val,.int .i64 x.lim] 80)).setCell ⟨a.bc + op,0,none⟩ (.pointer (some ⟨v3.heap.size,0,none⟩))) :=
  ((But.refl _ _).alloc _ _).setCell (.inl (.inl ⟨by show a.bc ≤ a.bc + op;omega,by show a.bc + op < a.bc + c.ops;have:=HL.out;omega⟩)) _
 generalize (v3.alloc (.cells #[.int .i64 x.kind,.int .u64 x.key,.int .u64 x.val,.int .i64 x.lim] 80)).setCell ⟨a.bc + op,0,none⟩ (.pointer (some ⟨v3.heap.size,0,none⟩)) = v5 at *
 go_wp2_with fail
 refine nxt_but q9 (plan_fin ?_)
 simp only [nths,List.map_nil]
 refine wpQuiet_nil ?_
 replace Q5:=Q5.trans q9
 clear q9 hu HD
 go_wp2_with fail
 go_ret2
 exact ⟨rfl,Q5.mono HE.out.wr_own,HE.out⟩
theorem Begin_any (w:World) (c:Cf) (a:Ad) (s:St) (h:BookAt w c a s) (hI:Inv c s) (th:Int) (x:Cal) (r:St × Nat × Nat) (hr:beginI c s th x = r) :
  Calls Tryz.prog 57 #[.pointer (some ⟨a.p,0,none⟩),.int .i64 th,x.v] w (Told c a r w):=by
 subst hr
 unfold beginI
 by_cases ht:th < 0 ∨ c.t ≤ th
 ·rw [if_pos (ht.elim .inl (fun q => .inr (.inl q)))]
  exact Begin_noThread w c a s h th x ht
 ·obtain ⟨i,rfl⟩:∃ i:Nat,th = i:=⟨th.toNat,by omega⟩
  have hi:i < c.t:=by omega
  by_cases hk:kindOk x
  ·rw [if_neg (by simp [hk];omega)]
   simp only [Int.toNat_natCast]
   unfold beginS
   by_cases e1:at_ s.calls i = c.k
   ·rw [if_pos e1];exact Begin_retired w c a s h hI i hi x hk e1
   ·rw [if_neg e1]
    by_cases e2:x.kind = 1
    ·by_cases e3:at_ s.ins i = c.i
     ·rw [if_pos ⟨e2,e3⟩];exact Begin_full w c a s h hI i hi x hk e1 (Lib.hid e2) e3
     ·rw [if_neg (fun q => e3 q.2),if_pos e2];exact Begin_insert w c a s h hI i hi x hk e1 (Lib.hid e2) e3 _ rfl
    ·rw [if_neg (fun q => e2 q.1),if_neg e2];exact Begin_other w c a s h hI i hi x hk e1 (Lib.hid e2) _ rfl
  ·rw [if_pos (.inr (.inr hk))]
   exact Begin_noKind w c a s h i hi x hk
theorem Make_noThread (w:World) (c:Cf) (a:Ad) (s:St) (h:BookAt w c a s) (hI:Inv c s) (th op:Int) (ht:th < 0 ∨ c.t ≤ th) :
  Calls Tryz.prog 59 #[.pointer (some ⟨a.p,0,none⟩),.int .i64 th,.int .i64 op] w (Told c a (s,0,1) w):=by
 obtain ⟨o,ho⟩:∃ o,lookI s.ops op = o:=⟨_,rfl⟩
 have H:=Lib.hid h
 have HN:=Lib.hid hI
 have HO:=Lib.hid ho
 have HT:=Lib.hid ht
 clear h hI ho ht
 go_enter Tryz.func59,Tryz.ntmps59
 go_wp2_with fail
 refine (writer_out _ c a s H.out th HT.out).mono ?_;rintro e w1 ⟨rfl,g1⟩
 go_wp2_with fail
 refine (Call_at _ c a s (H.out.grown g1) HN.out op o HO.out).mono ?_;rintro e w2 ⟨rfl,g2⟩
 simp only [Cal.v]
 go_wp2
 go_ret2
 have g:Grown w w2:=gtr g1 g2
 exact ⟨rfl,But.of_grown (by go_grown),H.out.grown (by go_grown)⟩
theorem Make_noOp (w:World) (c:Cf) (a:Ad) (s:St) (h:BookAt w c a s) (hI:Inv c s) (i:Nat) (hi:i < c.t) (op:Int) (ho:lookI s.ops op = none) :
  Calls Tryz.prog 59 #[.pointer (some ⟨a.p,0,none⟩),.int .i64 i,.int .i64 op] w (Told c a (s,0,1) w):=by
 have H:=Lib.hid h
 have HN:=Lib.hid hI
 have HO:=Lib.hid ho
 have HI:=Lib.hid hi
 clear h hI ho hi
 go_enter Tryz.func59,Tryz.ntmps59
 go_wp2_with fail
 refine (writer_in _ c a s H.out i HI.out).mono ?_;rintro e w1 ⟨rfl,g1⟩
 go_wp2_with fail
 refine (Call_at _ c a s (H.out.grown g1) HN.out op none HO.out).mono ?_;rintro e w2 ⟨rfl,g2⟩
 simp only [Option.getD_none,Cal.v,Cal.zero,show errOf (none:Option Cal) = 4 from rfl]
 go_wp2
 go_ret2
 have g:Grown w w2:=gtr g1 g2
 exact ⟨rfl,But.of_grown (by go_grown),H.out.grown (by go_grown)⟩
theorem Make_full (w:World) (c:Cf) (a:Ad) (s:St) (h:BookAt w c a s) (hI:Inv c s) (i:Nat) (hi:i < c.t) (op:Int) (x:Cal) (ho:lookI s.ops op = some x) (e1:at_ s.made i = 2 * c.k) :
  Calls Tryz.prog 59 #[.pointer (some ⟨a.p,0,none⟩),.int .i64 i,.int .i64 op] w (Told c a (s,0,3) w):=by
 have OK:=h.ok
 have k2:=OK.k2
 have k1:=OK.k1
 have b3:=hI.b3 i hi
 have H:=Lib.hid h
 have HN:=Lib.hid hI
 have HO:=Lib.hid ho
 have HI:=Lib.hid hi
 clear h hI ho hi
 go_enter Tryz.func59,Tryz.ntmps59
 go_wp2_with fail
 refine (writer_in _ c a s H.out i HI.out).mono ?_;rintro e w1 ⟨rfl,g1⟩
 go_wp2_with fail
 refine (Call_at _ c a s (H.out.grown g1) HN.out op (some x) HO.out).mono ?_;rintro e w2 ⟨rfl,g2⟩
 simp only [Option.getD_some,Cal.v,show errOf (some x) = 0 from rfl]
 have g:Grown w w2:=gtr g1 g2
 go_wp2_with fail
 refine wp_region_planb (Wr c a) (.one [0,1,2,3,4,5,6,7,8,9] 10 (.fin [11,12,13,14,15])) (by kernel_rfl) (by kernel_rfl) (by kernel_rfl) ?_
 intro w3 g3
 replace g:Grown w w3:=gtr (gtr g (by go_grown)) g3
 have H3:=Lib.hid (H.out.grown g)
 have d4:∀ g:ButW (Wr c a) w3,g.w.cell? ⟨a.p,4,none⟩ = some (.int .i64 c.k):=ButW.cell H3.out.wr_p H3.out.c4
 clear g1 g2 g3
 refine plan_one ?_
 simp only [nths,nth,List.map_cons,List.map_nil,List.getD_cons_zero,List.getD_cons_succ]
 repeat go_big_quiet_step (fail)
 refine wpQuiet_nil ?_
 clear d4
 go_wp2_with fail
 rw [show 2 * (c.k:Int) = ((2 * c.k:Nat):Int) by omega]
 refine (next_none _ _ _ _ _ (H3.out.w3 i HI.out) (by omega)).mono ?_;rintro e w4 ⟨rfl,g4⟩
 go_wp2_with fail
 refine nxt_but (But.of_grown g4) (plan_fin ?_)
 simp only [nths,nth,List.map_cons,List.map_nil,List.getD_cons_zero,List.getD_cons_succ]
 repeat go_big_quiet_step (fail)
 refine wpQuiet_nil ?_
 go_wp2_with fail
 go_ret2
 exact ⟨rfl,But.of_grown (gtr g g4),H3.out.grown g4⟩
theorem Make_ok (w:World) (c:Cf) (a:Ad) (s:St) (h:BookAt w c a s) (hI:Inv c s) (i:Nat) (hi:i < c.t) (op:Nat) (x:Cal) (ho:lookI s.ops op = some x) (e1:¬ at_ s.made i = 2 * c.k) (nd:Nat) (hnd:1 + c.b + i * (2 * c.k) + at_ s.made i = nd) :
  Calls Tryz.prog 59 #[.pointer (some ⟨a.p,0,none⟩),.int .i64 i,.int .i64 op] w (Told c a ({ s with made:=bump s.made i,nodes:=s.nodes ++ [(nd,op)] },nd,0) w):=by
 have HV:Hid (vNode c.t c.b c.i c.f c.k i (at_ s.made i) = (nd:Int)):=Lib.hid (by rw [← hnd];exact vNode_nat h.ok hi (by have:=hI.b3 i hi;omega))
 have HL:Hid (nd < c.nodes):=Lib.hid (by
  have q:=row_lt (k:=2 * c.k) hi (show at_ s.made i < 2 * c.k by have:=hI.b3 i hi;omega)
  have e2:c.t * (2 * c.k) = 2 * (c.t * c.k):=by rw [Nat.mul_left_comm]
  unfold Cf.nodes
  omega)
 have HM:Hid (look s.nodes nd = none):=Lib.hid (by rw [← hnd];exact hI.newNode hi (by have:=hI.b3 i hi;omega))
 clear hnd
 have OK:=h.ok
 have k2:=OK.k2
 have k1:=OK.k1
 have b3:=hI.b3 i hi
 have H:=Lib.hid h
 have HN:=Lib.hid hI
 have HO:=Lib.hid ho
 have HI:=Lib.hid hi
 clear h hI ho hi
 go_enter Tryz.func59,Tryz.ntmps59
 go_wp2_with fail
 refine (writer_in _ c a s H.out i HI.out).mono ?_;rintro e w1 ⟨rfl,g1⟩
 go_wp2_with fail
 refine (Call_at _ c a s (H.out.grown g1) HN.out op (some x) HO.out).mono ?_;rintro e w2 ⟨rfl,g2⟩
 simp only [Option.getD_some,Cal.v,show errOf (some x) = 0 from rfl]
 have g:Grown w w2:=gtr g1 g2
 go_wp2_with fail
 refine wp_region_planb (Wr c a) (.one [0,1,2,3,4,5,6,7,8,9] 10 (.fin [11,12,13,14,15])) (by kernel_rfl) (by kernel_rfl) (by kernel_rfl) ?_
 intro w3 g3
 replace g:Grown w w3:=gtr (gtr g (by go_grown)) g3
 have H3:=Lib.hid (H.out.grown g)
 have d4:∀ g:ButW (Wr c a) w3,g.w.cell? ⟨a.p,4,none⟩ = some (.int .i64 c.k):=ButW.cell H3.out.wr_p H3.out.c4
 clear g1 g2 g3
 refine plan_one ?_
 simp only [nths,nth,List.map_cons,List.map_nil,List.getD_cons_zero,List.getD_cons_succ]
 repeat go_big_quiet_step (fail)
 refine wpQuiet_nil ?_
 clear d4
 go_wp2_with fail
 rw [show 2 * (c.k:Int) = ((2 * c.k:Nat):Int) by omega]
 refine (next_more _ _ _ _ _ (H3.out.w3 i HI.out) (H3.out.wf i 3 HI.out) (show at_ s.made i < 2 * c.k by omega) (by omega)).mono ?_;rintro e w5 ⟨rfl,w4,g4,rfl⟩
 have H5:=Lib.hid ((H3.out.grown g4).bumpM i HI.out HN.out.l3)
 have q5:But (Wr c a) w3 (w4.setCell ⟨a.bw + i,3,none⟩ (.int .i64 ((at_ s.made i + 1:Nat):Int))):=(But.of_grown g4).setCell (.inl (.inr (.inr ⟨by show a.bw ≤ a.bw + i;omega,by show a.bw + i < a.bw + c.t;have:=HI.out;omega⟩))) _
 generalize w4.setCell ⟨a.bw + i,3,none⟩ (.int .i64 ((at_ s.made i + 1:Nat):Int)) = w5 at *
 go_wp2_with fail
 refine nxt_but q5 (plan_fin ?_)
 simp only [nths,nth,List.map_cons,List.map_nil,List.getD_cons_zero,List.getD_cons_succ]
 repeat go_big_quiet_step (fail)
 refine wpQuiet_nil ?_
 have Q5:But (Wr c a) w w5:=(But.of_grown g).trans q5
 clear g4 q5 H3 g
 go_wp2_with fail
 refine wp_region_plang (.one [0,1,2,3,4,5,6,7,8] 9 (.fin [10])) (by kernel_rfl) (by kernel_rfl) (by kernel_rfl) ?_
 intro v1 k1
 have HB:=Lib.hid (H5.out.grown k1)
 have d0:∀ g:GrW v1,g.w.cell? ⟨a.p,0,none⟩ = some (.int .i64 c.t):=GrW.cell HB.out.c0
 have d1:∀ g:GrW v1,g.w.cell? ⟨a.p,1,none⟩ = some (.int .i64 c.b):=GrW.cell HB.out.c1
 have d2:∀ g:GrW v1,g.w.cell? ⟨a.p,2,none⟩ = some (.int .i64 c.i):=GrW.cell HB.out.c2
 have d3:∀ g:GrW v1,g.w.cell? ⟨a.p,3,none⟩ = some (.int .i64 c.f):=GrW.cell HB.out.c3
 have d4:∀ g:GrW v1,g.w.cell? ⟨a.p,4,none⟩ = some (.int .i64 c.k):=GrW.cell HB.out.c4
 have d5:∀ g:GrW v1,g.w.cell? ⟨a.bw + i,0,none⟩ = some (.int .i64 i):=GrW.cell (HB.out.w0 i HI.out)
 replace Q5:=Q5.trans (But.of_grown k1)
 clear k1 H5
 refine plan_one ?_
 simp only [nths,nth,List.map_cons,List.map_nil,List.getD_cons_zero,List.getD_cons_succ]
 repeat go_big_quiet_step (fail)
 refine wpQuiet_nil ?_
 clear d0 d1 d2 d3 d4 d5
 go_wp2_with fail
 refine (Node_at _ _ _ _ _ _ _ _ _ HV.out).mono ?_;rintro e v2 ⟨rfl,k2'⟩
 go_wp2_with fail
 refine nxt_grow k2' (plan_fin ?_)
 simp only [nths,nth,List.map_cons,List.map_nil,List.getD_cons_zero,List.getD_cons_succ]
 repeat go_big_quiet_step (fail)
 refine wpQuiet_nil ?_
 replace Q5:=Q5.trans (But.of_grown k2')
 have HC:=Lib.hid (HB.out.grown k2')
 clear k2' HB
 have c7:=HC.out.c7
 go_wp2_with fail
 obtain ⟨u,hu⟩:=(HC.out.sn nd HL.out).any
 refine (putN_at _ _ _ _ nd op u HC.out.mn HL.out hu (HC.out.nf nd HL.out)).mono ?_;rintro e v4 ⟨rfl,rfl⟩
 have HE:=Lib.hid (HC.out.putNode nd HL.out op HM.out)
 have q9:But (Wr c a) v2 ((v2.alloc (.cells #[.int .i64 op] 3)).setCell ⟨a.bn + nd,0,none⟩ (.pointer (some ⟨v2.heap.size,0,none⟩))) :=
  ((But.refl _ _).alloc _ _).setCell (.inl (.inr (.inl ⟨by show a.bn ≤ a.bn + nd;omega,by show a.bn + nd < a.bn + c.nodes;have:=HL.out;omega⟩))) _
 generalize (v2.alloc (.cells #[.int .i64 op] 3)).setCell ⟨a.bn + nd,0,none⟩ (.pointer (some ⟨v2.heap.size,0,none⟩)) = v5 at *
 replace Q5:=Q5.trans q9
 clear q9 hu HC c7
 go_wp2_with fail
 go_ret2
 exact ⟨rfl,Q5.mono HE.out.wr_own,HE.out⟩
theorem Make_any (w:World) (c:Cf) (a:Ad) (s:St) (h:BookAt w c a s) (hI:Inv c s) (th op:Int) (r:St × Nat × Nat) (hr:makeI c s th op = r) :
  Calls Tryz.prog 59 #[.pointer (some ⟨a.p,0,none⟩),.int .i64 th,.int .i64 op] w (Told c a r w):=by
 subst hr
 unfold makeI
 by_cases ht:th < 0 ∨ c.t ≤ th
 ·rw [if_pos (ht.elim .inl (fun q => .inr (.inl q)))]
  exact Make_noThread w c a s h hI th op ht
 ·obtain ⟨i,rfl⟩:∃ i:Nat,th = i:=⟨th.toNat,by omega⟩
  have hi:i < c.t:=by omega
  cases ho:lookI s.ops op with
  | none =>
   rw [if_pos (.inr (.inr rfl))]
   exact Make_noOp w c a s h hI i hi op ho
  | some x =>
   rw [if_neg (by simp;omega)]
   obtain ⟨n,rfl⟩:∃ n:Nat,op = n:=by
    by_cases h0:op < 0
    ·simp [lookI,h0] at ho
    ·exact ⟨op.toNat,by omega⟩
   simp only [Int.toNat_natCast]
   unfold makeS
   by_cases e1:at_ s.made i = 2 * c.k
   ·rw [if_pos e1];exact Make_full w c a s h hI i hi n x ho e1
   ·rw [if_neg e1];exact Make_ok w c a s h hI i hi n x ho e1 _ rfl
end Go.Proofs.YtcogckjpmmjmbaaGreat
namespace Go.Proofs.YtcogckjpmmjmbaaGreat
open Go.ChangeShapes Go.WideShapes Go.ChangeAt Go.RowKit
set_option maxRecDepth 100000
def St.new (c:Cf):St:=⟨List.replicate c.t 0,List.replicate c.t 0,List.replicate c.t 0,[],[]⟩
theorem at_zeros (n h:Nat):at_ (List.replicate n 0) h = 0:=by
 unfold at_
 simp only [List.getD,List.getElem?_replicate]
 split <;> rfl
theorem Inv.new {c:Cf}:Inv c (St.new c):=by
 refine ⟨by simp [St.new],by simp [St.new],by simp [St.new],fun h _ => ?_,fun h _ => ?_,fun h _ => ?_,by simp [St.new],by simp [St.new],by simp [St.new],by simp [St.new]⟩
 all_goals (simp only [St.new,at_zeros];omega)
structure SlotsAt (w:World) (mb base n:Nat):Prop where
 map:MapAt w mb base n
 cell:∀ j,j < n → w.cell? ⟨base + j,0,none⟩ = some (.pointer none)
 free:∀ j,j < n → w.frozen? ⟨base + j,0,none⟩ = false
 lt:base + n ≤ w.heap.size
theorem Slots.at_ {w w':World} {mb base n:Nat} (h:Slots w w' mb base n):SlotsAt w' mb base n:=⟨h.map,h.cell,h.free,by have:=h.size;omega⟩
theorem SlotsAt.grown {w w':World} {mb base n:Nat} (h:SlotsAt w mb base n) (g:Grown w w'):SlotsAt w' mb base n :=
 ⟨h.map.grown g,fun j hj => gcell g (h.cell j hj),fun j hj => (g.2.1 _).trans (h.free j hj),Nat.le_trans h.lt g.2.2⟩
theorem MapAt.apart {w:World} {m m' b b' n n':Nat} (h:MapAt w m b n) (h':MapAt w m' b' n') (hn:n ≠ n'):m ≠ m':=by
 rintro rfl
 have e:=h.symm.trans h'
 simp only [Option.some.injEq,Obj.map.injEq] at e
 exact hn e.2
theorem MapAt.zero {w:World} {mb base base':Nat} (h:MapAt w mb base 0):MapAt w mb base' 0:=h
structure WLoop (v0 wr:World) (mw k:Nat):Prop where
 but:But (· = mw) v0 wr
 map:MapAt wr mw v0.heap.size k
 size:wr.heap.size = v0.heap.size + k
 c0:∀ j,j < k → wr.cell? ⟨v0.heap.size + j,0,none⟩ = some (.int .i64 j)
 c1:∀ j o,j < k → 1 ≤ o → o < 4 → wr.cell? ⟨v0.heap.size + j,o,none⟩ = some (.int .i64 0)
 free:∀ j o,j < k → wr.frozen? ⟨v0.heap.size + j,o,none⟩ = false
theorem WLoop.more {v0 wr w2:World} {mw k:Nat} {t:TypeId} (h:WLoop v0 wr mw k) (h2:MapAt w2 mw v0.heap.size (k + 1)) (hm:mw < v0.heap.size)
  (q:But (· = mw) (wr.alloc (.cells #[.int .i64 k,.int .i64 0,.int .i64 0,.int .i64 0] t)) w2) (hs:w2.heap.size = wr.heap.size + 1):WLoop v0 w2 mw (k + 1):=by
 have sz:=h.size
 refine ⟨(h.but.alloc _ _).trans q,h2,by omega,fun j hj => ?_,fun j o hj o1 o4 => ?_,fun j o hj => ?_⟩
 ·refine q.cell (by omega) ?_
  by_cases hjk:j < k
  ·exact acell (h.c0 j hjk)
  ·obtain rfl:j = k:=by omega
   rw [← sz];simp
 ·refine q.cell (by omega) ?_
  by_cases hjk:j < k
  ·exact acell (h.c1 j o hjk o1 o4)
  ·obtain rfl:j = k:=by omega
   rw [← sz]
   have:o = 1 ∨ o = 2 ∨ o = 3:=by omega
   rcases this with rfl | rfl | rfl <;> simp
 ·refine q.frozen ?_
  by_cases hjk:j < k
  ·exact (frozen?_alloc_cells _ _ _ _).trans (h.free j o hjk)
  ·obtain rfl:j = k:=by omega
   exact (frozen?_alloc_cells _ _ _ _).trans (by
    have:wr.heap[v0.heap.size + j]? = none:=Array.getElem?_eq_none (by omega)
    simp [World.frozen?,this])
def NewBook (c:Cf) (w:World) (e:Ending) (w':World):Prop :=
 ∃ a:Ad,e = .returned (.tuple #[.pointer (some ⟨a.p,0,none⟩),.int .i64 0]) ∧ Grown w w' ∧ BookAt w' c a (St.new c) ∧ a.lo = w.heap.size ∧ a.hi = w'.heap.size
structure Pre (w v:World) (c:Cf) (p mw mc mn bc bn:Nat):Prop where
 gr:Grown w v
 pw:∀ base,MapAt v mw base 0
 pc:SlotsAt v mc bc c.ops
 pn:SlotsAt v mn bn c.nodes
 lo:w.heap.size ≤ bc
 o2:bc + c.ops ≤ bn
 o3:bn + c.nodes ≤ p
 lm:w.heap.size ≤ mw
 pv:v.heap.size = p + 1
 cells:v.cell? ⟨p,0,none⟩ = some (.int .i64 c.t) ∧ v.cell? ⟨p,1,none⟩ = some (.int .i64 c.b) ∧ v.cell? ⟨p,2,none⟩ = some (.int .i64 c.i) ∧ v.cell? ⟨p,3,none⟩ = some (.int .i64 c.f) ∧ v.cell? ⟨p,4,none⟩ = some (.int .i64 c.k) ∧
  v.cell? ⟨p,5,none⟩ = some (.map (some mw)) ∧ v.cell? ⟨p,6,none⟩ = some (.map (some mc)) ∧ v.cell? ⟨p,7,none⟩ = some (.map (some mn))
theorem Pre.lt {w v:World} {c:Cf} {p mw mc mn bc bn:Nat} (h:Pre w v c p mw mc mn bc bn):mw < v.heap.size:=(h.pw 0).lt
theorem Pre.book {w v wr:World} {c:Cf} {p mw mc mn bc bn:Nat} (h:Pre w v c p mw mc mn bc bn) (hok:c.Ok) (L:WLoop v wr mw c.t)   :
  Grown w wr ∧ BookAt wr c ⟨w.heap.size,wr.heap.size,p,mw,mc,mn,v.heap.size,bc,bn⟩ (St.new c):=by
 obtain ⟨e0,e1,e2,e3,e4,e5,e6,e7⟩:=h.cells
 have hne:mw ≠ mc:=(h.pw 0).apart h.pc.map (by have:=Nat.mul_pos (show 0 < c.t from hok.t1) (show 0 < c.k from hok.k1);unfold Cf.ops;omega)
 have hne':mw ≠ mn:=(h.pw 0).apart h.pn.map (by unfold Cf.nodes;omega)
 have hp:¬ p = mw:=(h.pw 0).ne e0
 have hl:=h.lo;have h2:=h.o2;have h3:=h.o3;have pv:=h.pv;have sz:=L.size
 refine ⟨L.but.fresh h.gr (fun i hi => by have:=h.lm;omega),⟨hok,L.but.cell hp e0,L.but.cell hp e1,L.but.cell hp e2,L.but.cell hp e3,L.but.cell hp e4,L.but.cell hp e5,L.but.cell hp e6,L.but.cell hp e7,
  L.map,h.pc.map.but L.but (fun e => hne e.symm),h.pn.map.but L.but (fun e => hne' e.symm),L.c0,fun j hj => ?_,fun j hj => ?_,fun j hj => ?_,fun j o hj => L.free j o hj,fun n hn => ?_,fun n hn => ?_,fun n hn => ?_,fun n hn => ?_,
  hl,h2,h3,?_,?_,Nat.le_refl _⟩⟩
 ·simp only [St.new,at_zeros];exact L.c1 j 1 hj (by omega) (by omega)
 ·simp only [St.new,at_zeros];exact L.c1 j 2 hj (by omega) (by omega)
 ·simp only [St.new,at_zeros];exact L.c1 j 3 hj (by omega) (by omega)
 ·exact L.but.cell (fun e => (h.pw 0).ne (h.pc.cell n hn) e) (h.pc.cell n hn)
 ·exact L.but.frozen (h.pc.free n hn)
 ·exact L.but.cell (fun e => (h.pw 0).ne (h.pn.cell n hn) e) (h.pn.cell n hn)
 ·exact L.but.frozen (h.pn.free n hn)
 ·show p < v.heap.size;omega
 ·show v.heap.size + c.t ≤ wr.heap.size;omega
set_option maxHeartbeats 4000000 in
theorem New_at (w:World) (c:Cf) (hok:c.Ok):Calls Tryz.prog 108 #[c.v] w (NewBook c w):=by
 have hu:(if zOk c.t c.b c.i c.f c.k = true then 0 else 1) = (0:Int):=if_pos hok.z
 have HU:=Lib.hid hu;clear hu
 have HO:Hid (zOps c.t c.b c.i c.f c.k = ((c.ops:Nat):Int)):=Lib.hid ((if_pos hok.z).trans (by simp [Cf.ops]))
 have HN:Hid (zNodes c.t c.b c.i c.f c.k = ((c.nodes:Nat):Int)):=Lib.hid ((if_pos hok.z).trans (by simp [Cf.nodes]))
 have tk:=hok.tk
 have b64:=hok.b64
 have hops:c.ops ≤ 99999:=by unfold Cf.ops;omega
 have hnod:c.nodes ≤ 99999:=by unfold Cf.nodes;omega
 have HK:=Lib.hid hok
 have t8:=hok.t8
 clear hok tk b64
 have hmm:=fun (w:World) => run_makeMap_hint (P:=Tryz.prog) (w:=w) Tryz.underlying173 c.t
 unfold Cf.v
 go_enter Tryz.func108,Tryz.ntmps108
 go_wp2_with fail
 refine (May_at _ _ _ _ _ _ _ HU.out).mono ?_;rintro e w1 ⟨rfl,g1⟩
 have c0:w1.cell? ⟨w.heap.size,0,none⟩ = some (.int .i64 c.t):=gcell g1 (by simp)
 have c1:w1.cell? ⟨w.heap.size,1,none⟩ = some (.int .i64 c.b):=gcell g1 (by simp)
 have c2:w1.cell? ⟨w.heap.size,2,none⟩ = some (.int .i64 c.i):=gcell g1 (by simp)
 have c3:w1.cell? ⟨w.heap.size,3,none⟩ = some (.int .i64 c.f):=gcell g1 (by simp)
 have c4:w1.cell? ⟨w.heap.size,4,none⟩ = some (.int .i64 c.k):=gcell g1 (by simp)
 replace g1:=galloc g1
 go_wp2_with fail
 refine wp_region_plang (.two [0,1,2,4,7] 3 (.one [] 5 (.one [] 6 (.one [] 8 (.one [] 9 (.one [10] 11 (.fin [12])))))) 5 (.two [] 3 (.one [] 6 (.one [] 8 (.one [] 9 (.one [10] 11 (.fin [12]))))) 6 (.two [] 3 (.one [] 8 (.one [] 9 (.one [10] 11 (.fin [12])))) 8 (.two [] 3 (.one [] 9 (.one [10] 11 (.fin [12]))) 9 (.one [] 3 (.one [10] 11 (.fin [12]))))))) (by kernel_rfl) (by kernel_rfl) (by kernel_rfl) ?_
 intro w2 g2
 have d0:∀ g:GrW w2,g.w.cell? ⟨w.heap.size,0,none⟩ = some (.int .i64 c.t):=GrW.cell (gcell g2 c0)
 have d1:∀ g:GrW w2,g.w.cell? ⟨w.heap.size,1,none⟩ = some (.int .i64 c.b):=GrW.cell (gcell g2 c1)
 have d2:∀ g:GrW w2,g.w.cell? ⟨w.heap.size,2,none⟩ = some (.int .i64 c.i):=GrW.cell (gcell g2 c2)
 have d3:∀ g:GrW w2,g.w.cell? ⟨w.heap.size,3,none⟩ = some (.int .i64 c.f):=GrW.cell (gcell g2 c3)
 have d4:∀ g:GrW w2,g.w.cell? ⟨w.heap.size,4,none⟩ = some (.int .i64 c.k):=GrW.cell (gcell g2 c4)
 have G:Grown w w2:=gtr g1 g2
 have cT:=gcell g2 c0
 clear g1 g2 c0 c1 c2 c3 c4
 refine plan_two ?_
 simp only [nths,nth,List.map_cons,List.map_nil,List.getD_cons_zero,List.getD_cons_succ]
 repeat go_big_quiet_step (fail)
 clear d0 d1 d2 d3 d4
 refine wpQuiet_nil ⟨?_,?_⟩
 ·go_wp2_with fail
  have ku1:Grown w2 (w2.alloc (.map #[] 0)):=(Grown.refl _).allocMap _ _
  have M:=fun base => MapAt.made w2 base
  have lm:w.heap.size ≤ w2.heap.size:=G.2.2
  replace G:=gtr G ku1
  replace cT:=gcell ku1 cT
  generalize w2.alloc (.map #[] 0) = u1 at *
  refine nxt_grow ku1 (plan_one ?_)
  simp only [nths,nth,List.map_nil,List.getD_cons_zero,List.getD_cons_succ]
  refine wpQuiet_nil ?_
  go_wp2_with fail
  refine (Ops_at _ _ _ _ _ _ _ HO.out).mono ?_;rintro e u2 ⟨rfl,ku2⟩
  go_wp2_with fail
  replace M:=fun base => (M base).grown ku2
  replace G:=gtr G ku2
  replace cT:=gcell ku2 cT
  refine nxt_grow ku2 (plan_one ?_)
  simp only [nths,nth,List.map_nil,List.getD_cons_zero,List.getD_cons_succ]
  refine wpQuiet_nil ?_
  go_wp2_with fail
  refine (emptyC_at _ c.ops hops).mono ?_;rintro e u3 ⟨rfl,S⟩
  have ku3:=S.gr
  have C:=S.at_
  have sc:u2.heap.size + 1 + c.ops ≤ u3.heap.size:=Nat.le_of_eq S.size.symm
  have lc:w.heap.size ≤ u2.heap.size + 1:=by have:=G.2.2;omega
  clear S
  go_wp2_with fail
  replace M:=fun base => (M base).grown ku3
  replace G:=gtr G ku3
  replace cT:=gcell ku3 cT
  refine nxt_grow ku3 (plan_one ?_)
  simp only [nths,nth,List.map_nil,List.getD_cons_zero,List.getD_cons_succ]
  refine wpQuiet_nil ?_
  go_wp2_with fail
  refine (Nodes_at _ _ _ _ _ _ _ HN.out).mono ?_;rintro e u4 ⟨rfl,ku4⟩
  go_wp2_with fail
  replace M:=fun base => (M base).grown ku4
  replace C:=C.grown ku4
  replace sc:=Nat.le_trans sc ku4.2.2
  replace G:=gtr G ku4
  replace cT:=gcell ku4 cT
  refine nxt_grow ku4 (plan_one ?_)
  simp only [nths,nth,List.map_nil,List.getD_cons_zero,List.getD_cons_succ]
  refine wpQuiet_nil ?_
  go_wp2_with fail
  refine (emptyN_at _ c.nodes hnod).mono ?_;rintro e u5 ⟨rfl,S⟩
  have ku5:=S.gr
  have N:=S.at_
  have sn:u4.heap.size + 1 + c.nodes ≤ u5.heap.size:=Nat.le_of_eq S.size.symm
  have so:u2.heap.size + 1 + c.ops ≤ u4.heap.size + 1:=by have q:=sc;omega
  clear S
  go_wp2_with fail
  replace M:=fun base => (M base).grown ku5
  replace C:=C.grown ku5
  replace sc:=Nat.le_trans sc ku5.2.2
  replace G:=gtr G ku5
  replace cT:=gcell ku5 cT
  refine nxt_grow ku5 (plan_one ?_)
  simp only [nths,nth,List.map_cons,List.map_nil,List.getD_cons_zero,List.getD_cons_succ]
  repeat go_big_quiet_step (fail)
  refine wpQuiet_nil ?_
  go_wp2_with fail
  have kf:Grown u5 (u5.alloc (.cells #[.int .i64 c.t,.int .i64 c.b,.int .i64 c.i,.int .i64 c.f,.int .i64 c.k,.map (some w2.heap.size),.map (some u2.heap.size),.map (some u4.heap.size)] 179)):=by go_grown
  have P:Pre w (u5.alloc (.cells #[.int .i64 c.t,.int .i64 c.b,.int .i64 c.i,.int .i64 c.f,.int .i64 c.k,.map (some w2.heap.size),.map (some u2.heap.size),.map (some u4.heap.size)] 179)) c u5.heap.size w2.heap.size u2.heap.size u4.heap.size (u2.heap.size + 1) (u4.heap.size + 1) :=
   ⟨gtr G kf,fun base => (M base).grown kf,C.grown kf,N.grown kf,lc,so,sn,lm,by simp,⟨by simp,by simp,by simp,by simp,by simp,by simp,by simp,by simp⟩⟩
  have bT:(u5.alloc (.cells #[.int .i64 c.t,.int .i64 c.b,.int .i64 c.i,.int .i64 c.f,.int .i64 c.k,.map (some w2.heap.size),.map (some u2.heap.size),.map (some u4.heap.size)] 179)).cell? ⟨w.heap.size,0,none⟩ = some (.int .i64 c.t):=gcell kf cT
  refine nxt_grow kf (plan_fin ?_)
  clear kf M C N G lc so sc sn lm cT
  simp only [nths,nth,List.map_cons,List.map_nil,List.getD_cons_zero,List.getD_cons_succ]
  repeat go_big_quiet_step (fail)
  refine wpQuiet_nil ?_
  obtain ⟨mw,hmw⟩:∃ m,w2.heap.size = m:=⟨_,rfl⟩
  rw [hmw] at P bT ⊢
  clear hmw
  obtain ⟨mc,hmc⟩:∃ m,u2.heap.size = m:=⟨_,rfl⟩
  rw [hmc] at P bT ⊢
  clear hmc
  obtain ⟨mn,hmn⟩:∃ m,u4.heap.size = m:=⟨_,rfl⟩
  rw [hmn] at P bT ⊢
  clear hmn
  obtain ⟨p,hp⟩:∃ m,u5.heap.size = m:=⟨_,rfl⟩
  rw [hp] at P ⊢
  clear hp
  generalize u5.alloc (.cells #[.int .i64 c.t,.int .i64 c.b,.int .i64 c.i,.int .i64 c.f,.int .i64 c.k,.map (some mw),.map (some mc),.map (some mn)] 179) = v at *
  have HP:=Lib.hid P
  clear P
  go_wp2_with fail
  clear bT
  have hlt:=HP.out.lt
  have p5:=HP.out.cells.2.2.2.2.2.1
  have hp:¬ p = mw:=(HP.out.pw 0).ne p5
  go_loopw [26] (fun i wr => ∃ k:Nat,k ≤ c.t ∧ i = .int .i64 k ∧ WLoop v wr mw k) (fun i _ => c.t - (intOf i).toNat)
  case atStart =>
   exact ⟨0,Nat.zero_le _,rfl,But.refl _ _,HP.out.pw _,by simp,fun j hj => absurd hj (by omega),fun j o hj => absurd hj (by omega),fun j o hj => absurd hj (by omega)⟩
  case round =>
   obtain ⟨k,hk,rfl,hR⟩:=hrel
   have HR:=Lib.hid hR
   have q5:=hR.but.cell hp p5
   clear hR p5
   by_cases hkt:k < c.t
   ·have ed:decide (k < c.t) = true:=decide_eq_true hkt
    go_wp2_with (first | (at_mapUpdate;refine wpList_put rfl _ _ _ 173 rfl 3 _ Tryz.underlying173 Tryz.underlying3 mw v.heap.size k _ (HR.out.map.grown (by go_grown)) rfl rfl rfl HR.out.size ?_) | fail)
    intro w9 h9 q9 s9
    have R9:=HR.out.more h9 hlt q9 s9
    go_wp2_with fail
    exact ⟨⟨k + 1,hkt,by simp,R9⟩,by simp [intOf];omega⟩
   ·obtain rfl:k = c.t:=by omega
    have ed:decide (c.t < c.t) = false:=decide_eq_false (by omega)
    clear hkt
    go_wp2_with fail
    go_ret2
    obtain ⟨B1,B2⟩:=HP.out.book HK.out HR.out
    exact ⟨_,rfl,B1,B2,rfl,rfl⟩
 ·go_wp2_with fail
  refine (Ops_at _ _ _ _ _ _ _ HO.out).mono ?_;rintro e u6 ⟨rfl,ku6⟩
  go_wp2_with fail
  replace G:=gtr G ku6
  replace cT:=gcell ku6 cT
  refine nxt_grow ku6 (plan_two ?_)
  simp only [nths,nth,List.map_nil,List.getD_cons_zero,List.getD_cons_succ]
  refine wpQuiet_nil ⟨?_,?_⟩
  ·go_wp2_with fail
   have ku7:Grown u6 (u6.alloc (.map #[] 0)):=(Grown.refl _).allocMap _ _
   have M:=fun base => MapAt.made u6 base
   have lm:w.heap.size ≤ u6.heap.size:=G.2.2
   replace G:=gtr G ku7
   replace cT:=gcell ku7 cT
   generalize u6.alloc (.map #[] 0) = u7 at *
   refine nxt_grow ku7 (plan_one ?_)
   simp only [nths,nth,List.map_nil,List.getD_cons_zero,List.getD_cons_succ]
   refine wpQuiet_nil ?_
   go_wp2_with fail
   refine (emptyC_at _ c.ops hops).mono ?_;rintro e u8 ⟨rfl,S⟩
   have ku8:=S.gr
   have C:=S.at_
   have sc:u7.heap.size + 1 + c.ops ≤ u8.heap.size:=Nat.le_of_eq S.size.symm
   have lc:w.heap.size ≤ u7.heap.size + 1:=by have:=G.2.2;omega
   clear S
   go_wp2_with fail
   replace M:=fun base => (M base).grown ku8
   replace G:=gtr G ku8
   replace cT:=gcell ku8 cT
   refine nxt_grow ku8 (plan_one ?_)
   simp only [nths,nth,List.map_nil,List.getD_cons_zero,List.getD_cons_succ]
   refine wpQuiet_nil ?_
   go_wp2_with fail
   refine (Nodes_at _ _ _ _ _ _ _ HN.out).mono ?_;rintro e u9 ⟨rfl,ku9⟩
   go_wp2_with fail
   replace M:=fun base => (M base).grown ku9
   replace C:=C.grown ku9
   replace sc:=Nat.le_trans sc ku9.2.2
   replace G:=gtr G ku9
   replace cT:=gcell ku9 cT
   refine nxt_grow ku9 (plan_one ?_)
   simp only [nths,nth,List.map_nil,List.getD_cons_zero,List.getD_cons_succ]
   refine wpQuiet_nil ?_
   go_wp2_with fail
   refine (emptyN_at _ c.nodes hnod).mono ?_;rintro e u10 ⟨rfl,S⟩
   have ku10:=S.gr
   have N:=S.at_
   have sn:u9.heap.size + 1 + c.nodes ≤ u10.heap.size:=Nat.le_of_eq S.size.symm
   have so:u7.heap.size + 1 + c.ops ≤ u9.heap.size + 1:=by have q:=sc;omega
   clear S
   go_wp2_with fail
   replace M:=fun base => (M base).grown ku10
   replace C:=C.grown ku10
   replace sc:=Nat.le_trans sc ku10.2.2
   replace G:=gtr G ku10
   replace cT:=gcell ku10 cT
   refine nxt_grow ku10 (plan_one ?_)
   simp only [nths,nth,List.map_cons,List.map_nil,List.getD_cons_zero,List.getD_cons_succ]
   repeat go_big_quiet_step (fail)
   refine wpQuiet_nil ?_
   go_wp2_with fail
   have kf:Grown u10 (u10.alloc (.cells #[.int .i64 c.t,.int .i64 c.b,.int .i64 c.i,.int .i64 c.f,.int .i64 c.k,.map (some u6.heap.size),.map (some u7.heap.size),.map (some u9.heap.size)] 179)):=by go_grown
   have P:Pre w (u10.alloc (.cells #[.int .i64 c.t,.int .i64 c.b,.int .i64 c.i,.int .i64 c.f,.int .i64 c.k,.map (some u6.heap.size),.map (some u7.heap.size),.map (some u9.heap.size)] 179)) c u10.heap.size u6.heap.size u7.heap.size u9.heap.size (u7.heap.size + 1) (u9.heap.size + 1) :=
    ⟨gtr G kf,fun base => (M base).grown kf,C.grown kf,N.grown kf,lc,so,sn,lm,by simp,⟨by simp,by simp,by simp,by simp,by simp,by simp,by simp,by simp⟩⟩
   have bT:(u10.alloc (.cells #[.int .i64 c.t,.int .i64 c.b,.int .i64 c.i,.int .i64 c.f,.int .i64 c.k,.map (some u6.heap.size),.map (some u7.heap.size),.map (some u9.heap.size)] 179)).cell? ⟨w.heap.size,0,none⟩ = some (.int .i64 c.t):=gcell kf cT
   refine nxt_grow kf (plan_fin ?_)
   clear kf M C N G lc so sc sn lm cT
   simp only [nths,nth,List.map_cons,List.map_nil,List.getD_cons_zero,List.getD_cons_succ]
   repeat go_big_quiet_step (fail)
   refine wpQuiet_nil ?_
   obtain ⟨mw,hmw⟩:∃ m,u6.heap.size = m:=⟨_,rfl⟩
   rw [hmw] at P bT ⊢
   clear hmw
   obtain ⟨mc,hmc⟩:∃ m,u7.heap.size = m:=⟨_,rfl⟩
   rw [hmc] at P bT ⊢
   clear hmc
   obtain ⟨mn,hmn⟩:∃ m,u9.heap.size = m:=⟨_,rfl⟩
   rw [hmn] at P bT ⊢
   clear hmn
   obtain ⟨p,hp⟩:∃ m,u10.heap.size = m:=⟨_,rfl⟩
   rw [hp] at P ⊢
   clear hp
   generalize u10.alloc (.cells #[.int .i64 c.t,.int .i64 c.b,.int .i64 c.i,.int .i64 c.f,.int .i64 c.k,.map (some mw),.map (some mc),.map (some mn)] 179) = v at *
   have HP:=Lib.hid P
   clear P
   go_wp2_with fail
   clear bT
   have hlt:=HP.out.lt
   have p5:=HP.out.cells.2.2.2.2.2.1
   have hp:¬ p = mw:=(HP.out.pw 0).ne p5
   go_loopw [26] (fun i wr => ∃ k:Nat,k ≤ c.t ∧ i = .int .i64 k ∧ WLoop v wr mw k) (fun i _ => c.t - (intOf i).toNat)
   case atStart =>
    exact ⟨0,Nat.zero_le _,rfl,But.refl _ _,HP.out.pw _,by simp,fun j hj => absurd hj (by omega),fun j o hj => absurd hj (by omega),fun j o hj => absurd hj (by omega)⟩
   case round =>
    obtain ⟨k,hk,rfl,hR⟩:=hrel
    have HR:=Lib.hid hR
    have q5:=hR.but.cell hp p5
    clear hR p5
    by_cases hkt:k < c.t
    ·have ed:decide (k < c.t) = true:=decide_eq_true hkt
     go_wp2_with (first | (at_mapUpdate;refine wpList_put rfl _ _ _ 173 rfl 3 _ Tryz.underlying173 Tryz.underlying3 mw v.heap.size k _ (HR.out.map.grown (by go_grown)) rfl rfl rfl HR.out.size ?_) | fail)
     intro w9 h9 q9 s9
     have R9:=HR.out.more h9 hlt q9 s9
     go_wp2_with fail
     exact ⟨⟨k + 1,hkt,by simp,R9⟩,by simp [intOf];omega⟩
    ·obtain rfl:k = c.t:=by omega
     have ed:decide (c.t < c.t) = false:=decide_eq_false (by omega)
     clear hkt
     go_wp2_with fail
     go_ret2
     obtain ⟨B1,B2⟩:=HP.out.book HK.out HR.out
     exact ⟨_,rfl,B1,B2,rfl,rfl⟩
  ·go_wp2_with fail
   refine (emptyC_at _ c.ops hops).mono ?_;rintro e u11 ⟨rfl,S⟩
   have ku11:=S.gr
   have C:=S.at_
   have sc:u6.heap.size + 1 + c.ops ≤ u11.heap.size:=Nat.le_of_eq S.size.symm
   have lc:w.heap.size ≤ u6.heap.size + 1:=by have:=G.2.2;omega
   clear S
   go_wp2_with fail
   replace G:=gtr G ku11
   replace cT:=gcell ku11 cT
   refine nxt_grow ku11 (plan_two ?_)
   simp only [nths,nth,List.map_nil,List.getD_cons_zero,List.getD_cons_succ]
   refine wpQuiet_nil ⟨?_,?_⟩
   ·go_wp2_with fail
    have ku12:Grown u11 (u11.alloc (.map #[] 0)):=(Grown.refl _).allocMap _ _
    have M:=fun base => MapAt.made u11 base
    have lm:w.heap.size ≤ u11.heap.size:=G.2.2
    replace C:=C.grown ku12
    replace sc:=Nat.le_trans sc ku12.2.2
    replace G:=gtr G ku12
    replace cT:=gcell ku12 cT
    generalize u11.alloc (.map #[] 0) = u12 at *
    refine nxt_grow ku12 (plan_one ?_)
    simp only [nths,nth,List.map_nil,List.getD_cons_zero,List.getD_cons_succ]
    refine wpQuiet_nil ?_
    go_wp2_with fail
    refine (Nodes_at _ _ _ _ _ _ _ HN.out).mono ?_;rintro e u13 ⟨rfl,ku13⟩
    go_wp2_with fail
    replace M:=fun base => (M base).grown ku13
    replace C:=C.grown ku13
    replace sc:=Nat.le_trans sc ku13.2.2
    replace G:=gtr G ku13
    replace cT:=gcell ku13 cT
    refine nxt_grow ku13 (plan_one ?_)
    simp only [nths,nth,List.map_nil,List.getD_cons_zero,List.getD_cons_succ]
    refine wpQuiet_nil ?_
    go_wp2_with fail
    refine (emptyN_at _ c.nodes hnod).mono ?_;rintro e u14 ⟨rfl,S⟩
    have ku14:=S.gr
    have N:=S.at_
    have sn:u13.heap.size + 1 + c.nodes ≤ u14.heap.size:=Nat.le_of_eq S.size.symm
    have so:u6.heap.size + 1 + c.ops ≤ u13.heap.size + 1:=by have q:=sc;omega
    clear S
    go_wp2_with fail
    replace M:=fun base => (M base).grown ku14
    replace C:=C.grown ku14
    replace sc:=Nat.le_trans sc ku14.2.2
    replace G:=gtr G ku14
    replace cT:=gcell ku14 cT
    refine nxt_grow ku14 (plan_one ?_)
    simp only [nths,nth,List.map_cons,List.map_nil,List.getD_cons_zero,List.getD_cons_succ]
    repeat go_big_quiet_step (fail)
    refine wpQuiet_nil ?_
    go_wp2_with fail
    have kf:Grown u14 (u14.alloc (.cells #[.int .i64 c.t,.int .i64 c.b,.int .i64 c.i,.int .i64 c.f,.int .i64 c.k,.map (some u11.heap.size),.map (some u6.heap.size),.map (some u13.heap.size)] 179)):=by go_grown
    have P:Pre w (u14.alloc (.cells #[.int .i64 c.t,.int .i64 c.b,.int .i64 c.i,.int .i64 c.f,.int .i64 c.k,.map (some u11.heap.size),.map (some u6.heap.size),.map (some u13.heap.size)] 179)) c u14.heap.size u11.heap.size u6.heap.size u13.heap.size (u6.heap.size + 1) (u13.heap.size + 1) :=
     ⟨gtr G kf,fun base => (M base).grown kf,C.grown kf,N.grown kf,lc,so,sn,lm,by simp,⟨by simp,by simp,by simp,by simp,by simp,by simp,by simp,by simp⟩⟩
    have bT:(u14.alloc (.cells #[.int .i64 c.t,.int .i64 c.b,.int .i64 c.i,.int .i64 c.f,.int .i64 c.k,.map (some u11.heap.size),.map (some u6.heap.size),.map (some u13.heap.size)] 179)).cell? ⟨w.heap.size,0,none⟩ = some (.int .i64 c.t):=gcell kf cT
    refine nxt_grow kf (plan_fin ?_)
    clear kf M C N G lc so sc sn lm cT
    simp only [nths,nth,List.map_cons,List.map_nil,List.getD_cons_zero,List.getD_cons_succ]
    repeat go_big_quiet_step (fail)
    refine wpQuiet_nil ?_
    obtain ⟨mw,hmw⟩:∃ m,u11.heap.size = m:=⟨_,rfl⟩
    rw [hmw] at P bT ⊢
    clear hmw
    obtain ⟨mc,hmc⟩:∃ m,u6.heap.size = m:=⟨_,rfl⟩
    rw [hmc] at P bT ⊢
    clear hmc
    obtain ⟨mn,hmn⟩:∃ m,u13.heap.size = m:=⟨_,rfl⟩
    rw [hmn] at P bT ⊢
    clear hmn
    obtain ⟨p,hp⟩:∃ m,u14.heap.size = m:=⟨_,rfl⟩
    rw [hp] at P ⊢
    clear hp
    generalize u14.alloc (.cells #[.int .i64 c.t,.int .i64 c.b,.int .i64 c.i,.int .i64 c.f,.int .i64 c.k,.map (some mw),.map (some mc),.map (some mn)] 179) = v at *
    have HP:=Lib.hid P
    clear P
    go_wp2_with fail
    clear bT
    have hlt:=HP.out.lt
    have p5:=HP.out.cells.2.2.2.2.2.1
    have hp:¬ p = mw:=(HP.out.pw 0).ne p5
    go_loopw [26] (fun i wr => ∃ k:Nat,k ≤ c.t ∧ i = .int .i64 k ∧ WLoop v wr mw k) (fun i _ => c.t - (intOf i).toNat)
    case atStart =>
     exact ⟨0,Nat.zero_le _,rfl,But.refl _ _,HP.out.pw _,by simp,fun j hj => absurd hj (by omega),fun j o hj => absurd hj (by omega),fun j o hj => absurd hj (by omega)⟩
    case round =>
     obtain ⟨k,hk,rfl,hR⟩:=hrel
     have HR:=Lib.hid hR
     have q5:=hR.but.cell hp p5
     clear hR p5
     by_cases hkt:k < c.t
     ·have ed:decide (k < c.t) = true:=decide_eq_true hkt
      go_wp2_with (first | (at_mapUpdate;refine wpList_put rfl _ _ _ 173 rfl 3 _ Tryz.underlying173 Tryz.underlying3 mw v.heap.size k _ (HR.out.map.grown (by go_grown)) rfl rfl rfl HR.out.size ?_) | fail)
      intro w9 h9 q9 s9
      have R9:=HR.out.more h9 hlt q9 s9
      go_wp2_with fail
      exact ⟨⟨k + 1,hkt,by simp,R9⟩,by simp [intOf];omega⟩
     ·obtain rfl:k = c.t:=by omega
      have ed:decide (c.t < c.t) = false:=decide_eq_false (by omega)
      clear hkt
      go_wp2_with fail
      go_ret2
      obtain ⟨B1,B2⟩:=HP.out.book HK.out HR.out
      exact ⟨_,rfl,B1,B2,rfl,rfl⟩
   ·go_wp2_with fail
    refine (Nodes_at _ _ _ _ _ _ _ HN.out).mono ?_;rintro e u15 ⟨rfl,ku15⟩
    go_wp2_with fail
    replace C:=C.grown ku15
    replace sc:=Nat.le_trans sc ku15.2.2
    replace G:=gtr G ku15
    replace cT:=gcell ku15 cT
    refine nxt_grow ku15 (plan_two ?_)
    simp only [nths,nth,List.map_nil,List.getD_cons_zero,List.getD_cons_succ]
    refine wpQuiet_nil ⟨?_,?_⟩
    ·go_wp2_with fail
     have ku16:Grown u15 (u15.alloc (.map #[] 0)):=(Grown.refl _).allocMap _ _
     have M:=fun base => MapAt.made u15 base
     have lm:w.heap.size ≤ u15.heap.size:=G.2.2
     replace C:=C.grown ku16
     replace sc:=Nat.le_trans sc ku16.2.2
     replace G:=gtr G ku16
     replace cT:=gcell ku16 cT
     generalize u15.alloc (.map #[] 0) = u16 at *
     refine nxt_grow ku16 (plan_one ?_)
     simp only [nths,nth,List.map_nil,List.getD_cons_zero,List.getD_cons_succ]
     refine wpQuiet_nil ?_
     go_wp2_with fail
     refine (emptyN_at _ c.nodes hnod).mono ?_;rintro e u17 ⟨rfl,S⟩
     have ku17:=S.gr
     have N:=S.at_
     have sn:u16.heap.size + 1 + c.nodes ≤ u17.heap.size:=Nat.le_of_eq S.size.symm
     have so:u6.heap.size + 1 + c.ops ≤ u16.heap.size + 1:=by have q:=sc;omega
     clear S
     go_wp2_with fail
     replace M:=fun base => (M base).grown ku17
     replace C:=C.grown ku17
     replace sc:=Nat.le_trans sc ku17.2.2
     replace G:=gtr G ku17
     replace cT:=gcell ku17 cT
     refine nxt_grow ku17 (plan_one ?_)
     simp only [nths,nth,List.map_cons,List.map_nil,List.getD_cons_zero,List.getD_cons_succ]
     repeat go_big_quiet_step (fail)
     refine wpQuiet_nil ?_
     go_wp2_with fail
     have kf:Grown u17 (u17.alloc (.cells #[.int .i64 c.t,.int .i64 c.b,.int .i64 c.i,.int .i64 c.f,.int .i64 c.k,.map (some u15.heap.size),.map (some u6.heap.size),.map (some u16.heap.size)] 179)):=by go_grown
     have P:Pre w (u17.alloc (.cells #[.int .i64 c.t,.int .i64 c.b,.int .i64 c.i,.int .i64 c.f,.int .i64 c.k,.map (some u15.heap.size),.map (some u6.heap.size),.map (some u16.heap.size)] 179)) c u17.heap.size u15.heap.size u6.heap.size u16.heap.size (u6.heap.size + 1) (u16.heap.size + 1) :=
      ⟨gtr G kf,fun base => (M base).grown kf,C.grown kf,N.grown kf,lc,so,sn,lm,by simp,⟨by simp,by simp,by simp,by simp,by simp,by simp,by simp,by simp⟩⟩
     have bT:(u17.alloc (.cells #[.int .i64 c.t,.int .i64 c.b,.int .i64 c.i,.int .i64 c.f,.int .i64 c.k,.map (some u15.heap.size),.map (some u6.heap.size),.map (some u16.heap.size)] 179)).cell? ⟨w.heap.size,0,none⟩ = some (.int .i64 c.t):=gcell kf cT
     refine nxt_grow kf (plan_fin ?_)
     clear kf M C N G lc so sc sn lm cT
     simp only [nths,nth,List.map_cons,List.map_nil,List.getD_cons_zero,List.getD_cons_succ]
     repeat go_big_quiet_step (fail)
     refine wpQuiet_nil ?_
     obtain ⟨mw,hmw⟩:∃ m,u15.heap.size = m:=⟨_,rfl⟩
     rw [hmw] at P bT ⊢
     clear hmw
     obtain ⟨mc,hmc⟩:∃ m,u6.heap.size = m:=⟨_,rfl⟩
     rw [hmc] at P bT ⊢
     clear hmc
     obtain ⟨mn,hmn⟩:∃ m,u16.heap.size = m:=⟨_,rfl⟩
     rw [hmn] at P bT ⊢
     clear hmn
     obtain ⟨p,hp⟩:∃ m,u17.heap.size = m:=⟨_,rfl⟩
     rw [hp] at P ⊢
     clear hp
     generalize u17.alloc (.cells #[.int .i64 c.t,.int .i64 c.b,.int .i64 c.i,.int .i64 c.f,.int .i64 c.k,.map (some mw),.map (some mc),.map (some mn)] 179) = v at *
     have HP:=Lib.hid P
     clear P
     go_wp2_with fail
     clear bT
     have hlt:=HP.out.lt
     have p5:=HP.out.cells.2.2.2.2.2.1
     have hp:¬ p = mw:=(HP.out.pw 0).ne p5
     go_loopw [26] (fun i wr => ∃ k:Nat,k ≤ c.t ∧ i = .int .i64 k ∧ WLoop v wr mw k) (fun i _ => c.t - (intOf i).toNat)
     case atStart =>
      exact ⟨0,Nat.zero_le _,rfl,But.refl _ _,HP.out.pw _,by simp,fun j hj => absurd hj (by omega),fun j o hj => absurd hj (by omega),fun j o hj => absurd hj (by omega)⟩
     case round =>
      obtain ⟨k,hk,rfl,hR⟩:=hrel
      have HR:=Lib.hid hR
      have q5:=hR.but.cell hp p5
      clear hR p5
      by_cases hkt:k < c.t
      ·have ed:decide (k < c.t) = true:=decide_eq_true hkt
       go_wp2_with (first | (at_mapUpdate;refine wpList_put rfl _ _ _ 173 rfl 3 _ Tryz.underlying173 Tryz.underlying3 mw v.heap.size k _ (HR.out.map.grown (by go_grown)) rfl rfl rfl HR.out.size ?_) | fail)
       intro w9 h9 q9 s9
       have R9:=HR.out.more h9 hlt q9 s9
       go_wp2_with fail
       exact ⟨⟨k + 1,hkt,by simp,R9⟩,by simp [intOf];omega⟩
      ·obtain rfl:k = c.t:=by omega
       have ed:decide (c.t < c.t) = false:=decide_eq_false (by omega)
       clear hkt
       go_wp2_with fail
       go_ret2
       obtain ⟨B1,B2⟩:=HP.out.book HK.out HR.out
       exact ⟨_,rfl,B1,B2,rfl,rfl⟩
    ·go_wp2_with fail
     refine (emptyN_at _ c.nodes hnod).mono ?_;rintro e u18 ⟨rfl,S⟩
     have ku18:=S.gr
     have N:=S.at_
     have sn:u15.heap.size + 1 + c.nodes ≤ u18.heap.size:=Nat.le_of_eq S.size.symm
     have so:u6.heap.size + 1 + c.ops ≤ u15.heap.size + 1:=by have q:=sc;omega
     clear S
     go_wp2_with fail
     replace C:=C.grown ku18
     replace sc:=Nat.le_trans sc ku18.2.2
     replace G:=gtr G ku18
     replace cT:=gcell ku18 cT
     refine nxt_grow ku18 (plan_one ?_)
     simp only [nths,nth,List.map_nil,List.getD_cons_zero,List.getD_cons_succ]
     refine wpQuiet_nil ?_
     go_wp2_with fail
     have ku19:Grown u18 (u18.alloc (.map #[] 0)):=(Grown.refl _).allocMap _ _
     have M:=fun base => MapAt.made u18 base
     have lm:w.heap.size ≤ u18.heap.size:=G.2.2
     replace C:=C.grown ku19
     replace sc:=Nat.le_trans sc ku19.2.2
     replace N:=N.grown ku19
     replace sn:=Nat.le_trans sn ku19.2.2
     replace G:=gtr G ku19
     replace cT:=gcell ku19 cT
     generalize u18.alloc (.map #[] 0) = u19 at *
     refine nxt_grow ku19 (plan_one ?_)
     simp only [nths,nth,List.map_cons,List.map_nil,List.getD_cons_zero,List.getD_cons_succ]
     repeat go_big_quiet_step (fail)
     refine wpQuiet_nil ?_
     go_wp2_with fail
     have kf:Grown u19 (u19.alloc (.cells #[.int .i64 c.t,.int .i64 c.b,.int .i64 c.i,.int .i64 c.f,.int .i64 c.k,.map (some u18.heap.size),.map (some u6.heap.size),.map (some u15.heap.size)] 179)):=by go_grown
     have P:Pre w (u19.alloc (.cells #[.int .i64 c.t,.int .i64 c.b,.int .i64 c.i,.int .i64 c.f,.int .i64 c.k,.map (some u18.heap.size),.map (some u6.heap.size),.map (some u15.heap.size)] 179)) c u19.heap.size u18.heap.size u6.heap.size u15.heap.size (u6.heap.size + 1) (u15.heap.size + 1) :=
      ⟨gtr G kf,fun base => (M base).grown kf,C.grown kf,N.grown kf,lc,so,sn,lm,by simp,⟨by simp,by simp,by simp,by simp,by simp,by simp,by simp,by simp⟩⟩
     have bT:(u19.alloc (.cells #[.int .i64 c.t,.int .i64 c.b,.int .i64 c.i,.int .i64 c.f,.int .i64 c.k,.map (some u18.heap.size),.map (some u6.heap.size),.map (some u15.heap.size)] 179)).cell? ⟨w.heap.size,0,none⟩ = some (.int .i64 c.t):=gcell kf cT
     refine nxt_grow kf (plan_fin ?_)
     clear kf M C N G lc so sc sn lm cT
     simp only [nths,nth,List.map_cons,List.map_nil,List.getD_cons_zero,List.getD_cons_succ]
     repeat go_big_quiet_step (fail)
     refine wpQuiet_nil ?_
     obtain ⟨mw,hmw⟩:∃ m,u18.heap.size = m:=⟨_,rfl⟩
     rw [hmw] at P bT ⊢
     clear hmw
     obtain ⟨mc,hmc⟩:∃ m,u6.heap.size = m:=⟨_,rfl⟩
     rw [hmc] at P bT ⊢
     clear hmc
     obtain ⟨mn,hmn⟩:∃ m,u15.heap.size = m:=⟨_,rfl⟩
     rw [hmn] at P bT ⊢
     clear hmn
     obtain ⟨p,hp⟩:∃ m,u19.heap.size = m:=⟨_,rfl⟩
     rw [hp] at P ⊢
     clear hp
     generalize u19.alloc (.cells #[.int .i64 c.t,.int .i64 c.b,.int .i64 c.i,.int .i64 c.f,.int .i64 c.k,.map (some mw),.map (some mc),.map (some mn)] 179) = v at *
     have HP:=Lib.hid P
     clear P
     go_wp2_with fail
     clear bT
     have hlt:=HP.out.lt
     have p5:=HP.out.cells.2.2.2.2.2.1
     have hp:¬ p = mw:=(HP.out.pw 0).ne p5
     go_loopw [26] (fun i wr => ∃ k:Nat,k ≤ c.t ∧ i = .int .i64 k ∧ WLoop v wr mw k) (fun i _ => c.t - (intOf i).toNat)
     case atStart =>
      exact ⟨0,Nat.zero_le _,rfl,But.refl _ _,HP.out.pw _,by simp,fun j hj => absurd hj (by omega),fun j o hj => absurd hj (by omega),fun j o hj => absurd hj (by omega)⟩
     case round =>
      obtain ⟨k,hk,rfl,hR⟩:=hrel
      have HR:=Lib.hid hR
      have q5:=hR.but.cell hp p5
      clear hR p5
      by_cases hkt:k < c.t
      ·have ed:decide (k < c.t) = true:=decide_eq_true hkt
       go_wp2_with (first | (at_mapUpdate;refine wpList_put rfl _ _ _ 173 rfl 3 _ Tryz.underlying173 Tryz.underlying3 mw v.heap.size k _ (HR.out.map.grown (by go_grown)) rfl rfl rfl HR.out.size ?_) | fail)
       intro w9 h9 q9 s9
       have R9:=HR.out.more h9 hlt q9 s9
       go_wp2_with fail
       exact ⟨⟨k + 1,hkt,by simp,R9⟩,by simp [intOf];omega⟩
      ·obtain rfl:k = c.t:=by omega
       have ed:decide (c.t < c.t) = false:=decide_eq_false (by omega)
       clear hkt
       go_wp2_with fail
       go_ret2
       obtain ⟨B1,B2⟩:=HP.out.book HK.out HR.out
       exact ⟨_,rfl,B1,B2,rfl,rfl⟩
end Go.Proofs.YtcogckjpmmjmbaaGreat
