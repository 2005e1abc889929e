/- Package layout, function by function: what each call returns, and that it leaves all memory that was there as it was. -/
import Derived.Test.YtcogckjpmmjmbaaGreatQDMConf
import Derived.Test.YtcogckjpmmjmbaaGreatQDMBase
import Derived.Laws.EntriesVeiled
namespace Go.Proofs.YtcogckjpmmjmbaaGreat
open Go.ChangeShapes Go.WideShapes Go.ChangeAt Go.RowKit
set_option maxRecDepth 100000
def vNext (t b i f k n:Int):Int:=if zOk t b i f k = true ∧ 0 ≤ n ∧ n < zNodes t b i f k then n else -1
def vWord (t b i f k n:Int):Int:=if zOk t b i f k = true ∧ 0 ≤ n ∧ n < zOps t b i f k then zNodes t b i f k + n else -1
def vLen (t b i f k:Int):Int:=if zOk t b i f k = true then zNodes t b i f k + zOps t b i f k + t else 0
def vHead (t b i f k n:Int):Int:=if zOk t b i f k = true ∧ 0 ≤ n ∧ n < b then 1 + n else -1
def vNode (t b i f k h n:Int):Int:=if zOk t b i f k = true ∧ (0 ≤ h ∧ h < t) ∧ 0 ≤ n ∧ n < 2 * k then 1 + b + h * (2 * k) + n else -1
def vOp (t b i f k h n:Int):Int:=if zOk t b i f k = true ∧ (0 ≤ h ∧ h < t) ∧ 0 ≤ n ∧ n < k then h * k + n else -1
theorem mul_bd {a b A B:Int} (a1:0 ≤ a) (a2:a ≤ A) (b1:0 ≤ b) (b2:b ≤ B):0 ≤ a * b ∧ a * b ≤ A * B :=
 ⟨Int.mul_nonneg a1 b1,Int.mul_le_mul a2 b2 b1 (by omega)⟩
theorem z_bd {t b i f k:Int} (h:zOk t b i f k = true):(1 ≤ t ∧ t ≤ 8) ∧ (1 ≤ b ∧ b ≤ 64) ∧ (1 ≤ k ∧ k ≤ 256) ∧ (0 ≤ t * k ∧ t * k ≤ 2048) ∧ zOps t b i f k = t * k ∧ zNodes t b i f k = 1 + b + 2 * (t * k):=by
 obtain ⟨t1,t2,hb,i1,i2,f1,f2,k1,k2⟩:=zOk_spec.1 h
 have b1:1 ≤ b ∧ b ≤ 64:=by unfold Pow2 at hb;omega
 have p:=mul_bd (A:=8) (B:=256) (a:=t) (b:=k) (by omega) t2 (by omega) k2
 exact ⟨⟨t1,t2⟩,b1,⟨k1,k2⟩,⟨p.1,by have:=p.2;omega⟩,if_pos h,if_pos h⟩
def One (f:Nat) (m:Int) (w:World) (e:Ending) (w':World):Prop :=
 ∃ b:Nat,e = .returned (.func (.func f) #[] #[.pointer (some ⟨b,0,none⟩)]) ∧ w'.cell? ⟨b,0,none⟩ = some (.int .i64 m) ∧ Grown w w'
def Both (f:Nat) (m n:Int) (w:World) (e:Ending) (w':World):Prop :=
 ∃ b c:Nat,e = .returned (.func (.func f) #[] #[.pointer (some ⟨b,0,none⟩),.pointer (some ⟨c,0,none⟩)]) ∧ w'.cell? ⟨b,0,none⟩ = some (.int .i64 m) ∧ w'.cell? ⟨c,0,none⟩ = some (.int .i64 n) ∧ Grown w w'
def Owned (m n:Int) (w:World) (e:Ending) (w':World):Prop :=
 ∃ b c x y:Nat,e = .returned (.func (.func 236) #[] #[.pointer (some ⟨b,0,none⟩),.pointer (some ⟨c,0,none⟩)]) ∧ w'.cell? ⟨b,0,none⟩ = some (.func (.func 242) #[] #[.pointer (some ⟨x,0,none⟩)]) ∧
  w'.cell? ⟨c,0,none⟩ = some (.func (.func 242) #[] #[.pointer (some ⟨y,0,none⟩)]) ∧ w'.cell? ⟨x,0,none⟩ = some (.int .i64 m) ∧ w'.cell? ⟨y,0,none⟩ = some (.int .i64 n) ∧ Grown w w'
theorem below_at (m:Int) (w:World):Calls Tryz.prog 193 #[.int .i64 m] w (One 242 m w):=by
 have hmf:=mkFunc
 go_enter Tryz.func193,Tryz.ntmps193
 go_wp2
 go_ret
 exact ⟨_,rfl,by simp,by go_grown⟩
theorem from_at (m:Int) (w:World):Calls Tryz.prog 194 #[.int .i64 m] w (One 243 m w):=by
 have hmf:=mkFunc
 go_enter Tryz.func194,Tryz.ntmps194
 go_wp2
 go_ret
 exact ⟨_,rfl,by simp,by go_grown⟩
theorem ownFrom_at (m n:Int) (w:World):Calls Tryz.prog 187 #[.int .i64 m,.int .i64 n] w (Both 237 m n w):=by
 have hmf:=mkFunc
 go_enter Tryz.func187,Tryz.ntmps187
 go_wp2
 go_ret
 exact ⟨_,_,rfl,by simp,by simp,by go_grown⟩
theorem nodesEach_at (t b i f k v:Int) (w:World) (h:wrap64 (2 * k) = v):Calls Tryz.prog 195 #[.agg #[.int .i64 t,.int .i64 b,.int .i64 i,.int .i64 f,.int .i64 k]] w fun e w' => e = .returned (.int .i64 v) ∧ Grown w w':=by
 have H:=Lib.hid h;clear h
 go_enter Tryz.func195,Tryz.ntmps195
 go_wp2
 go_ret
 exact ⟨ret_int (by first | exact H.out | (rw [← H.out];go_arith)),by go_grown⟩
theorem owned_at (t b i f k n:Int) (w:World):Calls Tryz.prog 186 #[.agg #[.int .i64 t,.int .i64 b,.int .i64 i,.int .i64 f,.int .i64 k],.int .i64 n] w (Owned t n w):=by
 have hmf:=mkFunc
 go_enter Tryz.func186,Tryz.ntmps186
 go_wp2_with fail
 refine (below_at _ _).mono ?_;rintro e w1 ⟨x,rfl,hx,g1⟩
 go_wp2_with fail
 refine (below_at _ _).mono ?_;rintro e w2 ⟨y,rfl,hy,g2⟩
 replace hx:=gcell g2 hx
 have g3:=gtr (galloc g1) g2;clear g1 g2
 have hs:=World.block_lt_of_cell? w2 _ hx
 have hs':=World.block_lt_of_cell? w2 _ hy
 go_wp2
 go_ret
 exact ⟨_,_,x,y,rfl,by simp,by simp,by simp [World.cell?_alloc_some,hx],by simp [World.cell?_alloc_some,hy],by go_grown⟩
theorem below1_at (n m:Int) (b:Nat) (v:Bool) (w:World) (hc:w.cell? ⟨b,0,none⟩ = some (.int .i64 m)) (h:decide (0 ≤ n ∧ n < m) = v) :
  Calls Tryz.prog 242 #[.int .i64 n,.pointer (some ⟨b,0,none⟩)] w fun e w' => e = .returned (.bool v) ∧ w = w':=by
 subst h
 by_cases h1:0 ≤ n
 ·by_cases h2:n < m
  ·have hd:decide (0 ≤ n ∧ n < m) = true:=decide_eq_true ⟨h1,h2⟩
   rw [hd];clear hd
   go_enter Tryz.func242,Tryz.ntmps242
   go_wp2
   go_ret
   exact ⟨rfl,rfl⟩
  ·have hd:decide (0 ≤ n ∧ n < m) = false:=decide_eq_false (by omega)
   have h3:decide (n < m) = false:=decide_eq_false h2
   rw [hd];clear hd
   go_enter Tryz.func242,Tryz.ntmps242
   go_wp2
   go_ret
   exact ⟨rfl,rfl⟩
 ·have hd:decide (0 ≤ n ∧ n < m) = false:=decide_eq_false (by omega)
  have h3:decide (0 ≤ n) = false:=decide_eq_false h1
  rw [hd];clear hd
  go_enter Tryz.func242,Tryz.ntmps242
  go_wp2
  go_ret
  exact ⟨rfl,rfl⟩
theorem from1_at (n m v:Int) (b:Nat) (w:World) (hc:w.cell? ⟨b,0,none⟩ = some (.int .i64 m)) (h:wrap64 (m + n) = v) :
  Calls Tryz.prog 243 #[.int .i64 n,.pointer (some ⟨b,0,none⟩)] w fun e w' => e = .returned (.int .i64 v) ∧ w = w':=by
 have H:=Lib.hid h;clear h
 go_enter Tryz.func243,Tryz.ntmps243
 go_wp2
 go_ret
 exact ⟨ret_int (by first | exact H.out | (rw [← H.out];go_arith)),rfl⟩
theorem owned1_at (h n m1 m2:Int) (b c x y:Nat) (v:Bool) (w:World) (hb:w.cell? ⟨b,0,none⟩ = some (.func (.func 242) #[] #[.pointer (some ⟨x,0,none⟩)]))
  (hc:w.cell? ⟨c,0,none⟩ = some (.func (.func 242) #[] #[.pointer (some ⟨y,0,none⟩)])) (hx:w.cell? ⟨x,0,none⟩ = some (.int .i64 m1)) (hy:w.cell? ⟨y,0,none⟩ = some (.int .i64 m2))
  (hv:(decide (0 ≤ h ∧ h < m1) && decide (0 ≤ n ∧ n < m2)) = v) :
  Calls Tryz.prog 236 #[.agg #[.int .i64 h,.int .i64 n],.pointer (some ⟨b,0,none⟩),.pointer (some ⟨c,0,none⟩)] w fun e w' => e = .returned (.bool v) ∧ Grown w w':=by
 subst hv
 obtain ⟨v1,h1⟩:∃ v,decide (0 ≤ h ∧ h < m1) = v:=⟨_,rfl⟩
 obtain ⟨v2,h2⟩:∃ v,decide (0 ≤ n ∧ n < m2) = v:=⟨_,rfl⟩
 rw [h1,h2]
 have H1:=Lib.hid h1;clear h1
 have H2:=Lib.hid h2;clear h2
 have sb:=World.block_lt_of_cell? w _ hb
 have sc:=World.block_lt_of_cell? w _ hc
 have sx:=World.block_lt_of_cell? w _ hx
 have sy:=World.block_lt_of_cell? w _ hy
 cases v1
 ·go_enter Tryz.func236,Tryz.ntmps236
  go_wp2_with fail
  refine (below1_at _ _ _ _ _ (by simp [World.cell?_alloc_some,hx]) H1.out).mono ?_;rintro e w2 ⟨rfl,rfl⟩
  go_wp2_with fail
  go_ret
  exact ⟨rfl,by go_grown⟩
 ·go_enter Tryz.func236,Tryz.ntmps236
  go_wp2_with fail
  refine (below1_at _ _ _ _ _ (by simp [World.cell?_alloc_some,hx]) H1.out).mono ?_;rintro e w2 ⟨rfl,rfl⟩
  go_wp2_with fail
  refine (below1_at _ _ _ _ _ (by simp [World.cell?_alloc_some,hy]) H2.out).mono ?_;rintro e w2 ⟨rfl,rfl⟩
  go_wp2_with fail
  go_ret
  exact ⟨rfl,by go_grown⟩
theorem ownFrom1_at (h n m1 m2 v:Int) (b c:Nat) (w:World) (hb:w.cell? ⟨b,0,none⟩ = some (.int .i64 m1)) (hc:w.cell? ⟨c,0,none⟩ = some (.int .i64 m2)) (hv:wrap64 (wrap64 (m1 + wrap64 (h * m2)) + n) = v) :
  Calls Tryz.prog 237 #[.agg #[.int .i64 h,.int .i64 n],.pointer (some ⟨b,0,none⟩),.pointer (some ⟨c,0,none⟩)] w fun e w' => e = .returned (.int .i64 v) ∧ Grown w w':=by
 have H:=Lib.hid hv;clear hv
 have sb:=World.block_lt_of_cell? w _ hb
 have sc:=World.block_lt_of_cell? w _ hc
 go_enter Tryz.func237,Tryz.ntmps237
 go_wp2
 go_ret
 exact ⟨ret_int (by first | exact H.out | (rw [← H.out];go_arith)),by go_grown⟩
theorem find_at (t b i f k n m v r:Int) (b1:Nat) (kf:Nat) (p:Value) (w:World) (hcf:∀ (xs:Array Value) (w:World),(callFunc kf xs).run Tryz.prog w = .ok (.enter kf xs) w) (hc:w.cell? ⟨b1,0,none⟩ = some (.int .i64 m))
  (hk:zOk t b i f k = true → 0 ≤ n → n < m → ∀ w',Grown w w' → Calls Tryz.prog kf #[.int .i64 n,p] w' fun e w'' => e = .returned (.int .i64 v) ∧ w' = w'')
  (hr:(if zOk t b i f k = true ∧ 0 ≤ n ∧ n < m then v else -1) = r) :
  Calls Tryz.prog 192 #[.agg #[.int .i64 t,.int .i64 b,.int .i64 i,.int .i64 f,.int .i64 k],.int .i64 n,.func (.func 242) #[] #[.pointer (some ⟨b1,0,none⟩)],.func (.func kf) #[] #[p]] w
   fun e w' => e = .returned (.int .i64 r) ∧ Grown w w':=by
 subst hr
 by_cases hz:zOk t b i f k = true
 ·have hu:(if zOk t b i f k = true then 0 else 1) = (0:Int):=if_pos hz
  have HU:=Lib.hid hu;clear hu
  by_cases hn:0 ≤ n ∧ n < m
  ·rw [if_pos ⟨hz,hn.1,hn.2⟩]
   have hk':=hk hz hn.1 hn.2
   have hd:decide (0 ≤ n ∧ n < m) = true:=decide_eq_true hn
   have HK:=Lib.hid hk';clear hk' hk hz hn
   have HD:=Lib.hid hd;clear hd
   go_enter Tryz.func192,Tryz.ntmps192
   go_wp2_with fail
   refine (May_at _ _ _ _ _ _ _ HU.out).mono ?_;rintro e w1 ⟨rfl,g1⟩
   have g1':=galloc g1
   replace hc:=gcell g1' hc
   go_wp2_with fail
   refine (below1_at _ _ _ _ _ hc HD.out).mono ?_;rintro e w2 ⟨rfl,rfl⟩
   go_wp2_with fail
   refine (HK.out _ g1').mono ?_;rintro e w2 ⟨rfl,rfl⟩
   go_wp2_with fail
   go_ret
   exact ⟨rfl,g1'⟩
  ·rw [if_neg (fun h => hn h.2)]
   have hd:decide (0 ≤ n ∧ n < m) = false:=decide_eq_false hn
   have HD:=Lib.hid hd;clear hd hk hz hn
   go_enter Tryz.func192,Tryz.ntmps192
   go_wp2_with fail
   refine (May_at _ _ _ _ _ _ _ HU.out).mono ?_;rintro e w1 ⟨rfl,g1⟩
   have g1':=galloc g1
   replace hc:=gcell g1' hc
   go_wp2_with fail
   refine (below1_at _ _ _ _ _ hc HD.out).mono ?_;rintro e w2 ⟨rfl,rfl⟩
   go_wp2_with fail
   go_ret
   exact ⟨rfl,g1'⟩
 ·rw [if_neg (fun h => hz h.1)]
  have hu:(if zOk t b i f k = true then 0 else 1) = (1:Int):=if_neg hz
  have HU:=Lib.hid hu;clear hu hk hz
  go_enter Tryz.func192,Tryz.ntmps192
  go_wp2_with fail
  refine (May_at _ _ _ _ _ _ _ HU.out).mono ?_;rintro e w1 ⟨rfl,g1⟩
  have g1':=galloc g1
  go_wp2_with fail
  go_ret
  exact ⟨rfl,g1'⟩
theorem find2_at (t b i f k h n m1 m2 v r:Int) (bb cc x y:Nat) (kf:Nat) (p q:Value) (w:World) (hcf:∀ (xs:Array Value) (w:World),(callFunc kf xs).run Tryz.prog w = .ok (.enter kf xs) w)
  (hb:w.cell? ⟨bb,0,none⟩ = some (.func (.func 242) #[] #[.pointer (some ⟨x,0,none⟩)]))
  (hc:w.cell? ⟨cc,0,none⟩ = some (.func (.func 242) #[] #[.pointer (some ⟨y,0,none⟩)])) (hx:w.cell? ⟨x,0,none⟩ = some (.int .i64 m1)) (hy:w.cell? ⟨y,0,none⟩ = some (.int .i64 m2))
  (hk:zOk t b i f k = true → (0 ≤ h ∧ h < m1) → 0 ≤ n → n < m2 → ∀ w',Grown w w' → Calls Tryz.prog kf #[.agg #[.int .i64 h,.int .i64 n],p,q] w' fun e w'' => e = .returned (.int .i64 v) ∧ Grown w' w'')
  (hr:(if zOk t b i f k = true ∧ (0 ≤ h ∧ h < m1) ∧ 0 ≤ n ∧ n < m2 then v else -1) = r) :
  Calls Tryz.prog 185 #[.agg #[.int .i64 t,.int .i64 b,.int .i64 i,.int .i64 f,.int .i64 k],.agg #[.int .i64 h,.int .i64 n],.func (.func 236) #[] #[.pointer (some ⟨bb,0,none⟩),.pointer (some ⟨cc,0,none⟩)],.func (.func kf) #[] #[p,q]] w
   fun e w' => e = .returned (.int .i64 r) ∧ Grown w w':=by
 subst hr
 by_cases hz:zOk t b i f k = true
 ·have hu:(if zOk t b i f k = true then 0 else 1) = (0:Int):=if_pos hz
  have HU:=Lib.hid hu;clear hu
  by_cases hn:(0 ≤ h ∧ h < m1) ∧ 0 ≤ n ∧ n < m2
  ·rw [if_pos ⟨hz,hn⟩]
   have hk':=hk hz hn.1 hn.2.1 hn.2.2
   have hd:(decide (0 ≤ h ∧ h < m1) && decide (0 ≤ n ∧ n < m2)) = true:=by rw [decide_eq_true hn.1,decide_eq_true hn.2];rfl
   have HK:=Lib.hid hk';clear hk' hk hz hn
   have HD:=Lib.hid hd;clear hd
   go_enter Tryz.func185,Tryz.ntmps185
   go_wp2_with fail
   refine (May_at _ _ _ _ _ _ _ HU.out).mono ?_;rintro e w1 ⟨rfl,g1⟩
   have c0:w1.cell? ⟨w.heap.size + 1,0,none⟩ = some (.int .i64 h):=gcell g1 (by simp)
   have c1:w1.cell? ⟨w.heap.size + 1,1,none⟩ = some (.int .i64 n):=gcell g1 (by simp)
   have g1':=galloc (galloc g1);clear g1
   replace hb:=gcell g1' hb
   replace hc:=gcell g1' hc
   replace hx:=gcell g1' hx
   replace hy:=gcell g1' hy
   go_wp2_with fail
   refine (owned1_at _ _ _ _ _ _ _ _ _ _ hb hc hx hy HD.out).mono ?_;rintro e w2 ⟨rfl,g2⟩
   replace c0:=gcell g2 c0
   replace c1:=gcell g2 c1
   replace g1':=gtr g1' g2;clear g2
   go_wp2_with fail
   refine (HK.out _ g1').mono ?_;rintro e w3 ⟨rfl,g2⟩
   replace g1':=gtr g1' g2;clear g2
   go_wp2_with fail
   go_ret
   exact ⟨rfl,g1'⟩
  ·rw [if_neg (fun h => hn h.2)]
   have hd:(decide (0 ≤ h ∧ h < m1) && decide (0 ≤ n ∧ n < m2)) = false:=by rw [Bool.and_eq_false_iff,decide_eq_false_iff_not,decide_eq_false_iff_not];exact Classical.not_and_iff_not_or_not.1 hn
   have HD:=Lib.hid hd;clear hd hk hz hn
   go_enter Tryz.func185,Tryz.ntmps185
   go_wp2_with fail
   refine (May_at _ _ _ _ _ _ _ HU.out).mono ?_;rintro e w1 ⟨rfl,g1⟩
   have c0:w1.cell? ⟨w.heap.size + 1,0,none⟩ = some (.int .i64 h):=gcell g1 (by simp)
   have c1:w1.cell? ⟨w.heap.size + 1,1,none⟩ = some (.int .i64 n):=gcell g1 (by simp)
   have g1':=galloc (galloc g1);clear g1
   replace hb:=gcell g1' hb
   replace hc:=gcell g1' hc
   replace hx:=gcell g1' hx
   replace hy:=gcell g1' hy
   go_wp2_with fail
   refine (owned1_at _ _ _ _ _ _ _ _ _ _ hb hc hx hy HD.out).mono ?_;rintro e w2 ⟨rfl,g2⟩
   replace c0:=gcell g2 c0
   replace c1:=gcell g2 c1
   replace g1':=gtr g1' g2;clear g2
   go_wp2_with fail
   go_ret
   exact ⟨rfl,g1'⟩
 ·rw [if_neg (fun h => hz h.1)]
  have hu:(if zOk t b i f k = true then 0 else 1) = (1:Int):=if_neg hz
  have HU:=Lib.hid hu;clear hu hk hz
  go_enter Tryz.func185,Tryz.ntmps185
  go_wp2_with fail
  refine (May_at _ _ _ _ _ _ _ HU.out).mono ?_;rintro e w1 ⟨rfl,g1⟩
  have c0:w1.cell? ⟨w.heap.size + 1,0,none⟩ = some (.int .i64 h):=gcell g1 (by simp)
  have c1:w1.cell? ⟨w.heap.size + 1,1,none⟩ = some (.int .i64 n):=gcell g1 (by simp)
  have g1':=galloc (galloc g1);clear g1
  go_wp2_with fail
  go_ret
  exact ⟨rfl,g1'⟩
set_option maxHeartbeats 1000000 in
theorem Next_at (t b i f k n v:Int) (w:World) (h:vNext t b i f k n = v) :
  Calls Tryz.prog 124 #[.agg #[.int .i64 t,.int .i64 b,.int .i64 i,.int .i64 f,.int .i64 k],.int .i64 n] w fun e w' => e = .returned (.int .i64 v) ∧ Grown w w':=by
 unfold vNext at h
 obtain ⟨u,hu⟩:∃ u,zNodes t b i f k = u:=⟨_,rfl⟩
 have HB:Hid (zOk t b i f k = true → 0 ≤ u ∧ u ≤ 4161):=Lib.hid fun hz => by have:=z_bd hz;omega
 rw [hu] at h
 have HU:=Lib.hid hu;clear hu
 have H:=Lib.hid h;clear h
 go_enter Tryz.func124,Tryz.ntmps124
 go_wp2_with fail
 refine wp_region_mixg [([0,1,2],3),([],4),([],5),([],6)] [7] (by kernel_rfl) (by kernel_rfl) (by kernel_rfl) ?_
 intro w1 g1
 have c0:∀ g:GrW w1,g.w.cell? ⟨w.heap.size,0,none⟩ = some (.int .i64 t):=GrW.cell (gcell g1 (by simp))
 have c1:∀ g:GrW w1,g.w.cell? ⟨w.heap.size,1,none⟩ = some (.int .i64 b):=GrW.cell (gcell g1 (by simp))
 have c2:∀ g:GrW w1,g.w.cell? ⟨w.heap.size,2,none⟩ = some (.int .i64 i):=GrW.cell (gcell g1 (by simp))
 have c3:∀ g:GrW w1,g.w.cell? ⟨w.heap.size,3,none⟩ = some (.int .i64 f):=GrW.cell (gcell g1 (by simp))
 have c4:∀ g:GrW w1,g.w.cell? ⟨w.heap.size,4,none⟩ = some (.int .i64 k):=GrW.cell (gcell g1 (by simp))
 replace g1:=galloc g1
 simp only [segs,nths,nth,List.map_cons,List.map_nil,List.getD_cons_zero,List.getD_cons_succ]
 refine mix_step ?_
 repeat go_big_quiet_step (fail)
 refine wpQuiet_nil ?_
 clear c0 c1 c2 c3 c4
 go_wp2_with fail
 refine (Nodes_at _ _ _ _ _ _ _ HU.out).mono ?_;rintro e w2 ⟨rfl,g2⟩
 go_wp2_with fail
 refine nxt_grow g2 (mix_step (wpQuiet_nil ?_))
 replace g1:=gtr g1 g2
 clear g2
 go_wp2_with fail
 refine (below_at _ _).mono ?_;rintro e w2 ⟨b1,rfl,d1,g2⟩
 go_wp2_with fail
 refine nxt_grow g2 (mix_step (wpQuiet_nil ?_))
 replace g1:=gtr g1 g2
 clear g2
 go_wp2_with fail
 refine (from_at _ _).mono ?_;rintro e w2 ⟨b2,rfl,d2,g2⟩
 go_wp2_with fail
 refine nxt_grow g2 (mix_step (wpQuiet_nil ?_))
 replace g1:=gtr g1 g2
 replace d1:=gcell g2 d1
 clear g2
 go_wp2_with fail
 refine (find_at _ _ _ _ _ _ _ (n) _ _ _ _ _ (fun _ _ => rfl) d1 (fun hz p1 p2 w' g' => from1_at _ _ _ _ _ (gcell g' d2) ?_) H.out).mono ?_
 ·have:=HB.out hz;go_arith
 rintro e w3 ⟨rfl,g2⟩
 go_wp2_with fail
 refine nxt_grow g2 (mix_last ?_)
 replace g1:=gtr g1 g2;clear g2
 repeat go_big_quiet_step (fail)
 refine wpQuiet_nil ?_
 go_wp2
 go_ret
 exact ⟨rfl,g1⟩
set_option maxHeartbeats 1000000 in
theorem Word_at (t b i f k n v:Int) (w:World) (h:vWord t b i f k n = v) :
  Calls Tryz.prog 117 #[.agg #[.int .i64 t,.int .i64 b,.int .i64 i,.int .i64 f,.int .i64 k],.int .i64 n] w fun e w' => e = .returned (.int .i64 v) ∧ Grown w w':=by
 unfold vWord at h
 obtain ⟨u,hu⟩:∃ u,zNodes t b i f k = u:=⟨_,rfl⟩
 have HB:Hid (zOk t b i f k = true → 0 ≤ u ∧ u ≤ 4161):=Lib.hid fun hz => by have:=z_bd hz;omega
 rw [hu] at h
 have HU:=Lib.hid hu;clear hu
 obtain ⟨o,ho⟩:∃ u,zOps t b i f k = u:=⟨_,rfl⟩
 have HP:Hid (zOk t b i f k = true → 0 ≤ o ∧ o ≤ 2048 ∧ (1 ≤ t ∧ t ≤ 8) ∧ (1 ≤ b ∧ b ≤ 64) ∧ (1 ≤ k ∧ k ≤ 256)):=Lib.hid fun hz => by have:=z_bd hz;omega
 rw [ho] at h
 have HO:=Lib.hid ho;clear ho
 have H:=Lib.hid h;clear h
 go_enter Tryz.func117,Tryz.ntmps117
 go_wp2_with fail
 refine wp_region_mixg [([0,1,2,5],3),([],4),([],6),([],7),([],8)] [9] (by kernel_rfl) (by kernel_rfl) (by kernel_rfl) ?_
 intro w1 g1
 have c0:∀ g:GrW w1,g.w.cell? ⟨w.heap.size,0,none⟩ = some (.int .i64 t):=GrW.cell (gcell g1 (by simp))
 have c1:∀ g:GrW w1,g.w.cell? ⟨w.heap.size,1,none⟩ = some (.int .i64 b):=GrW.cell (gcell g1 (by simp))
 have c2:∀ g:GrW w1,g.w.cell? ⟨w.heap.size,2,none⟩ = some (.int .i64 i):=GrW.cell (gcell g1 (by simp))
 have c3:∀ g:GrW w1,g.w.cell? ⟨w.heap.size,3,none⟩ = some (.int .i64 f):=GrW.cell (gcell g1 (by simp))
 have c4:∀ g:GrW w1,g.w.cell? ⟨w.heap.size,4,none⟩ = some (.int .i64 k):=GrW.cell (gcell g1 (by simp))
 replace g1:=galloc g1
 simp only [segs,nths,nth,List.map_cons,List.map_nil,List.getD_cons_zero,List.getD_cons_succ]
 refine mix_step ?_
 repeat go_big_quiet_step (fail)
 refine wpQuiet_nil ?_
 clear c0 c1 c2 c3 c4
 go_wp2_with fail
 refine (Ops_at _ _ _ _ _ _ _ HO.out).mono ?_;rintro e w2 ⟨rfl,g2⟩
 go_wp2_with fail
 refine nxt_grow g2 (mix_step (wpQuiet_nil ?_))
 replace g1:=gtr g1 g2
 clear g2
 go_wp2_with fail
 refine (below_at _ _).mono ?_;rintro e w2 ⟨b1,rfl,d1,g2⟩
 go_wp2_with fail
 refine nxt_grow g2 (mix_step (wpQuiet_nil ?_))
 replace g1:=gtr g1 g2
 clear g2
 go_wp2_with fail
 refine (Nodes_at _ _ _ _ _ _ _ HU.out).mono ?_;rintro e w2 ⟨rfl,g2⟩
 go_wp2_with fail
 refine nxt_grow g2 (mix_step (wpQuiet_nil ?_))
 replace g1:=gtr g1 g2
 replace d1:=gcell g2 d1
 clear g2
 go_wp2_with fail
 refine (from_at _ _).mono ?_;rintro e w2 ⟨b3,rfl,d3,g2⟩
 go_wp2_with fail
 refine nxt_grow g2 (mix_step (wpQuiet_nil ?_))
 replace g1:=gtr g1 g2
 replace d1:=gcell g2 d1
 clear g2
 go_wp2_with fail
 refine (find_at _ _ _ _ _ _ _ (u + n) _ _ _ _ _ (fun _ _ => rfl) d1 (fun hz p1 p2 w' g' => from1_at _ _ _ _ _ (gcell g' d3) ?_) H.out).mono ?_
 ·have:=HB.out hz;have:=HP.out hz;go_arith
 rintro e w3 ⟨rfl,g2⟩
 go_wp2_with fail
 refine nxt_grow g2 (mix_last ?_)
 replace g1:=gtr g1 g2;clear g2
 repeat go_big_quiet_step (fail)
 refine wpQuiet_nil ?_
 go_wp2
 go_ret
 exact ⟨rfl,g1⟩
theorem firstAnn_at (t b i f k v:Int) (w:World) (h:zNodes t b i f k + zOps t b i f k = v) :
  Calls Tryz.prog 182 #[.agg #[.int .i64 t,.int .i64 b,.int .i64 i,.int .i64 f,.int .i64 k]] w fun e w' => e = .returned (.int .i64 v) ∧ Grown w w':=by
 obtain ⟨u,hu⟩:∃ u,zNodes t b i f k = u:=⟨_,rfl⟩
 obtain ⟨o,ho⟩:∃ u,zOps t b i f k = u:=⟨_,rfl⟩
 have hb:(0 ≤ u ∧ u ≤ 4161) ∧ (0 ≤ o ∧ o ≤ 2048):=by
  by_cases hz:zOk t b i f k = true
  ·have:=z_bd hz;omega
  ·have h1:zNodes t b i f k = 0:=if_neg hz
   have h2:zOps t b i f k = 0:=if_neg hz
   omega
 obtain ⟨⟨u0,u1⟩,o0,o1⟩:=hb
 subst h
 rw [hu,ho]
 have HU:=Lib.hid hu;clear hu
 have HO:=Lib.hid ho;clear ho
 go_enter Tryz.func182,Tryz.ntmps182
 go_wp2_with fail
 refine wp_region_mixg [([0,2],1),([],3)] [4,5] (by kernel_rfl) (by kernel_rfl) (by kernel_rfl) ?_
 intro w1 g1
 have c0:∀ g:GrW w1,g.w.cell? ⟨w.heap.size,0,none⟩ = some (.int .i64 t):=GrW.cell (gcell g1 (by simp))
 have c1:∀ g:GrW w1,g.w.cell? ⟨w.heap.size,1,none⟩ = some (.int .i64 b):=GrW.cell (gcell g1 (by simp))
 have c2:∀ g:GrW w1,g.w.cell? ⟨w.heap.size,2,none⟩ = some (.int .i64 i):=GrW.cell (gcell g1 (by simp))
 have c3:∀ g:GrW w1,g.w.cell? ⟨w.heap.size,3,none⟩ = some (.int .i64 f):=GrW.cell (gcell g1 (by simp))
 have c4:∀ g:GrW w1,g.w.cell? ⟨w.heap.size,4,none⟩ = some (.int .i64 k):=GrW.cell (gcell g1 (by simp))
 replace g1:=galloc g1
 simp only [segs,nths,nth,List.map_cons,List.map_nil,List.getD_cons_zero,List.getD_cons_succ]
 refine mix_step ?_
 repeat go_big_quiet_step (fail)
 refine wpQuiet_nil ?_
 clear c0 c1 c2 c3 c4
 go_wp2_with fail
 refine (Nodes_at _ _ _ _ _ _ _ HU.out).mono ?_;rintro e w2 ⟨rfl,g2⟩
 go_wp2_with fail
 refine nxt_grow g2 (mix_step (wpQuiet_nil ?_))
 replace g1:=gtr g1 g2;clear g2
 go_wp2_with fail
 refine (Ops_at _ _ _ _ _ _ _ HO.out).mono ?_;rintro e w2 ⟨rfl,g2⟩
 go_wp2_with fail
 refine nxt_grow g2 (mix_last ?_)
 replace g1:=gtr g1 g2;clear g2
 repeat go_big_quiet_step (fail)
 refine wpQuiet_nil ?_
 go_wp2
 go_ret
 exact ⟨ret_int (by first | rfl | go_arith),g1⟩
set_option maxHeartbeats 1000000 in
theorem Head_at (t b i f k n v:Int) (w:World) (h:vHead t b i f k n = v) :
  Calls Tryz.prog 141 #[.agg #[.int .i64 t,.int .i64 b,.int .i64 i,.int .i64 f,.int .i64 k],.int .i64 n] w fun e w' => e = .returned (.int .i64 v) ∧ Grown w w':=by
 unfold vHead at h
 have HP:Hid (zOk t b i f k = true → (1 ≤ t ∧ t ≤ 8) ∧ (1 ≤ b ∧ b ≤ 64) ∧ (1 ≤ k ∧ k ≤ 256)):=Lib.hid fun hz => by have:=z_bd hz;omega
 have H:=Lib.hid h;clear h
 go_enter Tryz.func141,Tryz.ntmps141
 go_wp2_with fail
 refine wp_region_mixg [([0,1,2,3],4),([],5),([],6)] [7] (by kernel_rfl) (by kernel_rfl) (by kernel_rfl) ?_
 intro w1 g1
 have c0:∀ g:GrW w1,g.w.cell? ⟨w.heap.size,0,none⟩ = some (.int .i64 t):=GrW.cell (gcell g1 (by simp))
 have c1:∀ g:GrW w1,g.w.cell? ⟨w.heap.size,1,none⟩ = some (.int .i64 b):=GrW.cell (gcell g1 (by simp))
 have c2:∀ g:GrW w1,g.w.cell? ⟨w.heap.size,2,none⟩ = some (.int .i64 i):=GrW.cell (gcell g1 (by simp))
 have c3:∀ g:GrW w1,g.w.cell? ⟨w.heap.size,3,none⟩ = some (.int .i64 f):=GrW.cell (gcell g1 (by simp))
 have c4:∀ g:GrW w1,g.w.cell? ⟨w.heap.size,4,none⟩ = some (.int .i64 k):=GrW.cell (gcell g1 (by simp))
 replace g1:=galloc g1
 simp only [segs,nths,nth,List.map_cons,List.map_nil,List.getD_cons_zero,List.getD_cons_succ]
 refine mix_step ?_
 repeat go_big_quiet_step (fail)
 refine wpQuiet_nil ?_
 clear c0 c1 c2 c3 c4
 go_wp2_with fail
 refine (below_at _ _).mono ?_;rintro e w2 ⟨b0,rfl,d0,g2⟩
 go_wp2_with fail
 refine nxt_grow g2 (mix_step (wpQuiet_nil ?_))
 replace g1:=gtr g1 g2
 clear g2
 go_wp2_with fail
 refine (from_at _ _).mono ?_;rintro e w2 ⟨b1,rfl,d1,g2⟩
 go_wp2_with fail
 refine nxt_grow g2 (mix_step (wpQuiet_nil ?_))
 replace g1:=gtr g1 g2
 replace d0:=gcell g2 d0
 clear g2
 go_wp2_with fail
 refine (find_at _ _ _ _ _ _ _ (1 + n) _ _ _ _ _ (fun _ _ => rfl) d0 (fun hz p1 p2 w' g' => from1_at _ _ _ _ _ (gcell g' d1) ?_) H.out).mono ?_
 ·have:=HP.out hz;go_arith
 rintro e w3 ⟨rfl,g2⟩
 go_wp2_with fail
 refine nxt_grow g2 (mix_last ?_)
 replace g1:=gtr g1 g2;clear g2
 repeat go_big_quiet_step (fail)
 refine wpQuiet_nil ?_
 go_wp2
 go_ret
 exact ⟨rfl,g1⟩
set_option maxHeartbeats 1000000 in
theorem Op_at (t b i f k h0 n v:Int) (w:World) (h:vOp t b i f k h0 n = v) :
  Calls Tryz.prog 114 #[.agg #[.int .i64 t,.int .i64 b,.int .i64 i,.int .i64 f,.int .i64 k],.int .i64 h0,.int .i64 n] w fun e w' => e = .returned (.int .i64 v) ∧ Grown w w':=by
 unfold vOp at h
 have HP:Hid (zOk t b i f k = true → (1 ≤ t ∧ t ≤ 8) ∧ (1 ≤ b ∧ b ≤ 64) ∧ (1 ≤ k ∧ k ≤ 256)):=Lib.hid fun hz => by have:=z_bd hz;omega
 have H:=Lib.hid h;clear h
 go_enter Tryz.func114,Tryz.ntmps114
 go_wp2_with fail
 refine wp_region_mixg [([0,1,2,3,4,5,6,8,9],7),([],10),([],11)] [12] (by kernel_rfl) (by kernel_rfl) (by kernel_rfl) ?_
 intro w1 g1
 have c0:∀ g:GrW w1,g.w.cell? ⟨w.heap.size,0,none⟩ = some (.int .i64 t):=GrW.cell (gcell g1 (by simp))
 have c1:∀ g:GrW w1,g.w.cell? ⟨w.heap.size,1,none⟩ = some (.int .i64 b):=GrW.cell (gcell g1 (by simp))
 have c2:∀ g:GrW w1,g.w.cell? ⟨w.heap.size,2,none⟩ = some (.int .i64 i):=GrW.cell (gcell g1 (by simp))
 have c3:∀ g:GrW w1,g.w.cell? ⟨w.heap.size,3,none⟩ = some (.int .i64 f):=GrW.cell (gcell g1 (by simp))
 have c4:∀ g:GrW w1,g.w.cell? ⟨w.heap.size,4,none⟩ = some (.int .i64 k):=GrW.cell (gcell g1 (by simp))
 replace g1:=galloc g1
 simp only [segs,nths,nth,List.map_cons,List.map_nil,List.getD_cons_zero,List.getD_cons_succ]
 refine mix_step ?_
 repeat go_big_quiet_step (fail)
 refine wpQuiet_nil ?_
 clear c0 c1 c2 c3 c4
 go_wp2_with fail
 refine (owned_at _ _ _ _ _ _ _).mono ?_;rintro e w2 ⟨bb,cc,x,y,rfl,d0,d1,d2,d3,g2⟩
 go_wp2_with fail
 refine nxt_grow g2 (mix_step (wpQuiet_nil ?_))
 replace g1:=gtr g1 g2
 clear g2
 go_wp2_with fail
 refine (ownFrom_at _ _ _).mono ?_;rintro e w2 ⟨b1,cc1,rfl,d1',e1,g2⟩
 go_wp2_with fail
 refine nxt_grow g2 (mix_step (wpQuiet_nil ?_))
 replace g1:=gtr g1 g2
 replace d0:=gcell g2 d0
 replace d1:=gcell g2 d1
 replace d2:=gcell g2 d2
 replace d3:=gcell g2 d3
 clear g2
 go_wp2_with fail
 refine (find2_at _ _ _ _ _ _ _ _ _ (h0 * k + n) _ _ _ _ _ _ _ _ _ (fun _ _ => rfl) d0 d1 d2 d3 (fun hz p0 p1 p2 w' g' => ownFrom1_at _ _ _ _ _ _ _ _ (gcell g' d1') (gcell g' e1) ?_) H.out).mono ?_
 ·obtain ⟨x1,x2,x3⟩:=HP.out hz
  have:=mul_bd (a:=h0) (b:=k) (A:=8) (B:=256) (by omega) (by omega) (by omega) (by omega)
  generalize h0 * k = q at this ⊢
  go_arith
 rintro e w3 ⟨rfl,g2⟩
 go_wp2_with fail
 refine nxt_grow g2 (mix_last ?_)
 replace g1:=gtr g1 g2;clear g2
 repeat go_big_quiet_step (fail)
 refine wpQuiet_nil ?_
 go_wp2
 go_ret
 exact ⟨rfl,g1⟩
set_option maxHeartbeats 1000000 in
theorem Node_at (t b i f k h0 n v:Int) (w:World) (h:vNode t b i f k h0 n = v) :
  Calls Tryz.prog 118 #[.agg #[.int .i64 t,.int .i64 b,.int .i64 i,.int .i64 f,.int .i64 k],.int .i64 h0,.int .i64 n] w fun e w' => e = .returned (.int .i64 v) ∧ Grown w w':=by
 unfold vNode at h
 have HP:Hid (zOk t b i f k = true → (1 ≤ t ∧ t ≤ 8) ∧ (1 ≤ b ∧ b ≤ 64) ∧ (1 ≤ k ∧ k ≤ 256)):=Lib.hid fun hz => by have:=z_bd hz;omega
 obtain ⟨m2,hm⟩:∃ u,wrap64 (2 * k) = u:=⟨_,rfl⟩
 obtain ⟨bb1,hb1⟩:∃ u,wrap64 (1 + b) = u:=⟨_,rfl⟩
 have HM:Hid (zOk t b i f k = true → m2 = 2 * k ∧ bb1 = 1 + b):=Lib.hid fun hz => by have:=z_bd hz;subst hm hb1;constructor <;> go_arith
 have h:(if zOk t b i f k = true ∧ (0 ≤ h0 ∧ h0 < t) ∧ 0 ≤ n ∧ n < m2 then 1 + b + h0 * (2 * k) + n else -1) = v:=by
  by_cases hz:zOk t b i f k = true
  ·rw [(HM.out hz).1];exact h
  ·rw [if_neg (fun x => hz x.1)] at h ⊢;exact h
 have HN:=Lib.hid hm;clear hm
 have HB1:=Lib.hid hb1
 have H:=Lib.hid h;clear h
 go_enter Tryz.func118,Tryz.ntmps118
 go_wp2_with fail
 refine (nodesEach_at _ _ _ _ _ _ _ HN.out).mono ?_;rintro e w0 ⟨rfl,g0⟩
 have c0:w0.cell? ⟨w.heap.size,0,none⟩ = some (.int .i64 t):=gcell g0 (by simp)
 have c1:w0.cell? ⟨w.heap.size,1,none⟩ = some (.int .i64 b):=gcell g0 (by simp)
 have c2:w0.cell? ⟨w.heap.size,2,none⟩ = some (.int .i64 i):=gcell g0 (by simp)
 have c3:w0.cell? ⟨w.heap.size,3,none⟩ = some (.int .i64 f):=gcell g0 (by simp)
 have c4:w0.cell? ⟨w.heap.size,4,none⟩ = some (.int .i64 k):=gcell g0 (by simp)
 replace g0:=galloc g0
 go_wp2_with fail
 refine wp_region_mixg [([0,1,2,3,4,5,7,8,9,10],6),([],11),([],12)] [13] (by kernel_rfl) (by kernel_rfl) (by kernel_rfl) ?_
 intro w1 g1
 replace c0:=GrW.cell (gcell g1 c0)
 replace c1:=GrW.cell (gcell g1 c1)
 replace c2:=GrW.cell (gcell g1 c2)
 replace c3:=GrW.cell (gcell g1 c3)
 replace c4:=GrW.cell (gcell g1 c4)
 replace g1:=gtr g0 g1
 simp only [segs,nths,nth,List.map_cons,List.map_nil,List.getD_cons_zero,List.getD_cons_succ]
 refine mix_step ?_
 repeat go_big_quiet_step (fail)
 refine wpQuiet_nil ?_
 clear c0 c1 c2 c3 c4
 go_wp2_with fail
 refine (owned_at _ _ _ _ _ _ _).mono ?_;rintro e w2 ⟨bb,cc,x,y,rfl,d0,d1,d2,d3,g2⟩
 go_wp2_with fail
 refine nxt_grow g2 (mix_step (wpQuiet_nil ?_))
 replace g1:=gtr g1 g2
 clear g2
 go_wp2_with fail
 refine (ownFrom_at _ _ _).mono ?_;rintro e w2 ⟨b1,cc1,rfl,d1',e1,g2⟩
 go_wp2_with fail
 refine nxt_grow g2 (mix_step (wpQuiet_nil ?_))
 replace g1:=gtr g1 g2
 replace d0:=gcell g2 d0
 replace d1:=gcell g2 d1
 replace d2:=gcell g2 d2
 replace d3:=gcell g2 d3
 clear g2
 go_wp2_with fail
 refine (find2_at _ _ _ _ _ _ _ _ _ (1 + b + h0 * (2 * k) + n) _ _ _ _ _ _ _ _ _ (fun _ _ => rfl) d0 d1 d2 d3 (fun hz p0 p1 p2 w' g' => ownFrom1_at _ _ _ _ _ _ _ _ (gcell g' d1') (gcell g' e1) ?_) H.out).mono ?_
 ·obtain ⟨x1,x2,x3⟩:=HP.out hz
  obtain ⟨y1,y2⟩:=HM.out hz
  subst y1 y2
  have:=mul_bd (a:=h0) (b:=2 * k) (A:=8) (B:=512) (by omega) (by omega) (by omega) (by omega)
  generalize h0 * (2 * k) = q at this ⊢
  go_arith
 rintro e w3 ⟨rfl,g2⟩
 go_wp2_with fail
 refine nxt_grow g2 (mix_last ?_)
 replace g1:=gtr g1 g2;clear g2
 repeat go_big_quiet_step (fail)
 refine wpQuiet_nil ?_
 go_wp2
 go_ret
 exact ⟨rfl,g1⟩
theorem Len_at (t b i f k v:Int) (w:World) (h:vLen t b i f k = v) :
  Calls Tryz.prog 110 #[.agg #[.int .i64 t,.int .i64 b,.int .i64 i,.int .i64 f,.int .i64 k]] w fun e w' => e = .returned (.int .i64 v) ∧ Grown w w':=by
 subst h
 by_cases hk:zOk t b i f k = true
 ·have hv:vLen t b i f k = zNodes t b i f k + zOps t b i f k + t:=if_pos hk
  rw [hv];clear hv
  have hs:=z_bd hk
  obtain ⟨⟨t1,t2⟩,b1,-,p1,ho,hn⟩:=hs
  have hu:(if zOk t b i f k = true then 0 else 1) = (0:Int):=if_pos hk
  have HU:=Lib.hid hu;clear hu hk
  obtain ⟨o,hoo⟩:∃ u,zNodes t b i f k + zOps t b i f k = u:=⟨_,rfl⟩
  have o1:0 ≤ o ∧ o ≤ 99999:=by omega
  obtain ⟨o1,o2⟩:=o1
  rw [hoo]
  have HO:=Lib.hid hoo;clear hoo ho hn p1 b1
  go_enter Tryz.func110,Tryz.ntmps110
  go_wp2_with fail
  refine (May_at _ _ _ _ _ _ _ HU.out).mono ?_;rintro e w1 ⟨rfl,g1⟩
  have c0:∀ g:GrW w1,g.w.cell? ⟨w.heap.size,0,none⟩ = some (.int .i64 t):=GrW.cell (gcell g1 (by simp))
  have c1:∀ g:GrW w1,g.w.cell? ⟨w.heap.size,1,none⟩ = some (.int .i64 b):=GrW.cell (gcell g1 (by simp))
  have c2:∀ g:GrW w1,g.w.cell? ⟨w.heap.size,2,none⟩ = some (.int .i64 i):=GrW.cell (gcell g1 (by simp))
  have c3:∀ g:GrW w1,g.w.cell? ⟨w.heap.size,3,none⟩ = some (.int .i64 f):=GrW.cell (gcell g1 (by simp))
  have c4:∀ g:GrW w1,g.w.cell? ⟨w.heap.size,4,none⟩ = some (.int .i64 k):=GrW.cell (gcell g1 (by simp))
  have g1':=galloc g1
  go_wp2_with fail
  refine wp_region_grow (by kernel_rfl) (by kernel_rfl) ?_
  repeat (go_big_quiet_step ((go_at_call 182;exact grcall (firstAnn_at _ _ _ _ _ _ _ HO.out))))
  refine wpQuiet_nil ?_
  rintro _ ⟨⟨w2,g2⟩,rfl⟩
  have g2':=gtr g1' g2
  go_wp2
  go_ret
  exact ⟨rfl,by go_grown⟩
 ·have hv:vLen t b i f k = 0:=if_neg hk
  rw [hv];clear hv
  have hu:(if zOk t b i f k = true then 0 else 1) = (1:Int):=if_neg hk
  have HU:=Lib.hid hu;clear hu hk
  go_enter Tryz.func110,Tryz.ntmps110
  go_wp2_with fail
  refine (May_at _ _ _ _ _ _ _ HU.out).mono ?_;rintro e w1 ⟨rfl,g1⟩
  have g1':=galloc g1
  go_wp2_with fail
  go_ret
  exact ⟨rfl,by go_grown⟩
end Go.Proofs.YtcogckjpmmjmbaaGreat
namespace Go.Proofs.YtcogckjpmmjmbaaGreat
open Go.ChangeShapes Go.WideShapes Go.ChangeAt Go.RowKit
set_option maxRecDepth 100000
def bIn (t b i f k n m:Int):Bool:=zOk t b i f k && decide (0 ≤ n ∧ n < m)
theorem bIn_spec {t b i f k n m:Int}:bIn t b i f k n m = true ↔ zOk t b i f k = true ∧ 0 ≤ n ∧ n < m:=by
 unfold bIn;rw [Bool.and_eq_true,decide_eq_true_eq]
theorem rIn_at (t b i f k n m:Int) (v:Bool) (w:World) (h:bIn t b i f k n m = v) :
  Calls Tryz.prog 156 #[.agg #[.int .i64 t,.int .i64 b,.int .i64 i,.int .i64 f,.int .i64 k],.int .i64 n,.int .i64 m] w fun e w' => e = .returned (.bool v) ∧ Grown w w':=by
 subst h
 by_cases hz:zOk t b i f k = true
 ·have hu:(if zOk t b i f k = true then 0 else 1) = (0:Int):=if_pos hz
  have HU:=Lib.hid hu;clear hu
  by_cases h1:0 ≤ n
  ·by_cases h2:n < m
   ·have hd:bIn t b i f k n m = true:=bIn_spec.2 ⟨hz,h1,h2⟩
    rw [hd];clear hd hz
    have e1:decide (0 ≤ n) = true:=decide_eq_true h1
    have e2:decide (n < m) = true:=decide_eq_true h2
    go_enter Tryz.func156,Tryz.ntmps156
    go_wp2_with fail
    refine (rMayC_at _ _ _ _ _ _ _ HU.out).mono ?_;rintro e w1 ⟨rfl,g1⟩
    have g1':=galloc g1
    go_wp2_with fail
    go_ret
    exact ⟨rfl,by go_grown⟩
   ·have hd:bIn t b i f k n m = false:=by rw [Bool.eq_false_iff];intro h;exact h2 (bIn_spec.1 h).2.2
    rw [hd];clear hd hz
    have e1:decide (0 ≤ n) = true:=decide_eq_true h1
    have e2:decide (n < m) = false:=decide_eq_false h2
    go_enter Tryz.func156,Tryz.ntmps156
    go_wp2_with fail
    refine (rMayC_at _ _ _ _ _ _ _ HU.out).mono ?_;rintro e w1 ⟨rfl,g1⟩
    have g1':=galloc g1
    go_wp2_with fail
    go_ret
    exact ⟨rfl,by go_grown⟩
  ·have hd:bIn t b i f k n m = false:=by rw [Bool.eq_false_iff];intro h;exact h1 (bIn_spec.1 h).2.1
   rw [hd];clear hd hz
   have e1:decide (0 ≤ n) = false:=decide_eq_false h1
   go_enter Tryz.func156,Tryz.ntmps156
   go_wp2_with fail
   refine (rMayC_at _ _ _ _ _ _ _ HU.out).mono ?_;rintro e w1 ⟨rfl,g1⟩
   have g1':=galloc g1
   go_wp2_with fail
   go_ret
   exact ⟨rfl,by go_grown⟩
 ·have hu:(if zOk t b i f k = true then 0 else 1) = (1:Int):=if_neg hz
  have HU:=Lib.hid hu;clear hu
  have hd:bIn t b i f k n m = false:=by rw [Bool.eq_false_iff];intro h;exact hz (bIn_spec.1 h).1
  rw [hd];clear hd hz
  go_enter Tryz.func156,Tryz.ntmps156
  go_wp2_with fail
  refine (rMayC_at _ _ _ _ _ _ _ HU.out).mono ?_;rintro e w1 ⟨rfl,g1⟩
  have g1':=galloc g1
  go_wp2_with fail
  go_ret
  exact ⟨rfl,by go_grown⟩
set_option maxHeartbeats 1000000 in
theorem rNext_at (t b i f k n v:Int) (w:World) (h:vNext t b i f k n = v) :
  Calls Tryz.prog 86 #[.agg #[.int .i64 t,.int .i64 b,.int .i64 i,.int .i64 f,.int .i64 k],.int .i64 n] w fun e w' => e = .returned (.int .i64 v) ∧ Grown w w':=by
 subst h
 obtain ⟨m,hm⟩:∃ u,zNodes t b i f k = u:=⟨_,rfl⟩
 by_cases hi:bIn t b i f k n (zNodes t b i f k) = true
 ·have hs:=bIn_spec.1 hi
  have hv:vNext t b i f k n = n:=if_pos hs
  rw [hv];clear hv
  rw [hm] at hi
  have HM:=Lib.hid hm;clear hm
  have HI:=Lib.hid hi;clear hi
  go_enter Tryz.func86,Tryz.ntmps86
  go_wp2_with fail
  refine wp_region_mixg [([0,1,2],3),([],4)] [] (by kernel_rfl) (by kernel_rfl) (by kernel_rfl) ?_
  intro w1 g1
  have c0:∀ g:GrW w1,g.w.cell? ⟨w.heap.size,0,none⟩ = some (.int .i64 t):=GrW.cell (gcell g1 (by simp))
  have c1:∀ g:GrW w1,g.w.cell? ⟨w.heap.size,1,none⟩ = some (.int .i64 b):=GrW.cell (gcell g1 (by simp))
  have c2:∀ g:GrW w1,g.w.cell? ⟨w.heap.size,2,none⟩ = some (.int .i64 i):=GrW.cell (gcell g1 (by simp))
  have c3:∀ g:GrW w1,g.w.cell? ⟨w.heap.size,3,none⟩ = some (.int .i64 f):=GrW.cell (gcell g1 (by simp))
  have c4:∀ g:GrW w1,g.w.cell? ⟨w.heap.size,4,none⟩ = some (.int .i64 k):=GrW.cell (gcell g1 (by simp))
  replace g1:=galloc g1
  simp only [segs,nths,nth,List.map_cons,List.map_nil,List.getD_cons_zero,List.getD_cons_succ]
  refine mix_step ?_
  repeat go_big_quiet_step (fail)
  refine wpQuiet_nil ?_
  replace c0:=c0 ⟨w1,Grown.refl _⟩
  replace c1:=c1 ⟨w1,Grown.refl _⟩
  replace c2:=c2 ⟨w1,Grown.refl _⟩
  replace c3:=c3 ⟨w1,Grown.refl _⟩
  replace c4:=c4 ⟨w1,Grown.refl _⟩
  go_wp2_with fail
  refine (rNodes_at _ _ _ _ _ _ _ HM.out).mono ?_;rintro e w2 ⟨rfl,g2⟩
  replace c0:=gcell g2 c0
  replace c1:=gcell g2 c1
  replace c2:=gcell g2 c2
  replace c3:=gcell g2 c3
  replace c4:=gcell g2 c4
  go_wp2_with fail
  refine nxt_grow g2 (mix_step (wpQuiet_nil ?_))
  replace g1:=gtr g1 g2;clear g2
  go_wp2_with fail
  refine (rIn_at _ _ _ _ _ _ _ _ _ HI.out).mono ?_;rintro e w3 ⟨rfl,g2⟩
  replace c0:=gcell g2 c0
  replace c1:=gcell g2 c1
  replace c2:=gcell g2 c2
  replace c3:=gcell g2 c3
  replace c4:=gcell g2 c4
  go_wp2_with fail
  refine nxt_grow g2 (mix_last (wpQuiet_nil ?_))
  replace g1:=gtr g1 g2;clear g2
  clear c0 c1 c2 c3 c4
  go_wp2_with fail
  go_ret
  exact ⟨rfl,g1⟩
 ·have hv:vNext t b i f k n = -1:=if_neg fun h => hi (bIn_spec.2 h)
  rw [hv];clear hv
  replace hi:bIn t b i f k n (zNodes t b i f k) = false:=by simpa using hi
  rw [hm] at hi
  have HM:=Lib.hid hm;clear hm
  have HI:=Lib.hid hi;clear hi
  go_enter Tryz.func86,Tryz.ntmps86
  go_wp2_with fail
  refine wp_region_mixg [([0,1,2],3),([],4)] [] (by kernel_rfl) (by kernel_rfl) (by kernel_rfl) ?_
  intro w1 g1
  have c0:∀ g:GrW w1,g.w.cell? ⟨w.heap.size,0,none⟩ = some (.int .i64 t):=GrW.cell (gcell g1 (by simp))
  have c1:∀ g:GrW w1,g.w.cell? ⟨w.heap.size,1,none⟩ = some (.int .i64 b):=GrW.cell (gcell g1 (by simp))
  have c2:∀ g:GrW w1,g.w.cell? ⟨w.heap.size,2,none⟩ = some (.int .i64 i):=GrW.cell (gcell g1 (by simp))
  have c3:∀ g:GrW w1,g.w.cell? ⟨w.heap.size,3,none⟩ = some (.int .i64 f):=GrW.cell (gcell g1 (by simp))
  have c4:∀ g:GrW w1,g.w.cell? ⟨w.heap.size,4,none⟩ = some (.int .i64 k):=GrW.cell (gcell g1 (by simp))
  replace g1:=galloc g1
  simp only [segs,nths,nth,List.map_cons,List.map_nil,List.getD_cons_zero,List.getD_cons_succ]
  refine mix_step ?_
  repeat go_big_quiet_step (fail)
  refine wpQuiet_nil ?_
  replace c0:=c0 ⟨w1,Grown.refl _⟩
  replace c1:=c1 ⟨w1,Grown.refl _⟩
  replace c2:=c2 ⟨w1,Grown.refl _⟩
  replace c3:=c3 ⟨w1,Grown.refl _⟩
  replace c4:=c4 ⟨w1,Grown.refl _⟩
  go_wp2_with fail
  refine (rNodes_at _ _ _ _ _ _ _ HM.out).mono ?_;rintro e w2 ⟨rfl,g2⟩
  replace c0:=gcell g2 c0
  replace c1:=gcell g2 c1
  replace c2:=gcell g2 c2
  replace c3:=gcell g2 c3
  replace c4:=gcell g2 c4
  go_wp2_with fail
  refine nxt_grow g2 (mix_step (wpQuiet_nil ?_))
  replace g1:=gtr g1 g2;clear g2
  go_wp2_with fail
  refine (rIn_at _ _ _ _ _ _ _ _ _ HI.out).mono ?_;rintro e w3 ⟨rfl,g2⟩
  replace c0:=gcell g2 c0
  replace c1:=gcell g2 c1
  replace c2:=gcell g2 c2
  replace c3:=gcell g2 c3
  replace c4:=gcell g2 c4
  go_wp2_with fail
  refine nxt_grow g2 (mix_last (wpQuiet_nil ?_))
  replace g1:=gtr g1 g2;clear g2
  clear c0 c1 c2 c3 c4
  go_wp2_with fail
  go_ret
  exact ⟨rfl,g1⟩
set_option maxHeartbeats 1000000 in
theorem rWord_at (t b i f k n v:Int) (w:World) (h:vWord t b i f k n = v) :
  Calls Tryz.prog 132 #[.agg #[.int .i64 t,.int .i64 b,.int .i64 i,.int .i64 f,.int .i64 k],.int .i64 n] w fun e w' => e = .returned (.int .i64 v) ∧ Grown w w':=by
 subst h
 obtain ⟨m,hm⟩:∃ u,zOps t b i f k = u:=⟨_,rfl⟩
 by_cases hi:bIn t b i f k n (zOps t b i f k) = true
 ·have hs:=bIn_spec.1 hi
  have hv:vWord t b i f k n = zNodes t b i f k + n:=if_pos hs
  rw [hv];clear hv
  have hb:=z_bd hs.1
  obtain ⟨u,hu⟩:∃ u,zNodes t b i f k = u:=⟨_,rfl⟩
  have u1:0 ≤ u ∧ u ≤ 4161:=by omega
  obtain ⟨u1,u2⟩:=u1
  have n1:0 ≤ n ∧ n ≤ 9999:=by omega
  obtain ⟨n1,n2⟩:=n1
  rw [hu]
  have HU:=Lib.hid hu;clear hu hb hs
  rw [hm] at hi
  have HM:=Lib.hid hm;clear hm
  have HI:=Lib.hid hi;clear hi
  go_enter Tryz.func132,Tryz.ntmps132
  go_wp2_with fail
  refine wp_region_mixg [([0,1,2],3),([],4)] [] (by kernel_rfl) (by kernel_rfl) (by kernel_rfl) ?_
  intro w1 g1
  have c0:∀ g:GrW w1,g.w.cell? ⟨w.heap.size,0,none⟩ = some (.int .i64 t):=GrW.cell (gcell g1 (by simp))
  have c1:∀ g:GrW w1,g.w.cell? ⟨w.heap.size,1,none⟩ = some (.int .i64 b):=GrW.cell (gcell g1 (by simp))
  have c2:∀ g:GrW w1,g.w.cell? ⟨w.heap.size,2,none⟩ = some (.int .i64 i):=GrW.cell (gcell g1 (by simp))
  have c3:∀ g:GrW w1,g.w.cell? ⟨w.heap.size,3,none⟩ = some (.int .i64 f):=GrW.cell (gcell g1 (by simp))
  have c4:∀ g:GrW w1,g.w.cell? ⟨w.heap.size,4,none⟩ = some (.int .i64 k):=GrW.cell (gcell g1 (by simp))
  replace g1:=galloc g1
  simp only [segs,nths,nth,List.map_cons,List.map_nil,List.getD_cons_zero,List.getD_cons_succ]
  refine mix_step ?_
  repeat go_big_quiet_step (fail)
  refine wpQuiet_nil ?_
  replace c0:=c0 ⟨w1,Grown.refl _⟩
  replace c1:=c1 ⟨w1,Grown.refl _⟩
  replace c2:=c2 ⟨w1,Grown.refl _⟩
  replace c3:=c3 ⟨w1,Grown.refl _⟩
  replace c4:=c4 ⟨w1,Grown.refl _⟩
  go_wp2_with fail
  refine (rOps_at _ _ _ _ _ _ _ HM.out).mono ?_;rintro e w2 ⟨rfl,g2⟩
  replace c0:=gcell g2 c0
  replace c1:=gcell g2 c1
  replace c2:=gcell g2 c2
  replace c3:=gcell g2 c3
  replace c4:=gcell g2 c4
  go_wp2_with fail
  refine nxt_grow g2 (mix_step (wpQuiet_nil ?_))
  replace g1:=gtr g1 g2;clear g2
  go_wp2_with fail
  refine (rIn_at _ _ _ _ _ _ _ _ _ HI.out).mono ?_;rintro e w3 ⟨rfl,g2⟩
  replace c0:=gcell g2 c0
  replace c1:=gcell g2 c1
  replace c2:=gcell g2 c2
  replace c3:=gcell g2 c3
  replace c4:=gcell g2 c4
  go_wp2_with fail
  refine nxt_grow g2 (mix_last (wpQuiet_nil ?_))
  replace g1:=gtr g1 g2;clear g2
  go_wp2_with fail
  refine (rNodes_at _ _ _ _ _ _ _ HU.out).mono ?_;rintro e w4 ⟨rfl,g2⟩
  replace g1:=gtr g1 g2;clear g2
  clear c0 c1 c2 c3 c4
  go_wp2_with fail
  go_ret
  exact ⟨ret_int (by first | rfl | go_arith),g1⟩
 ·have hv:vWord t b i f k n = -1:=if_neg fun h => hi (bIn_spec.2 h)
  rw [hv];clear hv
  replace hi:bIn t b i f k n (zOps t b i f k) = false:=by simpa using hi
  rw [hm] at hi
  have HM:=Lib.hid hm;clear hm
  have HI:=Lib.hid hi;clear hi
  go_enter Tryz.func132,Tryz.ntmps132
  go_wp2_with fail
  refine wp_region_mixg [([0,1,2],3),([],4)] [] (by kernel_rfl) (by kernel_rfl) (by kernel_rfl) ?_
  intro w1 g1
  have c0:∀ g:GrW w1,g.w.cell? ⟨w.heap.size,0,none⟩ = some (.int .i64 t):=GrW.cell (gcell g1 (by simp))
  have c1:∀ g:GrW w1,g.w.cell? ⟨w.heap.size,1,none⟩ = some (.int .i64 b):=GrW.cell (gcell g1 (by simp))
  have c2:∀ g:GrW w1,g.w.cell? ⟨w.heap.size,2,none⟩ = some (.int .i64 i):=GrW.cell (gcell g1 (by simp))
  have c3:∀ g:GrW w1,g.w.cell? ⟨w.heap.size,3,none⟩ = some (.int .i64 f):=GrW.cell (gcell g1 (by simp))
  have c4:∀ g:GrW w1,g.w.cell? ⟨w.heap.size,4,none⟩ = some (.int .i64 k):=GrW.cell (gcell g1 (by simp))
  replace g1:=galloc g1
  simp only [segs,nths,nth,List.map_cons,List.map_nil,List.getD_cons_zero,List.getD_cons_succ]
  refine mix_step ?_
  repeat go_big_quiet_step (fail)
  refine wpQuiet_nil ?_
  replace c0:=c0 ⟨w1,Grown.refl _⟩
  replace c1:=c1 ⟨w1,Grown.refl _⟩
  replace c2:=c2 ⟨w1,Grown.refl _⟩
  replace c3:=c3 ⟨w1,Grown.refl _⟩
  replace c4:=c4 ⟨w1,Grown.refl _⟩
  go_wp2_with fail
  refine (rOps_at _ _ _ _ _ _ _ HM.out).mono ?_;rintro e w2 ⟨rfl,g2⟩
  replace c0:=gcell g2 c0
  replace c1:=gcell g2 c1
  replace c2:=gcell g2 c2
  replace c3:=gcell g2 c3
  replace c4:=gcell g2 c4
  go_wp2_with fail
  refine nxt_grow g2 (mix_step (wpQuiet_nil ?_))
  replace g1:=gtr g1 g2;clear g2
  go_wp2_with fail
  refine (rIn_at _ _ _ _ _ _ _ _ _ HI.out).mono ?_;rintro e w3 ⟨rfl,g2⟩
  replace c0:=gcell g2 c0
  replace c1:=gcell g2 c1
  replace c2:=gcell g2 c2
  replace c3:=gcell g2 c3
  replace c4:=gcell g2 c4
  go_wp2_with fail
  refine nxt_grow g2 (mix_last (wpQuiet_nil ?_))
  replace g1:=gtr g1 g2;clear g2
  clear c0 c1 c2 c3 c4
  go_wp2_with fail
  go_ret
  exact ⟨rfl,g1⟩
theorem rLen_at (t b i f k v:Int) (w:World) (h:vLen t b i f k = v) :
  Calls Tryz.prog 127 #[.agg #[.int .i64 t,.int .i64 b,.int .i64 i,.int .i64 f,.int .i64 k]] w fun e w' => e = .returned (.int .i64 v) ∧ Grown w w':=by
 subst h
 by_cases hk:zOk t b i f k = true
 ·have hv:vLen t b i f k = zNodes t b i f k + zOps t b i f k + t:=if_pos hk
  rw [hv];clear hv
  have hb:=z_bd hk
  have hu:(if zOk t b i f k = true then 0 else 1) = (0:Int):=if_pos hk
  have HV:=Lib.hid hu;clear hu hk
  obtain ⟨u,hu⟩:∃ u,zNodes t b i f k = u:=⟨_,rfl⟩
  obtain ⟨o,ho⟩:∃ u,zOps t b i f k = u:=⟨_,rfl⟩
  have u1:(0 ≤ u ∧ u ≤ 4161) ∧ 0 ≤ o ∧ o ≤ 2048:=by omega
  obtain ⟨⟨u1,u2⟩,o1,o2⟩:=u1
  have n1:1 ≤ t ∧ t ≤ 8:=by omega
  obtain ⟨n1,n2⟩:=n1
  rw [hu,ho]
  have HU:=Lib.hid hu
  have HO:=Lib.hid ho;clear hu ho hb
  go_enter Tryz.func127,Tryz.ntmps127
  go_wp2_with fail
  refine (rMayC_at _ _ _ _ _ _ _ HV.out).mono ?_;rintro e w1 ⟨rfl,g1⟩
  have c0:∀ g:GrW w1,g.w.cell? ⟨w.heap.size,0,none⟩ = some (.int .i64 t):=GrW.cell (gcell g1 (by simp))
  have c1:∀ g:GrW w1,g.w.cell? ⟨w.heap.size,1,none⟩ = some (.int .i64 b):=GrW.cell (gcell g1 (by simp))
  have c2:∀ g:GrW w1,g.w.cell? ⟨w.heap.size,2,none⟩ = some (.int .i64 i):=GrW.cell (gcell g1 (by simp))
  have c3:∀ g:GrW w1,g.w.cell? ⟨w.heap.size,3,none⟩ = some (.int .i64 f):=GrW.cell (gcell g1 (by simp))
  have c4:∀ g:GrW w1,g.w.cell? ⟨w.heap.size,4,none⟩ = some (.int .i64 k):=GrW.cell (gcell g1 (by simp))
  replace g1:=galloc g1
  go_wp2_with fail
  refine wp_region_grow (by kernel_rfl) (by kernel_rfl) ?_
  repeat (go_big_quiet_step ((first | (go_at_call 149;exact grcall (rNodes_at _ _ _ _ _ _ _ HU.out)) | (go_at_call 201;exact grcall (rOps_at _ _ _ _ _ _ _ HO.out)))))
  refine wpQuiet_nil ?_
  rintro _ ⟨⟨w2,g2⟩,rfl⟩
  have g2':=gtr g1 g2
  go_wp2
  go_ret
  exact ⟨ret_int (by first | rfl | go_arith),g2'⟩
 ·have hv:vLen t b i f k = 0:=if_neg hk
  rw [hv];clear hv
  have hu:(if zOk t b i f k = true then 0 else 1) = (1:Int):=if_neg hk
  have HU:=Lib.hid hu;clear hu hk
  go_enter Tryz.func127,Tryz.ntmps127
  go_wp2_with fail
  refine (rMayC_at _ _ _ _ _ _ _ HU.out).mono ?_;rintro e w1 ⟨rfl,g1⟩
  have g1':=galloc g1
  go_wp2_with fail
  go_ret
  exact ⟨rfl,by go_grown⟩
set_option maxHeartbeats 1000000 in
theorem rOp_at (t b i f k h0 n v:Int) (w:World) (h:vOp t b i f k h0 n = v) :
  Calls Tryz.prog 130 #[.agg #[.int .i64 t,.int .i64 b,.int .i64 i,.int .i64 f,.int .i64 k],.int .i64 h0,.int .i64 n] w fun e w' => e = .returned (.int .i64 v) ∧ Grown w w':=by
 subst h
 by_cases hi:bIn t b i f k h0 t = true
 ·have hs:=bIn_spec.1 hi
  have hb:=z_bd hs.1
  have HI:=Lib.hid hi;clear hi
  have k1:1 ≤ k ∧ k ≤ 256:=by omega
  obtain ⟨k1,k2⟩:=k1
  have t1:(0 ≤ h0 ∧ h0 ≤ 7) ∧ 1 ≤ b ∧ b ≤ 64:=by omega
  obtain ⟨⟨t1,t2⟩,b1,b2⟩:=t1
  by_cases hj:bIn t b i f k n (k) = true
  ·have hs':=bIn_spec.1 hj
   have hv:vOp t b i f k h0 n = h0 * k + n:=if_pos ⟨hs.1,hs.2,by omega,by omega⟩
   rw [hv];clear hv
   have HJ:=Lib.hid hj;clear hj
   have n1:0 ≤ n ∧ n ≤ 512:=by omega
   obtain ⟨n1,n2⟩:=n1
   have hq:=mul_bd (a:=h0) (b:=k) (A:=7) (B:=256) (by omega) (by omega) (by omega) (by omega)
   obtain ⟨q0,q1⟩:=hq
   have hq:wrap64 (h0 * k) = h0 * k:=by generalize h0 * k = q at q0 q1;go_arith
   clear hs hs' hb
   go_enter Tryz.func130,Tryz.ntmps130
   go_wp2_with fail
   refine (rIn_at _ _ _ _ _ _ _ _ _ HI.out).mono ?_;rintro e w1 ⟨rfl,g1⟩
   have c0:w1.cell? ⟨w.heap.size,0,none⟩ = some (.int .i64 t):=gcell g1 (by simp)
   have c1:w1.cell? ⟨w.heap.size,1,none⟩ = some (.int .i64 b):=gcell g1 (by simp)
   have c2:w1.cell? ⟨w.heap.size,2,none⟩ = some (.int .i64 i):=gcell g1 (by simp)
   have c3:w1.cell? ⟨w.heap.size,3,none⟩ = some (.int .i64 f):=gcell g1 (by simp)
   have c4:w1.cell? ⟨w.heap.size,4,none⟩ = some (.int .i64 k):=gcell g1 (by simp)
   replace g1:=galloc g1
   go_wp2_with fail
   refine (rIn_at _ _ _ _ _ _ _ _ _ HJ.out).mono ?_;rintro e w2 ⟨rfl,g2⟩
   replace c0:=gcell g2 c0
   replace c1:=gcell g2 c1
   replace c2:=gcell g2 c2
   replace c3:=gcell g2 c3
   replace c4:=gcell g2 c4
   replace g1:=gtr g1 g2;clear g2
   go_wp2
   go_ret
   exact ⟨ret_int (by first | rfl | (rw [hq];go_arith) | (simp only [hq];go_arith)),g1⟩
  ·have hv:vOp t b i f k h0 n = -1:=if_neg fun h => hj (bIn_spec.2 ⟨hs.1,by omega,by omega⟩)
   rw [hv];clear hv
   replace hj:bIn t b i f k n (k) = false:=by simpa using hj
   have HJ:=Lib.hid hj;clear hj hs hb
   go_enter Tryz.func130,Tryz.ntmps130
   go_wp2_with fail
   refine (rIn_at _ _ _ _ _ _ _ _ _ HI.out).mono ?_;rintro e w1 ⟨rfl,g1⟩
   have c0:w1.cell? ⟨w.heap.size,0,none⟩ = some (.int .i64 t):=gcell g1 (by simp)
   have c1:w1.cell? ⟨w.heap.size,1,none⟩ = some (.int .i64 b):=gcell g1 (by simp)
   have c2:w1.cell? ⟨w.heap.size,2,none⟩ = some (.int .i64 i):=gcell g1 (by simp)
   have c3:w1.cell? ⟨w.heap.size,3,none⟩ = some (.int .i64 f):=gcell g1 (by simp)
   have c4:w1.cell? ⟨w.heap.size,4,none⟩ = some (.int .i64 k):=gcell g1 (by simp)
   replace g1:=galloc g1
   go_wp2_with fail
   refine (rIn_at _ _ _ _ _ _ _ _ _ HJ.out).mono ?_;rintro e w2 ⟨rfl,g2⟩
   replace g1:=gtr g1 g2;clear g2 c0 c1 c2 c3 c4
   go_wp2
   go_ret
   exact ⟨rfl,g1⟩
 ·have hv:vOp t b i f k h0 n = -1:=if_neg fun h => hi (bIn_spec.2 ⟨h.1,h.2.1⟩)
  rw [hv];clear hv
  replace hi:bIn t b i f k h0 t = false:=by simpa using hi
  have HI:=Lib.hid hi;clear hi
  go_enter Tryz.func130,Tryz.ntmps130
  go_wp2_with fail
  refine (rIn_at _ _ _ _ _ _ _ _ _ HI.out).mono ?_;rintro e w1 ⟨rfl,g1⟩
  replace g1:=galloc g1
  go_wp2
  go_ret
  exact ⟨rfl,g1⟩
set_option maxHeartbeats 1000000 in
theorem rNode_at (t b i f k h0 n v:Int) (w:World) (h:vNode t b i f k h0 n = v) :
  Calls Tryz.prog 134 #[.agg #[.int .i64 t,.int .i64 b,.int .i64 i,.int .i64 f,.int .i64 k],.int .i64 h0,.int .i64 n] w fun e w' => e = .returned (.int .i64 v) ∧ Grown w w':=by
 subst h
 by_cases hi:bIn t b i f k h0 t = true
 ·have hs:=bIn_spec.1 hi
  have hb:=z_bd hs.1
  have HI:=Lib.hid hi;clear hi
  have k1:1 ≤ k ∧ k ≤ 256:=by omega
  obtain ⟨k1,k2⟩:=k1
  have t1:(0 ≤ h0 ∧ h0 ≤ 7) ∧ 1 ≤ b ∧ b ≤ 64:=by omega
  obtain ⟨⟨t1,t2⟩,b1,b2⟩:=t1
  by_cases hj:bIn t b i f k n (2 * k) = true
  ·have hs':=bIn_spec.1 hj
   have hv:vNode t b i f k h0 n = 1 + b + h0 * (2 * k) + n:=if_pos ⟨hs.1,hs.2,by omega,by omega⟩
   rw [hv];clear hv
   have HJ:=Lib.hid hj;clear hj
   have n1:0 ≤ n ∧ n ≤ 512:=by omega
   obtain ⟨n1,n2⟩:=n1
   have hq:=mul_bd (a:=h0) (b:=2 * k) (A:=7) (B:=512) (by omega) (by omega) (by omega) (by omega)
   obtain ⟨q0,q1⟩:=hq
   have hq0:2 * h0 * k = h0 * (2 * k):=by rw [Int.mul_comm 2 h0,Int.mul_assoc]
   have hq:wrap64 (2 * h0 * k) = h0 * (2 * k):=by rw [hq0];generalize h0 * (2 * k) = q at q0 q1;go_arith
   clear hs hs' hb
   go_enter Tryz.func134,Tryz.ntmps134
   go_wp2_with fail
   refine (rIn_at _ _ _ _ _ _ _ _ _ HI.out).mono ?_;rintro e w1 ⟨rfl,g1⟩
   have c0:w1.cell? ⟨w.heap.size,0,none⟩ = some (.int .i64 t):=gcell g1 (by simp)
   have c1:w1.cell? ⟨w.heap.size,1,none⟩ = some (.int .i64 b):=gcell g1 (by simp)
   have c2:w1.cell? ⟨w.heap.size,2,none⟩ = some (.int .i64 i):=gcell g1 (by simp)
   have c3:w1.cell? ⟨w.heap.size,3,none⟩ = some (.int .i64 f):=gcell g1 (by simp)
   have c4:w1.cell? ⟨w.heap.size,4,none⟩ = some (.int .i64 k):=gcell g1 (by simp)
   replace g1:=galloc g1
   go_wp2_with fail
   refine (rIn_at _ _ _ _ _ _ _ _ _ HJ.out).mono ?_;rintro e w2 ⟨rfl,g2⟩
   replace c0:=gcell g2 c0
   replace c1:=gcell g2 c1
   replace c2:=gcell g2 c2
   replace c3:=gcell g2 c3
   replace c4:=gcell g2 c4
   replace g1:=gtr g1 g2;clear g2
   go_wp2
   go_ret
   exact ⟨ret_int (by first | rfl | (rw [hq];go_arith) | (simp only [hq];go_arith)),g1⟩
  ·have hv:vNode t b i f k h0 n = -1:=if_neg fun h => hj (bIn_spec.2 ⟨hs.1,by omega,by omega⟩)
   rw [hv];clear hv
   replace hj:bIn t b i f k n (2 * k) = false:=by simpa using hj
   have HJ:=Lib.hid hj;clear hj hs hb
   go_enter Tryz.func134,Tryz.ntmps134
   go_wp2_with fail
   refine (rIn_at _ _ _ _ _ _ _ _ _ HI.out).mono ?_;rintro e w1 ⟨rfl,g1⟩
   have c0:w1.cell? ⟨w.heap.size,0,none⟩ = some (.int .i64 t):=gcell g1 (by simp)
   have c1:w1.cell? ⟨w.heap.size,1,none⟩ = some (.int .i64 b):=gcell g1 (by simp)
   have c2:w1.cell? ⟨w.heap.size,2,none⟩ = some (.int .i64 i):=gcell g1 (by simp)
   have c3:w1.cell? ⟨w.heap.size,3,none⟩ = some (.int .i64 f):=gcell g1 (by simp)
   have c4:w1.cell? ⟨w.heap.size,4,none⟩ = some (.int .i64 k):=gcell g1 (by simp)
   replace g1:=galloc g1
   go_wp2_with fail
   refine (rIn_at _ _ _ _ _ _ _ _ _ HJ.out).mono ?_;rintro e w2 ⟨rfl,g2⟩
   replace g1:=gtr g1 g2;clear g2 c0 c1 c2 c3 c4
   go_wp2
   go_ret
   exact ⟨rfl,g1⟩
 ·have hv:vNode t b i f k h0 n = -1:=if_neg fun h => hi (bIn_spec.2 ⟨h.1,h.2.1⟩)
  rw [hv];clear hv
  replace hi:bIn t b i f k h0 t = false:=by simpa using hi
  have HI:=Lib.hid hi;clear hi
  go_enter Tryz.func134,Tryz.ntmps134
  go_wp2_with fail
  refine (rIn_at _ _ _ _ _ _ _ _ _ HI.out).mono ?_;rintro e w1 ⟨rfl,g1⟩
  replace g1:=galloc g1
  go_wp2
  go_ret
  exact ⟨rfl,g1⟩
end Go.Proofs.YtcogckjpmmjmbaaGreat
