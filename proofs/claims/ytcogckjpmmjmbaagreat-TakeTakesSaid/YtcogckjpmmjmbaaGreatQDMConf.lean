/- Package conf, what it calls of route, and the document's answers for it (corrieref04), function by function: what each call returns, and that it leaves all memory that was there as it was. -/
import Derived.Test.YtcogckjpmmjmbaaGreatQDMBase
import Derived.StillTailTactics
namespace Go.Proofs.YtcogckjpmmjmbaaGreat
open Go.ChangeShapes Go.WideShapes Go.ChangeAt Go.RowKit
set_option maxRecDepth 100000
set_option maxRecDepth 100000 in
theorem Len64_64 (w:World) :
  Calls Tryz.prog 272 #[.int .u64 64] w fun e w' => e = .returned (.int .i64 7) ∧ w = w':=by
 go_enter Tryz.func272,Tryz.ntmps272
 go_wp2
 go_ret
 exact ⟨ret_int (by decide +kernel),rfl⟩
theorem Len_64 (w:World) :
  Calls Tryz.prog 250 #[.int .u64 64] w fun e w' => e = .returned (.int .i64 7) ∧ w = w':=by
 go_enter Tryz.func250,Tryz.ntmps250
 go_wp2_with fail
 refine (Len64_64 _).mono ?_;rintro e w1 ⟨rfl,rfl⟩
 go_wp2_with fail
 go_ret
 exact ⟨rfl,rfl⟩
def Pow2 (n:Int):Prop:=n = 1 ∨ n = 2 ∨ n = 4 ∨ n = 8 ∨ n = 16 ∨ n = 32 ∨ n = 64
instance (n:Int):Decidable (Pow2 n):=by unfold Pow2;infer_instance
theorem power_in (n k:Int) (w:World) (h:(n = 1 ∧ k = 0) ∨ (n = 2 ∧ k = 1) ∨ (n = 4 ∧ k = 2) ∨ (n = 8 ∧ k = 3) ∨ (n = 16 ∧ k = 4) ∨ (n = 32 ∧ k = 5) ∨ (n = 64 ∧ k = 6)) :
  Calls Tryz.prog 209 #[.int .i64 n] w fun e w' => e = .returned (.tuple #[.int .i64 k,.bool true]) ∧ w = w':=by
 rcases h with ⟨rfl,rfl⟩ | ⟨rfl,rfl⟩ | ⟨rfl,rfl⟩ | ⟨rfl,rfl⟩ | ⟨rfl,rfl⟩ | ⟨rfl,rfl⟩ | ⟨rfl,rfl⟩
 all_goals
  go_enter Tryz.func209,Tryz.ntmps209
  go_wp2_with fail
  refine (Len_64 _).mono ?_;rintro e w1 ⟨rfl,rfl⟩
  go_wp2_with fail
  go_rounds 8
  all_goals go_returns
  all_goals exact ⟨rfl,rfl⟩
theorem power_no (n:Int) (w:World) (h:¬ Pow2 n) :
  Calls Tryz.prog 209 #[.int .i64 n] w fun e w' => e = .returned (.tuple #[.int .i64 0,.bool false]) ∧ w = w':=by
 have e1:((1:Int) == n) = false:=by simpa using fun e => h (by unfold Pow2;omega)
 have e2:((2:Int) == n) = false:=by simpa using fun e => h (by unfold Pow2;omega)
 have e3:((4:Int) == n) = false:=by simpa using fun e => h (by unfold Pow2;omega)
 have e4:((8:Int) == n) = false:=by simpa using fun e => h (by unfold Pow2;omega)
 have e5:((16:Int) == n) = false:=by simpa using fun e => h (by unfold Pow2;omega)
 have e6:((32:Int) == n) = false:=by simpa using fun e => h (by unfold Pow2;omega)
 have e7:((64:Int) == n) = false:=by simpa using fun e => h (by unfold Pow2;omega)
 clear h
 go_enter Tryz.func209,Tryz.ntmps209
 go_wp2_with fail
 refine (Len_64 _).mono ?_;rintro e w1 ⟨rfl,rfl⟩
 go_wp2_with fail
 go_rounds 8
 all_goals go_returns
 all_goals exact ⟨rfl,rfl⟩
theorem pow2_k {n:Int} (h:Pow2 n):∃ k:Int,(n = 1 ∧ k = 0) ∨ (n = 2 ∧ k = 1) ∨ (n = 4 ∧ k = 2) ∨ (n = 8 ∧ k = 3) ∨ (n = 16 ∧ k = 4) ∨ (n = 32 ∧ k = 5) ∨ (n = 64 ∧ k = 6):=by
 rcases h with h | h | h | h | h | h | h
 ·exact ⟨0,by omega⟩
 ·exact ⟨1,by omega⟩
 ·exact ⟨2,by omega⟩
 ·exact ⟨3,by omega⟩
 ·exact ⟨4,by omega⟩
 ·exact ⟨5,by omega⟩
 ·exact ⟨6,by omega⟩
theorem rMay_yes (n:Int) (w:World) (h:Pow2 n) :
  Calls Tryz.prog 247 #[.int .i64 n] w fun e w' => e = .returned (.bool true) ∧ w = w':=by
 obtain ⟨k,hk⟩:=pow2_k h
 go_enter Tryz.func247,Tryz.ntmps247
 go_wp2_with fail
 refine (power_in n k _ hk).mono ?_;rintro e w1 ⟨rfl,rfl⟩
 clear hk
 go_wp2_with fail
 go_returns
 exact ⟨rfl,rfl⟩
theorem rMay_no (n:Int) (w:World) (h:¬ Pow2 n) :
  Calls Tryz.prog 247 #[.int .i64 n] w fun e w' => e = .returned (.bool false) ∧ w = w':=by
 go_enter Tryz.func247,Tryz.ntmps247
 go_wp2_with fail
 refine (power_no n _ h).mono ?_;rintro e w1 ⟨rfl,rfl⟩
 go_wp2_with fail
 go_returns
 exact ⟨rfl,rfl⟩
theorem rMay_at (n:Int) (v:Bool) (w:World) (h:decide (Pow2 n) = v) :
  Calls Tryz.prog 247 #[.int .i64 n] w fun e w' => e = .returned (.bool v) ∧ w = w':=by
 cases v
 ·exact rMay_no n w (of_decide_eq_false h)
 ·exact rMay_yes n w (of_decide_eq_true h)
theorem within_at (a n b:Int) (v:Bool) (w:World) (h:decide (a ≤ n ∧ n ≤ b) = v) :
  Calls Tryz.prog 246 #[.int .i64 a,.int .i64 n,.int .i64 b] w fun e w' => e = .returned (.bool v) ∧ w = w':=by
 subst h
 by_cases h1:a ≤ n
 ·by_cases h2:n ≤ b
  ·have hd:decide (a ≤ n ∧ n ≤ b) = true:=decide_eq_true ⟨h1,h2⟩
   rw [hd];clear hd
   go_enter Tryz.func246,Tryz.ntmps246
   go_wp2
   go_ret
   exact ⟨rfl,rfl⟩
  ·have hd:decide (a ≤ n ∧ n ≤ b) = false:=decide_eq_false (by omega)
   have h3:decide (n ≤ b) = false:=decide_eq_false h2
   rw [hd];clear hd
   go_enter Tryz.func246,Tryz.ntmps246
   go_wp2
   go_ret
   exact ⟨rfl,rfl⟩
 ·have hd:decide (a ≤ n ∧ n ≤ b) = false:=decide_eq_false (by omega)
  have h3:decide (a ≤ n) = false:=decide_eq_false h1
  rw [hd];clear hd
  go_enter Tryz.func246,Tryz.ntmps246
  go_wp2
  go_ret
  exact ⟨rfl,rfl⟩
theorem all_any (b:Nat) (v1 v2 v3 v4 v5 v:Bool) (w:World) (h1:w.cell? ⟨b,0,none⟩ = some (.bool v1)) (h2:w.cell? ⟨b,1,none⟩ = some (.bool v2)) (h3:w.cell? ⟨b,2,none⟩ = some (.bool v3))
  (h4:w.cell? ⟨b,3,none⟩ = some (.bool v4)) (h5:w.cell? ⟨b,4,none⟩ = some (.bool v5)) (h:(v1 && v2 && v3 && v4 && v5) = v) :
  Calls Tryz.prog 204 #[.slice (some ⟨b,0,none⟩) 5 5] w fun e w' => e = .returned (.bool v) ∧ w = w':=by
 subst h
 cases v1
 ·go_enter Tryz.func204,Tryz.ntmps204
  go_wp2_with fail
  go_rounds 6
  go_ret
  exact ⟨rfl,rfl⟩
 cases v2
 ·go_enter Tryz.func204,Tryz.ntmps204
  go_wp2_with fail
  go_rounds 6
  go_ret
  exact ⟨rfl,rfl⟩
 cases v3
 ·go_enter Tryz.func204,Tryz.ntmps204
  go_wp2_with fail
  go_rounds 6
  go_ret
  exact ⟨rfl,rfl⟩
 cases v4
 ·go_enter Tryz.func204,Tryz.ntmps204
  go_wp2_with fail
  go_rounds 6
  go_ret
  exact ⟨rfl,rfl⟩
 cases v5
 ·go_enter Tryz.func204,Tryz.ntmps204
  go_wp2_with fail
  go_rounds 6
  go_ret
  exact ⟨rfl,rfl⟩
 ·go_enter Tryz.func204,Tryz.ntmps204
  go_wp2_with fail
  go_rounds 6
  go_ret
  exact ⟨rfl,rfl⟩
theorem back {P:Program} {f:FuncId} {args:Array Value} {w:World} {v:Value} (h:Calls P f args w fun e w' => e = .returned v ∧ w = w'):Calls P f args w fun e w' => e = .returned v ∧ w' = w :=
 h.mono fun _ _ ⟨he,hw⟩ => ⟨he,hw.symm⟩
theorem region_tail {P:Program} {id:Nat} {Q:Exit → Act → World → Prop} {a:Act} {w:World} {l:List Oper} (n:Nat) (hm:P.follows .mixedOrders = true) (hB:Region.lexTailB .any l.toArray n = true)
  (h:wpStill P l.toArray w.drew (fun a' => wpList P l.toArray Q (l.drop n) a' w.drew) (l.take n) a):(Code.region id l.toArray true).wp P Q a w :=
 wp_region_still_tail n hm hB h
theorem needs_at (t b i f k:Int) (v1 v2 v3 v4 v5:Bool) (w:World) (h1:decide (1 ≤ t ∧ t ≤ 8) = v1) (h2:decide (Pow2 b) = v2) (h3:decide (0 ≤ i ∧ i ≤ 256) = v3)
  (h4:decide (0 ≤ f ∧ f ≤ 65536) = v4) (h5:decide (1 ≤ k ∧ k ≤ 256) = v5) :
  Calls Tryz.prog 203 #[.agg #[.int .i64 t,.int .i64 b,.int .i64 i,.int .i64 f,.int .i64 k]] w fun e w' => e = .returned (.agg #[.bool v1,.bool v2,.bool v3,.bool v4,.bool v5]) ∧ Grown w w':=by
 have H1:=Lib.hid h1;clear h1
 have H2:=Lib.hid h2;clear h2
 have H3:=Lib.hid h3;clear h3
 have H4:=Lib.hid h4;clear h4
 have H5:=Lib.hid h5;clear h5
 go_enter Tryz.func203,Tryz.ntmps203
 go_wp2_with fail
 refine region_tail 16 (by kernel_rfl) (by kernel_rfl) ?_
 simp only [List.take_succ_cons,List.take_zero,List.drop_succ_cons,List.drop_zero]
 repeat (first
  | still_step
  | still_call (back (within_at _ _ _ _ _ H1.out))
  | still_call (back (rMay_at _ _ _ H2.out))
  | still_call (back (within_at _ _ _ _ _ H3.out))
  | still_call (back (within_at _ _ _ _ _ H4.out))
  | still_call (back (within_at _ _ _ _ _ H5.out)))
 refine wpStill_nil ?_
 go_wp2
 exact bodyPost_ret (v:=.agg #[.bool v1,.bool v2,.bool v3,.bool v4,.bool v5]) (by simp [results,Tryz.results203,go_sem]) rfl ⟨rfl,by go_grown⟩
end Go.Proofs.YtcogckjpmmjmbaaGreat
namespace Go.Proofs.YtcogckjpmmjmbaaGreat
open Go.ChangeShapes Go.WideShapes Go.ChangeAt Go.RowKit
set_option maxRecDepth 100000
def zOk (t b i f k:Int):Bool:=decide (1 ≤ t ∧ t ≤ 8) && decide (Pow2 b) && decide (0 ≤ i ∧ i ≤ 256) && decide (0 ≤ f ∧ f ≤ 65536) && decide (1 ≤ k ∧ k ≤ 256)
def zOps (t b i f k:Int):Int:=if zOk t b i f k = true then t * k else 0
def zNodes (t b i f k:Int):Int:=if zOk t b i f k = true then 1 + b + 2 * (t * k) else 0
theorem zOk_spec {t b i f k:Int}:zOk t b i f k = true ↔ 1 ≤ t ∧ t ≤ 8 ∧ Pow2 b ∧ 0 ≤ i ∧ i ≤ 256 ∧ 0 ≤ f ∧ f ≤ 65536 ∧ 1 ≤ k ∧ k ≤ 256:=by
 unfold zOk;simp only [Bool.and_eq_true,decide_eq_true_eq];constructor <;> (intro h;simp_all)
theorem galloc {w w1:World} {cs:Array Value} {t:TypeId} (h:Grown (w.alloc (.cells cs t)) w1):Grown w w1:=gtr (Grown.alloc (Grown.refl w) _ _) h
theorem May_at (t b i f k v:Int) (w:World) (h:(if zOk t b i f k = true then 0 else 1) = v) :
  Calls Tryz.prog 138 #[.agg #[.int .i64 t,.int .i64 b,.int .i64 i,.int .i64 f,.int .i64 k]] w fun e w' => e = .returned (.int .i64 v) ∧ Grown w w':=by
 subst h
 obtain ⟨v1,h1⟩:∃ v,decide (1 ≤ t ∧ t ≤ 8) = v:=⟨_,rfl⟩
 obtain ⟨v2,h2⟩:∃ v,decide (Pow2 b) = v:=⟨_,rfl⟩
 obtain ⟨v3,h3⟩:∃ v,decide (0 ≤ i ∧ i ≤ 256) = v:=⟨_,rfl⟩
 obtain ⟨v4,h4⟩:∃ v,decide (0 ≤ f ∧ f ≤ 65536) = v:=⟨_,rfl⟩
 obtain ⟨v5,h5⟩:∃ v,decide (1 ≤ k ∧ k ≤ 256) = v:=⟨_,rfl⟩
 have hz:zOk t b i f k = (v1 && v2 && v3 && v4 && v5):=by unfold zOk;rw [h1,h2,h3,h4,h5]
 rw [hz];clear hz
 obtain ⟨v,hv⟩:∃ v,(v1 && v2 && v3 && v4 && v5) = v:=⟨_,rfl⟩
 rw [hv]
 have H1:=Lib.hid h1;clear h1
 have H2:=Lib.hid h2;clear h2
 have H3:=Lib.hid h3;clear h3
 have H4:=Lib.hid h4;clear h4
 have H5:=Lib.hid h5;clear h5
 have HV:=Lib.hid hv;clear hv
 cases v
 all_goals
  go_enter Tryz.func138,Tryz.ntmps138
  go_wp2_with fail
  refine (needs_at _ _ _ _ _ _ _ _ _ _ _ H1.out H2.out H3.out H4.out H5.out).mono ?_;rintro e w1 ⟨rfl,g1⟩
  have g1':=galloc g1
  go_wp2_with fail
  refine (all_any _ _ _ _ _ _ _ _ ?_ ?_ ?_ ?_ ?_ HV.out).mono ?_
  ·simp
  ·simp
  ·simp
  ·simp
  ·simp
  rintro e w2 ⟨rfl,rfl⟩
  go_wp2_with fail
  go_ret
  exact ⟨rfl,by go_grown⟩
theorem Ops_at (t b i f k v:Int) (w:World) (h:zOps t b i f k = v) :
  Calls Tryz.prog 180 #[.agg #[.int .i64 t,.int .i64 b,.int .i64 i,.int .i64 f,.int .i64 k]] w fun e w' => e = .returned (.int .i64 v) ∧ Grown w w':=by
 subst h
 by_cases hk:zOk t b i f k = true
 ·have hs:=zOk_spec.1 hk
  have hv:zOps t b i f k = t * k:=if_pos hk
  rw [hv];clear hv
  have hu:(if zOk t b i f k = true then 0 else 1) = (0:Int):=if_pos hk
  have HU:=Lib.hid hu;clear hu hk
  obtain ⟨t1,t2,hb,i1,i2,f1,f2,k1,k2⟩:=hs
  have p1:0 ≤ t * k ∧ t * k ≤ 2048:=⟨Int.mul_nonneg (by omega) (by omega),Int.le_trans (Int.mul_le_mul t2 k2 (by omega) (by omega)) (by omega)⟩
  have hw:wrap64 (t * k) = t * k:=by generalize t * k = p at p1;go_arith
  clear p1
  go_enter Tryz.func180,Tryz.ntmps180
  go_wp2_with fail
  refine (May_at _ _ _ _ _ _ _ HU.out).mono ?_;rintro e w1 ⟨rfl,g1⟩
  have c0:w1.cell? ⟨w.heap.size,0,none⟩ = some (.int .i64 t):=gcell g1 (by simp)
  have c4:w1.cell? ⟨w.heap.size,4,none⟩ = some (.int .i64 k):=gcell g1 (by simp)
  have g1':=galloc g1
  go_wp2_with fail
  go_ret
  exact ⟨ret_int hw,by go_grown⟩
 ·have hv:zOps t b i f k = 0:=if_neg hk
  rw [hv];clear hv
  have hu:(if zOk t b i f k = true then 0 else 1) = (1:Int):=if_neg hk
  have HU:=Lib.hid hu;clear hu hk
  go_enter Tryz.func180,Tryz.ntmps180
  go_wp2_with fail
  refine (May_at _ _ _ _ _ _ _ HU.out).mono ?_;rintro e w1 ⟨rfl,g1⟩
  have g1':=galloc g1
  go_wp2_with fail
  go_ret
  exact ⟨rfl,by go_grown⟩
theorem Nodes_at (t b i f k v:Int) (w:World) (h:zNodes t b i f k = v) :
  Calls Tryz.prog 142 #[.agg #[.int .i64 t,.int .i64 b,.int .i64 i,.int .i64 f,.int .i64 k]] w fun e w' => e = .returned (.int .i64 v) ∧ Grown w w':=by
 subst h
 by_cases hk:zOk t b i f k = true
 ·have hs:=zOk_spec.1 hk
  have hv:zNodes t b i f k = 1 + b + 2 * (t * k):=if_pos hk
  rw [hv];clear hv
  have hu:(if zOk t b i f k = true then 0 else 1) = (0:Int):=if_pos hk
  have HU:=Lib.hid hu;clear hu
  have ho:zOps t b i f k = t * k:=if_pos hk
  have HO:=Lib.hid ho;clear ho hk
  obtain ⟨t1,t2,hb,i1,i2,f1,f2,k1,k2⟩:=hs
  have b1:1 ≤ b ∧ b ≤ 64:=by unfold Pow2 at hb;omega
  obtain ⟨b1,b2⟩:=b1
  have p1:0 ≤ t * k ∧ t * k ≤ 2048:=⟨Int.mul_nonneg (by omega) (by omega),Int.le_trans (Int.mul_le_mul t2 k2 (by omega) (by omega)) (by omega)⟩
  obtain ⟨p1,p2⟩:=p1
  generalize t * k = p at p1 p2 HO ⊢
  go_enter Tryz.func142,Tryz.ntmps142
  go_wp2_with fail
  refine (May_at _ _ _ _ _ _ _ HU.out).mono ?_;rintro e w1 ⟨rfl,g1⟩
  have c0:∀ g:GrW w1,g.w.cell? ⟨w.heap.size,0,none⟩ = some (.int .i64 t):=GrW.cell (gcell g1 (by simp))
  have c1:∀ g:GrW w1,g.w.cell? ⟨w.heap.size,1,none⟩ = some (.int .i64 b):=GrW.cell (gcell g1 (by simp))
  have c2:∀ g:GrW w1,g.w.cell? ⟨w.heap.size,2,none⟩ = some (.int .i64 i):=GrW.cell (gcell g1 (by simp))
  have c3:∀ g:GrW w1,g.w.cell? ⟨w.heap.size,3,none⟩ = some (.int .i64 f):=GrW.cell (gcell g1 (by simp))
  have c4:∀ g:GrW w1,g.w.cell? ⟨w.heap.size,4,none⟩ = some (.int .i64 k):=GrW.cell (gcell g1 (by simp))
  have g1':=galloc g1
  go_wp2_with fail
  refine wp_region_grow (by kernel_rfl) (by kernel_rfl) ?_
  repeat (go_big_quiet_step ((go_at_call 180;exact grcall (Ops_at _ _ _ _ _ _ _ HO.out))))
  refine wpQuiet_nil ?_
  rintro _ ⟨⟨w2,g2⟩,rfl⟩
  have g2':=gtr g1' g2
  go_wp2
  go_ret
  exact ⟨rfl,by go_grown⟩
 ·have hv:zNodes t b i f k = 0:=if_neg hk
  rw [hv];clear hv
  have hu:(if zOk t b i f k = true then 0 else 1) = (1:Int):=if_neg hk
  have HU:=Lib.hid hu;clear hu hk
  go_enter Tryz.func142,Tryz.ntmps142
  go_wp2_with fail
  refine (May_at _ _ _ _ _ _ _ HU.out).mono ?_;rintro e w1 ⟨rfl,g1⟩
  have g1':=galloc g1
  go_wp2_with fail
  go_ret
  exact ⟨rfl,by go_grown⟩
theorem r3May_yes (n:Int) (w:World) (h:Pow2 n) :
  Calls Tryz.prog 154 #[.int .i64 n] w fun e w' => e = .returned (.bool true) ∧ w = w':=by
 rcases h with rfl | rfl | rfl | rfl | rfl | rfl | rfl
 all_goals
  go_enter Tryz.func154,Tryz.ntmps154
  go_wp2
  go_ret
  exact ⟨rfl,rfl⟩
theorem r3May_no (n:Int) (w:World) (h:¬ Pow2 n) :
  Calls Tryz.prog 154 #[.int .i64 n] w fun e w' => e = .returned (.bool false) ∧ w = w':=by
 have e1:(n == (1:Int)) = false:=by simpa using fun e => h (by unfold Pow2;omega)
 have e2:(n == (2:Int)) = false:=by simpa using fun e => h (by unfold Pow2;omega)
 have e3:(n == (4:Int)) = false:=by simpa using fun e => h (by unfold Pow2;omega)
 have e4:(n == (8:Int)) = false:=by simpa using fun e => h (by unfold Pow2;omega)
 have e5:(n == (16:Int)) = false:=by simpa using fun e => h (by unfold Pow2;omega)
 have e6:(n == (32:Int)) = false:=by simpa using fun e => h (by unfold Pow2;omega)
 have e7:(n == (64:Int)) = false:=by simpa using fun e => h (by unfold Pow2;omega)
 clear h
 go_enter Tryz.func154,Tryz.ntmps154
 go_wp2
 go_ret
 exact ⟨rfl,rfl⟩
set_option maxHeartbeats 4000000 in
theorem rMayC_at (t b i f k v:Int) (w:World) (h:(if zOk t b i f k = true then 0 else 1) = v) :
  Calls Tryz.prog 200 #[.agg #[.int .i64 t,.int .i64 b,.int .i64 i,.int .i64 f,.int .i64 k]] w fun e w' => e = .returned (.int .i64 v) ∧ Grown w w':=by
 subst h
 by_cases hk:zOk t b i f k = true
 ·have hs:=zOk_spec.1 hk
  rw [if_pos hk];clear hk
  obtain ⟨t1,t2,hb,i1,i2,f1,f2,k1,k2⟩:=hs
  go_enter Tryz.func200,Tryz.ntmps200
  go_wp2_with (refine (r3May_yes _ _ hb).mono ?_;rintro e w1 ⟨rfl,rfl⟩)
  go_ret
  exact ⟨rfl,by go_grown⟩
 rw [if_neg hk]
 by_cases a1:t < 1
 ·clear hk
  go_enter Tryz.func200,Tryz.ntmps200
  go_wp2
  go_ret
  exact ⟨rfl,by go_grown⟩
 by_cases a2:8 < t
 ·clear hk
  go_enter Tryz.func200,Tryz.ntmps200
  go_wp2
  go_ret
  exact ⟨rfl,by go_grown⟩
 have a3:t ≤ 8:=by omega
 by_cases hb:Pow2 b
 case neg =>
  clear hk
  go_enter Tryz.func200,Tryz.ntmps200
  go_wp2_with (refine (r3May_no _ _ hb).mono ?_;rintro e w1 ⟨rfl,rfl⟩)
  go_ret
  exact ⟨rfl,by go_grown⟩
 by_cases b1:i < 0
 ·clear hk
  go_enter Tryz.func200,Tryz.ntmps200
  go_wp2_with (refine (r3May_yes _ _ hb).mono ?_;rintro e w1 ⟨rfl,rfl⟩)
  go_ret
  exact ⟨rfl,by go_grown⟩
 by_cases b2:256 < i
 ·clear hk
  go_enter Tryz.func200,Tryz.ntmps200
  go_wp2_with (refine (r3May_yes _ _ hb).mono ?_;rintro e w1 ⟨rfl,rfl⟩)
  go_ret
  exact ⟨rfl,by go_grown⟩
 have b3:i ≤ 256:=by omega
 by_cases c1:f < 0
 ·clear hk
  go_enter Tryz.func200,Tryz.ntmps200
  go_wp2_with (refine (r3May_yes _ _ hb).mono ?_;rintro e w1 ⟨rfl,rfl⟩)
  go_ret
  exact ⟨rfl,by go_grown⟩
 by_cases c2:65536 < f
 ·clear hk
  go_enter Tryz.func200,Tryz.ntmps200
  go_wp2_with (refine (r3May_yes _ _ hb).mono ?_;rintro e w1 ⟨rfl,rfl⟩)
  go_ret
  exact ⟨rfl,by go_grown⟩
 have c3:f ≤ 65536:=by omega
 by_cases d1:k < 1
 ·clear hk
  go_enter Tryz.func200,Tryz.ntmps200
  go_wp2_with (refine (r3May_yes _ _ hb).mono ?_;rintro e w1 ⟨rfl,rfl⟩)
  go_ret
  exact ⟨rfl,by go_grown⟩
 have d2:256 < k:=by
  by_cases d2:256 < k
  ·exact d2
  ·exact absurd (zOk_spec.2 ⟨by omega,by omega,hb,by omega,by omega,by omega,by omega,by omega,by omega⟩) hk
 clear hk
 go_enter Tryz.func200,Tryz.ntmps200
 go_wp2_with (refine (r3May_yes _ _ hb).mono ?_;rintro e w1 ⟨rfl,rfl⟩)
 go_ret
 exact ⟨rfl,by go_grown⟩
theorem rOps_at (t b i f k v:Int) (w:World) (h:zOps t b i f k = v) :
  Calls Tryz.prog 201 #[.agg #[.int .i64 t,.int .i64 b,.int .i64 i,.int .i64 f,.int .i64 k]] w fun e w' => e = .returned (.int .i64 v) ∧ Grown w w':=by
 subst h
 by_cases hk:zOk t b i f k = true
 ·have hs:=zOk_spec.1 hk
  have hv:zOps t b i f k = t * k:=if_pos hk
  rw [hv];clear hv
  have hu:(if zOk t b i f k = true then 0 else 1) = (0:Int):=if_pos hk
  have HU:=Lib.hid hu;clear hu hk
  obtain ⟨t1,t2,hb,i1,i2,f1,f2,k1,k2⟩:=hs
  have p1:0 ≤ t * k ∧ t * k ≤ 2048:=⟨Int.mul_nonneg (by omega) (by omega),Int.le_trans (Int.mul_le_mul t2 k2 (by omega) (by omega)) (by omega)⟩
  have hw:wrap64 (t * k) = t * k:=by generalize t * k = p at p1;go_arith
  clear p1
  go_enter Tryz.func201,Tryz.ntmps201
  go_wp2_with fail
  refine (rMayC_at _ _ _ _ _ _ _ HU.out).mono ?_;rintro e w1 ⟨rfl,g1⟩
  have c0:w1.cell? ⟨w.heap.size,0,none⟩ = some (.int .i64 t):=gcell g1 (by simp)
  have c4:w1.cell? ⟨w.heap.size,4,none⟩ = some (.int .i64 k):=gcell g1 (by simp)
  have g1':=galloc g1
  go_wp2_with fail
  go_ret
  exact ⟨ret_int hw,by go_grown⟩
 ·have hv:zOps t b i f k = 0:=if_neg hk
  rw [hv];clear hv
  have hu:(if zOk t b i f k = true then 0 else 1) = (1:Int):=if_neg hk
  have HU:=Lib.hid hu;clear hu hk
  go_enter Tryz.func201,Tryz.ntmps201
  go_wp2_with fail
  refine (rMayC_at _ _ _ _ _ _ _ HU.out).mono ?_;rintro e w1 ⟨rfl,g1⟩
  have g1':=galloc g1
  go_wp2_with fail
  go_ret
  exact ⟨rfl,by go_grown⟩
theorem rNodes_at (t b i f k v:Int) (w:World) (h:zNodes t b i f k = v) :
  Calls Tryz.prog 149 #[.agg #[.int .i64 t,.int .i64 b,.int .i64 i,.int .i64 f,.int .i64 k]] w fun e w' => e = .returned (.int .i64 v) ∧ Grown w w':=by
 subst h
 by_cases hk:zOk t b i f k = true
 ·have hs:=zOk_spec.1 hk
  have hv:zNodes t b i f k = 1 + b + 2 * (t * k):=if_pos hk
  rw [hv];clear hv
  have hu:(if zOk t b i f k = true then 0 else 1) = (0:Int):=if_pos hk
  have HU:=Lib.hid hu;clear hu hk
  obtain ⟨t1,t2,hb,i1,i2,f1,f2,k1,k2⟩:=hs
  have b1:1 ≤ b ∧ b ≤ 64:=by unfold Pow2 at hb;omega
  obtain ⟨b1,b2⟩:=b1
  have p1:0 ≤ t * k ∧ t * k ≤ 2048:=⟨Int.mul_nonneg (by omega) (by omega),Int.le_trans (Int.mul_le_mul t2 k2 (by omega) (by omega)) (by omega)⟩
  have hw:wrap64 (1 + b + wrap64 (2 * t * k)) = 1 + b + 2 * (t * k):=by rw [Int.mul_assoc];generalize t * k = p at p1;go_arith
  clear p1
  go_enter Tryz.func149,Tryz.ntmps149
  go_wp2_with fail
  refine (rMayC_at _ _ _ _ _ _ _ HU.out).mono ?_;rintro e w1 ⟨rfl,g1⟩
  have c0:w1.cell? ⟨w.heap.size,0,none⟩ = some (.int .i64 t):=gcell g1 (by simp)
  have c1:w1.cell? ⟨w.heap.size,1,none⟩ = some (.int .i64 b):=gcell g1 (by simp)
  have c4:w1.cell? ⟨w.heap.size,4,none⟩ = some (.int .i64 k):=gcell g1 (by simp)
  have g1':=galloc g1
  go_wp2
  go_ret
  exact ⟨ret_int hw,by go_grown⟩
 ·have hv:zNodes t b i f k = 0:=if_neg hk
  rw [hv];clear hv
  have hu:(if zOk t b i f k = true then 0 else 1) = (1:Int):=if_neg hk
  have HU:=Lib.hid hu;clear hu hk
  go_enter Tryz.func149,Tryz.ntmps149
  go_wp2_with fail
  refine (rMayC_at _ _ _ _ _ _ _ HU.out).mono ?_;rintro e w1 ⟨rfl,g1⟩
  have g1':=galloc g1
  go_wp2_with fail
  go_ret
  exact ⟨rfl,by go_grown⟩
end Go.Proofs.YtcogckjpmmjmbaaGreat
