/- The laws of package book, walked: a thread begins just so many calls as it may. -/
import Derived.Test.YtmokcgifknmchaaGreatMBook
import Derived.Test.YtmokcgifknmchaaGreatMConf
import Derived.Test.YtmokcgifknmchaaGreatMBase
namespace Go.Proofs.YtmokcgifknmchaaGreat
open Go.ChangeShapes Go.WideShapes Go.ChangeAt Go.RowKit
set_option maxRecDepth 100000
set_option linter.unusedVariables false
end Go.Proofs.YtmokcgifknmchaaGreat
namespace Go.Proofs.YtmokcgifknmchaaGreat
open Go.ChangeShapes Go.WideShapes Go.ChangeAt Go.RowKit
set_option maxRecDepth 100000
set_option maxRecDepth 100000 in
theorem tLen64_64 (w:World) :
  Calls Tryz.prog 240 #[.int .u64 64] w fun e w' => e = .returned (.int .i64 7) ∧ Grown w w':=by
 go_enter Tryz.func240,Tryz.ntmps240
 go_wp2
 go_ret
 exact ⟨ret_int (by decide +kernel),by go_grown⟩
theorem tLen_64 (w:World) :
  Calls Tryz.prog 229 #[.int .u64 64] w fun e w' => e = .returned (.int .i64 7) ∧ Grown w w':=by
 go_enter Tryz.func229,Tryz.ntmps229
 go_wp2_with fail
 refine (tLen64_64 _).mono ?_;rintro e w1 ⟨rfl,g1⟩
 go_wp2_with fail
 go_ret
 exact ⟨rfl,g1⟩
theorem tpower_in (n k:Int) (w:World) (h:(n = 1 ∧ k = 0) ∨ (n = 2 ∧ k = 1) ∨ (n = 4 ∧ k = 2) ∨ (n = 8 ∧ k = 3) ∨ (n = 16 ∧ k = 4) ∨ (n = 32 ∧ k = 5) ∨ (n = 64 ∧ k = 6)) :
  Calls Tryz.prog 193 #[.int .i64 n] w fun e w' => e = .returned (.tuple #[.int .i64 k,.bool true]) ∧ Grown w w':=by
 rcases h with ⟨rfl,rfl⟩ | ⟨rfl,rfl⟩ | ⟨rfl,rfl⟩ | ⟨rfl,rfl⟩ | ⟨rfl,rfl⟩ | ⟨rfl,rfl⟩ | ⟨rfl,rfl⟩
 all_goals
  go_enter Tryz.func193,Tryz.ntmps193
  go_wp2_with fail
  refine (tLen_64 _).mono ?_;rintro e w1 ⟨rfl,g1⟩
  go_wp2_with fail
  go_rounds 8
  all_goals go_returns
  all_goals exact ⟨rfl,g1⟩
theorem tpower_no (n:Int) (w:World) (h:¬ Pow2 n) :
  Calls Tryz.prog 193 #[.int .i64 n] w fun e w' => e = .returned (.tuple #[.int .i64 0,.bool false]) ∧ Grown w w':=by
 have e1:((1:Int) == n) = false:=by simpa using fun e => h (by unfold Pow2;omega)
 have e2:((2:Int) == n) = false:=by simpa using fun e => h (by unfold Pow2;omega)
 have e3:((4:Int) == n) = false:=by simpa using fun e => h (by unfold Pow2;omega)
 have e4:((8:Int) == n) = false:=by simpa using fun e => h (by unfold Pow2;omega)
 have e5:((16:Int) == n) = false:=by simpa using fun e => h (by unfold Pow2;omega)
 have e6:((32:Int) == n) = false:=by simpa using fun e => h (by unfold Pow2;omega)
 have e7:((64:Int) == n) = false:=by simpa using fun e => h (by unfold Pow2;omega)
 clear h
 go_enter Tryz.func193,Tryz.ntmps193
 go_wp2_with fail
 refine (tLen_64 _).mono ?_;rintro e w1 ⟨rfl,g1⟩
 go_wp2_with fail
 go_rounds 8
 all_goals go_returns
 all_goals exact ⟨rfl,g1⟩
def zH (k:Int):Int:=k * 11400714819323198485 % 18446744073709551616
def zBucket (k n:Int):Int:=if Pow2 n then zH k * n / 18446744073709551616 else 0
theorem wrap_hash (a:Int):IntKind.u64.wrap (a * 11400714819323198485) = zH a:=by
 simp [IntKind.wrap,IntKind.signed,IntKind.bits,zH]
theorem zH_lo (a:Int):0 ≤ zH a ∧ zH a ≤ 18446744073709551615:=by unfold zH;omega
theorem bucket_of {a n k:Int} (hk:(n = 1 ∧ k = 0) ∨ (n = 2 ∧ k = 1) ∨ (n = 4 ∧ k = 2) ∨ (n = 8 ∧ k = 3) ∨ (n = 16 ∧ k = 4) ∨ (n = 32 ∧ k = 5) ∨ (n = 64 ∧ k = 6)) :
  wrap64 (IntKind.u64.wrap (a * 11400714819323198485) / 2 ^ (64 - k).toNat) = zBucket a n:=by
 have hp:Pow2 n:=by unfold Pow2;omega
 rw [wrap_hash]
 unfold zBucket
 rw [if_pos hp]
 obtain ⟨l,u⟩:=zH_lo a
 generalize zH a = x at l u
 rcases hk with ⟨rfl,rfl⟩ | ⟨rfl,rfl⟩ | ⟨rfl,rfl⟩ | ⟨rfl,rfl⟩ | ⟨rfl,rfl⟩ | ⟨rfl,rfl⟩ | ⟨rfl,rfl⟩
 all_goals
  simp [wrap64]
  omega
set_option maxRecDepth 100000 in
theorem Bucket_in (a n:Int) (w:World) (h:Pow2 n) :
  Calls Tryz.prog 139 #[.int .u64 a,.int .i64 n] w fun e w' => e = .returned (.int .i64 (zBucket a n)) ∧ Grown w w':=by
 have hmf:=mkFunc
 obtain ⟨k,hk⟩:=pow2_k h
 go_enter Tryz.func139,Tryz.ntmps139
 go_wp2_with fail
 refine (tpower_in n k _ hk).mono ?_;rintro e w1 ⟨rfl,g1⟩
 go_wp2
 go_ret
 exact ⟨ret_int (bucket_of hk),by go_grown⟩
theorem Bucket_no (a n:Int) (w:World) (h:¬ Pow2 n) :
  Calls Tryz.prog 139 #[.int .u64 a,.int .i64 n] w fun e w' => e = .returned (.int .i64 (zBucket a n)) ∧ Grown w w':=by
 have hz:zBucket a n = 0:=if_neg h
 rw [hz];clear hz
 go_enter Tryz.func139,Tryz.ntmps139
 go_wp2_with fail
 refine (tpower_no n _ h).mono ?_;rintro e w1 ⟨rfl,g1⟩
 go_wp2_with fail
 go_ret
 exact ⟨rfl,g1⟩
theorem Bucket_any (a n:Int) (w:World) :
  Calls Tryz.prog 139 #[.int .u64 a,.int .i64 n] w fun e w' => e = .returned (.int .i64 (zBucket a n)) ∧ Grown w w':=by
 by_cases h:Pow2 n
 ·exact Bucket_in a n w h
 ·exact Bucket_no a n w h
theorem refMay_yes (n:Int) (w:World) (h:Pow2 n) :
  Calls Tryz.prog 142 #[.int .i64 n] w fun e w' => e = .returned (.bool true) ∧ Grown w w':=by
 rcases h with rfl | rfl | rfl | rfl | rfl | rfl | rfl
 all_goals
  go_enter Tryz.func142,Tryz.ntmps142
  go_wp2
  go_ret
  exact ⟨rfl,by go_grown⟩
theorem refMay_no (n:Int) (w:World) (h:¬ Pow2 n) :
  Calls Tryz.prog 142 #[.int .i64 n] w fun e w' => e = .returned (.bool false) ∧ Grown w w':=by
 have e1:(n == (1:Int)) = false:=by simpa using fun e => h (by unfold Pow2;omega)
 have e2:(n == (2:Int)) = false:=by simpa using fun e => h (by unfold Pow2;omega)
 have e3:(n == (4:Int)) = false:=by simpa using fun e => h (by unfold Pow2;omega)
 have e4:(n == (8:Int)) = false:=by simpa using fun e => h (by unfold Pow2;omega)
 have e5:(n == (16:Int)) = false:=by simpa using fun e => h (by unfold Pow2;omega)
 have e6:(n == (32:Int)) = false:=by simpa using fun e => h (by unfold Pow2;omega)
 have e7:(n == (64:Int)) = false:=by simpa using fun e => h (by unfold Pow2;omega)
 clear h
 go_enter Tryz.func142,Tryz.ntmps142
 go_wp2
 go_ret
 exact ⟨rfl,by go_grown⟩
def Doub (y p b h:Int):Prop:=Pow2 p ∧ 0 ≤ y ∧ y ≤ 1180591620717411303360 ∧ ∃ x,0 ≤ x ∧ x * p = y ∧ b = x / 18446744073709551616 ∧ h = x % 18446744073709551616
theorem Doub.step {y p b h:Int} (d:Doub y p b h) (hp:1 < p) :
  (9223372036854775808 ≤ h → Doub y (p / 2) (2 * b + 1) (2 * h - 18446744073709551616)) ∧ (h < 9223372036854775808 → Doub y (p / 2) (2 * b) (2 * h)):=by
 obtain ⟨p2,y0,y1,x,x0,hx,rfl,rfl⟩:=d
 constructor
 ·intro hh
  rcases p2 with rfl | rfl | rfl | rfl | rfl | rfl | rfl
  ·omega
  all_goals exact ⟨by unfold Pow2;omega,y0,y1,2 * x,by omega,by omega,by omega,by omega⟩
 ·intro hh
  rcases p2 with rfl | rfl | rfl | rfl | rfl | rfl | rfl
  ·omega
  all_goals exact ⟨by unfold Pow2;omega,y0,y1,2 * x,by omega,by omega,by omega,by omega⟩
theorem Doub.bd {y p b h:Int} (d:Doub y p b h):1 ≤ p ∧ p ≤ 64 ∧ 0 ≤ b ∧ b ≤ 64 ∧ 0 ≤ h ∧ h ≤ 18446744073709551615:=by
 obtain ⟨p2,y0,y1,x,x0,hx,rfl,rfl⟩:=d
 rcases p2 with rfl | rfl | rfl | rfl | rfl | rfl | rfl <;> omega
theorem Doub.ends {y p b h:Int} (d:Doub y p b h) (hp:¬ 1 < p):b = y / 18446744073709551616:=by
 obtain ⟨p2,y0,y1,x,x0,hx,rfl,rfl⟩:=d
 rcases p2 with rfl | rfl | rfl | rfl | rfl | rfl | rfl <;> omega
theorem wrap_twice {h:Int} (h0:0 ≤ h) (h1:h ≤ 18446744073709551615) :
  (9223372036854775808 ≤ h → IntKind.u64.wrap (2 * h) = 2 * h - 18446744073709551616) ∧ (h < 9223372036854775808 → IntKind.u64.wrap (2 * h) = 2 * h):=by
 simp [IntKind.wrap,IntKind.signed,IntKind.bits];omega
theorem Doub.start (a n:Int) (h:Pow2 n):Doub (zH a * n) n 0 (zH a):=by
 obtain ⟨l,u⟩:=zH_lo a
 have hn:=h
 generalize zH a = x at l u ⊢
 rcases hn with rfl | rfl | rfl | rfl | rfl | rfl | rfl
 all_goals exact ⟨h,by omega,by omega,x,by omega,by omega,by omega,by omega⟩
set_option maxRecDepth 100000 in
theorem refBucket_in (a n:Int) (w:World) (h:Pow2 n) :
  Calls Tryz.prog 79 #[.int .u64 a,.int .i64 n] w fun e w' => e = .returned (.int .i64 (zBucket a n)) ∧ Grown w w':=by
 have hz:zBucket a n = zH a * n / 18446744073709551616:=if_pos h
 rw [hz];clear hz
 have hs:=Doub.start a n h
 have hw:=wrap_hash a
 generalize zH a * n = y at hs ⊢
 generalize zH a = x at hs hw
 go_enter Tryz.func79,Tryz.ntmps79
 go_wp2_with fail
 refine (refMay_yes n _ h).mono ?_;rintro e w1 ⟨rfl,g1⟩
 go_wp2_with fail
 clear hw
 go_loop [5,6,7] (fun sh sb sp => ∃ p b h:Int,sp = .int .i64 p ∧ sb = .int .i64 b ∧ sh = .int .u64 h ∧ Doub y p b h) (fun _ _ sp => (intOf sp).toNat)
 case atStart => exact ⟨n,0,x,rfl,rfl,rfl,hs⟩
 case round =>
  obtain ⟨p,b,h,rfl,rfl,rfl,hd⟩:=hrel
  obtain ⟨p0,p1,b0,b1,q0,q1⟩:=hd.bd
  by_cases hp:1 < p
  ·obtain ⟨s1,s2⟩:=hd.step hp
   obtain ⟨t1,t2⟩:=wrap_twice q0 q1
   by_cases hh:9223372036854775808 ≤ h
   ·have hd':=s1 hh
    have ht:=t1 hh
    clear s1 s2 t1 t2 hd hs
    go_wp2
    go_round
    case rel => exact ⟨_,_,_,rfl,rfl,rfl,hd'⟩
    case measure => simp [intOf];omega
   ·have hd':=s2 (by omega)
    have ht:=t2 (by omega)
    clear s1 s2 t1 t2 hd hs
    go_wp2
    go_round
    case rel => exact ⟨_,_,_,rfl,rfl,rfl,hd'⟩
    case measure => simp [intOf];omega
  ·have he:=hd.ends hp
   go_wp2
   go_ret
   exact ⟨rfl,g1⟩
theorem refBucket_no (a n:Int) (w:World) (h:¬ Pow2 n) :
  Calls Tryz.prog 79 #[.int .u64 a,.int .i64 n] w fun e w' => e = .returned (.int .i64 (zBucket a n)) ∧ Grown w w':=by
 have hz:zBucket a n = 0:=if_neg h
 rw [hz];clear hz
 go_enter Tryz.func79,Tryz.ntmps79
 go_wp2_with fail
 refine (refMay_no n _ h).mono ?_;rintro e w1 ⟨rfl,g1⟩
 go_wp2_with fail
 go_ret
 exact ⟨rfl,g1⟩
theorem refBucket_any (a n:Int) (w:World) :
  Calls Tryz.prog 79 #[.int .u64 a,.int .i64 n] w fun e w' => e = .returned (.int .i64 (zBucket a n)) ∧ Grown w w':=by
 by_cases h:Pow2 n
 ·exact refBucket_in a n w h
 ·exact refBucket_no a n w h
end Go.Proofs.YtmokcgifknmchaaGreat
