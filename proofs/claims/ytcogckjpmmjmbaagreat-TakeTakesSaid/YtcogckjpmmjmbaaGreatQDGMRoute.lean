/- The laws of package book, walked: a thread begins just so many calls as it may. -/
import Derived.Test.YtcogckjpmmjmbaaGreatQDMBook
import Derived.Test.YtcogckjpmmjmbaaGreatQDMConf
import Derived.Test.YtcogckjpmmjmbaaGreatQDMBase
import Derived.Deep.Slices
import Derived.Deep.Fields
namespace Go.Proofs.YtcogckjpmmjmbaaGreat
open Go.ChangeShapes Go.WideShapes Go.ChangeAt Go.RowKit
set_option maxRecDepth 100000
set_option linter.unusedVariables false
end Go.Proofs.YtcogckjpmmjmbaaGreat
namespace Go.Proofs.YtcogckjpmmjmbaaGreat
open Go.ChangeShapes Go.WideShapes Go.ChangeAt Go.RowKit
set_option maxRecDepth 100000
set_option maxRecDepth 100000 in
theorem tLen64_64 (w:World) :
  Calls Tryz.prog 272 #[.int .u64 64] w fun e w' => e = .returned (.int .i64 7) ∧ Grown w w':=by
 go_enter Tryz.func272,Tryz.ntmps272
 go_wp2
 go_ret
 exact ⟨ret_int (by decide +kernel),by go_grown⟩
theorem tLen_64 (w:World) :
  Calls Tryz.prog 250 #[.int .u64 64] w fun e w' => e = .returned (.int .i64 7) ∧ Grown w w':=by
 go_enter Tryz.func250,Tryz.ntmps250
 go_wp2_with fail
 refine (tLen64_64 _).mono ?_;rintro e w1 ⟨rfl,g1⟩
 go_wp2_with fail
 go_ret
 exact ⟨rfl,g1⟩
theorem tpower_in (n k:Int) (w:World) (h:(n = 1 ∧ k = 0) ∨ (n = 2 ∧ k = 1) ∨ (n = 4 ∧ k = 2) ∨ (n = 8 ∧ k = 3) ∨ (n = 16 ∧ k = 4) ∨ (n = 32 ∧ k = 5) ∨ (n = 64 ∧ k = 6)) :
  Calls Tryz.prog 209 #[.int .i64 n] w fun e w' => e = .returned (.tuple #[.int .i64 k,.bool true]) ∧ Grown w w':=by
 rcases h with ⟨rfl,rfl⟩ | ⟨rfl,rfl⟩ | ⟨rfl,rfl⟩ | ⟨rfl,rfl⟩ | ⟨rfl,rfl⟩ | ⟨rfl,rfl⟩ | ⟨rfl,rfl⟩
 all_goals
  go_enter Tryz.func209,Tryz.ntmps209
  go_wp2_with fail
  refine (tLen_64 _).mono ?_;rintro e w1 ⟨rfl,g1⟩
  go_wp2_with fail
  go_rounds 8
  all_goals go_returns
  all_goals exact ⟨rfl,g1⟩
theorem tpower_no (n:Int) (w:World) (h:¬ Pow2 n) :
  Calls Tryz.prog 209 #[.int .i64 n] w fun e w' => e = .returned (.tuple #[.int .i64 0,.bool false]) ∧ Grown w w':=by
 have e1:((1:Int) == n) = false:=by simpa using fun e => h (by unfold Pow2;omega)
 have e2:((2:Int) == n) = false:=by simpa using fun e => h (by unfold Pow2;omega)
 have e3:((4:Int) == n) = false:=by simpa using fun e => h (by unfold Pow2;omega)
 have e4:((8:Int) == n) = false:=by simpa using fun e => h (by unfold Pow2;omega)
 have e5:((16:Int) == n) = false:=by simpa using fun e => h (by unfold Pow2;omega)
 have e6:((32:Int) == n) = false:=by simpa using fun e => h (by unfold Pow2;omega)
 have e7:((64:Int) == n) = false:=by simpa using fun e => h (by unfold Pow2;omega)
 clear h
 go_enter Tryz.func209,Tryz.ntmps209
 go_wp2_with fail
 refine (tLen_64 _).mono ?_;rintro e w1 ⟨rfl,g1⟩
 go_wp2_with fail
 go_rounds 8
 all_goals go_returns
 all_goals exact ⟨rfl,g1⟩
def zH (k:Int):Int:=k * 11400714819323198485 % 18446744073709551616
def zBucket (k n:Int):Int:=if Pow2 n then zH k * n / 18446744073709551616 else 0
theorem wrap_hash (a:Int):IntKind.u64.wrap (a * 11400714819323198485) = zH a:=by
 simp [IntKind.wrap,IntKind.signed,IntKind.bits,zH]
theorem zH_lo (a:Int):0 ≤ zH a ∧ zH a ≤ 18446744073709551615:=by unfold zH;omega
theorem bucket_of {a n k:Int} (hk:(n = 1 ∧ k = 0) ∨ (n = 2 ∧ k = 1) ∨ (n = 4 ∧ k = 2) ∨ (n = 8 ∧ k = 3) ∨ (n = 16 ∧ k = 4) ∨ (n = 32 ∧ k = 5) ∨ (n = 64 ∧ k = 6)) :
  wrap64 (IntKind.u64.wrap (a * 11400714819323198485) / 2 ^ (64 - k).toNat) = zBucket a n:=by
 have hp:Pow2 n:=by unfold Pow2;omega
 rw [wrap_hash]
 unfold zBucket
 rw [if_pos hp]
 obtain ⟨l,u⟩:=zH_lo a
 generalize zH a = x at l u
 rcases hk with ⟨rfl,rfl⟩ | ⟨rfl,rfl⟩ | ⟨rfl,rfl⟩ | ⟨rfl,rfl⟩ | ⟨rfl,rfl⟩ | ⟨rfl,rfl⟩ | ⟨rfl,rfl⟩
 all_goals
  simp [wrap64]
  omega
set_option maxRecDepth 100000 in
theorem Bucket_in (a n:Int) (w:World) (h:Pow2 n) :
  Calls Tryz.prog 151 #[.int .u64 a,.int .i64 n] w fun e w' => e = .returned (.int .i64 (zBucket a n)) ∧ Grown w w':=by
 have hmf:=mkFunc
 obtain ⟨k,hk⟩:=pow2_k h
 go_enter Tryz.func151,Tryz.ntmps151
 go_wp2_with fail
 refine (tpower_in n k _ hk).mono ?_;rintro e w1 ⟨rfl,g1⟩
 go_wp2
 go_ret
 exact ⟨ret_int (bucket_of hk),by go_grown⟩
theorem Bucket_no (a n:Int) (w:World) (h:¬ Pow2 n) :
  Calls Tryz.prog 151 #[.int .u64 a,.int .i64 n] w fun e w' => e = .returned (.int .i64 (zBucket a n)) ∧ Grown w w':=by
 have hz:zBucket a n = 0:=if_neg h
 rw [hz];clear hz
 go_enter Tryz.func151,Tryz.ntmps151
 go_wp2_with fail
 refine (tpower_no n _ h).mono ?_;rintro e w1 ⟨rfl,g1⟩
 go_wp2_with fail
 go_ret
 exact ⟨rfl,g1⟩
theorem Bucket_any (a n:Int) (w:World) :
  Calls Tryz.prog 151 #[.int .u64 a,.int .i64 n] w fun e w' => e = .returned (.int .i64 (zBucket a n)) ∧ Grown w w':=by
 by_cases h:Pow2 n
 ·exact Bucket_in a n w h
 ·exact Bucket_no a n w h
def Doub (y p b h:Int):Prop:=Pow2 p ∧ 0 ≤ y ∧ y ≤ 1180591620717411303360 ∧ ∃ x,0 ≤ x ∧ x * p = y ∧ b = x / 18446744073709551616 ∧ h = x % 18446744073709551616
theorem Doub.step {y p b h:Int} (d:Doub y p b h) (hp:1 < p) :
  (9223372036854775808 ≤ h → Doub y (p / 2) (2 * b + 1) (2 * h - 18446744073709551616)) ∧ (h < 9223372036854775808 → Doub y (p / 2) (2 * b) (2 * h)):=by
 obtain ⟨p2,y0,y1,x,x0,hx,rfl,rfl⟩:=d
 constructor
 ·intro hh
  rcases p2 with rfl | rfl | rfl | rfl | rfl | rfl | rfl
  ·omega
  all_goals exact ⟨by unfold Pow2;omega,y0,y1,2 * x,by omega,by omega,by omega,by omega⟩
 ·intro hh
  rcases p2 with rfl | rfl | rfl | rfl | rfl | rfl | rfl
  ·omega
  all_goals exact ⟨by unfold Pow2;omega,y0,y1,2 * x,by omega,by omega,by omega,by omega⟩
theorem Doub.bd {y p b h:Int} (d:Doub y p b h):1 ≤ p ∧ p ≤ 64 ∧ 0 ≤ b ∧ b ≤ 64 ∧ 0 ≤ h ∧ h ≤ 18446744073709551615:=by
 obtain ⟨p2,y0,y1,x,x0,hx,rfl,rfl⟩:=d
 rcases p2 with rfl | rfl | rfl | rfl | rfl | rfl | rfl <;> omega
theorem Doub.ends {y p b h:Int} (d:Doub y p b h) (hp:¬ 1 < p):b = y / 18446744073709551616:=by
 obtain ⟨p2,y0,y1,x,x0,hx,rfl,rfl⟩:=d
 rcases p2 with rfl | rfl | rfl | rfl | rfl | rfl | rfl <;> omega
end Go.Proofs.YtcogckjpmmjmbaaGreat
namespace Go.Proofs.YtcogckjpmmjmbaaGreat
open Go.ChangeShapes Go.WideShapes Go.ChangeAt Go.RowKit
set_option maxRecDepth 100000
def zPack (n:Int) (m:Bool):Int:=if 0 ≤ n ∧ n ≤ 2147483647 then 2 * n + (if m = true then 1 else 0) else 0
set_option maxHeartbeats 400000 in
theorem join_any (a b:Int) (w:World) (ha:0 ≤ a) (ha':a ≤ 9223372036854775807) (hb:0 ≤ b) (hb':b ≤ 1) :
  Calls Tryz.prog 252 #[.agg #[.int .u64 a,.int .u64 b]] w fun e w' => e = .returned (.int .u64 (2 * a + b)) ∧ Grown w w':=by
 have hmf:=mkFunc
 have i0:∀ w,(Instr.index 275 (.agg #[.int .u64 a,.int .u64 b]) (.int .i64 0)).run Tryz.prog w = .ok (.int .u64 a) w:=fun _ => by kernel_rfl
 have i1:∀ w,(Instr.index 275 (.agg #[.int .u64 a,.int .u64 b]) (.int .i64 1)).run Tryz.prog w = .ok (.int .u64 b) w:=fun _ => by kernel_rfl
 go_enter Tryz.func252,Tryz.ntmps252
 go_wp2
 go_rounds 3
 go_wp2
 go_ret
 exact ⟨rfl,by go_grown⟩
theorem split_any (a:Int) (w:World) (h0:0 ≤ a) (h1:a ≤ 18446744073709551615) :
  Calls Tryz.prog 205 #[.int .u64 a] w fun e w' => e = .returned (.agg #[.int .u64 (a / 2),.int .u64 (a % 2)]) ∧ Grown w w':=by
 go_enter Tryz.func205,Tryz.ntmps205
 go_wp2
 exact bodyPost_ret (v:=.agg #[.int .u64 (a / 2),.int .u64 (a % 2)]) (by simp [results,Tryz.results205,go_sem]) rfl ⟨rfl,by go_grown⟩
theorem idx0 (a b:Int) (w:World):(Instr.index 275 (.agg #[.int .u64 a,.int .u64 b]) (.int .i64 0)).run Tryz.prog w = .ok (.int .u64 a) w:=by kernel_rfl
theorem idx1 (a b:Int) (w:World):(Instr.index 275 (.agg #[.int .u64 a,.int .u64 b]) (.int .i64 1)).run Tryz.prog w = .ok (.int .u64 b) w:=by kernel_rfl
theorem Pack_any (n:Int) (m:Bool) (w:World) (h0:-9223372036854775808 ≤ n) (h1:n ≤ 9223372036854775807) :
  Calls Tryz.prog 214 #[.int .i64 n,.bool m] w fun e w' => e = .returned (.int .u64 (zPack n m)) ∧ Grown w w':=by
 by_cases hn:n < 0
 ·have hz:zPack n m = 0:=if_neg (by omega)
  rw [hz];clear hz
  go_enter Tryz.func214,Tryz.ntmps214
  go_wp2
  go_ret
  exact ⟨rfl,by go_grown⟩
 by_cases hg:2147483647 < n
 ·have hz:zPack n m = 0:=if_neg (by omega)
  rw [hz];clear hz
  go_enter Tryz.func214,Tryz.ntmps214
  go_wp2
  go_ret
  exact ⟨rfl,by go_grown⟩
 cases m
 ·have hz:zPack n false = 2 * n:=(if_pos (by omega)).trans (by simp)
  rw [hz];clear hz
  go_enter Tryz.func214,Tryz.ntmps214
  go_wp2_with (refine (join_any _ _ _ (by omega) (by omega) (by omega) (by omega)).mono ?_;rintro e w1 ⟨rfl,hg1⟩)
  go_ret
  exact ⟨rfl,gtr (by go_grown) hg1⟩
 ·have hz:zPack n true = 2 * n + 1:=if_pos (by omega)
  rw [hz];clear hz
  go_enter Tryz.func214,Tryz.ntmps214
  go_wp2_with (refine (join_any _ _ _ (by omega) (by omega) (by omega) (by omega)).mono ?_;rintro e w1 ⟨rfl,hg1⟩)
  go_ret
  exact ⟨rfl,gtr (by go_grown) hg1⟩
theorem Index_any (a:Int) (w:World) (h0:0 ≤ a) (h1:a ≤ 18446744073709551615) :
  Calls Tryz.prog 143 #[.int .u64 a] w fun e w' => e = .returned (.int .i64 (a / 2)) ∧ Grown w w':=by
 have hi:=idx0
 go_enter Tryz.func143,Tryz.ntmps143
 go_wp2_with (refine (split_any _ _ h0 h1).mono ?_;rintro e w1 ⟨rfl,hg1⟩)
 go_ret
 exact ⟨rfl,hg1⟩
theorem Marked_any (a:Int) (w:World) (h0:0 ≤ a) (h1:a ≤ 18446744073709551615) :
  Calls Tryz.prog 212 #[.int .u64 a] w fun e w' => e = .returned (.bool (a % 2 == 1)) ∧ Grown w w':=by
 have hi:=idx1
 go_enter Tryz.func212,Tryz.ntmps212
 go_wp2_with (refine (split_any _ _ h0 h1).mono ?_;rintro e w1 ⟨rfl,hg1⟩)
 go_ret
 exact ⟨rfl,hg1⟩
theorem Mark_any (a:Int) (w:World) (h0:0 ≤ a) (h1:a ≤ 18446744073709551615) :
  Calls Tryz.prog 261 #[.int .u64 a] w fun e w' => e = .returned (.int .u64 (2 * (a / 2) + 1)) ∧ Grown w w':=by
 go_enter Tryz.func261,Tryz.ntmps261
 go_wp2_with (first | (refine (split_any _ _ h0 h1).mono ?_;rintro e w1 ⟨rfl,hg1⟩) | (refine (join_any _ _ _ (by omega) (by omega) (by omega) (by omega)).mono ?_;rintro e w2 ⟨rfl,hg2⟩))
 go_ret
 exact ⟨rfl,gtr hg1 (gtr (by go_grown) hg2)⟩
end Go.Proofs.YtcogckjpmmjmbaaGreat
namespace Go.Proofs.YtcogckjpmmjmbaaGreat
open Go.ChangeShapes Go.WideShapes Go.ChangeAt Go.RowKit
set_option maxRecDepth 100000
def zNaming (n k:Int):Int:=if 0 ≤ n ∧ n ≤ 2147483647 then n + k else 0
def zNamed (a k:Int):Int:=if k ≤ a ∧ a ≤ 2147483647 + k then a - k else -1
theorem wrap_neg (n:Int) (h0:-9223372036854775808 ≤ n) (h1:n < 0):IntKind.u64.wrap n = n + 18446744073709551616:=by
 simp [IntKind.wrap,IntKind.signed,IntKind.bits];omega
set_option maxHeartbeats 400000 in
theorem naming_any (n k:Int) (w:World) (h0:-9223372036854775808 ≤ n) (h1:n ≤ 9223372036854775807) (k0:0 ≤ k) (k1:k ≤ 3) :
  Calls Tryz.prog 232 #[.int .i64 n,.int .u64 k] w fun e w' => e = .returned (.int .u64 (zNaming n k)) ∧ Grown w w':=by
 have hmf:=mkFunc
 by_cases hn:n < 0
 ·have hz:zNaming n k = 0:=if_neg (by omega)
  rw [hz];clear hz
  have hw:=wrap_neg n h0 hn
  have hd:decide (n + 18446744073709551616 ≤ 2147483647) = false:=decide_eq_false (by omega)
  go_enter Tryz.func232,Tryz.ntmps232
  go_wp2
  go_ret
  exact ⟨rfl,by go_grown⟩
 by_cases hg:2147483647 < n
 ·have hz:zNaming n k = 0:=if_neg (by omega)
  rw [hz];clear hz
  have hd:decide (n ≤ 2147483647) = false:=decide_eq_false (by omega)
  go_enter Tryz.func232,Tryz.ntmps232
  go_wp2
  go_ret
  exact ⟨rfl,by go_grown⟩
 ·have hz:zNaming n k = n + k:=if_pos (by omega)
  rw [hz];clear hz
  have hd:decide (n ≤ 2147483647) = true:=decide_eq_true (by omega)
  go_enter Tryz.func232,Tryz.ntmps232
  go_wp2
  go_ret
  exact ⟨rfl,by go_grown⟩
set_option maxHeartbeats 400000 in
theorem named_any (a k:Int) (w:World) (h0:0 ≤ a) (h1:a ≤ 18446744073709551615) (k0:0 ≤ k) (k1:k ≤ 3) :
  Calls Tryz.prog 234 #[.int .u64 a,.int .u64 k] w fun e w' => e = .returned (.int .i64 (zNamed a k)) ∧ Grown w w':=by
 have hmf:=mkFunc
 by_cases hn:a < k
 ·have hz:zNamed a k = -1:=if_neg (by omega)
  rw [hz];clear hz
  have hw:=wrap_neg (a - k) (by omega) (by omega)
  have hd:decide (a - k + 18446744073709551616 ≤ 2147483647) = false:=decide_eq_false (by omega)
  go_enter Tryz.func234,Tryz.ntmps234
  go_wp2
  go_ret
  exact ⟨rfl,by go_grown⟩
 by_cases hg:2147483647 < a - k
 ·have hz:zNamed a k = -1:=if_neg (by omega)
  rw [hz];clear hz
  have hd:decide (a - k ≤ 2147483647) = false:=decide_eq_false (by omega)
  go_enter Tryz.func234,Tryz.ntmps234
  go_wp2
  go_ret
  exact ⟨rfl,by go_grown⟩
 ·have hz:zNamed a k = a - k:=if_pos (by omega)
  rw [hz];clear hz
  have hd:decide (a - k ≤ 2147483647) = true:=decide_eq_true (by omega)
  go_enter Tryz.func234,Tryz.ntmps234
  go_wp2
  go_ret
  exact ⟨rfl,by go_grown⟩
theorem Out_any (n:Int) (w:World) (h0:-9223372036854775808 ≤ n) (h1:n ≤ 9223372036854775807) :
  Calls Tryz.prog 173 #[.int .i64 n] w fun e w' => e = .returned (.int .u64 (zNaming n 3)) ∧ Grown w w':=by
 go_enter Tryz.func173,Tryz.ntmps173
 go_wp2_with (refine (naming_any _ _ _ h0 h1 (by omega) (by omega)).mono ?_;rintro e w1 ⟨rfl,hg1⟩)
 go_ret
 exact ⟨rfl,hg1⟩
theorem Target_any (n:Int) (w:World) (h0:-9223372036854775808 ≤ n) (h1:n ≤ 9223372036854775807) :
  Calls Tryz.prog 171 #[.int .i64 n] w fun e w' => e = .returned (.int .u64 (zNaming n 2)) ∧ Grown w w':=by
 go_enter Tryz.func171,Tryz.ntmps171
 go_wp2_with (refine (naming_any _ _ _ h0 h1 (by omega) (by omega)).mono ?_;rintro e w1 ⟨rfl,hg1⟩)
 go_ret
 exact ⟨rfl,hg1⟩
theorem By_any (a:Int) (w:World) (h0:0 ≤ a) (h1:a ≤ 18446744073709551615) :
  Calls Tryz.prog 174 #[.int .u64 a] w fun e w' => e = .returned (.int .i64 (zNamed a 3)) ∧ Grown w w':=by
 go_enter Tryz.func174,Tryz.ntmps174
 go_wp2_with (refine (named_any _ _ _ h0 h1 (by omega) (by omega)).mono ?_;rintro e w1 ⟨rfl,hg1⟩)
 go_ret
 exact ⟨rfl,hg1⟩
theorem Of_any (a:Int) (w:World) (h0:0 ≤ a) (h1:a ≤ 18446744073709551615) :
  Calls Tryz.prog 233 #[.int .u64 a] w fun e w' => e = .returned (.int .i64 (zNamed a 2)) ∧ Grown w w':=by
 go_enter Tryz.func233,Tryz.ntmps233
 go_wp2_with (refine (named_any _ _ _ h0 h1 (by omega) (by omega)).mono ?_;rintro e w1 ⟨rfl,hg1⟩)
 go_ret
 exact ⟨rfl,hg1⟩
theorem Over_any (a:Int) (w:World) :
  Calls Tryz.prog 211 #[.int .u64 a] w fun e w' => e = .returned (.bool (decide (2 ≤ a))) ∧ Grown w w':=by
 go_enter Tryz.func211,Tryz.ntmps211
 go_wp2
 go_ret
 exact ⟨rfl,by go_grown⟩
end Go.Proofs.YtcogckjpmmjmbaaGreat
namespace Go.Proofs.YtcogckjpmmjmbaaGreat
open Go.ChangeShapes Go.WideShapes Go.ChangeAt Go.RowKit
set_option maxRecDepth 100000
theorem refPack_any (n:Int) (m:Bool) (w:World) (h0:-9223372036854775808 ≤ n) (h1:n ≤ 9223372036854775807) :
  Calls Tryz.prog 62 #[.int .i64 n,.bool m] w fun e w' => e = .returned (.int .u64 (zPack n m)) ∧ Grown w w':=by
 by_cases hn:n < 0
 ·have hz:zPack n m = 0:=if_neg (by omega)
  rw [hz];clear hz
  go_enter Tryz.func62,Tryz.ntmps62
  go_wp2
  go_ret
  exact ⟨rfl,by go_grown⟩
 by_cases hg:2147483647 < n
 ·have hz:zPack n m = 0:=if_neg (by omega)
  rw [hz];clear hz
  go_enter Tryz.func62,Tryz.ntmps62
  go_wp2
  go_ret
  exact ⟨rfl,by go_grown⟩
 cases m
 ·have hz:zPack n false = 2 * n:=(if_pos (by omega)).trans (by simp)
  rw [hz];clear hz
  go_enter Tryz.func62,Tryz.ntmps62
  go_wp2
  go_ret
  exact ⟨rfl,by go_grown⟩
 ·have hz:zPack n true = 2 * n + 1:=if_pos (by omega)
  rw [hz];clear hz
  go_enter Tryz.func62,Tryz.ntmps62
  go_wp2
  go_ret
  exact ⟨rfl,by go_grown⟩
theorem refMarked_any (a:Int) (w:World) (h0:0 ≤ a) (h1:a ≤ 18446744073709551615) :
  Calls Tryz.prog 63 #[.int .u64 a] w fun e w' => e = .returned (.bool (a % 2 == 1)) ∧ Grown w w':=by
 go_enter Tryz.func63,Tryz.ntmps63
 go_wp2
 go_ret
 exact ⟨rfl,by go_grown⟩
theorem Pack_at {n:Int} {m:Bool} {v:Int} (w:World) (h:zPack n m = v) (h0:-9223372036854775808 ≤ n) (h1:n ≤ 9223372036854775807) :
  Calls Tryz.prog 214 #[.int .i64 n,.bool m] w fun e w' => e = .returned (.int .u64 v) ∧ Grown w w':=by
 subst h;exact Pack_any n m w h0 h1
theorem Marked_at {a:Int} {v:Bool} (w:World) (h:(a % 2 == 1) = v) (h0:0 ≤ a) (h1:a ≤ 18446744073709551615) :
  Calls Tryz.prog 212 #[.int .u64 a] w fun e w' => e = .returned (.bool v) ∧ Grown w w':=by
 subst h;exact Marked_any a w h0 h1
theorem Mark_at {a v:Int} (w:World) (h:2 * (a / 2) + 1 = v) (h0:0 ≤ a) (h1:a ≤ 18446744073709551615) :
  Calls Tryz.prog 261 #[.int .u64 a] w fun e w' => e = .returned (.int .u64 v) ∧ Grown w w':=by
 subst h;exact Mark_any a w h0 h1
theorem zPack_in {n:Int} {m:Bool} (h0:0 ≤ n) (h1:n ≤ 2147483647):zPack n m = 2 * n + (if m = true then 1 else 0):=if_pos ⟨h0,h1⟩
end Go.Proofs.YtcogckjpmmjmbaaGreat
namespace Go.Proofs.YtcogckjpmmjmbaaGreat
open Go.ChangeShapes Go.WideShapes Go.ChangeAt Go.RowKit
set_option maxRecDepth 100000
set_option linter.unusedVariables false
theorem look_none_not {α:Type}:∀ {l:List (Nat × α)} {n:Nat},look l n = none → n ∉ l.map (·.1)
 | [],n,_ => by simp
 | (m,y) :: r,n,h => by
  simp only [look] at h
  split at h
  ·cases h
  ·rename_i hm
   simp only [List.map_cons,List.mem_cons,not_or]
   exact ⟨fun e => hm e.symm,look_none_not h⟩
theorem nodup_app {α:Type} {l:List (Nat × α)} {n:Nat} {y:α} (h:(l.map (·.1)).Nodup) (hn:look l n = none):((l ++ [(n,y)]).map (·.1)).Nodup:=by
 rw [List.map_append]
 refine List.nodup_append.2 ⟨h,by simp,fun a ha b hb => ?_⟩
 simp only [List.map_cons,List.map_nil,List.mem_cons,List.not_mem_nil,or_false] at hb
 subst hb
 rintro rfl
 exact look_none_not hn ha
theorem at_bump_le {l:List Nat} {h:Nat} (hl:h < l.length) (j:Nat):at_ l j ≤ at_ (bump l h) j:=by
 rw [at_bump hl];split
 ·subst_vars;omega
 ·exact Nat.le_refl _
theorem Inv.beginS {c:Cf} {s:St} (h:Inv c s) {i:Nat} (hi:i < c.t) (x:Cal):Inv c (beginS c s i x).1:=by
 have l1:=h.l1
 have l2:=h.l2
 have hb1:=h.b1 i hi
 have hb2:=h.b2 i hi
 unfold Proofs.YtcogckjpmmjmbaaGreat.beginS
 split
 ·exact h
 ·rename_i e1
  have calls:∀ j,j < c.t → at_ (bump s.calls i) j ≤ c.k:=fun j hj => by
   rw [at_bump (by omega)];split
   ·omega
   ·exact h.b1 j hj
  have ops1:∀ y ∈ s.ops,∃ q m,q < c.t ∧ m < at_ (bump s.calls i) q ∧ y.1 = q * c.k + m:=fun y hy => by
   obtain ⟨q,m,hq,hm,he⟩:=h.k1 y hy
   exact ⟨q,m,hq,Nat.lt_of_lt_of_le hm (at_bump_le (by omega) q),he⟩
  split
  ·exact ⟨by simp [length_bump,l1],h.l2,h.l3,calls,h.b2,h.b3,ops1,h.k2,h.d1,h.d2⟩
  ·rename_i e2
   have hnew:=h.newOp hi (by omega)
   refine ⟨by simp [length_bump,l1],?_,h.l3,calls,?_,h.b3,?_,h.k2,nodup_app h.d1 hnew,h.d2⟩
   ·show (if x.kind = 1 then bump s.ins i else s.ins).length = c.t
    split
    ·rw [length_bump];exact l2
    ·exact l2
   ·intro j hj
    show at_ (if x.kind = 1 then bump s.ins i else s.ins) j ≤ c.i
    split
    ·rename_i hk
     rw [at_bump (by omega)];split
     ·have:¬ at_ s.ins i = c.i:=fun e => e2 ⟨hk,e⟩
      omega
     ·exact h.b2 j hj
    ·exact h.b2 j hj
   ·intro y hy
    rcases List.mem_append.1 hy with hy | hy
    ·exact ops1 y hy
    ·simp only [List.mem_cons,List.not_mem_nil,or_false] at hy
     subst hy
     exact ⟨i,at_ s.calls i,hi,by rw [at_bump (by omega),if_pos rfl];omega,rfl⟩
theorem Inv.beginI {c:Cf} {s:St} (h:Inv c s) (th:Int) (x:Cal):Inv c (beginI c s th x).1:=by
 unfold Proofs.YtcogckjpmmjmbaaGreat.beginI
 split
 ·exact h
 ·exact h.beginS (by omega) x
theorem Inv.makeS {c:Cf} {s:St} (h:Inv c s) {i:Nat} (hi:i < c.t) (op:Nat):Inv c (makeS c s i op).1:=by
 have l3:=h.l3
 have hb3:=h.b3 i hi
 unfold Proofs.YtcogckjpmmjmbaaGreat.makeS
 split
 ·exact h
 ·rename_i e1
  have hnew:=h.newNode hi (by omega)
  refine ⟨h.l1,h.l2,by simp [length_bump,l3],h.b1,h.b2,fun j hj => ?_,h.k1,fun y hy => ?_,h.d1,nodup_app h.d2 hnew⟩
  ·show at_ (bump s.made i) j ≤ 2 * c.k
   rw [at_bump (by omega)];split
   ·omega
   ·exact h.b3 j hj
  ·rcases List.mem_append.1 hy with hy | hy
   ·obtain ⟨q,m,hq,hm,he⟩:=h.k2 y hy
    exact ⟨q,m,hq,Nat.lt_of_lt_of_le hm (at_bump_le (by omega) q),he⟩
   ·simp only [List.mem_cons,List.not_mem_nil,or_false] at hy
    subst hy
    exact ⟨i,at_ s.made i,hi,by show at_ s.made i < at_ (bump s.made i) i;rw [at_bump (by omega),if_pos rfl];omega,rfl⟩
theorem Inv.makeI {c:Cf} {s:St} (h:Inv c s) (th op:Int):Inv c (makeI c s th op).1:=by
 unfold Proofs.YtcogckjpmmjmbaaGreat.makeI
 split
 ·exact h
 ·exact h.makeS (by omega) _
theorem begin_len (c:Cf) (s:St) (th:Int) (x:Cal):(beginI c s th x).1.ops.length ≤ s.ops.length + 1 ∧ (beginI c s th x).1.nodes.length = s.nodes.length:=by
 unfold beginI beginS
 split
 ·exact ⟨Nat.le_succ _,rfl⟩
 ·split
  ·exact ⟨Nat.le_succ _,rfl⟩
  ·split
   ·exact ⟨by simp,rfl⟩
   ·exact ⟨by simp,rfl⟩
theorem make_len (c:Cf) (s:St) (th op:Int):(makeI c s th op).1.ops.length = s.ops.length ∧ (makeI c s th op).1.nodes.length ≤ s.nodes.length + 1:=by
 unfold makeI makeS
 split
 ·exact ⟨rfl,Nat.le_succ _⟩
 ·split
  ·exact ⟨rfl,Nat.le_succ _⟩
  ·exact ⟨rfl,by simp⟩
def Stays (s s':St):Prop:=(∀ n x,look s.ops n = some x → look s'.ops n = some x) ∧ ∀ n x,look s.nodes n = some x → look s'.nodes n = some x
theorem look_stays {α:Type} (l:List (Nat × α)) (y:Nat × α) (n:Nat) (x:α) (h:look l n = some x):look (l ++ [y]) n = some x:=by rw [look_app,h];rfl
theorem Stays.refl (s:St):Stays s s:=⟨fun _ _ h => h,fun _ _ h => h⟩
theorem Stays.trans {a b c:St} (h:Stays a b) (k:Stays b c):Stays a c:=⟨fun n x q => k.1 n x (h.1 n x q),fun n x q => k.2 n x (h.2 n x q)⟩
theorem begin_stays (c:Cf) (s:St) (th:Int) (x:Cal):Stays s (beginI c s th x).1:=by
 unfold beginI beginS
 split
 ·exact Stays.refl s
 ·split
  ·exact Stays.refl s
  ·split
   ·exact Stays.refl s
   ·exact ⟨fun n y h => look_stays _ _ n y h,fun _ _ h => h⟩
end Go.Proofs.YtcogckjpmmjmbaaGreat
namespace Go.Proofs.YtcogckjpmmjmbaaGreat
open Go.ChangeShapes Go.WideShapes Go.ChangeAt Go.RowKit Go.Deep
set_option maxRecDepth 100000
theorem add_none (bb off n:Nat):(⟨bb,off,none⟩:Addr).add n = ⟨bb,off + n,none⟩:=by
 unfold Addr.add
 split
 ·rename_i h;have h':n = 0:=by simpa using h
  subst h';rfl
 ·rfl
end Go.Proofs.YtcogckjpmmjmbaaGreat
