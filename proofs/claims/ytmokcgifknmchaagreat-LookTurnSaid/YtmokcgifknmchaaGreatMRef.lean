/- Package ref and the document's answers for it (corrieref01), function by function: what each call returns, and that it leaves all memory that was there as it was. -/
import Derived.Test.YtmokcgifknmchaaGreatMBase
namespace Go.Proofs.YtmokcgifknmchaaGreat
open Go.ChangeShapes Go.WideShapes Go.ChangeAt Go.RowKit
set_option maxRecDepth 100000
def zPack (n:Int) (m:Bool):Int:=if 0 ≤ n ∧ n ≤ 2147483647 then 2 * n + (if m = true then 1 else 0) else 0
set_option maxHeartbeats 400000 in
theorem join_any (a b:Int) (w:World) (ha:0 ≤ a) (ha':a ≤ 9223372036854775807) (hb:0 ≤ b) (hb':b ≤ 1) :
  Calls Tryz.prog 235 #[.agg #[.int .u64 a,.int .u64 b]] w fun e w' => e = .returned (.int .u64 (2 * a + b)) ∧ Grown w w':=by
 have hmf:=mkFunc
 have i0:∀ w,(Instr.index 264 (.agg #[.int .u64 a,.int .u64 b]) (.int .i64 0)).run Tryz.prog w = .ok (.int .u64 a) w:=fun _ => by kernel_rfl
 have i1:∀ w,(Instr.index 264 (.agg #[.int .u64 a,.int .u64 b]) (.int .i64 1)).run Tryz.prog w = .ok (.int .u64 b) w:=fun _ => by kernel_rfl
 go_enter Tryz.func235,Tryz.ntmps235
 go_wp2
 go_rounds 3
 go_wp2
 go_ret
 exact ⟨rfl,by go_grown⟩
theorem split_any (a:Int) (w:World) (h0:0 ≤ a) (h1:a ≤ 18446744073709551615) :
  Calls Tryz.prog 189 #[.int .u64 a] w fun e w' => e = .returned (.agg #[.int .u64 (a / 2),.int .u64 (a % 2)]) ∧ Grown w w':=by
 go_enter Tryz.func189,Tryz.ntmps189
 go_wp2
 exact bodyPost_ret (v:=.agg #[.int .u64 (a / 2),.int .u64 (a % 2)]) (by simp [results,Tryz.results189,go_sem]) rfl ⟨rfl,by go_grown⟩
theorem idx0 (a b:Int) (w:World):(Instr.index 264 (.agg #[.int .u64 a,.int .u64 b]) (.int .i64 0)).run Tryz.prog w = .ok (.int .u64 a) w:=by kernel_rfl
theorem idx1 (a b:Int) (w:World):(Instr.index 264 (.agg #[.int .u64 a,.int .u64 b]) (.int .i64 1)).run Tryz.prog w = .ok (.int .u64 b) w:=by kernel_rfl
theorem Pack_any (n:Int) (m:Bool) (w:World) (h0:-9223372036854775808 ≤ n) (h1:n ≤ 9223372036854775807) :
  Calls Tryz.prog 208 #[.int .i64 n,.bool m] w fun e w' => e = .returned (.int .u64 (zPack n m)) ∧ Grown w w':=by
 by_cases hn:n < 0
 ·have hz:zPack n m = 0:=if_neg (by omega)
  rw [hz];clear hz
  go_enter Tryz.func208,Tryz.ntmps208
  go_wp2
  go_ret
  exact ⟨rfl,by go_grown⟩
 by_cases hg:2147483647 < n
 ·have hz:zPack n m = 0:=if_neg (by omega)
  rw [hz];clear hz
  go_enter Tryz.func208,Tryz.ntmps208
  go_wp2
  go_ret
  exact ⟨rfl,by go_grown⟩
 cases m
 ·have hz:zPack n false = 2 * n:=(if_pos (by omega)).trans (by simp)
  rw [hz];clear hz
  go_enter Tryz.func208,Tryz.ntmps208
  go_wp2_with (refine (join_any _ _ _ (by omega) (by omega) (by omega) (by omega)).mono ?_;rintro e w1 ⟨rfl,hg1⟩)
  go_ret
  exact ⟨rfl,gtr (by go_grown) hg1⟩
 ·have hz:zPack n true = 2 * n + 1:=if_pos (by omega)
  rw [hz];clear hz
  go_enter Tryz.func208,Tryz.ntmps208
  go_wp2_with (refine (join_any _ _ _ (by omega) (by omega) (by omega) (by omega)).mono ?_;rintro e w1 ⟨rfl,hg1⟩)
  go_ret
  exact ⟨rfl,gtr (by go_grown) hg1⟩
theorem Index_any (a:Int) (w:World) (h0:0 ≤ a) (h1:a ≤ 18446744073709551615) :
  Calls Tryz.prog 132 #[.int .u64 a] w fun e w' => e = .returned (.int .i64 (a / 2)) ∧ Grown w w':=by
 have hi:=idx0
 go_enter Tryz.func132,Tryz.ntmps132
 go_wp2_with (refine (split_any _ _ h0 h1).mono ?_;rintro e w1 ⟨rfl,hg1⟩)
 go_ret
 exact ⟨rfl,hg1⟩
theorem Marked_any (a:Int) (w:World) (h0:0 ≤ a) (h1:a ≤ 18446744073709551615) :
  Calls Tryz.prog 196 #[.int .u64 a] w fun e w' => e = .returned (.bool (a % 2 == 1)) ∧ Grown w w':=by
 have hi:=idx1
 go_enter Tryz.func196,Tryz.ntmps196
 go_wp2_with (refine (split_any _ _ h0 h1).mono ?_;rintro e w1 ⟨rfl,hg1⟩)
 go_ret
 exact ⟨rfl,hg1⟩
theorem Mark_any (a:Int) (w:World) (h0:0 ≤ a) (h1:a ≤ 18446744073709551615) :
  Calls Tryz.prog 212 #[.int .u64 a] w fun e w' => e = .returned (.int .u64 (2 * (a / 2) + 1)) ∧ Grown w w':=by
 go_enter Tryz.func212,Tryz.ntmps212
 go_wp2_with (first | (refine (split_any _ _ h0 h1).mono ?_;rintro e w1 ⟨rfl,hg1⟩) | (refine (join_any _ _ _ (by omega) (by omega) (by omega) (by omega)).mono ?_;rintro e w2 ⟨rfl,hg2⟩))
 go_ret
 exact ⟨rfl,gtr hg1 (gtr (by go_grown) hg2)⟩
end Go.Proofs.YtmokcgifknmchaaGreat
namespace Go.Proofs.YtmokcgifknmchaaGreat
open Go.ChangeShapes Go.WideShapes Go.ChangeAt Go.RowKit
set_option maxRecDepth 100000
theorem Over_any (a:Int) (w:World) :
  Calls Tryz.prog 195 #[.int .u64 a] w fun e w' => e = .returned (.bool (decide (2 ≤ a))) ∧ Grown w w':=by
 go_enter Tryz.func195,Tryz.ntmps195
 go_wp2
 go_ret
 exact ⟨rfl,by go_grown⟩
theorem refOver_any (a:Int) (w:World) :
  Calls Tryz.prog 143 #[.int .u64 a] w fun e w' => e = .returned (.bool (decide (2 ≤ a))) ∧ Grown w w':=by
 go_enter Tryz.func143,Tryz.ntmps143
 go_wp2
 go_ret
 exact ⟨rfl,by go_grown⟩
end Go.Proofs.YtmokcgifknmchaaGreat
namespace Go.Proofs.YtmokcgifknmchaaGreat
open Go.ChangeShapes Go.WideShapes Go.ChangeAt Go.RowKit
set_option maxRecDepth 100000
theorem refPack_any (n:Int) (m:Bool) (w:World) (h0:-9223372036854775808 ≤ n) (h1:n ≤ 9223372036854775807) :
  Calls Tryz.prog 57 #[.int .i64 n,.bool m] w fun e w' => e = .returned (.int .u64 (zPack n m)) ∧ Grown w w':=by
 by_cases hn:n < 0
 ·have hz:zPack n m = 0:=if_neg (by omega)
  rw [hz];clear hz
  go_enter Tryz.func57,Tryz.ntmps57
  go_wp2
  go_ret
  exact ⟨rfl,by go_grown⟩
 by_cases hg:2147483647 < n
 ·have hz:zPack n m = 0:=if_neg (by omega)
  rw [hz];clear hz
  go_enter Tryz.func57,Tryz.ntmps57
  go_wp2
  go_ret
  exact ⟨rfl,by go_grown⟩
 cases m
 ·have hz:zPack n false = 2 * n:=(if_pos (by omega)).trans (by simp)
  rw [hz];clear hz
  go_enter Tryz.func57,Tryz.ntmps57
  go_wp2
  go_ret
  exact ⟨rfl,by go_grown⟩
 ·have hz:zPack n true = 2 * n + 1:=if_pos (by omega)
  rw [hz];clear hz
  go_enter Tryz.func57,Tryz.ntmps57
  go_wp2
  go_ret
  exact ⟨rfl,by go_grown⟩
theorem refIndex_any (a:Int) (w:World) (h0:0 ≤ a) (h1:a ≤ 18446744073709551615) :
  Calls Tryz.prog 138 #[.int .u64 a] w fun e w' => e = .returned (.int .i64 (a / 2)) ∧ Grown w w':=by
 go_enter Tryz.func138,Tryz.ntmps138
 go_wp2
 go_ret
 exact ⟨rfl,by go_grown⟩
theorem refMarked_any (a:Int) (w:World) (h0:0 ≤ a) (h1:a ≤ 18446744073709551615) :
  Calls Tryz.prog 58 #[.int .u64 a] w fun e w' => e = .returned (.bool (a % 2 == 1)) ∧ Grown w w':=by
 go_enter Tryz.func58,Tryz.ntmps58
 go_wp2
 go_ret
 exact ⟨rfl,by go_grown⟩
theorem refMark_any (a:Int) (w:World) (h0:0 ≤ a) (h1:a ≤ 18446744073709551615) :
  Calls Tryz.prog 95 #[.int .u64 a] w fun e w' => e = .returned (.int .u64 (2 * (a / 2) + 1)) ∧ Grown w w':=by
 rcases (show a % 2 = 0 ∨ a % 2 = 1 by omega) with h | h
 ·have hz:2 * (a / 2) + 1 = a + 1:=by omega
  rw [hz];clear hz
  have hb:(a % 2 == 0) = true:=by simp [h]
  go_enter Tryz.func95,Tryz.ntmps95
  go_wp2
  go_ret
  exact ⟨rfl,by go_grown⟩
 ·have hz:2 * (a / 2) + 1 = a:=by omega
  rw [hz];clear hz
  have hb:(a % 2 == 0) = false:=by simp [h]
  go_enter Tryz.func95,Tryz.ntmps95
  go_wp2
  go_ret
  exact ⟨rfl,by go_grown⟩
theorem Pack_at {n:Int} {m:Bool} {v:Int} (w:World) (h:zPack n m = v) (h0:-9223372036854775808 ≤ n) (h1:n ≤ 9223372036854775807) :
  Calls Tryz.prog 208 #[.int .i64 n,.bool m] w fun e w' => e = .returned (.int .u64 v) ∧ Grown w w':=by
 subst h;exact Pack_any n m w h0 h1
theorem Marked_at {a:Int} {v:Bool} (w:World) (h:(a % 2 == 1) = v) (h0:0 ≤ a) (h1:a ≤ 18446744073709551615) :
  Calls Tryz.prog 196 #[.int .u64 a] w fun e w' => e = .returned (.bool v) ∧ Grown w w':=by
 subst h;exact Marked_any a w h0 h1
theorem Mark_at {a v:Int} (w:World) (h:2 * (a / 2) + 1 = v) (h0:0 ≤ a) (h1:a ≤ 18446744073709551615) :
  Calls Tryz.prog 212 #[.int .u64 a] w fun e w' => e = .returned (.int .u64 v) ∧ Grown w w':=by
 subst h;exact Mark_any a w h0 h1
theorem zPack_in {n:Int} {m:Bool} (h0:0 ≤ n) (h1:n ≤ 2147483647):zPack n m = 2 * n + (if m = true then 1 else 0):=if_pos ⟨h0,h1⟩
end Go.Proofs.YtmokcgifknmchaaGreat
