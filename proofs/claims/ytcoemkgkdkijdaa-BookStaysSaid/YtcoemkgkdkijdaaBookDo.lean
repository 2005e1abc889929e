/- The laws of package book: an act, done. -/
import Derived.Test.YtcoemkgkdkijdaaActs
import Derived.Test.YtcoemkgkdkijdaaBookInv
namespace Go.Proofs.Ytcoemkgkdkijdaa
open Go.ChangeShapes Go.WideShapes Go.ChangeAt Go.RowKit
set_option maxRecDepth 100000
set_option linter.unusedVariables false

def actI (c : Cf) (s : St) (a : ActV) : St × Nat × Nat := if a.made = true then makeI c s a.th a.op else beginI c s a.th a.x
theorem Inv.actI {c : Cf} {s : St} (h : Inv c s) (a : ActV) : Inv c (actI c s a).1 := by
  unfold Proofs.Ytcoemkgkdkijdaa.actI; split
  · exact h.makeI _ _
  · exact h.beginI _ _
theorem act_stays (c : Cf) (s : St) (a : ActV) : Stays s (actI c s a).1 := by
  unfold actI; split
  · exact make_stays _ _ _ _
  · exact begin_stays _ _ _ _
theorem act_len (c : Cf) (s : St) (a : ActV) : (actI c s a).1.ops.length ≤ s.ops.length + 1 ∧ (actI c s a).1.nodes.length ≤ s.nodes.length + 1 := by
  unfold actI; split
  · have := make_len c s a.th a.op; omega
  · have := begin_len c s a.th a.x; omega

theorem do_any (w : World) (c : Cf) (a : Ad) (s : St) (h : BookAt w c a s) (hI : Inv c s) (y : ActV) (r : St × Nat × Nat) (hr : actI c s y = r) :
    Calls Try.prog 23 #[.pointer (some ⟨a.p, 0, none⟩), y.v] w (Told c a r w) := by
  have H := Lib.hid h
  have HI := Lib.hid hI
  clear h hI
  obtain ⟨mk, th, op, x⟩ := y
  unfold ActV.v
  unfold actI at hr
  cases mk with
  | true =>
    have HR : Hid (makeI c s th op = r) := Lib.hid hr
    clear hr
    go_enter Try.func23, Try.ntmps23
    go_wp2_with fail
    refine (Make_any _ c a s (H.out.grown (by go_grown)) HI.out th op r HR.out).mono ?_; rintro e w1 ⟨rfl, q1, h1⟩
    go_wp2_with fail
    go_ret2
    exact ⟨rfl, (But.of_grown (by go_grown)).trans q1, h1⟩
  | false =>
    have HR : Hid (beginI c s th x = r) := Lib.hid hr
    clear hr
    go_enter Try.func23, Try.ntmps23
    go_wp2_with fail
    refine (Begin_any _ c a s (H.out.grown (by go_grown)) HI.out th x r HR.out).mono ?_; rintro e w1 ⟨rfl, q1, h1⟩
    go_wp2_with fail
    go_ret2
    exact ⟨rfl, (But.of_grown (by go_grown)).trans q1, h1⟩
end Go.Proofs.Ytcoemkgkdkijdaa
