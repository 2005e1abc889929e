/- Why keys rise in a world that is sound, and why there are few pairs. -/
import Derived.Test.YtmokcgifknmchaaGreatMSound
import Derived.Test.YtmokcgifknmchaaGreatMScene
import Derived.Test.YtmokcgifknmchaaGreatLaid
namespace Go.Proofs.YtmokcgifknmchaaGreat
open Go.ChangeShapes Go.WideShapes Go.ChangeAt Go.RowKit
set_option maxRecDepth 100000
set_option linter.unusedVariables false
theorem addK_mem (l:List Int) (x y:Int):y ∈ addK l x ↔ y = x ∨ y ∈ l:=by
 unfold addK;split
 ·constructor
  ·exact .inr
  ·rintro (rfl | h)
   ·assumption
   ·exact h
 ·simp [or_comm]
structure RiseOk (c:Cf) (ws:List Int) (s:St) (p:Ps) (acc:List Int × List (Int × Int)):Prop where
 met:∀ o ∈ p.ops,(calAt s o).kind = 1 → wrdOf c ws o = 1 → o ∈ acc.1
 key:∀ y ∈ acc.2,y.1 ≤ p.key ∧ y.1 ∈ p.opens
 up:acc.2.Pairwise fun a b => a.1 < b.1
theorem RiseOk.step {c:Cf} {ws:List Int} {s:St} {b:Int} {p:Ps} {acc:List Int × List (Int × Int)} (h:RiseOk c ws s p acc) (i:Int) (hf:fitV c b p (ndOf c ws s i) = true) :
  RiseOk c ws s (passV p (ndOf c ws s i)) (stepP c ws s acc i):=by
 unfold fitV at hf
 simp only [Bool.and_eq_true,decide_eq_true_eq] at hf
 obtain ⟨⟨hk,-⟩,hb⟩:=hf
 unfold bearsV at hb
 have hkey:¬ ((ndOf c ws s i).num ∈ p.nodes ∨ (ndOf c ws s i).cal.key < p.key):=fun hx => by rw [if_pos hx] at hb;cases hb
 rw [if_neg hkey] at hb
 have hle:p.key ≤ (calAt s (opAt s i)).key:=by
  have:¬ (calAt s (opAt s i)).key < p.key:=fun hx => hkey (.inr hx)
  omega
 have hkind:(calAt s (opAt s i)).kind = 1:=hk
 unfold stepP
 by_cases hadd:((calAt s (opAt s i)).kind = 1 ∧ wrdOf c ws (opAt s i) = 1) ∧ opAt s i ∉ acc.1
 ·rw [if_pos hadd]
  obtain ⟨⟨-,hw⟩,hno⟩:=hadd
  have hops:¬ ((ndOf c ws s i).op ∈ p.ops ∨ 2 ≤ (ndOf c ws s i).word):=by
   rintro (hx | hx)
   ·exact hno (h.met _ hx hkind hw)
   ·have:2 ≤ wrdOf c ws (opAt s i):=hx
    omega
  rw [if_neg hops] at hb
  have hopen:¬ (calAt s (opAt s i)).key ∈ p.opens:=by
   intro hx
   have h1:decide ((ndOf c ws s i).word = 1) = true:=decide_eq_true hw
   have h2:decide ((ndOf c ws s i).cal.key ∈ p.opens) = true:=decide_eq_true hx
   rw [h1,h2] at hb
   simp at hb
  have hov:¬ 2 ≤ (ndOf c ws s i).word:=fun hx => hops (.inr hx)
  refine ⟨?_,?_,?_⟩
  ·intro o ho hk' hw'
   simp only [passV,addK_mem] at ho ⊢
   rcases ho with rfl | ho
   ·exact .inl rfl
   ·exact .inr (h.met o ho hk' hw')
  ·intro y hy
   simp only [passV,if_neg hov,addK_mem]
   rcases List.mem_append.1 hy with hy | hy
   ·have:=h.key y hy
    exact ⟨Int.le_trans this.1 hle,.inr this.2⟩
   ·simp only [List.mem_singleton] at hy
    subst hy
    exact ⟨Int.le_refl _,.inl rfl⟩
  ·rw [List.pairwise_append]
   refine ⟨h.up,by simp,fun y hy z hz => ?_⟩
   simp only [List.mem_singleton] at hz
   subst hz
   have h1:=h.key y hy
   have h2:y.1 ≠ (calAt s (opAt s i)).key:=fun e => hopen (e ▸ h1.2)
   simp only
   omega
 ·rw [if_neg hadd]
  refine ⟨?_,?_,h.up⟩
  ·intro o ho hk' hw'
   simp only [passV,addK_mem] at ho
   rcases ho with rfl | ho
   ·exact Classical.byContradiction fun hn => hadd ⟨⟨hk',hw'⟩,hn⟩
   ·exact h.met o ho hk' hw'
  ·intro y hy
   have:=h.key y hy
   refine ⟨Int.le_trans this.1 hle,?_⟩
   simp only [passV]
   split
   ·exact this.2
   ·rw [addK_mem];exact .inr this.2
structure FewOk (s:St) (acc:List Int × List (Int × Int)):Prop where
 nd:acc.1.Nodup
 len:acc.2.length = acc.1.length
 ops:∀ o ∈ acc.1,o ∈ s.ops.map fun x => (x.1:Int)
theorem calAt_mem {s:St} {o:Int} (h:(calAt s o).kind = 1):o ∈ s.ops.map fun x => (x.1:Int):=by
 unfold calAt at h
 cases hl:lookI s.ops o with
 | none => rw [hl] at h;simp [Cal.zero] at h
 | some x =>
  unfold lookI at hl
  split at hl
  ·cases hl
  ·rename_i h0
   have:=look_mem hl
   exact List.mem_map.2 ⟨_,this,by simp;omega⟩
theorem FewOk.step {c:Cf} {ws:List Int} {s:St} {acc:List Int × List (Int × Int)} (h:FewOk s acc) (i:Int):FewOk s (stepP c ws s acc i):=by
 unfold stepP
 split
 ·rename_i hx
  have ha:addK acc.1 (opAt s i) = acc.1 ++ [opAt s i]:=by unfold addK;rw [if_neg hx.2]
  simp only [ha]
  refine ⟨?_,by simp [h.len],?_⟩
  ·refine List.nodup_append.2 ⟨h.nd,by simp,fun a ha b hb => ?_⟩
   simp only [List.mem_singleton] at hb
   subst hb
   exact fun e => hx.2 (e ▸ ha)
  ·intro o ho
   rcases List.mem_append.1 ho with ho | ho
   ·exact h.ops o ho
   ·simp only [List.mem_singleton] at ho
    subst ho
    exact calAt_mem hx.1.1
 ·exact h
theorem lyC_len (c:Cf):∀ (xs:List Cal) (s:St),(lyC c s xs).ops.length ≤ s.ops.length + xs.length ∧ (lyC c s xs).nodes.length = s.nodes.length
 | [],s => ⟨by simp [lyC],rfl⟩
 | x :: r,s => by
  have h1:=begin_len c s 2 x
  have h2:=lyC_len c r (beginI c s 2 x).1
  have e:lyC c s (x :: r) = lyC c (beginI c s 2 x).1 r:=rfl
  rw [e]
  simp only [List.length_cons]
  omega
end Go.Proofs.YtmokcgifknmchaaGreat
namespace Go.Proofs.YtmokcgifknmchaaGreat
open Go.ChangeShapes Go.WideShapes Go.ChangeAt Go.RowKit
set_option maxRecDepth 100000
set_option linter.unusedVariables false
end Go.Proofs.YtmokcgifknmchaaGreat
namespace Go.Proofs.YtmokcgifknmchaaGreat
open Go.ChangeShapes Go.WideShapes Go.ChangeAt Go.RowKit
set_option maxRecDepth 100000
set_option linter.unusedVariables false
theorem Few9_at (w:World) (f:Int) (A A2:Option Addr) (n m c c2:Nat) (r:Bool) (hr:decide (n ≤ 12 ∧ m ≤ 6) = r) :
  Calls Tryz.prog 13 #[.agg #[.int .u8 f,.slice A n c,.slice A2 m c2]] w fun e w' => e = .returned (.bool r) ∧ Grown w w':=by
 subst hr
 have HB:=Lib.hid (Box.made w [.int .u8 f,.slice A n c,.slice A2 m c2] 25)
 have e1:=HB.out.cell 1 _ rfl
 have e2:=HB.out.cell 2 _ rfl
 by_cases h1:n ≤ 12
 ·have h1':decide ((n:Int) ≤ 12) = true:=decide_eq_true (by omega)
  by_cases h2:m ≤ 6
  ·have h2':decide ((m:Int) ≤ 6) = true:=decide_eq_true (by omega)
   rw [show decide (n ≤ 12 ∧ m ≤ 6) = true from decide_eq_true ⟨h1,h2⟩]
   go_enter Tryz.func13,Tryz.ntmps13
   go_wp2_with fail
   go_ret
   exact ⟨rfl,by go_grown⟩
  ·have h2':decide ((m:Int) ≤ 6) = false:=decide_eq_false (by omega)
   rw [show decide (n ≤ 12 ∧ m ≤ 6) = false from decide_eq_false (fun h => h2 h.2)]
   go_enter Tryz.func13,Tryz.ntmps13
   go_wp2_with fail
   go_ret
   exact ⟨rfl,by go_grown⟩
 ·have h1':decide ((n:Int) ≤ 12) = false:=decide_eq_false (by omega)
  rw [show decide (n ≤ 12 ∧ m ≤ 6) = false from decide_eq_false (fun h => h1 h.1)]
  go_enter Tryz.func13,Tryz.ntmps13
  go_wp2_with fail
  go_ret
  exact ⟨rfl,by go_grown⟩
end Go.Proofs.YtmokcgifknmchaaGreat
