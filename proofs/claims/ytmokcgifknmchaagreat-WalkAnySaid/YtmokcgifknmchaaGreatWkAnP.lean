/- A law of package walk holds for every input: each call of the law's function returns true, and its arguments read behind the call as they read before. -/
import Derived.Test.YtmokcgifknmchaaGreatMBase
import Derived.Test.YtmokcgifknmchaaGreatWkAn
import Derived.ProofKit
import Derived.OpenShut
namespace Go.Proofs.YtmokcgifknmchaaGreat
open Go.ChangeShapes Go.WideShapes Go.ChangeAt Go.RowKit
set_option linter.unusedVariables false
theorem own:ownKnob Tryz.prog.godebug = none:=by kernel_rfl
theorem arr10 {cs:Array Value} (h:cs.size = 10):∃ c0 c1 c2 c3 c4 c5 c6 c7 c8 c9,cs = #[c0,c1,c2,c3,c4,c5,c6,c7,c8,c9]:=by
 obtain ⟨l⟩:=cs
 simp only [List.size_toArray] at h
 match l,h with
 | [c0,c1,c2,c3,c4,c5,c6,c7,c8,c9],_ => exact ⟨c0,c1,c2,c3,c4,c5,c6,c7,c8,c9,rfl⟩
set_option maxRecDepth 100000 in
theorem walkAny_lifted (os:Os) (started:os.Started) (H:Type) (enc:TypeId × Value → H) :
  ReturnsInHanded {} Tryz.checked os 6 .any (Rows.walkAnySpec.pre6 enc Tryz.prog Tryz.f6 Rows.walkAnyRow.domain false) (Rows.walkAnySpec.post enc Tryz.prog Tryz.f6 false true false false):=by
 refine returnsInHanded_of_change (C:=Tryz.checked) own started (by kernel_rfl) Tryz.func6
  (ChangeSpec.witness6 (enc:=enc) (C:=Tryz.checked) false ⟨#[],#[.agg #[.int .u8 0,.slice none 0 0,.slice none 0 0],.agg #[.int .u64 0,.int .i64 0,.int .i64 0,.int .i64 0,.int .i64 0,.int .u64 0,.int .i64 0,.int .i64 0,.bool false,.bool false]],[]⟩ 8 (by kernel_rfl) (by kernel_rfl) (by kernel_rfl) (by kernel_rfl)) ?_
 intro W base args ds gs before hval0 hW hcnd _
 have hval:∀ (j:Nat) t v,Tryz.f6.params[j]? = some t → args[j]? = some v → Value.okWide Tryz.prog W .any base t v:=hval0
 have hW':=hW
 obtain ⟨p,q,hA0,hV,rfl,hfz,hnd⟩:=hW
 have hA:DataW.TrodAll enc Tryz.prog W 0 (fun _ => true) true Tryz.f6.params.toList args.toList ds p:=hA0
 rw [Tryz.params6] at hA hval
 obtain ⟨v0,vs0,d0,ds0,p0,q0,hargs,rfl,rfl,h0,r0⟩:=trodAll_cons hA
 obtain ⟨v1,vs1,d1,ds1,p1,q1,rfl,rfl,rfl,h1,r1⟩:=trodAll_cons r0
 obtain ⟨rfl,rfl,rfl⟩:=trodAll_nil r1
 obtain rfl:args = #[v0,v1]:=by cases args;simp_all
 obtain ⟨f0,vi0,vc0,xs0,cs0,rfl,hf0,hi0,hc0,hw0⟩:=open_scene (hval 0 25 v0 rfl rfl) h0
 obtain ⟨cs1,rfl,hs1,hc1⟩:=open_flat (n:=10) (ts:=[46,3,3,3,3,46,3,3,4,4]) (by kernel_rfl) (by kernel_rfl) (by kernel_rfl) (hval 1 70 v1 rfl rfl)
 obtain ⟨c1_0,c1_1,c1_2,c1_3,c1_4,c1_5,c1_6,c1_7,c1_8,c1_9,rfl⟩:=arr10 hs1
 obtain ⟨a1_0,rfl,w1_0⟩:=cell_int Tryz.underlying46 (hc1 0 _ 46 rfl rfl)
 obtain ⟨l1_0,u1_0⟩:=has_u64 w1_0
 obtain ⟨a1_1,rfl,w1_1⟩:=cell_int Tryz.underlying3 (hc1 1 _ 3 rfl rfl)
 obtain ⟨l1_1,u1_1⟩:=has_i64 w1_1
 obtain ⟨a1_2,rfl,w1_2⟩:=cell_int Tryz.underlying3 (hc1 2 _ 3 rfl rfl)
 obtain ⟨l1_2,u1_2⟩:=has_i64 w1_2
 obtain ⟨a1_3,rfl,w1_3⟩:=cell_int Tryz.underlying3 (hc1 3 _ 3 rfl rfl)
 obtain ⟨l1_3,u1_3⟩:=has_i64 w1_3
 obtain ⟨a1_4,rfl,w1_4⟩:=cell_int Tryz.underlying3 (hc1 4 _ 3 rfl rfl)
 obtain ⟨l1_4,u1_4⟩:=has_i64 w1_4
 obtain ⟨a1_5,rfl,w1_5⟩:=cell_int Tryz.underlying46 (hc1 5 _ 46 rfl rfl)
 obtain ⟨l1_5,u1_5⟩:=has_u64 w1_5
 obtain ⟨a1_6,rfl,w1_6⟩:=cell_int Tryz.underlying3 (hc1 6 _ 3 rfl rfl)
 obtain ⟨l1_6,u1_6⟩:=has_i64 w1_6
 obtain ⟨a1_7,rfl,w1_7⟩:=cell_int Tryz.underlying3 (hc1 7 _ 3 rfl rfl)
 obtain ⟨l1_7,u1_7⟩:=has_i64 w1_7
 obtain ⟨a1_8,rfl⟩:=cell_bool Tryz.underlying4 (hc1 8 _ 4 rfl rfl)
 obtain ⟨a1_9,rfl⟩:=cell_bool Tryz.underlying4 (hc1 9 _ 4 rfl rfl)
 refine (law_WalkAny f0 vi0 vc0 xs0 cs0 a1_0 a1_1 a1_2 a1_3 a1_4 a1_5 a1_6 a1_7 a1_8 a1_9 W hf0 hi0 hc0 hw0 l1_0 u1_0 l1_1 u1_1 l1_2 u1_2 l1_3 u1_3 l1_4 u1_4 l1_5 u1_5 l1_6 u1_6 l1_7 u1_7).mono fun e W' ⟨he,hg⟩ => ?_
 subst he
 exact ⟨_,rfl,law_post rfl (by kernel_rfl) rfl Tryz.underlying4 hW' rfl hg⟩
theorem walkAny_proved:Rows.WalkAnySaid :=
 OpenClaim.holds_of_wide 6 Tryz.f6 rfl rfl rfl rfl rfl rfl rfl ⟨rfl,rfl,rfl,rfl,rfl⟩ rfl rfl rfl rfl rfl (by kernel_rfl) Tryz.func6 (by kernel_rfl)
  (of_decide_eq_true (by kernel_rfl)) (by unfold Func.isWrapper;first | (rw [if_pos (by decide +kernel)];kernel_rfl) | (rw [if_neg (by decide +kernel)];exact ⟨rfl,rfl⟩))
  (fun os started H enc _ => walkAny_lifted os started H enc)
end Go.Proofs.YtmokcgifknmchaaGreat
