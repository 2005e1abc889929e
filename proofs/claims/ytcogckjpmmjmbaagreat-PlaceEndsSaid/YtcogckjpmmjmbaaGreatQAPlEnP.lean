/- A law of package place holds for every input: each call of the law's function returns true, and its arguments read behind the call as they read before. -/
import Derived.Test.YtcogckjpmmjmbaaGreatQAMBase
import Derived.Test.YtcogckjpmmjmbaaGreatQAGTkA
import Derived.ProofKit
import Derived.OpenShut
namespace Go.Proofs.YtcogckjpmmjmbaaGreat
open Go.ChangeShapes Go.WideShapes Go.ChangeAt Go.RowKit
set_option linter.unusedVariables false
theorem own:ownKnob Tryz.prog.godebug = none:=by kernel_rfl
set_option maxRecDepth 100000 in
theorem placeEnds_lifted (os:Os) (started:os.Started) (H:Type) (enc:TypeId × Value → H) :
  ReturnsInHanded {} Tryz.checked os 7 .any (Rows.placeEndsSpec.pre6 enc Tryz.prog Tryz.f7 Rows.placeEndsRow.domain false) (Rows.placeEndsSpec.post enc Tryz.prog Tryz.f7 false true false false):=by
 refine returnsInHanded_of_change (C:=Tryz.checked) own started (by kernel_rfl) Tryz.func7
  (ChangeSpec.witness6 (enc:=enc) (C:=Tryz.checked) false ⟨#[],#[.agg #[.int .u8 0,.slice none 0 0,.slice none 0 0],.int .u8 0],[]⟩ 8 (by kernel_rfl) (by kernel_rfl) (by kernel_rfl) (by kernel_rfl)) ?_
 intro W base args ds gs before hval0 hW hcnd _
 have hval:∀ (j:Nat) t v,Tryz.f7.params[j]? = some t → args[j]? = some v → Value.okWide Tryz.prog W .any base t v:=hval0
 have hW':=hW
 obtain ⟨p,q,hA0,hV,rfl,hfz,hnd⟩:=hW
 have hA:DataW.TrodAll enc Tryz.prog W 0 (fun _ => true) true Tryz.f7.params.toList args.toList ds p:=hA0
 rw [Tryz.params7] at hA hval
 obtain ⟨v0,vs0,d0,ds0,p0,q0,hargs,rfl,rfl,h0,r0⟩:=trodAll_cons hA
 obtain ⟨v1,vs1,d1,ds1,p1,q1,rfl,rfl,rfl,h1,r1⟩:=trodAll_cons r0
 obtain ⟨rfl,rfl,rfl⟩:=trodAll_nil r1
 obtain rfl:args = #[v0,v1]:=by cases args;simp_all
 obtain ⟨f0,vi0,vc0,xs0,cs0,rfl,hf0,hi0,hc0,hw0,hck0⟩:=open_sceneK (hval 0 25 v0 rfl rfl) h0
 obtain ⟨a1,rfl,w1⟩:=val_int Tryz.underlying5 (hval 1 5 v1 rfl rfl)
 obtain ⟨l1,u1⟩:=has_u8 w1
 refine (law_PlaceEnds f0 vi0 vc0 xs0 cs0 a1 W hf0 hi0 hc0 hw0 hck0 l1 u1).mono fun e W' ⟨he,hg⟩ => ?_
 subst he
 exact ⟨_,rfl,law_post rfl (by kernel_rfl) rfl Tryz.underlying4 hW' rfl hg⟩
theorem placeEnds_proved:Rows.PlaceEndsSaid :=
 OpenClaim.holds_of_wide 7 Tryz.f7 rfl rfl rfl rfl rfl rfl rfl ⟨rfl,rfl,rfl,rfl,rfl⟩ rfl rfl rfl rfl rfl (by kernel_rfl) Tryz.func7 (by kernel_rfl)
  (of_decide_eq_true (by kernel_rfl)) (by unfold Func.isWrapper;first | (rw [if_pos (by decide +kernel)];kernel_rfl) | (rw [if_neg (by decide +kernel)];exact ⟨rfl,rfl⟩))
  (fun os started H enc _ => placeEnds_lifted os started H enc)
end Go.Proofs.YtcogckjpmmjmbaaGreat
