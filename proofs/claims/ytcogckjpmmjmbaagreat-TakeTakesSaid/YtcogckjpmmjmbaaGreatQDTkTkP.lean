/- A law of package take holds for every input: each call of the law's function returns true, and its arguments read behind the call as they read before. -/
import Derived.Test.YtcogckjpmmjmbaaGreatQDMBase
import Derived.Test.YtcogckjpmmjmbaaGreatQDPlEnP
import Derived.Test.YtcogckjpmmjmbaaGreatQDGTkF
import Derived.Test.YtcogckjpmmjmbaaGreatQDTkTk
import Derived.ProofKit
import Derived.OpenShut
namespace Go.Proofs.YtcogckjpmmjmbaaGreat
open Go.ChangeShapes Go.WideShapes Go.ChangeAt Go.RowKit
set_option linter.unusedVariables false
set_option maxRecDepth 100000 in
theorem takeTakes_lifted (os:Os) (started:os.Started) (H:Type) (enc:TypeId × Value → H) :
  ReturnsInHanded {} Tryz.checked os 11 .any (Rows.takeTakesSpec.pre6 enc Tryz.prog Tryz.f11 Rows.takeTakesRow.domain false) (Rows.takeTakesSpec.post enc Tryz.prog Tryz.f11 false true false false):=by
 refine returnsInHanded_of_change (C:=Tryz.checked) own started (by kernel_rfl) Tryz.func11
  (ChangeSpec.witness6 (enc:=enc) (C:=Tryz.checked) false ⟨#[],#[.agg #[.int .u8 0,.slice none 0 0,.slice none 0 0],.bool false],[]⟩ 8 (by kernel_rfl) (by kernel_rfl) (by kernel_rfl) (by kernel_rfl)) ?_
 intro W base args ds gs before hval0 hW hcnd _
 have hval:∀ (j:Nat) t v,Tryz.f11.params[j]? = some t → args[j]? = some v → Value.okWide Tryz.prog W .any base t v:=hval0
 have hW':=hW
 obtain ⟨p,q,hA0,hV,rfl,hfz,hnd⟩:=hW
 have hA:DataW.TrodAll enc Tryz.prog W 0 (fun _ => true) true Tryz.f11.params.toList args.toList ds p:=hA0
 rw [Tryz.params11] at hA hval
 obtain ⟨v0,vs0,d0,ds0,p0,q0,hargs,rfl,rfl,h0,r0⟩:=trodAll_cons hA
 obtain ⟨v1,vs1,d1,ds1,p1,q1,rfl,rfl,rfl,h1,r1⟩:=trodAll_cons r0
 obtain ⟨rfl,rfl,rfl⟩:=trodAll_nil r1
 obtain rfl:args = #[v0,v1]:=by cases args;simp_all
 obtain ⟨f0,vi0,vc0,xs0,cs0,rfl,hf0,hi0,hc0,hw0,hck0⟩:=open_sceneK (hval 0 25 v0 rfl rfl) h0
 obtain ⟨a1,rfl⟩:=val_bool Tryz.underlying4 (hval 1 4 v1 rfl rfl)
 refine (law_TakeTakes f0 vi0 vc0 xs0 cs0 a1 W hf0 hi0 hc0 hw0 hck0).mono fun e W' ⟨he,hg⟩ => ?_
 subst he
 exact ⟨_,rfl,law_post rfl (by kernel_rfl) rfl Tryz.underlying4 hW' rfl hg⟩
theorem takeTakes_proved:Rows.TakeTakesSaid :=
 OpenClaim.holds_of_wide 11 Tryz.f11 rfl rfl rfl rfl rfl rfl rfl ⟨rfl,rfl,rfl,rfl,rfl⟩ rfl rfl rfl rfl rfl (by kernel_rfl) Tryz.func11 (by kernel_rfl)
  (of_decide_eq_true (by kernel_rfl)) (by unfold Func.isWrapper;first | (rw [if_pos (by decide +kernel)];kernel_rfl) | (rw [if_neg (by decide +kernel)];exact ⟨rfl,rfl⟩))
  (fun os started H enc _ => takeTakes_lifted os started H enc)
end Go.Proofs.YtcogckjpmmjmbaaGreat
