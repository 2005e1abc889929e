/- A law of package look holds for every input: each call of the law's function returns true, and its arguments read behind the call as they read before. -/
import Derived.Test.YtcogckjpmmjmbaaGreatQCMBase
import Derived.Test.YtcogckjpmmjmbaaGreatQCPlEnP
import Derived.Test.YtcogckjpmmjmbaaGreatQCGTkA
import Derived.Test.YtcogckjpmmjmbaaGreatQCLookPr
import Derived.ProofKit
import Derived.OpenShut
namespace Go.Proofs.YtcogckjpmmjmbaaGreat
open Go.ChangeShapes Go.WideShapes Go.ChangeAt Go.RowKit
set_option linter.unusedVariables false
set_option maxRecDepth 100000 in
theorem lookPairs_lifted (os:Os) (started:os.Started) (H:Type) (enc:TypeId × Value → H) :
  ReturnsInHanded {} Tryz.checked os 3 .any (Rows.lookPairsSpec.pre6 enc Tryz.prog Tryz.f3 Rows.lookPairsRow.domain false) (Rows.lookPairsSpec.post enc Tryz.prog Tryz.f3 false true false false):=by
 refine returnsInHanded_of_change (C:=Tryz.checked) own started (by kernel_rfl) Tryz.func3
  (ChangeSpec.witness6 (enc:=enc) (C:=Tryz.checked) false ⟨#[],#[.agg #[.int .u8 0,.slice none 0 0,.slice none 0 0],.slice none 0 0],[]⟩ 8 (by kernel_rfl) (by kernel_rfl) (by kernel_rfl) (by kernel_rfl)) ?_
 intro W base args ds gs before hval0 hW hcnd _
 have hval:∀ (j:Nat) t v,Tryz.f3.params[j]? = some t → args[j]? = some v → Value.okWide Tryz.prog W .any base t v:=hval0
 have hW':=hW
 obtain ⟨p,q,hA0,hV,rfl,hfz,hnd⟩:=hW
 have hA:DataW.TrodAll enc Tryz.prog W 0 (fun _ => true) true Tryz.f3.params.toList args.toList ds p:=hA0
 rw [Tryz.params3] at hA hval
 obtain ⟨v0,vs0,d0,ds0,p0,q0,hargs,rfl,rfl,h0,r0⟩:=trodAll_cons hA
 obtain ⟨v1,vs1,d1,ds1,p1,q1,rfl,rfl,rfl,h1,r1⟩:=trodAll_cons r0
 obtain ⟨rfl,rfl,rfl⟩:=trodAll_nil r1
 obtain rfl:args = #[v0,v1]:=by cases args;simp_all
 obtain ⟨f0,vi0,vc0,xs0,cs0,rfl,hf0,hi0,hc0,hw0,hck0⟩:=open_sceneK (hval 0 25 v0 rfl rfl) h0
 obtain ⟨A1,bb1,of1,ln1,cp1,rfl,ha1,hn1⟩:=open_nums (ks:=[.u8,.i64,.u16,.u64,.u64]) Tryz.underlying26 Tryz.underlying48 (by kernel_rfl) (by kernel_rfl) rfl (by kernel_rfl) (by decide) (val_slice Tryz.underlying26 (hval 1 26 v1 rfl rfl)) h1
 refine (law_LookPairs f0 vi0 vc0 xs0 cs0 A1 bb1 of1 ln1 cp1 W hf0 hi0 hc0 hw0 hck0 ha1 hn1).mono fun e W' ⟨he,hg⟩ => ?_
 subst he
 exact ⟨_,rfl,law_post rfl (by kernel_rfl) rfl Tryz.underlying4 hW' rfl hg⟩
theorem lookPairs_proved:Rows.LookPairsSaid :=
 OpenClaim.holds_of_wide 3 Tryz.f3 rfl rfl rfl rfl rfl rfl rfl ⟨rfl,rfl,rfl,rfl,rfl⟩ rfl rfl rfl rfl rfl (by kernel_rfl) Tryz.func3 (by kernel_rfl)
  (of_decide_eq_true (by kernel_rfl)) (by unfold Func.isWrapper;first | (rw [if_pos (by decide +kernel)];kernel_rfl) | (rw [if_neg (by decide +kernel)];exact ⟨rfl,rfl⟩))
  (fun os started H enc _ => lookPairs_lifted os started H enc)
end Go.Proofs.YtcogckjpmmjmbaaGreat
