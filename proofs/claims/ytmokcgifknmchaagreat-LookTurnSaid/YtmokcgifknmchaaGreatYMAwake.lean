/- Why keys rise in a world that is sound, and why there are few pairs. -/
import Derived.Test.YtmokcgifknmchaaGreatYLaid
import Derived.Test.YtmokcgifknmchaaGreatMRS
import Derived.Test.YtmokcgifknmchaaGreatMBkRefB
import Derived.Test.YtmokcgifknmchaaGreatMRefW
import Derived.Test.YtmokcgifknmchaaGreatLaid
import Derived.Test.YtmokcgifknmchaaGreatMWRefB
import Derived.Test.YtmokcgifknmchaaGreatMAwake
import Derived.Test.YtmokcgifknmchaaGreatMSound
import Derived.Test.YtmokcgifknmchaaGreatMScene
namespace Go.Proofs.YtmokcgifknmchaaGreat
open Go.ChangeShapes Go.WideShapes Go.ChangeAt Go.RowKit
set_option maxRecDepth 100000
set_option linter.unusedVariables false
theorem nodup_le:∀ (l m:List Int),l.Nodup → (∀ x ∈ l,x ∈ m) → l.length ≤ m.length
 | [],m,_,_ => Nat.zero_le _
 | x :: r,m,hn,hm => by
  have hx:x ∈ m:=hm x (by simp)
  have h1:=nodup_le r (m.erase x) (List.nodup_cons.1 hn).2 (fun y hy => (List.mem_erase_of_ne (fun (e:y = x) => (List.nodup_cons.1 hn).1 (e ▸ hy))).2 (hm y (by simp [hy])))
  rw [List.length_erase_of_mem hx] at h1
  have:=List.length_pos_of_mem hx
  simp only [List.length_cons]
  omega
theorem foldN_few {c:Cf} {ws:List Int} {s:St}:∀ (l:List Int) {acc:List Int × List (Int × Int)},FewOk s acc → FewOk s (foldN c ws s l acc)
 | [],_,h => h
 | i :: r,_,h => foldN_few r (h.step i)
theorem raw_few (c:Cf) (ws:List Int) (s:St):(rawP c ws s).length ≤ s.ops.length:=by
 have h:FewOk s (foldN c ws s (nodesTo c ws c.b) ([],[])):=foldN_few _ ⟨by simp,rfl,by simp⟩
 unfold rawP
 rw [h.len]
 have:=nodup_le _ _ h.nd h.ops
 simpa using this
end Go.Proofs.YtmokcgifknmchaaGreat
namespace Go.Proofs.YtmokcgifknmchaaGreat
open Go.ChangeShapes Go.WideShapes Go.ChangeAt Go.RowKit
set_option maxRecDepth 100000
set_option linter.unusedVariables false
def xs9:List It:=[⟨4,9,1,false,false⟩,⟨2,0,0,false,false⟩]
def aw9:Ly:=layL (c9 0) (sortedI xs9)
theorem aw9_chain:chainI (c9 0) aw9.ws 0 = [2,3]:=by decide +kernel
theorem aw9_chain1:chainI (c9 0) aw9.ws 1 = []:=by decide +kernel
theorem aw9_raw:rawP (c9 0) aw9.ws aw9.s = [(4,9)]:=by decide +kernel
theorem aw9_sound:sndTo (c9 0) aw9.ws aw9.s (c9 0).b = true:=by decide +kernel
set_option maxHeartbeats 4000000 in
theorem awake_at (w:World):Calls Tryz.prog 12 #[] w fun e w' => e = .returned (.bool true) ∧ Grown w w':=by
 have HW:Hid (∀ x ∈ xs9,0 ≤ x.word ∧ x.word ≤ 18446744073709551615):=Lib.hid (by unfold xs9;simp)
 have HLk:Hid (LyOk (c9 0) aw9 2):=Lib.hid (by
  have:=layL_ok (c9 0) (sortedI xs9) (fun x hx => by obtain ⟨y,hy,he⟩:=sortedI_word hx;rw [he];exact HW.out y hy) 2 (by decide +kernel)
  rwa [List.take_of_length_le (by decide +kernel)] at this)
 have HC0:=Lib.hid aw9_chain
 have HC1:=Lib.hid aw9_chain1
 have HP:=Lib.hid aw9_raw
 have HS:=Lib.hid aw9_sound
 go_enter Tryz.func12,Tryz.ntmps12
 go_wp2_with fail
 have hgr:Grown w (w.alloc (.cells (flatI xs9).toArray 103)):=by go_grown
 have hlay:=lay_at (w.alloc (.cells (flatI xs9).toArray 103)) 0 (by omega) (.slice (some ⟨w.heap.size,0,none⟩) 2 2) (.slice none 0 0) xs9 [] ⟨some ⟨w.heap.size,0,none⟩,w.heap.size,0,2,rfl,fun _ => rfl,fun j u hj => by rw [Nat.zero_add,World.cell?_alloc_new];simpa using hj⟩ ⟨none,0,0,0,rfl,fun h => absurd h (by decide),fun j u hj => by cases hj⟩ (by decide) (by decide) HW.out aw9 rfl aw9.s rfl
 change Calls _ _ #[.agg #[.int .u8 0,_,_]] _ _ at hlay
 have HLay:=Lib.hid hlay
 clear hlay
 refine HLay.out.mono ?_;rintro e w1 ⟨d,rfl,g1,h1,f1⟩
 have HD:=Lib.hid h1
 have G1:=Lib.hid (gtr hgr g1)
 clear HLay h1 f1 g1 hgr
 go_wp2_with fail
 refine (Chain_at _ _ d _ _ _ HD.out HLk.out.inv HLk.out.wok 0).mono ?_;rintro e w2 ⟨v,rfl,fl,-,g2⟩
 rw [HC0.out] at fl
 rcases fl with ⟨h0,-⟩ | ⟨-,gl,cl,rfl,-,kl⟩
 ·cases h0
 go_wp2_with fail
 refine (Pairs_at _ _ d _ _ _ (HD.out.grown g2) HLk.out.inv HLk.out.wok (by rw [HP.out];decide)).mono ?_;rintro e w3 ⟨v,rfl,fp,g3⟩
 rw [HP.out] at fp
 rcases fp with ⟨h0,-⟩ | ⟨-,gp,cp,rfl,-,kp⟩
 ·cases h0
 have e0:w3.cell? ⟨gl,0,none⟩ = some (.int .i64 2):=gcell g3 (kl 0 _ rfl)
 have e1:w3.cell? ⟨gl,1,none⟩ = some (.int .i64 3):=gcell g3 (kl 1 _ rfl)
 have e2:w3.cell? ⟨gp,0,none⟩ = some (.int .u64 4):=kp 0 _ rfl
 have e3:w3.cell? ⟨gp,1,none⟩ = some (.int .u64 9):=kp 1 _ rfl
 have H3:=Lib.hid (HD.out.grown (gtr g2 g3))
 have G3:=Lib.hid (gtr G1.out (gtr g2 g3))
 clear kl kp g2 g3
 simp only [List.length_cons,List.length_nil,sortP,List.foldl_cons,List.foldl_nil,insP]
 go_wp2_with fail
 refine (Sound_at _ _ d _ _ _ H3.out HLk.out.inv HLk.out.wok).mono ?_;rintro e w4 ⟨rfl,g4⟩
 rw [HS.out]
 clear e0 e1 e2 e3
 go_wp2_with fail
 refine (Chain_at _ _ d _ _ _ (H3.out.grown g4) HLk.out.inv HLk.out.wok 1).mono ?_;rintro e w5 ⟨v,rfl,fl,-,g5⟩
 rw [HC1.out] at fl
 rcases fl with ⟨-,-,rfl⟩ | ⟨h0,-⟩
 ·go_wp2_with fail
  go_ret
  exact ⟨rfl,gtr G3.out (gtr g4 g5)⟩
 ·cases h0
end Go.Proofs.YtmokcgifknmchaaGreat
namespace Go.Proofs.YtmokcgifknmchaaGreat
open Go.ChangeShapes Go.WideShapes Go.ChangeAt Go.RowKit
set_option maxRecDepth 100000
set_option linter.unusedVariables false
end Go.Proofs.YtmokcgifknmchaaGreat
