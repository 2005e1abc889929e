/- same and equal (corrielaw10, corrielaw11). -/
import Derived.Test.YtmokcgifknmchaaGreatMRS
import Derived.Test.YtmokcgifknmchaaGreatWalkS
import Derived.Test.YtmokcgifknmchaaGreatMRefW
import Derived.Test.YtmokcgifknmchaaGreatQBox
namespace Go.Proofs.YtmokcgifknmchaaGreat
open Go.ChangeShapes Go.WideShapes Go.ChangeAt Go.RowKit
set_option maxRecDepth 100000
set_option linter.unusedVariables false
theorem peek_v (w:World) (p b:Nat) (ws:List Int) (n i v:Int) (hv:rd ws i = v) (h:Bank w p b ws n):Calls Tryz.prog 23 #[.pointer (some ⟨p,0,none⟩),.int .i64 i] w fun e w' => e = .returned (.int .u64 v) ∧ Grown w w':=by
 rw [← hv];exact Peek_any w p b ws n i h
set_option maxHeartbeats 4000000 in
theorem equal10_at (w:World) (c:Cf) (d:Wd) (ws:List Int) (n:Int) (s:St) (b q cap:Nat) (sl:Sl) (h:WdAt w c d ws n s) (hq:ws.length = q) (hf:q ≤ 1048576) (hc:Holds w b ws) :
  Calls Tryz.prog 34 #[.pointer (some ⟨d.x,0,none⟩),.agg (RwL c b q cap n sl).toArray] w fun e w' => e = .returned (.bool true) ∧ Grown w w':=by
 subst hq
 have HD:=Lib.hid h
 have HC:=Lib.hid hc
 have HW:=Lib.hid (Box.made w (RwL c b ws.length cap n sl) 42)
 have g0:Grown w (w.alloc (.cells (RwL c b ws.length cap n sl).toArray 42)):=by go_grown
 obtain ⟨u,hu⟩:∃ u,w.alloc (.cells (RwL c b ws.length cap n sl).toArray 42) = u:=⟨_,rfl⟩
 rw [hu] at HW g0
 have HG:=Lib.hid g0
 have HU:=Lib.hid hu
 have HDu:=Lib.hid (h.grown g0)
 have HCu:Hid (∀ W,Grown w W → Holds W b ws):=Lib.hid (fun W g => hc.grown g)
 clear h hc g0 hu
 go_enter Tryz.func34,Tryz.ntmps34
 go_wp2_with fail
 rw [HU.out]
 have k5:∀ g:GrW u,g.w.cell? ⟨d.x,5,none⟩ = some (.pointer (some ⟨d.p,0,none⟩)):=GrW.cell HDu.out.k5
 have t6:∀ g:GrW u,g.w.cell? ⟨w.heap.size,6,none⟩ = some (.int .i64 n):=GrW.cell (HW.out.cell 6 _ rfl)
 have t5:∀ g:GrW u,g.w.cell? ⟨w.heap.size,5,none⟩ = some (.slice (some ⟨b,0,none⟩) ws.length cap):=GrW.cell (HW.out.cell 5 _ rfl)
 refine wp_region_grow (by kernel_rfl) (by kernel_rfl) ?_
 repeat (go_big_quiet_step ((first | (go_at_call 17;exact grcall (Steps_at _ d.p d.b ws n (HDu.out.grown (GrW.gr _)).bank)) | (go_at_call 97;exact grcall (cLen_at _ d.p d.b ws n (HDu.out.grown (GrW.gr _)).bank)))))
 refine wpQuiet_nil ?_
 rintro w_1 ⟨⟨_,g1⟩,rfl⟩
 have HG1:=Lib.hid (gtr HG.out g1)
 have HD1:=Lib.hid (HDu.out.grown g1)
 have HW1:=Lib.hid (HW.out.grown g1)
 clear k5 t6 t5 g1
 go_wp2_with fail
 go_loopw [5] (fun s5 wr => ∃ k:Nat,s5 = .int .i64 (k:Int) ∧ k ≤ ws.length ∧ Grown w_1 wr) (fun s5 _ => ws.length - (intOf s5).toNat)
 case atStart => exact ⟨0,rfl,Nat.zero_le _,Grown.refl _⟩
 case round =>
  obtain ⟨k,rfl,hk,hg⟩:=hrel
  obtain ⟨wo,hwo⟩:∃ x,x = wr:=⟨_,rfl⟩
  subst hwo
  have HDo:=Lib.hid (HD1.out.grown hg)
  have HGo:=Lib.hid (gtr HG1.out hg)
  have Hg:=Lib.hid hg
  have t5:=(HW1.out.grown hg).cell 5 _ rfl
  clear hg
  by_cases hkm:k < ws.length
  ·as_aux_lemma =>
   have hlt:(k:Int) < (ws.length:Int):=by omega
   have hcell:=(HCu.out _ HGo.out) k hkm
   have hrd:rd ws (k:Int) = ws[k]:=by unfold rd;rw [if_pos (by omega)];simp [List.getD,hkm]
   have HR:=Lib.hid hrd
   obtain ⟨v,hv⟩:∃ v,ws[k] = v:=⟨_,rfl⟩
   rw [hv] at hcell HR
   clear hrd hv
   go_wp2_with fail
   have k5:∀ g:GrW wo,g.w.cell? ⟨d.x,5,none⟩ = some (.pointer (some ⟨d.p,0,none⟩)):=GrW.cell HDo.out.k5
   have t5':∀ g:GrW wo,g.w.cell? ⟨w.heap.size,5,none⟩ = some (.slice (some ⟨b,0,none⟩) ws.length cap):=GrW.cell t5
   have tc:∀ g:GrW wo,g.w.cell? ⟨b,k,none⟩ = some (.int .u64 v):=GrW.cell hcell
   refine wp_region_grow (by kernel_rfl) (by kernel_rfl) ?_
   repeat (go_big_quiet_step ((go_at_call 23;exact grcall (peek_v _ d.p d.b ws n (k:Int) v HR.out (HDo.out.grown (GrW.gr _)).bank))))
   refine wpQuiet_nil ?_
   rintro w_2 ⟨⟨_,g2⟩,rfl⟩
   have Hg2:=Lib.hid (gtr Hg.out g2)
   clear k5 t5' tc g2 t5 hcell
   go_wp2_with fail
   exact ⟨⟨k + 1,by simp,hkm,Hg2.out⟩,by simp [intOf];omega⟩
  ·as_aux_lemma =>
   have hlt:¬ (k:Int) < (ws.length:Int):=by omega
   go_wp2_with fail
   go_ret
   exact ⟨rfl,HGo.out⟩
end Go.Proofs.YtmokcgifknmchaaGreat
