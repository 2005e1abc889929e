/- What is written down: that it keeps to its numbers, and stays. -/
import Derived.Test.YtmokcgifknmchaaGreatMBook
import Derived.Test.YtmokcgifknmchaaGreatMBase
import Derived.Deep.Slices
import Derived.Deep.Fields
namespace Go.Proofs.YtmokcgifknmchaaGreat
open Go.ChangeShapes Go.WideShapes Go.ChangeAt Go.RowKit
set_option maxRecDepth 100000
set_option linter.unusedVariables false
theorem look_none_not {α:Type}:∀ {l:List (Nat × α)} {n:Nat},look l n = none → n ∉ l.map (·.1)
 | [],n,_ => by simp
 | (m,y) :: r,n,h => by
  simp only [look] at h
  split at h
  ·cases h
  ·rename_i hm
   simp only [List.map_cons,List.mem_cons,not_or]
   exact ⟨fun e => hm e.symm,look_none_not h⟩
theorem nodup_app {α:Type} {l:List (Nat × α)} {n:Nat} {y:α} (h:(l.map (·.1)).Nodup) (hn:look l n = none):((l ++ [(n,y)]).map (·.1)).Nodup:=by
 rw [List.map_append]
 refine List.nodup_append.2 ⟨h,by simp,fun a ha b hb => ?_⟩
 simp only [List.map_cons,List.map_nil,List.mem_cons,List.not_mem_nil,or_false] at hb
 subst hb
 rintro rfl
 exact look_none_not hn ha
theorem at_bump_le {l:List Nat} {h:Nat} (hl:h < l.length) (j:Nat):at_ l j ≤ at_ (bump l h) j:=by
 rw [at_bump hl];split
 ·subst_vars;omega
 ·exact Nat.le_refl _
theorem Inv.beginS {c:Cf} {s:St} (h:Inv c s) {i:Nat} (hi:i < c.t) (x:Cal):Inv c (beginS c s i x).1:=by
 have l1:=h.l1
 have l2:=h.l2
 have hb1:=h.b1 i hi
 have hb2:=h.b2 i hi
 unfold Proofs.YtmokcgifknmchaaGreat.beginS
 split
 ·exact h
 ·rename_i e1
  have calls:∀ j,j < c.t → at_ (bump s.calls i) j ≤ c.k:=fun j hj => by
   rw [at_bump (by omega)];split
   ·omega
   ·exact h.b1 j hj
  have ops1:∀ y ∈ s.ops,∃ q m,q < c.t ∧ m < at_ (bump s.calls i) q ∧ y.1 = q * c.k + m:=fun y hy => by
   obtain ⟨q,m,hq,hm,he⟩:=h.k1 y hy
   exact ⟨q,m,hq,Nat.lt_of_lt_of_le hm (at_bump_le (by omega) q),he⟩
  split
  ·exact ⟨by simp [length_bump,l1],h.l2,h.l3,calls,h.b2,h.b3,ops1,h.k2,h.d1,h.d2⟩
  ·rename_i e2
   have hnew:=h.newOp hi (by omega)
   refine ⟨by simp [length_bump,l1],?_,h.l3,calls,?_,h.b3,?_,h.k2,nodup_app h.d1 hnew,h.d2⟩
   ·show (if x.kind = 1 then bump s.ins i else s.ins).length = c.t
    split
    ·rw [length_bump];exact l2
    ·exact l2
   ·intro j hj
    show at_ (if x.kind = 1 then bump s.ins i else s.ins) j ≤ c.i
    split
    ·rename_i hk
     rw [at_bump (by omega)];split
     ·have:¬ at_ s.ins i = c.i:=fun e => e2 ⟨hk,e⟩
      omega
     ·exact h.b2 j hj
    ·exact h.b2 j hj
   ·intro y hy
    rcases List.mem_append.1 hy with hy | hy
    ·exact ops1 y hy
    ·simp only [List.mem_cons,List.not_mem_nil,or_false] at hy
     subst hy
     exact ⟨i,at_ s.calls i,hi,by rw [at_bump (by omega),if_pos rfl];omega,rfl⟩
theorem Inv.beginI {c:Cf} {s:St} (h:Inv c s) (th:Int) (x:Cal):Inv c (beginI c s th x).1:=by
 unfold Proofs.YtmokcgifknmchaaGreat.beginI
 split
 ·exact h
 ·exact h.beginS (by omega) x
theorem Inv.makeS {c:Cf} {s:St} (h:Inv c s) {i:Nat} (hi:i < c.t) (op:Nat):Inv c (makeS c s i op).1:=by
 have l3:=h.l3
 have hb3:=h.b3 i hi
 unfold Proofs.YtmokcgifknmchaaGreat.makeS
 split
 ·exact h
 ·rename_i e1
  have hnew:=h.newNode hi (by omega)
  refine ⟨h.l1,h.l2,by simp [length_bump,l3],h.b1,h.b2,fun j hj => ?_,h.k1,fun y hy => ?_,h.d1,nodup_app h.d2 hnew⟩
  ·show at_ (bump s.made i) j ≤ 2 * c.k
   rw [at_bump (by omega)];split
   ·omega
   ·exact h.b3 j hj
  ·rcases List.mem_append.1 hy with hy | hy
   ·obtain ⟨q,m,hq,hm,he⟩:=h.k2 y hy
    exact ⟨q,m,hq,Nat.lt_of_lt_of_le hm (at_bump_le (by omega) q),he⟩
   ·simp only [List.mem_cons,List.not_mem_nil,or_false] at hy
    subst hy
    exact ⟨i,at_ s.made i,hi,by show at_ s.made i < at_ (bump s.made i) i;rw [at_bump (by omega),if_pos rfl];omega,rfl⟩
theorem Inv.makeI {c:Cf} {s:St} (h:Inv c s) (th op:Int):Inv c (makeI c s th op).1:=by
 unfold Proofs.YtmokcgifknmchaaGreat.makeI
 split
 ·exact h
 ·exact h.makeS (by omega) _
theorem begin_len (c:Cf) (s:St) (th:Int) (x:Cal):(beginI c s th x).1.ops.length ≤ s.ops.length + 1 ∧ (beginI c s th x).1.nodes.length = s.nodes.length:=by
 unfold beginI beginS
 split
 ·exact ⟨Nat.le_succ _,rfl⟩
 ·split
  ·exact ⟨Nat.le_succ _,rfl⟩
  ·split
   ·exact ⟨by simp,rfl⟩
   ·exact ⟨by simp,rfl⟩
theorem make_len (c:Cf) (s:St) (th op:Int):(makeI c s th op).1.ops.length = s.ops.length ∧ (makeI c s th op).1.nodes.length ≤ s.nodes.length + 1:=by
 unfold makeI makeS
 split
 ·exact ⟨rfl,Nat.le_succ _⟩
 ·split
  ·exact ⟨rfl,Nat.le_succ _⟩
  ·exact ⟨rfl,by simp⟩
def Stays (s s':St):Prop:=(∀ n x,look s.ops n = some x → look s'.ops n = some x) ∧ ∀ n x,look s.nodes n = some x → look s'.nodes n = some x
theorem look_stays {α:Type} (l:List (Nat × α)) (y:Nat × α) (n:Nat) (x:α) (h:look l n = some x):look (l ++ [y]) n = some x:=by rw [look_app,h];rfl
theorem Stays.refl (s:St):Stays s s:=⟨fun _ _ h => h,fun _ _ h => h⟩
theorem Stays.trans {a b c:St} (h:Stays a b) (k:Stays b c):Stays a c:=⟨fun n x q => k.1 n x (h.1 n x q),fun n x q => k.2 n x (h.2 n x q)⟩
end Go.Proofs.YtmokcgifknmchaaGreat
namespace Go.Proofs.YtmokcgifknmchaaGreat
open Go.ChangeShapes Go.WideShapes Go.ChangeAt Go.RowKit Go.Deep
set_option maxRecDepth 100000
def NumsAt (w:World) (bb off len:Nat) (ks:List IntKind):Prop :=
 ∀ i,i < len → ∀ (j:Nat) (k:IntKind),ks[j]? = some k → ∃ n,w.cell? ⟨bb,off + (i * ks.length + j),none⟩ = some (.int k n) ∧ k.has n
theorem add_none (bb off n:Nat):(⟨bb,off,none⟩:Addr).add n = ⟨bb,off + n,none⟩:=by
 unfold Addr.add
 split
 ·rename_i h;have h':n = 0:=by simpa using h
  subst h';rfl
 ·rfl
theorem open_nums {H:Type} {enc:TypeId × Value → H} {P:Program} {w:World} {base:Nat} {spare:Nat → Bool} {held:Bool} {t e:TypeId} {v:Value} {d:DataW H} {p:List MemPlace} {fs:Array Field} {ks:List IntKind}
  (ht:P.underlying t = some (.slice e)) (he:P.underlying e = some (.struct fs)) (hone:oneCellFields P fs = true) (hC:P.cellsOf e = fs.size) (hl:fs.size = ks.length)
  (hks:fs.toList.map (fun f => P.underlying f.type) = ks.map (fun k => some (.int k))) (h0:0 < ks.length)
  (hs:∃ A len cap,v = .slice A len cap) (h:DataW.Trod enc P w base spare held t v d p) :
  ∃ (A:Option Addr) (bb off len cap:Nat),v = .slice A len cap ∧ (0 < len → A = some ⟨bb,off,none⟩) ∧ NumsAt w bb off len ks:=by
 have hk:∀ (j:Nat) (f:Field) (k:IntKind),fs[j]? = some f → ks[j]? = some k → P.underlying f.type = some (.int k):=by
  intro j f k hf hk
  have:=congrArg (fun l => l[j]?) hks
  simpa [hf,hk] using this
 obtain ⟨A0,l0,c0,rfl⟩:=hs
 obtain ⟨fuel,hf⟩:=h
 rcases open_slice ht hf with ⟨hcs,_⟩ | ⟨a,len,cap,m,n,D,Pl,hcs,hb,hlc,hcm,hm,hx,hi⟩
 ·have:(Value.slice A0 l0 c0) = .slice none 0 0:=by simpa [Value.cells] using hcs
  exact ⟨none,0,0,0,0,this,fun h => absurd h (by omega),fun i hi => absurd hi (by omega)⟩
 ·have hv:(Value.slice A0 l0 c0) = .slice (some a) len cap:=by simpa [Value.cells] using hcs
  have hlm:len ≤ m:=by rw [hm];split <;> omega
  have key:∀ i,i < len → ∀ (j:Nat) (k:IntKind),ks[j]? = some k → ∃ n,w.cell? (a.add (i * ks.length + j)) = some (.int k n) ∧ k.has n:=by
   intro i hil j k hjk
   obtain ⟨cs',h1,h2⟩:=hi i (by omega)
   obtain ⟨xs,n',-,-,-,hxl,hfld⟩:=DataW.trod_struct he h2
   obtain ⟨-,hlen,hat⟩:=World.cells?_some h1
   have hj:j < ks.length:=(List.getElem?_eq_some_iff.1 hjk).1
   have hjf:j < fs.size:=by omega
   have hfj:fs[j]? = some fs[j]:=Array.getElem?_eq_getElem hjf
   obtain ⟨ho,hc1⟩:=hone_of hone j _ hfj
   have h3:=hfld j _ hfj
   have hxs:xs[j]? = some (xs[j]'(by omega)):=List.getElem?_eq_getElem (by omega)
   rw [hxs] at h3
   obtain ⟨n,hn,-,hw⟩:=DataW.trod_int (hk j _ k hfj hjk) h3
   have hcell:=hat j (by omega)
   have hj':cs'[j]? = some (.int k n):=by
    rw [ho,hc1] at hn
    have:=congrArg (fun l => l[0]?) hn
    simpa using this
   refine ⟨n,?_,by simpa [Lit.wf,IntKind.has] using hw⟩
   have hadd:(a.add (i * P.cellsOf e)).add j = a.add (i * ks.length + j):=by
    rw [hC,hl]
    unfold Addr.add
    by_cases z1:i * ks.length = 0 <;> by_cases z2:j = 0 <;> simp [z1,z2,Nat.add_assoc]
   rw [hadd] at hcell
   rw [hcell,hj']
  have spot:0 < len → a = ⟨a.block,a.off,none⟩:=fun hpos => by
   obtain ⟨n,hn,-⟩:=key 0 hpos 0 _ (List.getElem?_eq_getElem h0)
   obtain ⟨_,_,_,_,hsp⟩:=World.shape?_of_cell? hn
   have:a.spot = none:=by simpa [Addr.add] using hsp
   cases a;simp_all
  refine ⟨some a,a.block,a.off,len,cap,hv,fun hpos => congrArg some (spot hpos),fun i hil j k hjk => ?_⟩
  obtain ⟨n,hn,hw⟩:=key i hil j k hjk
  rw [spot (by omega),add_none] at hn
  exact ⟨n,hn,hw⟩
theorem val_slice {P:Program} {w:World} {r:Reach} {b:Nat} {t e:TypeId} {v:Value} (ht:P.underlying t = some (.slice e)) (h:Value.okWide P w r b t v):∃ A len cap,v = .slice A len cap:=by
 unfold Value.okWide at h
 rw [ht] at h
 unfold Cell.okWide at h
 rw [ht] at h
 cases v <;> simp_all [Cell.ok]
end Go.Proofs.YtmokcgifknmchaaGreat
