/- A scene: its layout, and what is laid in it (corrieref09). -/
import Derived.Test.YtagapfejgmmppaaGreatSorted
import Derived.Test.YtagapfejgmmppaaGreatBookInv
import Derived.Test.YtagapfejgmmppaaGreatRefLaws
namespace Go.Proofs.YtagapfejgmmppaaGreat
open Go.ChangeShapes Go.WideShapes Go.ChangeAt Go.RowKit
set_option maxRecDepth 100000
set_option linter.unusedVariables false

def c9 (f : Nat) : Cf := ⟨3, 1, 16, f, 16⟩
theorem c9_ok {f : Nat} (h : f ≤ 255) : (c9 f).Ok := by
  refine cf_ok (zOk_spec.2 ?_)
  simp only [c9]
  refine ⟨by omega, by omega, by unfold Pow2; decide, by omega, by omega, by omega, by omega, by omega, by omega⟩
def SceneV (f : Nat) (vi vc : Value) : Value := .agg #[.int .u8 (f : Int), vi, vc]
theorem Conf9_at (w : World) (f : Nat) (hf : f ≤ 255) (vi vc : Value) : Calls Tryz.prog 27 #[.agg #[.int .u8 (f : Int), vi, vc]] w fun e w' => e = .returned (c9 f).v ∧ Grown w w' := by
  have hw : IntKind.i64.wrap (f : Int) = (f : Int) := by unfold IntKind.wrap; simp [IntKind.bits]; omega
  go_enter Tryz.func27, Tryz.ntmps27
  have e0 := (Box.made w [.int .u8 (f : Int), vi, vc] 25).cell 0 _ rfl
  go_wp2_with fail
  exact bodyPost_ret (v := (c9 f).v) (by simp [results, Tryz.results27, go_sem, Cf.v, c9]) rfl ⟨rfl, by go_grown⟩
def Cal.l (x : Cal) : List Value := [.int .i64 x.kind, .int .u64 x.key, .int .u64 x.val, .int .i64 x.lim]
def flatK (xs : List Cal) : List Value := xs.flatMap Cal.l
theorem flatK_len (ps : List Cal) : (flatK ps).length = ps.length * 4 := by
  induction ps with
  | nil => rfl
  | cons x r ih => simp only [flatK, Cal.l, List.flatMap_cons, List.length_append, List.length_cons, List.length_nil] at ih ⊢; omega
theorem flatK_0 {ps : List Cal} {j : Nat} {x : Cal} (h : ps[j]? = some x) : (flatK ps)[j * 4]? = some (.int .i64 x.kind) := flat_at (k := 4) (o := 0) (fun _ => rfl) (by decide) ps j x h
theorem flatK_1 {ps : List Cal} {j : Nat} {x : Cal} (h : ps[j]? = some x) : (flatK ps)[j * 4 + 1]? = some (.int .u64 x.key) := flat_at (k := 4) (o := 1) (fun _ => rfl) (by decide) ps j x h
theorem flatK_2 {ps : List Cal} {j : Nat} {x : Cal} (h : ps[j]? = some x) : (flatK ps)[j * 4 + 2]? = some (.int .u64 x.val) := flat_at (k := 4) (o := 2) (fun _ => rfl) (by decide) ps j x h
theorem flatK_3 {ps : List Cal} {j : Nat} {x : Cal} (h : ps[j]? = some x) : (flatK ps)[j * 4 + 3]? = some (.int .i64 x.lim) := flat_at (k := 4) (o := 3) (fun _ => rfl) (by decide) ps j x h

/-- What is laid. -/
structure Ly where
  ws : List Int
  n : Int
  s : St
  at_ : Int
  op : Int
def lyA (c : Cf) (L : Ly) (x : It) : Ly :=
  { L with s := (beginI c L.s 0 ⟨1, x.key, x.val, 0⟩).1, op := ((beginI c L.s 0 ⟨1, x.key, x.val, 0⟩).2.1 : Nat), ws := sw L.ws (wrdI c ((beginI c L.s 0 ⟨1, x.key, x.val, 0⟩).2.1 : Nat)) 0 x.word, n := L.n + cnt L.ws (wrdI c ((beginI c L.s 0 ⟨1, x.key, x.val, 0⟩).2.1 : Nat)) }
def lyW (c : Cf) (L : Ly) (nd : Int) : List Int := wr L.ws (nxtI c L.at_) (zPack nd (rd L.ws L.at_ % 2 == 1))
def lyB (c : Cf) (L : Ly) (x : It) : Ly :=
  ⟨wr (lyW c L ((makeI c L.s 0 L.op).2.1 : Nat)) (nxtI c ((makeI c L.s 0 L.op).2.1 : Nat)) (zPack 0 x.mark), L.n + cnt L.ws (nxtI c L.at_) + cnt (lyW c L ((makeI c L.s 0 L.op).2.1 : Nat)) (nxtI c ((makeI c L.s 0 L.op).2.1 : Nat)), (makeI c L.s 0 L.op).1, ((makeI c L.s 0 L.op).2.1 : Nat), L.op⟩
def lyI (c : Cf) (L : Ly) (x : It) : Ly := lyB c (if x.again = true then L else lyA c L x) x
def ly0 (c : Cf) : Ly := ⟨List.replicate c.len 0, 0, St.new c, 1, 0⟩
def layL (c : Cf) (xs : List It) : Ly := xs.foldl (lyI c) (ly0 c)
def lyC (c : Cf) (s : St) (xs : List Cal) : St := xs.foldl (fun s x => (beginI c s 2 x).1) s
theorem layL_step {c : Cf} {xs : List It} {k : Nat} {x : It} (h : xs[k]? = some x) : layL c (xs.take (k + 1)) = lyI c (layL c (xs.take k)) x := by rw [List.take_add_one, h]; simp [layL]
theorem lyC_step {c : Cf} {s : St} {xs : List Cal} {k : Nat} {x : Cal} (h : xs[k]? = some x) : lyC c s (xs.take (k + 1)) = (beginI c (lyC c s (xs.take k)) 2 x).1 := by rw [List.take_add_one, h]; simp [lyC]

theorem cnt_le (ws : List Int) (i : Int) : 0 ≤ cnt ws i ∧ cnt ws i ≤ 1 := by unfold cnt; split <;> omega
theorem zPack_le (n : Int) (m : Bool) : 0 ≤ zPack n m ∧ zPack n m ≤ 18446744073709551615 := by
  unfold zPack
  split
  · split <;> constructor <;> omega
  · constructor <;> omega
theorem WOk.wr {ws : List Int} (h : WOk ws) (i v : Int) (h0 : 0 ≤ v) (h1 : v ≤ 18446744073709551615) : WOk (wr ws i v) := by
  intro j
  have hj := h j
  unfold Go.Proofs.YtagapfejgmmppaaGreat.wr
  split
  · rename_i hi
    unfold rd at hj ⊢
    split
    · rename_i hj0
      rw [if_pos hj0] at hj
      rw [List.getD_eq_getElem?_getD, List.getElem?_set]
      split
      · split
        · exact ⟨h0, h1⟩
        · simp
      · rw [← List.getD_eq_getElem?_getD]; exact hj
    · simp
  · exact hj
theorem WOk.sw {ws : List Int} (h : WOk ws) (i o v : Int) (h0 : 0 ≤ v) (h1 : v ≤ 18446744073709551615) : WOk (sw ws i o v) := by
  unfold Go.Proofs.YtagapfejgmmppaaGreat.sw; split
  · exact h.wr i v h0 h1
  · exact h
theorem make_le {c : Cf} (hok : c.Ok) {s : St} (h : Inv c s) (th op : Int) : (makeI c s th op).2.1 ≤ 9999 := by
  unfold makeI
  split
  · simp
  · rename_i hc
    have ht : th.toNat < c.t := by omega
    unfold makeS
    split
    · simp
    · have h1 := h.b3 th.toNat ht
      have h2 := hok.t8; have h3 := hok.b64; have h4 := hok.tk; have h5 := hok.k2
      have h6 := Nat.mul_le_mul (show th.toNat + 1 ≤ c.t by omega) (Nat.le_refl (2 * c.k))
      rw [Nat.add_mul, Nat.one_mul] at h6
      have h7 : c.t * (2 * c.k) = 2 * (c.t * c.k) := Nat.mul_left_comm _ _ _
      simp only
      generalize th.toNat * (2 * c.k) = p at *
      generalize c.t * (2 * c.k) = q at *
      omega
/-- What holds of what is laid, behind k items. -/
structure LyOk (c : Cf) (L : Ly) (k : Nat) : Prop where
  inv : Inv c L.s
  wok : WOk L.ws
  n0 : 0 ≤ L.n
  n1 : L.n ≤ 3 * k
  ops : L.s.ops.length ≤ k
  nodes : L.s.nodes.length ≤ k
theorem LyOk.zero (c : Cf) : LyOk c (ly0 c) 0 := ⟨Inv.new, fun i => by simp only [ly0]; unfold rd; split <;> simp [List.getD_eq_getElem?_getD, List.getElem?_replicate]; split <;> simp, by simp [ly0], by simp [ly0], by simp [ly0, St.new], by simp [ly0, St.new]⟩
theorem LyOk.step {c : Cf} {L : Ly} {k : Nat} (h : LyOk c L k) {x : It} (h0 : 0 ≤ x.word) (h1 : x.word ≤ 18446744073709551615) : LyOk c (lyI c L x) (k + 1) := by
  have hA : Inv c (if x.again = true then L else lyA c L x).s ∧ WOk (if x.again = true then L else lyA c L x).ws ∧ 0 ≤ (if x.again = true then L else lyA c L x).n ∧ (if x.again = true then L else lyA c L x).n ≤ 3 * k + 1 ∧ (if x.again = true then L else lyA c L x).s.ops.length ≤ k + 1 ∧ (if x.again = true then L else lyA c L x).s.nodes.length ≤ k := by
    have i0 := h.n0; have i1 := h.n1; have i2 := h.ops; have i3 := h.nodes
    split
    · exact ⟨h.inv, h.wok, h.n0, by omega, by omega, h.nodes⟩
    · have b1 := begin_len c L.s 0 ⟨1, x.key, x.val, 0⟩
      have b2 := cnt_le L.ws (wrdI c ((beginI c L.s 0 ⟨1, x.key, x.val, 0⟩).2.1 : Nat))
      exact ⟨h.inv.beginI _ _, h.wok.sw _ _ _ h0 h1, by simp only [lyA]; omega, by simp only [lyA]; omega, by simp only [lyA]; omega, by simp only [lyA]; omega⟩
  unfold lyI
  generalize (if x.again = true then L else lyA c L x) = M at hA
  obtain ⟨a1, a2, a3, a4, a5, a6⟩ := hA
  have m1 := make_len c M.s 0 M.op
  have m2 := cnt_le M.ws (nxtI c M.at_)
  have m3 := cnt_le (lyW c M ((makeI c M.s 0 M.op).2.1 : Nat)) (nxtI c ((makeI c M.s 0 M.op).2.1 : Nat))
  refine ⟨a1.makeI _ _, (a2.wr _ _ (zPack_le _ _).1 (zPack_le _ _).2).wr _ _ (zPack_le _ _).1 (zPack_le _ _).2, by simp only [lyB]; omega, by simp only [lyB]; omega, by simp only [lyB]; omega, by simp only [lyB]; omega⟩
theorem layL_ok (c : Cf) (xs : List It) (h : ∀ x ∈ xs, 0 ≤ x.word ∧ x.word ≤ 18446744073709551615) : ∀ k, k ≤ xs.length → LyOk c (layL c (xs.take k)) k
  | 0, _ => by simpa [layL] using LyOk.zero c
  | k + 1, hk => by
    have hx : xs[k]? = some xs[k] := List.getElem?_eq_getElem (by omega)
    rw [layL_step hx]
    have := h _ (List.mem_of_getElem? hx)
    exact (layL_ok c xs h k (by omega)).step this.1 this.2
/-- The items, sorted, have the words that they had. -/
theorem insI_mem (x : It) : ∀ (l : List It) (y : It), y ∈ insI l x → y = x ∨ y ∈ l
  | [], y => by simp [insI]
  | z :: r, y => by
    unfold insI
    split
    · intro h
      rcases List.mem_cons.1 h with h | h
      · simp [h]
      · rcases insI_mem x r y h with h | h <;> simp [h]
    · intro h
      rcases List.mem_cons.1 h with h | h
      · simp [h]
      · simp only [List.mem_cons] at h ⊢; rcases h with h | h <;> simp [h]
theorem foldI_mem : ∀ (xs l : List It) (y : It), y ∈ xs.foldl insI l → y ∈ xs ∨ y ∈ l
  | [], l, y, h => .inr h
  | x :: r, l, y, h => by
    rcases foldI_mem r _ y h with h | h
    · simp [h]
    · rcases insI_mem x l y h with h | h <;> simp [h]
theorem sortedI_word {xs : List It} {x : It} (h : x ∈ sortedI xs) : ∃ y ∈ xs, x.word = y.word := by
  unfold sortedI at h
  obtain ⟨k, hk⟩ := List.getElem?_of_mem h
  rw [fixTo_get] at hk
  cases hc : (foldI xs)[k]? with
  | none => rw [hc] at hk; cases hk
  | some y =>
    rw [hc] at hk
    simp only [Option.map_some, Option.some.injEq] at hk
    refine ⟨y, ?_, ?_⟩
    · rcases foldI_mem xs [] y (List.mem_of_getElem? hc) with h | h
      · exact h
      · cases h
    · rw [← hk]; split
      · unfold keptI clr; split <;> rfl
      · rfl
theorem sortedI_len (xs : List It) : (sortedI xs).length = xs.length := by unfold sortedI; rw [fixTo_len, foldI_len]

/-- A world whose book was written. -/
theorem WdAt.book' {w w' : World} {c : Cf} {d : Wd} {ws : List Int} {n : Int} {s s' : St} (h : WdAt w c d ws n s) (q : But (Own d.a) w w') (hb : BookAt w' c d.a s') : WdAt w' c d ws n s' := by
  have o1 := h.o1; have o2 := h.o2; have o3 := h.o3
  have nx : ¬ Own d.a d.x := fun x => by have := x.2; omega
  have np : ¬ Own d.a d.p := fun x => by have := x.2; omega
  have nb : ¬ Own d.a d.b := fun x => by have := x.2; omega
  exact ⟨q.cell nx h.k0, q.cell nx h.k1, q.cell nx h.k2, q.cell nx h.k3, q.cell nx h.k4, q.cell nx h.k5, q.cell nx h.k6,
    ⟨q.cell np h.bank.words, q.cell np h.bank.steps, fun i j hij => q.frozen (h.bank.free i j hij), fun j hj => q.cell nb (h.bank.cells j hj), h.bank.apart, Nat.lt_of_lt_of_le h.bank.ltb q.2.2, h.bank.few⟩, hb, h.len, h.mine, h.o1, h.o2, h.o3⟩
end Go.Proofs.YtagapfejgmmppaaGreat
