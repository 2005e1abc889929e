/- Package book, method by method. -/
import Derived.Test.YtagapfejgmmppaaGreatBook
namespace Go.Proofs.YtagapfejgmmppaaGreat
open Go.ChangeShapes Go.WideShapes Go.ChangeAt Go.RowKit
set_option maxRecDepth 100000
def lookI {α : Type} (l : List (Nat × α)) (x : Int) : Option α := if x < 0 then none else look l x.toNat
theorem lookI_nat {α : Type} (l : List (Nat × α)) (n : Nat) : lookI l n = look l n := by
  unfold lookI; rw [if_neg (by omega)]; rfl

structure Inv (c : Cf) (s : St) : Prop where
  l1 : s.calls.length = c.t
  l2 : s.ins.length = c.t
  l3 : s.made.length = c.t
  b1 : ∀ h, h < c.t → at_ s.calls h ≤ c.k
  b2 : ∀ h, h < c.t → at_ s.ins h ≤ c.i
  b3 : ∀ h, h < c.t → at_ s.made h ≤ 2 * c.k
  k1 : ∀ x ∈ s.ops, ∃ h m, h < c.t ∧ m < at_ s.calls h ∧ x.1 = h * c.k + m
  k2 : ∀ x ∈ s.nodes, ∃ h m, h < c.t ∧ m < at_ s.made h ∧ x.1 = 1 + c.b + h * (2 * c.k) + m
  d1 : (s.ops.map (·.1)).Nodup
  d2 : (s.nodes.map (·.1)).Nodup
theorem look_mem {α : Type} : ∀ {l : List (Nat × α)} {n : Nat} {x : α}, look l n = some x → (n, x) ∈ l
  | (m, y) :: r, n, x, h => by
    simp only [look] at h
    split at h
    · cases h; subst_vars; simp
    · exact List.mem_cons_of_mem _ (look_mem h)
theorem look_none {α : Type} {l : List (Nat × α)} {n : Nat} (h : ∀ x ∈ l, x.1 ≠ n) : look l n = none := by
  cases e : look l n with
  | none => rfl
  | some x => exact absurd rfl (h _ (look_mem e))
theorem row_lt {h t k m : Nat} (h1 : h < t) (h2 : m < k) : h * k + m < t * k := by
  have := Nat.mul_le_mul_right k (show h + 1 ≤ t from h1)
  rw [Nat.succ_mul] at this
  omega
theorem row_eq {h h' k m m' : Nat} (h1 : m < k) (h2 : m' < k) (e : h * k + m = h' * k + m') : h = h' ∧ m = m' := by
  have a1 : (h * k + m) / k = h := by rw [Nat.mul_comm, Nat.mul_add_div (by omega), Nat.div_eq_of_lt h1, Nat.add_zero]
  have a2 : (h' * k + m') / k = h' := by rw [Nat.mul_comm, Nat.mul_add_div (by omega), Nat.div_eq_of_lt h2, Nat.add_zero]
  have : h = h' := by rw [← a1, e, a2]
  subst this
  exact ⟨rfl, by omega⟩
theorem Inv.ro {c : Cf} {s : St} (h : Inv c s) {n : Nat} (hn : c.ops ≤ n) : look s.ops n = none := look_none fun x hx e => by
  obtain ⟨i, m, hi, hm, hxe⟩ := h.k1 x hx
  have := row_lt (k := c.k) hi (Nat.lt_of_lt_of_le hm (h.b1 i hi))
  unfold Cf.ops at hn
  omega
theorem Inv.rn {c : Cf} {s : St} (h : Inv c s) {n : Nat} (hn : c.nodes ≤ n) : look s.nodes n = none := look_none fun x hx e => by
  obtain ⟨i, m, hi, hm, hxe⟩ := h.k2 x hx
  have := row_lt (k := 2 * c.k) hi (Nat.lt_of_lt_of_le hm (h.b3 i hi))
  have e2 : c.t * (2 * c.k) = 2 * (c.t * c.k) := by rw [Nat.mul_left_comm]
  unfold Cf.nodes at hn
  omega
theorem Inv.newOp {c : Cf} {s : St} (h : Inv c s) {i : Nat} (_ : i < c.t) (hk : at_ s.calls i < c.k) : look s.ops (i * c.k + at_ s.calls i) = none := look_none fun x hx e => by
  obtain ⟨j, m, hj, hm, hxe⟩ := h.k1 x hx
  have := row_eq hk (Nat.lt_of_lt_of_le hm (h.b1 j hj)) (e.symm.trans hxe)
  obtain ⟨rfl, rfl⟩ := this
  omega
theorem Inv.newNode {c : Cf} {s : St} (h : Inv c s) {i : Nat} (_ : i < c.t) (hk : at_ s.made i < 2 * c.k) : look s.nodes (1 + c.b + i * (2 * c.k) + at_ s.made i) = none := look_none fun x hx e => by
  obtain ⟨j, m, hj, hm, hxe⟩ := h.k2 x hx
  have := row_eq hk (Nat.lt_of_lt_of_le hm (h.b3 j hj)) (show i * (2 * c.k) + at_ s.made i = j * (2 * c.k) + m by omega)
  obtain ⟨rfl, rfl⟩ := this
  omega

theorem writer_in (w : World) (c : Cf) (a : Ad) (s : St) (h : BookAt w c a s) (i : Nat) (hi : i < c.t) :
    Calls Tryz.prog 68 #[.pointer (some ⟨a.p, 0, none⟩), .int .i64 i] w fun e w' => e = .returned (.pointer (some ⟨a.bw + i, 0, none⟩)) ∧ Grown w w' := by
  have hl := look_in (P := Tryz.prog) h.mw Tryz.underlying147 Tryz.underlying3 i hi
  have h5 := h.c5
  clear h hi
  go_enter Tryz.func68, Tryz.ntmps68
  go_wp2
  go_ret
  exact ⟨rfl, by go_grown⟩
theorem writer_out (w : World) (c : Cf) (a : Ad) (s : St) (h : BookAt w c a s) (x : Int) (hx : x < 0 ∨ c.t ≤ x) :
    Calls Tryz.prog 68 #[.pointer (some ⟨a.p, 0, none⟩), .int .i64 x] w fun e w' => e = .returned (.pointer none) ∧ Grown w w' := by
  have hl := look_out (P := Tryz.prog) h.mw Tryz.underlying147 Tryz.underlying3 (show (zeroValue 136).run Tryz.prog w = .ok (.pointer none) w by kernel_rfl) x hx
  have h5 := h.c5
  clear h hx
  go_enter Tryz.func68, Tryz.ntmps68
  go_wp2
  go_ret
  exact ⟨rfl, by go_grown⟩
theorem writer_nil (w : World) (x : Int) :
    Calls Tryz.prog 68 #[.pointer none, .int .i64 x] w fun e w' => e = .returned (.pointer none) ∧ Grown w w' := by
  go_enter Tryz.func68, Tryz.ntmps68
  go_wp2
  go_ret
  exact ⟨rfl, by go_grown⟩

/-- A slot of calls, asked. -/
theorem getC_any (w : World) (c : Cf) (a : Ad) (s : St) (h : BookAt w c a s) (hI : Inv c s) (x : Int) (o : Option Cal) (ho : lookI s.ops x = o) :
    Calls Tryz.prog 124 #[.map (some a.mc), .int .i64 x] w fun e w' => e = .returned (.tuple #[(o.getD Cal.zero).v, .bool o.isSome]) ∧ Grown w w' := by
  by_cases hx : x < 0 ∨ c.ops ≤ x
  · have : lookI s.ops x = none := by
      unfold lookI
      split
      · rfl
      · exact hI.ro (by omega)
    rw [this] at ho
    subst ho
    exact getC_out w a.mc a.bc c.ops x h.mc hx
  · obtain ⟨n, rfl⟩ : ∃ n : Nat, x = n := ⟨x.toNat, by omega⟩
    rw [lookI_nat] at ho
    have hn : n < c.ops := by omega
    have hs := h.sc n hn
    rw [ho] at hs
    cases o with
    | none => exact getC_none w a.mc a.bc c.ops n h.mc hn hs
    | some y => obtain ⟨q, -, h1, h2, h3, h4, h5, h6⟩ := hs; exact getC_some w a.mc a.bc c.ops n q y h.mc hn h1 h2 h3 h4 h5 h6
theorem getN_any (w : World) (c : Cf) (a : Ad) (s : St) (h : BookAt w c a s) (hI : Inv c s) (x : Int) (o : Option Nat) (ho : lookI s.nodes x = o) :
    Calls Tryz.prog 152 #[.map (some a.mn), .int .i64 x] w fun e w' => e = .returned (.tuple #[.int .i64 (o.getD 0 : Nat), .bool o.isSome]) ∧ Grown w w' := by
  by_cases hx : x < 0 ∨ c.nodes ≤ x
  · have : lookI s.nodes x = none := by
      unfold lookI
      split
      · rfl
      · exact hI.rn (by omega)
    rw [this] at ho
    subst ho
    exact getN_out w a.mn a.bn c.nodes x h.mn hx
  · obtain ⟨n, rfl⟩ : ∃ n : Nat, x = n := ⟨x.toNat, by omega⟩
    rw [lookI_nat] at ho
    have hn : n < c.nodes := by omega
    have hs := h.sn n hn
    rw [ho] at hs
    cases o with
    | none => exact getN_none w a.mn a.bn c.nodes n h.mn hn hs
    | some y => obtain ⟨q, -, h1, h2, h3⟩ := hs; exact getN_some w a.mn a.bn c.nodes n q y h.mn hn h1 h2 h3

theorem four {w : World} {k : Nat} {u0 u1 u2 u3 x0 x1 x2 x3 : Value} (h0 : w.cell? ⟨k, 0, none⟩ = some u0) (h1 : w.cell? ⟨k, 1, none⟩ = some u1) (h2 : w.cell? ⟨k, 2, none⟩ = some u2) (h3 : w.cell? ⟨k, 3, none⟩ = some u3) :
    ((((w.setCell ⟨k, 0, none⟩ x0).setCell ⟨k, 1, none⟩ x1).setCell ⟨k, 2, none⟩ x2).setCell ⟨k, 3, none⟩ x3).cell? ⟨k, 0, none⟩ = some x0 ∧
    ((((w.setCell ⟨k, 0, none⟩ x0).setCell ⟨k, 1, none⟩ x1).setCell ⟨k, 2, none⟩ x2).setCell ⟨k, 3, none⟩ x3).cell? ⟨k, 1, none⟩ = some x1 ∧
    ((((w.setCell ⟨k, 0, none⟩ x0).setCell ⟨k, 1, none⟩ x1).setCell ⟨k, 2, none⟩ x2).setCell ⟨k, 3, none⟩ x3).cell? ⟨k, 2, none⟩ = some x2 ∧
    ((((w.setCell ⟨k, 0, none⟩ x0).setCell ⟨k, 1, none⟩ x1).setCell ⟨k, 2, none⟩ x2).setCell ⟨k, 3, none⟩ x3).cell? ⟨k, 3, none⟩ = some x3 := by
  have o : ∀ {v : World} {i j : Nat} {x y : Value}, i ≠ j → v.cell? ⟨k, j, none⟩ = some y → (v.setCell ⟨k, i, none⟩ x).cell? ⟨k, j, none⟩ = some y := fun hij h => (World.cell?_setCell_other _ _ _ _ (fun e => hij (congrArg Addr.off e))).trans h
  have s : ∀ {v : World} {i : Nat} {x y : Value}, v.cell? ⟨k, i, none⟩ = some y → (v.setCell ⟨k, i, none⟩ x).cell? ⟨k, i, none⟩ = some x := fun h => World.cell?_setCell_same _ _ _ h
  exact ⟨o (by decide) (o (by decide) (o (by decide) (s h0))), o (by decide) (o (by decide) (s (o (by decide) h1))), o (by decide) (s (o (by decide) (o (by decide) h2))), s (o (by decide) (o (by decide) (o (by decide) h3)))⟩
theorem Grown.set4 {W w : World} (g : Grown W w) {k : Nat} (hk : W.heap.size ≤ k) (x0 x1 x2 x3 : Value) : Grown W ((((w.setCell ⟨k, 0, none⟩ x0).setCell ⟨k, 1, none⟩ x1).setCell ⟨k, 2, none⟩ x2).setCell ⟨k, 3, none⟩ x3) :=
  (((g.setCell hk _).setCell hk _).setCell hk _).setCell hk _
theorem acell {w : World} {cs : Array Value} {t : TypeId} {i o : Nat} {v : Value} (k : w.cell? ⟨i, o, none⟩ = some v) : (w.alloc (.cells cs t)).cell? ⟨i, o, none⟩ = some v := gcell ((Grown.refl w).alloc _ _) k

/-- What Call tells. -/
def errOf {α : Type} (o : Option α) : Int := if o.isSome then 0 else 4
theorem Call_at (w : World) (c : Cf) (a : Ad) (s : St) (h : BookAt w c a s) (hI : Inv c s) (x : Int) (o : Option Cal) (ho : lookI s.ops x = o) :
    Calls Tryz.prog 73 #[.pointer (some ⟨a.p, 0, none⟩), .int .i64 x] w fun e w' => e = .returned (.tuple #[(o.getD Cal.zero).v, .int .i64 (errOf o)]) ∧ Grown w w' := by
  have H := Lib.hid h
  have HI := Lib.hid hI
  have HO := Lib.hid ho
  have h6 := gcell ((Grown.refl w).alloc #[.int .i64 0, .int .u64 0, .int .u64 0, .int .i64 0] 73) h.c6
  clear h hI ho
  cases o with
  | none =>
    go_enter Tryz.func73, Tryz.ntmps73
    go_wp2_with fail
    refine (getC_any _ c a s (H.out.grown (by go_grown)) HI.out x none HO.out).mono ?_; rintro e w1 ⟨rfl, g1⟩
    have z0 : w1.cell? ⟨w.heap.size, 0, none⟩ = some (.int .i64 0) := gcell g1 (by simp)
    have z1 : w1.cell? ⟨w.heap.size, 1, none⟩ = some (.int .u64 0) := gcell g1 (by simp)
    have z2 : w1.cell? ⟨w.heap.size, 2, none⟩ = some (.int .u64 0) := gcell g1 (by simp)
    have z3 : w1.cell? ⟨w.heap.size, 3, none⟩ = some (.int .i64 0) := gcell g1 (by simp)
    have fz : ∀ j, w1.frozen? ⟨w.heap.size, j, none⟩ = false := fun j => (g1.2.1 _).trans (by simp)
    have f0 := fz 0; have f1 := fz 1; have f2 := fz 2; have f3 := fz 3
    have hlt : w.heap.size < w1.heap.size := World.block_lt_of_cell? w1 _ z0
    replace g1 := galloc g1
    clear fz h6
    simp only [Option.getD_none, Option.isSome_none, Cal.v, Cal.zero]
    go_wp2
    obtain ⟨e0, e1, e2, e3⟩ := four (x0 := .int .i64 0) (x1 := .int .u64 0) (x2 := .int .u64 0) (x3 := .int .i64 0) z0 z1 z2 z3
    replace e0 := acell (cs := #[.int .i64 0, .int .u64 0, .int .u64 0, .int .i64 0]) (t := 73) e0
    replace e1 := acell (cs := #[.int .i64 0, .int .u64 0, .int .u64 0, .int .i64 0]) (t := 73) e1
    replace e2 := acell (cs := #[.int .i64 0, .int .u64 0, .int .u64 0, .int .i64 0]) (t := 73) e2
    replace e3 := acell (cs := #[.int .i64 0, .int .u64 0, .int .u64 0, .int .i64 0]) (t := 73) e3
    exact bodyPost_ret (v := .tuple #[Cal.zero.v, .int .i64 4]) (by simp [results, Tryz.results73, go_sem, e0, e1, e2, e3, Cal.v, Cal.zero]) rfl ⟨rfl, (Grown.set4 g1 (Nat.le_refl _) _ _ _ _).alloc _ _⟩
  | some y =>
    go_enter Tryz.func73, Tryz.ntmps73
    go_wp2_with fail
    refine (getC_any _ c a s (H.out.grown (by go_grown)) HI.out x (some y) HO.out).mono ?_; rintro e w1 ⟨rfl, g1⟩
    have z0 : w1.cell? ⟨w.heap.size, 0, none⟩ = some (.int .i64 0) := gcell g1 (by simp)
    have z1 : w1.cell? ⟨w.heap.size, 1, none⟩ = some (.int .u64 0) := gcell g1 (by simp)
    have z2 : w1.cell? ⟨w.heap.size, 2, none⟩ = some (.int .u64 0) := gcell g1 (by simp)
    have z3 : w1.cell? ⟨w.heap.size, 3, none⟩ = some (.int .i64 0) := gcell g1 (by simp)
    have fz : ∀ j, w1.frozen? ⟨w.heap.size, j, none⟩ = false := fun j => (g1.2.1 _).trans (by simp)
    have f0 := fz 0; have f1 := fz 1; have f2 := fz 2; have f3 := fz 3
    have hlt : w.heap.size < w1.heap.size := World.block_lt_of_cell? w1 _ z0
    replace g1 := galloc g1
    clear fz h6
    simp only [Option.getD_some, Option.isSome_some, Cal.v]
    go_wp2
    obtain ⟨e0, e1, e2, e3⟩ := four (x0 := .int .i64 y.kind) (x1 := .int .u64 y.key) (x2 := .int .u64 y.val) (x3 := .int .i64 y.lim) z0 z1 z2 z3
    replace e0 := acell (cs := #[.int .i64 y.kind, .int .u64 y.key, .int .u64 y.val, .int .i64 y.lim]) (t := 73) e0
    replace e1 := acell (cs := #[.int .i64 y.kind, .int .u64 y.key, .int .u64 y.val, .int .i64 y.lim]) (t := 73) e1
    replace e2 := acell (cs := #[.int .i64 y.kind, .int .u64 y.key, .int .u64 y.val, .int .i64 y.lim]) (t := 73) e2
    replace e3 := acell (cs := #[.int .i64 y.kind, .int .u64 y.key, .int .u64 y.val, .int .i64 y.lim]) (t := 73) e3
    exact bodyPost_ret (v := .tuple #[y.v, .int .i64 0]) (by simp [results, Tryz.results73, go_sem, e0, e1, e2, e3, Cal.v]) rfl ⟨rfl, (Grown.set4 g1 (Nat.le_refl _) _ _ _ _).alloc _ _⟩

/-- What Carried tells. -/
def carriedOf (o : Option Nat) : Int := match o with | none => -1 | some n => n
theorem Carried_at (w : World) (c : Cf) (a : Ad) (s : St) (h : BookAt w c a s) (hI : Inv c s) (x : Int) (o : Option Nat) (ho : lookI s.nodes x = o) :
    Calls Tryz.prog 131 #[.pointer (some ⟨a.p, 0, none⟩), .int .i64 x] w fun e w' => e = .returned (.int .i64 (carriedOf o)) ∧ Grown w w' := by
  have H := Lib.hid h
  have HI := Lib.hid hI
  have HO := Lib.hid ho
  have h7 := h.c7
  clear h hI ho
  cases o with
  | none =>
    go_enter Tryz.func131, Tryz.ntmps131
    go_wp2_with fail
    refine (getN_any _ c a s (H.out.grown (by go_grown)) HI.out x (none) HO.out).mono ?_; rintro e w1 ⟨rfl, g1⟩
    clear h7
    simp only [Option.getD_none, Option.isSome_none]
    go_wp2
    go_ret
    exact ⟨rfl, g1⟩
  | some y =>
    go_enter Tryz.func131, Tryz.ntmps131
    go_wp2_with fail
    refine (getN_any _ c a s (H.out.grown (by go_grown)) HI.out x (some y) HO.out).mono ?_; rintro e w1 ⟨rfl, g1⟩
    clear h7
    simp only [Option.getD_some, Option.isSome_some]
    go_wp2
    go_ret
    exact ⟨rfl, g1⟩

def keyOf_ (s : St) (x : Int) : Int := ((lookI s.ops (carriedOf (lookI s.nodes x))).getD Cal.zero).key
/-- What is counted of a thread. -/
def CallsOf (c : Cf) (s : St) (x : Int) : Nat := if x < 0 ∨ c.t ≤ x then 0 else at_ s.calls x.toNat
/-- What is counted of a thread. -/
def MadeOf (c : Cf) (s : St) (x : Int) : Nat := if x < 0 ∨ c.t ≤ x then 0 else at_ s.made x.toNat
theorem Call_nil (w : World) (x : Int) :
    Calls Tryz.prog 73 #[.pointer none, .int .i64 x] w fun e w' => e = .returned (.tuple #[Cal.zero.v, .int .i64 1]) ∧ Grown w w' := by
  go_enter Tryz.func73, Tryz.ntmps73
  go_wp2
  exact bodyPost_ret (v := .tuple #[Cal.zero.v, .int .i64 1]) (by simp [results, Tryz.results73, go_sem, Cal.v, Cal.zero]) rfl ⟨rfl, by go_grown⟩
theorem Carried_nil (w : World) (x : Int) :
    Calls Tryz.prog 131 #[.pointer none, .int .i64 x] w fun e w' => e = .returned (.int .i64 (-1)) ∧ Grown w w' := by
  go_enter Tryz.func131, Tryz.ntmps131
  go_wp2
  go_ret
  exact ⟨rfl, by go_grown⟩
end Go.Proofs.YtagapfejgmmppaaGreat
