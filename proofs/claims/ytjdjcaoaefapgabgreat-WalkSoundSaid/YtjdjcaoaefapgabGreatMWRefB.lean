/- The document's acts of package world (corrieref08): what each tells, and that it leaves all memory that was there as it was. -/
import Derived.Test.YtjdjcaoaefapgabGreatMWRef
import Derived.Test.YtjdjcaoaefapgabGreatMWorld
namespace Go.Proofs.YtjdjcaoaefapgabGreat
open Go.ChangeShapes Go.WideShapes Go.ChangeAt Go.RowKit
set_option maxRecDepth 100000
set_option linter.unusedVariables false
/-- The slices of the document's Book, as values. -/
structure Sl where
  a1 : Option Addr
  m1 : Nat
  k1 : Nat
  a2 : Option Addr
  m2 : Nat
  k2 : Nat
  a3 : Option Addr
  m3 : Nat
  k3 : Nat
  a4 : Option Addr
  m4 : Nat
  k4 : Nat
  a5 : Option Addr
  m5 : Nat
  k5 : Nat

def RW1 (c : Cf) (sl : Sl) (b0 : Nat) (ws : List Int) (n : Int) (w : World) (e : Ending) (w' : World) : Prop :=
  ∃ b cap, e = .returned (.agg #[.int .i64 c.t, .int .i64 c.b, .int .i64 c.i, .int .i64 c.f, .int .i64 c.k, .slice (some ⟨b, 0, none⟩) ws.length cap, .int .i64 n, .int .i64 c.t, .int .i64 c.b, .int .i64 c.i, .int .i64 c.f, .int .i64 c.k, .slice sl.a1 sl.m1 sl.k1, .slice sl.a2 sl.m2 sl.k2, .slice sl.a3 sl.m3 sl.k3, .slice sl.a4 sl.m4 sl.k4, .slice sl.a5 sl.m5 sl.k5]) ∧ Grown w w' ∧ Holds w' b ws ∧ (b = b0 ∨ w.heap.size ≤ b)
def RWu (c : Cf) (sl : Sl) (b0 : Nat) (ws : List Int) (n : Int) (r : Int) (w : World) (e : Ending) (w' : World) : Prop :=
  ∃ b cap, e = .returned (.tuple #[.agg #[.int .i64 c.t, .int .i64 c.b, .int .i64 c.i, .int .i64 c.f, .int .i64 c.k, .slice (some ⟨b, 0, none⟩) ws.length cap, .int .i64 n, .int .i64 c.t, .int .i64 c.b, .int .i64 c.i, .int .i64 c.f, .int .i64 c.k, .slice sl.a1 sl.m1 sl.k1, .slice sl.a2 sl.m2 sl.k2, .slice sl.a3 sl.m3 sl.k3, .slice sl.a4 sl.m4 sl.k4, .slice sl.a5 sl.m5 sl.k5], .int .u64 r]) ∧ Grown w w' ∧ Holds w' b ws ∧ (b = b0 ∨ w.heap.size ≤ b)
def RWb (c : Cf) (sl : Sl) (b0 : Nat) (ws : List Int) (n : Int) (r : Bool) (w : World) (e : Ending) (w' : World) : Prop :=
  ∃ b cap, e = .returned (.tuple #[.agg #[.int .i64 c.t, .int .i64 c.b, .int .i64 c.i, .int .i64 c.f, .int .i64 c.k, .slice (some ⟨b, 0, none⟩) ws.length cap, .int .i64 n, .int .i64 c.t, .int .i64 c.b, .int .i64 c.i, .int .i64 c.f, .int .i64 c.k, .slice sl.a1 sl.m1 sl.k1, .slice sl.a2 sl.m2 sl.k2, .slice sl.a3 sl.m3 sl.k3, .slice sl.a4 sl.m4 sl.k4, .slice sl.a5 sl.m5 sl.k5], .bool r]) ∧ Grown w w' ∧ Holds w' b ws ∧ (b = b0 ∨ w.heap.size ≤ b)
def RWi (c : Cf) (sl : Sl) (b0 : Nat) (ws : List Int) (n : Int) (r : Int) (w : World) (e : Ending) (w' : World) : Prop :=
  ∃ b cap, e = .returned (.tuple #[.agg #[.int .i64 c.t, .int .i64 c.b, .int .i64 c.i, .int .i64 c.f, .int .i64 c.k, .slice (some ⟨b, 0, none⟩) ws.length cap, .int .i64 n, .int .i64 c.t, .int .i64 c.b, .int .i64 c.i, .int .i64 c.f, .int .i64 c.k, .slice sl.a1 sl.m1 sl.k1, .slice sl.a2 sl.m2 sl.k2, .slice sl.a3 sl.m3 sl.k3, .slice sl.a4 sl.m4 sl.k4, .slice sl.a5 sl.m5 sl.k5], .int .i64 r]) ∧ Grown w w' ∧ Holds w' b ws ∧ (b = b0 ∨ w.heap.size ≤ b)
def RW3 (c : Cf) (sl : Sl) (b0 : Nat) (ws : List Int) (n : Int) (r : Int) (d : Bool) (m : Int) (w : World) (e : Ending) (w' : World) : Prop :=
  ∃ b cap, e = .returned (.tuple #[.agg #[.int .i64 c.t, .int .i64 c.b, .int .i64 c.i, .int .i64 c.f, .int .i64 c.k, .slice (some ⟨b, 0, none⟩) ws.length cap, .int .i64 n, .int .i64 c.t, .int .i64 c.b, .int .i64 c.i, .int .i64 c.f, .int .i64 c.k, .slice sl.a1 sl.m1 sl.k1, .slice sl.a2 sl.m2 sl.k2, .slice sl.a3 sl.m3 sl.k3, .slice sl.a4 sl.m4 sl.k4, .slice sl.a5 sl.m5 sl.k5], .int .u64 r, .bool d, .int .i64 m]) ∧ Grown w w' ∧ Holds w' b ws ∧ (b = b0 ∨ w.heap.size ≤ b)

end Go.Proofs.YtjdjcaoaefapgabGreat
/- The document's acts of package world (corrieref08), one by one. -/
namespace Go.Proofs.YtjdjcaoaefapgabGreat
open Go.ChangeShapes Go.WideShapes Go.ChangeAt Go.RowKit
set_option maxRecDepth 100000
set_option linter.unusedVariables false
end Go.Proofs.YtjdjcaoaefapgabGreat
/- The document's acts of package world (corrieref08), one by one. -/
namespace Go.Proofs.YtjdjcaoaefapgabGreat
open Go.ChangeShapes Go.WideShapes Go.ChangeAt Go.RowKit
set_option maxRecDepth 100000
set_option linter.unusedVariables false
end Go.Proofs.YtjdjcaoaefapgabGreat
/- The document's acts of package world (corrieref08), one by one. -/
namespace Go.Proofs.YtjdjcaoaefapgabGreat
open Go.ChangeShapes Go.WideShapes Go.ChangeAt Go.RowKit
set_option maxRecDepth 100000
set_option linter.unusedVariables false
end Go.Proofs.YtjdjcaoaefapgabGreat
