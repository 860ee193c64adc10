/-
  What there is to know of an operation: package op's Known, of, Ins, Args, Name, Named, walked. By an AI agent. No person has read it.
-/
import Derived.Test.YtgdcfjmpjhlndaaGreatDoorZFElmN
import Derived.Deep.LoopGhost
namespace Go.Proofs.YtgdcfjmpjhlndaaGreatDoor
open Go.RowKit
def Op.names : List (List UInt8) := [[97, 100, 100], [115, 117, 98], [109, 117, 108], [109, 97, 120], [114, 101, 108, 117], [99, 108, 97, 109, 112], [114, 101, 113, 117, 97, 110, 116], [119, 105, 100, 101, 110], [109, 97, 116, 109, 117, 108], [99, 111, 110, 118], [109, 97, 120, 112, 111, 111, 108], [97, 118, 103, 112, 111, 111, 108], [115, 111, 102, 116, 109, 97, 120], [103, 97, 116, 104, 101, 114], [114, 101, 115, 104, 97, 112, 101], [97, 114, 103, 109, 97, 120], [115, 117, 109], [116, 117, 114, 110]]
def Op.nin : List Nat := [2, 2, 2, 2, 1, 1, 1, 1, 2, 2, 1, 1, 2, 2, 1, 1, 1, 1]
def Op.narg : List Nat := [0, 0, 0, 0, 0, 2, 3, 1, 2, 3, 2, 2, 0, 0, 0, 0, 0, 0]
def Op.nm (i : Nat) : ByteArray := ⟨(Op.names.getD i []).toArray⟩
def Op.str (l : List UInt8) : Value := .string ⟨l.toArray⟩
def Op.kcells : List Value := [Op.str [97, 100, 100], .int .i64 2, .int .i64 0, Op.str [115, 117, 98], .int .i64 2, .int .i64 0, Op.str [109, 117, 108], .int .i64 2, .int .i64 0, Op.str [109, 97, 120], .int .i64 2, .int .i64 0, Op.str [114, 101, 108, 117], .int .i64 1, .int .i64 0, Op.str [99, 108, 97, 109, 112], .int .i64 1, .int .i64 2, Op.str [114, 101, 113, 117, 97, 110, 116], .int .i64 1, .int .i64 3, Op.str [119, 105, 100, 101, 110], .int .i64 1, .int .i64 1, Op.str [109, 97, 116, 109, 117, 108], .int .i64 2, .int .i64 2, Op.str [99, 111, 110, 118], .int .i64 2, .int .i64 3, Op.str [109, 97, 120, 112, 111, 111, 108], .int .i64 1, .int .i64 2, Op.str [97, 118, 103, 112, 111, 111, 108], .int .i64 1, .int .i64 2, Op.str [115, 111, 102, 116, 109, 97, 120], .int .i64 2, .int .i64 0, Op.str [103, 97, 116, 104, 101, 114], .int .i64 2, .int .i64 0, Op.str [114, 101, 115, 104, 97, 112, 101], .int .i64 1, .int .i64 0, Op.str [97, 114, 103, 109, 97, 120], .int .i64 1, .int .i64 0, Op.str [115, 117, 109], .int .i64 1, .int .i64 0, Op.str [116, 117, 114, 110], .int .i64 1, .int .i64 0]
/-- The table of the operations lies where it was laid. -/
def Kz (w : World) : Prop := ∃ t, Has w 2 t Op.kcells
theorem Kz.lt {w : World} (h : Kz w) : 2 < w.heap.size := by
  obtain ⟨t, h⟩ := h
  exact h.lt
theorem Kz.below {w w' : World} (h : Kz w) (hb : Below w.heap.size w w') : Kz w' := by
  obtain ⟨t, h⟩ := h
  exact ⟨t, h.below hb h.lt⟩
theorem Kz.cell {w : World} (h : Kz w) (j : Nat) : w.cell? ⟨2, j, none⟩ = Op.kcells[j]? := by
  obtain ⟨t, h⟩ := h
  exact h.cell j
def Op.known (op : Int) : Prop := 4 ≤ op ∧ op ≤ 21
instance (op : Int) : Decidable (Op.known op) := inferInstanceAs (Decidable (4 ≤ op ∧ op ≤ 21))
def Op.ins (op : Int) : Nat := if Op.known op then Op.nin.getD (op - 4).toNat 0 else 0
def Op.args (op : Int) : Nat := if Op.known op then Op.narg.getD (op - 4).toNat 0 else 0
/-- The operation of a name; 0, if there is none. -/
def Op.hit (s : ByteArray) (i : Nat) : Bool := (Op.nm i).toList == s.toList
def Op.find (s : ByteArray) : Int := match (List.range 18).find? (Op.hit s) with
  | some i => 4 + (i : Int)
  | none => 0
end Go.Proofs.YtgdcfjmpjhlndaaGreatDoor
