/-
  A row of floats, sorted: one block. By an AI agent. No person has read it.
-/
import Derived.Test.YteeiehaebiigfaaDoorFltD
import Derived.Sort.Row
import Derived.Sort.LotA
namespace Go.Proofs.YteeiehaebiigfaaDoor
open Go.RowKit

/-- A number of 64 bits. -/
abbrev W64 : Type := Fin 18446744073709551616
def encF (x : W64) : Value := .float .f64 x.val
def ltF (x y : W64) : Bool := Flt.less x.val y.val
theorem swoF : Sort.SWO ltF where
  irrefl x := by unfold ltF Flt.less; rw [decide_eq_false_iff_not]; omega
  trans x y z h1 h2 := by unfold ltF Flt.less at *; rw [decide_eq_true_eq] at *; omega
  ntrans x y z h1 h2 := by unfold ltF Flt.less at *; rw [decide_eq_false_iff_not] at *; omega

def SortsF (f : Nat) : Prop := ∀ (blk off cap a b : Nat) (d : Array W64) (w : World), Sort.Holds encF w blk off d → a ≤ b → b ≤ d.size → d.size ≤ 1000000 →
  Calls Tryd.prog f #[.slice (some ⟨blk, off, none⟩) d.size cap, .int .i64 a, .int .i64 b, .func (Fn.func 56) #[] #[]] w fun e w' =>
    e = .returned (.tuple #[]) ∧ ∃ n, w' = (Sort.putRow encF w blk off (Sort.insertionSort ltF d a b)).drewN n

set_option maxRecDepth 100000 in
/-- Fewer than 20: one block. -/
theorem stable_small (I : SortsF 77) (blk off cap : Nat) (d : Array W64) (w : World) (hH : Sort.Holds encF w blk off d) (hn : d.size < 20) :
    Calls Tryd.prog 70 #[.slice (some ⟨blk, off, none⟩) d.size cap, .int .i64 d.size, .func (Fn.func 56) #[] #[]] w fun e w' =>
      e = .returned (.tuple #[]) ∧ ∃ n, w' = (Sort.putRow encF w blk off (Sort.insertionSort ltF d 0 d.size)).drewN n := by
  have H1 := hide (I blk off cap 0 d.size d w hH (Nat.zero_le _) (Nat.le_refl _) (by omega))
  obtain ⟨n, hsz⟩ : ∃ n, Hid (d.size = n) := ⟨_, hide rfl⟩
  rw [hsz.out] at H1 hn ⊢
  obtain ⟨r, hr⟩ : ∃ r, Hid (Sort.insertionSort ltF d 0 n = r) := ⟨_, hide rfl⟩
  rw [hr.out] at H1 ⊢
  obtain ⟨W2, hW2⟩ : ∃ W2, Hid (Sort.putRow encF w blk off r = W2) := ⟨_, hide rfl⟩
  rw [hW2.out] at H1 ⊢
  clear hH hW2
  go_enter Tryd.func70, Tryd.ntmps70
  go_wp2_with fail
  go_loopw [7, 8] (fun a b wr => a = .int .i64 0 ∧ b = .int .i64 20 ∧ wr = w) (fun _ _ _ => 0)
  case atStart => exact ⟨rfl, rfl, rfl⟩
  case round =>
    obtain ⟨rfl, rfl, rfl⟩ := hrel
    go_wp2_with fail
    refine H1.out.mono ?_
    rintro e' w2 ⟨rfl, q, rfl⟩
    go_wp2_with fail
    go_loopw [6] (fun a wr => a = .int .i64 20 ∧ wr = W2.drewN q) (fun _ _ => 0)
    case atStart => exact ⟨rfl, rfl⟩
    case round =>
      obtain ⟨rfl, rfl⟩ := hrel
      go_wp2_with fail
      go_end0
      exact ⟨rfl, _, rfl⟩

set_option maxRecDepth 100000 in
theorem sortstable_small (I : SortsF 77) (blk off cap : Nat) (d : Array W64) (w : World) (hH : Sort.Holds encF w blk off d) (hn : d.size < 20) :
    Calls Tryd.prog 55 #[.slice (some ⟨blk, off, none⟩) d.size cap, .func (Fn.func 56) #[] #[]] w fun e w' =>
      e = .returned (.tuple #[]) ∧ ∃ n, w' = (Sort.putRow encF w blk off (Sort.insertionSort ltF d 0 d.size)).drewN n := by
  have H1 := hide (stable_small I blk off cap d w hH hn)
  obtain ⟨n, hsz⟩ : ∃ n, Hid (d.size = n) := ⟨_, hide rfl⟩
  rw [hsz.out] at H1 hn ⊢
  obtain ⟨r, hr⟩ : ∃ r, Hid (Sort.insertionSort ltF d 0 n = r) := ⟨_, hide rfl⟩
  rw [hr.out] at H1 ⊢
  clear hH
  go_enter Tryd.func55, Tryd.ntmps55
  go_wp2_with fail
  refine H1.out.mono ?_
  rintro e' w2 ⟨rfl, q, rfl⟩
  go_wp2_with fail
  go_end0
  exact ⟨rfl, _, rfl⟩
end Go.Proofs.YteeiehaebiigfaaDoor
