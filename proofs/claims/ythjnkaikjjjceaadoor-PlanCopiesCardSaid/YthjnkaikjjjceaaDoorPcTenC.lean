/-
  Package tens's New, walked. By an AI agent. No person has read it.
-/
import Derived.Test.YthjnkaikjjjceaaDoorPcTenB
import Derived.Test.YthjnkaikjjjceaaDoorPcElmOpen
import Derived.Laws.ResultCell
import Derived.Deep.RegionHeld3
import Derived.RegionTactic
namespace Go.Proofs.YthjnkaikjjjceaaDoor
open Go.RowKit
/-- What the fault of a tensor may be. -/
theorem Tens.fault_cases (zs : List Int) (u : Bool) (ds : List Int) : Tens.fault zs u ds = (0, none) ∨ Tens.fault zs u ds = (101, none) ∨ Tens.fault zs u ds = (102, none) ∨ Tens.fault zs u ds = (104, none) ∨ ∃ i, Tens.fault zs u ds = (102, some i) := by
  have hk := Shp.code_is zs
  unfold Tens.fault
  split
  · rcases hk with h | h | h <;> rw [h] <;> simp_all
  · split
    · simp
    · split
      · rename_i i _
        exact .inr (.inr (.inr (.inr ⟨i, rfl⟩)))
      · exact .inl rfl
/-- .. and its error's. -/
theorem TErr.cases {W : World} {ah am ar : Addr} {v : Value} {R : Nat × Option Nat} (h : TErr W ah am ar v R) (hc : R = (0, none) ∨ R = (101, none) ∨ R = (102, none) ∨ R = (104, none) ∨ ∃ i, R = (102, some i)) :
    (R = (0, none) ∧ v = .nilIface) ∨ (R ≠ (0, none) ∧ ((∃ a, v = Go.Proofs.YthjnkaikjjjceaaDoor.errv a) ∨ ∃ g i, v = .iface 119 (.pointer (some ⟨g, 0, none⟩)) ∧ Has W g 122 [.int .i64 (i : Nat), Go.Proofs.YthjnkaikjjjceaaDoor.errv ar] ∧ R = (102, some i))) := by
  rcases hc with rfl | rfl | rfl | rfl | ⟨i, rfl⟩
  · exact .inl ⟨rfl, h⟩
  · exact .inr ⟨by simp, .inl ⟨ah, h⟩⟩
  · exact .inr ⟨by simp, .inl ⟨ar, h⟩⟩
  · exact .inr ⟨by simp, .inl ⟨am, h⟩⟩
  · obtain ⟨g, h1, h2⟩ := h
    exact .inr ⟨by simp, .inr ⟨g, i, h1, h2, rfl⟩⟩

end Go.Proofs.YthjnkaikjjjceaaDoor
namespace Go.Proofs.YthjnkaikjjjceaaDoor
open Go.RowKit
abbrev FatS (g : Nat) (w : World) (x y : Value) (W : World) : Prop := W.cell? ⟨g, 0, none⟩ = some x ∧ W.cell? ⟨g, 1, none⟩ = some y ∧ Hid (Below w.heap.size w W)
theorem FatS.keep {g : Nat} {w : World} {x y : Value} {W W' : World} (h : FatS g w x y W) (hb : Below W.heap.size W W') : FatS g w x y W' :=
  ⟨ten_kept h.1 hb, ten_kept h.2.1 hb, hide (h.2.2.out.trans (hb.mono h.2.2.out.size))⟩
end Go.Proofs.YthjnkaikjjjceaaDoor
