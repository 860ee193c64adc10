/-
  What lawful sums and weights of rows are: no table. By an AI agent. No person has read it.
-/
import Derived.Test.YtgdcfjmpjhlndaaGreatDoorZFSftN
namespace Go.Proofs.YtgdcfjmpjhlndaaGreatDoor
open Go.RowKit
theorem Sf.fitw {z : Int} (h : -2147483648 ≤ z ∧ z ≤ 2147483647) : Tens.fit true z = true := by unfold Tens.fit; simp [h]
theorem Sf.good_any {op : Int} {ts : List Ten} {x : List Int × Bool} (hf : ∀ t ∈ ts, t.fault = (0, none)) (hn : ts.length = Sf.nins op) (hl : Sf.lk op (ts.map Ten.look) = some x) (hc : Shp.code x.1 = 0) : Cel.fault ts (Sf.code op (ts.map Ten.look)) = (0, none) := by
  have h1 : Tens.first ts = (0, none) := Tens.first_none ts fun j t ht => hf t (List.mem_of_getElem? ht)
  have h2 : Shp.firstbad (ts.map Ten.look) = 0 := Shp.first_none _ fun j d hd => by
    rw [List.getElem?_map, Option.map_eq_some_iff] at hd
    obtain ⟨t, ht, rfl⟩ := hd
    exact (Tens.whole (hf t (List.mem_of_getElem? ht))).1
  have h3 : Sf.code op (ts.map Ten.look) = 0 := by
    unfold Sf.code
    rw [if_neg (by rw [List.length_map]; omega), if_neg (by omega), hl]
    exact hc
  unfold Cel.fault
  rw [if_pos h1, h3]
end Go.Proofs.YtgdcfjmpjhlndaaGreatDoor
