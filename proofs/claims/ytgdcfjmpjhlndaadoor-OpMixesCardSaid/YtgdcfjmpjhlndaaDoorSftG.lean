/-
  What lawful sums and weights of rows are: no table. By an AI agent. No person has read it.
-/
import Derived.Test.YtgdcfjmpjhlndaaDoorSftN
namespace Go.Proofs.YtgdcfjmpjhlndaaDoor
open Go.RowKit

theorem Sf.fitn {z : Int} (h : -128 ≤ z ∧ z ≤ 127) : Tens.fit false z = true := by unfold Tens.fit; simp [h]
theorem Sf.fitw {z : Int} (h : -2147483648 ≤ z ∧ z ≤ 2147483647) : Tens.fit true z = true := by unfold Tens.fit; simp [h]
theorem Sf.good_any {op : Int} {ts : List Ten} {x : List Int × Bool} (hf : ∀ t ∈ ts, t.fault = (0, none)) (hn : ts.length = Sf.nins op) (hl : Sf.lk op (ts.map Ten.look) = some x) (hc : Shp.code x.1 = 0) : Cel.fault ts (Sf.code op (ts.map Ten.look)) = (0, none) := by
  have h1 : Tens.first ts = (0, none) := Tens.first_none ts fun j t ht => hf t (List.mem_of_getElem? ht)
  have h2 : Shp.firstbad (ts.map Ten.look) = 0 := Shp.first_none _ fun j d hd => by
    rw [List.getElem?_map, Option.map_eq_some_iff] at hd
    obtain ⟨t, ht, rfl⟩ := hd
    exact (Tens.whole (hf t (List.mem_of_getElem? ht))).1
  have h3 : Sf.code op (ts.map Ten.look) = 0 := by
    unfold Sf.code
    rw [if_neg (by rw [List.length_map]; omega), if_neg (by omega), hl]
    exact hc
  unfold Cel.fault
  rw [if_pos h1, h3]
theorem Sf.good_row {op : Int} (hop : op = 19 ∨ op = 20) {a : Ten} (ha : a.fault = (0, none)) (hz : 0 < a.zs.length) (hd : a.ds.length ≤ a.dcap) : Cel.fault [a] (Sf.code op ([a].map Ten.look)) = (0, none) := by
  refine Sf.good_any (x := (a.zs.dropLast, true)) (fun t ht => ?_) (by rcases hop with rfl | rfl <;> rfl) ?_ (Sf.rows_of ha hz hd).2.2
  · simp only [List.mem_cons, List.not_mem_nil, or_false] at ht
    subst ht
    exact ha
  · show (if 0 < a.zs.length then some (a.zs.dropLast, true) else none) = some (a.zs.dropLast, true)
    rw [if_pos hz]
end Go.Proofs.YtgdcfjmpjhlndaaDoor
