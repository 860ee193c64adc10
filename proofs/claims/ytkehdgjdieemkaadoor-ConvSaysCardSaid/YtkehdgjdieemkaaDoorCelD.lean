/-
  What a tensor of no fault is. By an AI agent. No person has read it.
-/
import Derived.Test.YtkehdgjdieemkaaDoorCelC
namespace Go.Proofs.YtkehdgjdieemkaaDoor
open Go.RowKit

theorem Shp.whole {zs : List Int} (h : Shp.code zs = 0) : zs.length ≤ 4 ∧ (∀ z ∈ zs, 1 ≤ z ∧ z ≤ 256) ∧ Shp.elems zs = Shp.prod zs ∧ 1 ≤ Shp.prod zs ∧ Shp.prod zs ≤ 16384 := by
  have hk : Shp.ok zs = true := by unfold Shp.ok; exact decide_eq_true h
  obtain ⟨h1, h2, h3⟩ := (Shp.ok_iff zs).1 hk
  refine ⟨h1, fun z hz => ?_, ?_, (Shp.prod_pos zs h2).1, h3⟩
  · have := List.all_eq_true.1 h2 z hz
    exact of_decide_eq_true this
  · unfold Shp.elems
    rw [if_pos hk]
theorem Tens.whole {t : Ten} (h : t.fault = (0, none)) : Shp.code t.zs = 0 ∧ (t.ds.length : Int) = Shp.prod t.zs ∧ ∀ z ∈ t.ds, Tens.fit t.u z = true := by
  have hf : Tens.fault t.zs t.u t.ds = (0, none) := h
  obtain ⟨h1, h2⟩ := fine_len hf
  refine ⟨h2, by rw [h1]; exact (Shp.whole h2).2.2.1, ?_⟩
  unfold Tens.fault at hf
  rw [if_neg (by omega), if_neg (by omega)] at hf
  split at hf
  · cases hf
  · rename_i hn
    rw [List.findIdx?_eq_none_iff] at hn
    intro z hz
    have := hn z hz
    simpa using this
theorem fit_narrow {u : Bool} {z : Int} (hu : u = false) (h : Tens.fit u z = true) : -128 ≤ z ∧ z ≤ 127 := by
  unfold Tens.fit at h
  rw [hu, if_neg (by decide)] at h
  exact of_decide_eq_true h
theorem fit_any {u : Bool} {z : Int} (h : Tens.fit u z = true) : -2147483648 ≤ z ∧ z ≤ 2147483647 := by
  unfold Tens.fit at h
  split at h
  · exact of_decide_eq_true h
  · have := of_decide_eq_true h
    omega
theorem narrow_self {n : Int} (h : Tens.narrow n = n) : -128 ≤ n ∧ n ≤ 127 := by
  unfold Tens.narrow at h
  omega
/-- No fault: neither of the tensors, nor of what they look like. -/
theorem Cel.fine {ts : List Ten} {k : Nat} (h : Cel.fault ts k = (0, none)) : Tens.first ts = (0, none) ∧ k = 0 := by
  unfold Cel.fault at h
  split at h
  · rename_i h1
    exact ⟨h1, congrArg Prod.fst h⟩
  · rename_i h1
    exact absurd h h1
theorem wide_wf (n : Int) : (Lit.int .i64 (Tens.wide n)).wf = true := wf_i64 _ (by unfold Tens.wide; omega)
theorem elm_threed {w W : World} {b base : Nat} {t : TypeId} {x y z : Value} (hz : Has W b t [x, y, z]) (hB : Below base w W) (hb : base ≤ b) (v1 v2 v3 : Value) : W.cell? ⟨b, 0, none⟩ = some x ∧ W.cell? ⟨b, 1, none⟩ = some y ∧ W.cell? ⟨b, 2, none⟩ = some z ∧ W.frozen? ⟨b, 0, none⟩ = false ∧ W.frozen? ⟨b, 1, none⟩ = false ∧ W.frozen? ⟨b, 2, none⟩ = false ∧
    Hid (Has (((W.drew.setCell ⟨b, 0, none⟩ v1).setCell ⟨b, 1, none⟩ v2).setCell ⟨b, 2, none⟩ v3) b t [v1, v2, v3]) ∧ Hid (Below base w (((W.drew.setCell ⟨b, 0, none⟩ v1).setCell ⟨b, 1, none⟩ v2).setCell ⟨b, 2, none⟩ v3)) :=
  ⟨hz.cell 0, hz.cell 1, hz.cell 2, hz.frozen 0, hz.frozen 1, hz.frozen 2, (((hz.drewN 1).set_ 0 v1).set_ 1 v2).set_ 2 v3, ((hB.drew.setCell (p := ⟨b, 0, none⟩) hb v1).setCell (p := ⟨b, 1, none⟩) hb v2).setCell (p := ⟨b, 2, none⟩) hb v3⟩
theorem Cel.one_bad {a : Ten} {k : Nat} (h : Tens.fault a.zs a.u a.ds ≠ (0, none)) : Cel.fault [a] k = Tens.fault a.zs a.u a.ds := by
  have h1 : Tens.first [a] = Tens.fault a.zs a.u a.ds := by
    have h2 : a.fault ≠ (0, none) := h
    unfold Tens.first
    rw [if_neg h2]
    rfl
  rw [Cel.fault_first (by rw [h1]; exact h), h1]
theorem Cel.one_good {a : Ten} {k : Nat} (h : Tens.fault a.zs a.u a.ds = (0, none)) : Cel.fault [a] k = (k, none) := by
  have h2 : a.fault = (0, none) := h
  refine Cel.fault_code ?_
  unfold Tens.first
  rw [if_pos h2]
  rfl
end Go.Proofs.YtkehdgjdieemkaaDoor
