import Derived.Test.YtijgomgiinlcoaaDoorShaNum
import Derived.Laws.AppendOwn
namespace Go.Proofs.YtijgomgiinlcoaaDoor
open Go.RowKit

/-- These slice values are just these parts. -/
def PV (W : World) (ps : List (List Nat)) (xs : List Value) : Prop := xs.length = ps.length ∧ ∀ (i : Nat) (p : List Nat), ps[i]? = some p → ∃ A cap, xs[i]? = some (.slice A p.length cap) ∧ p.length ≤ cap ∧ cap ≤ 9223372036854775807 ∧ Rb W A p
theorem PV.nil (W : World) : PV W [] [] := ⟨rfl, fun i p h => by simp at h⟩
theorem Rb.nil (W : World) (A : Option Addr) : Rb W A [] := ⟨fun b hb => by simp at hb, fun h => absurd rfl h⟩
theorem PV.add {W : World} {ps : List (List Nat)} {xs : List Value} {p : List Nat} {A : Option Addr} {cap : Nat} (h : PV W ps xs) (h1 : p.length ≤ cap) (h2 : cap ≤ 9223372036854775807) (h3 : Rb W A p) : PV W (ps ++ [p]) (xs ++ [.slice A p.length cap]) := by
  refine ⟨by simp [h.1], fun i q hq => ?_⟩
  rcases Nat.lt_or_ge i ps.length with hi | hi
  · rw [List.getElem?_append_left hi] at hq
    obtain ⟨A', c', e1, e2, e3, e4⟩ := h.2 i q hq
    exact ⟨A', c', by rw [List.getElem?_append_left (by rw [h.1]; exact hi)]; exact e1, e2, e3, e4⟩
  · rw [List.getElem?_append_right hi] at hq
    obtain ⟨rfl, h0⟩ : p = q ∧ i - ps.length = 0 := by
      rcases hk : i - ps.length with _ | k
      · rw [hk] at hq; simp at hq; exact ⟨hq, rfl⟩
      · rw [hk] at hq; simp at hq
    refine ⟨A, cap, ?_, h1, h2, h3⟩
    rw [List.getElem?_append_right (by rw [h.1]; exact hi), h.1, h0]
    rfl
theorem PV.one {W : World} {ps : List (List Nat)} {xs : List Value} (h : PV W ps xs) : ∀ u ∈ xs, u.oneCell' = true := by
  intro u hu
  obtain ⟨i, hi⟩ := List.mem_iff_getElem?.1 hu
  have hl := (List.getElem?_eq_some_iff.1 hi).1
  obtain ⟨p, hp⟩ : ∃ p, ps[i]? = some p := ⟨_, List.getElem?_eq_getElem (by rw [← h.1]; exact hl)⟩
  obtain ⟨A, c, e1, _⟩ := h.2 i p hp
  rw [hi] at e1
  injection e1 with e1
  subst e1
  rfl
/-- A row of slice values that a world holds lies as the parts of an Of. -/
theorem PV.parts {W wr : World} {ps : List (List Nat)} {xs : List Value} {ad : Addr} (h : PV W ps xs) (hb : Below W.heap.size W wr) (ha : ad.block < wr.heap.size) (hc : ∀ (i : Nat) (u : Value), xs[i]? = some u → wr.cell? (ad.add i) = some u) : Parts wr (some ad) ps := by
  intro i p hp
  obtain ⟨A, c, e1, e2, e3, e4⟩ := h.2 i p hp
  exact ⟨ad, A, c, rfl, ha, hc i _ e1, e2, e3, e4.below hb⟩
theorem info_sl : ∃ i : TypeInfo, Tryd.prog.info? 22 = some i ∧ i.zero = some (.slice none 0 0) ∧ i.size = 1 ∧ i.bytes = 24 := by
  obtain ⟨i, hi⟩ : ∃ i, Tryd.prog.info? 22 = some i := by
    refine Option.isSome_iff_exists.1 ?_
    kernel_rfl
  have h1 : (Tryd.prog.info? 22).bind (·.zero) = some (.slice none 0 0) := by kernel_rfl
  have h2 : (Tryd.prog.info? 22).map (·.size) = some 1 := by kernel_rfl
  have h3 : (Tryd.prog.info? 22).map (·.bytes) = some 24 := by kernel_rfl
  rw [hi] at h1 h2 h3
  exact ⟨i, hi, by simpa using h1, by simpa using h2, by simpa using h3⟩
theorem usl : Tryd.prog.underlying 33 = some (.slice 22) := by kernel_rfl
end Go.Proofs.YtijgomgiinlcoaaDoor
