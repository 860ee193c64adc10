/-
  Pools of pools, of all, of halves. By an AI agent. No person has read it.
-/
import Derived.Test.YtcgjnjchkachdaaDoorPolG
namespace Go.Proofs.YtcgjnjchkachdaaDoor
open Go.RowKit

theorem Pl.top_eq (f g : Nat → Int) (n m : Nat) (hn : 1 ≤ n) (hm : 1 ≤ m) (h1 : ∀ k, k < n → f k ≤ Pl.top g m) (h2 : ∀ k, k < m → g k ≤ Pl.top f n) : Pl.top f n = Pl.top g m := by
  obtain ⟨k, hk, e1⟩ := Pl.top_is f n hn
  obtain ⟨j, hj, e2⟩ := Pl.top_is g m hm
  have a := h1 k hk
  have b := h2 j hj
  omega
/-- A pool of pools, where places fall together. -/
theorem Pl.twice_at (c1 c2 c3 : Pl) (xs : List Int) (m1 i : Nat) (h1 : 1 ≤ c1.s) (h2 : 1 ≤ c2.s) (h3 : 1 ≤ c3.s)
    (hin : ∀ k, k < c2.s * c2.s → c2.at i + c2.off k < m1)
    (hto : ∀ k, k < c2.s * c2.s → ∀ j, j < c1.s * c1.s → ∃ K, K < c3.s * c3.s ∧ c1.at (c2.at i + c2.off k) + c1.off j = c3.at i + c3.off K)
    (hfro : ∀ K, K < c3.s * c3.s → ∃ k, k < c2.s * c2.s ∧ ∃ j, j < c1.s * c1.s ∧ c1.at (c2.at i + c2.off k) + c1.off j = c3.at i + c3.off K) :
    c2.el false (c1.part false xs 0 m1) (c2.at i) = c3.el false xs (c3.at i) := by
  have hb : ∀ k, k < c2.s * c2.s → c2.v (c1.part false xs 0 m1) (c2.at i) k = Pl.top (c1.v xs (c1.at (c2.at i + c2.off k))) (c1.s * c1.s) := fun k hk => by
    unfold Pl.v
    rw [List.getD_eq_getElem?_getD, Pl.part_at _ _ _ _ _ _ (hin k hk), Option.getD_some, Nat.zero_add]
    rfl
  refine Pl.top_eq _ _ _ _ (Nat.mul_pos h2 h2) (Nat.mul_pos h3 h3) (fun k hk => ?_) (fun K hK => ?_)
  · rw [hb k hk]
    obtain ⟨j, hj, e⟩ := Pl.top_is (c1.v xs (c1.at (c2.at i + c2.off k))) (c1.s * c1.s) (Nat.mul_pos h1 h1)
    obtain ⟨K, hK, e2⟩ := hto k hk j hj
    rw [e]
    have := Pl.top_ge (c3.v xs (c3.at i)) (c3.s * c3.s) K hK
    unfold Pl.v at this ⊢
    rw [e2]
    exact this
  · obtain ⟨k, hk, j, hj, e2⟩ := hfro K hK
    have a := Pl.top_ge (c2.v (c1.part false xs 0 m1) (c2.at i)) (c2.s * c2.s) k hk
    have b := Pl.top_ge (c1.v xs (c1.at (c2.at i + c2.off k))) (c1.s * c1.s) j hj
    have e3 := hb k hk
    unfold Pl.v at a b e3 ⊢
    rw [e2] at b
    omega
theorem Pl.twice4 (xs : List Int) : (Pl.mk 2 2 1 2 2).part false ((Pl.mk 4 4 1 2 2).part false xs 0 4) 0 1 = (Pl.mk 4 4 1 4 4).part false xs 0 1 := by
  refine List.ext_getElem? fun i => ?_
  by_cases hi : i < 1
  · rw [Pl.part_at _ _ _ _ _ _ hi, Pl.part_at _ _ _ _ _ _ hi, Nat.zero_add]
    obtain rfl : i = 0 := by omega
    rw [Pl.twice_at (Pl.mk 4 4 1 2 2) (Pl.mk 2 2 1 2 2) (Pl.mk 4 4 1 4 4) xs 4 0 (by decide) (by decide) (by decide) (by decide +kernel) (by decide +kernel) (by decide +kernel)]
  · rw [List.getElem?_eq_none (by rw [Pl.part_length]; omega), List.getElem?_eq_none (by rw [Pl.part_length]; omega)]
theorem Pl.twice8 (xs : List Int) : (Pl.mk 4 4 1 2 2).part false ((Pl.mk 8 8 1 2 2).part false xs 0 16) 0 4 = (Pl.mk 8 8 1 4 4).part false xs 0 4 := by
  have key : ∀ i, i < 4 → (∀ k, k < 2 * 2 → (Pl.mk 4 4 1 2 2).at i + (Pl.mk 4 4 1 2 2).off k < 16) ∧
      (∀ k, k < 2 * 2 → ∀ j, j < 2 * 2 → ∃ K, K < 4 * 4 ∧ (Pl.mk 8 8 1 2 2).at ((Pl.mk 4 4 1 2 2).at i + (Pl.mk 4 4 1 2 2).off k) + (Pl.mk 8 8 1 2 2).off j = (Pl.mk 8 8 1 4 4).at i + (Pl.mk 8 8 1 4 4).off K) ∧
      (∀ K, K < 4 * 4 → ∃ k, k < 2 * 2 ∧ ∃ j, j < 2 * 2 ∧ (Pl.mk 8 8 1 2 2).at ((Pl.mk 4 4 1 2 2).at i + (Pl.mk 4 4 1 2 2).off k) + (Pl.mk 8 8 1 2 2).off j = (Pl.mk 8 8 1 4 4).at i + (Pl.mk 8 8 1 4 4).off K) := by decide +kernel
  refine List.ext_getElem? fun i => ?_
  by_cases hi : i < 4
  · rw [Pl.part_at _ _ _ _ _ _ hi, Pl.part_at _ _ _ _ _ _ hi, Nat.zero_add]
    obtain ⟨k1, k2, k3⟩ := key i hi
    rw [Pl.twice_at (Pl.mk 8 8 1 2 2) (Pl.mk 4 4 1 2 2) (Pl.mk 8 8 1 4 4) xs 16 i (by decide) (by decide) (by decide) k1 k2 k3]
  · rw [List.getElem?_eq_none (by rw [Pl.part_length]; omega), List.getElem?_eq_none (by rw [Pl.part_length]; omega)]
/-- The greatest of all. -/
theorem Pl.all_at (N : Nat) (xs : List Int) (B : Int) (hN : 1 ≤ N) (hl : xs.length = N * N) (h1 : ∀ d ∈ xs, -128 ≤ d ∧ d ≤ B) (h2 : B = -128 ∨ B ∈ xs) : (Pl.mk N N 1 N 1).part false xs 0 1 = [B] := by
  have e0 : (Pl.mk N N 1 N 1).at 0 = 0 := by
    unfold Pl.at Pl.first
    simp
  have ev : ∀ k, (Pl.mk N N 1 N 1).v xs 0 k = xs.getD k 0 := fun k => by
    unfold Pl.v Pl.off
    show xs.getD (0 + (k / N * N + k % N) * 1) 0 = _
    rw [Nat.zero_add, Nat.mul_one, Nat.mul_comm, Nat.div_add_mod]
  have hp := Nat.mul_pos hN hN
  have hmem : ∀ k, k < N * N → xs.getD k 0 ∈ xs := fun k hk => by
    rw [List.getD_eq_getElem?_getD, List.getElem?_eq_getElem (by omega), Option.getD_some]
    exact List.getElem_mem _
  have hB : B ∈ xs := by
    rcases h2 with h | h
    · have h3 := hmem 0 hp
      have h4 := h1 _ h3
      have h5 : B = xs.getD 0 0 := by omega
      rw [h5]
      exact h3
    · exact h
  have ht : Pl.top ((Pl.mk N N 1 N 1).v xs 0) (N * N) = B := by
    obtain ⟨k, hk, e⟩ := Pl.top_is ((Pl.mk N N 1 N 1).v xs 0) (N * N) hp
    rw [ev] at e
    have a := h1 _ (hmem k hk)
    obtain ⟨j, hj⟩ := List.mem_iff_getElem?.1 hB
    have hjl := (List.getElem?_eq_some_iff.1 hj).1
    have b := Pl.top_ge ((Pl.mk N N 1 N 1).v xs 0) (N * N) j (by omega)
    rw [ev, List.getD_eq_getElem?_getD, hj, Option.getD_some] at b
    omega
  unfold Pl.part
  show [(Pl.mk N N 1 N 1).el false xs ((Pl.mk N N 1 N 1).at (0 + 0))] = [B]
  rw [Nat.zero_add, e0]
  show [Pl.top ((Pl.mk N N 1 N 1).v xs 0) (N * N)] = [B]
  rw [ht]
/-- A narrow tensor of three dimensions that may be. -/
theorem Pl.lit_fine (t : Ten) (H W C : Nat) (hz : t.zs = [(H : Int), (W : Int), (C : Int)]) (hu : t.u = false) (hH : 1 ≤ H ∧ H ≤ 256) (hW : 1 ≤ W ∧ W ≤ 256) (hC : 1 ≤ C ∧ C ≤ 256) (hp : H * W * C ≤ 16384) (hl : t.ds.length = H * W * C) (hs : ∀ d ∈ t.ds, -128 ≤ d ∧ d ≤ 127) : t.fault = (0, none) := by
  have hcd := Pl.dims_ok H W C hH hW hC hp
  show Tens.fault t.zs t.u t.ds = (0, none)
  rw [hz, hu]
  refine Tens.fault_none _ _ _ hcd (by rw [(Shp.whole hcd).2.2.1, Pl.prod3, hl]) (fun j y hy => ?_)
  unfold Tens.fit
  rw [if_neg (by decide)]
  exact decide_eq_true (hs y (List.mem_of_getElem? hy))
theorem Pl.part_small {c : Pl} (hc : c.Ok) (xs : List Int) (m : Nat) (hm : m ≤ c.oh * c.ow * c.C) (hl : xs.length = c.H * c.W * c.C) (hs : ∀ d ∈ xs, -128 ≤ d ∧ d ≤ 127) : ∀ d ∈ c.part false xs 0 m, -128 ≤ d ∧ d ≤ 127 := by
  intro d hd
  obtain ⟨i, hi, rfl⟩ := List.mem_map.1 (show d ∈ (List.range m).map fun i => c.el false xs (c.at (0 + i)) from hd)
  have him := List.mem_range.1 hi
  rw [Nat.zero_add]
  have hn := Nat.mul_pos hc.s1 hc.s1
  have hv : ∀ k, k < c.s * c.s → -128 ≤ c.v xs (c.at i) k ∧ c.v xs (c.at i) k ≤ 127 := fun k hk => by
    have h := c.lt hc i k (by omega) hk
    unfold Pl.v
    rw [List.getD_eq_getElem?_getD, List.getElem?_eq_getElem (by omega), Option.getD_some]
    exact hs _ (List.getElem_mem _)
  exact Pl.top_le _ _ _ _ (hv 0 hn) hv
/-- Halves go up. -/
theorem Pl.half_at (x : Int) : (Pl.mk 2 2 1 2 2).part true [x, x, x + 1, x + 1] 0 1 = [x + 1] := by
  have h : (Pl.mk 2 2 1 2 2).part true [x, x, x + 1, x + 1] 0 1 = [Pl.mean (0 + x + x + (x + 1) + (x + 1)) 4] := rfl
  rw [h]
  unfold Pl.mean
  congr 1
  omega
end Go.Proofs.YtcgjnjchkachdaaDoor
