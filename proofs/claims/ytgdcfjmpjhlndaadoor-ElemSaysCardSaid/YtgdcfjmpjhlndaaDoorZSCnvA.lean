/-
  Convolutions, plainly; cells.Reach, cells.Inside. By an AI agent. No person has read it.
-/
import Derived.Test.YtgdcfjmpjhlndaaDoorZSMatN
namespace Go.Proofs.YtgdcfjmpjhlndaaDoor
open Go.RowKit
/-- Which places of a window lie inside: from and below to. -/
def Cv.ins (n k s p o : Int) : Int × Int := if max 0 (p - o * s) ≥ min k (n - (o * s - p)) then (0, 0) else (max 0 (p - o * s), min k (n - (o * s - p)))
theorem Cv.ins_mem (n k s p o d : Int) (hd : 0 ≤ d) (hk : d < k) : ((Cv.ins n k s p o).1 ≤ d ∧ d < (Cv.ins n k s p o).2) ↔ (0 ≤ o * s - p + d ∧ o * s - p + d < n) := by
  unfold Cv.ins
  generalize o * s = q
  split
  · show (0 ≤ d ∧ d < 0) ↔ _
    omega
  · show (max 0 (p - q) ≤ d ∧ d < min k (n - (q - p))) ↔ _
    omega
theorem Cv.ins_le (n k s p o : Int) (hk : 0 ≤ k) : 0 ≤ (Cv.ins n k s p o).1 ∧ (Cv.ins n k s p o).1 ≤ (Cv.ins n k s p o).2 ∧ (Cv.ins n k s p o).2 ≤ k := by
  unfold Cv.ins
  generalize o * s = q
  split
  · exact ⟨Int.le_refl _, Int.le_refl _, hk⟩
  · show 0 ≤ max 0 (p - q) ∧ max 0 (p - q) ≤ min k (n - (q - p)) ∧ min k (n - (q - p)) ≤ k
    omega
set_option maxRecDepth 100000 in
set_option maxHeartbeats 4000000 in
theorem inside_c (n k s p o : Int) (w : World) (h1 : -4398046511104 ≤ o * s ∧ o * s ≤ 4398046511104) (h2 : -4194304 ≤ p ∧ p ≤ 4194304) (h3 : -4194304 ≤ n ∧ n ≤ 4194304) :
    Calls Tryd.prog 117 #[.int .i64 n, .int .i64 k, .int .i64 s, .int .i64 p, .int .i64 o] w fun e w' => e = .returned (.tuple #[.int .i64 (Cv.ins n k s p o).1, .int .i64 (Cv.ins n k s p o).2]) ∧ w' = w := by
  have HI : Hid (Cv.ins n k s p o = if max 0 (p - o * s) ≥ min k (n - (o * s - p)) then (0, 0) else (max 0 (p - o * s), min k (n - (o * s - p)))) := hide rfl
  obtain ⟨R, hR⟩ : ∃ R, Hid (Cv.ins n k s p o = R) := ⟨_, hide rfl⟩
  rw [hR.out] at HI ⊢
  obtain ⟨q, hq⟩ : ∃ q, Hid (o * s = q) := ⟨_, hide rfl⟩
  rw [hq.out] at h1 HI
  obtain ⟨f, hf⟩ : ∃ f, Hid (q - p = f) := ⟨_, hide rfl⟩
  obtain ⟨g, hg⟩ : ∃ f, Hid (p - q = f) := ⟨_, hide rfl⟩
  obtain ⟨t, ht⟩ : ∃ t, Hid (n - f = t) := ⟨_, hide rfl⟩
  have hfe := hf.out
  have hge := hg.out
  have hte := ht.out
  rw [hf.out, hg.out] at HI
  rw [ht.out] at HI
  have Hw1 : Hid (wrap64 (o * s) = q) := hide (by rw [hq.out]; unfold wrap64; omega)
  have Hw2 : Hid (wrap64 (q - p) = f) := hide (by unfold wrap64; omega)
  have Hw3 : Hid (wrap64 (-f) = g) := hide (by unfold wrap64; omega)
  have Hw4 : Hid (wrap64 (n - f) = t) := hide (by unfold wrap64; omega)
  obtain ⟨a, ha⟩ : ∃ a, Hid (max 0 g = a) := ⟨_, hide rfl⟩
  obtain ⟨b, hb⟩ : ∃ b, Hid (min k t = b) := ⟨_, hide rfl⟩
  have M1 : Hid ((if (0 : Int) < g then g else 0) = a) := hide (by have := ha.out; split <;> omega)
  have M2 : Hid ((if g < (0 : Int) then 0 else g) = a) := hide (by have := ha.out; split <;> omega)
  have M3 : Hid ((if k < t then k else t) = b) := hide (by have := hb.out; split <;> omega)
  have M4 : Hid ((if t < k then t else k) = b) := hide (by have := hb.out; split <;> omega)
  rw [ha.out, hb.out] at HI
  clear hfe hge hte h1 h2 h3
  have hw1 := Hw1.out
  have hw2 := Hw2.out
  have hw3 := Hw3.out
  have hw4 := Hw4.out
  have m1 := M1.out
  have m2 := M2.out
  have m3 := M3.out
  have m4 := M4.out
  by_cases hab : a ≥ b
  · have hr : R = (0, 0) := by rw [HI.out, if_pos hab]
    subst hr
    clear HI hR
    go_enter Tryd.func117, Tryd.ntmps117
    go_wp2_with fail
    refine bodyPost_ret (results_two rfl _ _) rfl ?_
    exact ⟨rfl, rfl⟩
  · have hr : R = (a, b) := by rw [HI.out, if_neg hab]
    subst hr
    clear HI hR
    go_enter Tryd.func117, Tryd.ntmps117
    go_wp2_with fail
    refine bodyPost_ret (results_two rfl _ _) rfl ?_
    exact ⟨rfl, rfl⟩
/-- How many places a window has. -/
def Cv.reach (n k s p : Int) : Int := (n + 2 * p - k) / s + 1
set_option maxRecDepth 100000 in
theorem reach_c (n k s p : Int) (w : World) (h1 : 0 ≤ n ∧ n ≤ 4194304) (h2 : 0 ≤ p ∧ p ≤ 4194304) (h3 : 0 ≤ k ∧ k ≤ n + 2 * p) (h4 : 1 ≤ s) :
    Calls Tryd.prog 87 #[.int .i64 n, .int .i64 k, .int .i64 s, .int .i64 p] w fun e w' => e = .returned (.int .i64 (Cv.reach n k s p)) ∧ w' = w := by
  unfold Cv.reach
  have e1 : 0 ≤ n + 2 * p - k := by omega
  have e2 : n + 2 * p - k ≤ 100000000 := by omega
  have e3 : 0 ≤ (n + 2 * p - k) / s := Int.ediv_nonneg e1 (by omega)
  have e4 : (n + 2 * p - k) / s ≤ n + 2 * p - k := Int.ediv_le_self _ e1
  have e5 : ¬ s = 0 := by omega
  go_enter Tryd.func87, Tryd.ntmps87
  go_wp2_with fail
  go_ret
  exact ⟨rfl, rfl⟩
end Go.Proofs.YtgdcfjmpjhlndaaDoor
