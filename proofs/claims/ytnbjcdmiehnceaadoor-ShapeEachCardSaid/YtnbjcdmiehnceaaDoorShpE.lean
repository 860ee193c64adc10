/-
  The law ShapeBounds of package lodgelaw5, walked. By an AI agent. No person has read it.
-/
import Derived.Test.YtnbjcdmiehnceaaDoorShpC
import Derived.Test.YtnbjcdmiehnceaaDoorBasD
import Derived.Test.YtnbjcdmiehnceaaDoorErrD
namespace Go.Proofs.YtnbjcdmiehnceaaDoor
open Go.RowKit

theorem e2_of {w : World} {es : List Addr} (h : Ez w es) : ∃ am ar, es[3]? = some am ∧ es[1]? = some ar ∧ E2 w am ar := by
  obtain ⟨am, ham⟩ : ∃ a, es[3]? = some a := ⟨_, List.getElem?_eq_getElem (by rw [h.1]; decide)⟩
  obtain ⟨ar, har⟩ : ∃ a, es[1]? = some a := ⟨_, List.getElem?_eq_getElem (by rw [h.1]; decide)⟩
  exact ⟨am, ar, ham, har, h.2.2 3 _ am rfl ham, h.2.2 1 _ ar rfl har⟩
/-- lodgesee.Is of what Valid tells. -/
theorem is_shp {es : List Addr} {am ar : Addr} (ham : es[3]? = some am) (har : es[1]? = some ar) (k : Nat) (hk : k = 104 ∨ k = 102 ∨ k = 0) (w : World) (h : Ez w es) :
    Calls Tryd.prog 17 #[Shp.err am ar k, .int .i64 k] w fun e w' => e = .returned (.bool true) ∧ Below w.heap.size w w' := by
  rcases hk with rfl | rfl | rfl
  · exact is_c es 3 am ham 104 w h
  · exact is_c es 1 ar har 102 w h
  · exact is_nil 0 w
theorem first_index (am ar : Addr) (w : World) (hE : E2 w am ar) :
    Calls Tryd.prog 31 #[.slice (some ⟨w.heap.size, 0, none⟩) 2 2, .slice (some ⟨w.heap.size + 1, 0, none⟩) 2 2] ((w.alloc (.cells #[.int .i64 2, .int .i64 3] 3)).alloc (.cells #[.int .i64 1, .int .i64 2] 3)) fun e w' =>
      e = .returned (.tuple #[.int .i64 5, .bool true]) ∧ Below w.heap.size w w' := by
  have hb1 : Below w.heap.size w (w.alloc (.cells (i64s [2, 3]).toArray 3)) := (Below.refl _ w).alloc (Nat.le_refl _) _
  have hb2 := hb1.alloc hb1.size (.cells (i64s [1, 2]).toArray 3)
  have r1 := (new_ri w 3 [2, 3] (by simp)).below ((Below.refl _ _).alloc (Nat.le_refl _) (.cells (i64s [1, 2]).toArray 3))
  have r2 := new_ri (w.alloc (.cells (i64s [2, 3]).toArray 3)) 3 [1, 2] (by simp)
  rw [World.size_alloc] at r2
  refine (index_c [2, 3] [1, 2] _ _ 2 2 am ar _ r1 r2 (by decide) (by decide) (hE.below hb2)).mono ?_
  rintro e w' ⟨rfl, hb⟩
  exact ⟨rfl, hb2.trans (hb.mono hb2.size)⟩
set_option maxRecDepth 100000 in
theorem first_c (am ar : Addr) (w : World) (hE : E2 w am ar) :
    Calls Tryd.prog 14 #[] w fun e w' => e = .returned (.bool true) ∧ Below w.heap.size w w' := by
  have H := hide (first_index am ar w hE)
  clear hE
  go_enter Tryd.func14, Tryd.ntmps14
  go_wp2_with fail
  refine H.out.mono ?_
  rintro e w1 ⟨rfl, hb⟩
  go_wp2_with fail
  go_ret
  exact ⟨rfl, hb⟩
/-- A list of ones may be as long as there may be dimensions. -/
theorem ones_code (n : Nat) (h : n < 8) : Shp.code (List.replicate n 1) = if 4 < n then 104 else 0 := by
  have : n = 0 ∨ n = 1 ∨ n = 2 ∨ n = 3 ∨ n = 4 ∨ n = 5 ∨ n = 6 ∨ n = 7 := by omega
  rcases this with rfl | rfl | rfl | rfl | rfl | rfl | rfl | rfl <;> decide
theorem one_code (m : Int) : Shp.code [m] = if m < 1 ∨ 256 < m then 102 else 0 := by
  unfold Shp.code
  rw [if_neg (by simp)]
  by_cases h : m < 1 ∨ 256 < m
  · rw [if_pos h, if_pos (by simp [Shp.okDim]; omega)]
  · rw [if_neg h, if_neg (by simp [Shp.okDim]; omega), if_neg (by simp [Shp.prod]; omega)]
theorem two_code (m : Int) (h1 : 1 ≤ m) (h2 : m ≤ 256) : Shp.code [m, 128] = if 128 < m then 104 else 0 := by
  unfold Shp.code
  rw [if_neg (by simp), if_neg (by simp [Shp.okDim]; omega)]
  by_cases h : 128 < m
  · rw [if_pos h, if_pos (by simp [Shp.prod]; omega)]
  · rw [if_neg h, if_neg (by simp [Shp.prod]; omega)]
theorem ones_next (n i : Nat) (h : i < n) : (i64s (List.replicate i 1 ++ List.replicate (n - i) 0)).set i (.int .i64 1) = i64s (List.replicate (i + 1) 1 ++ List.replicate (n - (i + 1)) 0) := by
  rw [show (Value.int .i64 1) = (fun z => Value.int .i64 z) (1 : Int) from rfl, ← List.map_set]
  congr 1
  rw [List.set_append_right _ _ (by simp), List.length_replicate, Nat.sub_self, show n - i = (n - (i + 1)) + 1 by omega, List.replicate_succ, List.set_cons_zero, List.replicate_succ', List.append_assoc]
  rfl
end Go.Proofs.YtnbjcdmiehnceaaDoor
