/-
  Sums of one zero and of none. By an AI agent. No person has read it.
-/
import Derived.Test.YteeiehaebiigfaaDoorFltOw
namespace Go.Proofs.YteeiehaebiigfaaDoor
open Go.RowKit

theorem fl_one (W : World) (t : TypeId) (x : Nat) (hx : x < 18446744073709551616) : Fl (W.alloc (.cells #[.float .f64 x] t)) (some ⟨W.heap.size, 0, none⟩) [x] := by
  refine ⟨fun v hv => by rw [List.mem_singleton] at hv; rw [hv]; exact hx, fun i v hi => ⟨_, rfl, by simp, ?_⟩⟩
  rw [Addr.add_lit, cell_of_row _ W.heap.size (0 + i) _ t (0, 0) (heap_alloc_new W _), Nat.zero_add]
  match i, hi with
  | 0, hi => obtain rfl := Option.some.inj hi; rfl
  | i + 1, hi => simp at hi
theorem sum_negzero (W : World) : Calls Tryd.prog 23 #[.slice (some ⟨W.heap.size, 0, none⟩) 1 1] (W.alloc (.cells #[.float .f64 9223372036854775808] 22)) fun e w' =>
    e = .returned (.float .f64 0) ∧ Below W.heap.size W w' ∧ W.heap.size ≤ w'.heap.size := by
  refine (sum_c [9223372036854775808] _ 1 _ (fl_one W _ _ (by decide)) (by simp)).mono ?_
  rintro e w' ⟨⟨r, rfl, t, ⟨-, ht⟩, hr⟩, q, rfl⟩
  have h0 : Ieee.double.add 0 9223372036854775808 = some 0 := by decide +kernel
  rw [h0] at ht
  have hb : Below W.heap.size W ((W.alloc (.cells #[.float .f64 9223372036854775808] 22)).drewN q) := below_drewN ((Below.refl _ W).alloc (Nat.le_refl _) _) q
  refine ⟨?_, hb, hb.size⟩
  rcases ht with ht | ⟨ht, -⟩
  · obtain rfl := Option.some.inj ht
    rw [show r = 0 from hr]
  · cases ht
theorem sum_none (W : World) : Calls Tryd.prog 23 #[.slice none 0 0] W fun e w' => e = .returned (.float .f64 0) ∧ ∃ q, w' = W.drewN q := by
  have hf : Fl W none [] := And.intro (fun v hv => nomatch hv) (fun i v hi => by simp at hi)
  refine (sum_c [] none 0 W hf (by simp)).mono ?_
  rintro e w' ⟨⟨r, rfl, hr⟩, hq⟩
  exact ⟨by rw [show r = 0 from hr], hq⟩
end Go.Proofs.YteeiehaebiigfaaDoor
