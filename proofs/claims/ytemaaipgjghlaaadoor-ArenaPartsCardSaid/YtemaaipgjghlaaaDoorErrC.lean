/-
  lodgesee.sentinel, Fault and Is, walked. By an AI agent. No person has read it.
-/
import Derived.Test.YtemaaipgjghlaaaDoorErrB
import Derived.Laws.Rows
import Derived.Laws.Tables
import Derived.Laws.CopyOwn
namespace Go.Proofs.YtemaaipgjghlaaaDoor
open Go.RowKit

theorem err_row (es : List Addr) (w : World) (i : Nat) (b : Addr) (hb : es[i]? = some b) : (w.alloc (.cells (es.map errv).toArray 26)).cell? ⟨w.heap.size, 0 + i, none⟩ = some (errv b) := by
  rw [cell_of_row _ w.heap.size (0 + i) _ 26 (0, 0) (heap_alloc_new w _), Nat.zero_add]
  simp [hb]
set_option maxRecDepth 100000 in
theorem sentinel_c (es : List Addr) (j : Nat) (a : Addr) (hj : es[j]? = some a) (w : World) (h : Ez w es) :
    Calls Tryd.prog 48 #[errv a] w fun e w' => e = .returned (.int .i64 (101 + j)) ∧ Below w.heap.size w w' := by
  have hjl : j < 21 := by rw [← h.1]; exact (List.getElem?_eq_some_iff.1 hj).1
  have HS := hidE (sentinels_c es w h)
  have HE := hidE h
  have HJ := hidE hj
  obtain ⟨w1, hw1⟩ : ∃ w1, Hid (w.alloc (.cells (es.map errv).toArray 26) = w1) := ⟨_, hidE rfl⟩
  rw [hw1.out] at HS
  have HB : Hid (Below w.heap.size w w1) := hidE (by rw [← hw1.out]; exact (Below.refl _ w).alloc (Nat.le_refl _) _)
  clear h hj
  go_enter Tryd.func48, Tryd.ntmps48
  go_wp2_with fail
  refine HS.out.mono ?_
  rintro e w2 ⟨rfl, rfl⟩
  go_wp2_with fail
  go_loopw [4] (fun k wr => ∃ i : Nat, i ≤ j ∧ k = .int .i64 i ∧ wr = w2) (fun k _ => 21 - (intOf k).toNat)
  case atStart => exact ⟨0, by omega, rfl, rfl⟩
  case round =>
    obtain ⟨i, hi, rfl, rfl⟩ := hrel
    have hi21 : (i : Int) < 21 := by omega
    obtain ⟨b, hb⟩ : ∃ b, Hid (es[i]? = some b) := ⟨_, List.getElem?_eq_getElem (by rw [HE.out.1]; omega)⟩
    have hc : wr.cell? ⟨w.heap.size, i, none⟩ = some (errv b) := by
      rw [← hw1.out]
      have := err_row es w i b hb.out
      rwa [Nat.zero_add] at this
    have hal : Calls Tryd.prog 53 #[errv a, errv b] wr fun e w' => e = .returned (.bool (decide (a = b))) ∧ w' = wr := by
      have hg : ∀ (k : Nat) (c : Addr), es[k]? = some c → ∃ cs t, wr.heap[c.block]? = some (.cells cs t (0, 0)) := fun k c hk => by
        have hk21 : k < egs.length := by
          have := (List.getElem?_eq_some_iff.1 hk).1
          rw [HE.out.1] at this
          exact this
        exact ((HE.out.below HB.out).2.2 k _ c (List.getElem?_eq_getElem hk21) hk).2.2.2
      exact alike_c a b wr (hg j a HJ.out) (hg i b hb.out)
    have HAL := hidE hal
    clear hal
    by_cases hij : i = j
    · subst hij
      have hab : a = b := Option.some.inj (HJ.out.symm.trans hb.out)
      rw [decide_eq_true hab] at HAL
      clear hab
      go_wp2_with fail
      refine HAL.out.mono ?_
      rintro e w3 ⟨rfl, rfl⟩
      go_wp2_with fail
      go_ret
      exact ⟨rfl, HB.out⟩
    · have hab : ¬ a = b := fun hab => by
        subst hab
        obtain ⟨k1, e1⟩ := List.getElem?_eq_some_iff.1 HJ.out
        obtain ⟨k2, e2⟩ := List.getElem?_eq_some_iff.1 hb.out
        have hp := List.pairwise_iff_getElem.1 HE.out.2.1
        exact hp i j k2 k1 (by omega) (e2.trans e1.symm)
      rw [decide_eq_false hab] at HAL
      clear hab
      go_wp2_with fail
      refine HAL.out.mono ?_
      rintro e w3 ⟨rfl, rfl⟩
      go_wp2_with fail
      go_roundw
      case rel => exact ⟨i + 1, by omega, by go_num, trivial⟩
      case measure => simp [intOf]; omega
theorem run_notat (a : Addr) (w : World) : (Instr.typeAssert (errv a) 26 90 true).run Tryd.prog w = .ok (.tuple #[.pointer none, .bool false]) w := by kernel_rfl
/-- A fault as a value, with nothing around it. -/
abbrev fcells (k : Int) : Array Value := #[.int .i64 k, .bool false, .int .i64 0]
theorem fsize (k : Int) : (Tryd.prog.info? 79).map (·.size) = some (fcells k).size := by
  show _ = some 3
  kernel_rfl
theorem fone (k : Int) : (fcells k).all (·.oneCell') = true := by simp [Value.oneCell']
set_option maxRecDepth 100000 in
theorem bare_c (k : Int) (w : World) :
    Calls Tryd.prog 36 #[.int .i64 k] w fun e w' => e = .returned (.agg (fcells k)) ∧ Below w.heap.size w w' := by
  have hb1 := hidE ((Below.refl _ w).alloc (Nat.le_refl _) (Obj.cells (fcells 0) 79))
  have hz1 := hidE (heap_alloc_new w (Obj.cells (fcells 0) 79))
  go_enter Tryd.func36, Tryd.ntmps36
  go_wp2_with (refine wpList_store_row rfl 79 (.tmp 2) (.tmp 4) rfl w.heap.size (fcells k) rfl rfl _ _ hz1.out (fsize k) rfl (fone k) ?_)
  have hz2 := setRow_heap _ _ _ (fcells k) _ _ hz1.out
  have hb2 := below_setRow hb1.out (Nat.le_refl _) (fcells k)
  go_wp2_with fail
  refine bodyPost_ret (results_cell_row rfl _ _ w.heap.size 79 (fcells k) (0, 0) _ rfl hz2 Tryd.underlying79 rfl (fsize k)) rfl ?_
  exact ⟨rfl, hb2⟩
set_option maxRecDepth 100000 in
theorem none_c (w : World) :
    Calls Tryd.prog 47 #[] w fun e w' => e = .returned (.agg (fcells 0)) ∧ Below w.heap.size w w' := by
  have hb1 := hidE ((Below.refl _ w).alloc (Nat.le_refl _) (Obj.cells (fcells 0) 79))
  have hz1 := hidE (heap_alloc_new w (Obj.cells (fcells 0) 79))
  go_enter Tryd.func47, Tryd.ntmps47
  go_wp2_with (refine wpList_store_row rfl 79 (.tmp 0) (.tmp 1) rfl w.heap.size (fcells 0) rfl rfl _ _ hz1.out (fsize 0) rfl (fone 0) ?_)
  have hz2 := setRow_heap _ _ _ (fcells 0) _ _ hz1.out
  have hb2 := below_setRow hb1.out (Nat.le_refl _) (fcells 0)
  go_wp2_with fail
  refine bodyPost_ret (results_cell_row rfl _ _ w.heap.size 79 (fcells 0) (0, 0) _ rfl hz2 Tryd.underlying79 rfl (fsize 0)) rfl ?_
  exact ⟨rfl, hb2⟩
set_option maxRecDepth 100000 in
theorem fault_c (es : List Addr) (j : Nat) (a : Addr) (hj : es[j]? = some a) (w : World) (h : Ez w es) :
    Calls Tryd.prog 44 #[errv a] w fun e w' => e = .returned (.agg (fcells (101 + j))) ∧ Below w.heap.size w w' := by
  have hr := run_notat a
  have hb1 := (Below.refl _ w).alloc (Nat.le_refl _) (Obj.cells (fcells 0) 79)
  have HS := hidE (sentinel_c es j a hj _ (h.below hb1))
  clear h hj
  have HB1 := hidE hb1
  have HZ1 := hidE (heap_alloc_new w (Obj.cells (fcells 0) 79))
  clear hb1
  go_enter Tryd.func44, Tryd.ntmps44
  go_wp2_with fail
  refine HS.out.mono ?_
  rintro e w2 ⟨rfl, hb2⟩
  have HZ2 := hidE ((hb2.block w.heap.size (by simp)).trans HZ1.out)
  have HB2 := hidE (HB1.out.trans (hb2.mono (by simp)))
  clear hb2
  go_wp2_with fail
  refine (bare_c _ w2).mono ?_
  rintro e w3 ⟨rfl, hb3⟩
  have hlt : w.heap.size < w2.heap.size := by
    rcases Nat.lt_or_ge w.heap.size w2.heap.size with h' | h'
    · exact h'
    · have := HZ2.out
      rw [Array.getElem?_eq_none h'] at this; cases this
  have HZ3 := hidE ((hb3.block _ hlt).trans HZ2.out)
  have HB3 := hidE (HB2.out.trans (hb3.mono HB2.out.size))
  clear hb3 hlt
  go_wp2_with (refine wpList_store_row rfl 79 (.tmp 2) (.tmp 17) rfl w.heap.size (fcells (101 + j)) rfl rfl _ _ HZ3.out (fsize _) rfl (fone _) ?_)
  have hz4 := setRow_heap _ _ _ (fcells (101 + j)) _ _ HZ3.out
  have hb4 := below_setRow HB3.out (Nat.le_refl _) (fcells (101 + j))
  go_wp2_with fail
  refine bodyPost_ret (results_cell_row rfl _ _ w.heap.size 79 (fcells (101 + j)) (0, 0) _ rfl hz4 Tryd.underlying79 rfl (fsize _)) rfl ?_
  exact ⟨rfl, hb4⟩
set_option maxRecDepth 100000 in
theorem fault_nil (w : World) :
    Calls Tryd.prog 44 #[.nilIface] w fun e w' => e = .returned (.agg (fcells 0)) ∧ Below w.heap.size w w' := by
  have HB1 := hidE ((Below.refl _ w).alloc (Nat.le_refl _) (Obj.cells (fcells 0) 79))
  have HZ1 := hidE (heap_alloc_new w (Obj.cells (fcells 0) 79))
  go_enter Tryd.func44, Tryd.ntmps44
  go_wp2_with fail
  refine (none_c _).mono ?_
  rintro e w3 ⟨rfl, hb3⟩
  have HZ3 := hidE ((hb3.block _ (by simp)).trans HZ1.out)
  have HB3 := hidE (HB1.out.trans (hb3.mono HB1.out.size))
  clear hb3
  go_wp2_with (refine wpList_store_row rfl 79 (.tmp 2) (.tmp 7) rfl w.heap.size (fcells 0) rfl rfl _ _ HZ3.out (fsize _) rfl (fone _) ?_)
  have hz4 := setRow_heap _ _ _ (fcells 0) _ _ HZ3.out
  have hb4 := below_setRow HB3.out (Nat.le_refl _) (fcells 0)
  go_wp2_with fail
  refine bodyPost_ret (results_cell_row rfl _ _ w.heap.size 79 (fcells 0) (0, 0) _ rfl hz4 Tryd.underlying79 rfl (fsize _)) rfl ?_
  exact ⟨rfl, hb4⟩
set_option maxRecDepth 100000 in
theorem samefault_c (k c : Int) (w : World) :
    Calls Tryd.prog 43 #[.agg (fcells k), .agg (fcells c)] w fun e w' => e = .returned (.bool (decide (k = c))) ∧ Below w.heap.size w w' := by
  have HB1 := ((Below.refl _ w).alloc (Nat.le_refl _) (Obj.cells (fcells k) 79))
  have HB2 := hidE (HB1.alloc (by simp) (Obj.cells (fcells c) 79))
  clear HB1
  by_cases h : k = c
  · subst h
    go_enter Tryd.func43, Tryd.ntmps43
    go_wp2_with fail
    go_ret
    exact ⟨by simp, HB2.out⟩
  · have h' : (k == c) = false := by simp [h]
    go_enter Tryd.func43, Tryd.ntmps43
    go_wp2_with fail
    go_ret
    exact ⟨by simp [h], HB2.out⟩
end Go.Proofs.YtemaaipgjghlaaaDoor
