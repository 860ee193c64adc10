/-
  lodgesee.Same and Is, walked. By an AI agent. No person has read it.
-/
import Derived.Test.YtemaaipgjghlaaaDoorErrC
import Derived.RegionTactic
namespace Go.Proofs.YtemaaipgjghlaaaDoor
open Go.RowKit

theorem step_load_f {ops : Array Oper} {o : Oper} {a : Act} {w : World} {K : Act → World → Prop} {Q : Exit → Act → World → Prop} {E : Prop} (hwt : Region.wanted o (yielded ops a.tmps) = true) (x : Operand) (ho : o.op = .load 79 x)
    (g : Nat) (hx : a.eval x = .pointer (some ⟨g, 0, none⟩)) (c : Int) (t : TypeId) (fr : Nat × Nat) (hg : w.heap[g]? = some (.cells (fcells c) t fr))
    (h : K (a.put o.dst (.agg (fcells c))) w) : if Region.wanted o (yielded ops a.tmps) = true then Oper.wp Tryd.prog o a w K Q else E := by
  rw [if_pos hwt]
  exact wp_load_row 79 x ho g hx t (fcells c) fr _ hg Tryd.underlying79 rfl (fsize c) h
set_option maxRecDepth 100000 in
theorem same_err (v : Value) (k c : Int) (w : World) (hF : ∀ w', Below w.heap.size w w' → Calls Tryd.prog 44 #[v] w' fun e w2 => e = .returned (.agg (fcells k)) ∧ Below w'.heap.size w' w2) :
    Calls Tryd.prog 35 #[v, .agg (fcells c)] w fun e w' => e = .returned (.bool (decide (k = c))) ∧ Below w.heap.size w w' := by
  have HF := hidE hF
  clear hF
  have HB1 := hidE ((Below.refl _ w).alloc (Nat.le_refl _) (Obj.cells (fcells c) 79)).drew
  have HZ1 : Hid (((w.alloc (Obj.cells (fcells c) 79)).drew).heap[w.heap.size]? = some (Obj.cells (fcells c) 79 (0, 0))) := hidE (heap_alloc_new w (Obj.cells (fcells c) 79))
  go_enter Tryd.func35, Tryd.ntmps35
  go_wp2_with fail
  refine wp_region_any (by kernel_rfl) ?_
  change wpAny _ _ _ _ _ _ _ (World.drew _)
  obtain ⟨w1, hw1⟩ : ∃ w1, Hid ((w.alloc (Obj.cells (fcells c) 79)).drew = w1) := ⟨_, hidE rfl⟩
  rw [hw1.out] at HB1 HZ1
  generalize hwg : World.drew _ = w1'
  have hwg' : (w.alloc (Obj.cells (fcells c) 79)).drew = w1' := hwg
  obtain rfl : w1 = w1' := hw1.out.symm.trans hwg'
  clear hw1 hwg hwg'
  refine wpAny_take (i := 0) (v := v) rfl (by kernel_rfl) (by kernel_rfl) (by kernel_rfl) (fun _ _ _ h => h) (Or.inl ⟨by rfl, by intro w; go_simp⟩) ?_
  refine wpAny_ready (rs := [1, 2]) (by kernel_rfl) (by simp) ?_
  refine AllReady.cons rfl (fun K hK => ?_) (AllReady.cons rfl (fun K hK => ?_) AllReady.nil)
  focus
    go_simp
    refine (HF.out w1 HB1.out).mono ?_
    rintro e w2 ⟨rfl, hb2⟩
    refine hK _ _ ?_
    clear hK K
    have hlt : w.heap.size < w1.heap.size := by
      rcases Nat.lt_or_ge w.heap.size w1.heap.size with h' | h'
      · exact h'
      · have := HZ1.out
        rw [Array.getElem?_eq_none h'] at this; cases this
    have HZ2 := hidE ((hb2.block _ hlt).trans HZ1.out)
    have HB2 := hidE (HB1.out.trans (hb2.mono HB1.out.size))
    clear hb2 hlt
    refine wpAny_ready (rs := [2]) (by kernel_rfl) (by simp) ?_
    refine AllReady.cons rfl (fun K hK => ?_) AllReady.nil
    refine step_load_f (by rfl) (.tmp 3) rfl w.heap.size rfl c _ _ HZ2.out ?_
    refine hK _ _ ?_
    clear hK K HZ2
  rotate_left
  focus
    refine step_load_f (by rfl) (.tmp 3) rfl w.heap.size rfl c _ _ HZ1.out ?_
    refine hK _ _ ?_
    clear hK K
    refine wpAny_ready (rs := [1]) (by kernel_rfl) (by simp) ?_
    refine AllReady.cons rfl (fun K hK => ?_) AllReady.nil
    go_simp
    refine (HF.out w1 HB1.out).mono ?_
    rintro e w2 ⟨rfl, hb2⟩
    refine hK _ _ ?_
    clear hK K
    have HB2 := hidE (HB1.out.trans (hb2.mono HB1.out.size))
    clear hb2
  all_goals
    refine wpAny_ready (rs := [3]) (by kernel_rfl) (by simp) ?_
    refine AllReady.cons rfl (fun K hK => ?_) AllReady.nil
    go_simp
    refine (samefault_c k c w2).mono ?_
    rintro e w3 ⟨rfl, hb3⟩
    refine hK _ _ ?_
    clear hK K
    have hfin := HB2.out.trans (hb3.mono HB2.out.size)
    clear hb3
    refine wpAny_ready (rs := [4]) (by kernel_rfl) (by simp) ?_
    refine AllReady.cons rfl (fun K hK => ?_) AllReady.nil
    go_simp
    refine hK _ _ ?_
    clear hK K
    refine wpAny_done (by kernel_rfl) ?_ _
    go_wp2_with fail
    go_ret
    exact ⟨rfl, hfin⟩
set_option maxRecDepth 100000 in
theorem is_any (v : Value) (k c : Int) (w : World) (hF : ∀ w', Below w.heap.size w w' → Calls Tryd.prog 44 #[v] w' fun e w2 => e = .returned (.agg (fcells k)) ∧ Below w'.heap.size w' w2) :
    Calls Tryd.prog 20 #[v, .int .i64 c] w fun e w' => e = .returned (.bool (decide (k = c))) ∧ Below w.heap.size w w' := by
  have HF := hidE hF
  clear hF
  go_enter Tryd.func20, Tryd.ntmps20
  go_wp2_with fail
  refine (bare_c c w).mono ?_
  rintro e w1 ⟨rfl, hb1⟩
  have HB1 := hidE hb1
  clear hb1
  go_wp2_with fail
  refine (same_err v k c w1 (fun w' hb => HF.out w' (HB1.out.trans (hb.mono HB1.out.size)))).mono ?_
  rintro e w2 ⟨rfl, hb2⟩
  have hfin := HB1.out.trans (hb2.mono HB1.out.size)
  clear hb2
  go_wp2_with fail
  go_ret
  exact ⟨rfl, hfin⟩
/-- Of one of api's errors. -/
theorem is_c (es : List Addr) (j : Nat) (a : Addr) (hj : es[j]? = some a) (c : Int) (w : World) (h : Ez w es) :
    Calls Tryd.prog 20 #[errv a, .int .i64 c] w fun e w' => e = .returned (.bool (decide (101 + (j : Int) = c))) ∧ Below w.heap.size w w' :=
  is_any (errv a) (101 + j) c w fun w' hb => fault_c es j a hj w' (h.below hb)
/-- Of nil. -/
theorem is_nil (c : Int) (w : World) :
    Calls Tryd.prog 20 #[.nilIface, .int .i64 c] w fun e w' => e = .returned (.bool (decide ((0 : Int) = c))) ∧ Below w.heap.size w w' :=
  is_any .nilIface 0 c w fun w' _ => fault_nil w'
end Go.Proofs.YtemaaipgjghlaaaDoor
