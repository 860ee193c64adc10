/-
  lodgesee.sentinel, Fault and Is, walked. By an AI agent. No person has read it.
-/
import Derived.Test.YthjnkaikjjjceaaDoorPbBasCard
import Derived.Laws.Rows
import Derived.Laws.Tables
import Derived.Laws.CopyOwn
import Derived.RegionTactic
namespace Go.Proofs.YthjnkaikjjjceaaDoor
open Go.RowKit
theorem err_row (es : List Addr) (w : World) (i : Nat) (b : Addr) (hb : es[i]? = some b) : (w.alloc (.cells (es.map errv).toArray 32)).cell? ⟨w.heap.size, 0 + i, none⟩ = some (errv b) := by
  rw [cell_of_row _ w.heap.size (0 + i) _ 32 (0, 0) (heap_alloc_new w _), Nat.zero_add]
  simp [hb]
set_option maxRecDepth 100000 in
theorem sentinel_c (es : List Addr) (j : Nat) (a : Addr) (hj : es[j]? = some a) (w : World) (h : Ez w es) :
    Calls Tryd.prog 83 #[errv a] w fun e w' => e = .returned (.int .i64 (101 + j)) ∧ Below w.heap.size w w' := by
  have hjl : j < 21 := by rw [← h.1]; exact (List.getElem?_eq_some_iff.1 hj).1
  have HS := hidE (sentinels_c es w h)
  have HE := hidE h
  have HJ := hidE hj
  obtain ⟨w1, hw1⟩ : ∃ w1, Hid (w.alloc (.cells (es.map errv).toArray 32) = w1) := ⟨_, hidE rfl⟩
  rw [hw1.out] at HS
  have HB : Hid (Below w.heap.size w w1) := hidE (by rw [← hw1.out]; exact (Below.refl _ w).alloc (Nat.le_refl _) _)
  clear h hj
  go_enter Tryd.func83, Tryd.ntmps83
  go_wp2_with fail
  refine HS.out.mono ?_
  rintro e w2 ⟨rfl, rfl⟩
  go_wp2_with fail
  go_loopw [4] (fun k wr => ∃ i : Nat, i ≤ j ∧ k = .int .i64 i ∧ wr = w2) (fun k _ => 21 - (intOf k).toNat)
  case atStart => exact ⟨0, by omega, rfl, rfl⟩
  case round =>
    obtain ⟨i, hi, rfl, rfl⟩ := hrel
    have hi21 : (i : Int) < 21 := by omega
    obtain ⟨b, hb⟩ : ∃ b, Hid (es[i]? = some b) := ⟨_, List.getElem?_eq_getElem (by rw [HE.out.1]; omega)⟩
    have hc : wr.cell? ⟨w.heap.size, i, none⟩ = some (errv b) := by
      rw [← hw1.out]
      have := err_row es w i b hb.out
      rwa [Nat.zero_add] at this
    have hal : Calls Tryd.prog 103 #[errv a, errv b] wr fun e w' => e = .returned (.bool (decide (a = b))) ∧ w' = wr := by
      have hg : ∀ (k : Nat) (c : Addr), es[k]? = some c → ∃ cs t, wr.heap[c.block]? = some (.cells cs t (0, 0)) := fun k c hk => by
        have hk21 : k < egs.length := by
          have := (List.getElem?_eq_some_iff.1 hk).1
          rw [HE.out.1] at this
          exact this
        exact ((HE.out.below HB.out).2.2 k _ c (List.getElem?_eq_getElem hk21) hk).2.2.2
      exact alike_c a b wr (hg j a HJ.out) (hg i b hb.out)
    have HAL := hidE hal
    clear hal
    by_cases hij : i = j
    · subst hij
      have hab : a = b := Option.some.inj (HJ.out.symm.trans hb.out)
      rw [decide_eq_true hab] at HAL
      clear hab
      go_wp2_with fail
      refine HAL.out.mono ?_
      rintro e w3 ⟨rfl, rfl⟩
      go_wp2_with fail
      go_ret
      exact ⟨rfl, HB.out⟩
    · have hab : ¬ a = b := fun hab => by
        subst hab
        obtain ⟨k1, e1⟩ := List.getElem?_eq_some_iff.1 HJ.out
        obtain ⟨k2, e2⟩ := List.getElem?_eq_some_iff.1 hb.out
        have hp := List.pairwise_iff_getElem.1 HE.out.2.1
        exact hp i j k2 k1 (by omega) (e2.trans e1.symm)
      rw [decide_eq_false hab] at HAL
      clear hab
      go_wp2_with fail
      refine HAL.out.mono ?_
      rintro e w3 ⟨rfl, rfl⟩
      go_wp2_with fail
      go_roundw
      case rel => exact ⟨i + 1, by omega, by go_num, trivial⟩
      case measure => simp [intOf]; omega
theorem run_notat (a : Addr) (w : World) : (Instr.typeAssert (errv a) 32 119 true).run Tryd.prog w = .ok (.tuple #[.pointer none, .bool false]) w := by kernel_rfl
/-- A fault as a value, with nothing around it. -/
abbrev fcells (k : Int) : Array Value := #[.int .i64 k, .bool false, .int .i64 0]
theorem fsize (k : Int) : (Tryd.prog.info? 42).map (·.size) = some (fcells k).size := by
  show _ = some 3
  kernel_rfl
theorem fone (k : Int) : (fcells k).all (·.oneCell') = true := by simp [Value.oneCell']
set_option maxRecDepth 100000 in
theorem bare_c (k : Int) (w : World) :
    Calls Tryd.prog 55 #[.int .i64 k] w fun e w' => e = .returned (.agg (fcells k)) ∧ Below w.heap.size w w' := by
  have hb1 := hidE ((Below.refl _ w).alloc (Nat.le_refl _) (Obj.cells (fcells 0) 42))
  have hz1 := hidE (heap_alloc_new w (Obj.cells (fcells 0) 42))
  go_enter Tryd.func55, Tryd.ntmps55
  go_wp2_with (refine wpList_store_row rfl 42 (.tmp 2) (.tmp 4) rfl w.heap.size (fcells k) rfl rfl _ _ hz1.out (fsize k) rfl (fone k) ?_)
  have hz2 := setRow_heap _ _ _ (fcells k) _ _ hz1.out
  have hb2 := below_setRow hb1.out (Nat.le_refl _) (fcells k)
  go_wp2_with fail
  refine bodyPost_ret (results_cell_row rfl _ _ w.heap.size 42 (fcells k) (0, 0) _ rfl hz2 Tryd.underlying42 rfl (fsize k)) rfl ?_
  exact ⟨rfl, hb2⟩
set_option maxRecDepth 100000 in
theorem fault_c (es : List Addr) (j : Nat) (a : Addr) (hj : es[j]? = some a) (w : World) (h : Ez w es) :
    Calls Tryd.prog 53 #[errv a] w fun e w' => e = .returned (.agg (fcells (101 + j))) ∧ Below w.heap.size w w' := by
  have hr := run_notat a
  have hb1 := (Below.refl _ w).alloc (Nat.le_refl _) (Obj.cells (fcells 0) 42)
  have HS := hidE (sentinel_c es j a hj _ (h.below hb1))
  clear h hj
  have HB1 := hidE hb1
  have HZ1 := hidE (heap_alloc_new w (Obj.cells (fcells 0) 42))
  clear hb1
  go_enter Tryd.func53, Tryd.ntmps53
  go_wp2_with fail
  refine HS.out.mono ?_
  rintro e w2 ⟨rfl, hb2⟩
  have HZ2 := hidE ((hb2.block w.heap.size (by simp)).trans HZ1.out)
  have HB2 := hidE (HB1.out.trans (hb2.mono (by simp)))
  clear hb2
  go_wp2_with fail
  refine (bare_c _ w2).mono ?_
  rintro e w3 ⟨rfl, hb3⟩
  have hlt : w.heap.size < w2.heap.size := by
    rcases Nat.lt_or_ge w.heap.size w2.heap.size with h' | h'
    · exact h'
    · have := HZ2.out
      rw [Array.getElem?_eq_none h'] at this; cases this
  have HZ3 := hidE ((hb3.block _ hlt).trans HZ2.out)
  have HB3 := hidE (HB2.out.trans (hb3.mono HB2.out.size))
  clear hb3 hlt
  go_wp2_with (refine wpList_store_row rfl 42 (.tmp 2) (.tmp 17) rfl w.heap.size (fcells (101 + j)) rfl rfl _ _ HZ3.out (fsize _) rfl (fone _) ?_)
  have hz4 := setRow_heap _ _ _ (fcells (101 + j)) _ _ HZ3.out
  have hb4 := below_setRow HB3.out (Nat.le_refl _) (fcells (101 + j))
  go_wp2_with fail
  refine bodyPost_ret (results_cell_row rfl _ _ w.heap.size 42 (fcells (101 + j)) (0, 0) _ rfl hz4 Tryd.underlying42 rfl (fsize _)) rfl ?_
  exact ⟨rfl, hb4⟩
set_option maxRecDepth 100000 in
theorem samefault_c (k c : Int) (w : World) :
    Calls Tryd.prog 52 #[.agg (fcells k), .agg (fcells c)] w fun e w' => e = .returned (.bool (decide (k = c))) ∧ Below w.heap.size w w' := by
  have HB1 := ((Below.refl _ w).alloc (Nat.le_refl _) (Obj.cells (fcells k) 42))
  have HB2 := hidE (HB1.alloc (by simp) (Obj.cells (fcells c) 42))
  clear HB1
  by_cases h : k = c
  · subst h
    go_enter Tryd.func52, Tryd.ntmps52
    go_wp2_with fail
    go_ret
    exact ⟨by simp, HB2.out⟩
  · have h' : (k == c) = false := by simp [h]
    go_enter Tryd.func52, Tryd.ntmps52
    go_wp2_with fail
    go_ret
    exact ⟨by simp [h], HB2.out⟩
end Go.Proofs.YthjnkaikjjjceaaDoor
namespace Go.Proofs.YthjnkaikjjjceaaDoor
open Go.RowKit
theorem step_load_f {ops : Array Oper} {o : Oper} {a : Act} {w : World} {K : Act → World → Prop} {Q : Exit → Act → World → Prop} {E : Prop} (hwt : Region.wanted o (yielded ops a.tmps) = true) (x : Operand) (ho : o.op = .load 42 x)
    (g : Nat) (hx : a.eval x = .pointer (some ⟨g, 0, none⟩)) (c : Int) (t : TypeId) (fr : Nat × Nat) (hg : w.heap[g]? = some (.cells (fcells c) t fr))
    (h : K (a.put o.dst (.agg (fcells c))) w) : if Region.wanted o (yielded ops a.tmps) = true then Oper.wp Tryd.prog o a w K Q else E := by
  rw [if_pos hwt]
  exact wp_load_row 42 x ho g hx t (fcells c) fr _ hg Tryd.underlying42 rfl (fsize c) h
set_option maxRecDepth 100000 in
theorem same_err (v : Value) (k c : Int) (w : World) (hF : ∀ w', Below w.heap.size w w' → Calls Tryd.prog 53 #[v] w' fun e w2 => e = .returned (.agg (fcells k)) ∧ Below w'.heap.size w' w2) :
    Calls Tryd.prog 15 #[v, .agg (fcells c)] w fun e w' => e = .returned (.bool (decide (k = c))) ∧ Below w.heap.size w w' := by
  have HF := hidE hF
  clear hF
  have HB1 := hidE ((Below.refl _ w).alloc (Nat.le_refl _) (Obj.cells (fcells c) 42)).drew
  have HZ1 : Hid (((w.alloc (Obj.cells (fcells c) 42)).drew).heap[w.heap.size]? = some (Obj.cells (fcells c) 42 (0, 0))) := hidE (heap_alloc_new w (Obj.cells (fcells c) 42))
  go_enter Tryd.func15, Tryd.ntmps15
  go_wp2_with fail
  refine wp_region_any (by kernel_rfl) ?_
  change wpAny _ _ _ _ _ _ _ (World.drew _)
  obtain ⟨w1, hw1⟩ : ∃ w1, Hid ((w.alloc (Obj.cells (fcells c) 42)).drew = w1) := ⟨_, hidE rfl⟩
  rw [hw1.out] at HB1 HZ1
  generalize hwg : World.drew _ = w1'
  have hwg' : (w.alloc (Obj.cells (fcells c) 42)).drew = w1' := hwg
  obtain rfl : w1 = w1' := hw1.out.symm.trans hwg'
  clear hw1 hwg hwg'
  refine wpAny_take (i := 0) (v := v) rfl (by kernel_rfl) (by kernel_rfl) (by kernel_rfl) (fun _ _ _ h => h) (Or.inl ⟨by rfl, by intro w; go_simp⟩) ?_
  refine wpAny_ready (rs := [1, 2]) (by kernel_rfl) (by simp) ?_
  refine AllReady.cons rfl (fun K hK => ?_) (AllReady.cons rfl (fun K hK => ?_) AllReady.nil)
  focus
    go_simp
    refine (HF.out w1 HB1.out).mono ?_
    rintro e w2 ⟨rfl, hb2⟩
    refine hK _ _ ?_
    clear hK K
    have hlt : w.heap.size < w1.heap.size := by
      rcases Nat.lt_or_ge w.heap.size w1.heap.size with h' | h'
      · exact h'
      · have := HZ1.out
        rw [Array.getElem?_eq_none h'] at this; cases this
    have HZ2 := hidE ((hb2.block _ hlt).trans HZ1.out)
    have HB2 := hidE (HB1.out.trans (hb2.mono HB1.out.size))
    clear hb2 hlt
    refine wpAny_ready (rs := [2]) (by kernel_rfl) (by simp) ?_
    refine AllReady.cons rfl (fun K hK => ?_) AllReady.nil
    refine step_load_f (by rfl) (.tmp 3) rfl w.heap.size rfl c _ _ HZ2.out ?_
    refine hK _ _ ?_
    clear hK K HZ2
  rotate_left
  focus
    refine step_load_f (by rfl) (.tmp 3) rfl w.heap.size rfl c _ _ HZ1.out ?_
    refine hK _ _ ?_
    clear hK K
    refine wpAny_ready (rs := [1]) (by kernel_rfl) (by simp) ?_
    refine AllReady.cons rfl (fun K hK => ?_) AllReady.nil
    go_simp
    refine (HF.out w1 HB1.out).mono ?_
    rintro e w2 ⟨rfl, hb2⟩
    refine hK _ _ ?_
    clear hK K
    have HB2 := hidE (HB1.out.trans (hb2.mono HB1.out.size))
    clear hb2
  all_goals
    refine wpAny_ready (rs := [3]) (by kernel_rfl) (by simp) ?_
    refine AllReady.cons rfl (fun K hK => ?_) AllReady.nil
    go_simp
    refine (samefault_c k c w2).mono ?_
    rintro e w3 ⟨rfl, hb3⟩
    refine hK _ _ ?_
    clear hK K
    have hfin := HB2.out.trans (hb3.mono HB2.out.size)
    clear hb3
    refine wpAny_ready (rs := [4]) (by kernel_rfl) (by simp) ?_
    refine AllReady.cons rfl (fun K hK => ?_) AllReady.nil
    go_simp
    refine hK _ _ ?_
    clear hK K
    refine wpAny_done (by kernel_rfl) ?_ _
    go_wp2_with fail
    go_ret
    exact ⟨rfl, hfin⟩
set_option maxRecDepth 100000 in
theorem is_any (v : Value) (k c : Int) (w : World) (hF : ∀ w', Below w.heap.size w w' → Calls Tryd.prog 53 #[v] w' fun e w2 => e = .returned (.agg (fcells k)) ∧ Below w'.heap.size w' w2) :
    Calls Tryd.prog 17 #[v, .int .i64 c] w fun e w' => e = .returned (.bool (decide (k = c))) ∧ Below w.heap.size w w' := by
  have HF := hidE hF
  clear hF
  go_enter Tryd.func17, Tryd.ntmps17
  go_wp2_with fail
  refine (bare_c c w).mono ?_
  rintro e w1 ⟨rfl, hb1⟩
  have HB1 := hidE hb1
  clear hb1
  go_wp2_with fail
  refine (same_err v k c w1 (fun w' hb => HF.out w' (HB1.out.trans (hb.mono HB1.out.size)))).mono ?_
  rintro e w2 ⟨rfl, hb2⟩
  have hfin := HB1.out.trans (hb2.mono HB1.out.size)
  clear hb2
  go_wp2_with fail
  go_ret
  exact ⟨rfl, hfin⟩
/-- Of one of api's errors. -/
theorem is_c (es : List Addr) (j : Nat) (a : Addr) (hj : es[j]? = some a) (c : Int) (w : World) (h : Ez w es) :
    Calls Tryd.prog 17 #[errv a, .int .i64 c] w fun e w' => e = .returned (.bool (decide (101 + (j : Int) = c))) ∧ Below w.heap.size w w' :=
  is_any (errv a) (101 + j) c w fun w' hb => fault_c es j a hj w' (h.below hb)
end Go.Proofs.YthjnkaikjjjceaaDoor
