/-
  lodgesee.Same and Is, walked. By an AI agent. No person has read it.
-/
import Derived.Test.YthjnkaikjjjceaaDoorPkElmOpen
import Derived.Test.YthjnkaikjjjceaaDoorPkShpCl
import Derived.Test.YthjnkaikjjjceaaDoorPkTenA
import Derived.RegionTactic
import Derived.Laws.ResultCell
import Derived.Deep.RegionHeld3
namespace Go.Proofs.YthjnkaikjjjceaaDoor
open Go.RowKit
theorem step_load_f {ops : Array Oper} {o : Oper} {a : Act} {w : World} {K : Act → World → Prop} {Q : Exit → Act → World → Prop} {E : Prop} (hwt : Region.wanted o (yielded ops a.tmps) = true) (x : Operand) (ho : o.op = .load 42 x)
    (g : Nat) (hx : a.eval x = .pointer (some ⟨g, 0, none⟩)) (c : Int) (t : TypeId) (fr : Nat × Nat) (hg : w.heap[g]? = some (.cells (fcells c) t fr))
    (h : K (a.put o.dst (.agg (fcells c))) w) : if Region.wanted o (yielded ops a.tmps) = true then Oper.wp Tryd.prog o a w K Q else E := by
  rw [if_pos hwt]
  exact wp_load_row 42 x ho g hx t (fcells c) fr _ hg Tryd.underlying42 rfl (fsize c) h
set_option maxRecDepth 100000 in
theorem same_err (v : Value) (k c : Int) (w : World) (hF : ∀ w', Below w.heap.size w w' → Calls Tryd.prog 53 #[v] w' fun e w2 => e = .returned (.agg (fcells k)) ∧ Below w'.heap.size w' w2) :
    Calls Tryd.prog 15 #[v, .agg (fcells c)] w fun e w' => e = .returned (.bool (decide (k = c))) ∧ Below w.heap.size w w' := by
  have HF := hidE hF
  clear hF
  have HB1 := hidE ((Below.refl _ w).alloc (Nat.le_refl _) (Obj.cells (fcells c) 42)).drew
  have HZ1 : Hid (((w.alloc (Obj.cells (fcells c) 42)).drew).heap[w.heap.size]? = some (Obj.cells (fcells c) 42 (0, 0))) := hidE (heap_alloc_new w (Obj.cells (fcells c) 42))
  go_enter Tryd.func15, Tryd.ntmps15
  go_wp2_with fail
  refine wp_region_any (by kernel_rfl) ?_
  change wpAny _ _ _ _ _ _ _ (World.drew _)
  obtain ⟨w1, hw1⟩ : ∃ w1, Hid ((w.alloc (Obj.cells (fcells c) 42)).drew = w1) := ⟨_, hidE rfl⟩
  rw [hw1.out] at HB1 HZ1
  generalize hwg : World.drew _ = w1'
  have hwg' : (w.alloc (Obj.cells (fcells c) 42)).drew = w1' := hwg
  obtain rfl : w1 = w1' := hw1.out.symm.trans hwg'
  clear hw1 hwg hwg'
  refine wpAny_take (i := 0) (v := v) rfl (by kernel_rfl) (by kernel_rfl) (by kernel_rfl) (fun _ _ _ h => h) (Or.inl ⟨by rfl, by intro w; go_simp⟩) ?_
  refine wpAny_ready (rs := [1, 2]) (by kernel_rfl) (by simp) ?_
  refine AllReady.cons rfl (fun K hK => ?_) (AllReady.cons rfl (fun K hK => ?_) AllReady.nil)
  focus
    go_simp
    refine (HF.out w1 HB1.out).mono ?_
    rintro e w2 ⟨rfl, hb2⟩
    refine hK _ _ ?_
    clear hK K
    have hlt : w.heap.size < w1.heap.size := by
      rcases Nat.lt_or_ge w.heap.size w1.heap.size with h' | h'
      · exact h'
      · have := HZ1.out
        rw [Array.getElem?_eq_none h'] at this; cases this
    have HZ2 := hidE ((hb2.block _ hlt).trans HZ1.out)
    have HB2 := hidE (HB1.out.trans (hb2.mono HB1.out.size))
    clear hb2 hlt
    refine wpAny_ready (rs := [2]) (by kernel_rfl) (by simp) ?_
    refine AllReady.cons rfl (fun K hK => ?_) AllReady.nil
    refine step_load_f (by rfl) (.tmp 3) rfl w.heap.size rfl c _ _ HZ2.out ?_
    refine hK _ _ ?_
    clear hK K HZ2
  rotate_left
  focus
    refine step_load_f (by rfl) (.tmp 3) rfl w.heap.size rfl c _ _ HZ1.out ?_
    refine hK _ _ ?_
    clear hK K
    refine wpAny_ready (rs := [1]) (by kernel_rfl) (by simp) ?_
    refine AllReady.cons rfl (fun K hK => ?_) AllReady.nil
    go_simp
    refine (HF.out w1 HB1.out).mono ?_
    rintro e w2 ⟨rfl, hb2⟩
    refine hK _ _ ?_
    clear hK K
    have HB2 := hidE (HB1.out.trans (hb2.mono HB1.out.size))
    clear hb2
  all_goals
    refine wpAny_ready (rs := [3]) (by kernel_rfl) (by simp) ?_
    refine AllReady.cons rfl (fun K hK => ?_) AllReady.nil
    go_simp
    refine (samefault_c k c w2).mono ?_
    rintro e w3 ⟨rfl, hb3⟩
    refine hK _ _ ?_
    clear hK K
    have hfin := HB2.out.trans (hb3.mono HB2.out.size)
    clear hb3
    refine wpAny_ready (rs := [4]) (by kernel_rfl) (by simp) ?_
    refine AllReady.cons rfl (fun K hK => ?_) AllReady.nil
    go_simp
    refine hK _ _ ?_
    clear hK K
    refine wpAny_done (by kernel_rfl) ?_ _
    go_wp2_with fail
    go_ret
    exact ⟨rfl, hfin⟩
set_option maxRecDepth 100000 in
theorem is_any (v : Value) (k c : Int) (w : World) (hF : ∀ w', Below w.heap.size w w' → Calls Tryd.prog 53 #[v] w' fun e w2 => e = .returned (.agg (fcells k)) ∧ Below w'.heap.size w' w2) :
    Calls Tryd.prog 17 #[v, .int .i64 c] w fun e w' => e = .returned (.bool (decide (k = c))) ∧ Below w.heap.size w w' := by
  have HF := hidE hF
  clear hF
  go_enter Tryd.func17, Tryd.ntmps17
  go_wp2_with fail
  refine (bare_c c w).mono ?_
  rintro e w1 ⟨rfl, hb1⟩
  have HB1 := hidE hb1
  clear hb1
  go_wp2_with fail
  refine (same_err v k c w1 (fun w' hb => HF.out w' (HB1.out.trans (hb.mono HB1.out.size)))).mono ?_
  rintro e w2 ⟨rfl, hb2⟩
  have hfin := HB1.out.trans (hb2.mono HB1.out.size)
  clear hb2
  go_wp2_with fail
  go_ret
  exact ⟨rfl, hfin⟩
/-- Of one of api's errors. -/
theorem is_c (es : List Addr) (j : Nat) (a : Addr) (hj : es[j]? = some a) (c : Int) (w : World) (h : Ez w es) :
    Calls Tryd.prog 17 #[errv a, .int .i64 c] w fun e w' => e = .returned (.bool (decide (101 + (j : Int) = c))) ∧ Below w.heap.size w w' :=
  is_any (errv a) (101 + j) c w fun w' hb => fault_c es j a hj w' (h.below hb)
end Go.Proofs.YthjnkaikjjjceaaDoor
namespace Go.Proofs.YthjnkaikjjjceaaDoor
open Go.RowKit
theorem ten_of {B : Nat} {w W : World} {x1 x2 x3 : Value} (hT : Has W B 70 [x1, x2, x3]) (hb : Below w.heap.size w W) : TenS B w x1 x2 x3 W :=
  ⟨by rw [hT.cell]; rfl, by rw [hT.cell]; rfl, by rw [hT.cell]; rfl, hide hb⟩
end Go.Proofs.YthjnkaikjjjceaaDoor
namespace Go.Proofs.YthjnkaikjjjceaaDoor
open Go.RowKit
theorem results_tens {fn : Func} {p u : Tmp} (h : fn.results = #[.cell p 70, .tmp u]) (tmps : Array Value) (w : World) (g : Nat) (x y z : Value)
    (hp : tmps.getD p undef = .pointer (some ⟨g, 0, none⟩)) (hg : Has w g 70 [x, y, z]) : (results fn tmps).run Tryd.prog w = .ok (.tuple #[.agg #[x, y, z], tmps.getD u undef]) w := by
  rw [results_cell_tmp h, hp]
  have h1 := run_loadVar_row (P := Tryd.prog) w g 70 70 #[x, y, z] (0, 0) _ hg Tryd.underlying70 rfl (by kernel_rfl)
  simp [asAddr, h1, Result.andThen]

/-- What the fault of a tensor may be. -/
theorem Tens.fault_cases (zs : List Int) (u : Bool) (ds : List Int) : Tens.fault zs u ds = (0, none) ∨ Tens.fault zs u ds = (101, none) ∨ Tens.fault zs u ds = (102, none) ∨ Tens.fault zs u ds = (104, none) ∨ ∃ i, Tens.fault zs u ds = (102, some i) := by
  have hk := Shp.code_is zs
  unfold Tens.fault
  split
  · rcases hk with h | h | h <;> rw [h] <;> simp_all
  · split
    · simp
    · split
      · rename_i i _
        exact .inr (.inr (.inr (.inr ⟨i, rfl⟩)))
      · exact .inl rfl
/-- .. and its error's. -/
theorem TErr.cases {W : World} {ah am ar : Addr} {v : Value} {R : Nat × Option Nat} (h : TErr W ah am ar v R) (hc : R = (0, none) ∨ R = (101, none) ∨ R = (102, none) ∨ R = (104, none) ∨ ∃ i, R = (102, some i)) :
    (R = (0, none) ∧ v = .nilIface) ∨ (R ≠ (0, none) ∧ ((∃ a, v = Go.Proofs.YthjnkaikjjjceaaDoor.errv a) ∨ ∃ g i, v = .iface 119 (.pointer (some ⟨g, 0, none⟩)) ∧ Has W g 122 [.int .i64 (i : Nat), Go.Proofs.YthjnkaikjjjceaaDoor.errv ar] ∧ R = (102, some i))) := by
  rcases hc with rfl | rfl | rfl | rfl | ⟨i, rfl⟩
  · exact .inl ⟨rfl, h⟩
  · exact .inr ⟨by simp, .inl ⟨ah, h⟩⟩
  · exact .inr ⟨by simp, .inl ⟨ar, h⟩⟩
  · exact .inr ⟨by simp, .inl ⟨am, h⟩⟩
  · obtain ⟨g, h1, h2⟩ := h
    exact .inr ⟨by simp, .inr ⟨g, i, h1, h2, rfl⟩⟩

end Go.Proofs.YthjnkaikjjjceaaDoor
namespace Go.Proofs.YthjnkaikjjjceaaDoor
open Go.RowKit
/-- A fault as a value. -/
abbrev gcells (k : Int) (p : Bool) (i : Int) : Array Value := #[.int .i64 k, .bool p, .int .i64 i]
theorem gsize (k i : Int) (p : Bool) : (Tryd.prog.info? 42).map (·.size) = some (gcells k p i).size := by
  show _ = some 3
  kernel_rfl
theorem gone (k i : Int) (p : Bool) : (gcells k p i).all (·.oneCell') = true := by simp [Value.oneCell']
set_option maxRecDepth 100000 in
theorem placed_c (k i : Int) (hk : k ≠ 0) (w : World) :
    Calls Tryd.prog 16 #[.int .i64 k, .int .i64 i] w fun e w' => e = .returned (.agg (gcells k true i)) ∧ Below w.heap.size w w' := by
  have hb1 := hidE ((Below.refl _ w).alloc (Nat.le_refl _) (Obj.cells (fcells 0) 42))
  have hz1 := hidE (heap_alloc_new w (Obj.cells (fcells 0) 42))
  have hk2 : (k == 0) = false := by simpa using hk
  go_enter Tryd.func16, Tryd.ntmps16
  go_wp2_with (refine wpList_store_row rfl 42 (.tmp 4) (.tmp 10) rfl w.heap.size (gcells k true i) rfl rfl _ _ hz1.out (gsize k i true) rfl (gone k i true) ?_)
  have hz2 := setRow_heap _ _ _ (gcells k true i) _ _ hz1.out
  have hb2 := below_setRow hb1.out (Nat.le_refl _) (gcells k true i)
  go_wp2_with fail
  refine bodyPost_ret (results_cell_row rfl _ _ w.heap.size 42 (gcells k true i) (0, 0) _ rfl hz2 Tryd.underlying42 rfl (gsize k i true)) rfl ?_
  exact ⟨rfl, hb2⟩
set_option maxRecDepth 100000 in
theorem samefault_g (k i : Int) (p : Bool) (w : World) :
    Calls Tryd.prog 52 #[.agg (gcells k p i), .agg (gcells k p i)] w fun e w' => e = .returned (.bool true) ∧ Below w.heap.size w w' := by
  have hfin := ((Below.refl _ w).alloc (Nat.le_refl _) (Obj.cells (gcells k p i) 42)).alloc (by simp) (Obj.cells (gcells k p i) 42)
  go_enter Tryd.func52, Tryd.ntmps52
  go_wp2_with fail
  go_ret
  exact ⟨by first | rfl | simp, hfin⟩
theorem step_load_g {ops : Array Oper} {o : Oper} {a : Act} {w : World} {K : Act → World → Prop} {Q : Exit → Act → World → Prop} {E : Prop} (hwt : Region.wanted o (yielded ops a.tmps) = true) (x : Operand) (ho : o.op = .load 42 x)
    (g : Nat) (hx : a.eval x = .pointer (some ⟨g, 0, none⟩)) (c i : Int) (p : Bool) (t : TypeId) (fr : Nat × Nat) (hg : w.heap[g]? = some (.cells (gcells c p i) t fr))
    (h : K (a.put o.dst (.agg (gcells c p i))) w) : if Region.wanted o (yielded ops a.tmps) = true then Oper.wp Tryd.prog o a w K Q else E := by
  rw [if_pos hwt]
  exact wp_load_row 42 x ho g hx t (gcells c p i) fr _ hg Tryd.underlying42 rfl (gsize c i p) h
set_option maxRecDepth 100000 in
theorem same_g (v : Value) (c i : Int) (p : Bool) (w : World) (hF : ∀ w', Below w.heap.size w w' → Calls Tryd.prog 53 #[v] w' fun e w2 => e = .returned (.agg (gcells c p i)) ∧ Below w'.heap.size w' w2) :
    Calls Tryd.prog 15 #[v, .agg (gcells c p i)] w fun e w' => e = .returned (.bool true) ∧ Below w.heap.size w w' := by
  have HF := hidE hF
  clear hF
  have HB1 := hidE ((Below.refl _ w).alloc (Nat.le_refl _) (Obj.cells (gcells c p i) 42)).drew
  have HZ1 : Hid (((w.alloc (Obj.cells (gcells c p i) 42)).drew).heap[w.heap.size]? = some (Obj.cells (gcells c p i) 42 (0, 0))) := hidE (heap_alloc_new w (Obj.cells (gcells c p i) 42))
  go_enter Tryd.func15, Tryd.ntmps15
  go_wp2_with fail
  refine wp_region_any (by kernel_rfl) ?_
  change wpAny _ _ _ _ _ _ _ (World.drew _)
  obtain ⟨w1, hw1⟩ : ∃ w1, Hid ((w.alloc (Obj.cells (gcells c p i) 42)).drew = w1) := ⟨_, hidE rfl⟩
  rw [hw1.out] at HB1 HZ1
  generalize hwg : World.drew _ = w1'
  have hwg' : (w.alloc (Obj.cells (gcells c p i) 42)).drew = w1' := hwg
  obtain rfl : w1 = w1' := hw1.out.symm.trans hwg'
  clear hw1 hwg hwg'
  refine wpAny_take (i := 0) (v := v) rfl (by kernel_rfl) (by kernel_rfl) (by kernel_rfl) (fun _ _ _ h => h) (Or.inl ⟨by rfl, by intro w; go_simp⟩) ?_
  refine wpAny_ready (rs := [1, 2]) (by kernel_rfl) (by simp) ?_
  refine AllReady.cons rfl (fun K hK => ?_) (AllReady.cons rfl (fun K hK => ?_) AllReady.nil)
  focus
    go_simp
    refine (HF.out w1 HB1.out).mono ?_
    rintro e w2 ⟨rfl, hb2⟩
    refine hK _ _ ?_
    clear hK K
    have hlt : w.heap.size < w1.heap.size := by
      rcases Nat.lt_or_ge w.heap.size w1.heap.size with h' | h'
      · exact h'
      · have := HZ1.out
        rw [Array.getElem?_eq_none h'] at this; cases this
    have HZ2 := hidE ((hb2.block _ hlt).trans HZ1.out)
    have HB2 := hidE (HB1.out.trans (hb2.mono HB1.out.size))
    clear hb2 hlt
    refine wpAny_ready (rs := [2]) (by kernel_rfl) (by simp) ?_
    refine AllReady.cons rfl (fun K hK => ?_) AllReady.nil
    refine step_load_g (by rfl) (.tmp 3) rfl w.heap.size rfl c i p _ _ HZ2.out ?_
    refine hK _ _ ?_
    clear hK K HZ2
  rotate_left
  focus
    refine step_load_g (by rfl) (.tmp 3) rfl w.heap.size rfl c i p _ _ HZ1.out ?_
    refine hK _ _ ?_
    clear hK K
    refine wpAny_ready (rs := [1]) (by kernel_rfl) (by simp) ?_
    refine AllReady.cons rfl (fun K hK => ?_) AllReady.nil
    go_simp
    refine (HF.out w1 HB1.out).mono ?_
    rintro e w2 ⟨rfl, hb2⟩
    refine hK _ _ ?_
    clear hK K
    have HB2 := hidE (HB1.out.trans (hb2.mono HB1.out.size))
    clear hb2
  all_goals
    refine wpAny_ready (rs := [3]) (by kernel_rfl) (by simp) ?_
    refine AllReady.cons rfl (fun K hK => ?_) AllReady.nil
    go_simp
    refine (samefault_g c i p w2).mono ?_
    rintro e w3 ⟨rfl, hb3⟩
    refine hK _ _ ?_
    clear hK K
    have hfin := HB2.out.trans (hb3.mono HB2.out.size)
    clear hb3
    refine wpAny_ready (rs := [4]) (by kernel_rfl) (by simp) ?_
    refine AllReady.cons rfl (fun K hK => ?_) AllReady.nil
    go_simp
    refine hK _ _ ?_
    clear hK K
    refine wpAny_done (by kernel_rfl) ?_ _
    go_wp2_with fail
    go_ret
    exact ⟨rfl, hfin⟩
theorem run_isat (g : Nat) (w : World) : (Instr.typeAssert (.iface 119 (.pointer (some ⟨g, 0, none⟩))) 32 119 true).run Tryd.prog w = .ok (.tuple #[.pointer (some ⟨g, 0, none⟩), .bool true]) w := by kernel_rfl
abbrev FatS (g : Nat) (w : World) (x y : Value) (W : World) : Prop := W.cell? ⟨g, 0, none⟩ = some x ∧ W.cell? ⟨g, 1, none⟩ = some y ∧ Hid (Below w.heap.size w W)
theorem FatS.keep {g : Nat} {w : World} {x y : Value} {W W' : World} (h : FatS g w x y W) (hb : Below W.heap.size W W') : FatS g w x y W' :=
  ⟨ten_kept h.1 hb, ten_kept h.2.1 hb, hide (h.2.2.out.trans (hb.mono h.2.2.out.size))⟩
theorem FatS.of {g : Nat} {w W : World} {x y : Value} {t : TypeId} (h : Has W g t [x, y]) (hb : Below w.heap.size w W) : FatS g w x y W :=
  ⟨by rw [h.cell]; rfl, by rw [h.cell]; rfl, hide hb⟩
set_option maxRecDepth 100000 in
set_option maxHeartbeats 4000000 in
theorem fault_at (es : List Addr) (j : Nat) (a : Addr) (hj : es[j]? = some a) (g : Nat) (i : Int) (w : World) (h : Ez w es) (hA : Has w g 122 [.int .i64 i, errv a]) :
    Calls Tryd.prog 53 #[.iface 119 (.pointer (some ⟨g, 0, none⟩))] w fun e w' => e = .returned (.agg (gcells (101 + j) true i)) ∧ Below w.heap.size w w' := by
  have hr := run_isat g
  have hgl := hA.lt
  have hb1 := (Below.refl _ w).alloc (Nat.le_refl _) (Obj.cells (fcells 0) 42)
  have hZ : Has (w.alloc (Obj.cells (fcells 0) 42)) w.heap.size 42 [.int .i64 0, .bool false, .int .i64 0] := Has.new w _ _
  have hA1 := hA.alloc (Obj.cells (fcells 0) 42)
  have HS := hide (fun W (hb : Below w.heap.size w W) => sentinel_c es j a hj W (h.below hb))
  have HP := hide (fun W => placed_c (101 + j) i (by omega) W)
  have c0 : (w.alloc (Obj.cells (fcells 0) 42)).cell? ⟨g, 0, none⟩ = some (.int .i64 i) := by rw [hA1.cell]; rfl
  have c1 : (w.alloc (Obj.cells (fcells 0) 42)).cell? ⟨g, 1, none⟩ = some (errv a) := by rw [hA1.cell]; rfl
  obtain ⟨k, hk⟩ : ∃ k, Hid ((101 + (j : Int)) = k) := ⟨_, hide rfl⟩
  rw [hk.out] at HS HP ⊢
  have HB1 := hide hb1
  have HZ := hide hZ
  have HA1 := hide hA1
  clear h hj hA hb1 hZ hA1
  go_enter Tryd.func53, Tryd.ntmps53
  go_wp2_with fail
  have HZ1 : Hid (Has (w.alloc (Obj.cells (fcells 0) 42)).drew w.heap.size 42 [.int .i64 0, .bool false, .int .i64 0]) := hide (HZ.out.drewN 1)
  have HA2 : Hid (Has (w.alloc (Obj.cells (fcells 0) 42)).drew g 122 [.int .i64 i, errv a]) := hide (HA1.out.drewN 1)
  have HB2 := hide HB1.out.drew
  have hS0 : FatS g w (.int .i64 i) (errv a) (w.alloc (Obj.cells (fcells 0) 42)).drew := ⟨c0, c1, HB2⟩
  clear c0 c1 HB1 HZ HA1
  go_region_held3 (fun W => W.cell? ⟨g, 0, none⟩ = some (.int .i64 i) ∧ W.cell? ⟨g, 1, none⟩ = some (errv a) ∧ Hid (Below w.heap.size w W))
    (first | exact hS0 | assumption | exact hS9.out | exact FatS.keep (by assumption) hb)
    (first
      | (go_at_call 83; refine (HS.out _ HB2.out).mono ?_; rintro e W2 ⟨rfl, hb⟩; have hz2 := HZ1.out.below hb HZ1.out.lt; have hB3 := HB2.out.trans (hb.mono HB2.out.size); have ha2 := HA2.out.below hb HA2.out.lt)
      | (go_at_call 16; refine (HP.out _).mono ?_; rintro e W3 ⟨rfl, hb⟩; have hz3 := hz2.below hb hz2.lt; have hB4 := hB3.trans (hb.mono hB3.size); have ha3 := ha2.below hb ha2.lt; have d0 : W3.cell? ⟨w.heap.size, 0, none⟩ = some (.int .i64 0) := (by rw [hz3.cell]; rfl); have d1 : W3.cell? ⟨w.heap.size, 1, none⟩ = some (.bool false) := (by rw [hz3.cell]; rfl); have d2 : W3.cell? ⟨w.heap.size, 2, none⟩ = some (.int .i64 0) := (by rw [hz3.cell]; rfl); have f0 := hz3.frozen 0; have f1 := hz3.frozen 1; have f2 := hz3.frozen 2; have HZ4 := hide (((hz3.set_ 0 (.int .i64 k)).set_ 1 (.bool true)).set_ 2 (.int .i64 i)); have HB5 := hide (((hB4.setCell (p := ⟨w.heap.size, 0, none⟩) (Nat.le_refl _) (.int .i64 k)).setCell (p := ⟨w.heap.size, 1, none⟩) (Nat.le_refl _) (.bool true)).setCell (p := ⟨w.heap.size, 2, none⟩) (Nat.le_refl _) (.int .i64 i)); have ha4 := ((ha3.far (p := ⟨w.heap.size, 0, none⟩) (by simp; omega) (.int .i64 k)).far (p := ⟨w.heap.size, 1, none⟩) (by simp; omega) (.bool true)).far (p := ⟨w.heap.size, 2, none⟩) (by simp; omega) (.int .i64 i); have hS9 := hide (FatS.of ha4 HB5.out)))
  go_wp2_with fail
  refine bodyPost_ret (results_cell_row rfl _ _ w.heap.size 42 (gcells k true i) (0, 0) _ rfl HZ4.out Tryd.underlying42 rfl (gsize k i true)) rfl ?_
  exact ⟨rfl, HB5.out⟩
end Go.Proofs.YthjnkaikjjjceaaDoor
