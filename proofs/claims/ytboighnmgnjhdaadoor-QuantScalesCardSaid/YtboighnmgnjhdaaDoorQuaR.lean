/-
  The narrow numbers of three numbers. By an AI agent. No person has read it.
-/
import Derived.Test.YtboighnmgnjhdaaDoorQuaQ
import Derived.Laws.OwnMore
import Derived.LoopN
namespace Go.Proofs.YtboighnmgnjhdaaDoor
open Go.RowKit
open Ieee

theorem qi64info : ∃ i : TypeInfo, Tryd.prog.info? 3 = some i ∧ i.zero = some (.int .i64 0) ∧ i.size = 1 ∧ i.bytes = 8 := by
  obtain ⟨i, hi⟩ : ∃ i, Tryd.prog.info? 3 = some i := by
    refine Option.isSome_iff_exists.1 ?_
    kernel_rfl
  have h1 : (Tryd.prog.info? 3).bind (·.zero) = some (.int .i64 0) := by kernel_rfl
  have h2 : (Tryd.prog.info? 3).map (·.size) = some 1 := by kernel_rfl
  have h3 : (Tryd.prog.info? 3).map (·.bytes) = some 8 := by kernel_rfl
  rw [hi] at h1 h2 h3
  exact ⟨i, hi, by simpa using h1, by simpa using h2, by simpa using h3⟩
theorem quis : Tryd.prog.underlying 40 = some (.slice 3) := by kernel_rfl
theorem made_three (w : World) : (Instr.makeSlice 40 (.int .i64 3) (.int .i64 3)).run Tryd.prog w = .ok (.slice (some ⟨w.heap.size, 0, none⟩) 3 3) (w.alloc (.cells #[.int .i64 0, .int .i64 0, .int .i64 0] 3)) := by
  obtain ⟨i0, hi0, hz0, hz1, hz2⟩ := qi64info
  have h := run_make (P := Tryd.prog) w 40 3 i0 (.int .i64 0) quis hi0 hz0 .i64 .i64 3 3 (by omega) (by omega) (by rw [hz2]; omega) (by omega)
  rw [hz1, show ((3 : Int).toNat * 1) = 3 from rfl, show (3 : Int).toNat = 3 from rfl] at h
  have hZ : madeCells (Value.int .i64 0).cells 3 = #[.int .i64 0, .int .i64 0, .int .i64 0] := by
    apply Array.ext'
    rw [show (Value.int .i64 0).cells = #[Value.int .i64 0] from rfl, toList_madeCells_one]
    simp
  rw [hZ] at h
  exact h
set_option maxRecDepth 100000 in
set_option maxHeartbeats 4000000 in
theorem all_three (b : Nat) (z : Int) (hz : -128 ≤ z ∧ z ≤ 127) (x0 x1 x2 g : Nat) (t : TypeId) (w : World) (hx : Has w g t [.float .f64 x0, .float .f64 x1, .float .f64 x2]) :
    Calls Tryd.prog 26 #[.agg #[.float .f64 b, .int .i64 z], .slice (some ⟨g, 0, none⟩) 3 3] w fun e w' => (∃ G, e = .returned (.slice (some ⟨G, 0, none⟩) 3 3) ∧ w.heap.size ≤ G ∧ Has w' G 3 [.int .i64 (Qua.of b z x0), .int .i64 (Qua.of b z x1), .int .i64 (Qua.of b z x2)]) ∧ Below w.heap.size w w' := by
  have H0 := hide (of_c b x0 z hz)
  have H1 := hide (of_c b x1 z hz)
  have H2 := hide (of_c b x2 z hz)
  obtain ⟨v0, hv0⟩ : ∃ r, Hid (Qua.of b z x0 = r) := ⟨_, hide rfl⟩
  obtain ⟨v1, hv1⟩ : ∃ r, Hid (Qua.of b z x1 = r) := ⟨_, hide rfl⟩
  obtain ⟨v2, hv2⟩ : ∃ r, Hid (Qua.of b z x2 = r) := ⟨_, hide rfl⟩
  rw [hv0.out] at H0 ⊢
  rw [hv1.out] at H1 ⊢
  rw [hv2.out] at H2 ⊢
  clear hv0 hv1 hv2 hz
  have hmk := made_three
  have hs : Has ((w.alloc (.cells #[.float .f64 b, .int .i64 z] 33)).alloc (.cells #[.int .i64 0, .int .i64 0, .int .i64 0] 3)) w.heap.size 33 [.float .f64 b, .int .i64 z] := (Has.new w 33 [.float .f64 b, .int .i64 z]).alloc _
  have ho : Has ((w.alloc (.cells #[.float .f64 b, .int .i64 z] 33)).alloc (.cells #[.int .i64 0, .int .i64 0, .int .i64 0] 3)) (w.heap.size + 1) 3 [.int .i64 0, .int .i64 0, .int .i64 0] := by
    have h := Has.new (w.alloc (.cells #[.float .f64 b, .int .i64 z] 33)) 3 [.int .i64 0, .int .i64 0, .int .i64 0]
    simpa using h
  have hlt := hx.lt
  have hx' : Has ((w.alloc (.cells #[.float .f64 b, .int .i64 z] 33)).alloc (.cells #[.int .i64 0, .int .i64 0, .int .i64 0] 3)) g t [.float .f64 x0, .float .f64 x1, .float .f64 x2] := (hx.alloc _).alloc _
  have hB : Below w.heap.size w ((w.alloc (.cells #[.float .f64 b, .int .i64 z] 33)).alloc (.cells #[.int .i64 0, .int .i64 0, .int .i64 0] 3)) := ((Below.refl w.heap.size w).alloc (Nat.le_refl _) _).alloc (by simp) _
  have HS := hide hs
  have HO := hide ho
  have HX := hide hx'
  have HB := hide hB
  clear hs ho hx' hB hx
  go_enter Tryd.func26, Tryd.ntmps26
  go_wp2_with fail
  generalize ((w.alloc (.cells #[.float .f64 b, .int .i64 z] 33)).alloc (.cells #[.int .i64 0, .int .i64 0, .int .i64 0] 3)) = W0 at *
  refine wp_loop_rounds 4 ?_
  rw [rounds_succ]
  have c0 : W0.cell? ⟨w.heap.size, 0, none⟩ = some (.float .f64 b) := HS.out.cell 0
  have c1 : W0.cell? ⟨w.heap.size, 1, none⟩ = some (.int .i64 z) := HS.out.cell 1
  have c2 : W0.cell? ⟨g, 0, none⟩ = some (.float .f64 x0) := HX.out.cell 0
  go_wp2_with fail
  refine (H0.out _).mono ?_
  rintro e w1 ⟨rfl, hb⟩
  clear c0 c1 c2
  have hs1 := HS.out.below hb HS.out.lt
  have hx1 := HX.out.below hb HX.out.lt
  have ho1 := HO.out.below hb HO.out.lt
  have hB1 := HB.out.trans (hb.mono HB.out.size)
  clear HS HX HO HB hb
  have c3 : w1.cell? ⟨w.heap.size + 1, 0, none⟩ = some (.int .i64 0) := ho1.cell 0
  have f3 := ho1.frozen 0
  have HS := hide (hs1.far (p := ⟨w.heap.size + 1, 0, none⟩) (by simp) (.int .i64 v0))
  have HX := hide (hx1.far (p := ⟨w.heap.size + 1, 0, none⟩) (by simp; omega) (.int .i64 v0))
  have HO := hide (ho1.set_ 0 (.int .i64 v0))
  have HB := hide (hB1.setCell (p := ⟨w.heap.size + 1, 0, none⟩) (by simp) (.int .i64 v0))
  clear hs1 hx1 ho1 hB1
  go_wp2_with fail
  generalize w1.setCell ⟨w.heap.size + 1, 0, none⟩ (.int .i64 v0) = W1 at *
  clear c3 f3
  rw [rounds_succ]
  have c0 : W1.cell? ⟨w.heap.size, 0, none⟩ = some (.float .f64 b) := HS.out.cell 0
  have c1 : W1.cell? ⟨w.heap.size, 1, none⟩ = some (.int .i64 z) := HS.out.cell 1
  have c2 : W1.cell? ⟨g, 1, none⟩ = some (.float .f64 x1) := HX.out.cell 1
  go_wp2_with fail
  refine (H1.out _).mono ?_
  rintro e w1 ⟨rfl, hb⟩
  clear c0 c1 c2
  have hs1 := HS.out.below hb HS.out.lt
  have hx1 := HX.out.below hb HX.out.lt
  have ho1 := HO.out.below hb HO.out.lt
  have hB1 := HB.out.trans (hb.mono HB.out.size)
  clear HS HX HO HB hb
  have c3 : w1.cell? ⟨w.heap.size + 1, 1, none⟩ = some (.int .i64 0) := ho1.cell 1
  have f3 := ho1.frozen 1
  have HS := hide (hs1.far (p := ⟨w.heap.size + 1, 1, none⟩) (by simp) (.int .i64 v1))
  have HX := hide (hx1.far (p := ⟨w.heap.size + 1, 1, none⟩) (by simp; omega) (.int .i64 v1))
  have HO := hide (ho1.set_ 1 (.int .i64 v1))
  have HB := hide (hB1.setCell (p := ⟨w.heap.size + 1, 1, none⟩) (by simp) (.int .i64 v1))
  clear hs1 hx1 ho1 hB1
  go_wp2_with fail
  generalize w1.setCell ⟨w.heap.size + 1, 1, none⟩ (.int .i64 v1) = W2 at *
  clear c3 f3
  rw [rounds_succ]
  have c0 : W2.cell? ⟨w.heap.size, 0, none⟩ = some (.float .f64 b) := HS.out.cell 0
  have c1 : W2.cell? ⟨w.heap.size, 1, none⟩ = some (.int .i64 z) := HS.out.cell 1
  have c2 : W2.cell? ⟨g, 2, none⟩ = some (.float .f64 x2) := HX.out.cell 2
  go_wp2_with fail
  refine (H2.out _).mono ?_
  rintro e w1 ⟨rfl, hb⟩
  clear c0 c1 c2
  have hs1 := HS.out.below hb HS.out.lt
  have hx1 := HX.out.below hb HX.out.lt
  have ho1 := HO.out.below hb HO.out.lt
  have hB1 := HB.out.trans (hb.mono HB.out.size)
  clear HS HX HO HB hb
  have c3 : w1.cell? ⟨w.heap.size + 1, 2, none⟩ = some (.int .i64 0) := ho1.cell 2
  have f3 := ho1.frozen 2
  have HO := hide (ho1.set_ 2 (.int .i64 v2))
  have HB := hide (hB1.setCell (p := ⟨w.heap.size + 1, 2, none⟩) (by simp) (.int .i64 v2))
  clear hs1 hx1 ho1 hB1
  go_wp2_with fail
  generalize w1.setCell ⟨w.heap.size + 1, 2, none⟩ (.int .i64 v2) = W3 at *
  clear c3 f3
  rw [rounds_succ]
  go_wp2_with fail
  go_ret
  exact ⟨⟨w.heap.size + 1, rfl, by omega, HO.out⟩, HB.out⟩
end Go.Proofs.YtboighnmgnjhdaaDoor
