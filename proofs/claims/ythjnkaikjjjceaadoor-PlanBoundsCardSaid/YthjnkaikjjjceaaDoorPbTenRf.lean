/-
  Package tens's Read over bytes that begin with no desc. By an AI agent. No person has read it.
-/
import Derived.Test.YthjnkaikjjjceaaDoorPbTenRe
import Derived.Test.YthjnkaikjjjceaaDoorPbTenOf
namespace Go.Proofs.YthjnkaikjjjceaaDoor
open Go.RowKit
theorem results_tens3 {fn : Func} {p u x : Tmp} (h : fn.results = #[.cell p 70, .tmp u, .tmp x]) (tmps : Array Value) (w : World) (g : Nat) (a b c : Value)
    (hp : tmps.getD p undef = .pointer (some ⟨g, 0, none⟩)) (hg : Has w g 70 [a, b, c]) : (results fn tmps).run Tryd.prog w = .ok (.tuple #[.agg #[a, b, c], tmps.getD u undef, tmps.getD x undef]) w := by
  simp only [results, h]
  have h1 := run_loadVar_row (P := Tryd.prog) w g 70 70 #[a, b, c] (0, 0) _ hg Tryd.underlying70 rfl (by kernel_rfl)
  rw [Array.getD_eq_getD_getElem?] at hp
  simp [Result.andThen, hp, asAddr, h1]
/-- The call's own tensor, a Reader. -/
theorem tread_two (w : World) (r : Value) : Below w.heap.size w ((w.alloc (Obj.cells #[.slice none 0 0, .bool false, .slice none 0 0] 70)).alloc (Obj.cells #[r, .int .i64 0, .nilIface] 118)) ∧
    Has ((w.alloc (Obj.cells #[.slice none 0 0, .bool false, .slice none 0 0] 70)).alloc (Obj.cells #[r, .int .i64 0, .nilIface] 118)) w.heap.size 70 [.slice none 0 0, .bool false, .slice none 0 0] ∧
    Has ((w.alloc (Obj.cells #[.slice none 0 0, .bool false, .slice none 0 0] 70)).alloc (Obj.cells #[r, .int .i64 0, .nilIface] 118)) (w.heap.size + 1) 118 [r, .int .i64 0, .nilIface] := by
  refine ⟨((Below.refl _ w).alloc (Nat.le_refl _) _).alloc (by simp) _, (Has.new w _ [.slice none 0 0, .bool false, .slice none 0 0]).alloc _, ?_⟩
  have h := Has.new (w.alloc (Obj.cells #[.slice none 0 0, .bool false, .slice none 0 0] 70)) 118 [r, .int .i64 0, .nilIface]
  simpa using h
set_option maxRecDepth 100000 in
set_option maxHeartbeats 4000000 in
theorem tread_bad (A : Option Addr) (len cap : Nat) (a : Addr) (w : World)
    (HD : Hid (Calls Tryd.prog 37 #[.pointer (some ⟨w.heap.size + 1, 0, none⟩)] ((w.alloc (Obj.cells #[.slice none 0 0, .bool false, .slice none 0 0] 70)).alloc (Obj.cells #[.slice A len cap, .int .i64 0, .nilIface] 118)) fun e w' => (∃ B n c u, e = .returned (.agg (dcells B n c u))) ∧ (∃ x y v, Has w' (w.heap.size + 1) 118 [x, y, v] ∧ AloneV w' a v) ∧ ((w.alloc (Obj.cells #[.slice none 0 0, .bool false, .slice none 0 0] 70)).alloc (Obj.cells #[.slice A len cap, .int .i64 0, .nilIface] 118)).grownBy w' (some (w.heap.size + 1)))) :
    Calls Tryd.prog 38 #[.slice A len cap] w fun e w' => e = .returned (.tuple #[.agg (tcells none 0 0 false none 0 0), .int .i64 0, errv a]) ∧ Below w.heap.size w w' := by
  obtain ⟨hb1, hT, -⟩ := tread_two w (.slice A len cap)
  have HB := hide hb1
  have HT := hide hT
  clear hb1 hT
  go_enter Tryd.func38, Tryd.ntmps38
  go_wp2_with fail
  refine (read_c A len cap _).mono ?_
  rintro e w1 ⟨rfl, hw1⟩
  rw [← hw1] at HD HB HT
  have hs0 : (w.alloc (Obj.cells #[.slice none 0 0, .bool false, .slice none 0 0] 70)).heap.size = w.heap.size + 1 := by simp
  have hs1 : w1.heap.size = w.heap.size + 2 := by rw [hw1]; simp
  rw [hs0]
  clear hw1 hs0
  go_wp2_with fail
  refine HD.out.mono ?_
  rintro e w2 ⟨⟨B, n, c, u, rfl⟩, ⟨x, y, v, hR, hv⟩, hg⟩
  have hB2 := HB.out.grown hg (by omega) (fun k e => by cases e; omega)
  have hT2 := HT.out.grown hg (by intro h; injection h; omega)
  have hR3 := hR.alloc (Obj.cells #[.slice B n c, .bool u] 59)
  have hT3 := hT2.alloc (Obj.cells #[.slice B n c, .bool u] 59)
  have hB3 := hB2.alloc hB2.size (Obj.cells #[.slice B n c, .bool u] 59)
  have hv3 : AloneV (w2.alloc (Obj.cells #[.slice B n c, .bool u] 59)) a v := hv.imp id (fun ⟨g2, i, h1, h2⟩ => ⟨g2, i, h1, h2.alloc _⟩)
  have HR := hide hR3
  have HT3 := hide hT3
  have HB3 := hide hB3
  have HV := hide hv3
  clear HD HB HT hR hv hg hB2 hT2 hR3 hT3 hB3 hv3 hs1
  go_wp2_with fail
  generalize w2.alloc (Obj.cells #[.slice B n c, .bool u] 59) = W at *
  refine (rerr_c _ _ _ _ _ HR.out).mono ?_
  rintro e w3 ⟨rfl, rfl⟩
  go_wp2_with fail
  refine (alone_v HV.out).mono ?_
  rintro e w4 ⟨rfl, rfl⟩
  have hT := HT3.out
  have d0 : w4.cell? ⟨w.heap.size, 0, none⟩ = some (.slice none 0 0) := by rw [hT.cell]; rfl
  have d1 : w4.cell? ⟨w.heap.size, 1, none⟩ = some (.bool false) := by rw [hT.cell]; rfl
  have d2 : w4.cell? ⟨w.heap.size, 2, none⟩ = some (.slice none 0 0) := by rw [hT.cell]; rfl
  have f0 := hT.frozen 0
  have f1 := hT.frozen 1
  have f2 := hT.frozen 2
  have HZ' := hide (((hT.set_ 0 (.slice none 0 0)).set_ 1 (.bool false)).set_ 2 (.slice none 0 0))
  have HF' := hide (((HB3.out.setCell (p := ⟨w.heap.size, 0, none⟩) (Nat.le_refl _) (.slice none 0 0)).setCell (p := ⟨w.heap.size, 1, none⟩) (Nat.le_refl _) (.bool false)).setCell (p := ⟨w.heap.size, 2, none⟩) (Nat.le_refl _) (.slice none 0 0))
  clear hT HR HT3 HB3 HV
  go_wp2_with fail
  refine bodyPost_ret (results_tens3 rfl _ _ w.heap.size _ _ _ rfl HZ'.out) rfl ?_
  exact ⟨rfl, HF'.out⟩
end Go.Proofs.YthjnkaikjjjceaaDoor
