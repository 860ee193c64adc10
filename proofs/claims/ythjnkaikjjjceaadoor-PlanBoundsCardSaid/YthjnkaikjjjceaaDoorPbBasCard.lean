/-
  What the cards of a seat share. By an AI agent. No person has read it.
-/
import Derived.Test.YthjnkaikjjjceaaDoorPbBasA
import Derived.Test.YthjnkaikjjjceaaDoorPbErrA
import Derived.Test.YthjnkaikjjjceaaDoorCards
import Derived.Test.YthjnkaikjjjceaaDoorTie
import Derived.ProofKit
import Derived.OpenShut
import Derived.ChangeOld
import Derived.Deep.DeepHandedRow
import Derived.Lay
import Derived.Deep.DeepWitnessRowRef
import Derived.StillTailTactics
import Derived.LoopN
import Derived.WalkLawsBesides
import Derived.Laws.Alloc2
import Derived.Laws.Build
namespace Go.Proofs.YthjnkaikjjjceaaDoor
open Go.ChangeShapes Go.WideShapes Go.ChangeAt Go.RowKit
theorem own : ownKnob Tryd.prog.godebug = none := by kernel_rfl
theorem laidOut : laidOutB Tryd.prog = true := by kernel_rfl
theorem uInt : Tryd.prog.underlying 3 = some (.int .i64) := by kernel_rfl
/-- What the errors' list gives. -/
theorem errs_laid {W : World} (h : laidMetH Tryd.prog laidErrs W) : ∃ es, Ez W es := ez_of (show laidMet Tryd.prog laidErrs W from h)
end Go.Proofs.YthjnkaikjjjceaaDoor
namespace Go.Proofs.YthjnkaikjjjceaaDoor
open Go.RowKit
theorem ez_list {w : World} {es : List Addr} (h : Ez w es) : ∃ a0 a1 a2 a3 a4 a5 a6 a7 a8 a9 a10 a11 a12 a13 a14 a15 a16 a17 a18 a19 a20, es = [a0, a1, a2, a3, a4, a5, a6, a7, a8, a9, a10, a11, a12, a13, a14, a15, a16, a17, a18, a19, a20] := by
  obtain ⟨h, -, -⟩ := h
  match es, h with
  | [a0, a1, a2, a3, a4, a5, a6, a7, a8, a9, a10, a11, a12, a13, a14, a15, a16, a17, a18, a19, a20], _ => exact ⟨_, _, _, _, _, _, _, _, _, _, _, _, _, _, _, _, _, _, _, _, _, rfl⟩
set_option maxRecDepth 100000 in
theorem sentinels_c (es : List Addr) (w : World) (h : Ez w es) :
    Calls Tryd.prog 102 #[] w fun e w' => e = .returned (.slice (some ⟨w.heap.size, 0, none⟩) 21 21) ∧ w' = w.alloc (.cells (es.map errv).toArray 32) := by
  obtain ⟨a0, a1, a2, a3, a4, a5, a6, a7, a8, a9, a10, a11, a12, a13, a14, a15, a16, a17, a18, a19, a20, rfl⟩ := ez_list h
  have c0 : w.cell? ⟨4, 0, none⟩ = some (errv a0) := (h.2.2 0 _ _ rfl rfl).1
  have c1 : w.cell? ⟨2, 0, none⟩ = some (errv a1) := (h.2.2 1 _ _ rfl rfl).1
  have c2 : w.cell? ⟨0, 0, none⟩ = some (errv a2) := (h.2.2 2 _ _ rfl rfl).1
  have c3 : w.cell? ⟨1, 0, none⟩ = some (errv a3) := (h.2.2 3 _ _ rfl rfl).1
  have c4 : w.cell? ⟨3, 0, none⟩ = some (errv a4) := (h.2.2 4 _ _ rfl rfl).1
  have c5 : w.cell? ⟨5, 0, none⟩ = some (errv a5) := (h.2.2 5 _ _ rfl rfl).1
  have c6 : w.cell? ⟨6, 0, none⟩ = some (errv a6) := (h.2.2 6 _ _ rfl rfl).1
  have c7 : w.cell? ⟨7, 0, none⟩ = some (errv a7) := (h.2.2 7 _ _ rfl rfl).1
  have c8 : w.cell? ⟨8, 0, none⟩ = some (errv a8) := (h.2.2 8 _ _ rfl rfl).1
  have c9 : w.cell? ⟨9, 0, none⟩ = some (errv a9) := (h.2.2 9 _ _ rfl rfl).1
  have c10 : w.cell? ⟨10, 0, none⟩ = some (errv a10) := (h.2.2 10 _ _ rfl rfl).1
  have c11 : w.cell? ⟨11, 0, none⟩ = some (errv a11) := (h.2.2 11 _ _ rfl rfl).1
  have c12 : w.cell? ⟨12, 0, none⟩ = some (errv a12) := (h.2.2 12 _ _ rfl rfl).1
  have c13 : w.cell? ⟨13, 0, none⟩ = some (errv a13) := (h.2.2 13 _ _ rfl rfl).1
  have c14 : w.cell? ⟨14, 0, none⟩ = some (errv a14) := (h.2.2 14 _ _ rfl rfl).1
  have c15 : w.cell? ⟨15, 0, none⟩ = some (errv a15) := (h.2.2 15 _ _ rfl rfl).1
  have c16 : w.cell? ⟨16, 0, none⟩ = some (errv a16) := (h.2.2 16 _ _ rfl rfl).1
  have c17 : w.cell? ⟨17, 0, none⟩ = some (errv a17) := (h.2.2 17 _ _ rfl rfl).1
  have c18 : w.cell? ⟨18, 0, none⟩ = some (errv a18) := (h.2.2 18 _ _ rfl rfl).1
  have c19 : w.cell? ⟨19, 0, none⟩ = some (errv a19) := (h.2.2 19 _ _ rfl rfl).1
  have c20 : w.cell? ⟨20, 0, none⟩ = some (errv a20) := (h.2.2 20 _ _ rfl rfl).1
  clear h
  go_enter Tryd.func102, Tryd.ntmps102
  go_wp2_with fail
  go_ret
  exact ⟨rfl, rfl⟩
theorem comp_perrs : ∃ i j : TypeInfo, Tryd.prog.info? 154 = some i ∧ i.comparable = true ∧ Tryd.prog.info? 170 = some j ∧ j.size ≠ 0 := by
  obtain ⟨i, hi⟩ : ∃ i, Tryd.prog.info? 154 = some i := by
    refine Option.isSome_iff_exists.1 ?_
    kernel_rfl
  obtain ⟨j, hj⟩ : ∃ j, Tryd.prog.info? 170 = some j := by
    refine Option.isSome_iff_exists.1 ?_
    kernel_rfl
  have h1 : (Tryd.prog.info? 154).map (·.comparable) = some true := by kernel_rfl
  have h2 : (Tryd.prog.info? 170).map (·.size) = some 1 := by kernel_rfl
  rw [hi] at h1
  rw [hj] at h2
  refine ⟨i, j, hi, by simpa using h1, hj, ?_⟩
  have h3 : j.size = 1 := by simpa using h2
  rw [h3]
  decide
theorem run_eql_errs {w : World} {a b : Addr} (ha : ∃ c t, w.heap[a.block]? = some (.cells c t (0, 0))) (hb : ∃ c t, w.heap[b.block]? = some (.cells c t (0, 0))) :
    (binOp .eql 32 (errv a) (errv b)).run Tryd.prog w = .ok (.bool (decide (a = b))) w := by
  obtain ⟨i, j, hi, hc, hj, hs⟩ := comp_perrs
  by_cases h : a = b
  · subst h
    rw [decide_eq_true rfl]
    exact run_eql_iface_ptr_same w a und_err und_perrs hi hc hj
  · rw [decide_eq_false h]
    obtain ⟨ca, ta, ha⟩ := ha
    obtain ⟨cb, tb, hb⟩ := hb
    exact run_eql_iface_ptr_other w und_err und_perrs hi hc hj hs h ha hb
set_option maxRecDepth 100000 in
theorem alike_c (a b : Addr) (w : World) (ha : ∃ c t, w.heap[a.block]? = some (.cells c t (0, 0))) (hb : ∃ c t, w.heap[b.block]? = some (.cells c t (0, 0))) :
    Calls Tryd.prog 103 #[errv a, errv b] w fun e w' => e = .returned (.bool (decide (a = b))) ∧ w' = w := by
  have hr := run_eql_errs ha hb
  clear ha hb
  obtain ⟨d, hd⟩ : ∃ d, decide (a = b) = d := ⟨_, rfl⟩
  rw [hd] at hr ⊢
  clear hd
  go_enter Tryd.func103, Tryd.ntmps103
  go_wp2_with fail
  go_ret
  exact ⟨rfl, rfl⟩
end Go.Proofs.YthjnkaikjjjceaaDoor
