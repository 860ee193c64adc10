/-
  cells.fill, by op, given what fills: MatMul, Turn. By an AI agent. No person has read it.
-/
import Derived.Test.YtkehdgjdieemkaaDoorCelA
import Derived.StillTailTactics
namespace Go.Proofs.YtkehdgjdieemkaaDoor
open Go.RowKit

/-- The cells of the one, of both tensors of a row. -/
theorem row_one {w : World} {B : Option Addr} {a : Ten} (h : Row w B ([a].flatMap Ten.vals)) : ∃ ad, B = some ad ∧ ad.block < w.heap.size ∧ w.cell? ad = some (.slice a.P a.zs.length a.cap) ∧ w.cell? ⟨ad.block, ad.off + 1, none⟩ = some (.bool a.u) ∧ w.cell? ⟨ad.block, ad.off + 2, none⟩ = some (.slice a.D a.ds.length a.dcap) := by
  obtain ⟨ad, h1, h2, h3⟩ := h (by simp [Ten.vals])
  have c0 := h3 0 _ rfl
  have c1 := h3 1 _ rfl
  have c2 := h3 2 _ rfl
  rw [Addr.add_zero'] at c0
  simp only [Addr.add, Nat.reduceEqDiff, if_false] at c1 c2
  exact ⟨ad, h1, h2, c0, c1, c2⟩
theorem row_two {w : World} {B : Option Addr} {a b : Ten} (h : Row w B ([a, b].flatMap Ten.vals)) : ∃ ad, B = some ad ∧ ad.block < w.heap.size ∧ w.cell? ad = some (.slice a.P a.zs.length a.cap) ∧ w.cell? ⟨ad.block, ad.off + 1, none⟩ = some (.bool a.u) ∧ w.cell? ⟨ad.block, ad.off + 2, none⟩ = some (.slice a.D a.ds.length a.dcap) ∧
    w.cell? ⟨ad.block, ad.off + 3, none⟩ = some (.slice b.P b.zs.length b.cap) ∧ w.cell? ⟨ad.block, ad.off + 4, none⟩ = some (.bool b.u) ∧ w.cell? ⟨ad.block, ad.off + 5, none⟩ = some (.slice b.D b.ds.length b.dcap) := by
  obtain ⟨ad, h1, h2, h3⟩ := h (by simp [Ten.vals])
  have c0 := h3 0 _ rfl
  have c1 := h3 1 _ rfl
  have c2 := h3 2 _ rfl
  have c3 := h3 3 _ rfl
  have c4 := h3 4 _ rfl
  have c5 := h3 5 _ rfl
  rw [Addr.add_zero'] at c0
  simp only [Addr.add, Nat.reduceEqDiff, if_false] at c1 c2 c3 c4 c5
  exact ⟨ad, h1, h2, c0, c1, c2, c3, c4, c5⟩
/-- Two numbers of a row. -/
theorem ri_pair {w : World} {A : Option Addr} {x y : Int} (h : Ri w A [x, y]) : ∃ ad, A = some ad ∧ w.cell? ad = some (.int .i64 x) ∧ w.cell? ⟨ad.block, ad.off + 1, none⟩ = some (.int .i64 y) := by
  obtain ⟨ad, h1, -, h3⟩ := h.2 (by simp)
  have c0 := h3 0 x rfl
  have c1 := h3 1 y rfl
  rw [Addr.add_zero'] at c0
  simp only [Addr.add, Nat.reduceEqDiff, if_false] at c1
  exact ⟨ad, h1, c0, c1⟩
set_option maxRecDepth 100000 in
set_option maxHeartbeats 8000000 in
theorem fill_turn (H : World → Prop) (a : Ten) (A B : Option Addr) (nq qcap bcap ocap f n : Nat) (g : Option Addr) (w : World) (hR : Row w B ([a].flatMap Ten.vals))
    (hV : Calls Tryd.prog 95 #[.slice g n ocap, .int .i64 f, .agg (tcells a.P a.zs.length a.cap a.u a.D a.ds.length a.dcap)] w fun e w' => e = .returned (.tuple #[]) ∧ H w') :
    Calls Tryd.prog 87 #[.slice g n ocap, .int .i64 f, .int .i64 21, .slice A nq qcap, .slice B 1 bcap] w fun e w' => e = .returned (.tuple #[]) ∧ H w' := by
  obtain ⟨ad, rfl, -, c0, c1, c2⟩ := row_one hR
  have V := hide hV
  clear hR hV
  go_enter Tryd.func87, Tryd.ntmps87
  go_wp2_with fail
  refine V.out.mono ?_
  rintro e w1 ⟨rfl, h1⟩
  go_wp2_with fail
  refine bodyPost_end (results_none rfl _ _ _) rfl ?_
  exact ⟨rfl, h1⟩
set_option maxRecDepth 100000 in
set_option maxHeartbeats 8000000 in
theorem fill_mat (H : World → Prop) (a b : Ten) (za zb : Int) (A B : Option Addr) (qcap bcap ocap f n : Nat) (g : Option Addr) (w : World) (hQ : Ri w A [za, zb]) (hR : Row w B ([a, b].flatMap Ten.vals))
    (hV : Calls Tryd.prog 94 #[.slice g n ocap, .int .i64 f, .agg (tcells a.P a.zs.length a.cap a.u a.D a.ds.length a.dcap), .agg (tcells b.P b.zs.length b.cap b.u b.D b.ds.length b.dcap), .int .i64 za, .int .i64 zb] w.drew fun e w' => e = .returned (.tuple #[]) ∧ H w') :
    Calls Tryd.prog 87 #[.slice g n ocap, .int .i64 f, .int .i64 12, .slice A 2 qcap, .slice B 2 bcap] w fun e w' => e = .returned (.tuple #[]) ∧ H w' := by
  obtain ⟨ad, rfl, -, c0, c1, c2, c3, c4, c5⟩ := row_two hR
  obtain ⟨aq, rfl, q0, q1⟩ := ri_pair hQ
  have V := hide hV
  clear hR hV hQ
  go_enter Tryd.func87, Tryd.ntmps87
  go_wp2_with fail
  go_still_tail 14, (by kernel_rfl)
  change wpList _ _ _ _ _ w.drew
  go_wp2_with fail
  refine V.out.mono ?_
  rintro e w1 ⟨rfl, h1⟩
  go_wp2_with fail
  refine bodyPost_end (results_none rfl _ _ _) rfl ?_
  exact ⟨rfl, h1⟩
end Go.Proofs.YtkehdgjdieemkaaDoor
