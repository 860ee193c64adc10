/-
  Rows of ints of the call's own; lodgeworld.Number. By an AI agent. No person has read it.
-/
import Derived.Test.YtemaaipgjghlaaaDoorBasB
import Derived.Laws.OwnMore
namespace Go.Proofs.YtemaaipgjghlaaaDoor
open Go.RowKit

set_option maxRecDepth 100000 in
theorem number_c (n : Int) (m : Nat) (h0 : 0 < m) (hm : m ≤ 4611686018427387904) (M : Int) (hM : M = (m : Int)) (w : World) :
    Calls Tryd.prog 10 #[.int .i64 n, .int .i64 M] w fun e w' => (∃ k : Nat, k < m ∧ e = .returned (.int .i64 k)) ∧ w' = w := by
  subst hM
  have e1 : n.tmod (m : Int) < m := Int.tmod_lt_of_pos n (by omega)
  have e2 : -(m : Int) < n.tmod (m : Int) := by
    have := Int.tmod_lt_of_pos (-n) (b := (m : Int)) (by omega)
    rw [Int.neg_tmod] at this
    omega
  obtain ⟨a, ha⟩ : ∃ a, Hid (n.tmod (m : Int) + m = a) := ⟨_, hide rfl⟩
  have ha0 : 0 < a := by have := ha.out; omega
  have ha1 : a ≤ 9223372036854775807 := by have := ha.out; omega
  have e3 : a.tmod (m : Int) = a % m := Int.tmod_eq_emod_of_nonneg (by omega)
  have e4 : 0 ≤ a % (m : Int) := Int.emod_nonneg _ (by omega)
  have e5 : a % (m : Int) < m := Int.emod_lt_of_pos _ (by omega)
  obtain ⟨k, hk⟩ : ∃ k : Nat, a % (m : Int) = (k : Int) := ⟨(a % (m : Int)).toNat, by omega⟩
  have hx := ha.out
  have h0' : (m : Int) ≠ 0 := by omega
  go_enter Tryd.func10, Tryd.ntmps10
  go_wp2_with fail
  go_ret
  exact ⟨⟨k, by omega, rfl⟩, rfl⟩
abbrev i64s (zs : List Int) : List Value := zs.map fun z => Value.int .i64 z
theorem i64info : ∃ i : TypeInfo, Tryd.prog.info? 3 = some i ∧ i.zero = some (.int .i64 0) ∧ i.size = 1 ∧ i.bytes = 8 := by
  obtain ⟨i, hi⟩ : ∃ i, Tryd.prog.info? 3 = some i := by
    refine Option.isSome_iff_exists.1 ?_
    kernel_rfl
  have h1 : (Tryd.prog.info? 3).bind (·.zero) = some (.int .i64 0) := by kernel_rfl
  have h2 : (Tryd.prog.info? 3).map (·.size) = some 1 := by kernel_rfl
  have h3 : (Tryd.prog.info? 3).map (·.bytes) = some 8 := by kernel_rfl
  rw [hi] at h1 h2 h3
  exact ⟨i, hi, by simpa using h1, by simpa using h2, by simpa using h3⟩
theorem uis : Tryd.prog.underlying 33 = some (.slice 3) := by kernel_rfl
/-- make([]int, n). -/
theorem made_ints (n : Nat) (hn : n ≤ 1000000) : ∃ Z : Array Value, Hid (Z = (i64s (List.replicate n 0)).toArray) ∧ ∀ w : World, (Instr.makeSlice 33 (.int .i64 n) (.int .i64 n)).run Tryd.prog w = .ok (.slice (some ⟨w.heap.size, 0, none⟩) n n) (w.alloc (.cells Z 3)) := by
  obtain ⟨i0, hi0, hz0, hz1, hz2⟩ := i64info
  refine ⟨madeCells (Value.int .i64 0).cells n, hide ?_, fun w => ?_⟩
  · apply Array.ext'
    rw [show (Value.int .i64 0).cells = #[Value.int .i64 0] from rfl, toList_madeCells_one]
    simp
  · have h := run_make (P := Tryd.prog) w 33 3 i0 (.int .i64 0) uis hi0 hz0 .i64 .i64 (n : Int) (n : Int) (by omega) (by omega) (by rw [hz2]; omega) (by omega)
    rw [hz1, Int.toNat_natCast, Nat.mul_one] at h
    exact h
theorem Has.ri {w : World} {g : Nat} {t : TypeId} {zs : List Int} (h : Has w g t (i64s zs)) (hb : ∀ z ∈ zs, (Lit.int .i64 z).wf = true) : Ri w (some ⟨g, 0, none⟩) zs :=
  ⟨hb, fun _ => ⟨_, rfl, h.lt, fun i z hi => by rw [Addr.add_lit, h.cell, Nat.zero_add]; simp [hi]⟩⟩
theorem wf_i64 (z : Int) (h : -9223372036854775808 ≤ z ∧ z ≤ 9223372036854775807) : (Lit.int .i64 z).wf = true := by
  simp only [Lit.wf, Bool.and_eq_true, decide_eq_true_eq]
  have e1 : IntKind.i64.min = -9223372036854775808 := by decide
  have e2 : IntKind.i64.max = 9223372036854775807 := by decide
  omega
theorem new_ri (w : World) (t : TypeId) (zs : List Int) (hb : ∀ z ∈ zs, -9223372036854775808 ≤ z ∧ z ≤ 9223372036854775807) : Ri (w.alloc (.cells (i64s zs).toArray t)) (some ⟨w.heap.size, 0, none⟩) zs :=
  Has.ri (Has.new w t _) fun z hz => wf_i64 z (hb z hz)
end Go.Proofs.YtemaaipgjghlaaaDoor
