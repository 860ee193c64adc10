/-
  Arena.Parts, walked. By an AI agent. No person has read it.
-/
import Derived.Test.YtemaaipgjghlaaaDoorAreFb
namespace Go.Proofs.YtemaaipgjghlaaaDoor
open Go.RowKit

/-- A part's three cells. -/
def Hd.p3 (h : Hd) : List Value := [.int .i64 h.id, .int .i64 (h.off : Nat), .int .i64 (h.size : Nat)]
def Pt.p3 (h : Pt) : List Value := [.int .i64 h.id, .int .i64 (h.off : Nat), .int .i64 (h.size : Nat)]
/-- The row of parts, the first i filled in. -/
def Hd.prow (l : List Hd) (i : Nat) : List Value := (l.take i).flatMap Hd.p3 ++ List.replicate ((l.length - i) * 3) (.int .i64 0)
theorem set_three (A C : List Value) (x y z a b c : Value) (n : Nat) (hn : A.length = n) : (((A ++ x :: y :: z :: C).set n a).set (n + 1) b).set (n + 2) c = A ++ a :: b :: c :: C := by
  subst hn
  induction A with
  | nil => rfl
  | cons q A ih =>
    rw [List.cons_append, List.length_cons, List.set_cons_succ, show A.length + 1 + 1 = (A.length + 1) + 1 from rfl, List.set_cons_succ, show A.length + 1 + 2 = (A.length + 2) + 1 from rfl, List.set_cons_succ, ih]
    rfl
theorem Hd.prow_next (l : List Hd) (i : Nat) (h : Hd) (hi : l[i]? = some h) : (((Hd.prow l i).set (i * 3) (.int .i64 h.id)).set (i * 3 + 1) (.int .i64 (h.off : Nat))).set (i * 3 + 2) (.int .i64 (h.size : Nat)) = Hd.prow l (i + 1) := by
  have hlt := (List.getElem?_eq_some_iff.1 hi).1
  have hl : ((l.take i).flatMap Hd.p3).length = i * 3 := by
    rw [flat_len Hd.p3 3 _ (fun _ _ => rfl), List.length_take, Nat.min_eq_left (by omega)]
  unfold Hd.prow
  rw [show (l.length - i) * 3 = (l.length - (i + 1)) * 3 + 1 + 1 + 1 by omega, List.replicate_succ, List.replicate_succ, List.replicate_succ, set_three _ _ _ _ _ _ _ _ _ hl, List.take_add_one, hi, Option.toList_some, List.flatMap_append, List.flatMap_cons, List.flatMap_nil, List.append_nil, List.append_assoc]
  rfl
theorem Hd.prow_zero (l : List Hd) (i : Nat) (hi : i < l.length) (j : Nat) (hj : j < 3) : (Hd.prow l i)[i * 3 + j]? = some (.int .i64 0) := by
  have hl : ((l.take i).flatMap Hd.p3).length = i * 3 := by
    rw [flat_len Hd.p3 3 _ (fun _ _ => rfl), List.length_take, Nat.min_eq_left (by omega)]
  unfold Hd.prow
  rw [List.getElem?_append_right (by omega), List.getElem?_replicate, if_pos (by omega)]
theorem made_three (n : Nat) : (madeCells #[Value.int .i64 0, Value.int .i64 0, Value.int .i64 0] n).toList = List.replicate n (.int .i64 0) := by
  apply List.ext_getElem
  · simp [madeCells]
  · intro i h1 h2
    have h : i % 3 = 0 ∨ i % 3 = 1 ∨ i % 3 = 2 := by omega
    simp [madeCells]
    rcases h with h | h | h <;> simp [h]
theorem part_info : ∃ i : TypeInfo, Tryd.prog.info? 30 = some i ∧ i.zero = some (.agg #[.int .i64 0, .int .i64 0, .int .i64 0]) ∧ i.size = 3 ∧ i.bytes = 24 := by
  obtain ⟨i, hi⟩ : ∃ i, Tryd.prog.info? 30 = some i := by
    refine Option.isSome_iff_exists.1 ?_
    kernel_rfl
  have h1 : (Tryd.prog.info? 30).bind (·.zero) = some (.agg #[.int .i64 0, .int .i64 0, .int .i64 0]) := by kernel_rfl
  have h2 : (Tryd.prog.info? 30).map (·.size) = some 3 := by kernel_rfl
  have h3 : (Tryd.prog.info? 30).map (·.bytes) = some 24 := by kernel_rfl
  rw [hi] at h1 h2 h3
  exact ⟨i, hi, by simpa using h1, by simpa using h2, by simpa using h3⟩
theorem uds_part : Tryd.prog.underlying 54 = some (.slice 30) := by kernel_rfl
theorem made_parts (n : Nat) (hn : n ≤ 1000) : ∃ Z : Array Value, Hid (Z = (List.replicate (n * 3) (Value.int .i64 0)).toArray) ∧ ∀ w : World, (Instr.makeSlice 54 (.int .i64 n) (.int .i64 n)).run Tryd.prog w = .ok (.slice (some ⟨w.heap.size, 0, none⟩) n n) (w.alloc (.cells Z 30)) := by
  obtain ⟨i0, hi0, hz0, hz1, hz2⟩ := part_info
  refine ⟨madeCells (Value.agg #[.int .i64 0, .int .i64 0, .int .i64 0]).cells (n * 3), hide ?_, fun w => ?_⟩
  · apply Array.ext'
    rw [show (Value.agg #[.int .i64 0, .int .i64 0, .int .i64 0]).cells = #[Value.int .i64 0, Value.int .i64 0, Value.int .i64 0] from rfl, made_three]
  · have h := run_make (P := Tryd.prog) w 54 30 i0 (.agg #[.int .i64 0, .int .i64 0, .int .i64 0]) uds_part hi0 hz0 .i64 .i64 (n : Int) (n : Int) (by omega) (by omega) (by rw [hz2]; omega) (by omega)
    rw [hz1, Int.toNat_natCast] at h
    exact h

set_option maxRecDepth 100000 in
set_option maxHeartbeats 4000000 in
theorem parts_c (base a m : Nat) (v : Value) (mem : List Nat) (l : List Hd) (w : World) (hA : ArIn base w a m v mem l) (hl : l.length ≤ 1000) :
    Calls Tryd.prog 21 #[.pointer (some ⟨a, 0, none⟩)] w fun e w' => (∃ g, e = .returned (.slice (some ⟨g, 0, none⟩) l.length l.length) ∧ w.heap.size ≤ g ∧ Has w' g 30 (l.flatMap Hd.p3)) ∧ Below w.heap.size w w' := by
  obtain ⟨A, c, rfl, -, hlie, -, -⟩ := own_lie hA.row
  have HA := hide hA
  have HR := hide hlie
  obtain ⟨nd, hnd⟩ : ∃ n, Hid (l.length = n) := ⟨_, hide rfl⟩
  obtain ⟨Z, hZ, hmk⟩ := made_parts nd (by rw [← hnd.out]; exact hl)
  have c1 : w.cell? ⟨a, 1, none⟩ = some (.slice A nd c) := by
    rw [← hnd.out]
    exact hA.box.cell 1
  have HB0 := hide ((Below.refl w.heap.size w).alloc (Nat.le_refl _) (.cells Z 30))
  have c2 : (w.alloc (.cells Z 30)).cell? ⟨a, 1, none⟩ = some (.slice A nd c) := by
    rw [← hnd.out]
    exact (hA.below HB0.out).box.cell 1
  have HZ : Hid (Has (w.alloc (.cells Z 30)) w.heap.size 30 (Hd.prow l 0)) := hide (by
    have h := Has.new w 30 (Hd.prow l 0)
    have e : (Hd.prow l 0).toArray = Z := by
      rw [hZ.out]
      unfold Hd.prow
      rw [List.take_zero, List.flatMap_nil, List.nil_append, Nat.sub_zero, hnd.out]
    rw [e] at h
    exact h)
  have hal := hA.box.lt
  have hnl : nd ≤ 1000 := by rw [← hnd.out]; exact hl
  rw [hnd.out]
  clear hA hlie hl
  go_enter Tryd.func21, Tryd.ntmps21
  go_wp2_with fail
  obtain ⟨W1, hW1⟩ : ∃ W1, Hid (w.alloc (.cells Z 30) = W1) := ⟨_, hide rfl⟩
  rw [hW1.out]
  rw [hW1.out] at HB0 HZ
  clear hmk c2
  go_loopw [17, 4] (fun v _ wr => ∃ i : Nat, i ≤ nd ∧ v = .int .i64 i ∧ Hid (Below w.heap.size w wr) ∧ Hid (Has wr w.heap.size 30 (Hd.prow l i))) (fun v _ _ => nd - (intOf v).toNat)
  case atStart => exact ⟨0, by omega, rfl, HB0, HZ⟩
  case round =>
    obtain ⟨i, hi, rfl, HB, HZi⟩ := hrel
    by_cases hlt : i < nd
    · obtain ⟨ad, x, hA2, had, ht, d0, d1, d2, d3⟩ := lie_hd (HR.out.below HB.out) i (by rw [hnd.out]; exact hlt)
      subst hA2
      have hli : (i : Int) < (nd : Int) := by omega
      have HBa := hide (HB.out.alloc HB.out.size (.cells #[.int .i64 x.id, .int .i64 (x.off : Nat), .int .i64 (x.size : Nat), .slice x.A x.bs.length x.c] 62))
      have HZa := hide (HZi.out.alloc (.cells #[.int .i64 x.id, .int .i64 (x.off : Nat), .int .i64 (x.size : Nat), .slice x.A x.bs.length x.c] 62))
      have FIN : Hid (∀ W, Has W w.heap.size 30 (Hd.prow l i) → Has (((W.setCell ⟨w.heap.size, i * 3, none⟩ (.int .i64 x.id)).setCell ⟨w.heap.size, i * 3 + 1, none⟩ (.int .i64 (x.off : Nat))).setCell ⟨w.heap.size, i * 3 + 2, none⟩ (.int .i64 (x.size : Nat))) w.heap.size 30 (Hd.prow l (i + 1))) := hide (fun W h => by
        rw [← Hd.prow_next l i x ht.out]
        exact ((h.set_ _ _).set_ _ _).set_ _ _)
      have hil : i < l.length := by rw [hnd.out]; exact hlt
      have z0 := (HZa.out.cell (i * 3)).trans (Hd.prow_zero l i hil 0 (by decide))
      have z1 := (HZa.out.cell (i * 3 + 1)).trans (Hd.prow_zero l i hil 1 (by decide))
      have z2 := (HZa.out.cell (i * 3 + 2)).trans (Hd.prow_zero l i hil 2 (by decide))
      have y0 := HZa.out.frozen (i * 3)
      have y1 := HZa.out.frozen (i * 3 + 1)
      have y2 := HZa.out.frozen (i * 3 + 2)
      clear had ht
      go_wp2_with fail
      go_roundw
      case rel => exact ⟨i + 1, by omega, by go_num, hide (((HBa.out.setCell (p := ⟨w.heap.size, i * 3, none⟩) (Nat.le_refl _) _).setCell (p := ⟨w.heap.size, i * 3 + 1, none⟩) (Nat.le_refl _) _).setCell (p := ⟨w.heap.size, i * 3 + 2, none⟩) (Nat.le_refl _) _), hide (FIN.out _ HZa.out)⟩
      case measure => simp [intOf]; omega
    · obtain rfl : i = nd := by omega
      go_wp2_with fail
      go_ret
      refine ⟨⟨w.heap.size, rfl, Nat.le_refl _, ?_⟩, HB.out⟩
      have h := HZi.out
      unfold Hd.prow at h
      rw [hnd.out, Nat.sub_self, Nat.zero_mul, List.replicate_zero, List.append_nil, List.take_of_length_le (by rw [hnd.out]; exact Nat.le_refl _)] at h
      exact h

theorem fparts {base a : Nat} {mem : List Nat} {ps : List Pt} {T : Nat → Prop} {w : World} (hI : Ar.Is base w a mem ps T) :
    Calls Tryd.prog 21 #[.pointer (some ⟨a, 0, none⟩)] w fun e w' => (∃ g, e = .returned (.slice (some ⟨g, 0, none⟩) ps.length ps.length) ∧ w.heap.size ≤ g ∧ Has w' g 30 (ps.flatMap Pt.p3)) ∧ Below w.heap.size w w' := by
  obtain ⟨m, v, l, hA, rfl, hT, hW⟩ := hI
  have hl := hW.len
  rw [List.length_map] at hl ⊢
  refine (parts_c base a m v mem l w hA hl).mono ?_
  rintro e w' ⟨⟨g, rfl, h1, h2⟩, h3⟩
  refine ⟨⟨g, rfl, h1, ?_⟩, h3⟩
  rw [List.flatMap_map]
  exact h2
end Go.Proofs.YtemaaipgjghlaaaDoor
