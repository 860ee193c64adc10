/-
  lodgelaw14.first, walked; how long what is read is. By an AI agent. No person has read it.
-/
import Derived.Test.YthjnkaikjjjceaaDoorPcPlnP
import Derived.Test.YthjnkaikjjjceaaDoorPcBasB
import Derived.Test.YthjnkaikjjjceaaDoorPcPlnS
import Derived.Test.YthjnkaikjjjceaaDoorPcElmOpen
import Derived.Laws.BitsAllLaws
import Derived.RegionTactic
namespace Go.Proofs.YthjnkaikjjjceaaDoor
open Go.RowKit
theorem Pl.zero_in (w : World) : (Pn.of 0).In w := (Pw.of 0 0 w 0).in_ (Nat.zero_le _) (Nat.zero_le _) (Nat.zero_le _) (Nat.zero_le _)
theorem Pl.zero_fault : Pl.fault (Pn.of 0) = none := by decide
theorem Pl.zero_len : (Pl.outs (Pn.of 0)).length = 22 := by
  unfold Pl.outs
  rw [if_pos Pl.zero_fault]
  decide
set_option maxRecDepth 100000 in
set_option maxHeartbeats 4000000 in
theorem first14_c (es : List Addr) (ah am ar ae ak : Addr) (hes : TErrs es ah am ar ae ak) (w : World) (hZ : E3 w ah am ar) :
    Calls Tryd.prog 8 #[] w fun e w' => e = .returned (.bool true) ∧ Below w.heap.size w w' := by
  have HB : Hid (Calls Tryd.prog 10 #[.agg #[.int .i64 0, .slice none 0 0, .slice none 0 0, .slice none 0 0, .slice none 0 0, .int .i64 0, .int .i64 0]] w fun e w' => (∃ (A : Option Addr) (c : Nat), e = .returned (.tuple #[.slice A 22 c, .nilIface])) ∧ Below w.heap.size w w') := hide (by
    have h := pbytes_c es ah am ar ae ak hes (Pn.of 0) w (Pl.zero_in w) hZ
    refine Calls.mono (h : Calls Tryd.prog 10 #[.agg #[.int .i64 0, .slice none 0 0, .slice none 0 0, .slice none 0 0, .slice none 0 0, .int .i64 0, .int .i64 0]] w _) ?_
    rintro e w' ⟨⟨b, ev, rfl, hev, ho⟩, hb⟩
    rw [Pl.zero_fault] at hev
    obtain rfl : ev = .nilIface := hev
    rw [Pl.zero_len] at ho
    obtain ⟨B, c, rfl, -⟩ := own_row ho
    exact ⟨⟨B, c, rfl⟩, hb⟩)
  clear hZ hes
  go_enter Tryd.func8, Tryd.ntmps8
  go_wp2_with fail
  refine HB.out.mono ?_
  rintro e w2 ⟨⟨A, c, rfl⟩, hb⟩
  have HB2 := hide hb
  clear HB hb
  go_wp2_with fail
  go_ret
  exact ⟨rfl, HB2.out⟩
end Go.Proofs.YthjnkaikjjjceaaDoor
namespace Go.Proofs.YthjnkaikjjjceaaDoor
open Go.RowKit
/-- Rows of zeros. -/
theorem flat_rep (x : List Value) (n : Nat) : ∀ i : Nat, i < n * x.length → ((List.replicate n x).flatten)[i]? = x[i % x.length]? := by
  induction n with
  | zero => intro i hi; rw [Nat.zero_mul] at hi; omega
  | succ n ih =>
    intro i hi
    rw [List.replicate_succ, List.flatten_cons]
    rcases Nat.lt_or_ge i x.length with h | h
    · rw [List.getElem?_append_left h, Nat.mod_eq_of_lt h]
    · rw [List.getElem?_append_right h, ih _ (by rw [Nat.succ_mul] at hi; omega), Nat.mod_eq_sub_mod h]
theorem made_flat (z : Array Value) (n : Nat) (hz : 0 < z.size) : (madeCells z (n * z.size)).toList = (List.replicate n z.toList).flatten := by
  apply List.ext_getElem?
  intro i
  rcases Nat.lt_or_ge i (n * z.size) with h | h
  · rw [flat_rep z.toList n i (by simpa using h)]
    have hm : i % z.size < z.size := Nat.mod_lt _ hz
    simp [madeCells, h, hm]
  · rw [List.getElem?_eq_none (by simpa [size_madeCells] using h), List.getElem?_eq_none (by simpa using h)]
theorem view_info : ∃ i : TypeInfo, Tryd.prog.info? 61 = some i ∧ i.zero = some (.agg #[.int .i64 0, .slice none 0 0, .bool false]) ∧ i.size = 3 ∧ i.bytes = 40 := by
  obtain ⟨i, hi⟩ : ∃ i, Tryd.prog.info? 61 = some i := by
    refine Option.isSome_iff_exists.1 ?_
    kernel_rfl
  have h1 : (Tryd.prog.info? 61).bind (·.zero) = some (.agg #[.int .i64 0, .slice none 0 0, .bool false]) := by kernel_rfl
  have h2 : (Tryd.prog.info? 61).map (·.size) = some 3 := by kernel_rfl
  have h3 : (Tryd.prog.info? 61).map (·.bytes) = some 40 := by kernel_rfl
  rw [hi] at h1 h2 h3
  exact ⟨i, hi, by simpa using h1, by simpa using h2, by simpa using h3⟩
theorem desc_info : ∃ i : TypeInfo, Tryd.prog.info? 59 = some i ∧ i.zero = some (.agg #[.slice none 0 0, .bool false]) ∧ i.size = 2 ∧ i.bytes = 32 := by
  obtain ⟨i, hi⟩ : ∃ i, Tryd.prog.info? 59 = some i := by
    refine Option.isSome_iff_exists.1 ?_
    kernel_rfl
  have h1 : (Tryd.prog.info? 59).bind (·.zero) = some (.agg #[.slice none 0 0, .bool false]) := by kernel_rfl
  have h2 : (Tryd.prog.info? 59).map (·.size) = some 2 := by kernel_rfl
  have h3 : (Tryd.prog.info? 59).map (·.bytes) = some 32 := by kernel_rfl
  rw [hi] at h1 h2 h3
  exact ⟨i, hi, by simpa using h1, by simpa using h2, by simpa using h3⟩
theorem uds_view : Tryd.prog.underlying 22 = some (.slice 61) := by kernel_rfl
theorem uds_desc : Tryd.prog.underlying 24 = some (.slice 59) := by kernel_rfl
end Go.Proofs.YthjnkaikjjjceaaDoor
namespace Go.Proofs.YthjnkaikjjjceaaDoor
open Go.RowKit
def Dsc.zero : Dsc := ⟨none, [], 0, false⟩
def Vw.zero : Vw := ⟨0, Dsc.zero⟩
theorem made_views (n : Nat) (hn : n ≤ 1000000) : ∃ Z : Array Value, Hid (Z = ((List.replicate n Vw.zero).flatMap Vw.vals).toArray) ∧ ∀ w : World, (Instr.makeSlice 22 (.int .i64 n) (.int .i64 n)).run Tryd.prog w = .ok (.slice (some ⟨w.heap.size, 0, none⟩) n n) (w.alloc (.cells Z 61)) := by
  obtain ⟨i0, hi0, hz0, hz1, hz2⟩ := view_info
  refine ⟨madeCells (Value.agg #[.int .i64 0, .slice none 0 0, .bool false]).cells (n * 3), hide ?_, fun w => ?_⟩
  · apply Array.ext'
    rw [List.flatMap_def, List.map_replicate]
    exact made_flat #[.int .i64 0, .slice none 0 0, .bool false] n (by decide)
  · have h := run_make (P := Tryd.prog) w 22 61 i0 (.agg #[.int .i64 0, .slice none 0 0, .bool false]) uds_view hi0 hz0 .i64 .i64 (n : Int) (n : Int) (by omega) (by omega) (by rw [hz2]; omega) (by omega)
    rw [hz1, Int.toNat_natCast] at h
    exact h
theorem made_descs (n : Nat) (hn : n ≤ 1000000) : ∃ Z : Array Value, Hid (Z = ((List.replicate n Dsc.zero).flatMap Dsc.vals).toArray) ∧ ∀ w : World, (Instr.makeSlice 24 (.int .i64 n) (.int .i64 n)).run Tryd.prog w = .ok (.slice (some ⟨w.heap.size, 0, none⟩) n n) (w.alloc (.cells Z 59)) := by
  obtain ⟨i0, hi0, hz0, hz1, hz2⟩ := desc_info
  refine ⟨madeCells (Value.agg #[.slice none 0 0, .bool false]).cells (n * 2), hide ?_, fun w => ?_⟩
  · apply Array.ext'
    rw [List.flatMap_def, List.map_replicate]
    exact made_flat #[.slice none 0 0, .bool false] n (by decide)
  · have h := run_make (P := Tryd.prog) w 24 59 i0 (.agg #[.slice none 0 0, .bool false]) uds_desc hi0 hz0 .i64 .i64 (n : Int) (n : Int) (by omega) (by omega) (by rw [hz2]; omega) (by omega)
    rw [hz1, Int.toNat_natCast] at h
    exact h
def Pn.nv (n : Nat) (V : Option Addr) : Pn := ⟨0, V, List.replicate n Vw.zero, n, none, [], 0, none, [], 0, none, [], 0, 0, 0⟩
end Go.Proofs.YthjnkaikjjjceaaDoor
