import Derived.Test.YtijgomgiinlcoaaDoorShaNum
import Derived.Laws.Concat
namespace Go.Proofs.YtijgomgiinlcoaaDoor
open Go.RowKit

/-- The text of some bytes. -/
def hexStr (l : List Nat) : ByteArray := strOfNums ((Sha.hex l).map Int.ofNat)
theorem strOfNums_add (a b : List Int) : strOfNums (a ++ b) = strOfNums a ++ strOfNums b := by
  apply ByteArray.ext
  simp [strOfNums, ByteArray.data_append]
theorem digit_at (n : Nat) (h : n < 16) : ∃ S : ByteArray, Hid (strOfNums [(Sha.dg n : Int)] = S) ∧ ∀ W : World, (Instr.slice 9 (.string { data := #[48, 49, 50, 51, 52, 53, 54, 55, 56, 57, 97, 98, 99, 100, 101, 102] }) (some (.int .u8 (n : Int))) (some (.int .u8 ((n : Int) + 1))) none).run Tryd.prog W = .ok (.string S) W := by
  refine ⟨_, hide rfl, fun W => ?_⟩
  obtain rfl | rfl | rfl | rfl | rfl | rfl | rfl | rfl | rfl | rfl | rfl | rfl | rfl | rfl | rfl | rfl : n = 0 ∨ n = 1 ∨ n = 2 ∨ n = 3 ∨ n = 4 ∨ n = 5 ∨ n = 6 ∨ n = 7 ∨ n = 8 ∨ n = 9 ∨ n = 10 ∨ n = 11 ∨ n = 12 ∨ n = 13 ∨ n = 14 ∨ n = 15 := by omega
  all_goals kernel_rfl

set_option maxRecDepth 100000 in
set_option maxHeartbeats 4000000 in
theorem hex_c (s : List Nat) (hs : s.length = 32) (hb : Sha.Bytes s) (w : World) :
    Calls Tryd.prog 19 #[.agg (u8s s).toArray] w fun e w' => e = .returned (.string (hexStr s)) ∧ Below w.heap.size w w' := by
  have hI0 : Has (w.alloc (.cells (u8s s).toArray 24)) w.heap.size 24 (u8s s) := Has.new w _ _
  have hB0 : Below w.heap.size w (w.alloc (.cells (u8s s).toArray 24)) := (Below.refl _ _).alloc (Nat.le_refl _) _
  have he0 : Hid (hexStr [] = { data := #[] }) := hide (by kernel_rfl)
  obtain ⟨C, hC⟩ : ∃ C, Hid ((u8s s).toArray = C) := ⟨_, hide rfl⟩
  rw [hC.out] at hI0 hB0 ⊢
  have HB := hide hb
  have HS := hide hs
  clear hs hb
  go_enter Tryd.func19, Tryd.ntmps19
  go_wp2_with fail
  go_loopw [3, 4] (fun t k wr => ∃ (i : Nat) (T : ByteArray), i ≤ 32 ∧ k = .int .i64 i ∧ t = .string T ∧ Hid (hexStr (s.take i) = T) ∧ Has wr w.heap.size 24 (u8s s) ∧ Below w.heap.size w wr) (fun _ k _ => 32 - (intOf k).toNat)
  case atStart => exact ⟨0, _, by omega, rfl, rfl, by simpa using he0, hI0, hB0⟩
  case round =>
    obtain ⟨i, T, hi, rfl, rfl, hT, hI, hB⟩ := hrel
    clear hI0 hB0
    by_cases hlt : i < 32
    · have hi32 : (i : Int) < 32 := by omega
      obtain ⟨x, hx, hx2, -⟩ := idx32 C s hC HB.out HS.out i hlt
      have hc : (u8s s)[i]? = some (.int .u8 (x : Int)) := by
        rw [List.getElem?_map, hx.out]; rfl
      have c1 := (hI.cell i).trans hc
      clear hc
      obtain ⟨S1, e1, k1⟩ := digit_at (x / 16) (by omega)
      obtain ⟨S2, e2, k2⟩ := digit_at (x % 16) (by omega)
      obtain ⟨T1, hT1⟩ : ∃ T1, Hid (T ++ S1 = T1) := ⟨_, hide rfl⟩
      obtain ⟨T2, hT2⟩ : ∃ T2, Hid (T1 ++ S2 = T2) := ⟨_, hide rfl⟩
      have hl : T.size = 2 * i := by
        rw [← hT.out, hexStr, strOfNums_size, List.length_map, Sha.hex_length, List.length_take, HS.out]; omega
      have hl1 : S1.size = 1 := by rw [← e1.out, strOfNums_size]; rfl
      have hl2 : S2.size = 1 := by rw [← e2.out, strOfNums_size]; rfl
      have a1 : ∀ W : World, (Op.stringOp .add T S1).run Tryd.prog W = .ok (.string T1) W := fun W => by
        rw [← hT1.out]; exact run_string_add_sum W _ _ (by omega)
      have a2 : ∀ W : World, (Op.stringOp .add T1 S2).run Tryd.prog W = .ok (.string T2) W := fun W => by
        rw [← hT2.out]; exact run_string_add_sum W _ _ (by rw [← hT1.out, ByteArray.size_append]; omega)
      have HN : Hid (hexStr (s.take (i + 1)) = T2) := hide (by
        rw [← hT2.out, ← hT1.out, ← hT.out, ← e1.out, ← e2.out, List.take_add_one, hx.out]
        simp only [hexStr, Option.toList_some, Sha.hex_append, Sha.hex, List.map_append, List.map_cons, List.map_nil]
        rw [show [Int.ofNat (Sha.dg (x / 16)), Int.ofNat (Sha.dg (x % 16))] = [((Sha.dg (x / 16) : Nat) : Int)] ++ [((Sha.dg (x % 16) : Nat) : Int)] from rfl, strOfNums_add, strOfNums_add, ByteArray.append_assoc])
      clear hl hl1 hl2
      rw [show ((x / 16 : Nat) : Int) = (x : Int) / 16 by omega] at k1
      rw [show ((x % 16 : Nat) : Int) = (x : Int) % 16 by omega] at k2
      have q1 : (x : Int).tdiv 16 = (x : Int) / 16 := Int.tdiv_eq_ediv_of_nonneg (by omega)
      have q2 : (x : Int).tmod 16 = (x : Int) % 16 := Int.tmod_eq_emod_of_nonneg (by omega)
      have q3 : IntKind.u8.wrap ((x : Int) / 16 + 1) = (x : Int) / 16 + 1 := by rw [IntKind.wrap_u8]; omega
      have q4 : IntKind.u8.wrap ((x : Int) % 16 + 1) = (x : Int) % 16 + 1 := by rw [IntKind.wrap_u8]; omega
      go_wp2_with fail
      go_quiet (fail)
      go_wp2_with fail
      go_roundw
      case rel => exact ⟨i + 1, _, by omega, by go_num, rfl, HN, hI.drewN _, ⟨hB.os, hB.tape, hB.output, hB.size, hB.block⟩⟩
      case measure => simp [intOf]; omega
    · obtain rfl : i = 32 := by omega
      rw [List.take_of_length_le (by rw [HS.out]; omega)] at hT
      go_wp2_with fail
      go_ret
      exact ⟨by rw [hT.out]; rfl, hB⟩
end Go.Proofs.YtijgomgiinlcoaaDoor
