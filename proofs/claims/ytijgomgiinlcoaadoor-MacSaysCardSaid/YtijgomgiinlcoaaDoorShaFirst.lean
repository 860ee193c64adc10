import Derived.Test.YtijgomgiinlcoaaDoorShaText
import Derived.Deep.QuietTactic
import Derived.BigQuiet
namespace Go.Proofs.YtijgomgiinlcoaaDoor
open Go.RowKit

theorem first_text : strOfNums ((Sha.hex (Sha.digest [])).map Int.ofNat) = { data := #[101, 51, 98, 48, 99, 52, 52, 50, 57, 56, 102, 99, 49, 99, 49, 52, 57, 97, 102, 98, 102, 52, 99, 56, 57, 57, 54, 102, 98, 57, 50, 52, 50, 55, 97, 101, 52, 49, 101, 52, 54, 52, 57, 98, 57, 51, 52, 99, 97, 52, 57, 53, 57, 57, 49, 98, 55, 56, 53, 50, 98, 56, 53, 53] } := by
  kernel_rfl

/-- What two boxed digests are while they are held against each other. -/
def EqInv (w : World) (s : List Nat) (wr : World) : Prop := Has wr w.heap.size 24 (u8s s) ∧ Has wr (w.heap.size + 1) 24 (u8s s) ∧ Below w.heap.size w wr
theorem EqInv.drewN {w wr : World} {s : List Nat} (h : EqInv w s wr) (n : Nat) : EqInv w s (wr.drewN n) := ⟨h.1.drewN n, h.2.1.drewN n, ⟨h.2.2.os, h.2.2.tape, h.2.2.output, h.2.2.size, h.2.2.block⟩⟩

set_option maxRecDepth 100000 in
set_option maxHeartbeats 4000000 in
theorem samesum_c (s : List Nat) (hs : s.length = 32) (hb : Sha.Bytes s) (w : World) :
    Calls Tryd.prog 16 #[.agg (u8s s).toArray, .agg (u8s s).toArray] w fun e w' => e = .returned (.bool true) ∧ Below w.heap.size w w' := by
  have hI0 : EqInv w s ((w.alloc (.cells (u8s s).toArray 24)).alloc (.cells (u8s s).toArray 24)) := by
    refine ⟨(Has.new w _ _).alloc _, ?_, ((Below.refl _ _).alloc (Nat.le_refl _) _).alloc (by simp) _⟩
    have h := Has.new (w.alloc (.cells (u8s s).toArray 24)) 24 (u8s s)
    rw [World.size_alloc] at h
    exact h
  obtain ⟨C, hC⟩ : ∃ C, Hid ((u8s s).toArray = C) := ⟨_, hide rfl⟩
  rw [hC.out] at hI0 ⊢
  have HB := hide hb
  have HS := hide hs
  clear hs hb
  go_enter Tryd.func16, Tryd.ntmps16
  go_wp2_with fail
  go_loopw [5] (fun k wr => ∃ i : Nat, i ≤ 32 ∧ k = .int .i64 i ∧ EqInv w s wr) (fun k _ => 32 - (intOf k).toNat)
  case atStart => exact ⟨0, by omega, rfl, hI0⟩
  case round =>
    obtain ⟨i, hi, rfl, hI⟩ := hrel
    by_cases hlt : i < 32
    · have hi32 : (i : Int) < 32 := by omega
      obtain ⟨x, hx, hx2, -⟩ := idx32 C s hC HB.out HS.out i hlt
      have hc : (u8s s)[i]? = some (.int .u8 (x : Int)) := by
        rw [List.getElem?_map, hx.out]; rfl
      have c1 := (hI.1.cell i).trans hc
      have c2 := (hI.2.1.cell i).trans hc
      clear hc
      go_wp2_with fail
      go_quiet (fail)
      go_wp2_with fail
      go_roundw
      case rel => exact ⟨i + 1, by omega, by go_num, hI.drewN _⟩
      case measure => simp [intOf]; omega
    · obtain rfl : i = 32 := by omega
      go_wp2_with fail
      go_ret
      exact ⟨rfl, hI.2.2⟩



set_option maxRecDepth 100000 in
set_option maxHeartbeats 4000000 in
theorem first_c (w : World) (hT : Table w) :
    Calls Tryd.prog 12 #[] w fun e w' => e = .returned (.bool true) ∧ Below w.heap.size w w' := by
  have HT := hide hT
  clear hT
  go_enter Tryd.func12, Tryd.ntmps12
  go_wp2_with fail
  refine (of_c none [] 0 w (by intro i p h; simp at h) (by simp) (by simp) HT.out).mono ?_
  rintro e w1 ⟨rfl, hB1⟩
  go_wp2_with fail
  refine (text_c (Sha.digest [].flatten) (Sha.digest_length _) (Sha.digest_bytes _) w1).mono ?_
  rintro e w2 ⟨rfl, hB2⟩
  rw [show ([] : List (List Nat)).flatten = [] from rfl, first_text]
  have hB := hB1.trans (hB2.mono hB1.size)
  clear hB1 hB2
  go_wp2_with fail
  go_ret
  exact ⟨rfl, hB⟩
end Go.Proofs.YtijgomgiinlcoaaDoor
