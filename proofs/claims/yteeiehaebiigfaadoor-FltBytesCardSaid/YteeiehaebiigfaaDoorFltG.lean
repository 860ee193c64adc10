/-
  math/bits.Len64, walked. By an AI agent. No person has read it.
-/
import Derived.Test.YteeiehaebiigfaaDoorFltT
import Derived.Test.YteeiehaebiigfaaDoorFltN
namespace Go.Proofs.YteeiehaebiigfaaDoor
open Go.RowKit

/-- The table of math/bits, as its text has it. -/
def lenTab : ByteArray := { data := (([0, 1, 2, 2, 3, 3, 3, 3, 4, 4, 4, 4, 4, 4, 4, 4, 5, 5, 5, 5, 5, 5, 5, 5, 5, 5, 5, 5, 5, 5, 5, 5, 6, 6, 6, 6, 6, 6, 6, 6, 6, 6, 6, 6, 6, 6, 6, 6, 6, 6, 6, 6, 6, 6, 6, 6, 6, 6, 6, 6, 6, 6, 6, 6].append [7, 7, 7, 7, 7, 7, 7, 7, 7, 7, 7, 7, 7, 7, 7, 7, 7, 7, 7, 7, 7, 7, 7, 7, 7, 7, 7, 7, 7, 7, 7, 7, 7, 7, 7, 7, 7, 7, 7, 7, 7, 7, 7, 7, 7, 7, 7, 7, 7, 7, 7, 7, 7, 7, 7, 7, 7, 7, 7, 7, 7, 7, 7, 7]).append ([8, 8, 8, 8, 8, 8, 8, 8, 8, 8, 8, 8, 8, 8, 8, 8, 8, 8, 8, 8, 8, 8, 8, 8, 8, 8, 8, 8, 8, 8, 8, 8, 8, 8, 8, 8, 8, 8, 8, 8, 8, 8, 8, 8, 8, 8, 8, 8, 8, 8, 8, 8, 8, 8, 8, 8, 8, 8, 8, 8, 8, 8, 8, 8].append [8, 8, 8, 8, 8, 8, 8, 8, 8, 8, 8, 8, 8, 8, 8, 8, 8, 8, 8, 8, 8, 8, 8, 8, 8, 8, 8, 8, 8, 8, 8, 8, 8, 8, 8, 8, 8, 8, 8, 8, 8, 8, 8, 8, 8, 8, 8, 8, 8, 8, 8, 8, 8, 8, 8, 8, 8, 8, 8, 8, 8, 8, 8, 8])).toArray }
/-- How many bits a byte has. -/
def len8 (i : Nat) : Nat := if i = 0 then 0 else i.log2 + 1
theorem lenTab_size : lenTab.size = 256 := by decide +kernel
theorem lenTab_at : ∀ i, (h : i < 256) → (lenTab[i]'(by rw [lenTab_size]; exact h)).toNat = len8 i := by decide +kernel
theorem log2_step (x k : Nat) (h : 2 ^ k ≤ x) : (x / 2 ^ k).log2 + k = x.log2 := by
  have hp := Nat.two_pow_pos k
  have h1 : x / 2 ^ k ≠ 0 := by
    have := Nat.div_pos h hp
    omega
  obtain ⟨q, hq⟩ : ∃ q, (x / 2 ^ k).log2 = q := ⟨_, rfl⟩
  have h2 : 2 ^ q ≤ x / 2 ^ k := by rw [← hq]; exact Nat.log2_self_le h1
  have h3 : x / 2 ^ k < 2 ^ (q + 1) := by rw [← hq]; exact Nat.lt_log2_self
  rw [hq]
  symm
  apply Flt.log2_of
  · rw [Nat.pow_add]
    exact (Nat.le_div_iff_mul_le hp).1 h2
  · rw [show q + k + 1 = q + 1 + k by omega, Nat.pow_add]
    exact (Nat.div_lt_iff_lt_mul hp).1 h3

set_option maxRecDepth 100000 in
set_option maxHeartbeats 4000000 in
theorem len64_c (x : Nat) (h0 : x ≠ 0) (hx : x < 18446744073709551616) (w : World) :
    Calls Tryd.prog 71 #[.int .u64 x] w fun e w' => e = .returned (.int .i64 (x.log2 + 1 : Nat)) ∧ w' = w := by
  obtain ⟨T, hT, hTs, hTa⟩ : ∃ T, lenTab = T ∧ T.size = 256 ∧ ∀ i, (h : i < T.size) → (T[i]'h).toNat = len8 i := ⟨lenTab, rfl, lenTab_size, fun i h => lenTab_at i (by rw [lenTab_size] at h; exact h)⟩
  obtain ⟨L, hL⟩ : ∃ L, Hid (x.log2 + 1 = L) := ⟨_, hide rfl⟩
  rw [hL.out]
  unfold lenTab at hT
  have hlx : x.log2 < 64 := (Nat.log2_lt h0).2 hx
  have hL6 : L ≤ 64 := by rw [← hL.out]; omega
  by_cases c32 : 4294967296 ≤ x
  · have c32' : (4294967296 : Int) ≤ x := by omega
    obtain ⟨y32, hy32⟩ : ∃ y, x / 2 ^ 32 = y := ⟨_, rfl⟩
    have g32 := log2_step x 32 (by omega)
    rw [hy32] at g32
    have e32 : (x : Int) / 4294967296 = (y32 : Int) := by omega
    by_cases c16 : 65536 ≤ y32
    · have c16' : (65536 : Int) ≤ y32 := by omega
      obtain ⟨y16, hy16⟩ : ∃ y, y32 / 2 ^ 16 = y := ⟨_, rfl⟩
      have g16 := log2_step y32 16 (by omega)
      rw [hy16] at g16
      have e16 : (y32 : Int) / 65536 = (y16 : Int) := by omega
      by_cases c8 : 256 ≤ y16
      · have c8' : (256 : Int) ≤ y16 := by omega
        obtain ⟨y8, hy8⟩ : ∃ y, y16 / 2 ^ 8 = y := ⟨_, rfl⟩
        have g8 := log2_step y16 8 (by omega)
        rw [hy8] at g8
        have e8 : (y16 : Int) / 256 = (y8 : Int) := by omega
        have hL2 : len8 y8 + 56 = L := by
          unfold len8
          rw [if_neg (by omega), ← hL.out]
          omega
        have hL3 : ((len8 y8 : Nat) : Int) + 56 = (L : Int) := by omega
        have hL4 : (56 : Int) + ((len8 y8 : Nat) : Int) = (L : Int) := by omega
        have hL5 : ((len8 y8 : Nat) : Int) ≤ 64 := by omega
        have hc256 : y8 < 256 := by omega
        have hTx := hTa y8 (by rw [hTs]; exact hc256)
        obtain ⟨l8, hl8⟩ : ∃ l, Hid (len8 y8 = l) := ⟨_, hide rfl⟩
        rw [hl8.out] at hTx hL3 hL4 hL5
        clear hL2 hl8 hTa
        go_enter Tryd.func71, Tryd.ntmps71
        rw [hT]
        clear hT
        repeat' first | go_values | go_skip | go_guarded | go_step | go_upon
        go_ret
        exact ⟨by first | rfl | exact congrArg (fun z => Ending.returned (Value.int .i64 z)) hL3 | exact congrArg (fun z => Ending.returned (Value.int .i64 z)) hL4, rfl⟩
      · have c8' : ¬ ((256 : Int) ≤ y16) := by omega
        have hL2 : len8 y16 + 48 = L := by
          unfold len8
          rw [if_neg (by omega), ← hL.out]
          omega
        have hL3 : ((len8 y16 : Nat) : Int) + 48 = (L : Int) := by omega
        have hL4 : (48 : Int) + ((len8 y16 : Nat) : Int) = (L : Int) := by omega
        have hL5 : ((len8 y16 : Nat) : Int) ≤ 64 := by omega
        have hc256 : y16 < 256 := by omega
        have hTx := hTa y16 (by rw [hTs]; exact hc256)
        obtain ⟨l8, hl8⟩ : ∃ l, Hid (len8 y16 = l) := ⟨_, hide rfl⟩
        rw [hl8.out] at hTx hL3 hL4 hL5
        clear hL2 hl8 hTa
        go_enter Tryd.func71, Tryd.ntmps71
        rw [hT]
        clear hT
        repeat' first | go_values | go_skip | go_guarded | go_step | go_upon
        go_ret
        exact ⟨by first | rfl | exact congrArg (fun z => Ending.returned (Value.int .i64 z)) hL3 | exact congrArg (fun z => Ending.returned (Value.int .i64 z)) hL4, rfl⟩
    · have c16' : ¬ ((65536 : Int) ≤ y32) := by omega
      by_cases c8 : 256 ≤ y32
      · have c8' : (256 : Int) ≤ y32 := by omega
        obtain ⟨y8, hy8⟩ : ∃ y, y32 / 2 ^ 8 = y := ⟨_, rfl⟩
        have g8 := log2_step y32 8 (by omega)
        rw [hy8] at g8
        have e8 : (y32 : Int) / 256 = (y8 : Int) := by omega
        have hL2 : len8 y8 + 40 = L := by
          unfold len8
          rw [if_neg (by omega), ← hL.out]
          omega
        have hL3 : ((len8 y8 : Nat) : Int) + 40 = (L : Int) := by omega
        have hL4 : (40 : Int) + ((len8 y8 : Nat) : Int) = (L : Int) := by omega
        have hL5 : ((len8 y8 : Nat) : Int) ≤ 64 := by omega
        have hc256 : y8 < 256 := by omega
        have hTx := hTa y8 (by rw [hTs]; exact hc256)
        obtain ⟨l8, hl8⟩ : ∃ l, Hid (len8 y8 = l) := ⟨_, hide rfl⟩
        rw [hl8.out] at hTx hL3 hL4 hL5
        clear hL2 hl8 hTa
        go_enter Tryd.func71, Tryd.ntmps71
        rw [hT]
        clear hT
        repeat' first | go_values | go_skip | go_guarded | go_step | go_upon
        go_ret
        exact ⟨by first | rfl | exact congrArg (fun z => Ending.returned (Value.int .i64 z)) hL3 | exact congrArg (fun z => Ending.returned (Value.int .i64 z)) hL4, rfl⟩
      · have c8' : ¬ ((256 : Int) ≤ y32) := by omega
        have hL2 : len8 y32 + 32 = L := by
          unfold len8
          rw [if_neg (by omega), ← hL.out]
          omega
        have hL3 : ((len8 y32 : Nat) : Int) + 32 = (L : Int) := by omega
        have hL4 : (32 : Int) + ((len8 y32 : Nat) : Int) = (L : Int) := by omega
        have hL5 : ((len8 y32 : Nat) : Int) ≤ 64 := by omega
        have hc256 : y32 < 256 := by omega
        have hTx := hTa y32 (by rw [hTs]; exact hc256)
        obtain ⟨l8, hl8⟩ : ∃ l, Hid (len8 y32 = l) := ⟨_, hide rfl⟩
        rw [hl8.out] at hTx hL3 hL4 hL5
        clear hL2 hl8 hTa
        go_enter Tryd.func71, Tryd.ntmps71
        rw [hT]
        clear hT
        repeat' first | go_values | go_skip | go_guarded | go_step | go_upon
        go_ret
        exact ⟨by first | rfl | exact congrArg (fun z => Ending.returned (Value.int .i64 z)) hL3 | exact congrArg (fun z => Ending.returned (Value.int .i64 z)) hL4, rfl⟩
  · have c32' : ¬ ((4294967296 : Int) ≤ x) := by omega
    by_cases c16 : 65536 ≤ x
    · have c16' : (65536 : Int) ≤ x := by omega
      obtain ⟨y16, hy16⟩ : ∃ y, x / 2 ^ 16 = y := ⟨_, rfl⟩
      have g16 := log2_step x 16 (by omega)
      rw [hy16] at g16
      have e16 : (x : Int) / 65536 = (y16 : Int) := by omega
      by_cases c8 : 256 ≤ y16
      · have c8' : (256 : Int) ≤ y16 := by omega
        obtain ⟨y8, hy8⟩ : ∃ y, y16 / 2 ^ 8 = y := ⟨_, rfl⟩
        have g8 := log2_step y16 8 (by omega)
        rw [hy8] at g8
        have e8 : (y16 : Int) / 256 = (y8 : Int) := by omega
        have hL2 : len8 y8 + 24 = L := by
          unfold len8
          rw [if_neg (by omega), ← hL.out]
          omega
        have hL3 : ((len8 y8 : Nat) : Int) + 24 = (L : Int) := by omega
        have hL4 : (24 : Int) + ((len8 y8 : Nat) : Int) = (L : Int) := by omega
        have hL5 : ((len8 y8 : Nat) : Int) ≤ 64 := by omega
        have hc256 : y8 < 256 := by omega
        have hTx := hTa y8 (by rw [hTs]; exact hc256)
        obtain ⟨l8, hl8⟩ : ∃ l, Hid (len8 y8 = l) := ⟨_, hide rfl⟩
        rw [hl8.out] at hTx hL3 hL4 hL5
        clear hL2 hl8 hTa
        go_enter Tryd.func71, Tryd.ntmps71
        rw [hT]
        clear hT
        repeat' first | go_values | go_skip | go_guarded | go_step | go_upon
        go_ret
        exact ⟨by first | rfl | exact congrArg (fun z => Ending.returned (Value.int .i64 z)) hL3 | exact congrArg (fun z => Ending.returned (Value.int .i64 z)) hL4, rfl⟩
      · have c8' : ¬ ((256 : Int) ≤ y16) := by omega
        have hL2 : len8 y16 + 16 = L := by
          unfold len8
          rw [if_neg (by omega), ← hL.out]
          omega
        have hL3 : ((len8 y16 : Nat) : Int) + 16 = (L : Int) := by omega
        have hL4 : (16 : Int) + ((len8 y16 : Nat) : Int) = (L : Int) := by omega
        have hL5 : ((len8 y16 : Nat) : Int) ≤ 64 := by omega
        have hc256 : y16 < 256 := by omega
        have hTx := hTa y16 (by rw [hTs]; exact hc256)
        obtain ⟨l8, hl8⟩ : ∃ l, Hid (len8 y16 = l) := ⟨_, hide rfl⟩
        rw [hl8.out] at hTx hL3 hL4 hL5
        clear hL2 hl8 hTa
        go_enter Tryd.func71, Tryd.ntmps71
        rw [hT]
        clear hT
        repeat' first | go_values | go_skip | go_guarded | go_step | go_upon
        go_ret
        exact ⟨by first | rfl | exact congrArg (fun z => Ending.returned (Value.int .i64 z)) hL3 | exact congrArg (fun z => Ending.returned (Value.int .i64 z)) hL4, rfl⟩
    · have c16' : ¬ ((65536 : Int) ≤ x) := by omega
      by_cases c8 : 256 ≤ x
      · have c8' : (256 : Int) ≤ x := by omega
        obtain ⟨y8, hy8⟩ : ∃ y, x / 2 ^ 8 = y := ⟨_, rfl⟩
        have g8 := log2_step x 8 (by omega)
        rw [hy8] at g8
        have e8 : (x : Int) / 256 = (y8 : Int) := by omega
        have hL2 : len8 y8 + 8 = L := by
          unfold len8
          rw [if_neg (by omega), ← hL.out]
          omega
        have hL3 : ((len8 y8 : Nat) : Int) + 8 = (L : Int) := by omega
        have hL4 : (8 : Int) + ((len8 y8 : Nat) : Int) = (L : Int) := by omega
        have hL5 : ((len8 y8 : Nat) : Int) ≤ 64 := by omega
        have hc256 : y8 < 256 := by omega
        have hTx := hTa y8 (by rw [hTs]; exact hc256)
        obtain ⟨l8, hl8⟩ : ∃ l, Hid (len8 y8 = l) := ⟨_, hide rfl⟩
        rw [hl8.out] at hTx hL3 hL4 hL5
        clear hL2 hl8 hTa
        go_enter Tryd.func71, Tryd.ntmps71
        rw [hT]
        clear hT
        repeat' first | go_values | go_skip | go_guarded | go_step | go_upon
        go_ret
        exact ⟨by first | rfl | exact congrArg (fun z => Ending.returned (Value.int .i64 z)) hL3 | exact congrArg (fun z => Ending.returned (Value.int .i64 z)) hL4, rfl⟩
      · have c8' : ¬ ((256 : Int) ≤ x) := by omega
        have hL2 : len8 x + 0 = L := by
          unfold len8
          rw [if_neg (by omega), ← hL.out]
        have hL3 : ((len8 x : Nat) : Int) + 0 = (L : Int) := by omega
        have hL4 : (0 : Int) + ((len8 x : Nat) : Int) = (L : Int) := by omega
        have hL5 : ((len8 x : Nat) : Int) ≤ 64 := by omega
        have hc256 : x < 256 := by omega
        have hTx := hTa x (by rw [hTs]; exact hc256)
        obtain ⟨l8, hl8⟩ : ∃ l, Hid (len8 x = l) := ⟨_, hide rfl⟩
        rw [hl8.out] at hTx hL3 hL4 hL5
        clear hL2 hl8 hTa
        go_enter Tryd.func71, Tryd.ntmps71
        rw [hT]
        clear hT
        repeat' first | go_values | go_skip | go_guarded | go_step | go_upon
        go_ret
        exact ⟨by first | rfl | exact congrArg (fun z => Ending.returned (Value.int .i64 z)) hL3 | exact congrArg (fun z => Ending.returned (Value.int .i64 z)) hL4, rfl⟩
end Go.Proofs.YteeiehaebiigfaaDoor
