/-
  Eight bytes and numbers of 64 bits: flt.Bytes, flt.Read, the reference's, walked. By an AI agent. No person has read it.
-/
import Derived.Test.YtboighnmgnjhdaaDoorBasC
import Derived.Test.YtboighnmgnjhdaaDoorErrD
import Derived.Test.YtboighnmgnjhdaaDoorFltM
namespace Go.Proofs.YtboighnmgnjhdaaDoor
open Go.RowKit

/-- The number of bytes, the lowest first. -/
def Flt.le : List Nat → Nat
  | [] => 0
  | b :: bs => b + 256 * Flt.le bs
/-- Its eight bytes. -/
def Flt.by8 (n : Nat) : List Nat := [n % 256, n / 256 % 256, n / 65536 % 256, n / 16777216 % 256, n / 4294967296 % 256, n / 1099511627776 % 256, n / 281474976710656 % 256, n / 72057594037927936 % 256]
theorem Flt.le_lt (bs : List Nat) (h : ∀ b ∈ bs, b < 256) : Flt.le bs < 256 ^ bs.length := by
  induction bs with
  | nil => decide
  | cons b bs ih =>
    have h1 := h b (List.mem_cons_self ..)
    have h2 := ih fun c hc => h c (List.mem_cons_of_mem _ hc)
    rw [Flt.le, List.length_cons, Nat.pow_succ]
    omega
theorem Flt.le_snoc (bs : List Nat) (c : Nat) : Flt.le (bs ++ [c]) = Flt.le bs + c * 256 ^ bs.length := by
  induction bs with
  | nil => simp [Flt.le]
  | cons b bs ih =>
    rw [List.cons_append, Flt.le, ih, Flt.le, List.length_cons, Nat.pow_succ, Nat.mul_add, Nat.add_assoc]
    congr 2
    rw [Nat.mul_left_comm, Nat.mul_comm 256]
theorem Flt.by8_lt (n : Nat) : ∀ b ∈ Flt.by8 n, b < 256 := by
  intro b hb
  simp only [Flt.by8, List.mem_cons, List.not_mem_nil, or_false] at hb
  omega
theorem Flt.le_by8 (n : Nat) (h : n < 18446744073709551616) : Flt.le (Flt.by8 n) = n := by
  simp only [Flt.by8, Flt.le]
  omega
theorem or_add (x b k : Nat) (hx : x < 2 ^ k) : x ||| b * 2 ^ k = x + b * 2 ^ k := by
  have h := Nat.two_pow_add_eq_or_of_lt hx b
  rw [Nat.or_comm, Nat.mul_comm, ← h, Nat.add_comm]
theorem shl_0 (b : Nat) (hb : b < 256) : IntKind.u64.wrap ((b : Int)) = ((b * 1 : Nat) : Int) := by
  rw [IntKind.wrap_u64]
  omega
theorem or_0 (x b : Nat) (hx : x < 1) (hb : b < 256) : bits .or .u64 (x : Int) ((b * 1 : Nat) : Int) = ((x + b * 1 : Nat) : Int) := by
  rw [u64_or_nat x _ (by omega) (by omega)]
  have h := or_add x b 0 hx
  exact congrArg (fun n : Nat => (n : Int)) h
theorem shl_1 (b : Nat) (hb : b < 256) : IntKind.u64.wrap ((b : Int) * 256) = ((b * 256 : Nat) : Int) := by
  rw [IntKind.wrap_u64]
  omega
theorem or_1 (x b : Nat) (hx : x < 256) (hb : b < 256) : bits .or .u64 (x : Int) ((b * 256 : Nat) : Int) = ((x + b * 256 : Nat) : Int) := by
  rw [u64_or_nat x _ (by omega) (by omega)]
  have h := or_add x b 8 hx
  exact congrArg (fun n : Nat => (n : Int)) h
theorem shl_2 (b : Nat) (hb : b < 256) : IntKind.u64.wrap ((b : Int) * 65536) = ((b * 65536 : Nat) : Int) := by
  rw [IntKind.wrap_u64]
  omega
theorem or_2 (x b : Nat) (hx : x < 65536) (hb : b < 256) : bits .or .u64 (x : Int) ((b * 65536 : Nat) : Int) = ((x + b * 65536 : Nat) : Int) := by
  rw [u64_or_nat x _ (by omega) (by omega)]
  have h := or_add x b 16 hx
  exact congrArg (fun n : Nat => (n : Int)) h
theorem shl_3 (b : Nat) (hb : b < 256) : IntKind.u64.wrap ((b : Int) * 16777216) = ((b * 16777216 : Nat) : Int) := by
  rw [IntKind.wrap_u64]
  omega
theorem or_3 (x b : Nat) (hx : x < 16777216) (hb : b < 256) : bits .or .u64 (x : Int) ((b * 16777216 : Nat) : Int) = ((x + b * 16777216 : Nat) : Int) := by
  rw [u64_or_nat x _ (by omega) (by omega)]
  have h := or_add x b 24 hx
  exact congrArg (fun n : Nat => (n : Int)) h
theorem shl_4 (b : Nat) (hb : b < 256) : IntKind.u64.wrap ((b : Int) * 4294967296) = ((b * 4294967296 : Nat) : Int) := by
  rw [IntKind.wrap_u64]
  omega
theorem or_4 (x b : Nat) (hx : x < 4294967296) (hb : b < 256) : bits .or .u64 (x : Int) ((b * 4294967296 : Nat) : Int) = ((x + b * 4294967296 : Nat) : Int) := by
  rw [u64_or_nat x _ (by omega) (by omega)]
  have h := or_add x b 32 hx
  exact congrArg (fun n : Nat => (n : Int)) h
theorem shl_5 (b : Nat) (hb : b < 256) : IntKind.u64.wrap ((b : Int) * 1099511627776) = ((b * 1099511627776 : Nat) : Int) := by
  rw [IntKind.wrap_u64]
  omega
theorem or_5 (x b : Nat) (hx : x < 1099511627776) (hb : b < 256) : bits .or .u64 (x : Int) ((b * 1099511627776 : Nat) : Int) = ((x + b * 1099511627776 : Nat) : Int) := by
  rw [u64_or_nat x _ (by omega) (by omega)]
  have h := or_add x b 40 hx
  exact congrArg (fun n : Nat => (n : Int)) h
theorem shl_6 (b : Nat) (hb : b < 256) : IntKind.u64.wrap ((b : Int) * 281474976710656) = ((b * 281474976710656 : Nat) : Int) := by
  rw [IntKind.wrap_u64]
  omega
theorem or_6 (x b : Nat) (hx : x < 281474976710656) (hb : b < 256) : bits .or .u64 (x : Int) ((b * 281474976710656 : Nat) : Int) = ((x + b * 281474976710656 : Nat) : Int) := by
  rw [u64_or_nat x _ (by omega) (by omega)]
  have h := or_add x b 48 hx
  exact congrArg (fun n : Nat => (n : Int)) h
theorem shl_7 (b : Nat) (hb : b < 256) : IntKind.u64.wrap ((b : Int) * 72057594037927936) = ((b * 72057594037927936 : Nat) : Int) := by
  rw [IntKind.wrap_u64]
  omega
theorem or_7 (x b : Nat) (hx : x < 72057594037927936) (hb : b < 256) : bits .or .u64 (x : Int) ((b * 72057594037927936 : Nat) : Int) = ((x + b * 72057594037927936 : Nat) : Int) := by
  rw [u64_or_nat x _ (by omega) (by omega)]
  have h := or_add x b 56 hx
  exact congrArg (fun n : Nat => (n : Int)) h
theorem fin8 (i : Nat) (h : i < 8) : i = 0 ∨ i = 1 ∨ i = 2 ∨ i = 3 ∨ i = 4 ∨ i = 5 ∨ i = 6 ∨ i = 7 := by omega
set_option maxRecDepth 100000 in
theorem read8_c (bs : List Nat) (A : Option Addr) (cap : Nat) (w : World) (hr : Rb w A bs) (hl : bs.length = 8) :
    Calls Tryd.prog 74 #[.slice A 8 cap] w fun e w' => e = .returned (.tuple #[.float .f64 (Flt.le bs), .nilIface]) ∧ w' = w := by
  have hff := run_f64from
  have HA := hide hr
  have HL := hide hl
  clear hr hl
  obtain ⟨R, hR⟩ : ∃ R, Hid (Flt.le bs = R) := ⟨_, hide rfl⟩
  rw [hR.out]
  go_enter Tryd.func74, Tryd.ntmps74
  go_wp2_with fail
  go_loopw [4, 19] (fun x k wr => ∃ (i : Nat) (v : Nat), i ≤ 8 ∧ k = .int .i64 i ∧ x = .int .u64 v ∧ Hid (Flt.le (bs.take i) = v) ∧ wr = w) (fun _ k _ => 8 - (intOf k).toNat)
  case atStart => exact ⟨0, 0, by omega, rfl, rfl, hide rfl, rfl⟩
  case round =>
    obtain ⟨i, v, hi, rfl, rfl, hI, rfl⟩ := hrel
    by_cases hlt : i < 8
    · obtain ⟨ad, b, rfl, eb, lb, cb⟩ := rb_at HA.out i (by rw [HL.out]; exact hlt)
      have hv : v < 256 ^ i := by
        rw [← hI.out]
        have h := Flt.le_lt (bs.take i) fun c hc => HA.out.1 c (List.mem_of_mem_take hc)
        rw [List.length_take, HL.out, Nat.min_eq_left hi] at h
        exact h
      have hs : Hid (Flt.le (bs.take (i + 1)) = v + b * 256 ^ i) := by
        rw [List.take_add_one, eb.out, Option.toList_some, Flt.le_snoc, hI.out, List.length_take, HL.out, Nat.min_eq_left hi]
        exact hide rfl
      clear hi
      rcases fin8 i hlt with rfl | rfl | rfl | rfl | rfl | rfl | rfl | rfl
      · have s1 := shl_0 b lb
        have cb2 := cb
        simp [Addr.add] at cb2
        have s2 := or_0 v b hv lb
        clear hlt
        obtain ⟨t, ht⟩ : ∃ t, Hid (v + b * 1 = t) := ⟨_, hide rfl⟩
        obtain ⟨u, hu⟩ : ∃ u, Hid (b * 1 = u) := ⟨_, hide rfl⟩
        rw [hu.out] at s1 s2 ht
        rw [ht.out] at s2
        have s3 : IntKind.u64.wrap (u : Int) = u := by
          have := hu.out
          rw [IntKind.wrap_u64]
          omega
        go_wp2_with fail
        go_roundw
        case rel => exact ⟨0 + 1, t, by omega, by go_num, rfl, hide (by rw [hs.out, ← ht.out, ← hu.out]), trivial⟩
        case measure => simp [intOf]
      · have s1 := shl_1 b lb
        have cb2 := cb
        simp [Addr.add] at cb2
        have s2 := or_1 v b hv lb
        clear hlt
        obtain ⟨t, ht⟩ : ∃ t, Hid (v + b * 256 = t) := ⟨_, hide rfl⟩
        obtain ⟨u, hu⟩ : ∃ u, Hid (b * 256 = u) := ⟨_, hide rfl⟩
        rw [hu.out] at s1 s2 ht
        rw [ht.out] at s2
        go_wp2_with fail
        go_roundw
        case rel => exact ⟨1 + 1, t, by omega, by go_num, rfl, hide (by rw [hs.out, ← ht.out, ← hu.out]), trivial⟩
        case measure => simp [intOf]
      · have s1 := shl_2 b lb
        have cb2 := cb
        simp [Addr.add] at cb2
        have s2 := or_2 v b hv lb
        clear hlt
        obtain ⟨t, ht⟩ : ∃ t, Hid (v + b * 65536 = t) := ⟨_, hide rfl⟩
        obtain ⟨u, hu⟩ : ∃ u, Hid (b * 65536 = u) := ⟨_, hide rfl⟩
        rw [hu.out] at s1 s2 ht
        rw [ht.out] at s2
        go_wp2_with fail
        go_roundw
        case rel => exact ⟨2 + 1, t, by omega, by go_num, rfl, hide (by rw [hs.out, ← ht.out, ← hu.out]), trivial⟩
        case measure => simp [intOf]
      · have s1 := shl_3 b lb
        have cb2 := cb
        simp [Addr.add] at cb2
        have s2 := or_3 v b hv lb
        clear hlt
        obtain ⟨t, ht⟩ : ∃ t, Hid (v + b * 16777216 = t) := ⟨_, hide rfl⟩
        obtain ⟨u, hu⟩ : ∃ u, Hid (b * 16777216 = u) := ⟨_, hide rfl⟩
        rw [hu.out] at s1 s2 ht
        rw [ht.out] at s2
        go_wp2_with fail
        go_roundw
        case rel => exact ⟨3 + 1, t, by omega, by go_num, rfl, hide (by rw [hs.out, ← ht.out, ← hu.out]), trivial⟩
        case measure => simp [intOf]
      · have s1 := shl_4 b lb
        have cb2 := cb
        simp [Addr.add] at cb2
        have s2 := or_4 v b hv lb
        clear hlt
        obtain ⟨t, ht⟩ : ∃ t, Hid (v + b * 4294967296 = t) := ⟨_, hide rfl⟩
        obtain ⟨u, hu⟩ : ∃ u, Hid (b * 4294967296 = u) := ⟨_, hide rfl⟩
        rw [hu.out] at s1 s2 ht
        rw [ht.out] at s2
        go_wp2_with fail
        go_roundw
        case rel => exact ⟨4 + 1, t, by omega, by go_num, rfl, hide (by rw [hs.out, ← ht.out, ← hu.out]), trivial⟩
        case measure => simp [intOf]
      · have s1 := shl_5 b lb
        have cb2 := cb
        simp [Addr.add] at cb2
        have s2 := or_5 v b hv lb
        clear hlt
        obtain ⟨t, ht⟩ : ∃ t, Hid (v + b * 1099511627776 = t) := ⟨_, hide rfl⟩
        obtain ⟨u, hu⟩ : ∃ u, Hid (b * 1099511627776 = u) := ⟨_, hide rfl⟩
        rw [hu.out] at s1 s2 ht
        rw [ht.out] at s2
        go_wp2_with fail
        go_roundw
        case rel => exact ⟨5 + 1, t, by omega, by go_num, rfl, hide (by rw [hs.out, ← ht.out, ← hu.out]), trivial⟩
        case measure => simp [intOf]
      · have s1 := shl_6 b lb
        have cb2 := cb
        simp [Addr.add] at cb2
        have s2 := or_6 v b hv lb
        clear hlt
        obtain ⟨t, ht⟩ : ∃ t, Hid (v + b * 281474976710656 = t) := ⟨_, hide rfl⟩
        obtain ⟨u, hu⟩ : ∃ u, Hid (b * 281474976710656 = u) := ⟨_, hide rfl⟩
        rw [hu.out] at s1 s2 ht
        rw [ht.out] at s2
        go_wp2_with fail
        go_roundw
        case rel => exact ⟨6 + 1, t, by omega, by go_num, rfl, hide (by rw [hs.out, ← ht.out, ← hu.out]), trivial⟩
        case measure => simp [intOf]
      · have s1 := shl_7 b lb
        have cb2 := cb
        simp [Addr.add] at cb2
        have s2 := or_7 v b hv lb
        clear hlt
        obtain ⟨t, ht⟩ : ∃ t, Hid (v + b * 72057594037927936 = t) := ⟨_, hide rfl⟩
        obtain ⟨u, hu⟩ : ∃ u, Hid (b * 72057594037927936 = u) := ⟨_, hide rfl⟩
        rw [hu.out] at s1 s2 ht
        rw [ht.out] at s2
        go_wp2_with fail
        go_roundw
        case rel => exact ⟨7 + 1, t, by omega, by go_num, rfl, hide (by rw [hs.out, ← ht.out, ← hu.out]), trivial⟩
        case measure => simp [intOf]
    · obtain rfl : i = 8 := by omega
      have hv : v = R := by
        rw [← hI.out, List.take_of_length_le (by rw [HL.out]; exact Nat.le_refl _), hR.out]
      subst hv
      go_wp2_with fail
      go_ret2
      exact ⟨rfl, rfl⟩
set_option maxRecDepth 100000 in
theorem refread8_c (bs : List Nat) (A : Option Addr) (cap : Nat) (w : World) (hr : Rb w A bs) (hl : bs.length = 8) :
    Calls Tryd.prog 42 #[.slice A 8 cap] w fun e w' => e = .returned (.tuple #[.float .f64 (Flt.le bs), .int .i64 0]) ∧ w' = w := by
  have hff := run_f64from
  have HA := hide hr
  have HL := hide hl
  clear hr hl
  obtain ⟨R, hR⟩ : ∃ R, Hid (Flt.le bs = R) := ⟨_, hide rfl⟩
  rw [hR.out]
  go_enter Tryd.func42, Tryd.ntmps42
  go_wp2_with fail
  go_loopw [4, 5] (fun x k wr => ∃ (i : Nat) (v : Nat), i ≤ 8 ∧ k = .int .i64 i ∧ x = .int .u64 v ∧ Hid (Flt.le (bs.take i) = v) ∧ wr = w) (fun _ k _ => 8 - (intOf k).toNat)
  case atStart => exact ⟨0, 0, by omega, rfl, rfl, hide rfl, rfl⟩
  case round =>
    obtain ⟨i, v, hi, rfl, rfl, hI, rfl⟩ := hrel
    by_cases hlt : i < 8
    · obtain ⟨ad, b, rfl, eb, lb, cb⟩ := rb_at HA.out i (by rw [HL.out]; exact hlt)
      have hv : v < 256 ^ i := by
        rw [← hI.out]
        have h := Flt.le_lt (bs.take i) fun c hc => HA.out.1 c (List.mem_of_mem_take hc)
        rw [List.length_take, HL.out, Nat.min_eq_left hi] at h
        exact h
      have hs : Hid (Flt.le (bs.take (i + 1)) = v + b * 256 ^ i) := by
        rw [List.take_add_one, eb.out, Option.toList_some, Flt.le_snoc, hI.out, List.length_take, HL.out, Nat.min_eq_left hi]
        exact hide rfl
      clear hi
      rcases fin8 i hlt with rfl | rfl | rfl | rfl | rfl | rfl | rfl | rfl
      · have s1 := shl_0 b lb
        have cb2 := cb
        simp [Addr.add] at cb2
        have s2 := or_0 v b hv lb
        clear hlt
        obtain ⟨t, ht⟩ : ∃ t, Hid (v + b * 1 = t) := ⟨_, hide rfl⟩
        obtain ⟨u, hu⟩ : ∃ u, Hid (b * 1 = u) := ⟨_, hide rfl⟩
        rw [hu.out] at s1 s2 ht
        rw [ht.out] at s2
        have s3 : IntKind.u64.wrap (u : Int) = u := by
          have := hu.out
          rw [IntKind.wrap_u64]
          omega
        go_wp2_with fail
        go_roundw
        case rel => exact ⟨0 + 1, t, by omega, by go_num, rfl, hide (by rw [hs.out, ← ht.out, ← hu.out]), trivial⟩
        case measure => simp [intOf]
      · have s1 := shl_1 b lb
        have cb2 := cb
        simp [Addr.add] at cb2
        have s2 := or_1 v b hv lb
        clear hlt
        obtain ⟨t, ht⟩ : ∃ t, Hid (v + b * 256 = t) := ⟨_, hide rfl⟩
        obtain ⟨u, hu⟩ : ∃ u, Hid (b * 256 = u) := ⟨_, hide rfl⟩
        rw [hu.out] at s1 s2 ht
        rw [ht.out] at s2
        go_wp2_with fail
        go_roundw
        case rel => exact ⟨1 + 1, t, by omega, by go_num, rfl, hide (by rw [hs.out, ← ht.out, ← hu.out]), trivial⟩
        case measure => simp [intOf]
      · have s1 := shl_2 b lb
        have cb2 := cb
        simp [Addr.add] at cb2
        have s2 := or_2 v b hv lb
        clear hlt
        obtain ⟨t, ht⟩ : ∃ t, Hid (v + b * 65536 = t) := ⟨_, hide rfl⟩
        obtain ⟨u, hu⟩ : ∃ u, Hid (b * 65536 = u) := ⟨_, hide rfl⟩
        rw [hu.out] at s1 s2 ht
        rw [ht.out] at s2
        go_wp2_with fail
        go_roundw
        case rel => exact ⟨2 + 1, t, by omega, by go_num, rfl, hide (by rw [hs.out, ← ht.out, ← hu.out]), trivial⟩
        case measure => simp [intOf]
      · have s1 := shl_3 b lb
        have cb2 := cb
        simp [Addr.add] at cb2
        have s2 := or_3 v b hv lb
        clear hlt
        obtain ⟨t, ht⟩ : ∃ t, Hid (v + b * 16777216 = t) := ⟨_, hide rfl⟩
        obtain ⟨u, hu⟩ : ∃ u, Hid (b * 16777216 = u) := ⟨_, hide rfl⟩
        rw [hu.out] at s1 s2 ht
        rw [ht.out] at s2
        go_wp2_with fail
        go_roundw
        case rel => exact ⟨3 + 1, t, by omega, by go_num, rfl, hide (by rw [hs.out, ← ht.out, ← hu.out]), trivial⟩
        case measure => simp [intOf]
      · have s1 := shl_4 b lb
        have cb2 := cb
        simp [Addr.add] at cb2
        have s2 := or_4 v b hv lb
        clear hlt
        obtain ⟨t, ht⟩ : ∃ t, Hid (v + b * 4294967296 = t) := ⟨_, hide rfl⟩
        obtain ⟨u, hu⟩ : ∃ u, Hid (b * 4294967296 = u) := ⟨_, hide rfl⟩
        rw [hu.out] at s1 s2 ht
        rw [ht.out] at s2
        go_wp2_with fail
        go_roundw
        case rel => exact ⟨4 + 1, t, by omega, by go_num, rfl, hide (by rw [hs.out, ← ht.out, ← hu.out]), trivial⟩
        case measure => simp [intOf]
      · have s1 := shl_5 b lb
        have cb2 := cb
        simp [Addr.add] at cb2
        have s2 := or_5 v b hv lb
        clear hlt
        obtain ⟨t, ht⟩ : ∃ t, Hid (v + b * 1099511627776 = t) := ⟨_, hide rfl⟩
        obtain ⟨u, hu⟩ : ∃ u, Hid (b * 1099511627776 = u) := ⟨_, hide rfl⟩
        rw [hu.out] at s1 s2 ht
        rw [ht.out] at s2
        go_wp2_with fail
        go_roundw
        case rel => exact ⟨5 + 1, t, by omega, by go_num, rfl, hide (by rw [hs.out, ← ht.out, ← hu.out]), trivial⟩
        case measure => simp [intOf]
      · have s1 := shl_6 b lb
        have cb2 := cb
        simp [Addr.add] at cb2
        have s2 := or_6 v b hv lb
        clear hlt
        obtain ⟨t, ht⟩ : ∃ t, Hid (v + b * 281474976710656 = t) := ⟨_, hide rfl⟩
        obtain ⟨u, hu⟩ : ∃ u, Hid (b * 281474976710656 = u) := ⟨_, hide rfl⟩
        rw [hu.out] at s1 s2 ht
        rw [ht.out] at s2
        go_wp2_with fail
        go_roundw
        case rel => exact ⟨6 + 1, t, by omega, by go_num, rfl, hide (by rw [hs.out, ← ht.out, ← hu.out]), trivial⟩
        case measure => simp [intOf]
      · have s1 := shl_7 b lb
        have cb2 := cb
        simp [Addr.add] at cb2
        have s2 := or_7 v b hv lb
        clear hlt
        obtain ⟨t, ht⟩ : ∃ t, Hid (v + b * 72057594037927936 = t) := ⟨_, hide rfl⟩
        obtain ⟨u, hu⟩ : ∃ u, Hid (b * 72057594037927936 = u) := ⟨_, hide rfl⟩
        rw [hu.out] at s1 s2 ht
        rw [ht.out] at s2
        go_wp2_with fail
        go_roundw
        case rel => exact ⟨7 + 1, t, by omega, by go_num, rfl, hide (by rw [hs.out, ← ht.out, ← hu.out]), trivial⟩
        case measure => simp [intOf]
    · obtain rfl : i = 8 := by omega
      have hv : v = R := by
        rw [← hI.out, List.take_of_length_le (by rw [HL.out]; exact Nat.le_refl _), hR.out]
      subst hv
      go_wp2_with fail
      go_ret2
      exact ⟨rfl, rfl⟩
set_option maxRecDepth 100000 in
theorem readend_c (es : List Addr) (a : Addr) (ha : es[4]? = some a) (A : Option Addr) (n cap : Nat) (w : World) (h : Ez w es) (hl : n < 8) :
    Calls Tryd.prog 74 #[.slice A n cap] w fun e w' => e = .returned (.tuple #[.float .f64 0, errv a]) ∧ ∃ q, w' = w.drewN q := by
  have hc := (h.2.2 4 _ a rfl ha).1
  have hl' : (n : Int) < 8 := by omega
  clear h
  go_enter Tryd.func74, Tryd.ntmps74
  go_wp2_with fail
  go_quiet (fail)
  go_wp2_with fail
  go_ret2
  exact ⟨rfl, _, rfl⟩
set_option maxRecDepth 100000 in
theorem readmany_c (es : List Addr) (a : Addr) (ha : es[3]? = some a) (A : Option Addr) (n cap : Nat) (w : World) (h : Ez w es) (hl : 8 < n) (hm : n ≤ 9223372036854775807) :
    Calls Tryd.prog 74 #[.slice A n cap] w fun e w' => e = .returned (.tuple #[.float .f64 0, errv a]) ∧ ∃ q, w' = w.drewN q := by
  have hc := (h.2.2 3 _ a rfl ha).1
  have hl' : (8 : Int) < n := by omega
  have hl2 : ¬ (n : Int) < 8 := by omega
  clear h
  go_enter Tryd.func74, Tryd.ntmps74
  go_wp2_with fail
  go_quiet (fail)
  go_wp2_with fail
  go_ret2
  exact ⟨rfl, _, rfl⟩
set_option maxRecDepth 100000 in
theorem refend_c (A : Option Addr) (n cap : Nat) (w : World) (hl : n < 8) :
    Calls Tryd.prog 42 #[.slice A n cap] w fun e w' => e = .returned (.tuple #[.float .f64 0, .int .i64 105]) ∧ w' = w := by
  have hl' : (n : Int) < 8 := by omega
  go_enter Tryd.func42, Tryd.ntmps42
  go_wp2_with fail
  go_ret2
  exact ⟨rfl, rfl⟩
set_option maxRecDepth 100000 in
theorem refmany_c (A : Option Addr) (n cap : Nat) (w : World) (hl : 8 < n) (hm : n ≤ 9223372036854775807) :
    Calls Tryd.prog 42 #[.slice A n cap] w fun e w' => e = .returned (.tuple #[.float .f64 0, .int .i64 104]) ∧ w' = w := by
  have hl' : (8 : Int) < n := by omega
  have hl2 : ¬ (n : Int) < 8 := by omega
  go_enter Tryd.func42, Tryd.ntmps42
  go_wp2_with fail
  go_ret2
  exact ⟨rfl, rfl⟩
end Go.Proofs.YtboighnmgnjhdaaDoor
