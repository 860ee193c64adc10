/-
  Numbers of 64 bits: what is known of them, in a namespace of its own. By an AI agent. No person has read it.
-/
import Derived.Laws.Cover2
import Derived.Laws.FloatBits
import Derived.Laws.FloatArith
import Derived.Test.YtgdcfjmpjhlndaaGreatDoorChecked
import Derived.StillTailTactics
import Derived.LoopN
import Derived.Lib.Hide
import Derived.Laws.BitsAllLaws
import Derived.WalkLawsBesides
import Derived.Lib.TrailingZeros
namespace Go.Proofs.YtgdcfjmpjhlndaaGreatDoor.F64
open Go.RowKit
namespace Flt
/-- The word of one that is none. -/
def nanb (b : Nat) : Bool := decide (9218868437227405312 < b % 9223372036854775808)
def expo (b : Nat) : Nat := b / 4503599627370496 % 2048
def frac (b : Nat) : Nat := b % 4503599627370496
def neg (b : Nat) : Bool := decide (9223372036854775808 ≤ b)
def kindNo (b : Nat) : Nat :=
  if expo b = 2047 ∧ frac b ≠ 0 then 1 else if expo b = 2047 then 2 else if expo b ≠ 0 then 5 else if frac b ≠ 0 then 4 else 3
def kindNeg (b : Nat) : Bool := if expo b = 2047 ∧ frac b ≠ 0 then false else neg b
theorem nan_iff (b : Nat) : nanb b = true ↔ expo b = 2047 ∧ frac b ≠ 0 := by
  unfold nanb expo frac
  rw [decide_eq_true_eq]
  omega
theorem sw : Ieee.double.signWeight = 9223372036854775808 := by decide +kernel
theorem bn : Ieee.double.binade = 4503599627370496 := by decide +kernel
theorem ir : Ieee.double.infRung = 9218868437227405312 := by decide +kernel
/-- A number beside itself: equal, or it is none. -/
theorem order_self (b : Nat) : Ieee.double.order b b = if nanb b = true then none else some .eq := by
  have h0 : ∀ d : Ieee.Datum, d.order d = if d.isNaN then none else some .eq := by
    intro d
    cases d with
    | number s m e => simp [Ieee.Datum.order, Ieee.Datum.isNaN]
    | infinity s => simp [Ieee.Datum.order, Ieee.Datum.isNaN]
    | nan s f => simp [Ieee.Datum.order, Ieee.Datum.isNaN]
  unfold Ieee.Format.order
  rw [h0]
  congr 1
  unfold Ieee.Format.read nanb
  rw [sw, bn, ir]
  dsimp only
  split
  · simp [Ieee.Datum.isNaN]; omega
  · split
    · simp [Ieee.Datum.isNaN]; omega
    · split
      · simp [Ieee.Datum.isNaN]; omega
      · simp [Ieee.Datum.isNaN]; omega
open Ieee
theorem lp : Ieee.double.leastPlace = -1074 := by decide +kernel
theorem signed_eq (s : Bool) (m k : Nat) : signed s m k = (if s then -1 else 1) * ((m * 2 ^ k : Nat) : Int) := by
  unfold signed
  rw [Nat.shiftLeft_eq]
  split <;> simp
theorem signed_add (s : Bool) (m k j : Nat) : signed s m (k + j) = signed s m k * ((2 ^ j : Nat) : Int) := by
  rw [signed_eq, signed_eq, Nat.pow_add, ← Nat.mul_assoc, Int.natCast_mul (m * 2 ^ k), Int.mul_assoc]
theorem compare_mul (a b : Int) (k : Nat) : compare (a * ((2 ^ k : Nat) : Int)) (b * ((2 ^ k : Nat) : Int)) = compare a b := by
  have hk : (0 : Int) < ((2 ^ k : Nat) : Int) := by exact_mod_cast Nat.two_pow_pos k
  generalize ((2 ^ k : Nat) : Int) = p at hk
  rcases Int.lt_trichotomy a b with h | h | h
  · rw [Int.compare_eq_lt.2 h, Int.compare_eq_lt]
    exact Int.mul_lt_mul_of_pos_right h hk
  · subst h
    simp
  · rw [Int.compare_eq_gt.2 h, Int.compare_eq_gt]
    exact Int.mul_lt_mul_of_pos_right h hk
/-- Two numbers compare as whole numbers of the smallest place. -/
theorem order_num (s t : Bool) (m n : Nat) (i j : Int) (hi : -1074 ≤ i) (hj : -1074 ≤ j) :
    (Datum.number s m i).order (.number t n j) = some (compare (signed s m (i + 1074).toNat) (signed t n (j + 1074).toNat)) := by
  simp only [Datum.order]
  congr 1
  have h1 : (i + 1074).toNat = (i - min i j).toNat + (min i j + 1074).toNat := by omega
  have h2 : (j + 1074).toNat = (j - min i j).toNat + (min i j + 1074).toNat := by omega
  rw [h1, h2, signed_add, signed_add, compare_mul]
/-- What a word says, in whole numbers of the smallest place. -/
def mag (b : Nat) : Nat := if b % 9223372036854775808 < 4503599627370496 then b % 9223372036854775808 else (4503599627370496 + b % 4503599627370496) * 2 ^ (b % 9223372036854775808 / 4503599627370496 - 1)
def key (b : Nat) : Int := if 9223372036854775808 ≤ b then - (mag b : Int) else mag b
theorem read_num (b : Nat) (hb : b < 18446744073709551616) (h : b % 9223372036854775808 < 9218868437227405312) :
    ∃ m i, double.read b = .number (decide (9223372036854775808 ≤ b)) m i ∧ -1074 ≤ i ∧ m * 2 ^ (i + 1074).toNat = mag b ∧ i ≤ 971 := by
  have hn : (b / 9223372036854775808 % 2 == 1) = decide (9223372036854775808 ≤ b) := by
    rw [Bool.eq_iff_iff]
    simp
    omega
  unfold Format.read mag
  rw [sw, bn, ir, lp]
  dsimp only
  rw [hn]
  split
  · exact ⟨_, _, rfl, by omega, by simp, by omega⟩
  · refine ⟨_, _, rfl, by omega, ?_, by omega⟩
    rw [show b % 9223372036854775808 % 4503599627370496 = b % 4503599627370496 by omega, show ((-1074 : Int) + ((b % 9223372036854775808 / 4503599627370496 - 1 : Nat) : Int) + 1074).toNat = b % 9223372036854775808 / 4503599627370496 - 1 by omega]
theorem order_key (a b : Nat) (ha : a < 18446744073709551616) (hb : b < 18446744073709551616) (h1 : a % 9223372036854775808 < 9218868437227405312) (h2 : b % 9223372036854775808 < 9218868437227405312) :
    double.order a b = some (compare (key a) (key b)) := by
  obtain ⟨m, i, e1, hi, hm, -⟩ := read_num a ha h1
  obtain ⟨n, j, e2, hj, hn, -⟩ := read_num b hb h2
  unfold Format.order
  rw [e1, e2, order_num _ _ _ _ _ _ hi hj, signed_eq, signed_eq, hm, hn]
  unfold key
  congr 1
  congr 1
  · by_cases h : 9223372036854775808 ≤ a <;> simp [h]
  · by_cases h : 9223372036854775808 ≤ b <;> simp [h]
theorem cut_zero (s : Bool) (n d : Nat) : Toward.zero.cut s n d = n / 2 ^ d := by
  unfold Toward.cut
  dsimp only
  rw [Bool.toNat_false, Nat.add_zero, Nat.shiftLeft_eq, Nat.one_mul]
  by_cases h : d ≤ n.log2 + 2
  · rw [Nat.min_eq_left h]
  · rw [Nat.min_eq_right (by omega)]
    have h1 : n < 2 ^ (n.log2 + 1) := Nat.lt_log2_self
    have h2 : 2 ^ (n.log2 + 1) ≤ 2 ^ (n.log2 + 2) := Nat.pow_le_pow_right (by decide) (by omega)
    have h3 : 2 ^ (n.log2 + 2) ≤ 2 ^ d := Nat.pow_le_pow_right (by decide) (by omega)
    rw [Nat.div_eq_of_lt (by omega), Nat.div_eq_of_lt (by omega)]
def pw (n : Nat) : Nat := 2 ^ n
theorem pw_pos (n : Nat) : 0 < pw n := Nat.two_pow_pos n
theorem shift_div (m : Nat) (i : Int) (K : Nat) (hi : -(K : Int) ≤ i) : m * 2 ^ i.toNat / 2 ^ (-i).toNat = m * 2 ^ (i + K).toNat / pw K := by
  unfold pw
  rcases Int.le_total 0 i with h0 | h0
  · rw [show (-i).toNat = 0 by omega, show (i + K).toNat = i.toNat + K by omega, Nat.pow_zero, Nat.div_one, Nat.pow_add, ← Nat.mul_assoc, Nat.mul_div_cancel _ (Nat.two_pow_pos _)]
  · rw [show i.toNat = 0 by omega, Nat.pow_zero, Nat.mul_one]
    obtain ⟨k, hk⟩ : ∃ k, k = (i + K).toNat := ⟨_, rfl⟩
    obtain ⟨j, hj⟩ : ∃ j, j = (-i).toNat := ⟨_, rfl⟩
    rw [← hk, ← hj, show K = j + k by omega, Nat.pow_add, Nat.mul_div_mul_right _ _ (Nat.two_pow_pos _)]
/-- One, in the smallest place. -/
def unit : Nat := pw 1074
theorem unit_pos : 0 < unit := pw_pos 1074
theorem shift_unit (m : Nat) (i : Int) (hi : -1074 ≤ i) : m * 2 ^ i.toNat / 2 ^ (-i).toNat = m * 2 ^ (i + 1074).toNat / unit := shift_div m i 1074 hi
/-- A number as a whole one, cut. -/
theorem toInt_key (b : Nat) (hb : b < 18446744073709551616) (h : b % 9223372036854775808 < 9218868437227405312) :
    (double.read b).toInt .zero = some (if 9223372036854775808 ≤ b then -((mag b / unit : Nat) : Int) else ((mag b / unit : Nat) : Int)) := by
  obtain ⟨m, i, e1, hi, hm, hi2⟩ := read_num b hb h
  rw [e1]
  simp only [Datum.toInt, Datum.integral, cut_zero]
  rw [signed_eq, Nat.pow_zero, Nat.mul_one, Nat.shiftLeft_eq, shift_unit m i hi, hm]
  generalize mag b / unit = q
  by_cases h : 9223372036854775808 ≤ b
  · rw [if_pos (decide_eq_true h), if_pos h]
    congr 1
    omega
  · rw [if_neg (by simpa using h), if_neg h]
    congr 1
    omega
end Flt
theorem run_f64bits (b : Nat) (w : World) : (callFunc 130 #[.float .f64 b]).run Tryz.prog w = .ok (.value (.int .u64 b)) w := by kernel_rfl
theorem hide {p : Prop} (h : p) : Hid p := h
theorem and_mask (b n : Nat) (hb : b < 18446744073709551616) (M : Int) (hM : M = ((2 ^ n - 1 : Nat) : Int)) (h64 : 2 ^ n - 1 < 18446744073709551616) : bits .and .u64 (b : Int) M = ((b % 2 ^ n : Nat) : Int) := by
  rw [hM, u64_and_nat b _ hb h64, Nat.and_two_pow_sub_one_eq_mod]
theorem expo_and (b : Nat) (hb : b < 18446744073709551616) : bits .and .u64 ((b : Int) / 4503599627370496) 2047 = (Flt.expo b : Int) := by
  have h : ((b : Int) / 4503599627370496) = ((b / 4503599627370496 : Nat) : Int) := by omega
  rw [h, and_mask _ 11 (by omega) 2047 (by decide) (by decide)]
  rfl
theorem frac_and (b : Nat) (hb : b < 18446744073709551616) : bits .and .u64 (b : Int) 4503599627370495 = (Flt.frac b : Int) := by
  rw [and_mask _ 52 hb 4503599627370495 (by decide) (by decide)]
  rfl
theorem neg_div (b : Nat) (hb : b < 18446744073709551616) : ((b : Int) / 9223372036854775808 == 1) = Flt.neg b := by
  unfold Flt.neg
  rw [Bool.eq_iff_iff, beq_iff_eq, decide_eq_true_eq]
  omega
theorem expo_lt (b : Nat) : Flt.expo b < 2048 := Nat.mod_lt _ (by decide)
set_option maxRecDepth 100000 in
theorem split_c (b : Nat) (hb : b < 18446744073709551616) (w : World) :
    Calls Tryz.prog 120 #[.float .f64 b] w fun e w' => e = .returned (.tuple #[.bool (Flt.neg b), .int .i64 (Flt.expo b), .int .u64 (Flt.frac b)]) ∧ w' = w := by
  have hfb := run_f64bits
  have h1 := expo_and b hb
  have h2 := frac_and b hb
  have h3 := neg_div b hb
  have h4 := expo_lt b
  obtain ⟨ex, hex⟩ : ∃ x, Hid (Flt.expo b = x) := ⟨_, hide rfl⟩
  obtain ⟨fr, hfr⟩ : ∃ x, Hid (Flt.frac b = x) := ⟨_, hide rfl⟩
  obtain ⟨ng, hng⟩ : ∃ x, Hid (Flt.neg b = x) := ⟨_, hide rfl⟩
  rw [hex.out] at h1 h4 ⊢
  rw [hfr.out] at h2 ⊢
  rw [hng.out] at h3 ⊢
  go_enter Tryz.func120, Tryz.ntmps120
  go_wp2_with fail
  go_ret3
  exact ⟨rfl, rfl⟩

set_option maxRecDepth 100000 in
theorem kind_c (b : Nat) (hb : b < 18446744073709551616) (w : World) :
    Calls Tryz.prog 103 #[.float .f64 b] w fun e w' => e = .returned (.tuple #[.int .i64 (Flt.kindNo b), .bool (Flt.kindNeg b)]) ∧ w' = w := by
  have hs := split_c b hb w
  obtain ⟨ex, hex⟩ : ∃ x, Hid (Flt.expo b = x) := ⟨_, hide rfl⟩
  obtain ⟨fr, hfr⟩ : ∃ x, Hid (Flt.frac b = x) := ⟨_, hide rfl⟩
  obtain ⟨ng, hng⟩ : ∃ x, Hid (Flt.neg b = x) := ⟨_, hide rfl⟩
  have HX := hex
  have HF := hfr
  rw [hex.out, hfr.out, hng.out] at hs
  have HS := hide hs
  clear hs hex hfr
  by_cases h1 : ex = 2047
  · subst h1
    by_cases h2 : fr = 0
    · subst h2
      rw [show Flt.kindNo b = 2 by unfold Flt.kindNo; simp [HX.out, HF.out], show Flt.kindNeg b = ng by unfold Flt.kindNeg; simp [HX.out, HF.out, hng.out]]
      go_enter Tryz.func103, Tryz.ntmps103
      go_wp2_with fail
      refine HS.out.mono ?_
      rintro e w1 ⟨rfl, rfl⟩
      go_wp2_with fail
      go_ret2
      exact ⟨rfl, rfl⟩
    · have h2' : ((fr : Int) != 0) = true := by simp; omega
      rw [show Flt.kindNo b = 1 by unfold Flt.kindNo; simp [HX.out, HF.out, h2], show Flt.kindNeg b = false by unfold Flt.kindNeg; simp [HX.out, HF.out, h2]]
      go_enter Tryz.func103, Tryz.ntmps103
      go_wp2_with fail
      refine HS.out.mono ?_
      rintro e w1 ⟨rfl, rfl⟩
      go_wp2_with fail
      go_ret2
      exact ⟨rfl, rfl⟩
  have h1' : ¬ ((ex : Int) = 2047) := by omega
  have h1'' : ((ex : Int) == 2047) = false := by simp; omega
  by_cases h0 : ex = 0
  · subst h0
    by_cases h2 : fr = 0
    · subst h2
      rw [show Flt.kindNo b = 3 by unfold Flt.kindNo; simp [HX.out, HF.out], show Flt.kindNeg b = ng by unfold Flt.kindNeg; simp [HX.out, HF.out, hng.out]]
      go_enter Tryz.func103, Tryz.ntmps103
      go_wp2_with fail
      refine HS.out.mono ?_
      rintro e w1 ⟨rfl, rfl⟩
      go_wp2_with fail
      go_ret2
      exact ⟨rfl, rfl⟩
    · have h2' : ((fr : Int) != 0) = true := by simp; omega
      rw [show Flt.kindNo b = 4 by unfold Flt.kindNo; simp [HX.out, HF.out, h2], show Flt.kindNeg b = ng by unfold Flt.kindNeg; simp [HX.out, HF.out, h2, hng.out]]
      go_enter Tryz.func103, Tryz.ntmps103
      go_wp2_with fail
      refine HS.out.mono ?_
      rintro e w1 ⟨rfl, rfl⟩
      go_wp2_with fail
      go_ret2
      exact ⟨rfl, rfl⟩
  · have h0' : ((ex : Int) != 0) = true := by simp; omega
    rw [show Flt.kindNo b = 5 by unfold Flt.kindNo; simp [HX.out, HF.out, h1, h0], show Flt.kindNeg b = ng by unfold Flt.kindNeg; simp [HX.out, HF.out, h1, hng.out]]
    go_enter Tryz.func103, Tryz.ntmps103
    go_wp2_with fail
    refine HS.out.mono ?_
    rintro e w1 ⟨rfl, rfl⟩
    go_wp2_with fail
    go_ret2
    exact ⟨rfl, rfl⟩
namespace Flt
open Ieee
theorem log2_of {K q : Nat} (h1 : 2 ^ q ≤ K) (h2 : K < 2 ^ (q + 1)) : K.log2 = q := by
  have hk : K ≠ 0 := by have := Nat.two_pow_pos q; omega
  have a := (Nat.le_log2 hk).2 h1
  have b := (Nat.log2_lt hk).2 h2
  omega
theorem cut_none (w : Toward) (s : Bool) (n : Nat) : w.cut s n 0 = n := by
  unfold Toward.cut
  rw [Nat.zero_min, Nat.shiftLeft_zero]
  dsimp only
  rw [Nat.div_one, Nat.mod_one]
  cases w <;> simp
/-- Half to even. -/
def half (m P : Nat) : Nat := m / P + if P < 2 * (m % P) ∨ P = 2 * (m % P) ∧ m / P % 2 = 1 then 1 else 0
theorem cut_even (s : Bool) (m n : Nat) : Toward.even.cut s m n = half m (2 ^ n) := by
  unfold Toward.cut half
  dsimp only
  rw [Nat.shiftLeft_eq, Nat.one_mul]
  have hb : ∀ (p : Bool) (q : Prop) [Decidable q], (p = true ↔ q) → p.toNat = if q then 1 else 0 := by
    intro p q _ h
    cases p
    · rw [if_neg (by rw [← h]; simp)]; rfl
    · rw [if_pos (h.1 rfl)]; rfl
  by_cases h : n ≤ m.log2 + 2
  · rw [Nat.min_eq_left h]
    congr 1
    apply hb
    simp
  · rw [Nat.min_eq_right (by omega)]
    have h1 : m < 2 ^ (m.log2 + 1) := Nat.lt_log2_self
    have h2 : 2 ^ (m.log2 + 2) = 2 * 2 ^ (m.log2 + 1) := by rw [Nat.pow_succ, Nat.mul_comm]
    have h3 : 2 ^ (m.log2 + 2) ≤ 2 ^ n := Nat.pow_le_pow_right (by decide) (by omega)
    generalize 2 ^ (m.log2 + 2) = G at *
    generalize 2 ^ (m.log2 + 1) = G1 at *
    generalize 2 ^ n = N at *
    have e1 : m / G = 0 := Nat.div_eq_of_lt (by omega)
    have e2 : m / N = 0 := Nat.div_eq_of_lt (by omega)
    have e3 : m % G = m := Nat.mod_eq_of_lt (by omega)
    have e4 : m % N = m := Nat.mod_eq_of_lt (by omega)
    rw [e1, e2, e3, e4]
    rw [if_neg (by omega)]
    have : (decide (G < 2 * m) || (G == 2 * m && 0 % 2 == 1)) = false := by
      simp
      omega
    rw [this]
    rfl
theorem word_eq (s : Bool) (r : Nat) : double.word s r = (if s then 9223372036854775808 else 0) + r := by
  unfold Format.word
  rw [sw]
  split <;> simp_all
theorem nearest_zero (s : Bool) (p : Int) : double.nearest s 0 p = if s then 9223372036854775808 else 0 := by
  unfold Format.nearest
  rw [if_pos rfl, word_eq, Nat.add_zero]
/-- A small whole number is one of them. -/
theorem nearest_small (s : Bool) (K q : Nat) (hq : q ≤ 52) (h1 : 2 ^ q ≤ K) (h2 : K < 2 ^ (q + 1)) : double.nearest s K 0 = (if s then 9223372036854775808 else 0) + ((1022 + q) * 4503599627370496 + K * 2 ^ (52 - q)) := by
  have hl := log2_of h1 h2
  have hK : K ≠ 0 := by have := Nat.two_pow_pos q; omega
  unfold Format.nearest
  rw [if_neg hK, hl, lp, bn, ir, word_eq]
  have hf : double.fractionBits = 52 := rfl
  rw [hf]
  have e1 : max (0 + (q : Int) - (52 : Nat)) (-1074) = (q : Int) - 52 := by omega
  rw [e1, show ((q : Int) - 52 - 0).toNat = 0 by omega, show (0 - ((q : Int) - 52)).toNat = 52 - q by omega, show ((q : Int) - 52 - -1074).toNat = 1022 + q by omega, cut_none, Nat.shiftLeft_eq]
  have h3 : K * 2 ^ (52 - q) < 2 ^ (q + 1) * 2 ^ (52 - q) := Nat.mul_lt_mul_of_pos_right h2 (Nat.two_pow_pos _)
  rw [← Nat.pow_add, show q + 1 + (52 - q) = 53 by omega] at h3
  have h4 : (1022 + q) * 4503599627370496 ≤ 1074 * 4503599627370496 := Nat.mul_le_mul_right _ (by omega)
  have h6 : (1022 + q) * 4503599627370496 + K * 2 ^ (52 - q) ≤ 9218868437227405312 := Nat.le_trans (Nat.add_le_add h4 (Nat.le_of_lt h3)) (by decide)
  rw [Nat.min_eq_left h6]
/-- One that is whole is itself. -/
theorem nearest_great (s : Bool) (m i : Nat) (h1 : 4503599627370496 ≤ m) (h2 : m < 9007199254740992) (hi : i ≤ 971) : double.nearest s (m * 2 ^ i) 0 = (if s then 9223372036854775808 else 0) + ((i + 1074) * 4503599627370496 + m) := by
  have hp := Nat.two_pow_pos i
  have hl : (m * 2 ^ i).log2 = 52 + i := by
    apply log2_of
    · rw [Nat.pow_add]
      exact Nat.mul_le_mul_right _ h1
    · rw [show 52 + i + 1 = 53 + i by omega, Nat.pow_add]
      exact Nat.mul_lt_mul_of_pos_right h2 hp
  have hK : m * 2 ^ i ≠ 0 := Nat.ne_of_gt (Nat.mul_pos (by omega) hp)
  unfold Format.nearest
  rw [if_neg hK, hl, lp, bn, ir, word_eq]
  have hf : double.fractionBits = 52 := rfl
  rw [hf]
  have e1 : max (0 + ((52 + i : Nat) : Int) - (52 : Nat)) (-1074) = (i : Int) := by omega
  rw [e1, show (0 - (i : Int)).toNat = 0 by omega, show ((i : Int) - 0).toNat = i by omega, show ((i : Int) - -1074).toNat = i + 1074 by omega, Nat.shiftLeft_zero, cut_even]
  have hh : half (m * 2 ^ i) (2 ^ i) = m := by
    unfold half
    rw [Nat.mul_div_cancel _ hp, Nat.mul_mod_left]
    rw [if_neg (by omega)]
    rfl
  have h4 : (i + 1074) * 4503599627370496 ≤ 2045 * 4503599627370496 := Nat.mul_le_mul_right _ (by omega)
  have h6 : (i + 1074) * 4503599627370496 + m ≤ 9218868437227405312 := Nat.le_trans (Nat.add_le_add h4 (Nat.le_of_lt h2)) (by decide)
  rw [hh, Nat.min_eq_left h6]
/-- The rounding by bits, as the reference has it. -/
def rround (b : Nat) : Nat :=
  if 1075 ≤ expo b then b else if expo b < 1022 then (if neg b = true then 9223372036854775808 else 0)
  else if expo b = 1022 then (if neg b = true then 9223372036854775808 else 0) + (if frac b = 0 then 0 else 4607182418800017408)
  else b - b % 2 ^ (1075 - expo b) + (if 2 ^ (1075 - expo b) < 2 * (b % 2 ^ (1075 - expo b)) ∨ 2 ^ (1075 - expo b) = 2 * (b % 2 ^ (1075 - expo b)) ∧ b / 2 ^ (1075 - expo b) % 2 = 1 then 2 ^ (1075 - expo b) else 0)
theorem split_word (b : Nat) (hb : b < 18446744073709551616) : b = (if neg b = true then 9223372036854775808 else 0) + (expo b * 4503599627370496 + frac b) := by
  unfold neg expo frac
  by_cases h : 9223372036854775808 ≤ b
  · rw [if_pos (decide_eq_true h)]
    omega
  · rw [if_neg (by simpa using h)]
    omega
theorem read_usual (b : Nat) (hb : b < 18446744073709551616) (h0 : expo b ≠ 0) (h1 : expo b ≠ 2047) : double.read b = .number (neg b) (4503599627370496 + frac b) ((expo b : Int) - 1075) := by
  have hn : (b / 9223372036854775808 % 2 == 1) = neg b := by
    unfold neg
    rw [Bool.eq_iff_iff]
    simp
    omega
  unfold Format.read
  rw [sw, bn, ir, lp]
  dsimp only
  rw [hn]
  unfold expo at h0 h1
  rw [if_neg (by omega), if_pos (by omega)]
  congr 1
  · unfold frac; omega
  · unfold expo; omega
theorem read_small (b : Nat) (hb : b < 18446744073709551616) (h0 : expo b = 0) : double.read b = .number (neg b) (frac b) (-1074) := by
  have hn : (b / 9223372036854775808 % 2 == 1) = neg b := by
    unfold neg
    rw [Bool.eq_iff_iff]
    simp
    omega
  unfold Format.read
  rw [sw, bn, ir, lp]
  dsimp only
  rw [hn]
  unfold expo at h0
  rw [if_pos (by omega)]
  congr 1
  unfold frac; omega
theorem half_small {m P : Nat} (h : 2 * m < P) : half m P = 0 := by
  unfold half
  rw [Nat.div_eq_of_lt (by omega), Nat.mod_eq_of_lt (by omega), if_neg (by omega)]
theorem frac_lt' (b : Nat) : frac b < 4503599627370496 := Nat.mod_lt _ (by decide)
theorem pow_le (a b : Nat) (h : a ≤ b) : 2 ^ a ≤ 2 ^ b := Nat.pow_le_pow_right (by decide) h
theorem round_eq (b : Nat) (hb : b < 18446744073709551616) : (if expo b = 2047 then b else double.write ((double.read b).integral .even)) = rround b := by
  have hf := frac_lt' b
  have hel : expo b < 2048 := Nat.mod_lt _ (by decide)
  unfold rround
  by_cases h7 : expo b = 2047
  · rw [if_pos h7, if_pos (by omega)]
  rw [if_neg h7]
  by_cases h0 : expo b = 0
  · rw [if_neg (by omega), if_pos (by omega), read_small b hb h0]
    simp only [Datum.integral, Format.write]
    rw [show (-1074 : Int).toNat = 0 by rfl, show (-(-1074) : Int).toNat = 1074 by rfl, Nat.shiftLeft_zero, cut_even, half_small, nearest_zero]
    have := pow_le 53 1074 (by decide)
    omega
  rw [read_usual b hb h0 h7]
  simp only [Datum.integral, Format.write]
  by_cases h1 : 1075 ≤ expo b
  · rw [if_pos h1, show (-((expo b : Int) - 1075)).toNat = 0 by omega, show ((expo b : Int) - 1075).toNat = expo b - 1075 by omega, cut_none, Nat.shiftLeft_eq, nearest_great _ _ _ (by omega) (by omega) (by omega)]
    have := split_word b hb
    omega
  rw [if_neg h1, show ((expo b : Int) - 1075).toNat = 0 by omega, show (-((expo b : Int) - 1075)).toNat = 1075 - expo b by omega, Nat.shiftLeft_zero, cut_even]
  by_cases h2 : expo b < 1022
  · rw [if_pos h2, half_small, nearest_zero]
    have := pow_le 54 (1075 - expo b) (by omega)
    omega
  rw [if_neg h2]
  by_cases h3 : expo b = 1022
  · rw [if_pos h3, h3, show 1075 - 1022 = 53 by decide]
    by_cases h4 : frac b = 0
    · rw [if_pos h4, h4]
      rw [show half (4503599627370496 + 0) (2 ^ 53) = 0 by decide, nearest_zero, Nat.add_zero]
    · rw [if_neg h4]
      have : half (4503599627370496 + frac b) (2 ^ 53) = 1 := by
        unfold half
        rw [show (2 : Nat) ^ 53 = 9007199254740992 by decide, Nat.div_eq_of_lt (by omega), Nat.mod_eq_of_lt (by omega), if_pos (by omega)]
      rw [this, nearest_small _ 1 0 (by decide) (by decide) (by decide)]
  rw [if_neg h3]
  -- the usual case
  obtain ⟨n, hn⟩ : ∃ n, n = 1075 - expo b := ⟨_, rfl⟩
  rw [← hn]
  have hn1 : 1 ≤ n := by omega
  have hn2 : n ≤ 52 := by omega
  have hsp : 2 ^ n * 2 ^ (52 - n) = 4503599627370496 := by rw [← Nat.pow_add, show n + (52 - n) = 52 by omega]
  have hP := Nat.two_pow_pos n
  have hQ := Nat.two_pow_pos (52 - n)
  have hq1 : 2 ^ (52 - n + 1) = 2 * 2 ^ (52 - n) := by rw [Nat.pow_succ, Nat.mul_comm]
  have hw := split_word b hb
  have hE : expo b = 1075 - n := by omega
  rw [hE] at hw
  generalize frac b = f at *
  generalize hS : (if neg b = true then 9223372036854775808 else 0) = S at *
  have hSS : S = 0 ∨ S = 9223372036854775808 := by
    rw [← hS]
    split
    · exact .inr rfl
    · exact .inl rfl
  obtain ⟨m, hm⟩ : ∃ m, m = 4503599627370496 + f := ⟨_, rfl⟩
  rw [← hm]
  obtain ⟨t, ht⟩ : ∃ t, t = S / 4503599627370496 + (1074 - n) := ⟨_, rfl⟩
  have hbt : b = 4503599627370496 * t + m := by omega
  have hpar : n = 52 → t % 2 = 0 := by omega
  have hdm := Nat.div_add_mod m (2 ^ n)
  have hml : m % 2 ^ n < 2 ^ n := Nat.mod_lt _ hP
  have hbm : b % 2 ^ n = m % 2 ^ n := by
    rw [hbt, ← hsp, Nat.mul_assoc, Nat.mul_add_mod]
  have hbd : b / 2 ^ n = 2 ^ (52 - n) * t + m / 2 ^ n := by
    rw [hbt, ← hsp, Nat.mul_assoc, Nat.mul_add_div hP]
  have hodd : b / 2 ^ n % 2 = m / 2 ^ n % 2 := by
    rw [hbd]
    have hev : 2 ^ (52 - n) * t % 2 = 0 := by
      by_cases h52 : n = 52
      · subst h52
        simp [hpar rfl]
      · obtain ⟨j, hj⟩ : ∃ j, 52 - n = j + 1 := ⟨51 - n, by omega⟩
        rw [hj, Nat.pow_succ, Nat.mul_comm (2 ^ j) 2, Nat.mul_assoc]
        exact Nat.mul_mod_right _ _
    omega
  rw [hbm, hodd]
  have hlo : 2 ^ (52 - n) ≤ m / 2 ^ n := by
    rw [Nat.le_div_iff_mul_le hP, Nat.mul_comm, hsp]
    omega
  have hhi : m / 2 ^ n < 2 * 2 ^ (52 - n) := by
    rw [Nat.div_lt_iff_lt_mul hP, Nat.mul_assoc, Nat.mul_comm (2 ^ (52 - n)), hsp]
    omega
  have hhalf : half m (2 ^ n) = m / 2 ^ n + (if 2 ^ n < 2 * (m % 2 ^ n) ∨ 2 ^ n = 2 * (m % 2 ^ n) ∧ m / 2 ^ n % 2 = 1 then 1 else 0) := rfl
  have hP2 : n = (n - 1) + 1 := by omega
  have hPP : 2 ^ n = 2 * 2 ^ (n - 1) := by
    have h := Nat.pow_succ (n := 2) (m := n - 1)
    rw [Nat.succ_eq_add_one, ← hP2, Nat.mul_comm] at h
    exact h
  have hbb : b - m % 2 ^ n = S + (1074 - n) * 4503599627370496 + 2 ^ n * (m / 2 ^ n) := by omega
  rw [hbb]
  have key : ∀ K, half m (2 ^ n) = K → 2 ^ (52 - n) ≤ K → K ≤ 2 * 2 ^ (52 - n) → double.nearest (neg b) (half m (2 ^ n)) 0 = S + (1074 - n) * 4503599627370496 + 2 ^ n * K := by
    intro K hK h8 h9
    rw [hK]
    by_cases hlt : K < 2 * 2 ^ (52 - n)
    · rw [nearest_small _ K (52 - n) (by omega) h8 (by omega), hS, show 52 - (52 - n) = n by omega, Nat.mul_comm K]
      omega
    · obtain rfl : K = 2 * 2 ^ (52 - n) := by omega
      have e1 : 2 ^ (53 - n) = 2 * 2 ^ (52 - n) := by rw [← hq1]; congr 1; omega
      have e2 : 2 ^ (53 - n + 1) = 2 * 2 ^ (53 - n) := by rw [Nat.pow_succ, Nat.mul_comm]
      rw [nearest_small _ _ (53 - n) (by omega) (by omega) (by omega), hS, show 52 - (53 - n) = n - 1 by omega]
      have e3 : 2 * 2 ^ (52 - n) * 2 ^ (n - 1) = 4503599627370496 := by
        rw [← hsp, hPP]
        ac_rfl
      have e4 : 2 ^ n * (2 * 2 ^ (52 - n)) = 2 * 4503599627370496 := by rw [Nat.mul_comm 2 (2 ^ (52 - n)), ← Nat.mul_assoc, hsp, Nat.mul_comm]
      rw [e3, e4]
      omega
  by_cases hc : 2 ^ n < 2 * (m % 2 ^ n) ∨ 2 ^ n = 2 * (m % 2 ^ n) ∧ m / 2 ^ n % 2 = 1
  · rw [if_pos hc] at hhalf ⊢
    rw [key _ hhalf (by omega) (by omega), Nat.mul_add, Nat.mul_one]
    omega
  · rw [if_neg hc, Nat.add_zero] at hhalf ⊢
    rw [key _ hhalf (by omega) (by omega)]
end Flt
namespace Flt
open Ieee
theorem pw_add (a b : Nat) : pw (a + b) = pw a * 2 ^ b := Nat.pow_add 2 a b
theorem mag_pw (b : Nat) (h : 4503599627370496 ≤ b % 9223372036854775808) : mag b = (4503599627370496 + b % 4503599627370496) * pw (b % 9223372036854775808 / 4503599627370496 - 1) := by
  unfold mag pw
  rw [if_neg (by omega)]
theorem mag_at (b e m k : Nat) (h : 4503599627370496 ≤ b % 9223372036854775808) (he : b % 9223372036854775808 / 4503599627370496 - 1 = 1074 + e) (hm : (4503599627370496 + b % 4503599627370496) * 2 ^ e = k) (_h : m = k) : mag b = m * unit := by
  rw [mag_pw b h, he, pw_add, ← Nat.mul_assoc, Nat.mul_right_comm, hm, _h]
  rfl
theorem key_b63 : key 4890909195324358656 = (9223372036854775808 : Int) * (unit : Int) := by
  unfold key
  rw [if_neg (by decide), mag_at 4890909195324358656 11 9223372036854775808 _ (by decide) (by decide) rfl (by decide)]
  exact Int.natCast_mul 9223372036854775808 unit
theorem key_n63 : key 14114281232179134464 = -((9223372036854775808 : Int) * (unit : Int)) := by
  unfold key
  rw [if_pos (by decide), mag_at 14114281232179134464 11 9223372036854775808 _ (by decide) (by decide) rfl (by decide)]
  exact congrArg _ (Int.natCast_mul 9223372036854775808 unit)
theorem key_p9 : key 4890691058569617664 = (9000000000000000000 : Int) * (unit : Int) := by
  unfold key
  rw [if_neg (by decide), mag_at 4890691058569617664 10 9000000000000000000 _ (by decide) (by decide) rfl (by decide)]
  exact Int.natCast_mul 9000000000000000000 unit
theorem key_n9 : key 14114063095424393472 = -((9000000000000000000 : Int) * (unit : Int)) := by
  unfold key
  rw [if_pos (by decide), mag_at 14114063095424393472 10 9000000000000000000 _ (by decide) (by decide) rfl (by decide)]
  exact congrArg _ (Int.natCast_mul 9000000000000000000 unit)
theorem cmp_lt {a b : Int} (h : a < b) : compare a b = .lt := Int.compare_eq_lt.2 h
theorem cmp_gt {a b : Int} (h : b < a) : compare a b = .gt := Int.compare_eq_gt.2 h
theorem read_inf (r : Nat) (hr : r < 18446744073709551616) (he : expo r = 2047) (hf : frac r = 0) : double.read r = .infinity (neg r) := by
  have hn : (r / 9223372036854775808 % 2 == 1) = neg r := by
    unfold neg
    rw [Bool.eq_iff_iff]
    simp
    omega
  unfold expo at he
  unfold frac at hf
  unfold Format.read
  rw [sw, bn, ir]
  dsimp only
  rw [hn, if_neg (by omega), if_neg (by omega), if_pos (by omega)]
theorem order_inf (r c : Nat) (hr : r < 18446744073709551616) (hc : c < 18446744073709551616) (he : expo r = 2047) (hf : frac r = 0) (h : c % 9223372036854775808 < 9218868437227405312) : double.order r c = some (if neg r = true then .lt else .gt) := by
  obtain ⟨m, i, e1, -⟩ := read_num c hc h
  unfold Format.order
  rw [read_inf r hr he hf, e1]
  rfl
/-- A number against the ends of 64 bits: beyond, below, or it has a whole part. -/
theorem wv_cases (r : Nat) (hr : r < 18446744073709551616) (hn : nanb r = false) :
    ((double.order r 4890909195324358656 = some .gt ∨ double.order r 4890909195324358656 = some .eq) ∧ double.order r 4890691058569617664 = some .gt ∧ double.order r 14114063095424393472 = some .gt) ∨
    (double.order r 4890909195324358656 = some .lt ∧ double.order r 14114281232179134464 = some .lt ∧ double.order r 14114063095424393472 = some .lt) ∨
    (∃ n o o9 p9, double.order r 4890909195324358656 = some .lt ∧ double.order r 14114281232179134464 = some o ∧ o ≠ .lt ∧ double.order r 14114063095424393472 = some o9 ∧ double.order r 4890691058569617664 = some p9 ∧
      floatToIntVal .f64 r .i64 = some n ∧ -9223372036854775808 ≤ n ∧ n ≤ 9223372036854775807) := by
  have hel : expo r < 2048 := Nat.mod_lt _ (by decide)
  by_cases he : expo r = 2047
  · have hf : frac r = 0 := by
      cases Nat.decEq (frac r) 0 with
      | isTrue h => exact h
      | isFalse h => rw [(nan_iff r).2 ⟨he, h⟩] at hn; cases hn
    have o1 := order_inf r 4890909195324358656 hr (by decide) he hf (by decide)
    have o2 := order_inf r 14114281232179134464 hr (by decide) he hf (by decide)
    have o3 := order_inf r 4890691058569617664 hr (by decide) he hf (by decide)
    have o4 := order_inf r 14114063095424393472 hr (by decide) he hf (by decide)
    by_cases hs : neg r = true
    · rw [if_pos hs] at o1 o2 o3 o4
      exact .inr (.inl ⟨o1, o2, o4⟩)
    · rw [if_neg hs] at o1 o2 o3 o4
      exact .inl ⟨.inl o1, o3, o4⟩
  · have hfin : r % 9223372036854775808 < 9218868437227405312 := by unfold expo at he hel; omega
    have o1 := order_key r 4890909195324358656 hr (by decide) hfin (by decide)
    have o2 := order_key r 14114281232179134464 hr (by decide) hfin (by decide)
    have o3 := order_key r 4890691058569617664 hr (by decide) hfin (by decide)
    have o4 := order_key r 14114063095424393472 hr (by decide) hfin (by decide)
    rw [key_b63] at o1
    rw [key_n63] at o2
    rw [key_p9] at o3
    rw [key_n9] at o4
    have hu := unit_pos
    have hT := toInt_key r hr hfin
    have hk : key r = if 9223372036854775808 ≤ r then - (mag r : Int) else mag r := rfl
    have hd1 := Nat.div_add_mod (mag r) unit
    have hd2 := Nat.mod_lt (mag r) hu
    have hmul : (unit * (mag r / unit) : Nat) = (unit : Nat) * (mag r / unit) := rfl
    generalize hq : mag r / unit = q at *
    generalize mag r % unit = z at *
    generalize mag r = M at *
    generalize unit = U at *
    have hqM : M < (q + 1) * U := by rw [Nat.add_mul, Nat.mul_comm q]; omega
    have hqm : q * U ≤ M := by rw [Nat.mul_comm q]; omega
    by_cases c1 : (9223372036854775808 : Int) * (U : Int) ≤ key r
    · refine .inl ⟨?_, ?_, ?_⟩
      · rw [o1]
        rcases Int.lt_or_eq_of_le c1 with h | h
        · exact .inl (congrArg _ (cmp_gt h))
        · rw [← h]
          exact .inr (congrArg _ (Int.compare_eq_eq.2 rfl))
      · rw [o3]; exact congrArg _ (cmp_gt (by omega))
      · rw [o4]; exact congrArg _ (cmp_gt (by omega))
    · rw [cmp_lt (by omega)] at o1
      by_cases c2 : key r < -((9223372036854775808 : Int) * (U : Int))
      · rw [cmp_lt c2] at o2
        exact .inr (.inl ⟨o1, o2, by rw [o4]; exact congrArg _ (cmp_lt (by omega))⟩)
      · have hn1 : -9223372036854775808 ≤ (if 9223372036854775808 ≤ r then -(q : Int) else q) ∧ (if 9223372036854775808 ≤ r then -(q : Int) else q) ≤ 9223372036854775807 := by
          by_cases h : 9223372036854775808 ≤ r
          · rw [if_pos h] at hk ⊢
            have h1 : q * U ≤ 9223372036854775808 * U := by omega
            have h2 := Nat.le_of_mul_le_mul_right h1 hu
            omega
          · rw [if_neg h] at hk ⊢
            have h1 : q * U < 9223372036854775808 * U := by omega
            have h2 := Nat.lt_of_mul_lt_mul_right h1
            omega
        refine .inr (.inr ⟨if 9223372036854775808 ≤ r then -(q : Int) else q, _, _, _, o1, o2, ?_, o4, o3, ?_, hn1.1, hn1.2⟩)
        · intro h
          exact c2 (Int.compare_eq_lt.1 h)
        · unfold floatToIntVal
          rw [show FloatKind.f64.decode r = double.read r from rfl, hT]
          dsimp only
          have e1 : IntKind.i64.min = -9223372036854775808 := by decide
          have e2 : IntKind.i64.max = 9223372036854775807 := by decide
          rw [e1, e2, if_pos hn1]
/-- A number as a whole one, cut to 64 bits; of none 0. -/
def wv (r : Nat) : Int :=
  if nanb r = true then 0 else if double.order r 4890909195324358656 = some .lt then
    (if double.order r 14114281232179134464 = some .lt then -9223372036854775808 else (floatToIntVal .f64 r .i64).getD 0) else 9223372036854775807
/-- .. cut to two ends, the first going ahead. -/
def clamp (v a b : Int) : Int := if (if v < b then v else b) < a then a else (if v < b then v else b)
def cutv (n a b : Int) : Int := if n < a then a else if b < n then b else n
theorem rround_lt (b : Nat) (hb : b < 18446744073709551616) : rround b < 18446744073709551616 := by
  have hel : expo b < 2048 := Nat.mod_lt _ (by decide)
  unfold rround
  by_cases h1 : 1075 ≤ expo b
  · rw [if_pos h1]; exact hb
  rw [if_neg h1]
  by_cases h2 : expo b < 1022
  · rw [if_pos h2]
    split <;> decide
  rw [if_neg h2]
  by_cases h3 : expo b = 1022
  · rw [if_pos h3]
    split <;> split <;> decide
  rw [if_neg h3]
  have hp : 2 ^ (1075 - expo b) ≤ 2 ^ 52 := Nat.pow_le_pow_right (by decide) (by omega)
  generalize 2 ^ (1075 - expo b) = P at *
  generalize b % P = low at *
  unfold expo at h1 h2 h3 hel
  split <;> omega
end Flt
/-- The word of s times 2^e, without a sign. -/
def Flt.near (s : Nat) (e : Int) : Nat := Ieee.double.nearest false s e
theorem near_eq (s : Nat) (e : Int) (h0 : s ≠ 0) : Flt.near s e = min ((max (e + s.log2 - 52) (-1074) + 1074).toNat * 4503599627370496 + Flt.half (s * 2 ^ (e - max (e + s.log2 - 52) (-1074)).toNat) (2 ^ (max (e + s.log2 - 52) (-1074) - e).toNat)) 9218868437227405312 := by
  unfold Flt.near Ieee.Format.nearest
  rw [if_neg h0, Flt.lp, Flt.bn, Flt.ir, Flt.word_eq]
  have hf : Ieee.double.fractionBits = 52 := rfl
  rw [hf, Flt.cut_even, Nat.shiftLeft_eq]
  simp only [Bool.false_eq_true, if_false, Nat.zero_add]
  rfl
theorem half_one (s : Nat) : Flt.half s (2 ^ 0) = s := by
  unfold Flt.half
  rw [Nat.pow_zero, Nat.div_one, Nat.mod_one, if_neg (by omega), Nat.add_zero]
/-- The nearest number of m times 2^e. -/
def Flt.mk (m e : Int) : Nat := if m = 0 then 0 else Ieee.double.nearest (decide (m < 0)) m.natAbs e
theorem near_sign (g : Bool) (s : Nat) (e : Int) (h0 : s ≠ 0) : Ieee.double.nearest g s e = (if g = true then 9223372036854775808 else 0) + Flt.near s e := by
  unfold Flt.near Ieee.Format.nearest
  rw [if_neg h0, if_neg h0]
  simp only [Flt.word_eq, Flt.cut_even]
  simp
theorem near_lt (s : Nat) (e : Int) (h0 : s ≠ 0) : Flt.near s e ≤ 9218868437227405312 := by
  rw [near_eq s e h0]
  exact Nat.min_le_right _ _
theorem half_exact (x P : Nat) (hP : 0 < P) : Flt.half (x * P) P = x := by
  unfold Flt.half
  rw [Nat.mul_div_cancel _ hP, Nat.mul_mod_left, if_neg (by omega), Nat.add_zero]
theorem half_scale (x P t : Nat) (ht : 0 < t) : Flt.half (x * t) (P * t) = Flt.half x P := by
  unfold Flt.half
  rw [Nat.mul_div_mul_right _ _ ht, Nat.mul_mod_mul_right]
  generalize x % P = y
  have e1 : P * t < 2 * (y * t) ↔ P < 2 * y := by
    rw [← Nat.mul_assoc]
    exact Nat.mul_lt_mul_right ht
  have e2 : P * t = 2 * (y * t) ↔ P = 2 * y := by
    rw [← Nat.mul_assoc]
    exact ⟨fun h => Nat.eq_of_mul_eq_mul_right ht h, fun h => by rw [h]⟩
  simp only [e1, e2]
/-- The kept digits, off the number moved to the top of a word. -/
theorem kept_eq (s : Nat) (e last : Int) (t d : Nat) (h : last - e = (d : Int) - t) : Flt.half (s * 2 ^ t) (2 ^ d) = Flt.half (s * 2 ^ (e - last).toNat) (2 ^ (last - e).toNat) := by
  by_cases hle : t ≤ d
  · obtain ⟨j, rfl⟩ : ∃ j, d = j + t := ⟨d - t, by omega⟩
    rw [show (e - last).toNat = 0 by omega, show (last - e).toNat = j by omega, Nat.pow_zero, Nat.mul_one, Nat.pow_add, half_scale _ _ _ (Nat.two_pow_pos t)]
  · obtain ⟨j, rfl⟩ : ∃ j, t = j + d := ⟨t - d, by omega⟩
    rw [show (e - last).toNat = j by omega, show (last - e).toNat = 0 by omega, Nat.pow_add, ← Nat.mul_assoc, half_exact _ _ (Nat.two_pow_pos d)]
    exact (half_one _).symm
theorem near_usual (s : Nat) (e : Int) (h0 : s ≠ 0) (hs : s < 18446744073709551616) (h1 : -1022 ≤ e + s.log2) (h2 : e + s.log2 ≤ 1023) : Flt.near s e = (e + s.log2 + 1022).toNat * 4503599627370496 + Flt.half (s * 2 ^ (63 - s.log2)) (2 ^ 11) ∧ 4503599627370496 ≤ Flt.half (s * 2 ^ (63 - s.log2)) (2 ^ 11) ∧ Flt.half (s * 2 ^ (63 - s.log2)) (2 ^ 11) ≤ 9007199254740992 := by
  have hl64 : s.log2 < 64 := (Nat.log2_lt h0).2 hs
  have hlo : 2 ^ s.log2 ≤ s := Nat.log2_self_le h0
  have hhi : s < 2 ^ (s.log2 + 1) := Nat.lt_log2_self
  have h5 : 2 ^ s.log2 * 2 ^ (63 - s.log2) ≤ s * 2 ^ (63 - s.log2) := Nat.mul_le_mul_right _ hlo
  rw [← Nat.pow_add, show s.log2 + (63 - s.log2) = 63 by omega] at h5
  have h6 : s * 2 ^ (63 - s.log2) < 2 ^ (s.log2 + 1) * 2 ^ (63 - s.log2) := Nat.mul_lt_mul_of_pos_right hhi (Nat.two_pow_pos _)
  rw [← Nat.pow_add, show s.log2 + 1 + (63 - s.log2) = 64 by omega] at h6
  have h7 : 4503599627370496 ≤ Flt.half (s * 2 ^ (63 - s.log2)) (2 ^ 11) ∧ Flt.half (s * 2 ^ (63 - s.log2)) (2 ^ 11) ≤ 9007199254740992 := by
    generalize s * 2 ^ (63 - s.log2) = U at *
    unfold Flt.half
    split <;> omega
  refine ⟨?_, h7⟩
  rw [near_eq s e h0]
  have hm : max (e + (s.log2 : Int) - 52) (-1074) = e + s.log2 - 52 := by omega
  rw [hm, ← kept_eq s e (e + s.log2 - 52) (63 - s.log2) 11 (by omega), show (e + (s.log2 : Int) - 52 + 1074).toNat = (e + s.log2 + 1022).toNat by omega]
  apply Nat.min_eq_left
  have h8 : (e + (s.log2 : Int) + 1022).toNat ≤ 2045 := by omega
  have h9 := Nat.mul_le_mul_right 4503599627370496 h8
  exact Nat.le_trans (Nat.add_le_add h9 h7.2) (by decide)
open Ieee
open Ieee
theorem order_nan {b : Nat} (h : Flt.nanb b = true) : FloatKind.f64.format.order b b = none := (Flt.order_self b).trans (by rw [h]; rfl)
theorem order_num' {b : Nat} (h : Flt.nanb b = false) : FloatKind.f64.format.order b b = some .eq := (Flt.order_self b).trans (by rw [h]; rfl)
/-- The nearest whole number, of two the even one, as the model has it. -/
def Flt.round (b : Nat) : Nat := if Flt.expo b = 2047 then b else Ieee.double.write ((Ieee.double.read b).integral .even)
theorem run_rte (b : Nat) (hb : b < 18446744073709551616) (he : Flt.expo b ≠ 2047) (w : World) : (callFunc 104 #[.float .f64 b]).run Tryz.prog w = .ok (.value (.float .f64 (Flt.round b))) w := by
  obtain ⟨m, i, e1, -⟩ := Flt.read_num b hb (by unfold Flt.expo at he; omega)
  have hd : FloatKind.f64.decode b = Ieee.Datum.number (decide (9223372036854775808 ≤ b)) m i := e1
  have hr : (Extern.MathFloor.toIntegral "math.RoundToEven" .even #[.float .f64 b]).run Tryz.prog w = .ok (.float .f64 (Flt.round b)) w := by
    unfold Flt.round
    rw [if_neg he, e1]
    obtain ⟨F, hF⟩ : ∃ F : Nat → Bool → Nat → Sem Value, ∀ b', Extern.MathFloor.toIntegral "math.RoundToEven" .even #[.float .f64 b'] = Extern.MathFloor.toIntegral.match_1 (fun _ => Sem Value) (FloatKind.f64.decode b') (fun s t => F b' s t) (fun d => pure (.float .f64 (FloatKind.f64.encode (d.integral .even)))) := ⟨_, fun b' => rfl⟩
    rw [hF, hd]
    rfl
  rw [run_callFunc_extern Tryz.func104 (by kernel_rfl) (by kernel_rfl) (by kernel_rfl) (show Extern.find Tryz.f104 = some (Extern.MathFloor.toIntegral "math.RoundToEven" .even) by kernel_rfl), hr]
  rfl
set_option maxRecDepth 100000 in
theorem round_c (b : Nat) (hb : b < 18446744073709551616) (w : World) :
    Calls Tryz.prog 86 #[.float .f64 b] w fun e w' => e = .returned (.float .f64 (Flt.round b)) ∧ w' = w := by
  have hk := kind_c b hb w
  obtain ⟨kg, hkg⟩ : ∃ x, Hid (Flt.kindNeg b = x) := ⟨_, hide rfl⟩
  rw [hkg.out] at hk
  by_cases he : Flt.expo b = 2047
  · have hp : Flt.round b = b := by unfold Flt.round; rw [if_pos he]
    rw [hp]
    have hkk : Flt.kindNo b = 1 ∨ Flt.kindNo b = 2 := by
      unfold Flt.kindNo
      by_cases hf : Flt.frac b = 0
      · exact .inr (by simp [he, hf])
      · exact .inl (by simp [he, hf])
    rcases hkk with h | h
    all_goals
      rw [h] at hk
      have HK := hide hk
      clear hk h he hp
      go_enter Tryz.func86, Tryz.ntmps86
      go_wp2_with fail
      refine HK.out.mono ?_
      rintro e w1 ⟨rfl, rfl⟩
      go_wp2_with fail
      go_ret
      exact ⟨rfl, rfl⟩
  · have hr := run_rte b hb he
    obtain ⟨r, hrr⟩ : ∃ x, Hid (Flt.round b = x) := ⟨_, hide rfl⟩
    rw [hrr.out] at hr ⊢
    have h12 : Flt.kindNo b ≠ 1 ∧ Flt.kindNo b ≠ 2 := by
      unfold Flt.kindNo
      rw [if_neg (fun h => he h.1), if_neg he]
      split
      · decide
      · split <;> decide
    obtain ⟨kn, hkn⟩ : ∃ x, Hid (Flt.kindNo b = x) := ⟨_, hide rfl⟩
    rw [hkn.out] at hk h12
    have h1 : ¬ ((kn : Int) = 1) := by omega
    have h2 : ¬ ((kn : Int) = 2) := by omega
    have h1' : ((kn : Int) == 1) = false := by simp; omega
    have h2' : ((kn : Int) == 2) = false := by simp; omega
    have HK := hide hk
    clear hk h12 he
    go_enter Tryz.func86, Tryz.ntmps86
    go_wp2_with fail
    refine HK.out.mono ?_
    rintro e w1 ⟨rfl, rfl⟩
    go_wp2_with fail
    go_ret
    exact ⟨rfl, rfl⟩

theorem round_rround (b : Nat) (hb : b < 18446744073709551616) : Flt.round b = Flt.rround b := Flt.round_eq b hb
theorem wv_nan {r : Nat} (h : Flt.nanb r = true) : Flt.wv r = 0 := by unfold Flt.wv; rw [if_pos h]
theorem wv_far {r : Nat} (h : Flt.nanb r = false) (o : Ieee.double.order r 4890909195324358656 = some .gt ∨ Ieee.double.order r 4890909195324358656 = some .eq) : Flt.wv r = 9223372036854775807 := by
  unfold Flt.wv
  rw [if_neg (by rw [h]; decide)]
  rcases o with o | o <;> rw [o] <;> rfl
theorem wv_low {r : Nat} (h : Flt.nanb r = false) (o : Ieee.double.order r 4890909195324358656 = some .lt) (o2 : Ieee.double.order r 14114281232179134464 = some .lt) : Flt.wv r = -9223372036854775808 := by
  unfold Flt.wv
  rw [if_neg (by rw [h]; decide), if_pos o, if_pos o2]
theorem wv_mid {r : Nat} {n : Int} {c : Ordering} (h : Flt.nanb r = false) (o : Ieee.double.order r 4890909195324358656 = some .lt) (o2 : Ieee.double.order r 14114281232179134464 = some c) (hc : c ≠ .lt) (hn : floatToIntVal .f64 r .i64 = some n) : Flt.wv r = n := by
  unfold Flt.wv
  rw [if_neg (by rw [h]; decide), if_pos o, if_neg (by rw [o2]; simpa using hc), hn]
  rfl
theorem convert_c {r : Nat} {n : Int} (h : floatToIntVal .f64 r .i64 = some n) (w : World) : (convert 61 3 (.float .f64 r)).run Tryz.prog w = .ok (.int .i64 n) w :=
  run_convert_float_int (P := Tryz.prog) w 61 3 .f64 .i64 r n (by kernel_rfl) (by kernel_rfl) h

set_option maxRecDepth 100000 in
theorem whole_c (r : Nat) (hr : r < 18446744073709551616) (w : World) :
    Calls Tryz.prog 85 #[.float .f64 r] w fun e w' => e = .returned (.int .i64 (Flt.wv r)) ∧ w' = w := by
  cases hn : Flt.nanb r
  · have ho := order_num' hn
    rcases Flt.wv_cases r hr hn with ⟨o1 | o1, -, -⟩ | ⟨o1, o2, -⟩ | ⟨n, o, o9, p9, o1, o2, hc, -, -, hv, -, -⟩
    · rw [wv_far hn (.inl o1)]
      have o1' : FloatKind.f64.format.order r 4890909195324358656 = some .gt := o1
      clear hn
      go_enter Tryz.func85, Tryz.ntmps85
      go_wp2_with fail
      go_ret
      exact ⟨rfl, rfl⟩
    · rw [wv_far hn (.inr o1)]
      have o1' : FloatKind.f64.format.order r 4890909195324358656 = some .eq := o1
      clear hn
      go_enter Tryz.func85, Tryz.ntmps85
      go_wp2_with fail
      go_ret
      exact ⟨rfl, rfl⟩
    · rw [wv_low hn o1 o2]
      have o1' : FloatKind.f64.format.order r 4890909195324358656 = some .lt := o1
      have o2' : FloatKind.f64.format.order r 14114281232179134464 = some .lt := o2
      clear hn
      go_enter Tryz.func85, Tryz.ntmps85
      go_wp2_with fail
      go_ret
      exact ⟨rfl, rfl⟩
    · rw [wv_mid hn o1 o2 hc hv]
      have o1' : FloatKind.f64.format.order r 4890909195324358656 = some .lt := o1
      have o2' : FloatKind.f64.format.order r 14114281232179134464 = some o := o2
      have hcv := convert_c hv
      clear hn
      cases o
      · exact absurd rfl hc
      all_goals
        go_enter Tryz.func85, Tryz.ntmps85
        go_wp2_with fail
        go_ret
        exact ⟨rfl, rfl⟩
  · have ho := order_nan hn
    rw [wv_nan hn]
    clear hn
    go_enter Tryz.func85, Tryz.ntmps85
    go_wp2_with fail
    go_ret
    exact ⟨rfl, rfl⟩

theorem round_lt (b : Nat) (hb : b < 18446744073709551616) : Flt.round b < 18446744073709551616 := by
  rw [round_rround b hb]
  exact Flt.rround_lt b hb
set_option maxRecDepth 100000 in
theorem wholeof_c (x : Nat) (hx : x < 18446744073709551616) (a b : Int) (w : World) :
    Calls Tryz.prog 62 #[.float .f64 x, .int .i64 a, .int .i64 b] w fun e w' => e = .returned (.int .i64 (Flt.clamp (Flt.wv (Flt.round x)) a b)) ∧ w' = w := by
  have H1 := hide (round_c x hx w)
  have H2 := hide (whole_c (Flt.round x) (round_lt x hx) w)
  obtain ⟨r, hr⟩ : ∃ r, Hid (Flt.round x = r) := ⟨_, hide rfl⟩
  rw [hr.out] at H1 H2 ⊢
  obtain ⟨v, hv⟩ : ∃ v, Hid (Flt.wv r = v) := ⟨_, hide rfl⟩
  rw [hv.out] at H2 ⊢
  unfold Flt.clamp
  rcases Int.lt_trichotomy v b with h1 | rfl | h1
  · rw [if_pos h1]
    rcases Int.lt_trichotomy v a with h2 | rfl | h2
    · rw [if_pos h2]
      go_enter Tryz.func62, Tryz.ntmps62
      go_wp2_with fail
      refine H1.out.mono ?_
      rintro e w1 ⟨rfl, rfl⟩
      go_wp2_with fail
      refine H2.out.mono ?_
      rintro e w1 ⟨rfl, rfl⟩
      go_wp2_with fail
      go_ret
      exact ⟨rfl, rfl⟩
    · rw [if_neg (Int.lt_irrefl _)]
      go_enter Tryz.func62, Tryz.ntmps62
      go_wp2_with fail
      refine H1.out.mono ?_
      rintro e w1 ⟨rfl, rfl⟩
      go_wp2_with fail
      refine H2.out.mono ?_
      rintro e w1 ⟨rfl, rfl⟩
      go_wp2_with fail
      go_ret
      exact ⟨rfl, rfl⟩
    · rw [if_neg (by omega)]
      go_enter Tryz.func62, Tryz.ntmps62
      go_wp2_with fail
      refine H1.out.mono ?_
      rintro e w1 ⟨rfl, rfl⟩
      go_wp2_with fail
      refine H2.out.mono ?_
      rintro e w1 ⟨rfl, rfl⟩
      go_wp2_with fail
      go_ret
      exact ⟨rfl, rfl⟩
  · rw [if_neg (Int.lt_irrefl _)]
    rcases Int.lt_trichotomy v a with h2 | rfl | h2
    · rw [if_pos h2]
      go_enter Tryz.func62, Tryz.ntmps62
      go_wp2_with fail
      refine H1.out.mono ?_
      rintro e w1 ⟨rfl, rfl⟩
      go_wp2_with fail
      refine H2.out.mono ?_
      rintro e w1 ⟨rfl, rfl⟩
      go_wp2_with fail
      go_ret
      exact ⟨rfl, rfl⟩
    · rw [if_neg (Int.lt_irrefl _)]
      go_enter Tryz.func62, Tryz.ntmps62
      go_wp2_with fail
      refine H1.out.mono ?_
      rintro e w1 ⟨rfl, rfl⟩
      go_wp2_with fail
      refine H2.out.mono ?_
      rintro e w1 ⟨rfl, rfl⟩
      go_wp2_with fail
      go_ret
      exact ⟨rfl, rfl⟩
    · rw [if_neg (by omega)]
      go_enter Tryz.func62, Tryz.ntmps62
      go_wp2_with fail
      refine H1.out.mono ?_
      rintro e w1 ⟨rfl, rfl⟩
      go_wp2_with fail
      refine H2.out.mono ?_
      rintro e w1 ⟨rfl, rfl⟩
      go_wp2_with fail
      go_ret
      exact ⟨rfl, rfl⟩
  · rw [if_neg (show ¬ v < b by omega)]
    rcases Int.lt_trichotomy b a with h2 | rfl | h2
    · rw [if_pos h2]
      go_enter Tryz.func62, Tryz.ntmps62
      go_wp2_with fail
      refine H1.out.mono ?_
      rintro e w1 ⟨rfl, rfl⟩
      go_wp2_with fail
      refine H2.out.mono ?_
      rintro e w1 ⟨rfl, rfl⟩
      go_wp2_with fail
      go_ret
      exact ⟨rfl, rfl⟩
    · rw [if_neg (Int.lt_irrefl _)]
      go_enter Tryz.func62, Tryz.ntmps62
      go_wp2_with fail
      refine H1.out.mono ?_
      rintro e w1 ⟨rfl, rfl⟩
      go_wp2_with fail
      refine H2.out.mono ?_
      rintro e w1 ⟨rfl, rfl⟩
      go_wp2_with fail
      go_ret
      exact ⟨rfl, rfl⟩
    · rw [if_neg (by omega)]
      go_enter Tryz.func62, Tryz.ntmps62
      go_wp2_with fail
      refine H1.out.mono ?_
      rintro e w1 ⟨rfl, rfl⟩
      go_wp2_with fail
      refine H2.out.mono ?_
      rintro e w1 ⟨rfl, rfl⟩
      go_wp2_with fail
      go_ret
      exact ⟨rfl, rfl⟩

set_option maxRecDepth 100000 in
theorem refcut_c (n a b : Int) (w : World) :
    Calls Tryz.prog 77 #[.int .i64 n, .int .i64 a, .int .i64 b] w fun e w' => e = .returned (.int .i64 (Flt.cutv n a b)) ∧ w' = w := by
  unfold Flt.cutv
  by_cases h1 : n < a
  · rw [if_pos h1]
    go_enter Tryz.func77, Tryz.ntmps77
    go_wp2_with fail
    go_ret
    exact ⟨rfl, rfl⟩
  rw [if_neg h1]
  by_cases h2 : b < n
  · rw [if_pos h2]
    go_enter Tryz.func77, Tryz.ntmps77
    go_wp2_with fail
    go_ret
    exact ⟨rfl, rfl⟩
  · rw [if_neg h2]
    go_enter Tryz.func77, Tryz.ntmps77
    go_wp2_with fail
    go_ret
    exact ⟨rfl, rfl⟩
open Ieee
open Ieee
open Ieee
/-- What a whole number of few digits by a power says. -/
theorem near_exact (s : Nat) (e : Int) (h0 : s ≠ 0) (hs : s < 9007199254740992) (h1 : -1000 ≤ e) (h2 : e ≤ 900) :
    Flt.expo (Flt.near s e) = (e + s.log2 + 1023).toNat ∧ Flt.near s e < 9218868437227405312 ∧ Flt.mag (Flt.near s e) = s * Flt.pw (e + 1074).toNat := by
  have hl : s.log2 < 53 := (Nat.log2_lt h0).2 hs
  obtain ⟨a, -, -⟩ := near_usual s e h0 (by omega) (by omega) (by omega)
  have hlo : 2 ^ s.log2 ≤ s := Nat.log2_self_le h0
  have hhi : s < 2 ^ (s.log2 + 1) := Nat.lt_log2_self
  have e1 : s * 2 ^ (63 - s.log2) = s * 2 ^ (52 - s.log2) * 2 ^ 11 := by
    rw [Nat.mul_assoc, ← Nat.pow_add]
    congr 2
    omega
  rw [e1, half_exact _ _ (by decide)] at a
  have b1 : 4503599627370496 ≤ s * 2 ^ (52 - s.log2) := by
    have b : 2 ^ s.log2 * 2 ^ (52 - s.log2) ≤ s * 2 ^ (52 - s.log2) := Nat.mul_le_mul_right _ hlo
    rw [← Nat.pow_add, show s.log2 + (52 - s.log2) = 52 by omega] at b
    exact b
  have b2 : s * 2 ^ (52 - s.log2) < 9007199254740992 := by
    have b : s * 2 ^ (52 - s.log2) < 2 ^ (s.log2 + 1) * 2 ^ (52 - s.log2) := Nat.mul_lt_mul_of_pos_right hhi (Nat.two_pow_pos _)
    rw [← Nat.pow_add, show s.log2 + 1 + (52 - s.log2) = 53 by omega] at b
    exact b
  obtain ⟨E, hE⟩ : ∃ E : Nat, (e + (s.log2 : Int) + 1022).toNat = E := ⟨_, rfl⟩
  rw [hE] at a
  have hZ : s * Flt.pw (e + 1074).toNat = s * 2 ^ (52 - s.log2) * Flt.pw E := by
    unfold Flt.pw
    rw [Nat.mul_assoc, ← Nat.pow_add]
    congr 2
    omega
  rw [hZ]
  obtain ⟨Z, hZZ⟩ : ∃ Z, s * 2 ^ (52 - s.log2) = Z := ⟨_, rfl⟩
  rw [hZZ] at a b1 b2 ⊢
  have hE2 : E ≤ 2000 := by omega
  refine ⟨by unfold Flt.expo; omega, by omega, ?_⟩
  rw [Flt.mag_pw _ (by omega), show Flt.near s e % 9223372036854775808 / 4503599627370496 - 1 = E by omega, show 4503599627370496 + Flt.near s e % 4503599627370496 = Z by omega]
open Ieee
theorem mag_mod (g r : Nat) (hg : g = 0 ∨ g = 9223372036854775808) : Flt.mag (g + r) = Flt.mag r := by
  unfold Flt.mag
  rw [show (g + r) % 9223372036854775808 = r % 9223372036854775808 by omega, show (g + r) % 4503599627370496 = r % 4503599627370496 by omega]
/-- What a whole number by a power says. -/
theorem mk_facts (M e : Int) (h0 : M ≠ 0) (hs : M.natAbs < 9007199254740992) (h1 : -1000 ≤ e) (h2 : e ≤ 900) :
    Flt.mk M e = (if M < 0 then 9223372036854775808 else 0) + Flt.near M.natAbs e ∧ Flt.mk M e < 18446744073709551616 ∧ Flt.expo (Flt.mk M e) ≠ 2047 ∧ Flt.neg (Flt.mk M e) = decide (M < 0) ∧ Flt.mag (Flt.mk M e) = M.natAbs * Flt.pw (e + 1074).toNat ∧ Flt.key (Flt.mk M e) = M * (Flt.pw (e + 1074).toNat : Int) := by
  obtain ⟨a1, a2, a3⟩ := near_exact M.natAbs e (by omega) hs h1 h2
  have hl : M.natAbs.log2 < 53 := (Nat.log2_lt (by omega)).2 hs
  have hmk : Flt.mk M e = (if M < 0 then 9223372036854775808 else 0) + Flt.near M.natAbs e := by
    unfold Flt.mk
    rw [if_neg h0, near_sign _ _ _ (by omega)]
    congr 1
    by_cases h : M < 0
    · rw [if_pos (decide_eq_true h), if_pos h]
    · rw [if_neg (by simpa using h), if_neg h]
  obtain ⟨g, hg⟩ : ∃ g : Nat, (if M < 0 then 9223372036854775808 else 0) = g := ⟨_, rfl⟩
  have hgg : (M < 0 ∧ g = 9223372036854775808) ∨ (¬ M < 0 ∧ g = 0) := by
    by_cases h : M < 0
    · rw [if_pos h] at hg; exact .inl ⟨h, hg.symm⟩
    · rw [if_neg h] at hg; exact .inr ⟨h, hg.symm⟩
  rw [hg] at hmk ⊢
  have hm := mag_mod g (Flt.near M.natAbs e) (by omega)
  rw [a3, ← hmk] at hm
  have hn : Flt.neg (Flt.mk M e) = decide (M < 0) := by
    unfold Flt.neg
    congr 1
    apply propext
    omega
  refine ⟨hmk, by omega, ?_, hn, hm, ?_⟩
  · have : Flt.expo (Flt.mk M e) = Flt.expo (Flt.near M.natAbs e) := by unfold Flt.expo; omega
    rw [this, a1]
    omega
  · unfold Flt.key
    rw [hm, Int.natCast_mul]
    rcases hgg with ⟨h, rfl⟩ | ⟨h, rfl⟩
    · rw [if_pos (by omega), show (M.natAbs : Int) = -M by omega, Int.neg_mul, Int.neg_neg]
    · rw [if_neg (by omega), show (M.natAbs : Int) = M by omega]
theorem mk_zero (e : Int) : Flt.mk 0 e = 0 := if_pos rfl
theorem key_zero : Flt.key 0 = 0 ∧ Flt.mag 0 = 0 := by
  have hm0 : Flt.mag 0 = 0 := rfl
  refine ⟨?_, hm0⟩
  unfold Flt.key
  rw [if_neg (by decide), hm0]
  rfl
/-- A whole number as such. -/
theorem whole_facts (n : Int) (hn : n.natAbs < 9007199254740992) : Flt.mk n 0 < 18446744073709551616 ∧ Flt.mk n 0 % 9223372036854775808 < 9218868437227405312 ∧ Flt.mag (Flt.mk n 0) = n.natAbs * Flt.unit ∧ Flt.key (Flt.mk n 0) = n * (Flt.unit : Int) := by
  by_cases h0 : n = 0
  · subst h0
    rw [mk_zero, key_zero.1, key_zero.2]
    simp
  · obtain ⟨-, a2, a3, -, a5, a6⟩ := mk_facts n 0 h0 hn (by decide) (by decide)
    refine ⟨a2, by unfold Flt.expo at a3; omega, a5, a6⟩
theorem float_of_any (n : Int) : floatOfInt .f64 n = Flt.mk n 0 := by
  unfold Flt.mk
  by_cases h0 : n = 0
  · subst h0
    rw [if_pos rfl]
    decide +kernel
  · rw [if_neg h0]
    rfl
end Go.Proofs.YtgdcfjmpjhlndaaGreatDoor.F64
