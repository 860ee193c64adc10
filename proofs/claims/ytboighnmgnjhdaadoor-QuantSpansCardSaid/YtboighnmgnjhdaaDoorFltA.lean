/-
  Numbers of 64 bits as words: what kind one is, the order by rank, the same; what the model's comparison says of them. By an AI agent. No person has read it.
-/
import Derived.Laws.Cover2
import Derived.Laws.FloatBits
import Derived.Laws.FloatArith
namespace Go.Proofs.YtboighnmgnjhdaaDoor
namespace Flt
/-- The word of one that is none. -/
def nanb (b : Nat) : Bool := decide (9218868437227405312 < b % 9223372036854775808)
def expo (b : Nat) : Nat := b / 4503599627370496 % 2048
def frac (b : Nat) : Nat := b % 4503599627370496
def neg (b : Nat) : Bool := decide (9223372036854775808 ≤ b)
def kindNo (b : Nat) : Nat :=
  if expo b = 2047 ∧ frac b ≠ 0 then 1 else if expo b = 2047 then 2 else if expo b ≠ 0 then 5 else if frac b ≠ 0 then 4 else 3
def kindNeg (b : Nat) : Bool := if expo b = 2047 ∧ frac b ≠ 0 then false else neg b
def rank (b : Nat) : Nat := if nanb b = true then 18446744073709551615 else if 9223372036854775808 ≤ b then 18446744073709551615 - b else b + 9223372036854775808
def same (a b : Nat) : Bool := (nanb a && nanb b) || decide (a = b)
def less (a b : Nat) : Bool := decide (rank a < rank b)

theorem nan_iff (b : Nat) : nanb b = true ↔ expo b = 2047 ∧ frac b ≠ 0 := by
  unfold nanb expo frac
  rw [decide_eq_true_eq]
  omega
theorem nan_kind (b : Nat) : nanb b = decide (kindNo b = 1) := by
  have h := nan_iff b
  unfold kindNo
  by_cases h1 : expo b = 2047 ∧ frac b ≠ 0
  · rw [if_pos h1, h.2 h1]; rfl
  · rw [if_neg h1]
    have : nanb b = false := by
      cases hn : nanb b
      · rfl
      · exact absurd (h.1 hn) h1
    rw [this]
    symm
    rw [decide_eq_false_iff_not]
    split
    · decide
    · split
      · decide
      · split <;> decide
theorem kindNeg_nan {b : Nat} (h : nanb b = true) : kindNeg b = false := by
  unfold kindNeg
  rw [if_pos ((nan_iff b).1 h)]
theorem kindNeg_num {b : Nat} (h : nanb b = false) : kindNeg b = neg b := by
  unfold kindNeg
  rw [if_neg (fun h1 => by rw [(nan_iff b).2 h1] at h; cases h)]
theorem less_self (a : Nat) : less a a = false := by simp [less]
theorem same_self (a : Nat) : same a a = true := by simp [same]
theorem rank_lt (a : Nat) (h : a < 18446744073709551616) : rank a < 18446744073709551616 := by
  unfold rank
  split
  · decide
  · split <;> omega
theorem rank_num {a : Nat} (h : a < 18446744073709551616) (hn : nanb a = false) : rank a < 18446744073709551615 := by
  have h1 : ¬ (9218868437227405312 < a % 9223372036854775808) := by
    unfold nanb at hn
    rwa [decide_eq_false_iff_not] at hn
  unfold rank
  rw [if_neg (by rw [hn]; decide)]
  split <;> omega
/-- The reference's order: by signed words, what is none last. -/
theorem less_ref (a b : Nat) (ha : a < 18446744073709551616) (hb : b < 18446744073709551616) :
    less a b = if nanb a || nanb b then !nanb a && nanb b else decide ((if 9223372036854775808 ≤ a then (9223372036854775807 - a : Int) else a) < (if 9223372036854775808 ≤ b then (9223372036854775807 - b : Int) else b)) := by
  cases hna : nanb a <;> cases hnb : nanb b
  · have ra : rank a = if 9223372036854775808 ≤ a then 18446744073709551615 - a else a + 9223372036854775808 := by unfold rank; rw [if_neg (by rw [hna]; decide)]
    have rb : rank b = if 9223372036854775808 ≤ b then 18446744073709551615 - b else b + 9223372036854775808 := by unfold rank; rw [if_neg (by rw [hnb]; decide)]
    simp only [less, ra, rb, Bool.or_false, Bool.false_eq_true, if_false]
    congr 1
    apply propext
    split <;> split <;> omega
  · have h := rank_num ha hna
    have rb : rank b = 18446744073709551615 := by unfold rank; rw [if_pos hnb]
    simp [less, rb, h]
  · have h := rank_num hb hnb
    have ra : rank a = 18446744073709551615 := by unfold rank; rw [if_pos hna]
    simp only [less, ra]
    simp
    omega
  · have ra : rank a = 18446744073709551615 := by unfold rank; rw [if_pos hna]
    have rb : rank b = 18446744073709551615 := by unfold rank; rw [if_pos hnb]
    simp [less, ra, rb]

theorem sw : Ieee.double.signWeight = 9223372036854775808 := by decide +kernel
theorem bn : Ieee.double.binade = 4503599627370496 := by decide +kernel
theorem ir : Ieee.double.infRung = 9218868437227405312 := by decide +kernel
/-- A number beside itself: equal, or it is none. -/
theorem order_self (b : Nat) : Ieee.double.order b b = if nanb b = true then none else some .eq := by
  have h0 : ∀ d : Ieee.Datum, d.order d = if d.isNaN then none else some .eq := by
    intro d
    cases d with
    | number s m e => simp [Ieee.Datum.order, Ieee.Datum.isNaN]
    | infinity s => simp [Ieee.Datum.order, Ieee.Datum.isNaN]
    | nan s f => simp [Ieee.Datum.order, Ieee.Datum.isNaN]
  unfold Ieee.Format.order
  rw [h0]
  congr 1
  unfold Ieee.Format.read nanb
  rw [sw, bn, ir]
  dsimp only
  split
  · simp [Ieee.Datum.isNaN]; omega
  · split
    · simp [Ieee.Datum.isNaN]; omega
    · split
      · simp [Ieee.Datum.isNaN]; omega
      · simp [Ieee.Datum.isNaN]; omega
theorem rte_add (H E o : Nat) (hE : 0 < E) (hH : 0 < H) (ho : o < 2) : (H * E - 1 + o) / E = if o = 1 then H else H - 1 := by
  have h1 : E ≤ H * E := Nat.le_mul_of_pos_left _ hH
  obtain ⟨k, rfl⟩ : ∃ k, H = k + 1 := ⟨H - 1, by omega⟩
  rcases (show o = 0 ∨ o = 1 by omega) with rfl | rfl
  · rw [if_neg (by decide)]
    rw [show (k + 1) * E - 1 + 0 = (E - 1) + k * E by rw [Nat.add_mul]; omega, Nat.add_mul_div_right _ _ hE, Nat.div_eq_of_lt (by omega)]
    omega
  · rw [if_pos rfl, show (k + 1) * E - 1 + 1 = (k + 1) * E by omega, Nat.mul_div_cancel _ hE]
/-- Half up to even, by an added half and a mask. -/
theorem rte_eq (b H o : Nat) (hH : 0 < H) (ho : o = b / (2 * H) % 2) (a : Nat) (ha : a = if o = 1 then H else H - 1) :
    (b + a) - (b + a) % (2 * H) = b - b % (2 * H) + (if H < b % (2 * H) ∨ b % (2 * H) = H ∧ o = 1 then 2 * H else 0) := by
  have hb := Nat.div_add_mod b (2 * H)
  have hr : b % (2 * H) < 2 * H := Nat.mod_lt _ (by omega)
  generalize hq : b / (2 * H) = q at *
  generalize b % (2 * H) = r at *
  subst hb
  rw [Nat.add_assoc, Nat.mul_add_mod]
  have hm : (r + a) % (2 * H) = if r + a < 2 * H then r + a else r + a - 2 * H := by
    split
    · exact Nat.mod_eq_of_lt (by omega)
    · rw [Nat.mod_eq_sub_mod (by omega), Nat.mod_eq_of_lt (by split at ha <;> omega)]
  rw [hm]
  have hoo : o = 0 ∨ o = 1 := by omega
  rcases hoo with rfl | rfl
  · rw [if_neg (by decide)] at ha
    split <;> split <;> omega
  · rw [if_pos rfl] at ha
    split <;> split <;> omega
open Ieee
theorem lp : Ieee.double.leastPlace = -1074 := by decide +kernel
theorem signed_eq (s : Bool) (m k : Nat) : signed s m k = (if s then -1 else 1) * ((m * 2 ^ k : Nat) : Int) := by
  unfold signed
  rw [Nat.shiftLeft_eq]
  split <;> simp
theorem signed_add (s : Bool) (m k j : Nat) : signed s m (k + j) = signed s m k * ((2 ^ j : Nat) : Int) := by
  rw [signed_eq, signed_eq, Nat.pow_add, ← Nat.mul_assoc, Int.natCast_mul (m * 2 ^ k), Int.mul_assoc]
theorem compare_mul (a b : Int) (k : Nat) : compare (a * ((2 ^ k : Nat) : Int)) (b * ((2 ^ k : Nat) : Int)) = compare a b := by
  have hk : (0 : Int) < ((2 ^ k : Nat) : Int) := by exact_mod_cast Nat.two_pow_pos k
  generalize ((2 ^ k : Nat) : Int) = p at hk
  rcases Int.lt_trichotomy a b with h | h | h
  · rw [Int.compare_eq_lt.2 h, Int.compare_eq_lt]
    exact Int.mul_lt_mul_of_pos_right h hk
  · subst h
    simp
  · rw [Int.compare_eq_gt.2 h, Int.compare_eq_gt]
    exact Int.mul_lt_mul_of_pos_right h hk
/-- Two numbers compare as whole numbers of the smallest place. -/
theorem order_num (s t : Bool) (m n : Nat) (i j : Int) (hi : -1074 ≤ i) (hj : -1074 ≤ j) :
    (Datum.number s m i).order (.number t n j) = some (compare (signed s m (i + 1074).toNat) (signed t n (j + 1074).toNat)) := by
  simp only [Datum.order]
  congr 1
  have h1 : (i + 1074).toNat = (i - min i j).toNat + (min i j + 1074).toNat := by omega
  have h2 : (j + 1074).toNat = (j - min i j).toNat + (min i j + 1074).toNat := by omega
  rw [h1, h2, signed_add, signed_add, compare_mul]
/-- What a word says, in whole numbers of the smallest place. -/
def mag (b : Nat) : Nat := if b % 9223372036854775808 < 4503599627370496 then b % 9223372036854775808 else (4503599627370496 + b % 4503599627370496) * 2 ^ (b % 9223372036854775808 / 4503599627370496 - 1)
def key (b : Nat) : Int := if 9223372036854775808 ≤ b then - (mag b : Int) else mag b
theorem read_num (b : Nat) (hb : b < 18446744073709551616) (h : b % 9223372036854775808 < 9218868437227405312) :
    ∃ m i, double.read b = .number (decide (9223372036854775808 ≤ b)) m i ∧ -1074 ≤ i ∧ m * 2 ^ (i + 1074).toNat = mag b ∧ i ≤ 971 := by
  have hn : (b / 9223372036854775808 % 2 == 1) = decide (9223372036854775808 ≤ b) := by
    rw [Bool.eq_iff_iff]
    simp
    omega
  unfold Format.read mag
  rw [sw, bn, ir, lp]
  dsimp only
  rw [hn]
  split
  · exact ⟨_, _, rfl, by omega, by simp, by omega⟩
  · refine ⟨_, _, rfl, by omega, ?_, by omega⟩
    rw [show b % 9223372036854775808 % 4503599627370496 = b % 4503599627370496 by omega, show ((-1074 : Int) + ((b % 9223372036854775808 / 4503599627370496 - 1 : Nat) : Int) + 1074).toNat = b % 9223372036854775808 / 4503599627370496 - 1 by omega]
theorem order_key (a b : Nat) (ha : a < 18446744073709551616) (hb : b < 18446744073709551616) (h1 : a % 9223372036854775808 < 9218868437227405312) (h2 : b % 9223372036854775808 < 9218868437227405312) :
    double.order a b = some (compare (key a) (key b)) := by
  obtain ⟨m, i, e1, hi, hm, -⟩ := read_num a ha h1
  obtain ⟨n, j, e2, hj, hn, -⟩ := read_num b hb h2
  unfold Format.order
  rw [e1, e2, order_num _ _ _ _ _ _ hi hj, signed_eq, signed_eq, hm, hn]
  unfold key
  congr 1
  congr 1
  · by_cases h : 9223372036854775808 ≤ a <;> simp [h]
  · by_cases h : 9223372036854775808 ≤ b <;> simp [h]
theorem cut_zero (s : Bool) (n d : Nat) : Toward.zero.cut s n d = n / 2 ^ d := by
  unfold Toward.cut
  dsimp only
  rw [Bool.toNat_false, Nat.add_zero, Nat.shiftLeft_eq, Nat.one_mul]
  by_cases h : d ≤ n.log2 + 2
  · rw [Nat.min_eq_left h]
  · rw [Nat.min_eq_right (by omega)]
    have h1 : n < 2 ^ (n.log2 + 1) := Nat.lt_log2_self
    have h2 : 2 ^ (n.log2 + 1) ≤ 2 ^ (n.log2 + 2) := Nat.pow_le_pow_right (by decide) (by omega)
    have h3 : 2 ^ (n.log2 + 2) ≤ 2 ^ d := Nat.pow_le_pow_right (by decide) (by omega)
    rw [Nat.div_eq_of_lt (by omega), Nat.div_eq_of_lt (by omega)]
def pw (n : Nat) : Nat := 2 ^ n
theorem pw_pos (n : Nat) : 0 < pw n := Nat.two_pow_pos n
theorem shift_div (m : Nat) (i : Int) (K : Nat) (hi : -(K : Int) ≤ i) : m * 2 ^ i.toNat / 2 ^ (-i).toNat = m * 2 ^ (i + K).toNat / pw K := by
  unfold pw
  rcases Int.le_total 0 i with h0 | h0
  · rw [show (-i).toNat = 0 by omega, show (i + K).toNat = i.toNat + K by omega, Nat.pow_zero, Nat.div_one, Nat.pow_add, ← Nat.mul_assoc, Nat.mul_div_cancel _ (Nat.two_pow_pos _)]
  · rw [show i.toNat = 0 by omega, Nat.pow_zero, Nat.mul_one]
    obtain ⟨k, hk⟩ : ∃ k, k = (i + K).toNat := ⟨_, rfl⟩
    obtain ⟨j, hj⟩ : ∃ j, j = (-i).toNat := ⟨_, rfl⟩
    rw [← hk, ← hj, show K = j + k by omega, Nat.pow_add, Nat.mul_div_mul_right _ _ (Nat.two_pow_pos _)]
/-- One, in the smallest place. -/
def unit : Nat := pw 1074
theorem unit_pos : 0 < unit := pw_pos 1074
theorem shift_unit (m : Nat) (i : Int) (hi : -1074 ≤ i) : m * 2 ^ i.toNat / 2 ^ (-i).toNat = m * 2 ^ (i + 1074).toNat / unit := shift_div m i 1074 hi
/-- A number as a whole one, cut. -/
theorem toInt_key (b : Nat) (hb : b < 18446744073709551616) (h : b % 9223372036854775808 < 9218868437227405312) :
    (double.read b).toInt .zero = some (if 9223372036854775808 ≤ b then -((mag b / unit : Nat) : Int) else ((mag b / unit : Nat) : Int)) := by
  obtain ⟨m, i, e1, hi, hm, hi2⟩ := read_num b hb h
  rw [e1]
  simp only [Datum.toInt, Datum.integral, cut_zero]
  rw [signed_eq, Nat.pow_zero, Nat.mul_one, Nat.shiftLeft_eq, shift_unit m i hi, hm]
  generalize mag b / unit = q
  by_cases h : 9223372036854775808 ≤ b
  · rw [if_pos (decide_eq_true h), if_pos h]
    congr 1
    omega
  · rw [if_neg (by simpa using h), if_neg h]
    congr 1
    omega
end Flt
end Go.Proofs.YtboighnmgnjhdaaDoor
