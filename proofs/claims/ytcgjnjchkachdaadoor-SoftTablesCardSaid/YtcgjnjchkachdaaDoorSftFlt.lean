/-
  Numbers of 64 bits: what is known of them, in a namespace of its own. By an AI agent. No person has read it.
-/
import Derived.Laws.Cover2
import Derived.Laws.FloatBits
import Derived.Laws.FloatArith
import Derived.Test.YtcgjnjchkachdaaDoorChecked
import Derived.StillTailTactics
import Derived.LoopN
import Derived.Lib.Hide
import Derived.Laws.BitsAllLaws
import Derived.WalkLawsBesides
import Derived.Lib.TrailingZeros
namespace Go.Proofs.YtcgjnjchkachdaaDoor.F64
open Go.RowKit

namespace Flt
/-- The word of one that is none. -/
def nanb (b : Nat) : Bool := decide (9218868437227405312 < b % 9223372036854775808)
def expo (b : Nat) : Nat := b / 4503599627370496 % 2048
def frac (b : Nat) : Nat := b % 4503599627370496
def neg (b : Nat) : Bool := decide (9223372036854775808 ≤ b)
def kindNo (b : Nat) : Nat :=
  if expo b = 2047 ∧ frac b ≠ 0 then 1 else if expo b = 2047 then 2 else if expo b ≠ 0 then 5 else if frac b ≠ 0 then 4 else 3
def kindNeg (b : Nat) : Bool := if expo b = 2047 ∧ frac b ≠ 0 then false else neg b
def rank (b : Nat) : Nat := if nanb b = true then 18446744073709551615 else if 9223372036854775808 ≤ b then 18446744073709551615 - b else b + 9223372036854775808
def same (a b : Nat) : Bool := (nanb a && nanb b) || decide (a = b)
def less (a b : Nat) : Bool := decide (rank a < rank b)

theorem nan_iff (b : Nat) : nanb b = true ↔ expo b = 2047 ∧ frac b ≠ 0 := by
  unfold nanb expo frac
  rw [decide_eq_true_eq]
  omega
theorem nan_kind (b : Nat) : nanb b = decide (kindNo b = 1) := by
  have h := nan_iff b
  unfold kindNo
  by_cases h1 : expo b = 2047 ∧ frac b ≠ 0
  · rw [if_pos h1, h.2 h1]; rfl
  · rw [if_neg h1]
    have : nanb b = false := by
      cases hn : nanb b
      · rfl
      · exact absurd (h.1 hn) h1
    rw [this]
    symm
    rw [decide_eq_false_iff_not]
    split
    · decide
    · split
      · decide
      · split <;> decide
theorem kindNeg_nan {b : Nat} (h : nanb b = true) : kindNeg b = false := by
  unfold kindNeg
  rw [if_pos ((nan_iff b).1 h)]
theorem kindNeg_num {b : Nat} (h : nanb b = false) : kindNeg b = neg b := by
  unfold kindNeg
  rw [if_neg (fun h1 => by rw [(nan_iff b).2 h1] at h; cases h)]
theorem less_self (a : Nat) : less a a = false := by simp [less]
theorem same_self (a : Nat) : same a a = true := by simp [same]
theorem rank_lt (a : Nat) (h : a < 18446744073709551616) : rank a < 18446744073709551616 := by
  unfold rank
  split
  · decide
  · split <;> omega
theorem rank_num {a : Nat} (h : a < 18446744073709551616) (hn : nanb a = false) : rank a < 18446744073709551615 := by
  have h1 : ¬ (9218868437227405312 < a % 9223372036854775808) := by
    unfold nanb at hn
    rwa [decide_eq_false_iff_not] at hn
  unfold rank
  rw [if_neg (by rw [hn]; decide)]
  split <;> omega
/-- The reference's order: by signed words, what is none last. -/
theorem less_ref (a b : Nat) (ha : a < 18446744073709551616) (hb : b < 18446744073709551616) :
    less a b = if nanb a || nanb b then !nanb a && nanb b else decide ((if 9223372036854775808 ≤ a then (9223372036854775807 - a : Int) else a) < (if 9223372036854775808 ≤ b then (9223372036854775807 - b : Int) else b)) := by
  cases hna : nanb a <;> cases hnb : nanb b
  · have ra : rank a = if 9223372036854775808 ≤ a then 18446744073709551615 - a else a + 9223372036854775808 := by unfold rank; rw [if_neg (by rw [hna]; decide)]
    have rb : rank b = if 9223372036854775808 ≤ b then 18446744073709551615 - b else b + 9223372036854775808 := by unfold rank; rw [if_neg (by rw [hnb]; decide)]
    simp only [less, ra, rb, Bool.or_false, Bool.false_eq_true, if_false]
    congr 1
    apply propext
    split <;> split <;> omega
  · have h := rank_num ha hna
    have rb : rank b = 18446744073709551615 := by unfold rank; rw [if_pos hnb]
    simp [less, rb, h]
  · have h := rank_num hb hnb
    have ra : rank a = 18446744073709551615 := by unfold rank; rw [if_pos hna]
    simp only [less, ra]
    simp
    omega
  · have ra : rank a = 18446744073709551615 := by unfold rank; rw [if_pos hna]
    have rb : rank b = 18446744073709551615 := by unfold rank; rw [if_pos hnb]
    simp [less, ra, rb]

theorem sw : Ieee.double.signWeight = 9223372036854775808 := by decide +kernel
theorem bn : Ieee.double.binade = 4503599627370496 := by decide +kernel
theorem ir : Ieee.double.infRung = 9218868437227405312 := by decide +kernel
/-- A number beside itself: equal, or it is none. -/
theorem order_self (b : Nat) : Ieee.double.order b b = if nanb b = true then none else some .eq := by
  have h0 : ∀ d : Ieee.Datum, d.order d = if d.isNaN then none else some .eq := by
    intro d
    cases d with
    | number s m e => simp [Ieee.Datum.order, Ieee.Datum.isNaN]
    | infinity s => simp [Ieee.Datum.order, Ieee.Datum.isNaN]
    | nan s f => simp [Ieee.Datum.order, Ieee.Datum.isNaN]
  unfold Ieee.Format.order
  rw [h0]
  congr 1
  unfold Ieee.Format.read nanb
  rw [sw, bn, ir]
  dsimp only
  split
  · simp [Ieee.Datum.isNaN]; omega
  · split
    · simp [Ieee.Datum.isNaN]; omega
    · split
      · simp [Ieee.Datum.isNaN]; omega
      · simp [Ieee.Datum.isNaN]; omega
theorem rte_add (H E o : Nat) (hE : 0 < E) (hH : 0 < H) (ho : o < 2) : (H * E - 1 + o) / E = if o = 1 then H else H - 1 := by
  have h1 : E ≤ H * E := Nat.le_mul_of_pos_left _ hH
  obtain ⟨k, rfl⟩ : ∃ k, H = k + 1 := ⟨H - 1, by omega⟩
  rcases (show o = 0 ∨ o = 1 by omega) with rfl | rfl
  · rw [if_neg (by decide)]
    rw [show (k + 1) * E - 1 + 0 = (E - 1) + k * E by rw [Nat.add_mul]; omega, Nat.add_mul_div_right _ _ hE, Nat.div_eq_of_lt (by omega)]
    omega
  · rw [if_pos rfl, show (k + 1) * E - 1 + 1 = (k + 1) * E by omega, Nat.mul_div_cancel _ hE]
/-- Half up to even, by an added half and a mask. -/
theorem rte_eq (b H o : Nat) (hH : 0 < H) (ho : o = b / (2 * H) % 2) (a : Nat) (ha : a = if o = 1 then H else H - 1) :
    (b + a) - (b + a) % (2 * H) = b - b % (2 * H) + (if H < b % (2 * H) ∨ b % (2 * H) = H ∧ o = 1 then 2 * H else 0) := by
  have hb := Nat.div_add_mod b (2 * H)
  have hr : b % (2 * H) < 2 * H := Nat.mod_lt _ (by omega)
  generalize hq : b / (2 * H) = q at *
  generalize b % (2 * H) = r at *
  subst hb
  rw [Nat.add_assoc, Nat.mul_add_mod]
  have hm : (r + a) % (2 * H) = if r + a < 2 * H then r + a else r + a - 2 * H := by
    split
    · exact Nat.mod_eq_of_lt (by omega)
    · rw [Nat.mod_eq_sub_mod (by omega), Nat.mod_eq_of_lt (by split at ha <;> omega)]
  rw [hm]
  have hoo : o = 0 ∨ o = 1 := by omega
  rcases hoo with rfl | rfl
  · rw [if_neg (by decide)] at ha
    split <;> split <;> omega
  · rw [if_pos rfl] at ha
    split <;> split <;> omega
open Ieee
theorem lp : Ieee.double.leastPlace = -1074 := by decide +kernel
theorem signed_eq (s : Bool) (m k : Nat) : signed s m k = (if s then -1 else 1) * ((m * 2 ^ k : Nat) : Int) := by
  unfold signed
  rw [Nat.shiftLeft_eq]
  split <;> simp
theorem signed_add (s : Bool) (m k j : Nat) : signed s m (k + j) = signed s m k * ((2 ^ j : Nat) : Int) := by
  rw [signed_eq, signed_eq, Nat.pow_add, ← Nat.mul_assoc, Int.natCast_mul (m * 2 ^ k), Int.mul_assoc]
theorem compare_mul (a b : Int) (k : Nat) : compare (a * ((2 ^ k : Nat) : Int)) (b * ((2 ^ k : Nat) : Int)) = compare a b := by
  have hk : (0 : Int) < ((2 ^ k : Nat) : Int) := by exact_mod_cast Nat.two_pow_pos k
  generalize ((2 ^ k : Nat) : Int) = p at hk
  rcases Int.lt_trichotomy a b with h | h | h
  · rw [Int.compare_eq_lt.2 h, Int.compare_eq_lt]
    exact Int.mul_lt_mul_of_pos_right h hk
  · subst h
    simp
  · rw [Int.compare_eq_gt.2 h, Int.compare_eq_gt]
    exact Int.mul_lt_mul_of_pos_right h hk
/-- Two numbers compare as whole numbers of the smallest place. -/
theorem order_num (s t : Bool) (m n : Nat) (i j : Int) (hi : -1074 ≤ i) (hj : -1074 ≤ j) :
    (Datum.number s m i).order (.number t n j) = some (compare (signed s m (i + 1074).toNat) (signed t n (j + 1074).toNat)) := by
  simp only [Datum.order]
  congr 1
  have h1 : (i + 1074).toNat = (i - min i j).toNat + (min i j + 1074).toNat := by omega
  have h2 : (j + 1074).toNat = (j - min i j).toNat + (min i j + 1074).toNat := by omega
  rw [h1, h2, signed_add, signed_add, compare_mul]
/-- What a word says, in whole numbers of the smallest place. -/
def mag (b : Nat) : Nat := if b % 9223372036854775808 < 4503599627370496 then b % 9223372036854775808 else (4503599627370496 + b % 4503599627370496) * 2 ^ (b % 9223372036854775808 / 4503599627370496 - 1)
def key (b : Nat) : Int := if 9223372036854775808 ≤ b then - (mag b : Int) else mag b
theorem read_num (b : Nat) (hb : b < 18446744073709551616) (h : b % 9223372036854775808 < 9218868437227405312) :
    ∃ m i, double.read b = .number (decide (9223372036854775808 ≤ b)) m i ∧ -1074 ≤ i ∧ m * 2 ^ (i + 1074).toNat = mag b ∧ i ≤ 971 := by
  have hn : (b / 9223372036854775808 % 2 == 1) = decide (9223372036854775808 ≤ b) := by
    rw [Bool.eq_iff_iff]
    simp
    omega
  unfold Format.read mag
  rw [sw, bn, ir, lp]
  dsimp only
  rw [hn]
  split
  · exact ⟨_, _, rfl, by omega, by simp, by omega⟩
  · refine ⟨_, _, rfl, by omega, ?_, by omega⟩
    rw [show b % 9223372036854775808 % 4503599627370496 = b % 4503599627370496 by omega, show ((-1074 : Int) + ((b % 9223372036854775808 / 4503599627370496 - 1 : Nat) : Int) + 1074).toNat = b % 9223372036854775808 / 4503599627370496 - 1 by omega]
theorem order_key (a b : Nat) (ha : a < 18446744073709551616) (hb : b < 18446744073709551616) (h1 : a % 9223372036854775808 < 9218868437227405312) (h2 : b % 9223372036854775808 < 9218868437227405312) :
    double.order a b = some (compare (key a) (key b)) := by
  obtain ⟨m, i, e1, hi, hm, -⟩ := read_num a ha h1
  obtain ⟨n, j, e2, hj, hn, -⟩ := read_num b hb h2
  unfold Format.order
  rw [e1, e2, order_num _ _ _ _ _ _ hi hj, signed_eq, signed_eq, hm, hn]
  unfold key
  congr 1
  congr 1
  · by_cases h : 9223372036854775808 ≤ a <;> simp [h]
  · by_cases h : 9223372036854775808 ≤ b <;> simp [h]
theorem cut_zero (s : Bool) (n d : Nat) : Toward.zero.cut s n d = n / 2 ^ d := by
  unfold Toward.cut
  dsimp only
  rw [Bool.toNat_false, Nat.add_zero, Nat.shiftLeft_eq, Nat.one_mul]
  by_cases h : d ≤ n.log2 + 2
  · rw [Nat.min_eq_left h]
  · rw [Nat.min_eq_right (by omega)]
    have h1 : n < 2 ^ (n.log2 + 1) := Nat.lt_log2_self
    have h2 : 2 ^ (n.log2 + 1) ≤ 2 ^ (n.log2 + 2) := Nat.pow_le_pow_right (by decide) (by omega)
    have h3 : 2 ^ (n.log2 + 2) ≤ 2 ^ d := Nat.pow_le_pow_right (by decide) (by omega)
    rw [Nat.div_eq_of_lt (by omega), Nat.div_eq_of_lt (by omega)]
def pw (n : Nat) : Nat := 2 ^ n
theorem pw_pos (n : Nat) : 0 < pw n := Nat.two_pow_pos n
theorem shift_div (m : Nat) (i : Int) (K : Nat) (hi : -(K : Int) ≤ i) : m * 2 ^ i.toNat / 2 ^ (-i).toNat = m * 2 ^ (i + K).toNat / pw K := by
  unfold pw
  rcases Int.le_total 0 i with h0 | h0
  · rw [show (-i).toNat = 0 by omega, show (i + K).toNat = i.toNat + K by omega, Nat.pow_zero, Nat.div_one, Nat.pow_add, ← Nat.mul_assoc, Nat.mul_div_cancel _ (Nat.two_pow_pos _)]
  · rw [show i.toNat = 0 by omega, Nat.pow_zero, Nat.mul_one]
    obtain ⟨k, hk⟩ : ∃ k, k = (i + K).toNat := ⟨_, rfl⟩
    obtain ⟨j, hj⟩ : ∃ j, j = (-i).toNat := ⟨_, rfl⟩
    rw [← hk, ← hj, show K = j + k by omega, Nat.pow_add, Nat.mul_div_mul_right _ _ (Nat.two_pow_pos _)]
/-- One, in the smallest place. -/
def unit : Nat := pw 1074
theorem unit_pos : 0 < unit := pw_pos 1074
theorem shift_unit (m : Nat) (i : Int) (hi : -1074 ≤ i) : m * 2 ^ i.toNat / 2 ^ (-i).toNat = m * 2 ^ (i + 1074).toNat / unit := shift_div m i 1074 hi
/-- A number as a whole one, cut. -/
theorem toInt_key (b : Nat) (hb : b < 18446744073709551616) (h : b % 9223372036854775808 < 9218868437227405312) :
    (double.read b).toInt .zero = some (if 9223372036854775808 ≤ b then -((mag b / unit : Nat) : Int) else ((mag b / unit : Nat) : Int)) := by
  obtain ⟨m, i, e1, hi, hm, hi2⟩ := read_num b hb h
  rw [e1]
  simp only [Datum.toInt, Datum.integral, cut_zero]
  rw [signed_eq, Nat.pow_zero, Nat.mul_one, Nat.shiftLeft_eq, shift_unit m i hi, hm]
  generalize mag b / unit = q
  by_cases h : 9223372036854775808 ≤ b
  · rw [if_pos (decide_eq_true h), if_pos h]
    congr 1
    omega
  · rw [if_neg (by simpa using h), if_neg h]
    congr 1
    omega
end Flt
theorem run_f64bits (b : Nat) (w : World) : (callFunc 128 #[.float .f64 b]).run Tryd.prog w = .ok (.value (.int .u64 b)) w := by kernel_rfl
theorem run_f64from (n : Nat) (w : World) : (callFunc 129 #[.int .u64 n]).run Tryd.prog w = .ok (.value (.float .f64 n)) w := by kernel_rfl

theorem hide {p : Prop} (h : p) : Hid p := h
theorem and_mask (b n : Nat) (hb : b < 18446744073709551616) (M : Int) (hM : M = ((2 ^ n - 1 : Nat) : Int)) (h64 : 2 ^ n - 1 < 18446744073709551616) : bits .and .u64 (b : Int) M = ((b % 2 ^ n : Nat) : Int) := by
  rw [hM, u64_and_nat b _ hb h64, Nat.and_two_pow_sub_one_eq_mod]
theorem expo_and (b : Nat) (hb : b < 18446744073709551616) : bits .and .u64 ((b : Int) / 4503599627370496) 2047 = (Flt.expo b : Int) := by
  have h : ((b : Int) / 4503599627370496) = ((b / 4503599627370496 : Nat) : Int) := by omega
  rw [h, and_mask _ 11 (by omega) 2047 (by decide) (by decide)]
  rfl
theorem frac_and (b : Nat) (hb : b < 18446744073709551616) : bits .and .u64 (b : Int) 4503599627370495 = (Flt.frac b : Int) := by
  rw [and_mask _ 52 hb 4503599627370495 (by decide) (by decide)]
  rfl
theorem neg_div (b : Nat) (hb : b < 18446744073709551616) : ((b : Int) / 9223372036854775808 == 1) = Flt.neg b := by
  unfold Flt.neg
  rw [Bool.eq_iff_iff, beq_iff_eq, decide_eq_true_eq]
  omega
theorem expo_lt (b : Nat) : Flt.expo b < 2048 := Nat.mod_lt _ (by decide)
theorem frac_lt (b : Nat) : Flt.frac b < 4503599627370496 := Nat.mod_lt _ (by decide)

set_option maxRecDepth 100000 in
theorem split_c (b : Nat) (hb : b < 18446744073709551616) (w : World) :
    Calls Tryd.prog 144 #[.float .f64 b] w fun e w' => e = .returned (.tuple #[.bool (Flt.neg b), .int .i64 (Flt.expo b), .int .u64 (Flt.frac b)]) ∧ w' = w := by
  have hfb := run_f64bits
  have h1 := expo_and b hb
  have h2 := frac_and b hb
  have h3 := neg_div b hb
  have h4 := expo_lt b
  obtain ⟨ex, hex⟩ : ∃ x, Hid (Flt.expo b = x) := ⟨_, hide rfl⟩
  obtain ⟨fr, hfr⟩ : ∃ x, Hid (Flt.frac b = x) := ⟨_, hide rfl⟩
  obtain ⟨ng, hng⟩ : ∃ x, Hid (Flt.neg b = x) := ⟨_, hide rfl⟩
  rw [hex.out] at h1 h4 ⊢
  rw [hfr.out] at h2 ⊢
  rw [hng.out] at h3 ⊢
  go_enter Tryd.func144, Tryd.ntmps144
  go_wp2_with fail
  go_ret3
  exact ⟨rfl, rfl⟩

set_option maxRecDepth 100000 in
theorem kind_c (b : Nat) (hb : b < 18446744073709551616) (w : World) :
    Calls Tryd.prog 126 #[.float .f64 b] w fun e w' => e = .returned (.tuple #[.int .i64 (Flt.kindNo b), .bool (Flt.kindNeg b)]) ∧ w' = w := by
  have hs := split_c b hb w
  obtain ⟨ex, hex⟩ : ∃ x, Hid (Flt.expo b = x) := ⟨_, hide rfl⟩
  obtain ⟨fr, hfr⟩ : ∃ x, Hid (Flt.frac b = x) := ⟨_, hide rfl⟩
  obtain ⟨ng, hng⟩ : ∃ x, Hid (Flt.neg b = x) := ⟨_, hide rfl⟩
  have HX := hex
  have HF := hfr
  rw [hex.out, hfr.out, hng.out] at hs
  have HS := hide hs
  clear hs hex hfr
  by_cases h1 : ex = 2047
  · subst h1
    by_cases h2 : fr = 0
    · subst h2
      rw [show Flt.kindNo b = 2 by unfold Flt.kindNo; simp [HX.out, HF.out], show Flt.kindNeg b = ng by unfold Flt.kindNeg; simp [HX.out, HF.out, hng.out]]
      go_enter Tryd.func126, Tryd.ntmps126
      go_wp2_with fail
      refine HS.out.mono ?_
      rintro e w1 ⟨rfl, rfl⟩
      go_wp2_with fail
      go_ret2
      exact ⟨rfl, rfl⟩
    · have h2' : ((fr : Int) != 0) = true := by simp; omega
      rw [show Flt.kindNo b = 1 by unfold Flt.kindNo; simp [HX.out, HF.out, h2], show Flt.kindNeg b = false by unfold Flt.kindNeg; simp [HX.out, HF.out, h2]]
      go_enter Tryd.func126, Tryd.ntmps126
      go_wp2_with fail
      refine HS.out.mono ?_
      rintro e w1 ⟨rfl, rfl⟩
      go_wp2_with fail
      go_ret2
      exact ⟨rfl, rfl⟩
  have h1' : ¬ ((ex : Int) = 2047) := by omega
  have h1'' : ((ex : Int) == 2047) = false := by simp; omega
  by_cases h0 : ex = 0
  · subst h0
    by_cases h2 : fr = 0
    · subst h2
      rw [show Flt.kindNo b = 3 by unfold Flt.kindNo; simp [HX.out, HF.out], show Flt.kindNeg b = ng by unfold Flt.kindNeg; simp [HX.out, HF.out, hng.out]]
      go_enter Tryd.func126, Tryd.ntmps126
      go_wp2_with fail
      refine HS.out.mono ?_
      rintro e w1 ⟨rfl, rfl⟩
      go_wp2_with fail
      go_ret2
      exact ⟨rfl, rfl⟩
    · have h2' : ((fr : Int) != 0) = true := by simp; omega
      rw [show Flt.kindNo b = 4 by unfold Flt.kindNo; simp [HX.out, HF.out, h2], show Flt.kindNeg b = ng by unfold Flt.kindNeg; simp [HX.out, HF.out, h2, hng.out]]
      go_enter Tryd.func126, Tryd.ntmps126
      go_wp2_with fail
      refine HS.out.mono ?_
      rintro e w1 ⟨rfl, rfl⟩
      go_wp2_with fail
      go_ret2
      exact ⟨rfl, rfl⟩
  · have h0' : ((ex : Int) != 0) = true := by simp; omega
    rw [show Flt.kindNo b = 5 by unfold Flt.kindNo; simp [HX.out, HF.out, h1, h0], show Flt.kindNeg b = ng by unfold Flt.kindNeg; simp [HX.out, HF.out, h1, hng.out]]
    go_enter Tryd.func126, Tryd.ntmps126
    go_wp2_with fail
    refine HS.out.mono ?_
    rintro e w1 ⟨rfl, rfl⟩
    go_wp2_with fail
    go_ret2
    exact ⟨rfl, rfl⟩
/-- A byte of a row. -/
def u8v (ns : List Nat) : List Value := ns.map fun n : Nat => .int .u8 (n : Int)
theorem or_bit52 (f : Nat) (hf : f < 4503599627370496) : bits .or .u64 (f : Int) 4503599627370496 = ((f + 4503599627370496 : Nat) : Int) := by
  have h : f ||| 4503599627370496 = f + 4503599627370496 := by
    have h1 := Nat.two_pow_add_eq_or_of_lt (b := f) (i := 52) (by omega) 1
    rw [Nat.or_comm, Nat.add_comm]
    exact h1.symm
  have e : (4503599627370496 : Int) = ((4503599627370496 : Nat) : Int) := rfl
  rw [e, u64_or_nat _ _ (by omega) (by decide), h]

/-- The significand, and its place above the least. -/
def Flt.sig (b : Nat) : Nat := if Flt.expo b = 0 then Flt.frac b else Flt.frac b + 4503599627370496
def Flt.pe (b : Nat) : Nat := if Flt.expo b = 0 then 0 else Flt.expo b - 1
def Flt.odd (b : Nat) : Nat := Flt.sig b / 2 ^ Lib.ctz 64 (Flt.sig b)
/-- The odd part and the power. -/
def Flt.parts (b : Nat) : Int × Int × Bool :=
  if Flt.expo b = 2047 then (0, 0, false) else if Flt.sig b = 0 then (0, 0, true) else
  ((if Flt.neg b = true then -(Flt.odd b : Int) else Flt.odd b), -1074 + (Flt.pe b : Int) + (Lib.ctz 64 (Flt.sig b) : Int), true)
theorem sig_lt (b : Nat) : Flt.sig b < 9007199254740992 := by
  have := frac_lt b
  unfold Flt.sig
  split <;> omega

namespace Flt
open Ieee
theorem log2_of {K q : Nat} (h1 : 2 ^ q ≤ K) (h2 : K < 2 ^ (q + 1)) : K.log2 = q := by
  have hk : K ≠ 0 := by have := Nat.two_pow_pos q; omega
  have a := (Nat.le_log2 hk).2 h1
  have b := (Nat.log2_lt hk).2 h2
  omega
theorem cut_none (w : Toward) (s : Bool) (n : Nat) : w.cut s n 0 = n := by
  unfold Toward.cut
  rw [Nat.zero_min, Nat.shiftLeft_zero]
  dsimp only
  rw [Nat.div_one, Nat.mod_one]
  cases w <;> simp
/-- Half to even. -/
def half (m P : Nat) : Nat := m / P + if P < 2 * (m % P) ∨ P = 2 * (m % P) ∧ m / P % 2 = 1 then 1 else 0
theorem cut_even (s : Bool) (m n : Nat) : Toward.even.cut s m n = half m (2 ^ n) := by
  unfold Toward.cut half
  dsimp only
  rw [Nat.shiftLeft_eq, Nat.one_mul]
  have hb : ∀ (p : Bool) (q : Prop) [Decidable q], (p = true ↔ q) → p.toNat = if q then 1 else 0 := by
    intro p q _ h
    cases p
    · rw [if_neg (by rw [← h]; simp)]; rfl
    · rw [if_pos (h.1 rfl)]; rfl
  by_cases h : n ≤ m.log2 + 2
  · rw [Nat.min_eq_left h]
    congr 1
    apply hb
    simp
  · rw [Nat.min_eq_right (by omega)]
    have h1 : m < 2 ^ (m.log2 + 1) := Nat.lt_log2_self
    have h2 : 2 ^ (m.log2 + 2) = 2 * 2 ^ (m.log2 + 1) := by rw [Nat.pow_succ, Nat.mul_comm]
    have h3 : 2 ^ (m.log2 + 2) ≤ 2 ^ n := Nat.pow_le_pow_right (by decide) (by omega)
    generalize 2 ^ (m.log2 + 2) = G at *
    generalize 2 ^ (m.log2 + 1) = G1 at *
    generalize 2 ^ n = N at *
    have e1 : m / G = 0 := Nat.div_eq_of_lt (by omega)
    have e2 : m / N = 0 := Nat.div_eq_of_lt (by omega)
    have e3 : m % G = m := Nat.mod_eq_of_lt (by omega)
    have e4 : m % N = m := Nat.mod_eq_of_lt (by omega)
    rw [e1, e2, e3, e4]
    rw [if_neg (by omega)]
    have : (decide (G < 2 * m) || (G == 2 * m && 0 % 2 == 1)) = false := by
      simp
      omega
    rw [this]
    rfl
theorem word_eq (s : Bool) (r : Nat) : double.word s r = (if s then 9223372036854775808 else 0) + r := by
  unfold Format.word
  rw [sw]
  split <;> simp_all
theorem nearest_zero (s : Bool) (p : Int) : double.nearest s 0 p = if s then 9223372036854775808 else 0 := by
  unfold Format.nearest
  rw [if_pos rfl, word_eq, Nat.add_zero]
/-- A small whole number is one of them. -/
theorem nearest_small (s : Bool) (K q : Nat) (hq : q ≤ 52) (h1 : 2 ^ q ≤ K) (h2 : K < 2 ^ (q + 1)) : double.nearest s K 0 = (if s then 9223372036854775808 else 0) + ((1022 + q) * 4503599627370496 + K * 2 ^ (52 - q)) := by
  have hl := log2_of h1 h2
  have hK : K ≠ 0 := by have := Nat.two_pow_pos q; omega
  unfold Format.nearest
  rw [if_neg hK, hl, lp, bn, ir, word_eq]
  have hf : double.fractionBits = 52 := rfl
  rw [hf]
  have e1 : max (0 + (q : Int) - (52 : Nat)) (-1074) = (q : Int) - 52 := by omega
  rw [e1, show ((q : Int) - 52 - 0).toNat = 0 by omega, show (0 - ((q : Int) - 52)).toNat = 52 - q by omega, show ((q : Int) - 52 - -1074).toNat = 1022 + q by omega, cut_none, Nat.shiftLeft_eq]
  have h3 : K * 2 ^ (52 - q) < 2 ^ (q + 1) * 2 ^ (52 - q) := Nat.mul_lt_mul_of_pos_right h2 (Nat.two_pow_pos _)
  rw [← Nat.pow_add, show q + 1 + (52 - q) = 53 by omega] at h3
  have h4 : (1022 + q) * 4503599627370496 ≤ 1074 * 4503599627370496 := Nat.mul_le_mul_right _ (by omega)
  have h6 : (1022 + q) * 4503599627370496 + K * 2 ^ (52 - q) ≤ 9218868437227405312 := Nat.le_trans (Nat.add_le_add h4 (Nat.le_of_lt h3)) (by decide)
  rw [Nat.min_eq_left h6]
/-- One that is whole is itself. -/
theorem nearest_great (s : Bool) (m i : Nat) (h1 : 4503599627370496 ≤ m) (h2 : m < 9007199254740992) (hi : i ≤ 971) : double.nearest s (m * 2 ^ i) 0 = (if s then 9223372036854775808 else 0) + ((i + 1074) * 4503599627370496 + m) := by
  have hp := Nat.two_pow_pos i
  have hl : (m * 2 ^ i).log2 = 52 + i := by
    apply log2_of
    · rw [Nat.pow_add]
      exact Nat.mul_le_mul_right _ h1
    · rw [show 52 + i + 1 = 53 + i by omega, Nat.pow_add]
      exact Nat.mul_lt_mul_of_pos_right h2 hp
  have hK : m * 2 ^ i ≠ 0 := Nat.ne_of_gt (Nat.mul_pos (by omega) hp)
  unfold Format.nearest
  rw [if_neg hK, hl, lp, bn, ir, word_eq]
  have hf : double.fractionBits = 52 := rfl
  rw [hf]
  have e1 : max (0 + ((52 + i : Nat) : Int) - (52 : Nat)) (-1074) = (i : Int) := by omega
  rw [e1, show (0 - (i : Int)).toNat = 0 by omega, show ((i : Int) - 0).toNat = i by omega, show ((i : Int) - -1074).toNat = i + 1074 by omega, Nat.shiftLeft_zero, cut_even]
  have hh : half (m * 2 ^ i) (2 ^ i) = m := by
    unfold half
    rw [Nat.mul_div_cancel _ hp, Nat.mul_mod_left]
    rw [if_neg (by omega)]
    rfl
  have h4 : (i + 1074) * 4503599627370496 ≤ 2045 * 4503599627370496 := Nat.mul_le_mul_right _ (by omega)
  have h6 : (i + 1074) * 4503599627370496 + m ≤ 9218868437227405312 := Nat.le_trans (Nat.add_le_add h4 (Nat.le_of_lt h2)) (by decide)
  rw [hh, Nat.min_eq_left h6]
/-- The rounding by bits, as the reference has it. -/
def rround (b : Nat) : Nat :=
  if 1075 ≤ expo b then b else if expo b < 1022 then (if neg b = true then 9223372036854775808 else 0)
  else if expo b = 1022 then (if neg b = true then 9223372036854775808 else 0) + (if frac b = 0 then 0 else 4607182418800017408)
  else b - b % 2 ^ (1075 - expo b) + (if 2 ^ (1075 - expo b) < 2 * (b % 2 ^ (1075 - expo b)) ∨ 2 ^ (1075 - expo b) = 2 * (b % 2 ^ (1075 - expo b)) ∧ b / 2 ^ (1075 - expo b) % 2 = 1 then 2 ^ (1075 - expo b) else 0)
theorem split_word (b : Nat) (hb : b < 18446744073709551616) : b = (if neg b = true then 9223372036854775808 else 0) + (expo b * 4503599627370496 + frac b) := by
  unfold neg expo frac
  by_cases h : 9223372036854775808 ≤ b
  · rw [if_pos (decide_eq_true h)]
    omega
  · rw [if_neg (by simpa using h)]
    omega
theorem read_usual (b : Nat) (hb : b < 18446744073709551616) (h0 : expo b ≠ 0) (h1 : expo b ≠ 2047) : double.read b = .number (neg b) (4503599627370496 + frac b) ((expo b : Int) - 1075) := by
  have hn : (b / 9223372036854775808 % 2 == 1) = neg b := by
    unfold neg
    rw [Bool.eq_iff_iff]
    simp
    omega
  unfold Format.read
  rw [sw, bn, ir, lp]
  dsimp only
  rw [hn]
  unfold expo at h0 h1
  rw [if_neg (by omega), if_pos (by omega)]
  congr 1
  · unfold frac; omega
  · unfold expo; omega
theorem read_small (b : Nat) (hb : b < 18446744073709551616) (h0 : expo b = 0) : double.read b = .number (neg b) (frac b) (-1074) := by
  have hn : (b / 9223372036854775808 % 2 == 1) = neg b := by
    unfold neg
    rw [Bool.eq_iff_iff]
    simp
    omega
  unfold Format.read
  rw [sw, bn, ir, lp]
  dsimp only
  rw [hn]
  unfold expo at h0
  rw [if_pos (by omega)]
  congr 1
  unfold frac; omega
theorem half_small {m P : Nat} (h : 2 * m < P) : half m P = 0 := by
  unfold half
  rw [Nat.div_eq_of_lt (by omega), Nat.mod_eq_of_lt (by omega), if_neg (by omega)]
theorem frac_lt' (b : Nat) : frac b < 4503599627370496 := Nat.mod_lt _ (by decide)
theorem pow_le (a b : Nat) (h : a ≤ b) : 2 ^ a ≤ 2 ^ b := Nat.pow_le_pow_right (by decide) h
theorem round_eq (b : Nat) (hb : b < 18446744073709551616) : (if expo b = 2047 then b else double.write ((double.read b).integral .even)) = rround b := by
  have hf := frac_lt' b
  have hel : expo b < 2048 := Nat.mod_lt _ (by decide)
  unfold rround
  by_cases h7 : expo b = 2047
  · rw [if_pos h7, if_pos (by omega)]
  rw [if_neg h7]
  by_cases h0 : expo b = 0
  · rw [if_neg (by omega), if_pos (by omega), read_small b hb h0]
    simp only [Datum.integral, Format.write]
    rw [show (-1074 : Int).toNat = 0 by rfl, show (-(-1074) : Int).toNat = 1074 by rfl, Nat.shiftLeft_zero, cut_even, half_small, nearest_zero]
    have := pow_le 53 1074 (by decide)
    omega
  rw [read_usual b hb h0 h7]
  simp only [Datum.integral, Format.write]
  by_cases h1 : 1075 ≤ expo b
  · rw [if_pos h1, show (-((expo b : Int) - 1075)).toNat = 0 by omega, show ((expo b : Int) - 1075).toNat = expo b - 1075 by omega, cut_none, Nat.shiftLeft_eq, nearest_great _ _ _ (by omega) (by omega) (by omega)]
    have := split_word b hb
    omega
  rw [if_neg h1, show ((expo b : Int) - 1075).toNat = 0 by omega, show (-((expo b : Int) - 1075)).toNat = 1075 - expo b by omega, Nat.shiftLeft_zero, cut_even]
  by_cases h2 : expo b < 1022
  · rw [if_pos h2, half_small, nearest_zero]
    have := pow_le 54 (1075 - expo b) (by omega)
    omega
  rw [if_neg h2]
  by_cases h3 : expo b = 1022
  · rw [if_pos h3, h3, show 1075 - 1022 = 53 by decide]
    by_cases h4 : frac b = 0
    · rw [if_pos h4, h4]
      rw [show half (4503599627370496 + 0) (2 ^ 53) = 0 by decide, nearest_zero, Nat.add_zero]
    · rw [if_neg h4]
      have : half (4503599627370496 + frac b) (2 ^ 53) = 1 := by
        unfold half
        rw [show (2 : Nat) ^ 53 = 9007199254740992 by decide, Nat.div_eq_of_lt (by omega), Nat.mod_eq_of_lt (by omega), if_pos (by omega)]
      rw [this, nearest_small _ 1 0 (by decide) (by decide) (by decide)]
  rw [if_neg h3]
  -- the usual case
  obtain ⟨n, hn⟩ : ∃ n, n = 1075 - expo b := ⟨_, rfl⟩
  rw [← hn]
  have hn1 : 1 ≤ n := by omega
  have hn2 : n ≤ 52 := by omega
  have hsp : 2 ^ n * 2 ^ (52 - n) = 4503599627370496 := by rw [← Nat.pow_add, show n + (52 - n) = 52 by omega]
  have hP := Nat.two_pow_pos n
  have hQ := Nat.two_pow_pos (52 - n)
  have hq1 : 2 ^ (52 - n + 1) = 2 * 2 ^ (52 - n) := by rw [Nat.pow_succ, Nat.mul_comm]
  have hw := split_word b hb
  have hE : expo b = 1075 - n := by omega
  rw [hE] at hw
  generalize frac b = f at *
  generalize hS : (if neg b = true then 9223372036854775808 else 0) = S at *
  have hSS : S = 0 ∨ S = 9223372036854775808 := by
    rw [← hS]
    split
    · exact .inr rfl
    · exact .inl rfl
  obtain ⟨m, hm⟩ : ∃ m, m = 4503599627370496 + f := ⟨_, rfl⟩
  rw [← hm]
  obtain ⟨t, ht⟩ : ∃ t, t = S / 4503599627370496 + (1074 - n) := ⟨_, rfl⟩
  have hbt : b = 4503599627370496 * t + m := by omega
  have hpar : n = 52 → t % 2 = 0 := by omega
  have hdm := Nat.div_add_mod m (2 ^ n)
  have hml : m % 2 ^ n < 2 ^ n := Nat.mod_lt _ hP
  have hbm : b % 2 ^ n = m % 2 ^ n := by
    rw [hbt, ← hsp, Nat.mul_assoc, Nat.mul_add_mod]
  have hbd : b / 2 ^ n = 2 ^ (52 - n) * t + m / 2 ^ n := by
    rw [hbt, ← hsp, Nat.mul_assoc, Nat.mul_add_div hP]
  have hodd : b / 2 ^ n % 2 = m / 2 ^ n % 2 := by
    rw [hbd]
    have hev : 2 ^ (52 - n) * t % 2 = 0 := by
      by_cases h52 : n = 52
      · subst h52
        simp [hpar rfl]
      · obtain ⟨j, hj⟩ : ∃ j, 52 - n = j + 1 := ⟨51 - n, by omega⟩
        rw [hj, Nat.pow_succ, Nat.mul_comm (2 ^ j) 2, Nat.mul_assoc]
        exact Nat.mul_mod_right _ _
    omega
  rw [hbm, hodd]
  have hlo : 2 ^ (52 - n) ≤ m / 2 ^ n := by
    rw [Nat.le_div_iff_mul_le hP, Nat.mul_comm, hsp]
    omega
  have hhi : m / 2 ^ n < 2 * 2 ^ (52 - n) := by
    rw [Nat.div_lt_iff_lt_mul hP, Nat.mul_assoc, Nat.mul_comm (2 ^ (52 - n)), hsp]
    omega
  have hhalf : half m (2 ^ n) = m / 2 ^ n + (if 2 ^ n < 2 * (m % 2 ^ n) ∨ 2 ^ n = 2 * (m % 2 ^ n) ∧ m / 2 ^ n % 2 = 1 then 1 else 0) := rfl
  have hP2 : n = (n - 1) + 1 := by omega
  have hPP : 2 ^ n = 2 * 2 ^ (n - 1) := by
    have h := Nat.pow_succ (n := 2) (m := n - 1)
    rw [Nat.succ_eq_add_one, ← hP2, Nat.mul_comm] at h
    exact h
  have hbb : b - m % 2 ^ n = S + (1074 - n) * 4503599627370496 + 2 ^ n * (m / 2 ^ n) := by omega
  rw [hbb]
  have key : ∀ K, half m (2 ^ n) = K → 2 ^ (52 - n) ≤ K → K ≤ 2 * 2 ^ (52 - n) → double.nearest (neg b) (half m (2 ^ n)) 0 = S + (1074 - n) * 4503599627370496 + 2 ^ n * K := by
    intro K hK h8 h9
    rw [hK]
    by_cases hlt : K < 2 * 2 ^ (52 - n)
    · rw [nearest_small _ K (52 - n) (by omega) h8 (by omega), hS, show 52 - (52 - n) = n by omega, Nat.mul_comm K]
      omega
    · obtain rfl : K = 2 * 2 ^ (52 - n) := by omega
      have e1 : 2 ^ (53 - n) = 2 * 2 ^ (52 - n) := by rw [← hq1]; congr 1; omega
      have e2 : 2 ^ (53 - n + 1) = 2 * 2 ^ (53 - n) := by rw [Nat.pow_succ, Nat.mul_comm]
      rw [nearest_small _ _ (53 - n) (by omega) (by omega) (by omega), hS, show 52 - (53 - n) = n - 1 by omega]
      have e3 : 2 * 2 ^ (52 - n) * 2 ^ (n - 1) = 4503599627370496 := by
        rw [← hsp, hPP]
        ac_rfl
      have e4 : 2 ^ n * (2 * 2 ^ (52 - n)) = 2 * 4503599627370496 := by rw [Nat.mul_comm 2 (2 ^ (52 - n)), ← Nat.mul_assoc, hsp, Nat.mul_comm]
      rw [e3, e4]
      omega
  by_cases hc : 2 ^ n < 2 * (m % 2 ^ n) ∨ 2 ^ n = 2 * (m % 2 ^ n) ∧ m / 2 ^ n % 2 = 1
  · rw [if_pos hc] at hhalf ⊢
    rw [key _ hhalf (by omega) (by omega), Nat.mul_add, Nat.mul_one]
    omega
  · rw [if_neg hc, Nat.add_zero] at hhalf ⊢
    rw [key _ hhalf (by omega) (by omega)]
end Flt
namespace Flt
open Ieee
theorem pw_add (a b : Nat) : pw (a + b) = pw a * 2 ^ b := Nat.pow_add 2 a b
theorem mag_pw (b : Nat) (h : 4503599627370496 ≤ b % 9223372036854775808) : mag b = (4503599627370496 + b % 4503599627370496) * pw (b % 9223372036854775808 / 4503599627370496 - 1) := by
  unfold mag pw
  rw [if_neg (by omega)]
theorem mag_at (b e m k : Nat) (h : 4503599627370496 ≤ b % 9223372036854775808) (he : b % 9223372036854775808 / 4503599627370496 - 1 = 1074 + e) (hm : (4503599627370496 + b % 4503599627370496) * 2 ^ e = k) (_h : m = k) : mag b = m * unit := by
  rw [mag_pw b h, he, pw_add, ← Nat.mul_assoc, Nat.mul_right_comm, hm, _h]
  rfl
theorem key_b63 : key 4890909195324358656 = (9223372036854775808 : Int) * (unit : Int) := by
  unfold key
  rw [if_neg (by decide), mag_at 4890909195324358656 11 9223372036854775808 _ (by decide) (by decide) rfl (by decide)]
  exact Int.natCast_mul 9223372036854775808 unit
theorem key_n63 : key 14114281232179134464 = -((9223372036854775808 : Int) * (unit : Int)) := by
  unfold key
  rw [if_pos (by decide), mag_at 14114281232179134464 11 9223372036854775808 _ (by decide) (by decide) rfl (by decide)]
  exact congrArg _ (Int.natCast_mul 9223372036854775808 unit)
theorem key_p9 : key 4890691058569617664 = (9000000000000000000 : Int) * (unit : Int) := by
  unfold key
  rw [if_neg (by decide), mag_at 4890691058569617664 10 9000000000000000000 _ (by decide) (by decide) rfl (by decide)]
  exact Int.natCast_mul 9000000000000000000 unit
theorem key_n9 : key 14114063095424393472 = -((9000000000000000000 : Int) * (unit : Int)) := by
  unfold key
  rw [if_pos (by decide), mag_at 14114063095424393472 10 9000000000000000000 _ (by decide) (by decide) rfl (by decide)]
  exact congrArg _ (Int.natCast_mul 9000000000000000000 unit)
theorem cmp_lt {a b : Int} (h : a < b) : compare a b = .lt := Int.compare_eq_lt.2 h
theorem cmp_gt {a b : Int} (h : b < a) : compare a b = .gt := Int.compare_eq_gt.2 h
theorem read_inf (r : Nat) (hr : r < 18446744073709551616) (he : expo r = 2047) (hf : frac r = 0) : double.read r = .infinity (neg r) := by
  have hn : (r / 9223372036854775808 % 2 == 1) = neg r := by
    unfold neg
    rw [Bool.eq_iff_iff]
    simp
    omega
  unfold expo at he
  unfold frac at hf
  unfold Format.read
  rw [sw, bn, ir]
  dsimp only
  rw [hn, if_neg (by omega), if_neg (by omega), if_pos (by omega)]
theorem order_inf (r c : Nat) (hr : r < 18446744073709551616) (hc : c < 18446744073709551616) (he : expo r = 2047) (hf : frac r = 0) (h : c % 9223372036854775808 < 9218868437227405312) : double.order r c = some (if neg r = true then .lt else .gt) := by
  obtain ⟨m, i, e1, -⟩ := read_num c hc h
  unfold Format.order
  rw [read_inf r hr he hf, e1]
  rfl
/-- A number against the ends of 64 bits: beyond, below, or it has a whole part. -/
theorem wv_cases (r : Nat) (hr : r < 18446744073709551616) (hn : nanb r = false) :
    ((double.order r 4890909195324358656 = some .gt ∨ double.order r 4890909195324358656 = some .eq) ∧ double.order r 4890691058569617664 = some .gt ∧ double.order r 14114063095424393472 = some .gt) ∨
    (double.order r 4890909195324358656 = some .lt ∧ double.order r 14114281232179134464 = some .lt ∧ double.order r 14114063095424393472 = some .lt) ∨
    (∃ n o o9 p9, double.order r 4890909195324358656 = some .lt ∧ double.order r 14114281232179134464 = some o ∧ o ≠ .lt ∧ double.order r 14114063095424393472 = some o9 ∧ double.order r 4890691058569617664 = some p9 ∧
      floatToIntVal .f64 r .i64 = some n ∧ -9223372036854775808 ≤ n ∧ n ≤ 9223372036854775807) := by
  have hel : expo r < 2048 := Nat.mod_lt _ (by decide)
  by_cases he : expo r = 2047
  · have hf : frac r = 0 := by
      cases Nat.decEq (frac r) 0 with
      | isTrue h => exact h
      | isFalse h => rw [(nan_iff r).2 ⟨he, h⟩] at hn; cases hn
    have o1 := order_inf r 4890909195324358656 hr (by decide) he hf (by decide)
    have o2 := order_inf r 14114281232179134464 hr (by decide) he hf (by decide)
    have o3 := order_inf r 4890691058569617664 hr (by decide) he hf (by decide)
    have o4 := order_inf r 14114063095424393472 hr (by decide) he hf (by decide)
    by_cases hs : neg r = true
    · rw [if_pos hs] at o1 o2 o3 o4
      exact .inr (.inl ⟨o1, o2, o4⟩)
    · rw [if_neg hs] at o1 o2 o3 o4
      exact .inl ⟨.inl o1, o3, o4⟩
  · have hfin : r % 9223372036854775808 < 9218868437227405312 := by unfold expo at he hel; omega
    have o1 := order_key r 4890909195324358656 hr (by decide) hfin (by decide)
    have o2 := order_key r 14114281232179134464 hr (by decide) hfin (by decide)
    have o3 := order_key r 4890691058569617664 hr (by decide) hfin (by decide)
    have o4 := order_key r 14114063095424393472 hr (by decide) hfin (by decide)
    rw [key_b63] at o1
    rw [key_n63] at o2
    rw [key_p9] at o3
    rw [key_n9] at o4
    have hu := unit_pos
    have hT := toInt_key r hr hfin
    have hk : key r = if 9223372036854775808 ≤ r then - (mag r : Int) else mag r := rfl
    have hd1 := Nat.div_add_mod (mag r) unit
    have hd2 := Nat.mod_lt (mag r) hu
    have hmul : (unit * (mag r / unit) : Nat) = (unit : Nat) * (mag r / unit) := rfl
    generalize hq : mag r / unit = q at *
    generalize mag r % unit = z at *
    generalize mag r = M at *
    generalize unit = U at *
    have hqM : M < (q + 1) * U := by rw [Nat.add_mul, Nat.mul_comm q]; omega
    have hqm : q * U ≤ M := by rw [Nat.mul_comm q]; omega
    by_cases c1 : (9223372036854775808 : Int) * (U : Int) ≤ key r
    · refine .inl ⟨?_, ?_, ?_⟩
      · rw [o1]
        rcases Int.lt_or_eq_of_le c1 with h | h
        · exact .inl (congrArg _ (cmp_gt h))
        · rw [← h]
          exact .inr (congrArg _ (Int.compare_eq_eq.2 rfl))
      · rw [o3]; exact congrArg _ (cmp_gt (by omega))
      · rw [o4]; exact congrArg _ (cmp_gt (by omega))
    · rw [cmp_lt (by omega)] at o1
      by_cases c2 : key r < -((9223372036854775808 : Int) * (U : Int))
      · rw [cmp_lt c2] at o2
        exact .inr (.inl ⟨o1, o2, by rw [o4]; exact congrArg _ (cmp_lt (by omega))⟩)
      · have hn1 : -9223372036854775808 ≤ (if 9223372036854775808 ≤ r then -(q : Int) else q) ∧ (if 9223372036854775808 ≤ r then -(q : Int) else q) ≤ 9223372036854775807 := by
          by_cases h : 9223372036854775808 ≤ r
          · rw [if_pos h] at hk ⊢
            have h1 : q * U ≤ 9223372036854775808 * U := by omega
            have h2 := Nat.le_of_mul_le_mul_right h1 hu
            omega
          · rw [if_neg h] at hk ⊢
            have h1 : q * U < 9223372036854775808 * U := by omega
            have h2 := Nat.lt_of_mul_lt_mul_right h1
            omega
        refine .inr (.inr ⟨if 9223372036854775808 ≤ r then -(q : Int) else q, _, _, _, o1, o2, ?_, o4, o3, ?_, hn1.1, hn1.2⟩)
        · intro h
          exact c2 (Int.compare_eq_lt.1 h)
        · unfold floatToIntVal
          rw [show FloatKind.f64.decode r = double.read r from rfl, hT]
          dsimp only
          have e1 : IntKind.i64.min = -9223372036854775808 := by decide
          have e2 : IntKind.i64.max = 9223372036854775807 := by decide
          rw [e1, e2, if_pos hn1]
/-- A number as a whole one, cut to 64 bits; of none 0. -/
def wv (r : Nat) : Int :=
  if nanb r = true then 0 else if double.order r 4890909195324358656 = some .lt then
    (if double.order r 14114281232179134464 = some .lt then -9223372036854775808 else (floatToIntVal .f64 r .i64).getD 0) else 9223372036854775807
/-- .. cut to two ends, the first going ahead. -/
def clamp (v a b : Int) : Int := if (if v < b then v else b) < a then a else (if v < b then v else b)
def cutv (n a b : Int) : Int := if n < a then a else if b < n then b else n
theorem clamp_cut (v a b : Int) : clamp v a b = cutv v a (if b < a then a else b) := by
  unfold clamp cutv
  generalize hm : (if v < b then v else b) = m
  generalize ht : (if b < a then a else b) = t
  have hm' : (v < b ∧ m = v) ∨ (¬ v < b ∧ m = b) := by
    by_cases h : v < b
    · rw [if_pos h] at hm; exact .inl ⟨h, hm.symm⟩
    · rw [if_neg h] at hm; exact .inr ⟨h, hm.symm⟩
  have ht' : (b < a ∧ t = a) ∨ (¬ b < a ∧ t = b) := by
    by_cases h : b < a
    · rw [if_pos h] at ht; exact .inl ⟨h, ht.symm⟩
    · rw [if_neg h] at ht; exact .inr ⟨h, ht.symm⟩
  clear hm ht
  by_cases h1 : m < a
  · rw [if_pos h1]
    by_cases h2 : v < a
    · rw [if_pos h2]
    · rw [if_neg h2]
      by_cases h3 : t < v
      · rw [if_pos h3]; omega
      · rw [if_neg h3]; omega
  · rw [if_neg h1]
    by_cases h2 : v < a
    · rw [if_pos h2]; omega
    · rw [if_neg h2]
      by_cases h3 : t < v
      · rw [if_pos h3]; omega
      · rw [if_neg h3]; omega
theorem nan_rround (b : Nat) (hb : b < 18446744073709551616) : nanb (rround b) = nanb b := by
  have hel : expo b < 2048 := Nat.mod_lt _ (by decide)
  unfold rround
  by_cases h1 : 1075 ≤ expo b
  · rw [if_pos h1]
  have hnb : nanb b = false := by
    unfold nanb
    unfold expo at h1 hel
    rw [decide_eq_false_iff_not]
    omega
  rw [if_neg h1, hnb]
  by_cases h2 : expo b < 1022
  · rw [if_pos h2]
    split <;> decide
  rw [if_neg h2]
  by_cases h3 : expo b = 1022
  · rw [if_pos h3]
    split <;> split <;> decide
  rw [if_neg h3]
  have hlow : b % 2 ^ (1075 - expo b) < 2 ^ (1075 - expo b) := Nat.mod_lt _ (Nat.two_pow_pos _)
  have hp : 2 ^ (1075 - expo b) ≤ 2 ^ 52 := Nat.pow_le_pow_right (by decide) (by omega)
  generalize 2 ^ (1075 - expo b) = P at *
  generalize b % P = low at *
  unfold nanb
  unfold expo at h1 h2 h3 hel
  rw [decide_eq_false_iff_not]
  split <;> omega
theorem rround_lt (b : Nat) (hb : b < 18446744073709551616) : rround b < 18446744073709551616 := by
  have hel : expo b < 2048 := Nat.mod_lt _ (by decide)
  unfold rround
  by_cases h1 : 1075 ≤ expo b
  · rw [if_pos h1]; exact hb
  rw [if_neg h1]
  by_cases h2 : expo b < 1022
  · rw [if_pos h2]
    split <;> decide
  rw [if_neg h2]
  by_cases h3 : expo b = 1022
  · rw [if_pos h3]
    split <;> split <;> decide
  rw [if_neg h3]
  have hp : 2 ^ (1075 - expo b) ≤ 2 ^ 52 := Nat.pow_le_pow_right (by decide) (by omega)
  generalize 2 ^ (1075 - expo b) = P at *
  generalize b % P = low at *
  unfold expo at h1 h2 h3 hel
  split <;> omega
end Flt
theorem log2_step (x k : Nat) (h : 2 ^ k ≤ x) : (x / 2 ^ k).log2 + k = x.log2 := by
  have hp := Nat.two_pow_pos k
  have h1 : x / 2 ^ k ≠ 0 := by
    have := Nat.div_pos h hp
    omega
  obtain ⟨q, hq⟩ : ∃ q, (x / 2 ^ k).log2 = q := ⟨_, rfl⟩
  have h2 : 2 ^ q ≤ x / 2 ^ k := by rw [← hq]; exact Nat.log2_self_le h1
  have h3 : x / 2 ^ k < 2 ^ (q + 1) := by rw [← hq]; exact Nat.lt_log2_self
  rw [hq]
  symm
  apply Flt.log2_of
  · rw [Nat.pow_add]
    exact (Nat.le_div_iff_mul_le hp).1 h2
  · rw [show q + k + 1 = q + 1 + k by omega, Nat.pow_add]
    exact (Nat.div_lt_iff_lt_mul hp).1 h3

theorem half_le2 (s P : Nat) : Flt.half s P ≤ s / P + 1 := by
  unfold Flt.half
  split <;> omega
theorem half_le (s P : Nat) (hP : 2 ≤ P) : Flt.half s P ≤ s / 2 + 1 := by
  unfold Flt.half
  have h : s / P ≤ s / 2 := Nat.div_le_div_left hP (by decide)
  split <;> omega
/-- The word of s times 2^e, without a sign. -/
def Flt.near (s : Nat) (e : Int) : Nat := Ieee.double.nearest false s e
theorem near_eq (s : Nat) (e : Int) (h0 : s ≠ 0) : Flt.near s e = min ((max (e + s.log2 - 52) (-1074) + 1074).toNat * 4503599627370496 + Flt.half (s * 2 ^ (e - max (e + s.log2 - 52) (-1074)).toNat) (2 ^ (max (e + s.log2 - 52) (-1074) - e).toNat)) 9218868437227405312 := by
  unfold Flt.near Ieee.Format.nearest
  rw [if_neg h0, Flt.lp, Flt.bn, Flt.ir, Flt.word_eq]
  have hf : Ieee.double.fractionBits = 52 := rfl
  rw [hf, Flt.cut_even, Nat.shiftLeft_eq]
  simp only [Bool.false_eq_true, if_false, Nat.zero_add]
  rfl
theorem half_one (s : Nat) : Flt.half s (2 ^ 0) = s := by
  unfold Flt.half
  rw [Nat.pow_zero, Nat.div_one, Nat.mod_one, if_neg (by omega), Nat.add_zero]
/-- The nearest number of m times 2^e. -/
def Flt.mk (m e : Int) : Nat := if m = 0 then 0 else Ieee.double.nearest (decide (m < 0)) m.natAbs e
theorem near_sign (g : Bool) (s : Nat) (e : Int) (h0 : s ≠ 0) : Ieee.double.nearest g s e = (if g = true then 9223372036854775808 else 0) + Flt.near s e := by
  unfold Flt.near Ieee.Format.nearest
  rw [if_neg h0, if_neg h0]
  simp only [Flt.word_eq, Flt.cut_even]
  simp
theorem near_lt (s : Nat) (e : Int) (h0 : s ≠ 0) : Flt.near s e ≤ 9218868437227405312 := by
  rw [near_eq s e h0]
  exact Nat.min_le_right _ _
theorem neg_bits (b : Nat) (h : b < 9223372036854775808) : Op.negFloat .f64 b = b + 9223372036854775808 := by
  unfold Op.negFloat
  have e : 2 ^ (FloatKind.f64.format.exponentBits + FloatKind.f64.format.fractionBits) = 2 ^ 63 := rfl
  rw [e]
  have h1 := Nat.two_pow_add_eq_or_of_lt (b := b) (i := 63) (by omega) 1
  have h2 : b ^^^ 2 ^ 63 = b ||| 2 ^ 63 := by
    apply Nat.eq_of_testBit_eq
    intro i
    rw [Nat.testBit_xor, Nat.testBit_or, Nat.testBit_two_pow]
    by_cases hi : 63 = i
    · subst hi
      rw [Nat.testBit_lt_two_pow (by omega)]
      rfl
    · simp [hi]
  rw [h2, Nat.or_comm, Nat.add_comm]
  exact h1.symm
theorem ctz_log (x : Nat) (h0 : x ≠ 0) (hx : x < 18446744073709551616) : x = 2 ^ Lib.ctz 64 x * (x / 2 ^ Lib.ctz 64 x) ∧ (x / 2 ^ Lib.ctz 64 x).log2 + Lib.ctz 64 x = x.log2 ∧ (x / 2 ^ Lib.ctz 64 x) % 2 = 1 := by
  obtain ⟨m, hm, hk⟩ := Lib.ctzFrom_spec 64 x (by omega) hx
  have hc : Lib.ctz 64 x = Lib.ctzFrom 64 x := by unfold Lib.ctz; rw [if_neg h0]
  rw [hc]
  obtain ⟨k, hkk⟩ : ∃ k, Lib.ctzFrom 64 x = k := ⟨_, rfl⟩
  rw [hkk] at hm ⊢
  have hq : x / 2 ^ k = 2 * m + 1 := by
    conv => lhs; rw [hm]
    rw [Nat.mul_div_cancel_left _ (Nat.two_pow_pos k)]
  rw [hq]
  refine ⟨hm, ?_, by omega⟩
  rw [← hq]
  apply log2_step
  rw [hm]
  exact Nat.le_mul_of_pos_right _ (by omega)
/-- A finite number that is no zero: its odd part by its power is it. -/
theorem make_parts (b : Nat) (hb : b < 18446744073709551616) (h7 : Flt.expo b ≠ 2047) (hs : Flt.sig b ≠ 0) : Flt.mk (Flt.parts b).1 (Flt.parts b).2.1 = b := by
  have hsl := sig_lt b
  have hel := expo_lt b
  have hfl := frac_lt b
  obtain ⟨c1, c2, c3⟩ := ctz_log (Flt.sig b) hs (by omega)
  have hp : Flt.parts b = ((if Flt.neg b = true then -(Flt.odd b : Int) else Flt.odd b), -1074 + (Flt.pe b : Int) + (Lib.ctz 64 (Flt.sig b) : Int), true) := by
    unfold Flt.parts
    rw [if_neg h7, if_neg hs]
  have hod : Flt.odd b = Flt.sig b / 2 ^ Lib.ctz 64 (Flt.sig b) := rfl
  rw [← hod] at c1 c2 c3
  have ho0 : Flt.odd b ≠ 0 := by omega
  have hw := Flt.split_word b hb
  rw [hp]
  dsimp only
  have hM0 : (if Flt.neg b = true then -(Flt.odd b : Int) else (Flt.odd b : Int)) ≠ 0 := by split <;> omega
  have hab : (if Flt.neg b = true then -(Flt.odd b : Int) else (Flt.odd b : Int)).natAbs = Flt.odd b := by split <;> omega
  have hng : decide ((if Flt.neg b = true then -(Flt.odd b : Int) else (Flt.odd b : Int)) < 0) = Flt.neg b := by
    cases h : Flt.neg b
    · rw [if_neg (by decide), decide_eq_false_iff_not]; omega
    · rw [if_pos rfl, decide_eq_true_eq]; omega
  unfold Flt.mk
  rw [if_neg hM0, hab, hng, near_sign _ _ _ ho0, near_eq _ _ ho0]
  obtain ⟨c, hc⟩ : ∃ c, Lib.ctz 64 (Flt.sig b) = c := ⟨_, rfl⟩
  rw [hc] at c1 c2 ⊢
  have hcs : Flt.odd b * 2 ^ c = Flt.sig b := by rw [Nat.mul_comm]; exact c1.symm
  by_cases he : Flt.expo b = 0
  · have hsg : Flt.sig b = Flt.frac b := by unfold Flt.sig; rw [if_pos he]
    have hpe : Flt.pe b = 0 := by unfold Flt.pe; rw [if_pos he]
    have hl : (Flt.sig b).log2 < 52 := (Nat.log2_lt hs).2 (by omega)
    have hm : max (-1074 + (Flt.pe b : Int) + (c : Int) + ((Flt.odd b).log2 : Int) - 52) (-1074) = -1074 := by omega
    rw [hm, show ((-1074 : Int) + 1074).toNat = 0 by decide, show (-1074 + (Flt.pe b : Int) + (c : Int) - -1074).toNat = c by omega, show (-1074 - (-1074 + (Flt.pe b : Int) + (c : Int))).toNat = 0 by omega, hcs, half_one, Nat.zero_mul, Nat.zero_add, Nat.min_eq_left (by omega)]
    omega
  · have hsg : Flt.sig b = Flt.frac b + 4503599627370496 := by unfold Flt.sig; rw [if_neg he]
    have hpe : Flt.pe b + 1 = Flt.expo b := by unfold Flt.pe; rw [if_neg he]; omega
    have hl : (Flt.sig b).log2 = 52 := Flt.log2_of (by omega) (by omega)
    have hm : max (-1074 + (Flt.pe b : Int) + (c : Int) + ((Flt.odd b).log2 : Int) - 52) (-1074) = -1074 + (Flt.pe b : Int) := by omega
    rw [hm, show ((-1074 : Int) + (Flt.pe b : Int) + 1074).toNat = Flt.pe b by omega, show (-1074 + (Flt.pe b : Int) + (c : Int) - (-1074 + (Flt.pe b : Int))).toNat = c by omega, show (-1074 + (Flt.pe b : Int) - (-1074 + (Flt.pe b : Int) + (c : Int))).toNat = 0 by omega, hcs, half_one]
    have h8 : Flt.pe b ≤ 2045 := by omega
    have h9 := Nat.mul_le_mul_right 4503599627370496 h8
    have h10 : Flt.pe b * 4503599627370496 + Flt.sig b ≤ 9218868437227405312 := Nat.le_trans (Nat.add_le_add h9 (Nat.le_of_lt hsl)) (by decide)
    rw [Nat.min_eq_left h10]
    omega
/-- A number cut at a bit: what stays, and what is left over, at the top of a word. -/
theorem shift_facts (s d c : Nat) (hc : d + c = 64) :
    IntKind.u64.wrap ((s : Int) * 2 ^ c) = ((s % 2 ^ d * 2 ^ c : Nat) : Int) ∧
    Flt.half s (2 ^ d) = s / 2 ^ d + (if 9223372036854775808 < s % 2 ^ d * 2 ^ c ∨ s % 2 ^ d * 2 ^ c = 9223372036854775808 ∧ s / 2 ^ d % 2 = 1 then 1 else 0) := by
  have hPC : 2 ^ d * 2 ^ c = 18446744073709551616 := by rw [← Nat.pow_add, hc]
  have hP0 := Nat.two_pow_pos d
  have hC0 := Nat.two_pow_pos c
  have hdm := Nat.div_add_mod s (2 ^ d)
  have hlow : s % 2 ^ d < 2 ^ d := Nat.mod_lt _ hP0
  constructor
  · rw [IntKind.wrap_u64]
    have e1 : (s : Int) * 2 ^ c = ((s * 2 ^ c : Nat) : Int) := by simp
    have e2 : s * 2 ^ c = 18446744073709551616 * (s / 2 ^ d) + s % 2 ^ d * 2 ^ c := by
      rw [← hPC, Nat.mul_right_comm, ← Nat.add_mul, hdm]
    have e3 : s % 2 ^ d * 2 ^ c < 18446744073709551616 := by
      rw [← hPC]
      exact Nat.mul_lt_mul_of_pos_right hlow hC0
    rw [e1, e2]
    omega
  · have hc1 : 2 ^ d < 2 * (s % 2 ^ d) ↔ 9223372036854775808 < s % 2 ^ d * 2 ^ c := by
      constructor
      · intro h
        have := Nat.mul_lt_mul_of_pos_right h hC0
        rw [hPC, Nat.mul_assoc] at this
        omega
      · intro h
        apply Nat.lt_of_mul_lt_mul_right (a := 2 ^ c)
        rw [hPC, Nat.mul_assoc]
        omega
    have hc2 : 2 ^ d = 2 * (s % 2 ^ d) ↔ s % 2 ^ d * 2 ^ c = 9223372036854775808 := by
      constructor
      · intro h
        have := congrArg (· * 2 ^ c) h
        simp only [hPC, Nat.mul_assoc] at this
        omega
      · intro h
        apply Nat.eq_of_mul_eq_mul_right hC0
        rw [hPC, Nat.mul_assoc]
        omega
    unfold Flt.half
    simp only [hc1, hc2]
theorem half_exact (x P : Nat) (hP : 0 < P) : Flt.half (x * P) P = x := by
  unfold Flt.half
  rw [Nat.mul_div_cancel _ hP, Nat.mul_mod_left, if_neg (by omega), Nat.add_zero]
theorem half_scale (x P t : Nat) (ht : 0 < t) : Flt.half (x * t) (P * t) = Flt.half x P := by
  unfold Flt.half
  rw [Nat.mul_div_mul_right _ _ ht, Nat.mul_mod_mul_right]
  generalize x % P = y
  have e1 : P * t < 2 * (y * t) ↔ P < 2 * y := by
    rw [← Nat.mul_assoc]
    exact Nat.mul_lt_mul_right ht
  have e2 : P * t = 2 * (y * t) ↔ P = 2 * y := by
    rw [← Nat.mul_assoc]
    exact ⟨fun h => Nat.eq_of_mul_eq_mul_right ht h, fun h => by rw [h]⟩
  simp only [e1, e2]
/-- The kept digits, off the number moved to the top of a word. -/
theorem kept_eq (s : Nat) (e last : Int) (t d : Nat) (h : last - e = (d : Int) - t) : Flt.half (s * 2 ^ t) (2 ^ d) = Flt.half (s * 2 ^ (e - last).toNat) (2 ^ (last - e).toNat) := by
  by_cases hle : t ≤ d
  · obtain ⟨j, rfl⟩ : ∃ j, d = j + t := ⟨d - t, by omega⟩
    rw [show (e - last).toNat = 0 by omega, show (last - e).toNat = j by omega, Nat.pow_zero, Nat.mul_one, Nat.pow_add, half_scale _ _ _ (Nat.two_pow_pos t)]
  · obtain ⟨j, rfl⟩ : ∃ j, t = j + d := ⟨t - d, by omega⟩
    rw [show (e - last).toNat = j by omega, show (last - e).toNat = 0 by omega, Nat.pow_add, ← Nat.mul_assoc, half_exact _ _ (Nat.two_pow_pos d)]
    exact (half_one _).symm
theorem or_sgn (g x : Nat) (hg : g = 0 ∨ g = 9223372036854775808) (hx : x < 9223372036854775808) : bits .or .u64 (g : Int) (x : Int) = ((g + x : Nat) : Int) := by
  rw [u64_or_nat _ _ (by omega) (by omega)]
  rcases hg with rfl | rfl
  · simp
  · have h1 := Nat.two_pow_add_eq_or_of_lt (b := x) (i := 63) (by omega) 1
    have h2 : 9223372036854775808 + x = 9223372036854775808 ||| x := h1
    rw [h2]
/-- The cases of the nearest number, as the reference has them. -/
theorem near_top (s : Nat) (e : Int) (h0 : s ≠ 0) (hs : s < 18446744073709551616) (ht : 1023 < e + s.log2) : Flt.near s e = 9218868437227405312 := by
  have hl64 : s.log2 < 64 := (Nat.log2_lt h0).2 hs
  have hlo : 2 ^ s.log2 ≤ s := Nat.log2_self_le h0
  rw [near_eq s e h0]
  apply Nat.min_eq_right
  have hm : max (e + (s.log2 : Int) - 52) (-1074) = e + s.log2 - 52 := by omega
  rw [hm]
  have h1 : 2046 ≤ (e + (s.log2 : Int) - 52 + 1074).toNat := by omega
  have h2 := Nat.mul_le_mul_right 4503599627370496 h1
  have h3 : 4503599627370496 ≤ Flt.half (s * 2 ^ (e - (e + (s.log2 : Int) - 52)).toNat) (2 ^ (e + (s.log2 : Int) - 52 - e).toNat) := by
    rw [← kept_eq s e (e + s.log2 - 52) (63 - s.log2) 11 (by omega)]
    unfold Flt.half
    have h4 : 4503599627370496 ≤ s * 2 ^ (63 - s.log2) / 2 ^ 11 := by
      rw [Nat.le_div_iff_mul_le (by decide)]
      have h5 : 2 ^ s.log2 * 2 ^ (63 - s.log2) ≤ s * 2 ^ (63 - s.log2) := Nat.mul_le_mul_right _ hlo
      rw [← Nat.pow_add, show s.log2 + (63 - s.log2) = 63 by omega] at h5
      omega
    omega
  omega
theorem near_low (s : Nat) (e : Int) (h0 : s ≠ 0) (ht : e + s.log2 < -1075) : Flt.near s e = 0 := by
  have hhi : s < 2 ^ (s.log2 + 1) := Nat.lt_log2_self
  rw [near_eq s e h0]
  have hm : max (e + (s.log2 : Int) - 52) (-1074) = -1074 := by omega
  rw [hm, show (e - -1074).toNat = 0 by omega, Nat.pow_zero, Nat.mul_one, Flt.half_small]
  · decide
  · have h1 := Flt.pow_le (s.log2 + 1 + 1) (-1074 - e).toNat (by omega)
    rw [Nat.pow_succ] at h1
    omega
theorem near_usual (s : Nat) (e : Int) (h0 : s ≠ 0) (hs : s < 18446744073709551616) (h1 : -1022 ≤ e + s.log2) (h2 : e + s.log2 ≤ 1023) : Flt.near s e = (e + s.log2 + 1022).toNat * 4503599627370496 + Flt.half (s * 2 ^ (63 - s.log2)) (2 ^ 11) ∧ 4503599627370496 ≤ Flt.half (s * 2 ^ (63 - s.log2)) (2 ^ 11) ∧ Flt.half (s * 2 ^ (63 - s.log2)) (2 ^ 11) ≤ 9007199254740992 := by
  have hl64 : s.log2 < 64 := (Nat.log2_lt h0).2 hs
  have hlo : 2 ^ s.log2 ≤ s := Nat.log2_self_le h0
  have hhi : s < 2 ^ (s.log2 + 1) := Nat.lt_log2_self
  have h5 : 2 ^ s.log2 * 2 ^ (63 - s.log2) ≤ s * 2 ^ (63 - s.log2) := Nat.mul_le_mul_right _ hlo
  rw [← Nat.pow_add, show s.log2 + (63 - s.log2) = 63 by omega] at h5
  have h6 : s * 2 ^ (63 - s.log2) < 2 ^ (s.log2 + 1) * 2 ^ (63 - s.log2) := Nat.mul_lt_mul_of_pos_right hhi (Nat.two_pow_pos _)
  rw [← Nat.pow_add, show s.log2 + 1 + (63 - s.log2) = 64 by omega] at h6
  have h7 : 4503599627370496 ≤ Flt.half (s * 2 ^ (63 - s.log2)) (2 ^ 11) ∧ Flt.half (s * 2 ^ (63 - s.log2)) (2 ^ 11) ≤ 9007199254740992 := by
    generalize s * 2 ^ (63 - s.log2) = U at *
    unfold Flt.half
    split <;> omega
  refine ⟨?_, h7⟩
  rw [near_eq s e h0]
  have hm : max (e + (s.log2 : Int) - 52) (-1074) = e + s.log2 - 52 := by omega
  rw [hm, ← kept_eq s e (e + s.log2 - 52) (63 - s.log2) 11 (by omega), show (e + (s.log2 : Int) - 52 + 1074).toNat = (e + s.log2 + 1022).toNat by omega]
  apply Nat.min_eq_left
  have h8 : (e + (s.log2 : Int) + 1022).toNat ≤ 2045 := by omega
  have h9 := Nat.mul_le_mul_right 4503599627370496 h8
  exact Nat.le_trans (Nat.add_le_add h9 h7.2) (by decide)
theorem near_small (s : Nat) (e : Int) (h0 : s ≠ 0) (hs : s < 18446744073709551616) (h1 : e + s.log2 < -1022) (d : Nat) (hd : (d : Int) = -1011 - (e + s.log2)) : Flt.near s e = Flt.half (s * 2 ^ (63 - s.log2)) (2 ^ d) ∧ Flt.half (s * 2 ^ (63 - s.log2)) (2 ^ d) ≤ 4503599627370496 := by
  have hl64 : s.log2 < 64 := (Nat.log2_lt h0).2 hs
  have hhi : s < 2 ^ (s.log2 + 1) := Nat.lt_log2_self
  have h6 : s * 2 ^ (63 - s.log2) < 2 ^ (s.log2 + 1) * 2 ^ (63 - s.log2) := Nat.mul_lt_mul_of_pos_right hhi (Nat.two_pow_pos _)
  rw [← Nat.pow_add, show s.log2 + 1 + (63 - s.log2) = 64 by omega] at h6
  have h7 : Flt.half (s * 2 ^ (63 - s.log2)) (2 ^ d) ≤ 4503599627370496 := by
    have h8 := half_le2 (s * 2 ^ (63 - s.log2)) (2 ^ d)
    have h9 : s * 2 ^ (63 - s.log2) / 2 ^ d ≤ s * 2 ^ (63 - s.log2) / 2 ^ 12 := Nat.div_le_div_left (Flt.pow_le 12 d (by omega)) (by decide)
    have h10 : s * 2 ^ (63 - s.log2) / 2 ^ 12 < 4503599627370496 := by
      rw [Nat.div_lt_iff_lt_mul (by decide)]
      omega
    omega
  refine ⟨?_, h7⟩
  rw [near_eq s e h0]
  have hm : max (e + (s.log2 : Int) - 52) (-1074) = -1074 := by omega
  rw [hm, ← kept_eq s e (-1074) (63 - s.log2) d (by omega), show ((-1074 : Int) + 1074).toNat = 0 by decide, Nat.zero_mul, Nat.zero_add]
  apply Nat.min_eq_left
  omega
open Ieee

/-- A usual number: its significand and its place. -/
theorem mul_pow (x : Nat) (hx : x < 18446744073709551616) (h0 : Flt.expo x ≠ 0) (h7 : Flt.expo x ≠ 2047) (c : Nat) (j : Nat) (hc : double.read c = .number false 4503599627370496 ((j : Int) - 52)) (hj : Flt.expo x + j < 2047) : double.mul c x = some (x + j * 4503599627370496) := by
  have hf := frac_lt x
  unfold Format.mul
  rw [hc, Flt.read_usual x hx h0 h7]
  simp only [Datum.product, Option.map_some, Format.write, Bool.false_bne]
  congr 1
  obtain ⟨m, hm⟩ : ∃ m, 4503599627370496 + Flt.frac x = m := ⟨_, rfl⟩
  rw [hm]
  have hm1 : 4503599627370496 ≤ m := by omega
  have hm2 : m < 9007199254740992 := by omega
  have hK : 4503599627370496 * m ≠ 0 := by omega
  have hl : (4503599627370496 * m).log2 = 104 := by
    apply Flt.log2_of
    · have := Nat.mul_le_mul_left 4503599627370496 hm1
      omega
    · have : 4503599627370496 * m < 4503599627370496 * 9007199254740992 := Nat.mul_lt_mul_of_pos_left hm2 (by decide)
      omega
  unfold Format.nearest
  rw [if_neg hK, hl, Flt.lp, Flt.bn, Flt.ir, Flt.word_eq]
  have hfb : double.fractionBits = 52 := rfl
  rw [hfb]
  have hp : ((j : Int) - 52 + ((Flt.expo x : Int) - 1075) : Int) = (j : Int) + Flt.expo x - 1127 := by omega
  rw [hp]
  have hmx : max ((j : Int) + Flt.expo x - 1127 + (104 : Nat) - (52 : Nat)) (-1074) = (j : Int) + Flt.expo x - 1075 := by omega
  rw [hmx, show ((j : Int) + (Flt.expo x : Int) - 1127 - ((j : Int) + Flt.expo x - 1075)).toNat = 0 by omega, show ((j : Int) + (Flt.expo x : Int) - 1075 - ((j : Int) + Flt.expo x - 1127)).toNat = 52 by omega, show ((j : Int) + (Flt.expo x : Int) - 1075 - -1074).toNat = j + Flt.expo x - 1 by omega, Nat.shiftLeft_zero, Flt.cut_even]
  have hh : Flt.half (4503599627370496 * m) (2 ^ 52) = m := by
    rw [Nat.mul_comm]
    exact half_exact m (2 ^ 52) (by decide)
  rw [hh]
  have h8 : j + Flt.expo x - 1 ≤ 2045 := by omega
  have h9 := Nat.mul_le_mul_right 4503599627370496 h8
  have h10 : (j + Flt.expo x - 1) * 4503599627370496 + m ≤ 9218868437227405312 := Nat.le_trans (Nat.add_le_add h9 (Nat.le_of_lt hm2)) (by decide)
  rw [Nat.min_eq_left h10]
  have hw := Flt.split_word x hx
  have hg : (Flt.neg x = true ∧ (if Flt.neg x = true then 9223372036854775808 else 0) = 9223372036854775808) ∨ (Flt.neg x = false ∧ (if Flt.neg x = true then 9223372036854775808 else 0) = 0) := by
    cases h : Flt.neg x <;> simp
  omega
/-- What an odd number's number is, in its bits. -/
theorem near_odd (s : Nat) (e : Int) (h0 : s % 2 = 1) (hs : s < 9007199254740992) (h1 : -1000 ≤ e) (h2 : e ≤ 900) :
    Flt.near s e = (e + s.log2 + 1022).toNat * 4503599627370496 + s * 2 ^ (52 - s.log2) ∧ 4503599627370496 ≤ s * 2 ^ (52 - s.log2) ∧ s * 2 ^ (52 - s.log2) < 9007199254740992 := by
  have hs0 : s ≠ 0 := by omega
  have hl : s.log2 < 53 := (Nat.log2_lt hs0).2 hs
  obtain ⟨a, -, -⟩ := near_usual s e hs0 (by omega) (by omega) (by omega)
  have hlo : 2 ^ s.log2 ≤ s := Nat.log2_self_le hs0
  have hhi : s < 2 ^ (s.log2 + 1) := Nat.lt_log2_self
  have e1 : s * 2 ^ (63 - s.log2) = s * 2 ^ (52 - s.log2) * 2 ^ 11 := by
    rw [Nat.mul_assoc, ← Nat.pow_add]
    congr 2
    omega
  rw [e1, half_exact _ _ (by decide)] at a
  refine ⟨a, ?_, ?_⟩
  · have b : 2 ^ s.log2 * 2 ^ (52 - s.log2) ≤ s * 2 ^ (52 - s.log2) := Nat.mul_le_mul_right _ hlo
    rw [← Nat.pow_add, show s.log2 + (52 - s.log2) = 52 by omega] at b
    exact b
  · have b : s * 2 ^ (52 - s.log2) < 2 ^ (s.log2 + 1) * 2 ^ (52 - s.log2) := Nat.mul_lt_mul_of_pos_right hhi (Nat.two_pow_pos _)
    rw [← Nat.pow_add, show s.log2 + 1 + (52 - s.log2) = 53 by omega] at b
    exact b
theorem ctz_odd (s j : Nat) (h0 : s % 2 = 1) (hs : s * 2 ^ j < 18446744073709551616) : Lib.ctz 64 (s * 2 ^ j) = j := by
  have hx0 : s * 2 ^ j ≠ 0 := Nat.ne_of_gt (Nat.mul_pos (by omega) (Nat.two_pow_pos j))
  obtain ⟨c1, -, c3⟩ := ctz_log (s * 2 ^ j) hx0 hs
  obtain ⟨k, hk⟩ : ∃ k, Lib.ctz 64 (s * 2 ^ j) = k := ⟨_, rfl⟩
  rw [hk] at c1 c3 ⊢
  generalize s * 2 ^ j / 2 ^ k = o at *
  rcases Nat.lt_trichotomy k j with h | h | h
  · obtain ⟨d, rfl⟩ : ∃ d, j = k + (d + 1) := ⟨j - k - 1, by omega⟩
    rw [Nat.pow_add, Nat.mul_left_comm] at c1
    have := Nat.eq_of_mul_eq_mul_left (Nat.two_pow_pos k) c1
    rw [Nat.pow_succ, ← Nat.mul_assoc] at this
    omega
  · exact h
  · obtain ⟨d, rfl⟩ : ∃ d, k = j + (d + 1) := ⟨k - j - 1, by omega⟩
    rw [Nat.pow_add, Nat.mul_comm s, Nat.mul_assoc] at c1
    have := Nat.eq_of_mul_eq_mul_left (Nat.two_pow_pos j) c1
    rw [Nat.pow_succ, Nat.mul_right_comm] at this
    omega
/-- The number of an odd number by a power, in its bits and its parts. -/
theorem mk_odd (M e : Int) (h0 : M.natAbs % 2 = 1) (hs : M.natAbs < 9007199254740992) (h1 : -1000 ≤ e) (h2 : e ≤ 900) :
    Flt.mk M e < 18446744073709551616 ∧ Flt.expo (Flt.mk M e) = (e + M.natAbs.log2 + 1023).toNat ∧ Flt.neg (Flt.mk M e) = decide (M < 0) ∧ Flt.frac (Flt.mk M e) + 4503599627370496 = M.natAbs * 2 ^ (52 - M.natAbs.log2) ∧ Flt.parts (Flt.mk M e) = (M, e, true) := by
  have hs0 : M.natAbs ≠ 0 := by omega
  have hl : M.natAbs.log2 < 53 := (Nat.log2_lt hs0).2 hs
  obtain ⟨a1, a2, a3⟩ := near_odd M.natAbs e h0 hs h1 h2
  have hmk : Flt.mk M e = (if decide (M < 0) = true then 9223372036854775808 else 0) + Flt.near M.natAbs e := by
    unfold Flt.mk
    rw [if_neg (by omega), near_sign _ _ _ hs0]
  have hc := ctz_odd M.natAbs (52 - M.natAbs.log2) h0 (by omega)
  obtain ⟨Z, hZ⟩ : ∃ Z, M.natAbs * 2 ^ (52 - M.natAbs.log2) = Z := ⟨_, rfl⟩
  have hZd : Z / 2 ^ (52 - M.natAbs.log2) = M.natAbs := by rw [← hZ, Nat.mul_div_cancel _ (Nat.two_pow_pos _)]
  rw [hZ] at a1 a2 a3 hc ⊢
  obtain ⟨E, hE⟩ : ∃ E : Nat, e + (M.natAbs.log2 : Int) + 1022 = (E : Int) := ⟨(e + (M.natAbs.log2 : Int) + 1022).toNat, by omega⟩
  rw [show (e + (M.natAbs.log2 : Int) + 1022).toNat = E by omega] at a1
  obtain ⟨g, hg⟩ : ∃ g : Nat, (if decide (M < 0) = true then 9223372036854775808 else 0) = g := ⟨_, rfl⟩
  have hgg : (M < 0 ∧ g = 9223372036854775808) ∨ (¬ M < 0 ∧ g = 0) := by
    by_cases h : M < 0
    · rw [if_pos (decide_eq_true h)] at hg; exact .inl ⟨h, hg.symm⟩
    · rw [if_neg (by simpa using h)] at hg; exact .inr ⟨h, hg.symm⟩
  rw [hg, a1] at hmk
  have hxl : Flt.mk M e < 18446744073709551616 := by omega
  have hex : Flt.expo (Flt.mk M e) = E + 1 := by unfold Flt.expo; omega
  have hfr : Flt.frac (Flt.mk M e) + 4503599627370496 = Z := by unfold Flt.frac; omega
  have hng : Flt.neg (Flt.mk M e) = decide (M < 0) := by
    unfold Flt.neg
    congr 1
    apply propext
    omega
  refine ⟨hxl, by omega, hng, hfr, ?_⟩
  have hsg : Flt.sig (Flt.mk M e) = Z := by unfold Flt.sig; rw [if_neg (by omega), hfr]
  have hpe : Flt.pe (Flt.mk M e) = E := by unfold Flt.pe; rw [if_neg (by omega), hex]; omega
  unfold Flt.parts Flt.odd
  rw [if_neg (by omega), hsg, if_neg (by omega), hng, hc, hZd, hpe]
  congr 1
  · by_cases h : M < 0
    · rw [if_pos (decide_eq_true h)]; omega
    · rw [if_neg (by simpa using h)]; omega
  · congr 1
    omega
open Ieee

/-- The same value at another place: the same number. -/
theorem near_scale (s k : Nat) (e : Int) (h0 : s ≠ 0) : Flt.near (s * 2 ^ k) e = Flt.near s (e + k) := by
  have hk := Nat.two_pow_pos k
  have hs : s * 2 ^ k ≠ 0 := Nat.ne_of_gt (Nat.mul_pos (by omega) hk)
  have hl : (s * 2 ^ k).log2 = s.log2 + k := by
    apply Flt.log2_of
    · rw [Nat.pow_add]
      exact Nat.mul_le_mul_right _ (Nat.log2_self_le h0)
    · rw [show s.log2 + k + 1 = s.log2 + 1 + k by omega, Nat.pow_add]
      exact Nat.mul_lt_mul_of_pos_right Nat.lt_log2_self hk
  rw [near_eq _ e hs, near_eq s _ h0, hl]
  obtain ⟨last, hla⟩ : ∃ last : Int, max (e + ((s.log2 + k : Nat) : Int) - 52) (-1074) = last := ⟨_, rfl⟩
  rw [hla, show max (e + (k : Int) + (s.log2 : Int) - 52) (-1074) = last by omega]
  rw [← kept_eq s (e + k) last (k + (e - last).toNat) (last - e).toNat (by omega), Nat.pow_add, ← Nat.mul_assoc]
theorem half_mono (x y P : Nat) (h : x ≤ y) : Flt.half x P ≤ Flt.half y P := by
  have h1 : x / P ≤ y / P := Nat.div_le_div_right h
  have hx := Nat.div_add_mod x P
  have hy := Nat.div_add_mod y P
  unfold Flt.half
  by_cases h2 : x / P = y / P
  · rw [h2] at hx ⊢
    generalize P * (y / P) = Z at *
    split
    · rw [if_pos (by omega)]
      exact Nat.le_refl _
    · omega
  · split <;> omega
theorem half_bound (x P B : Nat) (hP : 0 < P) (h : x ≤ B * P) : Flt.half x P ≤ B := by
  have := half_mono x (B * P) P h
  rwa [half_exact B P hP] at this
theorem half_least (x P B : Nat) (hP : 0 < P) (h : B * P ≤ x) : B ≤ Flt.half x P := by
  have := half_mono (B * P) x P h
  rwa [half_exact B P hP] at this
/-- A greater one has no lesser number. -/
theorem near_mono (s t : Nat) (e : Int) (h0 : s ≠ 0) (h : s ≤ t) : Flt.near s e ≤ Flt.near t e := by
  have ht : t ≠ 0 := by omega
  rw [near_eq s e h0, near_eq t e ht]
  have hlo := Nat.log2_self_le ht
  have hhi : s < 2 ^ (s.log2 + 1) := Nat.lt_log2_self
  have hll : s.log2 ≤ t.log2 := by
    by_cases hc : s.log2 ≤ t.log2
    · exact hc
    · have h1 := Nat.log2_self_le h0
      have h2 : t < 2 ^ (t.log2 + 1) := Nat.lt_log2_self
      have h3 := Flt.pow_le (t.log2 + 1) s.log2 (by omega)
      omega
  obtain ⟨la, hla⟩ : ∃ last : Int, max (e + (s.log2 : Int) - 52) (-1074) = last := ⟨_, rfl⟩
  obtain ⟨lb, hlb⟩ : ∃ last : Int, max (e + (t.log2 : Int) - 52) (-1074) = last := ⟨_, rfl⟩
  rw [hla, hlb]
  have hmin : ∀ a b c : Nat, a ≤ b → min a c ≤ min b c := fun a b c h => by omega
  apply hmin
  by_cases heq : la = lb
  · rw [heq]
    have := half_mono (s * 2 ^ (e - lb).toNat) (t * 2 ^ (e - lb).toNat) (2 ^ (lb - e).toNat) (Nat.mul_le_mul_right _ h)
    omega
  · have hlt : la < lb := by omega
    have hP1 := Nat.two_pow_pos (la - e).toNat
    have hP2 := Nat.two_pow_pos (lb - e).toNat
    have hA : Flt.half (s * 2 ^ (e - la).toNat) (2 ^ (la - e).toNat) ≤ 2 ^ 53 := by
      apply half_bound _ _ _ hP1
      have a1 : s * 2 ^ (e - la).toNat ≤ 2 ^ (s.log2 + 1) * 2 ^ (e - la).toNat := Nat.mul_le_mul_right _ (Nat.le_of_lt hhi)
      rw [← Nat.pow_add] at a1 ⊢
      exact Nat.le_trans a1 (Flt.pow_le _ _ (by omega))
    have hB : 2 ^ 52 ≤ Flt.half (t * 2 ^ (e - lb).toNat) (2 ^ (lb - e).toNat) := by
      apply half_least _ _ _ hP2
      have a1 : 2 ^ t.log2 * 2 ^ (e - lb).toNat ≤ t * 2 ^ (e - lb).toNat := Nat.mul_le_mul_right _ hlo
      rw [← Nat.pow_add] at a1 ⊢
      exact Nat.le_trans (Flt.pow_le _ _ (by omega)) a1
    have hr : (la + 1074).toNat + 1 ≤ (lb + 1074).toNat := by omega
    have hr2 := Nat.mul_le_mul_right 4503599627370496 hr
    rw [Nat.add_mul] at hr2
    have e53 : (2 : Nat) ^ 53 = 9007199254740992 := by decide
    have e52 : (2 : Nat) ^ 52 = 4503599627370496 := by decide
    omega
/-- A finite number that is no zero is the number of what it says. -/
theorem near_self (b : Nat) (hb : b < 18446744073709551616) (h7 : Flt.expo b ≠ 2047) (h0 : b % 9223372036854775808 ≠ 0) : Flt.near (Flt.mag b) (-1074) = b % 9223372036854775808 := by
  have hel := expo_lt b
  have hfl := frac_lt b
  by_cases he : Flt.expo b = 0
  · have hm : Flt.mag b = Flt.frac b := by
      unfold Flt.mag
      unfold Flt.expo at he
      rw [if_pos (by omega)]
      unfold Flt.frac
      omega
    have hf0 : Flt.frac b ≠ 0 := by unfold Flt.frac; unfold Flt.expo at he; omega
    rw [hm, near_eq _ _ hf0]
    have hl : (Flt.frac b).log2 < 52 := (Nat.log2_lt hf0).2 (by omega)
    have hmx : max (-1074 + ((Flt.frac b).log2 : Int) - 52) (-1074) = -1074 := by omega
    rw [hmx, show ((-1074 : Int) + 1074).toNat = 0 by decide, show ((-1074 : Int) - -1074).toNat = 0 by decide, Nat.pow_zero, Nat.mul_one, show Flt.half (Flt.frac b) 1 = Flt.frac b from half_one _, Nat.zero_mul, Nat.zero_add, Nat.min_eq_left (by omega)]
    unfold Flt.frac
    unfold Flt.expo at he
    omega
  · have hm : Flt.mag b = (4503599627370496 + Flt.frac b) * 2 ^ (Flt.expo b - 1) := by
      unfold Flt.mag
      unfold Flt.expo at he
      rw [if_neg (by omega)]
      have e1 : b % 9223372036854775808 / 4503599627370496 - 1 = Flt.expo b - 1 := by unfold Flt.expo; omega
      rw [e1]
      rfl
    rw [hm, near_scale _ _ _ (by omega)]
    obtain ⟨m, hmm⟩ : ∃ m, 4503599627370496 + Flt.frac b = m := ⟨_, rfl⟩
    rw [hmm]
    have hl : m.log2 = 52 := Flt.log2_of (by omega) (by omega)
    rw [near_eq _ _ (by omega), hl]
    have hmx : max (-1074 + ((Flt.expo b - 1 : Nat) : Int) + (52 : Nat) - 52) (-1074) = -1074 + ((Flt.expo b - 1 : Nat) : Int) := by omega
    rw [hmx, show ((-1074 : Int) + ((Flt.expo b - 1 : Nat) : Int) + 1074).toNat = Flt.expo b - 1 by omega, show ((-1074 : Int) + ((Flt.expo b - 1 : Nat) : Int) - (-1074 + ((Flt.expo b - 1 : Nat) : Int))).toNat = 0 by omega, Nat.pow_zero, Nat.mul_one, show Flt.half m 1 = m from half_one _]
    have h8 : Flt.expo b - 1 ≤ 2045 := by omega
    have h9 := Nat.mul_le_mul_right 4503599627370496 h8
    have h10 : (Flt.expo b - 1) * 4503599627370496 + m ≤ 9218868437227405312 := Nat.le_trans (Nat.add_le_add h9 (show m ≤ 9007199254740992 by omega)) (by decide)
    rw [Nat.min_eq_left h10]
    have hw := Flt.split_word b hb
    unfold Flt.neg at hw
    by_cases hg : 9223372036854775808 ≤ b
    · rw [if_pos (decide_eq_true hg)] at hw; omega
    · rw [if_neg (by simpa using hg)] at hw; omega
/-- The sum of two finite numbers that is no zero: the number of the sum of what they say. -/
theorem add_key (a b : Nat) (ha : a < 18446744073709551616) (hb : b < 18446744073709551616) (h1 : a % 9223372036854775808 < 9218868437227405312) (h2 : b % 9223372036854775808 < 9218868437227405312) (h0 : Flt.key a + Flt.key b ≠ 0) :
    double.add a b = some ((if Flt.key a + Flt.key b < 0 then 9223372036854775808 else 0) + Flt.near (Flt.key a + Flt.key b).natAbs (-1074)) := by
  obtain ⟨m, i, e1, hi, hm, -⟩ := Flt.read_num a ha h1
  obtain ⟨n, j, e2, hj, hn, -⟩ := Flt.read_num b hb h2
  have ka : Flt.key a = signed (decide (9223372036854775808 ≤ a)) m (i + 1074).toNat := by
    rw [Flt.signed_eq, hm]
    unfold Flt.key
    by_cases h : 9223372036854775808 ≤ a <;> simp [h]
  have kb : Flt.key b = signed (decide (9223372036854775808 ≤ b)) n (j + 1074).toNat := by
    rw [Flt.signed_eq, hn]
    unfold Flt.key
    by_cases h : 9223372036854775808 ≤ b <;> simp [h]
  obtain ⟨base, hbase⟩ : ∃ base : Int, min i j = base := ⟨_, rfl⟩
  obtain ⟨k, hk⟩ : ∃ k : Nat, (base + 1074).toNat = k := ⟨_, rfl⟩
  obtain ⟨T, hT⟩ : ∃ T, signed (decide (9223372036854775808 ≤ a)) m (i - base).toNat + signed (decide (9223372036854775808 ≤ b)) n (j - base).toNat = T := ⟨_, rfl⟩
  have hkey : Flt.key a + Flt.key b = T * ((2 ^ k : Nat) : Int) := by
    rw [ka, kb, ← hT, show (i + 1074).toNat = (i - base).toNat + k by omega, show (j + 1074).toNat = (j - base).toNat + k by omega, Flt.signed_add, Flt.signed_add, Int.add_mul]
  have hp : (0 : Int) < ((2 ^ k : Nat) : Int) := by exact_mod_cast Nat.two_pow_pos k
  rw [hkey] at h0 ⊢
  have hT0 : T ≠ 0 := fun h => h0 (by rw [h, Int.zero_mul])
  have hneg : T * ((2 ^ k : Nat) : Int) < 0 ↔ T < 0 := by
    constructor
    · intro h
      by_cases hc : T < 0
      · exact hc
      · have := Int.mul_nonneg (show 0 ≤ T by omega) (Int.le_of_lt hp)
        omega
    · intro h
      exact Int.mul_neg_of_neg_of_pos h hp
  have hab : (T * ((2 ^ k : Nat) : Int)).natAbs = T.natAbs * 2 ^ k := by rw [Int.natAbs_mul, Int.natAbs_natCast]
  unfold Format.add
  rw [e1, e2]
  simp only [Datum.sum, Option.map_some, Format.write]
  rw [hbase, hT, if_neg hT0, hab, near_scale _ _ _ (by omega), show (-1074 : Int) + (k : Int) = base by omega, near_sign _ _ _ (by omega)]
  congr 2
  by_cases h : T < 0
  · rw [if_pos (decide_eq_true h), if_pos (hneg.2 h)]
  · rw [if_neg (by simpa using h), if_neg (fun h' => h (hneg.1 h'))]
theorem shl12 (b : Nat) : IntKind.u64.wrap ((b : Int) * 4096) = (Flt.frac b : Int) * 4096 := by
  rw [IntKind.wrap_u64]
  unfold Flt.frac
  omega
theorem xor_max (b : Nat) (hb : b < 18446744073709551616) : bits .xor .u64 IntKind.u64.max (b : Int) = ((18446744073709551615 - b : Nat) : Int) := by
  have h : (18446744073709551615 : Nat) ^^^ b = 18446744073709551615 - b := by
    have h1 := congrArg BitVec.toNat (BitVec.allOnes_xor (x := BitVec.ofNat 64 b))
    rw [BitVec.toNat_xor, BitVec.toNat_not, BitVec.toNat_allOnes, BitVec.toNat_ofNat, Nat.mod_eq_of_lt (by omega)] at h1
    exact h1
  have e : IntKind.u64.max = ((18446744073709551615 : Nat) : Int) := by decide
  rw [e, u64_xor_nat _ _ (by decide) hb, h]
theorem or_top (b : Nat) (hb : b < 9223372036854775808) : bits .or .u64 (b : Int) 9223372036854775808 = ((b + 9223372036854775808 : Nat) : Int) := by
  have h : b ||| 9223372036854775808 = b + 9223372036854775808 := by
    have h1 := Nat.two_pow_add_eq_or_of_lt (b := b) (i := 63) (by omega) 1
    rw [Nat.or_comm, Nat.add_comm]
    exact h1.symm
  have e : (9223372036854775808 : Int) = ((9223372036854775808 : Nat) : Int) := rfl
  rw [e, u64_or_nat _ _ (by omega) (by decide), h]

set_option maxRecDepth 100000 in
theorem refkind_c (b : Nat) (hb : b < 18446744073709551616) (w : World) :
    Calls Tryd.prog 102 #[.float .f64 b] w fun e w' => e = .returned (.tuple #[.int .i64 (Flt.kindNo b), .bool (Flt.kindNeg b)]) ∧ w' = w := by
  have hfb := run_f64bits
  have g1 := expo_and b hb
  have g2 := shl12 b
  have g3 := neg_div b hb
  obtain ⟨ex, hex⟩ : ∃ x, Hid (Flt.expo b = x) := ⟨_, hide rfl⟩
  obtain ⟨fr, hfr⟩ : ∃ x, Hid (Flt.frac b = x) := ⟨_, hide rfl⟩
  obtain ⟨ng, hng⟩ : ∃ x, Hid (Flt.neg b = x) := ⟨_, hide rfl⟩
  have HX := hex
  have HF := hfr
  rw [hex.out] at g1
  rw [hfr.out] at g2
  rw [hng.out] at g3
  clear hex hfr
  by_cases h1 : ex = 2047
  · subst h1
    by_cases h2 : fr = 0
    · subst h2
      rw [show Flt.kindNo b = 2 by unfold Flt.kindNo; simp [HX.out, HF.out], show Flt.kindNeg b = ng by unfold Flt.kindNeg; simp [HX.out, HF.out, hng.out]]
      go_enter Tryd.func102, Tryd.ntmps102
      go_wp2_with fail
      go_ret2
      exact ⟨rfl, rfl⟩
    · have h2' : (((fr : Int) * 4096) != 0) = true := by simp; omega
      have h2'' : ¬ ((fr : Int) * 4096 = 0) := by omega
      have h2''' : (((fr : Int) * 4096) == 0) = false := by simp; omega
      rw [show Flt.kindNo b = 1 by unfold Flt.kindNo; simp [HX.out, HF.out, h2], show Flt.kindNeg b = false by unfold Flt.kindNeg; simp [HX.out, HF.out, h2]]
      go_enter Tryd.func102, Tryd.ntmps102
      go_wp2_with fail
      go_ret2
      exact ⟨rfl, rfl⟩
  have h1' : ¬ ((ex : Int) = 2047) := by omega
  have h1'' : ((ex : Int) == 2047) = false := by simp; omega
  by_cases h0 : ex = 0
  · subst h0
    by_cases h2 : fr = 0
    · subst h2
      rw [show Flt.kindNo b = 3 by unfold Flt.kindNo; simp [HX.out, HF.out], show Flt.kindNeg b = ng by unfold Flt.kindNeg; simp [HX.out, HF.out, hng.out]]
      go_enter Tryd.func102, Tryd.ntmps102
      go_wp2_with fail
      go_ret2
      exact ⟨rfl, rfl⟩
    · have h2' : (((fr : Int) * 4096) != 0) = true := by simp; omega
      have h2'' : ¬ ((fr : Int) * 4096 = 0) := by omega
      have h2''' : (((fr : Int) * 4096) == 0) = false := by simp; omega
      rw [show Flt.kindNo b = 4 by unfold Flt.kindNo; simp [HX.out, HF.out, h2], show Flt.kindNeg b = ng by unfold Flt.kindNeg; simp [HX.out, HF.out, h2, hng.out]]
      go_enter Tryd.func102, Tryd.ntmps102
      go_wp2_with fail
      go_ret2
      exact ⟨rfl, rfl⟩
  · have h0' : ¬ ((ex : Int) = 0) := by omega
    have h0'' : ((ex : Int) == 0) = false := by simp; omega
    rw [show Flt.kindNo b = 5 by unfold Flt.kindNo; simp [HX.out, HF.out, h1, h0], show Flt.kindNeg b = ng by unfold Flt.kindNeg; simp [HX.out, HF.out, h1, hng.out]]
    go_enter Tryd.func102, Tryd.ntmps102
    go_wp2_with fail
    go_ret2
    exact ⟨rfl, rfl⟩

theorem kind_one (b : Nat) : (((Flt.kindNo b : Nat) : Int) == 1) = Flt.nanb b := by
  rw [Flt.nan_kind, Bool.eq_iff_iff, beq_iff_eq, decide_eq_true_eq]
  omega
set_option maxRecDepth 100000 in
theorem refnan_c (b : Nat) (hb : b < 18446744073709551616) (w : World) :
    Calls Tryd.prog 103 #[.float .f64 b] w fun e w' => e = .returned (.bool (Flt.nanb b)) ∧ w' = w := by
  have hk := refkind_c b hb w
  have h1 := kind_one b
  obtain ⟨kn, hkn⟩ : ∃ x, Hid (Flt.kindNo b = x) := ⟨_, hide rfl⟩
  obtain ⟨na, hna⟩ : ∃ x, Hid (Flt.nanb b = x) := ⟨_, hide rfl⟩
  rw [hkn.out] at hk h1
  rw [hna.out] at h1 ⊢
  have HK := hide hk
  clear hk
  go_enter Tryd.func103, Tryd.ntmps103
  go_wp2_with fail
  refine HK.out.mono ?_
  rintro e w1 ⟨rfl, rfl⟩
  go_wp2_with fail
  go_ret
  exact ⟨rfl, rfl⟩

def Flt.rrank (b : Nat) : Int := if 9223372036854775808 ≤ b then 9223372036854775807 - b else b
theorem order_nan {b : Nat} (h : Flt.nanb b = true) : FloatKind.f64.format.order b b = none := (Flt.order_self b).trans (by rw [h]; rfl)
theorem order_num' {b : Nat} (h : Flt.nanb b = false) : FloatKind.f64.format.order b b = some .eq := (Flt.order_self b).trans (by rw [h]; rfl)
theorem eq_bool (a b : Nat) : (((a : Int) == (b : Int)) : Bool) = decide (a = b) := by
  rw [Bool.eq_iff_iff, beq_iff_eq, decide_eq_true_eq]
  omega
/-- The nearest whole number, of two the even one, as the model has it. -/
def Flt.round (b : Nat) : Nat := if Flt.expo b = 2047 then b else Ieee.double.write ((Ieee.double.read b).integral .even)
theorem run_rte (b : Nat) (hb : b < 18446744073709551616) (he : Flt.expo b ≠ 2047) (w : World) : (callFunc 127 #[.float .f64 b]).run Tryd.prog w = .ok (.value (.float .f64 (Flt.round b))) w := by
  obtain ⟨m, i, e1, -⟩ := Flt.read_num b hb (by unfold Flt.expo at he; omega)
  have hd : FloatKind.f64.decode b = Ieee.Datum.number (decide (9223372036854775808 ≤ b)) m i := e1
  have hr : (Extern.MathFloor.toIntegral "math.RoundToEven" .even #[.float .f64 b]).run Tryd.prog w = .ok (.float .f64 (Flt.round b)) w := by
    unfold Flt.round
    rw [if_neg he, e1]
    obtain ⟨F, hF⟩ : ∃ F : Nat → Bool → Nat → Sem Value, ∀ b', Extern.MathFloor.toIntegral "math.RoundToEven" .even #[.float .f64 b'] = Extern.MathFloor.toIntegral.match_1 (fun _ => Sem Value) (FloatKind.f64.decode b') (fun s t => F b' s t) (fun d => pure (.float .f64 (FloatKind.f64.encode (d.integral .even)))) := ⟨_, fun b' => rfl⟩
    rw [hF, hd]
    rfl
  rw [run_callFunc_extern Tryd.func127 (by kernel_rfl) (by kernel_rfl) (by kernel_rfl) (show Extern.find Tryd.f127 = some (Extern.MathFloor.toIntegral "math.RoundToEven" .even) by kernel_rfl), hr]
  rfl
set_option maxRecDepth 100000 in
theorem round_c (b : Nat) (hb : b < 18446744073709551616) (w : World) :
    Calls Tryd.prog 101 #[.float .f64 b] w fun e w' => e = .returned (.float .f64 (Flt.round b)) ∧ w' = w := by
  have hk := kind_c b hb w
  obtain ⟨kg, hkg⟩ : ∃ x, Hid (Flt.kindNeg b = x) := ⟨_, hide rfl⟩
  rw [hkg.out] at hk
  by_cases he : Flt.expo b = 2047
  · have hp : Flt.round b = b := by unfold Flt.round; rw [if_pos he]
    rw [hp]
    have hkk : Flt.kindNo b = 1 ∨ Flt.kindNo b = 2 := by
      unfold Flt.kindNo
      by_cases hf : Flt.frac b = 0
      · exact .inr (by simp [he, hf])
      · exact .inl (by simp [he, hf])
    rcases hkk with h | h
    all_goals
      rw [h] at hk
      have HK := hide hk
      clear hk h he hp
      go_enter Tryd.func101, Tryd.ntmps101
      go_wp2_with fail
      refine HK.out.mono ?_
      rintro e w1 ⟨rfl, rfl⟩
      go_wp2_with fail
      go_ret
      exact ⟨rfl, rfl⟩
  · have hr := run_rte b hb he
    obtain ⟨r, hrr⟩ : ∃ x, Hid (Flt.round b = x) := ⟨_, hide rfl⟩
    rw [hrr.out] at hr ⊢
    have h12 : Flt.kindNo b ≠ 1 ∧ Flt.kindNo b ≠ 2 := by
      unfold Flt.kindNo
      rw [if_neg (fun h => he h.1), if_neg he]
      split
      · decide
      · split <;> decide
    obtain ⟨kn, hkn⟩ : ∃ x, Hid (Flt.kindNo b = x) := ⟨_, hide rfl⟩
    rw [hkn.out] at hk h12
    have h1 : ¬ ((kn : Int) = 1) := by omega
    have h2 : ¬ ((kn : Int) = 2) := by omega
    have h1' : ((kn : Int) == 1) = false := by simp; omega
    have h2' : ((kn : Int) == 2) = false := by simp; omega
    have HK := hide hk
    clear hk h12 he
    go_enter Tryd.func101, Tryd.ntmps101
    go_wp2_with fail
    refine HK.out.mono ?_
    rintro e w1 ⟨rfl, rfl⟩
    go_wp2_with fail
    go_ret
    exact ⟨rfl, rfl⟩

theorem andNot_top (a : Nat) (ha : a < 18446744073709551616) : bits .andNot .u64 (a : Int) 9223372036854775808 = ((a % 9223372036854775808 : Nat) : Int) := by
  have h := u64_andNot_nat a 9223372036854775808 ha (by decide)
  rw [show (18446744073709551615 - 9223372036854775808 : Nat) = 2 ^ 63 - 1 by decide, Nat.and_two_pow_sub_one_eq_mod] at h
  exact h
theorem round_rround (b : Nat) (hb : b < 18446744073709551616) : Flt.round b = Flt.rround b := Flt.round_eq b hb
/-- The sign's bit. -/
def Flt.sgn (b : Nat) : Nat := if Flt.neg b = true then 9223372036854775808 else 0
theorem sgn_shift (b : Nat) (hb : b < 18446744073709551616) : IntKind.u64.wrap ((b : Int) / 9223372036854775808 * 9223372036854775808) = (Flt.sgn b : Int) := by
  rw [IntKind.wrap_u64]
  unfold Flt.sgn Flt.neg
  by_cases h : 9223372036854775808 ≤ b
  · rw [if_pos (decide_eq_true h)]; omega
  · rw [if_neg (by simpa using h)]; omega
theorem sgn_or (b : Nat) : bits .or .u64 (Flt.sgn b : Int) 4607182418800017408 = ((Flt.sgn b + 4607182418800017408 : Nat) : Int) := by
  unfold Flt.sgn
  split <;> decide

set_option maxRecDepth 100000 in
set_option maxHeartbeats 4000000 in
theorem refround_c (b : Nat) (hb : b < 18446744073709551616) (w : World) :
    Calls Tryd.prog 104 #[.float .f64 b] w fun e w' => e = .returned (.float .f64 (Flt.rround b)) ∧ w' = w := by
  have hfb := run_f64bits
  have hff := run_f64from
  have h1 := expo_and b hb
  have h2 := shl12 b
  have h3 := sgn_shift b hb
  have h4 := sgn_or b
  have hel := expo_lt b
  unfold Flt.rround
  change Calls _ _ _ _ fun e w' => e = .returned (.float .f64 (if 1075 ≤ Flt.expo b then b else if Flt.expo b < 1022 then Flt.sgn b else if Flt.expo b = 1022 then Flt.sgn b + (if Flt.frac b = 0 then 0 else 4607182418800017408) else _)) ∧ w' = w
  obtain ⟨ex, hex⟩ : ∃ x, Hid (Flt.expo b = x) := ⟨_, hide rfl⟩
  obtain ⟨fr, hfr⟩ : ∃ x, Hid (Flt.frac b = x) := ⟨_, hide rfl⟩
  obtain ⟨sg, hsg⟩ : ∃ x, Hid (Flt.sgn b = x) := ⟨_, hide rfl⟩
  rw [hex.out] at h1 hel ⊢
  rw [hfr.out] at h2 ⊢
  rw [hsg.out] at h3 h4 ⊢
  by_cases c1 : 1075 ≤ ex
  · rw [if_pos c1]
    have c1' : (1075 : Int) ≤ ex := by omega
    go_enter Tryd.func104, Tryd.ntmps104
    go_wp2_with fail
    go_ret
    exact ⟨rfl, rfl⟩
  rw [if_neg c1]
  have c1' : ¬ ((1075 : Int) ≤ ex) := by omega
  by_cases c2 : ex < 1022
  · rw [if_pos c2]
    have c2' : (ex : Int) < 1022 := by omega
    go_enter Tryd.func104, Tryd.ntmps104
    go_wp2_with fail
    go_ret
    exact ⟨rfl, rfl⟩
  rw [if_neg c2]
  have c2' : ¬ ((ex : Int) < 1022) := by omega
  by_cases c3 : ex = 1022
  · subst c3
    rw [if_pos rfl]
    by_cases c4 : fr = 0
    · subst c4
      rw [if_pos rfl]
      go_enter Tryd.func104, Tryd.ntmps104
      go_wp2_with fail
      go_ret
      exact ⟨rfl, rfl⟩
    · rw [if_neg c4]
      have c4' : (((fr : Int) * 4096) == 0) = false := by simp; omega
      have c4'' : ¬ ((fr : Int) * 4096 = 0) := by omega
      obtain ⟨so, hso⟩ : ∃ x, Hid (sg + 4607182418800017408 = x) := ⟨_, hide rfl⟩
      rw [hso.out] at h4 ⊢
      go_enter Tryd.func104, Tryd.ntmps104
      go_wp2_with fail
      go_ret
      exact ⟨rfl, rfl⟩
  rw [if_neg c3]
  have c3' : ¬ ((ex : Int) = 1022) := by omega
  have c3'' : ((ex : Int) == 1022) = false := by simp; omega
  obtain ⟨n, hn⟩ : ∃ n, 1075 - ex = n := ⟨_, rfl⟩
  rw [hn]
  have hn1 : (1075 : Int) - ex = (n : Int) := by omega
  have hn2 : n ≤ 52 := by omega
  have hn3 : 1 ≤ n := by omega
  have hp1 : (2 : Nat) ^ n ≤ 2 ^ 52 := Nat.pow_le_pow_right (by decide) hn2
  have hp2 : (2 : Nat) ^ n = 2 * 2 ^ (n - 1) := by
    have h := Nat.pow_succ (n := 2) (m := n - 1)
    rw [Nat.succ_eq_add_one, Nat.sub_add_cancel hn3, Nat.mul_comm] at h
    exact h
  have hp3 : 0 < (2 : Nat) ^ (n - 1) := Nat.two_pow_pos _
  have hmask : bits .and .u64 (b : Int) ((2 ^ n - 1 : Nat) : Int) = ((b % 2 ^ n : Nat) : Int) := and_mask b n hb _ rfl (by omega)
  have hwP : IntKind.u64.wrap ((2 : Int) ^ n) = ((2 ^ n : Nat) : Int) := by
    rw [IntKind.wrap_u64, show (2 : Int) ^ n = ((2 ^ n : Nat) : Int) by simp]
    omega
  have hwH : IntKind.u64.wrap ((2 : Int) ^ (n - 1)) = ((2 ^ (n - 1) : Nat) : Int) := by
    rw [IntKind.wrap_u64, show (2 : Int) ^ (n - 1) = ((2 ^ (n - 1) : Nat) : Int) by simp]
    omega
  have hdv : ∀ x : Nat, (x : Int) / (2 : Int) ^ n = ((x / 2 ^ n : Nat) : Int) := fun x => by simp
  have hq := hide (Nat.div_add_mod b (2 ^ n))
  have hlow : b % 2 ^ n < 2 ^ n := Nat.mod_lt _ (by omega)
  obtain ⟨P, hP⟩ : ∃ P, Hid (2 ^ n = P) := ⟨_, hide rfl⟩
  obtain ⟨H, hH⟩ : ∃ P, Hid (2 ^ (n - 1) = P) := ⟨_, hide rfl⟩
  rw [hP.out] at hp1 hp2 hmask hwP hq hlow ⊢
  simp only [hP.out] at hdv
  rw [hH.out] at hp2 hp3 hwH
  clear hP hH hn
  obtain ⟨low, hlo⟩ : ∃ x, Hid (b % P = x) := ⟨_, hide rfl⟩
  obtain ⟨q, hqq⟩ : ∃ x, Hid (b / P = x) := ⟨_, hide rfl⟩
  rw [hlo.out] at hmask hq hlow ⊢
  rw [hqq.out] at hq ⊢
  obtain ⟨c, hc⟩ : ∃ x, Hid (b - low = x) := ⟨_, hide rfl⟩
  have hcb : (b : Int) - (low : Int) = (c : Int) := by have := hc.out; have := hq.out; omega
  have hcq : c = P * q := by have := hc.out; have := hq.out; omega
  have hcd := hdv c
  rw [show c / P = q by rw [hcq, Nat.mul_div_cancel_left _ (by omega)]] at hcd
  have hq64 : q < 18446744073709551616 := by rw [← hqq.out]; exact Nat.lt_of_le_of_lt (Nat.div_le_self _ _) hb
  have hb1 : bits .and .u64 (q : Int) 1 = ((q % 2 : Nat) : Int) := and_mask q 1 hq64 1 (by decide) (by decide)
  obtain ⟨mk, hmk⟩ : ∃ x, Hid (P - 1 = x) := ⟨_, hide rfl⟩
  rw [hmk.out] at hmask
  have hmkI : (P : Int) - 1 = (mk : Int) := by have := hmk.out; omega
  rw [hc.out]
  have hc63 : c + P < 18446744073709551616 := by
    have h5 := hex.out
    unfold Flt.expo at h5
    have := hc.out
    omega
  clear hq hlo hqq hc hcq hdv hq64
  obtain ⟨od, hod⟩ : ∃ x, Hid (q % 2 = x) := ⟨_, hide rfl⟩
  rw [hod.out] at hb1 ⊢
  obtain ⟨r, hr⟩ : ∃ x, Hid (c + P = x) := ⟨_, hide rfl⟩
  have hrI : (c : Int) + (P : Int) = (r : Int) := by have := hr.out; omega
  have hr64 : r < 18446744073709551616 := by have := hr.out; omega
  clear hod hmk hex hfr hsg c1 c2 c3
  have HP2 := hide hp2
  have hpl : P ≤ 4503599627370496 := hp1
  clear hp2 hp1
  by_cases d1 : H < low
  · have d1' : (H : Int) < low := by omega
    rw [if_pos (by have := HP2.out; omega), hr.out]
    go_enter Tryd.func104, Tryd.ntmps104
    go_wp2_with fail
    go_ret
    exact ⟨rfl, rfl⟩
  have d1' : ¬ ((H : Int) < low) := by omega
  by_cases d2 : low = H
  · subst d2
    by_cases d3 : od = 1
    · subst d3
      rw [if_pos (by have := HP2.out; omega), hr.out]
      go_enter Tryd.func104, Tryd.ntmps104
      go_wp2_with fail
      go_ret
      exact ⟨rfl, rfl⟩
    · have d3' : ((od : Int) == 1) = false := by simp; omega
      have d3'' : ¬ ((od : Int) = 1) := by omega
      rw [if_neg (by have := HP2.out; omega), Nat.add_zero]
      go_enter Tryd.func104, Tryd.ntmps104
      go_wp2_with fail
      go_ret
      exact ⟨rfl, rfl⟩
  · have d2' : ((low : Int) == H) = false := by simp; omega
    have d2'' : ¬ ((low : Int) = H) := by omega
    rw [if_neg (by have := HP2.out; omega), Nat.add_zero]
    go_enter Tryd.func104, Tryd.ntmps104
    go_wp2_with fail
    go_ret
    exact ⟨rfl, rfl⟩
theorem wv_nan {r : Nat} (h : Flt.nanb r = true) : Flt.wv r = 0 := by unfold Flt.wv; rw [if_pos h]
theorem wv_far {r : Nat} (h : Flt.nanb r = false) (o : Ieee.double.order r 4890909195324358656 = some .gt ∨ Ieee.double.order r 4890909195324358656 = some .eq) : Flt.wv r = 9223372036854775807 := by
  unfold Flt.wv
  rw [if_neg (by rw [h]; decide)]
  rcases o with o | o <;> rw [o] <;> rfl
theorem wv_low {r : Nat} (h : Flt.nanb r = false) (o : Ieee.double.order r 4890909195324358656 = some .lt) (o2 : Ieee.double.order r 14114281232179134464 = some .lt) : Flt.wv r = -9223372036854775808 := by
  unfold Flt.wv
  rw [if_neg (by rw [h]; decide), if_pos o, if_pos o2]
theorem wv_mid {r : Nat} {n : Int} {c : Ordering} (h : Flt.nanb r = false) (o : Ieee.double.order r 4890909195324358656 = some .lt) (o2 : Ieee.double.order r 14114281232179134464 = some c) (hc : c ≠ .lt) (hn : floatToIntVal .f64 r .i64 = some n) : Flt.wv r = n := by
  unfold Flt.wv
  rw [if_neg (by rw [h]; decide), if_pos o, if_neg (by rw [o2]; simpa using hc), hn]
  rfl
theorem convert_c {r : Nat} {n : Int} (h : floatToIntVal .f64 r .i64 = some n) (w : World) : (convert 60 3 (.float .f64 r)).run Tryd.prog w = .ok (.int .i64 n) w :=
  run_convert_float_int (P := Tryd.prog) w 60 3 .f64 .i64 r n (by kernel_rfl) (by kernel_rfl) h

set_option maxRecDepth 100000 in
theorem whole_c (r : Nat) (hr : r < 18446744073709551616) (w : World) :
    Calls Tryd.prog 100 #[.float .f64 r] w fun e w' => e = .returned (.int .i64 (Flt.wv r)) ∧ w' = w := by
  cases hn : Flt.nanb r
  · have ho := order_num' hn
    rcases Flt.wv_cases r hr hn with ⟨o1 | o1, -, -⟩ | ⟨o1, o2, -⟩ | ⟨n, o, o9, p9, o1, o2, hc, -, -, hv, -, -⟩
    · rw [wv_far hn (.inl o1)]
      have o1' : FloatKind.f64.format.order r 4890909195324358656 = some .gt := o1
      clear hn
      go_enter Tryd.func100, Tryd.ntmps100
      go_wp2_with fail
      go_ret
      exact ⟨rfl, rfl⟩
    · rw [wv_far hn (.inr o1)]
      have o1' : FloatKind.f64.format.order r 4890909195324358656 = some .eq := o1
      clear hn
      go_enter Tryd.func100, Tryd.ntmps100
      go_wp2_with fail
      go_ret
      exact ⟨rfl, rfl⟩
    · rw [wv_low hn o1 o2]
      have o1' : FloatKind.f64.format.order r 4890909195324358656 = some .lt := o1
      have o2' : FloatKind.f64.format.order r 14114281232179134464 = some .lt := o2
      clear hn
      go_enter Tryd.func100, Tryd.ntmps100
      go_wp2_with fail
      go_ret
      exact ⟨rfl, rfl⟩
    · rw [wv_mid hn o1 o2 hc hv]
      have o1' : FloatKind.f64.format.order r 4890909195324358656 = some .lt := o1
      have o2' : FloatKind.f64.format.order r 14114281232179134464 = some o := o2
      have hcv := convert_c hv
      clear hn
      cases o
      · exact absurd rfl hc
      all_goals
        go_enter Tryd.func100, Tryd.ntmps100
        go_wp2_with fail
        go_ret
        exact ⟨rfl, rfl⟩
  · have ho := order_nan hn
    rw [wv_nan hn]
    clear hn
    go_enter Tryd.func100, Tryd.ntmps100
    go_wp2_with fail
    go_ret
    exact ⟨rfl, rfl⟩

theorem round_lt (b : Nat) (hb : b < 18446744073709551616) : Flt.round b < 18446744073709551616 := by
  rw [round_rround b hb]
  exact Flt.rround_lt b hb
set_option maxRecDepth 100000 in
theorem wholeof_c (x : Nat) (hx : x < 18446744073709551616) (a b : Int) (w : World) :
    Calls Tryd.prog 72 #[.float .f64 x, .int .i64 a, .int .i64 b] w fun e w' => e = .returned (.int .i64 (Flt.clamp (Flt.wv (Flt.round x)) a b)) ∧ w' = w := by
  have H1 := hide (round_c x hx w)
  have H2 := hide (whole_c (Flt.round x) (round_lt x hx) w)
  obtain ⟨r, hr⟩ : ∃ r, Hid (Flt.round x = r) := ⟨_, hide rfl⟩
  rw [hr.out] at H1 H2 ⊢
  obtain ⟨v, hv⟩ : ∃ v, Hid (Flt.wv r = v) := ⟨_, hide rfl⟩
  rw [hv.out] at H2 ⊢
  unfold Flt.clamp
  rcases Int.lt_trichotomy v b with h1 | rfl | h1
  · rw [if_pos h1]
    rcases Int.lt_trichotomy v a with h2 | rfl | h2
    · rw [if_pos h2]
      go_enter Tryd.func72, Tryd.ntmps72
      go_wp2_with fail
      refine H1.out.mono ?_
      rintro e w1 ⟨rfl, rfl⟩
      go_wp2_with fail
      refine H2.out.mono ?_
      rintro e w1 ⟨rfl, rfl⟩
      go_wp2_with fail
      go_ret
      exact ⟨rfl, rfl⟩
    · rw [if_neg (Int.lt_irrefl _)]
      go_enter Tryd.func72, Tryd.ntmps72
      go_wp2_with fail
      refine H1.out.mono ?_
      rintro e w1 ⟨rfl, rfl⟩
      go_wp2_with fail
      refine H2.out.mono ?_
      rintro e w1 ⟨rfl, rfl⟩
      go_wp2_with fail
      go_ret
      exact ⟨rfl, rfl⟩
    · rw [if_neg (by omega)]
      go_enter Tryd.func72, Tryd.ntmps72
      go_wp2_with fail
      refine H1.out.mono ?_
      rintro e w1 ⟨rfl, rfl⟩
      go_wp2_with fail
      refine H2.out.mono ?_
      rintro e w1 ⟨rfl, rfl⟩
      go_wp2_with fail
      go_ret
      exact ⟨rfl, rfl⟩
  · rw [if_neg (Int.lt_irrefl _)]
    rcases Int.lt_trichotomy v a with h2 | rfl | h2
    · rw [if_pos h2]
      go_enter Tryd.func72, Tryd.ntmps72
      go_wp2_with fail
      refine H1.out.mono ?_
      rintro e w1 ⟨rfl, rfl⟩
      go_wp2_with fail
      refine H2.out.mono ?_
      rintro e w1 ⟨rfl, rfl⟩
      go_wp2_with fail
      go_ret
      exact ⟨rfl, rfl⟩
    · rw [if_neg (Int.lt_irrefl _)]
      go_enter Tryd.func72, Tryd.ntmps72
      go_wp2_with fail
      refine H1.out.mono ?_
      rintro e w1 ⟨rfl, rfl⟩
      go_wp2_with fail
      refine H2.out.mono ?_
      rintro e w1 ⟨rfl, rfl⟩
      go_wp2_with fail
      go_ret
      exact ⟨rfl, rfl⟩
    · rw [if_neg (by omega)]
      go_enter Tryd.func72, Tryd.ntmps72
      go_wp2_with fail
      refine H1.out.mono ?_
      rintro e w1 ⟨rfl, rfl⟩
      go_wp2_with fail
      refine H2.out.mono ?_
      rintro e w1 ⟨rfl, rfl⟩
      go_wp2_with fail
      go_ret
      exact ⟨rfl, rfl⟩
  · rw [if_neg (show ¬ v < b by omega)]
    rcases Int.lt_trichotomy b a with h2 | rfl | h2
    · rw [if_pos h2]
      go_enter Tryd.func72, Tryd.ntmps72
      go_wp2_with fail
      refine H1.out.mono ?_
      rintro e w1 ⟨rfl, rfl⟩
      go_wp2_with fail
      refine H2.out.mono ?_
      rintro e w1 ⟨rfl, rfl⟩
      go_wp2_with fail
      go_ret
      exact ⟨rfl, rfl⟩
    · rw [if_neg (Int.lt_irrefl _)]
      go_enter Tryd.func72, Tryd.ntmps72
      go_wp2_with fail
      refine H1.out.mono ?_
      rintro e w1 ⟨rfl, rfl⟩
      go_wp2_with fail
      refine H2.out.mono ?_
      rintro e w1 ⟨rfl, rfl⟩
      go_wp2_with fail
      go_ret
      exact ⟨rfl, rfl⟩
    · rw [if_neg (by omega)]
      go_enter Tryd.func72, Tryd.ntmps72
      go_wp2_with fail
      refine H1.out.mono ?_
      rintro e w1 ⟨rfl, rfl⟩
      go_wp2_with fail
      refine H2.out.mono ?_
      rintro e w1 ⟨rfl, rfl⟩
      go_wp2_with fail
      go_ret
      exact ⟨rfl, rfl⟩

set_option maxRecDepth 100000 in
theorem refcut_c (n a b : Int) (w : World) :
    Calls Tryd.prog 96 #[.int .i64 n, .int .i64 a, .int .i64 b] w fun e w' => e = .returned (.int .i64 (Flt.cutv n a b)) ∧ w' = w := by
  unfold Flt.cutv
  by_cases h1 : n < a
  · rw [if_pos h1]
    go_enter Tryd.func96, Tryd.ntmps96
    go_wp2_with fail
    go_ret
    exact ⟨rfl, rfl⟩
  rw [if_neg h1]
  by_cases h2 : b < n
  · rw [if_pos h2]
    go_enter Tryd.func96, Tryd.ntmps96
    go_wp2_with fail
    go_ret
    exact ⟨rfl, rfl⟩
  · rw [if_neg h2]
    go_enter Tryd.func96, Tryd.ntmps96
    go_wp2_with fail
    go_ret
    exact ⟨rfl, rfl⟩
set_option maxRecDepth 100000 in
theorem refwl_c (r : Nat) (a b : Int) (o : FloatKind.f64.format.order r 14114281232179134464 = some .lt) (w : World) :
    Calls Tryd.prog 105 #[.float .f64 r, .bool true, .int .i64 a, .int .i64 b] w fun e w' => e = .returned (.int .i64 a) ∧ w' = w := by
  go_enter Tryd.func105, Tryd.ntmps105
  go_wp2_with fail
  go_ret
  exact ⟨rfl, rfl⟩
set_option maxRecDepth 100000 in
theorem refwl2_c (r : Nat) (a b n : Int) (c : Ordering) (o : FloatKind.f64.format.order r 14114281232179134464 = some c) (hc : c ≠ .lt) (hv : floatToIntVal .f64 r .i64 = some n) (w : World) :
    Calls Tryd.prog 105 #[.float .f64 r, .bool true, .int .i64 a, .int .i64 b] w fun e w' => e = .returned (.int .i64 (Flt.cutv n a b)) ∧ w' = w := by
  have hcv := convert_c hv
  have HC := hide (refcut_c n a b w)
  clear hv
  cases c
  · exact absurd rfl hc
  all_goals
    go_enter Tryd.func105, Tryd.ntmps105
    go_wp2_with fail
    refine HC.out.mono ?_
    rintro e w1 ⟨rfl, rfl⟩
    go_wp2_with fail
    go_ret
    exact ⟨rfl, rfl⟩
set_option maxRecDepth 100000 in
theorem refwh_c (r : Nat) (a b : Int) (c : Ordering) (o : FloatKind.f64.format.order r 4890909195324358656 = some c) (hc : c ≠ .lt) (w : World) :
    Calls Tryd.prog 105 #[.float .f64 r, .bool false, .int .i64 a, .int .i64 b] w fun e w' => e = .returned (.int .i64 b) ∧ w' = w := by
  cases c
  · exact absurd rfl hc
  all_goals
    go_enter Tryd.func105, Tryd.ntmps105
    go_wp2_with fail
    go_ret
    exact ⟨rfl, rfl⟩
set_option maxRecDepth 100000 in
theorem refwh2_c (r : Nat) (a b n : Int) (o : FloatKind.f64.format.order r 4890909195324358656 = some .lt) (hv : floatToIntVal .f64 r .i64 = some n) (w : World) :
    Calls Tryd.prog 105 #[.float .f64 r, .bool false, .int .i64 a, .int .i64 b] w fun e w' => e = .returned (.int .i64 (Flt.cutv n a b)) ∧ w' = w := by
  have hcv := convert_c hv
  have HC := hide (refcut_c n a b w)
  clear hv
  go_enter Tryd.func105, Tryd.ntmps105
  go_wp2_with fail
  refine HC.out.mono ?_
  rintro e w1 ⟨rfl, rfl⟩
  go_wp2_with fail
  go_ret
  exact ⟨rfl, rfl⟩
/-- What comes behind the ends' order. -/
theorem refmid_c (r : Nat) (hr : r < 18446744073709551616) (hn : Flt.nanb r = false) (a b : Int) (hab : a ≤ b) (ha : -9223372036854775808 ≤ a) (hb : b ≤ 9223372036854775807) :
    (FloatKind.f64.format.order r 14114063095424393472 = some .lt ∧ ∀ w, Calls Tryd.prog 105 #[.float .f64 r, .bool true, .int .i64 a, .int .i64 b] w fun e w' => e = .returned (.int .i64 (Flt.cutv (Flt.wv r) a b)) ∧ w' = w) ∨
    (∃ c, FloatKind.f64.format.order r 14114063095424393472 = some c ∧ c ≠ .lt ∧ FloatKind.f64.format.order r 4890691058569617664 = some .gt ∧ ∀ w, Calls Tryd.prog 105 #[.float .f64 r, .bool false, .int .i64 a, .int .i64 b] w fun e w' => e = .returned (.int .i64 (Flt.cutv (Flt.wv r) a b)) ∧ w' = w) ∨
    (∃ c d, FloatKind.f64.format.order r 14114063095424393472 = some c ∧ c ≠ .lt ∧ FloatKind.f64.format.order r 4890691058569617664 = some d ∧ d ≠ .gt ∧ floatToIntVal .f64 r .i64 = some (Flt.wv r)) := by
  rcases Flt.wv_cases r hr hn with ⟨o1, o3, o4⟩ | ⟨o1, o2, o4⟩ | ⟨n, o, o9, p9, o1, o2, hc, o4, o3, hv, -, -⟩
  · refine .inr (.inl ⟨.gt, o4, by decide, o3, fun w => ?_⟩)
    have e : Flt.cutv 9223372036854775807 a b = b := by
      unfold Flt.cutv
      rw [if_neg (by omega)]
      split <;> omega
    rw [wv_far hn o1, e]
    rcases o1 with o1 | o1
    · exact refwh_c r a b .gt o1 (by decide) w
    · exact refwh_c r a b .eq o1 (by decide) w
  · refine .inl ⟨o4, fun w => ?_⟩
    have e : Flt.cutv (-9223372036854775808) a b = a := by
      unfold Flt.cutv
      split
      · rfl
      · split <;> omega
    rw [wv_low hn o1 o2, e]
    exact refwl_c r a b o2 w
  · rw [wv_mid hn o1 o2 hc hv]
    by_cases h4 : o9 = .lt
    · subst h4
      exact .inl ⟨o4, fun w => refwl2_c r a b n o o2 hc hv w⟩
    · by_cases h3 : p9 = .gt
      · subst h3
        exact .inr (.inl ⟨o9, o4, h4, o3, fun w => refwh2_c r a b n o1 hv w⟩)
      · exact .inr (.inr ⟨o9, p9, o4, h4, o3, h3, hv⟩)
set_option maxRecDepth 100000 in
set_option maxHeartbeats 4000000 in
theorem refwhole_c (x : Nat) (hx : x < 18446744073709551616) (a b : Int) (ha : -9223372036854775808 ≤ a) (ha2 : a ≤ 9223372036854775807) (hb : b ≤ 9223372036854775807) (w : World) :
    Calls Tryd.prog 74 #[.float .f64 x, .int .i64 a, .int .i64 b] w fun e w' => e = .returned (.int .i64 (Flt.cutv (Flt.wv (Flt.rround x)) a (if b < a then a else b))) ∧ w' = w := by
  have H1 := hide (refnan_c x hx w)
  have H2 := hide (refround_c x hx w)
  by_cases hab : b < a
  · rw [if_pos hab]
    have hat : a ≤ a := Int.le_refl _
    cases hn : Flt.nanb x
    · rw [hn] at H1
      have hr := Flt.nan_rround x hx
      rw [hn] at hr
      have hm := refmid_c (Flt.rround x) (Flt.rround_lt x hx) hr a a hat ha ha2
      obtain ⟨r, hrr⟩ : ∃ r, Hid (Flt.rround x = r) := ⟨_, hide rfl⟩
      rw [hrr.out] at hm H2 ⊢
      clear hn hr
      rcases hm with ⟨o1, hc⟩ | ⟨c, o1, h1, o2, hc⟩ | ⟨c, d, o1, h1, o2, h2, hv⟩
      · have HC := hide (hc w)
        clear hc
        go_enter Tryd.func74, Tryd.ntmps74
        go_wp2_with fail
        refine H1.out.mono ?_
        rintro e w1 ⟨rfl, rfl⟩
        go_wp2_with fail
        refine H2.out.mono ?_
        rintro e w1 ⟨rfl, rfl⟩
        go_wp2_with fail
        refine HC.out.mono ?_
        rintro e w1 ⟨rfl, rfl⟩
        go_wp2_with fail
        go_ret
        exact ⟨rfl, rfl⟩
      · have HC := hide (hc w)
        clear hc
        cases c
        · exact absurd rfl h1
        all_goals
          go_enter Tryd.func74, Tryd.ntmps74
          go_wp2_with fail
          refine H1.out.mono ?_
          rintro e w1 ⟨rfl, rfl⟩
          go_wp2_with fail
          refine H2.out.mono ?_
          rintro e w1 ⟨rfl, rfl⟩
          go_wp2_with fail
          refine HC.out.mono ?_
          rintro e w1 ⟨rfl, rfl⟩
          go_wp2_with fail
          go_ret
          exact ⟨rfl, rfl⟩
      · have hcv := convert_c hv
        have HC := hide (refcut_c (Flt.wv r) a a w)
        obtain ⟨v, hvv⟩ : ∃ r', Hid (Flt.wv r = r') := ⟨_, hide rfl⟩
        rw [hvv.out] at HC hcv ⊢
        clear hv hvv
        cases c
        · exact absurd rfl h1
        all_goals
          cases d
          rotate_left 2
          · exact absurd rfl h2
          all_goals
            go_enter Tryd.func74, Tryd.ntmps74
            go_wp2_with fail
            refine H1.out.mono ?_
            rintro e w1 ⟨rfl, rfl⟩
            go_wp2_with fail
            refine H2.out.mono ?_
            rintro e w1 ⟨rfl, rfl⟩
            go_wp2_with fail
            refine HC.out.mono ?_
            rintro e w1 ⟨rfl, rfl⟩
            go_wp2_with fail
            go_ret
            exact ⟨rfl, rfl⟩
    · rw [hn] at H1
      have hr : Flt.nanb (Flt.rround x) = true := (Flt.nan_rround x hx).trans hn
      rw [wv_nan hr]
      have HC := hide (refcut_c 0 a a w)
      clear hn hr
      go_enter Tryd.func74, Tryd.ntmps74
      go_wp2_with fail
      refine H1.out.mono ?_
      rintro e w1 ⟨rfl, rfl⟩
      go_wp2_with fail
      refine HC.out.mono ?_
      rintro e w1 ⟨rfl, rfl⟩
      go_wp2_with fail
      go_ret
      exact ⟨rfl, rfl⟩
  · rw [if_neg hab]
    have hat : a ≤ b := by omega
    cases hn : Flt.nanb x
    · rw [hn] at H1
      have hr := Flt.nan_rround x hx
      rw [hn] at hr
      have hm := refmid_c (Flt.rround x) (Flt.rround_lt x hx) hr a b hat ha hb
      obtain ⟨r, hrr⟩ : ∃ r, Hid (Flt.rround x = r) := ⟨_, hide rfl⟩
      rw [hrr.out] at hm H2 ⊢
      clear hn hr
      rcases hm with ⟨o1, hc⟩ | ⟨c, o1, h1, o2, hc⟩ | ⟨c, d, o1, h1, o2, h2, hv⟩
      · have HC := hide (hc w)
        clear hc
        go_enter Tryd.func74, Tryd.ntmps74
        go_wp2_with fail
        refine H1.out.mono ?_
        rintro e w1 ⟨rfl, rfl⟩
        go_wp2_with fail
        refine H2.out.mono ?_
        rintro e w1 ⟨rfl, rfl⟩
        go_wp2_with fail
        refine HC.out.mono ?_
        rintro e w1 ⟨rfl, rfl⟩
        go_wp2_with fail
        go_ret
        exact ⟨rfl, rfl⟩
      · have HC := hide (hc w)
        clear hc
        cases c
        · exact absurd rfl h1
        all_goals
          go_enter Tryd.func74, Tryd.ntmps74
          go_wp2_with fail
          refine H1.out.mono ?_
          rintro e w1 ⟨rfl, rfl⟩
          go_wp2_with fail
          refine H2.out.mono ?_
          rintro e w1 ⟨rfl, rfl⟩
          go_wp2_with fail
          refine HC.out.mono ?_
          rintro e w1 ⟨rfl, rfl⟩
          go_wp2_with fail
          go_ret
          exact ⟨rfl, rfl⟩
      · have hcv := convert_c hv
        have HC := hide (refcut_c (Flt.wv r) a b w)
        obtain ⟨v, hvv⟩ : ∃ r', Hid (Flt.wv r = r') := ⟨_, hide rfl⟩
        rw [hvv.out] at HC hcv ⊢
        clear hv hvv
        cases c
        · exact absurd rfl h1
        all_goals
          cases d
          rotate_left 2
          · exact absurd rfl h2
          all_goals
            go_enter Tryd.func74, Tryd.ntmps74
            go_wp2_with fail
            refine H1.out.mono ?_
            rintro e w1 ⟨rfl, rfl⟩
            go_wp2_with fail
            refine H2.out.mono ?_
            rintro e w1 ⟨rfl, rfl⟩
            go_wp2_with fail
            refine HC.out.mono ?_
            rintro e w1 ⟨rfl, rfl⟩
            go_wp2_with fail
            go_ret
            exact ⟨rfl, rfl⟩
    · rw [hn] at H1
      have hr : Flt.nanb (Flt.rround x) = true := (Flt.nan_rround x hx).trans hn
      rw [wv_nan hr]
      have HC := hide (refcut_c 0 a b w)
      clear hn hr
      go_enter Tryd.func74, Tryd.ntmps74
      go_wp2_with fail
      refine H1.out.mono ?_
      rintro e w1 ⟨rfl, rfl⟩
      go_wp2_with fail
      refine HC.out.mono ?_
      rintro e w1 ⟨rfl, rfl⟩
      go_wp2_with fail
      go_ret
      exact ⟨rfl, rfl⟩
open Ieee

theorem mag_lt (a b : Nat) (h : a % 9223372036854775808 < b % 9223372036854775808) : Flt.mag a < Flt.mag b := by
  unfold Flt.mag
  obtain ⟨p, hp⟩ : ∃ p, a % 9223372036854775808 = p := ⟨_, rfl⟩
  obtain ⟨q, hq⟩ : ∃ q, b % 9223372036854775808 = q := ⟨_, rfl⟩
  rw [show a % 4503599627370496 = p % 4503599627370496 by omega, show b % 4503599627370496 = q % 4503599627370496 by omega, hp, hq]
  rw [hp, hq] at h
  have hpd := Nat.div_add_mod p 4503599627370496
  have hqd := Nat.div_add_mod q 4503599627370496
  have hpm : p % 4503599627370496 < 4503599627370496 := Nat.mod_lt _ (by decide)
  have hqm : q % 4503599627370496 < 4503599627370496 := Nat.mod_lt _ (by decide)
  generalize p % 4503599627370496 = x at *
  generalize q % 4503599627370496 = y at *
  generalize hi : p / 4503599627370496 = i at *
  generalize hj : q / 4503599627370496 = j at *
  by_cases h2 : q < 4503599627370496
  · rw [if_pos h2, if_pos (by omega)]
    exact h
  rw [if_neg h2]
  have hP := Nat.two_pow_pos (j - 1)
  by_cases h1 : p < 4503599627370496
  · rw [if_pos h1]
    have := Nat.le_mul_of_pos_right (4503599627370496 + y) hP
    omega
  · rw [if_neg h1]
    by_cases hij : i = j
    · subst hij
      exact Nat.mul_lt_mul_of_pos_right (by omega) hP
    · obtain ⟨d, hd⟩ : ∃ d, j - 1 = (i - 1) + (d + 1) := ⟨j - i - 1, by omega⟩
      rw [hd, Nat.pow_add, Nat.pow_succ]
      have hQ := Nat.two_pow_pos (i - 1)
      have hD := Nat.two_pow_pos d
      calc (4503599627370496 + x) * 2 ^ (i - 1) < (4503599627370496 * 2) * 2 ^ (i - 1) := Nat.mul_lt_mul_of_pos_right (by omega) hQ
        _ ≤ (4503599627370496 + y) * (2 ^ d * 2) * 2 ^ (i - 1) := Nat.mul_le_mul_right _ (Nat.mul_le_mul (by omega) (by omega))
        _ = (4503599627370496 + y) * (2 ^ (i - 1) * (2 ^ d * 2)) := by ac_rfl
theorem order_pos (a b : Nat) (ha : a < 9218868437227405312) (hb : b < 9218868437227405312) (h : a < b) : FloatKind.f64.format.order a b = some .lt ∧ FloatKind.f64.format.order b a = some .gt := by
  have m1 := mag_lt a b (by omega)
  have k1 : Flt.key a = (Flt.mag a : Int) := by unfold Flt.key; rw [if_neg (by omega)]
  have k2 : Flt.key b = (Flt.mag b : Int) := by unfold Flt.key; rw [if_neg (by omega)]
  have o1 := Flt.order_key a b (by omega) (by omega) (by omega) (by omega)
  have o2 := Flt.order_key b a (by omega) (by omega) (by omega) (by omega)
  rw [k1, k2] at o1 o2
  exact ⟨o1.trans (congrArg _ (Flt.cmp_lt (by omega))), o2.trans (congrArg _ (Flt.cmp_gt (by omega)))⟩
theorem order_zero (x : Nat) (hx : x < 18446744073709551616) (h0 : Flt.expo x ≠ 0) (h7 : Flt.expo x ≠ 2047) : FloatKind.f64.format.order x 0 = some (if Flt.neg x = true then .lt else .gt) := by
  have hfin : x % 9223372036854775808 < 9218868437227405312 := by unfold Flt.expo at h7; omega
  have o := Flt.order_key x 0 hx (by decide) hfin (by decide)
  have hm := mag_lt 0 x (by unfold Flt.expo at h0; omega)
  have hm0 : Flt.mag 0 = 0 := rfl
  have k0 : Flt.key 0 = 0 := by unfold Flt.key; rw [if_neg (by decide), hm0]; rfl
  rw [k0] at o
  refine o.trans (congrArg _ ?_)
  unfold Flt.key Flt.neg
  by_cases h : 9223372036854775808 ≤ x
  · rw [if_pos h, if_pos (decide_eq_true h)]
    exact Flt.cmp_lt (by omega)
  · rw [if_neg h, if_neg (by simpa using h)]
    exact Flt.cmp_gt (by omega)
theorem andNot_top' (a : Nat) (ha : a < 18446744073709551616) : bits .andNot .u64 (a : Int) 9223372036854775808 = ((a % 9223372036854775808 : Nat) : Int) := by
  have h := u64_andNot_nat a 9223372036854775808 ha (by decide)
  rw [show (18446744073709551615 - 9223372036854775808 : Nat) = 2 ^ 63 - 1 by decide, Nat.and_two_pow_sub_one_eq_mod] at h
  exact h
theorem and_top (x : Nat) (hx : x < 18446744073709551616) : x &&& 2 ^ 63 = if Flt.neg x = true then 9223372036854775808 else 0 := by
  have ht : x.testBit 63 = Flt.neg x := by
    unfold Flt.neg
    rw [Nat.testBit_eq_decide_div_mod_eq]
    congr 1
    apply propext
    omega
  apply Nat.eq_of_testBit_eq
  intro i
  rw [Nat.testBit_and, Nat.testBit_two_pow]
  by_cases hi : 63 = i
  · subst hi
    rw [ht]
    cases Flt.neg x
    · simp
    · rw [if_pos rfl]
      decide
  · rw [decide_eq_false hi, Bool.and_false]
    split
    · rw [show (9223372036854775808 : Nat) = 2 ^ 63 by decide, Nat.testBit_two_pow, decide_eq_false hi]
    · rw [Nat.zero_testBit]
theorem andNot_expo (x : Nat) (hx : x < 18446744073709551616) : bits .andNot .u64 (x : Int) 9218868437227405312 = (((if Flt.neg x = true then 9223372036854775808 else 0) + Flt.frac x : Nat) : Int) := by
  have h := u64_andNot_nat x 9218868437227405312 hx (by decide)
  rw [show (18446744073709551615 - 9218868437227405312 : Nat) = 2 ^ 63 ||| (2 ^ 52 - 1) by decide, Nat.and_or_distrib_left, Nat.and_two_pow_sub_one_eq_mod, and_top x hx] at h
  refine h.trans (congrArg _ ?_)
  have hf : Flt.frac x = x % 2 ^ 52 := rfl
  rw [← hf]
  have hfl := frac_lt x
  cases Flt.neg x
  · simp
  · have h1 := Nat.two_pow_add_eq_or_of_lt (b := Flt.frac x) (i := 63) (by omega) 1
    have e : (9223372036854775808 : Nat) = 2 ^ 63 * 1 := by decide
    rw [if_pos rfl, e, ← h1]
theorem or_expo (g f k : Nat) (hg : g = 0 ∨ g = 9223372036854775808) (hf : f < 4503599627370496) (hk : k < 2048) : bits .or .u64 ((g + f : Nat) : Int) ((k * 4503599627370496 : Nat) : Int) = ((g + (k * 4503599627370496 + f) : Nat) : Int) := by
  rw [u64_or_nat _ _ (by omega) (by omega)]
  refine congrArg _ ?_
  have h1 := Nat.two_pow_add_eq_or_of_lt (b := f) (i := 52) hf k
  have e1 : k * 4503599627370496 = 2 ^ 52 * k := by rw [Nat.mul_comm]
  rcases hg with rfl | rfl
  · rw [Nat.zero_add, Nat.zero_add, e1, h1, Nat.or_comm]
  · have h2 := Nat.two_pow_add_eq_or_of_lt (b := f) (i := 63) (by omega) 1
    have h3 := Nat.two_pow_add_eq_or_of_lt (b := 2 ^ 52 * k + f) (i := 63) (by omega) 1
    have e2 : (9223372036854775808 : Nat) = 2 ^ 63 * 1 := by decide
    rw [e1, e2, h2, h3, h1, Nat.or_assoc, Nat.or_comm f]
theorem and_i64 (n : Nat) (hn : n < 4096) : bits .and .i64 (n : Int) 2047 = ((n % 2048 : Nat) : Int) := by
  have e1 : bits .and .i64 (n : Int) 2047 = IntKind.i64.wrap (((BitVec.ofInt 64 (n : Int)) &&& (BitVec.ofInt 64 2047)).toNat : Int) := rfl
  have e2 : (BitVec.ofInt 64 2047).toNat = 2 ^ 11 - 1 := by decide
  rw [e1, BitVec.toNat_and, e2, BitVec.toNat_ofInt, show ((n : Int) % ((2 ^ 64 : Nat) : Int)).toNat = n by omega, Nat.and_two_pow_sub_one_eq_mod, IntKind.wrap_i64]
  omega

open Ieee
open Ieee

/-- A half, in the smallest place. -/
def hunit : Nat := Flt.pw 1073
theorem hunit_pos : 0 < hunit := Flt.pw_pos 1073
theorem unit_two : Flt.unit = 2 * hunit := by
  unfold Flt.unit hunit
  rw [show 1074 = 1073 + 1 by decide, Flt.pw_add, Nat.pow_one, Nat.mul_comm]
theorem shift_up (m : Nat) (i : Int) (K : Nat) (hi : -(K : Int) ≤ i) : m * 2 ^ i.toNat * Flt.pw K = m * 2 ^ (i + K).toNat * 2 ^ (-i).toNat := by
  unfold Flt.pw
  rw [Nat.mul_assoc, Nat.mul_assoc, ← Nat.pow_add, ← Nat.pow_add]
  congr 2
  omega
/-- A whole number's number. -/
def Flt.whl (N : Nat) : Nat := if N = 0 then 0 else Flt.near N 0
theorem nearest_whl (g : Bool) (N : Nat) : double.nearest g N 0 = (if g = true then 9223372036854775808 else 0) + Flt.whl N := by
  unfold Flt.whl
  by_cases h : N = 0
  · subst h
    rw [Flt.nearest_zero, if_pos rfl, Nat.add_zero]
  · rw [if_neg h, near_sign _ _ _ h]
theorem round_read (y : Nat) (hy : y < 18446744073709551616) (h7 : Flt.expo y ≠ 2047) : ∃ A P : Nat, 0 < P ∧ A * Flt.unit = Flt.mag y * P ∧ Flt.round y = (if Flt.neg y = true then 9223372036854775808 else 0) + Flt.whl (Flt.half A P) := by
  obtain ⟨m, i, e1, hi, hm, -⟩ := Flt.read_num y hy (by unfold Flt.expo at h7; omega)
  refine ⟨m * 2 ^ i.toNat, 2 ^ (-i).toNat, Nat.two_pow_pos _, ?_, ?_⟩
  · rw [← hm]
    exact shift_up m i 1074 hi
  · unfold Flt.round
    rw [if_neg h7, e1]
    simp only [Datum.integral, Format.write]
    rw [Flt.cut_even, Nat.shiftLeft_eq, nearest_whl]
    rfl
theorem half_near (A P N : Nat) (hP : 0 < P) (h1 : 2 * N * P < 2 * A + P) (h2 : 2 * A < (2 * N + 1) * P) : Flt.half A P = N := by
  have hd := Nat.div_add_mod A P
  have hm : A % P < P := Nat.mod_lt _ hP
  obtain ⟨q, hq⟩ : ∃ q, A / P = q := ⟨_, rfl⟩
  unfold Flt.half
  rw [hq] at hd ⊢
  generalize A % P = r at *
  have hA : A = q * P + r := by rw [Nat.mul_comm]; exact hd.symm
  rw [Nat.add_mul, Nat.mul_assoc] at h2
  rw [Nat.mul_assoc] at h1
  have hNq : N = q ∨ N = q + 1 := by
    rcases Nat.lt_trichotomy N q with h | h | h
    · obtain ⟨d, rfl⟩ : ∃ d, q = N + (d + 1) := ⟨q - N - 1, by omega⟩
      have e : (N + (d + 1)) * P = N * P + d * P + P := by rw [Nat.add_mul, Nat.add_mul, Nat.one_mul]; omega
      omega
    · exact .inl h
    · obtain ⟨d, rfl⟩ : ∃ d, N = q + (d + 1) := ⟨N - q - 1, by omega⟩
      rcases d with _ | d
      · exact .inr (by omega)
      · have e : (q + (d + 1 + 1)) * P = q * P + d * P + 2 * P := by rw [Nat.add_mul, Nat.add_mul, Nat.add_mul, Nat.one_mul]; omega
        omega
  rcases hNq with rfl | rfl
  · rw [if_neg (by omega)]
    omega
  · have e : (q + 1) * P = q * P + P := by rw [Nat.add_mul, Nat.one_mul]
    rw [if_pos (by omega)]
theorem half_tie (A P N : Nat) (hP : 0 < P) (h : 2 * A = (2 * N + 1) * P) : Flt.half A P = if N % 2 = 1 then N + 1 else N := by
  have hd := Nat.div_add_mod A P
  have hm : A % P < P := Nat.mod_lt _ hP
  obtain ⟨q, hq⟩ : ∃ q, A / P = q := ⟨_, rfl⟩
  unfold Flt.half
  rw [hq] at hd ⊢
  generalize A % P = r at *
  have hA : A = q * P + r := by rw [Nat.mul_comm]; exact hd.symm
  rw [Nat.add_mul, Nat.mul_assoc] at h
  have hNq : N = q := by
    rcases Nat.lt_trichotomy N q with h' | h' | h'
    · obtain ⟨d, rfl⟩ : ∃ d, q = N + (d + 1) := ⟨q - N - 1, by omega⟩
      have e : (N + (d + 1)) * P = N * P + d * P + P := by rw [Nat.add_mul, Nat.add_mul, Nat.one_mul]; omega
      omega
    · exact h'
    · obtain ⟨d, rfl⟩ : ∃ d, N = q + (d + 1) := ⟨N - q - 1, by omega⟩
      have e : (q + (d + 1)) * P = q * P + d * P + P := by rw [Nat.add_mul, Nat.add_mul, Nat.one_mul]; omega
      omega
  subst hNq
  by_cases ho : N % 2 = 1
  · rw [if_pos ho, if_pos (by omega)]
  · rw [if_neg ho, if_neg (by omega)]
    omega
theorem round_key (y N : Nat) (hy : y < 18446744073709551616) (h7 : Flt.expo y ≠ 2047) (h1 : 2 * N * Flt.unit < 2 * Flt.mag y + Flt.unit) (h2 : 2 * Flt.mag y < (2 * N + 1) * Flt.unit) : Flt.round y = (if Flt.neg y = true then 9223372036854775808 else 0) + Flt.whl N := by
  obtain ⟨A, P, hP, hA, hr⟩ := round_read y hy h7
  have hu := Flt.unit_pos
  rw [hr, half_near A P N hP]
  · apply Nat.lt_of_mul_lt_mul_right (a := Flt.unit)
    have := Nat.mul_lt_mul_of_pos_right h1 hP
    rw [Nat.add_mul, Nat.mul_assoc 2 (Flt.mag y), ← hA] at this
    rw [Nat.add_mul, Nat.mul_assoc 2 A, Nat.mul_right_comm (2 * N), Nat.mul_comm P]
    exact this
  · apply Nat.lt_of_mul_lt_mul_right (a := Flt.unit)
    have := Nat.mul_lt_mul_of_pos_right h2 hP
    rw [Nat.mul_assoc 2 (Flt.mag y), ← hA] at this
    rw [Nat.mul_assoc 2 A, Nat.mul_right_comm (2 * N + 1)]
    exact this
theorem round_tie (y N : Nat) (hy : y < 18446744073709551616) (h7 : Flt.expo y ≠ 2047) (h : 2 * Flt.mag y = (2 * N + 1) * Flt.unit) : Flt.round y = (if Flt.neg y = true then 9223372036854775808 else 0) + Flt.whl (if N % 2 = 1 then N + 1 else N) := by
  obtain ⟨A, P, hP, hA, hr⟩ := round_read y hy h7
  have hu := Flt.unit_pos
  rw [hr, half_tie A P N hP]
  apply Nat.eq_of_mul_eq_mul_right hu
  have := congrArg (· * P) h
  simp only [Nat.mul_assoc 2 (Flt.mag y), ← hA] at this
  rw [Nat.mul_assoc 2 A, this, Nat.mul_right_comm]
/-- What a whole number of few digits by a power says. -/
theorem near_exact (s : Nat) (e : Int) (h0 : s ≠ 0) (hs : s < 9007199254740992) (h1 : -1000 ≤ e) (h2 : e ≤ 900) :
    Flt.expo (Flt.near s e) = (e + s.log2 + 1023).toNat ∧ Flt.near s e < 9218868437227405312 ∧ Flt.mag (Flt.near s e) = s * Flt.pw (e + 1074).toNat := by
  have hl : s.log2 < 53 := (Nat.log2_lt h0).2 hs
  obtain ⟨a, -, -⟩ := near_usual s e h0 (by omega) (by omega) (by omega)
  have hlo : 2 ^ s.log2 ≤ s := Nat.log2_self_le h0
  have hhi : s < 2 ^ (s.log2 + 1) := Nat.lt_log2_self
  have e1 : s * 2 ^ (63 - s.log2) = s * 2 ^ (52 - s.log2) * 2 ^ 11 := by
    rw [Nat.mul_assoc, ← Nat.pow_add]
    congr 2
    omega
  rw [e1, half_exact _ _ (by decide)] at a
  have b1 : 4503599627370496 ≤ s * 2 ^ (52 - s.log2) := by
    have b : 2 ^ s.log2 * 2 ^ (52 - s.log2) ≤ s * 2 ^ (52 - s.log2) := Nat.mul_le_mul_right _ hlo
    rw [← Nat.pow_add, show s.log2 + (52 - s.log2) = 52 by omega] at b
    exact b
  have b2 : s * 2 ^ (52 - s.log2) < 9007199254740992 := by
    have b : s * 2 ^ (52 - s.log2) < 2 ^ (s.log2 + 1) * 2 ^ (52 - s.log2) := Nat.mul_lt_mul_of_pos_right hhi (Nat.two_pow_pos _)
    rw [← Nat.pow_add, show s.log2 + 1 + (52 - s.log2) = 53 by omega] at b
    exact b
  obtain ⟨E, hE⟩ : ∃ E : Nat, (e + (s.log2 : Int) + 1022).toNat = E := ⟨_, rfl⟩
  rw [hE] at a
  have hZ : s * Flt.pw (e + 1074).toNat = s * 2 ^ (52 - s.log2) * Flt.pw E := by
    unfold Flt.pw
    rw [Nat.mul_assoc, ← Nat.pow_add]
    congr 2
    omega
  rw [hZ]
  obtain ⟨Z, hZZ⟩ : ∃ Z, s * 2 ^ (52 - s.log2) = Z := ⟨_, rfl⟩
  rw [hZZ] at a b1 b2 ⊢
  have hE2 : E ≤ 2000 := by omega
  refine ⟨by unfold Flt.expo; omega, by omega, ?_⟩
  rw [Flt.mag_pw _ (by omega), show Flt.near s e % 9223372036854775808 / 4503599627370496 - 1 = E by omega, show 4503599627370496 + Flt.near s e % 4503599627370496 = Z by omega]
open Ieee

theorem near_pw (s k : Nat) (e : Int) (h0 : s ≠ 0) : Flt.near (s * Flt.pw k) e = Flt.near s (e + k) := near_scale s k e h0
theorem mag_mod (g r : Nat) (hg : g = 0 ∨ g = 9223372036854775808) : Flt.mag (g + r) = Flt.mag r := by
  unfold Flt.mag
  rw [show (g + r) % 9223372036854775808 = r % 9223372036854775808 by omega, show (g + r) % 4503599627370496 = r % 4503599627370496 by omega]
/-- What a whole number by a power says. -/
theorem mk_facts (M e : Int) (h0 : M ≠ 0) (hs : M.natAbs < 9007199254740992) (h1 : -1000 ≤ e) (h2 : e ≤ 900) :
    Flt.mk M e = (if M < 0 then 9223372036854775808 else 0) + Flt.near M.natAbs e ∧ Flt.mk M e < 18446744073709551616 ∧ Flt.expo (Flt.mk M e) ≠ 2047 ∧ Flt.neg (Flt.mk M e) = decide (M < 0) ∧ Flt.mag (Flt.mk M e) = M.natAbs * Flt.pw (e + 1074).toNat ∧ Flt.key (Flt.mk M e) = M * (Flt.pw (e + 1074).toNat : Int) := by
  obtain ⟨a1, a2, a3⟩ := near_exact M.natAbs e (by omega) hs h1 h2
  have hl : M.natAbs.log2 < 53 := (Nat.log2_lt (by omega)).2 hs
  have hmk : Flt.mk M e = (if M < 0 then 9223372036854775808 else 0) + Flt.near M.natAbs e := by
    unfold Flt.mk
    rw [if_neg h0, near_sign _ _ _ (by omega)]
    congr 1
    by_cases h : M < 0
    · rw [if_pos (decide_eq_true h), if_pos h]
    · rw [if_neg (by simpa using h), if_neg h]
  obtain ⟨g, hg⟩ : ∃ g : Nat, (if M < 0 then 9223372036854775808 else 0) = g := ⟨_, rfl⟩
  have hgg : (M < 0 ∧ g = 9223372036854775808) ∨ (¬ M < 0 ∧ g = 0) := by
    by_cases h : M < 0
    · rw [if_pos h] at hg; exact .inl ⟨h, hg.symm⟩
    · rw [if_neg h] at hg; exact .inr ⟨h, hg.symm⟩
  rw [hg] at hmk ⊢
  have hm := mag_mod g (Flt.near M.natAbs e) (by omega)
  rw [a3, ← hmk] at hm
  have hn : Flt.neg (Flt.mk M e) = decide (M < 0) := by
    unfold Flt.neg
    congr 1
    apply propext
    omega
  refine ⟨hmk, by omega, ?_, hn, hm, ?_⟩
  · have : Flt.expo (Flt.mk M e) = Flt.expo (Flt.near M.natAbs e) := by unfold Flt.expo; omega
    rw [this, a1]
    omega
  · unfold Flt.key
    rw [hm, Int.natCast_mul]
    rcases hgg with ⟨h, rfl⟩ | ⟨h, rfl⟩
    · rw [if_pos (by omega), show (M.natAbs : Int) = -M by omega, Int.neg_mul, Int.neg_neg]
    · rw [if_neg (by omega), show (M.natAbs : Int) = M by omega]
theorem half_key : Flt.key 4602678819172646912 = (hunit : Int) ∧ Flt.mag 4602678819172646912 = hunit := by
  have h1 : Flt.near 1 (-1) = 4602678819172646912 := by decide +kernel
  have h2 := (near_exact 1 (-1) (by decide) (by decide) (by decide) (by decide)).2.2
  rw [h1, Nat.one_mul, show ((-1 : Int) + 1074).toNat = 1073 by decide] at h2
  have h3 : Flt.mag 4602678819172646912 = hunit := h2
  refine ⟨?_, h3⟩
  unfold Flt.key
  rw [if_neg (by decide), h3]
theorem mk_zero (e : Int) : Flt.mk 0 e = 0 := if_pos rfl
theorem key_zero : Flt.key 0 = 0 ∧ Flt.mag 0 = 0 := by
  have hm0 : Flt.mag 0 = 0 := rfl
  refine ⟨?_, hm0⟩
  unfold Flt.key
  rw [if_neg (by decide), hm0]
  rfl
/-- A whole number as such. -/
theorem whole_facts (n : Int) (hn : n.natAbs < 9007199254740992) : Flt.mk n 0 < 18446744073709551616 ∧ Flt.mk n 0 % 9223372036854775808 < 9218868437227405312 ∧ Flt.mag (Flt.mk n 0) = n.natAbs * Flt.unit ∧ Flt.key (Flt.mk n 0) = n * (Flt.unit : Int) := by
  by_cases h0 : n = 0
  · subst h0
    rw [mk_zero, key_zero.1, key_zero.2]
    simp
  · obtain ⟨-, a2, a3, -, a5, a6⟩ := mk_facts n 0 h0 hn (by decide) (by decide)
    refine ⟨a2, by unfold Flt.expo at a3; omega, a5, a6⟩
theorem float_of_any (n : Int) : floatOfInt .f64 n = Flt.mk n 0 := by
  unfold Flt.mk
  by_cases h0 : n = 0
  · subst h0
    rw [if_pos rfl]
    decide +kernel
  · rw [if_neg h0]
    rfl
/-- A whole number and a half. -/
theorem add_half (n : Int) (hn : n.natAbs < 1099511627776) : double.add (Flt.mk n 0) 4602678819172646912 = some (Flt.mk (2 * n + 1) (-1)) := by
  obtain ⟨a1, a2, -, a4⟩ := whole_facts n (by omega)
  have hk : Flt.key (Flt.mk n 0) + Flt.key 4602678819172646912 = (2 * n + 1) * (hunit : Int) := by
    rw [a4, half_key.1, unit_two, Int.natCast_mul, Int.add_mul, Int.one_mul, ← Int.mul_assoc, Int.mul_comm n]
    rfl
  have hp : (0 : Int) < (hunit : Int) := by have := hunit_pos; omega
  have h0 : (2 * n + 1) * (hunit : Int) ≠ 0 := Int.mul_ne_zero (by omega) (by omega)
  have hneg : (2 * n + 1) * (hunit : Int) < 0 ↔ 2 * n + 1 < 0 := by
    constructor
    · intro h
      by_cases hc : 2 * n + 1 < 0
      · exact hc
      · have := Int.mul_nonneg (show 0 ≤ 2 * n + 1 by omega) (Int.le_of_lt hp)
        omega
    · intro h
      exact Int.mul_neg_of_neg_of_pos h hp
  rw [add_key _ _ a1 (by decide) a2 (by decide) (by rw [hk]; exact h0), hk, Int.natAbs_mul, Int.natAbs_natCast, show hunit = Flt.pw 1073 from rfl, near_pw _ _ _ (by omega)]
  rw [show Flt.pw 1073 = hunit from rfl, show (-1074 : Int) + ((1073 : Nat) : Int) = -1 by decide]
  rw [(mk_facts (2 * n + 1) (-1) (by omega) (by omega) (by decide) (by decide)).1]
  congr 2
  by_cases h : 2 * n + 1 < 0
  · rw [if_pos h, if_pos (hneg.2 h)]
  · rw [if_neg h, if_neg (fun h' => h (hneg.1 h'))]
/-- Rounded, it is the even one. -/
theorem round_half (n E : Int) (hn : n.natAbs < 1099511627776) (hE : E = if n % 2 = 0 then n else n + 1) : Flt.round (Flt.mk (2 * n + 1) (-1)) = (if n < 0 then 9223372036854775808 else 0) + Flt.whl E.natAbs := by
  obtain ⟨a1, a2, a3, a4, a5, -⟩ := mk_facts (2 * n + 1) (-1) (by omega) (by omega) (by decide) (by decide)
  have hm : Flt.mag (Flt.mk (2 * n + 1) (-1)) = (2 * n + 1).natAbs * hunit := a5
  obtain ⟨N, hN⟩ : ∃ N : Nat, (2 * n + 1).natAbs = 2 * N + 1 := ⟨(2 * n + 1).natAbs / 2, by omega⟩
  rw [round_tie _ N a2 a3 (by rw [hm, hN, unit_two, Nat.mul_left_comm]), a4]
  have hNE : (if N % 2 = 1 then N + 1 else N) = E.natAbs := by
    subst hE
    split <;> split <;> omega
  rw [hNE]
  congr 1
  by_cases h : n < 0
  · rw [if_pos h, if_pos (decide_eq_true (by omega))]
  · rw [if_neg h, if_neg (by simp; omega)]
theorem whl_mk (E : Int) (h0 : E ≠ 0) (hE : E.natAbs < 9007199254740992) : Flt.mk E 0 = (if E < 0 then 9223372036854775808 else 0) + Flt.whl E.natAbs := by
  rw [(mk_facts E 0 h0 hE (by decide) (by decide)).1]
  unfold Flt.whl
  rw [if_neg (by omega : ¬ E.natAbs = 0)]
theorem fin_nan (b : Nat) (h7 : Flt.expo b ≠ 2047) : Flt.nanb b = false := by
  unfold Flt.nanb
  unfold Flt.expo at h7
  rw [decide_eq_false_iff_not]
  omega
/-- What was rounded is the even number, and is it as an int. -/
theorem even_facts (n E : Int) (hn : n.natAbs < 1073741824) (hE : E = if n % 2 = 0 then n else n + 1) (r : Nat) (hr : r = (if n < 0 then 9223372036854775808 else 0) + Flt.whl E.natAbs) :
    FloatKind.f64.format.order r (Flt.mk E 0) = some .eq ∧ Flt.clamp (Flt.wv r) (-1099511627776) 1099511627776 = E := by
  have hEl : E.natAbs < 1073741826 := by subst hE; split <;> omega
  by_cases h0 : E = 0
  · subst h0
    have hw : Flt.whl (0 : Int).natAbs = 0 := if_pos rfl
    rw [hw, Nat.add_zero] at hr
    rw [mk_zero]
    by_cases h : n < 0
    · rw [if_pos h] at hr
      subst hr
      exact ⟨by decide +kernel, by decide +kernel⟩
    · rw [if_neg h] at hr
      subst hr
      exact ⟨by decide +kernel, by decide +kernel⟩
  · have hrE : r = Flt.mk E 0 := by
      rw [hr, whl_mk E h0 (by omega)]
      congr 1
      have : n < 0 ↔ E < 0 := by subst hE; split at h0 <;> split <;> omega
      by_cases h : n < 0
      · rw [if_pos h, if_pos (this.1 h)]
      · rw [if_neg h, if_neg (fun h' => h (this.2 h'))]
    subst hrE
    obtain ⟨-, a2, a3, a4, a5, a6⟩ := mk_facts E 0 h0 (by omega) (by decide) (by decide)
    have hnn := fin_nan _ a3
    refine ⟨order_num' hnn, ?_⟩
    have hu := Flt.unit_pos
    have hfin : Flt.mk E 0 % 9223372036854775808 < 9218868437227405312 := by unfold Flt.expo at a3; omega
    have hk : Flt.key (Flt.mk E 0) = E * (Flt.unit : Int) := a6
    have hmg : Flt.mag (Flt.mk E 0) = E.natAbs * Flt.unit := a5
    have o1 := Flt.order_key (Flt.mk E 0) 4890909195324358656 a2 (by decide) hfin (by decide)
    have o2 := Flt.order_key (Flt.mk E 0) 14114281232179134464 a2 (by decide) hfin (by decide)
    have hT := Flt.toInt_key (Flt.mk E 0) a2 hfin
    have hup : (0 : Int) < (Flt.unit : Int) := by omega
    rw [Flt.key_b63, hk, Flt.cmp_lt (Int.mul_lt_mul_of_pos_right (by omega) hup)] at o1
    rw [Flt.key_n63, hk, ← Int.neg_mul, Flt.cmp_gt (Int.mul_lt_mul_of_pos_right (by omega) hup)] at o2
    rw [hmg, Nat.mul_div_cancel _ hu] at hT
    have hv : floatToIntVal .f64 (Flt.mk E 0) .i64 = some E := by
      have hE1 : (if 9223372036854775808 ≤ Flt.mk E 0 then -(E.natAbs : Int) else (E.natAbs : Int)) = E := by
        unfold Flt.neg at a4
        by_cases h : E < 0
        · rw [decide_eq_true h, decide_eq_true_eq] at a4
          rw [if_pos a4]; omega
        · rw [decide_eq_false h, decide_eq_false_iff_not] at a4
          rw [if_neg a4]; omega
      rw [hE1] at hT
      unfold floatToIntVal
      rw [show FloatKind.f64.decode (Flt.mk E 0) = double.read (Flt.mk E 0) from rfl, hT]
      dsimp only
      have e1 : IntKind.i64.min = -9223372036854775808 := by decide
      have e2 : IntKind.i64.max = 9223372036854775807 := by decide
      rw [e1, e2, if_pos (by omega)]
    rw [wv_mid hnn o1 o2 (by decide) hv]
    unfold Flt.clamp
    rw [if_pos (show E < 1099511627776 by omega), if_neg (show ¬ E < -1099511627776 by omega)]
end Go.Proofs.YtcgjnjchkachdaaDoor.F64
