/-
  Weights never rise; a row that is shifted weighs the same; weights of a row are 255 in all, but for rounding. By an AI agent. No person has read it.
-/
import Derived.Test.YtcgjnjchkachdaaDoorSftO
namespace Go.Proofs.YtcgjnjchkachdaaDoor
open Go.RowKit
open Ieee F64

theorem sf_wv_whole (E : Int) (h0 : E ≠ 0) (hEl : E.natAbs < 1099511627776) : Flt.wv (Flt.mk E 0) = E := by
  obtain ⟨-, a2, a3, a4, a5, a6⟩ := mk_facts E 0 h0 (by omega) (by decide) (by decide)
  have hnn := fin_nan _ a3
  have hu := Flt.unit_pos
  have hfin : Flt.mk E 0 % 9223372036854775808 < 9218868437227405312 := by unfold Flt.expo at a3; omega
  have hk : Flt.key (Flt.mk E 0) = E * (Flt.unit : Int) := a6
  have hmg : Flt.mag (Flt.mk E 0) = E.natAbs * Flt.unit := a5
  have o1 := Flt.order_key (Flt.mk E 0) 4890909195324358656 a2 (by decide) hfin (by decide)
  have o2 := Flt.order_key (Flt.mk E 0) 14114281232179134464 a2 (by decide) hfin (by decide)
  have hT := Flt.toInt_key (Flt.mk E 0) a2 hfin
  have hup : (0 : Int) < (Flt.unit : Int) := by omega
  rw [Flt.key_b63, hk, Flt.cmp_lt (Int.mul_lt_mul_of_pos_right (by omega) hup)] at o1
  rw [Flt.key_n63, hk, ← Int.neg_mul, Flt.cmp_gt (Int.mul_lt_mul_of_pos_right (by omega) hup)] at o2
  rw [hmg, Nat.mul_div_cancel _ hu] at hT
  have hv : floatToIntVal .f64 (Flt.mk E 0) .i64 = some E := by
    have hE1 : (if 9223372036854775808 ≤ Flt.mk E 0 then -(E.natAbs : Int) else (E.natAbs : Int)) = E := by
      unfold Flt.neg at a4
      by_cases h : E < 0
      · rw [decide_eq_true h, decide_eq_true_eq] at a4
        rw [if_pos a4]; omega
      · rw [decide_eq_false h, decide_eq_false_iff_not] at a4
        rw [if_neg a4]; omega
    rw [hE1] at hT
    unfold floatToIntVal
    rw [show FloatKind.f64.decode (Flt.mk E 0) = double.read (Flt.mk E 0) from rfl, hT]
    dsimp only
    have e1 : IntKind.i64.min = -9223372036854775808 := by decide
    have e2 : IntKind.i64.max = 9223372036854775807 := by decide
    rw [e1, e2, if_pos (by omega)]
  exact wv_mid hnn o1 o2 (by decide) hv
/-- A number between nothing and one, read. -/
theorem sf_less_one (b : Nat) (hb : b < 18446744073709551616) (h8 : b % 9223372036854775808 < 9218868437227405312) (o1 : FloatKind.f64.format.order b 0 = some .gt) (o2 : FloatKind.f64.format.order b 4607182418800017408 = some .lt) :
    ∃ (n K : Nat), double.read b = .number false n (-(K : Int)) ∧ 1 ≤ n ∧ n < 2 ^ K := by
  have k1 := Flt.order_key b 0 hb (by decide) h8 (by decide)
  have k2 := Flt.order_key b 4607182418800017408 hb (by decide) h8 (by decide)
  have hone : Flt.key 4607182418800017408 = (Flt.unit : Int) := by
    have h := (whole_facts 1 (by decide)).2.2.2
    rw [show Flt.mk 1 0 = 4607182418800017408 by decide +kernel, Int.one_mul] at h
    exact h
  rw [show double.order b 0 = some .gt from o1, key_zero.1] at k1
  rw [show double.order b 4607182418800017408 = some .lt from o2, hone] at k2
  have k1 := Int.compare_eq_gt.1 (Option.some.inj k1).symm
  have k2 := Int.compare_eq_lt.1 (Option.some.inj k2).symm
  obtain ⟨n, j, e, hj, hm, -⟩ := Flt.read_num b hb h8
  have hs : ¬ 9223372036854775808 ≤ b := by
    intro h
    unfold Flt.key at k1
    rw [if_pos h] at k1
    omega
  have hk : Flt.key b = (Flt.mag b : Int) := by unfold Flt.key; rw [if_neg hs]
  rw [decide_eq_false hs] at e
  rw [hk] at k1 k2
  have m1 : 0 < Flt.mag b := by omega
  have m2 : Flt.mag b < Flt.unit := by omega
  rw [← hm] at m1 m2
  have hn : 1 ≤ n := Nat.pos_of_mul_pos_right m1
  have hneg : j < 0 := by
    rcases Int.lt_or_le j 0 with h | h
    · exact h
    · exfalso
      have h3 : Flt.unit ≤ n * 2 ^ (j + 1074).toNat := by
        have h4 : Flt.unit ≤ 2 ^ (j + 1074).toNat := by
          have h5 := Flt.pw_add 1074 j.toNat
          rw [show (j + 1074).toNat = 1074 + j.toNat by omega]
          show Flt.pw 1074 ≤ Flt.pw (1074 + j.toNat)
          rw [h5]
          exact Nat.le_mul_of_pos_right _ (Nat.two_pow_pos _)
        exact Nat.le_trans h4 (Nat.le_mul_of_pos_left _ hn)
      omega
  refine ⟨n, (-j).toNat, ?_, hn, ?_⟩
  · rw [e]
    congr 1
    omega
  · have hu : Flt.unit = 2 ^ (-j).toNat * 2 ^ (j + 1074).toNat := by
      unfold Flt.unit Flt.pw
      rw [← Nat.pow_add]
      congr 1
      omega
    rw [hu] at m2
    exact Nat.lt_of_mul_lt_mul_right m2
/-- A product by less than one, rounded, is not above. -/
theorem Sf.step_down (b : Nat) (hb : b < 18446744073709551616) (h8 : b % 9223372036854775808 < 9218868437227405312) (o1 : FloatKind.f64.format.order b 0 = some .gt) (o2 : FloatKind.f64.format.order b 4607182418800017408 = some .lt) (v : Int) (h0 : 0 ≤ v) (h1 : v ≤ 1048576) : Sf.step b v ≤ v := by
  obtain ⟨n, K, e, hn, hK⟩ := sf_less_one b hb h8 o1 o2
  by_cases hv : v = 0
  · subst hv
    have hm : double.mul (Flt.mk 0 0) b = some 0 := by
      unfold Format.mul
      rw [e, mk_zero, show double.read 0 = .number false 0 (-1074) by decide +kernel]
      show some (Ieee.double.nearest (false ^^ false) (0 * n) _) = _
      rw [Nat.zero_mul, Flt.nearest_zero]
      rfl
    unfold Sf.step
    rw [hm]
    decide +kernel
  · obtain ⟨a1, a2, a3, -⟩ := whole_facts v (by omega)
    have hx7 : Flt.expo (Flt.mk v 0) ≠ 2047 := by unfold Flt.expo; omega
    have hsg : ¬ 9223372036854775808 ≤ Flt.mk v 0 := by
      have h := (mk_facts v 0 hv (by omega) (by decide) (by decide)).2.2.2.1
      rw [decide_eq_false (by omega)] at h
      unfold Flt.neg at h
      exact of_decide_eq_false h
    obtain ⟨m, i, e1, hi, hm, -⟩ := Flt.read_num (Flt.mk v 0) a1 a2
    rw [decide_eq_false hsg] at e1
    have hup := Flt.unit_pos
    have hmp : 0 < Flt.mag (Flt.mk v 0) := by rw [a3]; exact Nat.mul_pos (by omega) hup
    have hm1 : m ≠ 0 := by
      intro h
      rw [h, Nat.zero_mul] at hm
      omega
    have hmz : Flt.mk v 0 % 9223372036854775808 ≠ 0 := by
      intro h
      have h2 : Flt.mag (Flt.mk v 0) = 0 := by
        unfold Flt.mag
        rw [if_pos (by omega), h]
      omega
    have hself := near_self (Flt.mk v 0) a1 hx7 hmz
    rw [← hm, near_scale m _ _ hm1, show (-1074 : Int) + ((i + 1074).toNat : Int) = i by omega] at hself
    have hmul : double.mul (Flt.mk v 0) b = some (Flt.near (m * n) (i + -(K : Int))) := by
      unfold Format.mul
      rw [e, e1]
      show some (Ieee.double.nearest (false ^^ false) (m * n) (i + -(K : Int))) = _
      have h3 := near_sign (false ^^ false) (m * n) (i + -(K : Int)) (Nat.mul_ne_zero hm1 (by omega))
      rw [h3, if_neg (by decide), Nat.zero_add]
    have hmono := near_mono (m * n) (m * 2 ^ K) (i + -(K : Int)) (Nat.mul_ne_zero hm1 (by omega)) (Nat.mul_le_mul_left m (Nat.le_of_lt hK))
    rw [near_scale m K _ hm1, show i + -(K : Int) + (K : Int) = i by omega, hself] at hmono
    unfold Sf.step
    rw [hmul, Option.getD_some]
    obtain ⟨r, hr⟩ : ∃ r, Flt.near (m * n) (i + -(K : Int)) = r := ⟨_, rfl⟩
    rw [hr] at hmono ⊢
    have hrl : r < 9218868437227405312 := by omega
    have hmag : Flt.mag r ≤ v.natAbs * Flt.unit := by
      rw [← a3]
      rcases Nat.lt_or_ge (r % 9223372036854775808) (Flt.mk v 0 % 9223372036854775808) with h | h
      · exact Nat.le_of_lt (mag_lt _ _ h)
      · have h2 : r = Flt.mk v 0 := by omega
        rw [h2]
        exact Nat.le_refl _
    have hrx : Flt.expo r ≠ 2047 := by unfold Flt.expo; omega
    obtain ⟨A, P, hP, hA, hrd⟩ := round_read r (by omega) hrx
    have hrn : Flt.neg r = false := by unfold Flt.neg; rw [decide_eq_false_iff_not]; omega
    rw [hrn, if_neg (by decide), Nat.zero_add] at hrd
    have hAv : A ≤ v.natAbs * P := by
      have h2 := Nat.mul_le_mul_right P hmag
      rw [← hA, Nat.mul_assoc, Nat.mul_comm Flt.unit P, ← Nat.mul_assoc] at h2
      exact Nat.le_of_mul_le_mul_right h2 hup
    have hhb := half_bound A P v.natAbs hP hAv
    rw [hrd]
    obtain ⟨N, hN⟩ : ∃ N, Flt.half A P = N := ⟨_, rfl⟩
    rw [hN] at hhb ⊢
    by_cases hN0 : N = 0
    · subst hN0
      rw [show Flt.whl 0 = 0 from if_pos rfl, show F64.Flt.clamp (Flt.wv 0) 0 1048576 = 0 by decide +kernel]
      exact h0
    · have h3 := whl_mk (N : Int) (by omega) (by omega)
      rw [if_neg (by omega), Nat.zero_add, Int.natAbs_natCast] at h3
      rw [← h3, sf_wv_whole (N : Int) (by omega) (by omega)]
      unfold F64.Flt.clamp
      split <;> split <;> omega
theorem Sf.tab_down (b : Nat) (hb : b < 18446744073709551616) (h8 : b % 9223372036854775808 < 9218868437227405312) (o1 : FloatKind.f64.format.order b 0 = some .gt) (o2 : FloatKind.f64.format.order b 4607182418800017408 = some .lt) (i : Nat) : Sf.tab b (i + 1) ≤ Sf.tab b i :=
  Sf.step_down b hb h8 o1 o2 _ (Sf.tab_le b i).1 (Sf.tab_le b i).2
theorem Pl.top_shift (f g : Nat → Int) (c : Int) (n : Nat) (h1 : 1 ≤ n) (h : ∀ j, j < n → g j = f j + c) : ∀ m, m ≤ n → Pl.top g m = Pl.top f m + c := by
  intro m
  induction m with
  | zero => exact fun _ => h 0 (by omega)
  | succ m ih =>
    intro hm
    show max (Pl.top g m) (g m) = max (Pl.top f m) (f m) + c
    rw [ih (by omega), h m (by omega)]
    omega
theorem Sf.by_shift {p q : List Int} (c : Int) (n : Nat) (h1 : 1 ≤ n) (h : ∀ j, j < n → q.getD j 0 = p.getD j 0 + c) (j : Nat) (hj : j < n) : Sf.by_ q n j = Sf.by_ p n j := by
  unfold Sf.by_
  rw [Pl.top_shift (fun j => p.getD j 0) (fun j => q.getD j 0) c n h1 h n (Nat.le_refl n)]
  have := h j hj
  congr 1
  omega
theorem Sf.all_shift {p q : List Int} (ts : List Int) (c : Int) (n : Nat) (h1 : 1 ≤ n) (h : ∀ j, j < n → q.getD j 0 = p.getD j 0 + c) : Sf.all q ts n n = Sf.all p ts n n := by
  unfold Sf.all
  exact Pl.add_same _ _ n (fun j hj => by rw [Sf.by_shift c n h1 h j hj])
theorem Pl.add_term (f : Nat → Int) (h : ∀ i, 0 ≤ f i) (k j : Nat) (hj : j < k) : f j ≤ Pl.add f k := by
  induction k with
  | zero => omega
  | succ k ih =>
    show f j ≤ Pl.add f k + f k
    by_cases e : j = k
    · subst e
      have := Pl.add_pos f j (fun i _ => h i)
      omega
    · have := ih (by omega)
      have := h k
      omega
/-- Rounded parts of a whole, so far. -/
theorem Sf.sums (W : Nat → Int) (s : Int) (hs : 0 < s) (k : Nat) : s * Pl.add (fun j => Sf.of s (W j) + 128) k ≤ 255 * Pl.add W k + k * s ∧ 255 * Pl.add W k - k * s ≤ s * Pl.add (fun j => Sf.of s (W j) + 128) k := by
  induction k with
  | zero => simp [Pl.add]
  | succ k ih =>
    have e : Sf.of s (W k) + 128 = (255 * W k + s / 2) / s := by
      unfold Sf.of
      rw [if_neg (by omega)]
      omega
    have q1 : s * ((255 * W k + s / 2) / s) ≤ 255 * W k + s / 2 := Int.mul_ediv_self_le (by omega)
    have q2 : 255 * W k + s / 2 < s * ((255 * W k + s / 2) / s) + s := Int.lt_mul_ediv_self_add hs
    show s * (Pl.add (fun j => Sf.of s (W j) + 128) k + (Sf.of s (W k) + 128)) ≤ 255 * (Pl.add W k + W k) + ((k + 1 : Nat) : Int) * s ∧ 255 * (Pl.add W k + W k) - ((k + 1 : Nat) : Int) * s ≤ s * (Pl.add (fun j => Sf.of s (W j) + 128) k + (Sf.of s (W k) + 128))
    rw [e, Int.mul_add, Int.natCast_add, Int.add_mul]
    obtain ⟨i1, i2⟩ := ih
    generalize s * ((255 * W k + s / 2) / s) = X at *
    generalize s * Pl.add (fun j => Sf.of s (W j) + 128) k = Y at *
    generalize (k : Int) * s = Z at *
    generalize Pl.add W k = V at *
    constructor <;> omega
/-- Rows by a table that begins with its greatest weight. -/
theorem Sf.shift_facts (p ts : List Int) (n : Nat) (h1 : 1 ≤ n) (ht : ∀ j, 0 ≤ ts.getD j 0 ∧ ts.getD j 0 ≤ 1048576) (ht0 : ts.getD 0 0 = 1048576) :
    ∃ k, Sf.best (fun j => p.getD j 0) n = k ∧ k < n ∧ (∀ i, i < n → p.getD i 0 ≤ p.getD k 0) ∧ (∀ i, i < k → p.getD i 0 < p.getD k 0) ∧
    (∀ i, i < n → Sf.of (Sf.all p ts n n) (Sf.wt ts (Sf.by_ p n i)) ≤ Sf.of (Sf.all p ts n n) (Sf.wt ts (Sf.by_ p n k))) ∧
    (∀ i, i < n → -128 ≤ Sf.of (Sf.all p ts n n) (Sf.wt ts (Sf.by_ p n i)) ∧ Sf.of (Sf.all p ts n n) (Sf.wt ts (Sf.by_ p n i)) ≤ 127) ∧
    255 - (n : Int) ≤ Pl.add (fun i => Sf.of (Sf.all p ts n n) (Sf.wt ts (Sf.by_ p n i)) + 128) n ∧ Pl.add (fun i => Sf.of (Sf.all p ts n n) (Sf.wt ts (Sf.by_ p n i)) + 128) n ≤ 255 + (n : Int) := by
  obtain ⟨b1, b2, -⟩ := Sf.best_is (fun j => p.getD j 0) n
  have b3 := Sf.best_lt (fun j => p.getD j 0) n h1
  obtain ⟨k, hk⟩ : ∃ k, Sf.best (fun j => p.getD j 0) n = k := ⟨_, rfl⟩
  have htop := Sf.top_best (fun j => p.getD j 0) n h1
  rw [hk] at b1 b2 b3 htop
  have hw0 : ∀ j, 0 ≤ Sf.wt ts j ∧ Sf.wt ts j ≤ 1048576 := fun j => by
    unfold Sf.wt
    have := ht j
    omega
  have hbk : Sf.by_ p n k = 0 := by
    unfold Sf.by_
    rw [htop]
    simp
  have hwk : Sf.wt ts 0 = 1048576 := by unfold Sf.wt; rw [ht0]; decide
  have hone := Pl.add_term (fun j => Sf.wt ts (Sf.by_ p n j)) (fun j => (hw0 _).1) n
  have hs : 1048576 ≤ Sf.all p ts n n := by
    have := hone k b3
    show 1048576 ≤ Pl.add (fun j => Sf.wt ts (Sf.by_ p n j)) n
    rw [show Sf.wt ts (Sf.by_ p n k) = 1048576 by rw [hbk, hwk]] at this
    exact this
  have hle : ∀ i, i < n → Sf.wt ts (Sf.by_ p n i) ≤ Sf.all p ts n n := hone
  have hsum := Sf.sums (fun j => Sf.wt ts (Sf.by_ p n j)) (Sf.all p ts n n) (by omega) n
  rw [show Pl.add (fun j => Sf.wt ts (Sf.by_ p n j)) n = Sf.all p ts n n from rfl] at hsum
  obtain ⟨s, hS⟩ : ∃ s, Sf.all p ts n n = s := ⟨_, rfl⟩
  rw [hS] at hsum hle hs ⊢
  have hmon : ∀ a b : Int, a ≤ b → Sf.of s a ≤ Sf.of s b := fun a b h => by
    unfold Sf.of
    rw [if_neg (by omega), if_neg (by omega)]
    have := Int.ediv_le_ediv (a := 255 * a + s / 2) (b := 255 * b + s / 2) (c := s) (by omega) (by omega)
    omega
  refine ⟨k, hk, b3, b1, b2, fun i hi => ?_, fun i hi => ?_, ?_, ?_⟩
  · rw [hbk, hwk]
    exact hmon _ _ (hw0 _).2
  · have h3 := hmon 0 _ (hw0 (Sf.by_ p n i)).1
    have h4 := hmon _ s (hle i hi)
    have e0 : Sf.of s 0 = -128 := by
      unfold Sf.of
      rw [if_neg (by omega), Int.mul_zero, Int.zero_add, Int.ediv_eq_zero_of_lt (by omega) (by omega)]
      rfl
    have e1 : Sf.of s s = 127 := by
      unfold Sf.of
      rw [if_neg (by omega), Int.add_comm, Int.add_mul_ediv_right _ _ (by omega), Int.ediv_eq_zero_of_lt (by omega) (by omega)]
      rfl
    omega
  · have h3 : s * (255 - (n : Int)) ≤ s * Pl.add (fun j => Sf.of s (Sf.wt ts (Sf.by_ p n j)) + 128) n := by
      rw [Int.mul_sub, Int.mul_comm s 255, Int.mul_comm s n]
      exact hsum.2
    exact Int.le_of_mul_le_mul_left h3 (by omega)
  · have h3 : s * Pl.add (fun j => Sf.of s (Sf.wt ts (Sf.by_ p n j)) + 128) n ≤ s * (255 + (n : Int)) := by
      rw [Int.mul_add, Int.mul_comm s 255, Int.mul_comm s n]
      exact hsum.1
    exact Int.le_of_mul_le_mul_left h3 (by omega)
end Go.Proofs.YtcgjnjchkachdaaDoor
