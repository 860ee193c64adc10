/-
  lodgeref3.Fixed of what is in its range, walked. By an AI agent. No person has read it.
-/
import Derived.Test.YtboighnmgnjhdaaDoorQuaF
import Derived.Test.YtboighnmgnjhdaaDoorFltY
namespace Go.Proofs.YtboighnmgnjhdaaDoor
open Go.RowKit
open Ieee

/-- What is known of the odd part of a number in range. -/
theorem odd_facts (a : Nat) (h1 : 4472074429978902528 ≤ a) (h2 : a ≤ 4742290407621132288) : ∃ n z : Nat, z ≤ 52 ∧ n * 2 ^ z = 4503599627370496 + Flt.frac a ∧ n.log2 + z = 52 ∧ n ≠ 0 ∧ Flt.parts a = ((n : Int), (Flt.expo a : Int) - 1075 + (z : Int), true) := by
  have hfl := frac_lt a
  have hx : 993 ≤ Flt.expo a ∧ Flt.expo a ≤ 1053 := by unfold Flt.expo; omega
  have hs : Flt.sig a = Flt.frac a + 4503599627370496 := by unfold Flt.sig; rw [if_neg (by omega)]
  obtain ⟨c1, c2, c3⟩ := ctz_log (Flt.sig a) (by omega) (by omega)
  have hlog : (Flt.sig a).log2 = 52 := by
    apply Flt.log2_of
    · rw [hs]; omega
    · rw [hs]; omega
  have hod : Flt.odd a = Flt.sig a / 2 ^ Lib.ctz 64 (Flt.sig a) := rfl
  rw [← hod] at c1 c2 c3
  refine ⟨Flt.odd a, Lib.ctz 64 (Flt.sig a), by omega, ?_, by omega, by omega, ?_⟩
  · rw [Nat.mul_comm, ← c1, hs, Nat.add_comm]
  · unfold Flt.parts
    rw [if_neg (by omega), if_neg (by omega)]
    have hn : Flt.neg a = false := by unfold Flt.neg; rw [decide_eq_false_iff_not]; omega
    have hp : Flt.pe a = Flt.expo a - 1 := by unfold Flt.pe; rw [if_neg (by omega)]
    rw [hn, hp, if_neg (by decide)]
    congr 2
    omega
theorem down_facts (n d c : Nat) (hd : d = c + 1) (hc : c ≤ 21) (hn : n < 9007199254740992) : ∃ q lo h Q : Nat, (n : Int) / 2 ^ d = (q : Int) ∧ (q : Int) * 2 ^ d = (Q : Int) ∧ wrap64 (Q : Int) = (Q : Int) ∧ (2 : Int) ^ c = (h : Int) ∧ wrap64 (h : Int) = (h : Int) ∧
    (n : Int) - (Q : Int) = (lo : Int) ∧ wrap64 (lo : Int) = (lo : Int) ∧ IntKind.i64.wrap (lo : Int) = (lo : Int) ∧ Flt.half n (2 ^ d) = q + (if 2 * h < 2 * lo ∨ 2 * h = 2 * lo ∧ q % 2 = 1 then 1 else 0) := by
  have hhl : 2 ^ c ≤ 2097152 := Nat.le_trans (Nat.pow_le_pow_right (show 0 < 2 by decide) hc) (by decide)
  have pc := pow_cast c
  have pd := pow_cast d
  have hP : 2 ^ d = 2 * 2 ^ c := by rw [hd, Nat.pow_succ, Nat.mul_comm]
  obtain ⟨h, hh⟩ : ∃ h, 2 ^ c = h := ⟨_, rfl⟩
  obtain ⟨P, hPP⟩ : ∃ P, 2 ^ d = P := ⟨_, rfl⟩
  rw [hh] at hhl pc hP
  rw [hPP] at pd hP
  rw [pc, pd, hPP]
  clear pc pd hh hPP
  have hdm := Nat.div_add_mod n P
  unfold Flt.half
  obtain ⟨q, hq⟩ : ∃ q, n / P = q := ⟨_, rfl⟩
  obtain ⟨lo, hlo⟩ : ∃ lo, n % P = lo := ⟨_, rfl⟩
  obtain ⟨Q, hQ⟩ : ∃ Q, P * q = Q := ⟨_, rfl⟩
  rw [hq, hlo, hQ] at hdm
  rw [hq, hlo]
  refine ⟨q, lo, h, Q, ?_, ?_, wrap_small _ (by omega) (by omega), rfl, wrap_small _ (by omega) (by omega), by omega, wrap_small _ (by omega) (by omega), iwrap_small _ (by omega) (by omega), by rw [hP]⟩
  · rw [← hq]; exact (Int.natCast_ediv n P).symm
  · rw [← hQ, Int.natCast_mul, Int.mul_comm]
set_option maxRecDepth 100000 in
set_option maxHeartbeats 4000000 in
theorem rfixed_in (a : Nat) (h1 : 4472074429978902528 ≤ a) (h2 : a ≤ 4742290407621132288) (w : World) :
    Calls Tryd.prog 33 #[.float .f64 a] w fun e w' => e = .returned (.tuple #[.int .i64 (Qua.fx a).1, .int .i64 (Qua.fx a).2, .bool true]) ∧ w' = w := by
  have HF := hide (finite_c a (by omega))
  have hx : 993 ≤ Flt.expo a ∧ Flt.expo a ≤ 1053 := by unfold Flt.expo; omega
  rw [show decide (3 ≤ Flt.kindNo a) = true by unfold Flt.kindNo; rw [if_neg (by omega), if_neg (by omega), if_pos (by omega)]; rfl] at HF
  obtain ⟨n, z, hz, hM, hlog, hn0, hparts⟩ := odd_facts a h1 h2
  have HP := hide (refparts_c a (by omega))
  rw [hparts] at HP
  have ho := in_cases a h1 h2
  obtain ⟨c1, c2, o1, o2, hcs⟩ := ho
  have hol : (c1 == Ordering.lt) = false := by rcases hcs with ⟨rfl, -⟩ | ⟨rfl, -⟩ | ⟨rfl, -⟩ <;> rfl
  have hog : (c2 == Ordering.gt) = false := by rcases hcs with ⟨-, rfl⟩ | ⟨-, rfl⟩ | ⟨-, rfl⟩ <;> rfl
  clear hcs
  have hlo := Nat.log2_self_le hn0
  have hhi : n < 2 ^ (n.log2 + 1) := Nat.lt_log2_self
  obtain ⟨L, hL⟩ : ∃ L, n.log2 + 1 = L := ⟨_, rfl⟩
  have hL2 : n.log2 = L - 1 := by omega
  rw [hL] at hhi
  rw [hL2] at hlo
  have hLz : L + z = 53 := by omega
  have HN : Hid (∀ j, (j < L → 0 < n / 2 ^ j) ∧ (L ≤ j → n / 2 ^ j = 0)) := hide fun j => by
    constructor
    · intro hj
      exact Nat.div_pos (Nat.le_trans (Nat.pow_le_pow_right (by decide) (by omega)) hlo) (Nat.two_pow_pos j)
    · intro hj
      exact Nat.div_eq_of_lt (Nat.lt_of_lt_of_le hhi (Nat.pow_le_pow_right (by decide) hj))
  have hn53 : n < 9007199254740992 := Nat.lt_of_lt_of_le hhi (Nat.le_trans (Nat.pow_le_pow_right (show 0 < 2 by decide) (show L ≤ 53 by omega)) (by decide))
  obtain ⟨e, he⟩ : ∃ e : Int, Hid ((Flt.expo a : Int) - 1075 + (z : Int) = e) := ⟨_, hide rfl⟩
  rw [he.out] at HP
  obtain ⟨S, hS⟩ : ∃ S : Int, Hid (1053 - (Flt.expo a : Int) = S) := ⟨_, hide rfl⟩
  have heb : e = 1053 - S - 1075 + (z : Int) := by rw [← he.out]; have := hS.out; omega
  have hSb : 0 ≤ S ∧ S ≤ 60 := by have := hS.out; omega
  have hfx : Qua.fx a = if Flt.half (4503599627370496 + Flt.frac a) 4194304 = 2147483648 then ((1073741824 : Int), S - 1) else (((Flt.half (4503599627370496 + Flt.frac a) 4194304 : Nat) : Int), S) := by
    unfold Qua.fx
    have h : 1052 - (Flt.expo a : Int) = S - 1 := by have := hS.out; omega
    rw [h, hS.out]
  rw [← hM] at hfx
  have hb := half_in (Flt.frac a) (frac_lt a)
  rw [← hM] at hb
  clear hx h1 h2 hparts he hS hlo hlog hL hL2 hM
  by_cases h31 : L ≤ 31
  · obtain ⟨p, hp⟩ : ∃ p, p = 31 - L := ⟨_, rfl⟩
    have hK : Flt.half (n * 2 ^ z) 4194304 = n * 2 ^ p := by
      rw [show z = p + 22 by omega, Nat.pow_add, ← Nat.mul_assoc]
      exact half_exact (n * 2 ^ p) 4194304 (by decide)
    rw [hK] at hfx hb
    obtain ⟨K, hKK⟩ : ∃ K, n * 2 ^ p = K := ⟨_, rfl⟩
    rw [hKK] at hfx hb
    have hKl : K < 2147483648 := by
      rw [← hKK]
      have h := (Nat.mul_lt_mul_right (Nat.two_pow_pos p)).2 hhi
      rw [← Nat.pow_add, show L + p = 31 by omega] at h
      exact h
    rw [if_neg (by omega)] at hfx
    rw [hfx]
    have t1 : IntKind.i64.wrap (31 - (L : Int)) = (p : Int) := by rw [iwrap_small _ (by omega) (by omega)]; omega
    have t2 : IntKind.u64.wrap (p : Int) = (p : Int) := by rw [IntKind.wrap_u64]; omega
    have t3 : (n : Int) * 2 ^ p = (K : Int) := by rw [← hKK, pow_cast, Int.natCast_mul]
    have t4 : wrap64 (K : Int) = (K : Int) := wrap_small _ (by omega) (by omega)
    have t5 : IntKind.i64.wrap ((p : Int) - e) = S := by rw [iwrap_small _ (by omega) (by omega)]; omega
    have hL31 : (L : Int) ≤ 31 := by omega
    have hmin : min p 64 = p := by omega
    clear hfx hb hK hKK hKl heb hp hhi
    go_enter Tryd.func33, Tryd.ntmps33
    go_wp2_with fail
    refine (HF.out _).mono ?_
    rintro e w1 ⟨rfl, rfl⟩
    go_wp2_with fail
    refine (HP.out _).mono ?_
    rintro e' w1 ⟨rfl, rfl⟩
    go_wp2_with fail
    go_loopw [8, 9] (fun v x wr => ∃ j y : Nat, j ≤ L ∧ Hid (n / 2 ^ j = y) ∧ v = .int .i64 (j : Int) ∧ x = .int .i64 (y : Int) ∧ wr = w1) (fun v _ _ => L - (intOf v).toNat)
    case atStart => exact ⟨0, n, Nat.zero_le _, hide (by simp), rfl, rfl, by first | rfl | trivial⟩
    case round =>
      obtain ⟨j, y, hj, hy, rfl, rfl, rfl⟩ := hrel
      have hNj := HN.out j
      rw [hy.out] at hNj
      have hyl : y ≤ n := by rw [← hy.out]; exact Nat.div_le_self _ _
      have hd : (y : Int).tdiv 2 = ((y / 2 : Nat) : Int) := by rw [Int.tdiv_eq_ediv_of_nonneg (by omega)]; omega
      have hadd : IntKind.i64.wrap ((j : Int) + 1) = (j : Int) + 1 := iwrap_small _ (by omega) (by omega)
      by_cases hlt : j < L
      · have hy0 : (0 : Int) < (y : Int) := by have := hNj.1 hlt; omega
        clear hNj
        go_wp2_with fail
        go_roundw
        case rel =>
          refine ⟨j + 1, y / 2, by omega, hide ?_, by go_num, by first | rfl | exact congrArg (Value.int .i64) (by rw [wrap_small _ (by omega) (by omega)]; omega), by first | rfl | trivial⟩
          rw [Nat.pow_succ, ← Nat.div_div_eq_div_mul, hy.out]
        case measure => simp [intOf]; omega
      · obtain rfl : j = L := by omega
        obtain rfl : y = 0 := hNj.2 (Nat.le_refl _)
        clear hNj
        go_wp2_with fail
        go_ret3
        refine ⟨?_, by first | rfl | trivial⟩
        show Ending.returned (.tuple #[.int .i64 (wrap64 (K : Int)), .int .i64 S, .bool true]) = _
        rw [t4]
  · obtain ⟨c, hc⟩ : ∃ c, L = c + 32 := ⟨L - 32, by omega⟩
    obtain ⟨d, hd⟩ : ∃ d, d = c + 1 := ⟨_, rfl⟩
    have hLd : L = d + 31 := by omega
    have hdz : d + z = 22 := by omega
    have hK : Flt.half (n * 2 ^ z) 4194304 = Flt.half n (2 ^ d) := by
      rw [show (4194304 : Nat) = 2 ^ d * 2 ^ z by rw [← Nat.pow_add, hdz]]
      exact half_scale n (2 ^ d) (2 ^ z) (Nat.two_pow_pos z)
    obtain ⟨q, lo, h, Q, f1, f2, f3, f4, f5, f6, f7, f8, f9⟩ := down_facts n d c hd (by omega) hn53
    have f3' : IntKind.i64.wrap (Q : Int) = (Q : Int) := (IntWalk.i64_left _).trans f3
    have f5' : IntKind.i64.wrap (h : Int) = (h : Int) := (IntWalk.i64_left _).trans f5
    have s1 := shift_shr .i64 .u64 (n : Int) (d : Int) (by omega) (show (d : Int) ≤ 64 by omega)
    rw [Int.toNat_natCast, f1] at s1
    have s2 := shift_shl .i64 .u64 (q : Int) (d : Int) (by omega) (show (d : Int) ≤ 64 by omega)
    rw [Int.toNat_natCast, f2, f3'] at s2
    have s3 := shift_shl .i64 .u64 1 (c : Int) (by omega) (show (c : Int) ≤ 64 by omega)
    rw [Int.toNat_natCast, Int.one_mul, f4, f5'] at s3
    clear f1 f2 f3 f4 f5 f3' f5'
    have HFs := hide (And.intro f6 (And.intro f7 f8))
    clear f6 f7 f8
    rw [hK, f9] at hfx hb
    clear hK f9 hhi
    have g1 : IntKind.i64.wrap ((L : Int) - 31) = (d : Int) := by rw [iwrap_small _ (by omega) (by omega)]; omega
    have g2 : IntKind.u64.wrap (d : Int) = (d : Int) := by rw [IntKind.wrap_u64]; omega
    have g3 : IntKind.u64.wrap ((d : Int) - 1) = (c : Int) := by rw [IntKind.wrap_u64]; omega
    have g4 : IntKind.i64.wrap (d : Int) = (d : Int) := iwrap_small _ (by omega) (by omega)
    have g5 : IntKind.i64.wrap (e + (d : Int)) = -S := by rw [iwrap_small _ (by omega) (by omega)]; omega
    have g6 : IntKind.i64.wrap S = S := iwrap_small _ (by omega) (by omega)
    have g7 : IntKind.i64.wrap (S - 1) = S - 1 := iwrap_small _ (by omega) (by omega)
    have g9 : (q : Int).tmod 2 = ((q % 2 : Nat) : Int) := by rw [Int.tmod_eq_emod_of_nonneg (by omega)]; omega
    have hL31 : ¬ (L : Int) ≤ 31 := by omega
    have HL : Hid (L ≤ 53) := hide (by omega)
    clear hdz heb hd hc hLz hLd
    have hr : (h < lo ∧ Qua.fx a = if q + 1 = 2147483648 then ((1073741824 : Int), S - 1) else (((q + 1 : Nat) : Int), S)) ∨ (lo = h ∧ q % 2 = 1 ∧ Qua.fx a = if q + 1 = 2147483648 then ((1073741824 : Int), S - 1) else (((q + 1 : Nat) : Int), S)) ∨
        (lo = h ∧ q % 2 = 0 ∧ Qua.fx a = if q = 2147483648 then ((1073741824 : Int), S - 1) else ((q : Int), S)) ∨ (lo < h ∧ Qua.fx a = if q = 2147483648 then ((1073741824 : Int), S - 1) else ((q : Int), S)) := by
      rcases (show (h < lo) ∨ (lo = h ∧ q % 2 = 1) ∨ (lo = h ∧ q % 2 = 0) ∨ (lo < h) by omega) with r | ⟨r, rq⟩ | ⟨r, rq⟩ | r
      · rw [show (if 2 * h < 2 * lo ∨ 2 * h = 2 * lo ∧ q % 2 = 1 then 1 else 0 : Nat) = 1 from if_pos (by omega)] at hfx
        exact .inl ⟨r, hfx⟩
      · rw [show (if 2 * h < 2 * lo ∨ 2 * h = 2 * lo ∧ q % 2 = 1 then 1 else 0 : Nat) = 1 from if_pos (by omega)] at hfx
        exact .inr (.inl ⟨r, rq, hfx⟩)
      · rw [show (if 2 * h < 2 * lo ∨ 2 * h = 2 * lo ∧ q % 2 = 1 then 1 else 0 : Nat) = 0 from if_neg (by omega), Nat.add_zero] at hfx
        exact .inr (.inr (.inl ⟨r, rq, hfx⟩))
      · rw [show (if 2 * h < 2 * lo ∨ 2 * h = 2 * lo ∧ q % 2 = 1 then 1 else 0 : Nat) = 0 from if_neg (by omega), Nat.add_zero] at hfx
        exact .inr (.inr (.inr ⟨r, hfx⟩))
    have hql : q < 4611686018427387904 := by
      have := hb.2
      split at this <;> omega
    clear hfx hb
    obtain ⟨q1, hq1⟩ : ∃ q1, q + 1 = q1 := ⟨_, rfl⟩
    rw [hq1] at hr
    have g8 : IntKind.i64.wrap ((q : Int) + 1) = (q1 : Int) := by rw [iwrap_small _ (by omega) (by omega)]; omega
    clear hq1 hql
    go_enter Tryd.func33, Tryd.ntmps33
    go_wp2_with fail
    refine (HF.out _).mono ?_
    rintro e w1 ⟨rfl, rfl⟩
    go_wp2_with fail
    refine (HP.out _).mono ?_
    rintro e' w1 ⟨rfl, rfl⟩
    go_wp2_with fail
    go_loopw [8, 9] (fun v x wr => ∃ j y : Nat, j ≤ L ∧ Hid (n / 2 ^ j = y) ∧ v = .int .i64 (j : Int) ∧ x = .int .i64 (y : Int) ∧ wr = w1) (fun v _ _ => L - (intOf v).toNat)
    case atStart => exact ⟨0, n, Nat.zero_le _, hide (by simp), rfl, rfl, by first | rfl | trivial⟩
    case round =>
      obtain ⟨j, y, hj, hy, rfl, rfl, rfl⟩ := hrel
      have hNj := HN.out j
      rw [hy.out] at hNj
      have hyl : y ≤ n := by rw [← hy.out]; exact Nat.div_le_self _ _
      have hd : (y : Int).tdiv 2 = ((y / 2 : Nat) : Int) := by rw [Int.tdiv_eq_ediv_of_nonneg (by omega)]; omega
      have hadd : IntKind.i64.wrap ((j : Int) + 1) = (j : Int) + 1 := by
        have := HL.out
        exact iwrap_small _ (by omega) (by omega)
      by_cases hlt : j < L
      · have hy0 : (0 : Int) < (y : Int) := by have := hNj.1 hlt; omega
        clear hNj
        go_wp2_with fail
        go_roundw
        case rel =>
          refine ⟨j + 1, y / 2, by omega, hide ?_, by go_num, by first | rfl | exact congrArg (Value.int .i64) (by rw [wrap_small _ (by omega) (by omega)]; omega), by first | rfl | trivial⟩
          rw [Nat.pow_succ, ← Nat.div_div_eq_div_mul, hy.out]
        case measure => simp [intOf]; omega
      · obtain rfl : j = L := by omega
        obtain rfl : y = 0 := hNj.2 (Nat.le_refl _)
        clear hNj
        rcases hr with ⟨r, hfx⟩ | ⟨rfl, rq, hfx⟩ | ⟨rfl, rq, hfx⟩ | ⟨r, hfx⟩
        case' inl =>
          have r' : (h : Int) < (lo : Int) := by omega
          clear g9
        case' inr.inl =>
          rw [rq] at g9
        case' inr.inr.inl =>
          rw [rq] at g9
        case' inr.inr.inr =>
          have r' : ¬ (h : Int) < (lo : Int) := by omega
          have r2' : ((lo : Int) == (h : Int)) = false := by simp; omega
          clear g9
        all_goals split at hfx
        all_goals
          rename_i hK
          first
            | have hK' : ((q1 : Int) == 2147483648) = true := by simp; omega
            | have hK' : ((q1 : Int) == 2147483648) = false := by simp; omega
            | have hK' : ((q : Int) == 2147483648) = true := by simp; omega
            | have hK' : ((q : Int) == 2147483648) = false := by simp; omega
        all_goals
          have HX := hide hfx
          obtain ⟨f6, f7, f8⟩ := HFs.out
          clear hfx HFs hK
          go_wp2_with fail
          go_ret3
          exact ⟨by rw [HX.out]; rfl, by first | rfl | trivial⟩
end Go.Proofs.YtboighnmgnjhdaaDoor
