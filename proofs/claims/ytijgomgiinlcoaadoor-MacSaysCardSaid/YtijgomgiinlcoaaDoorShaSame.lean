/-
  mac.Same and mac.Differ, walked. By an AI agent. No person has read it.
-/
import Derived.Test.YtijgomgiinlcoaaDoorShaAny
namespace Go.Proofs.YtijgomgiinlcoaaDoor
open Go.RowKit

theorem xor_zero_iff (a b : Nat) : a ^^^ b = 0 ↔ a = b := by
  constructor
  · intro h
    have h2 : (a ^^^ b) ^^^ b = 0 ^^^ b := by rw [h]
    rwa [Nat.xor_assoc, Nat.xor_self, Nat.xor_zero, Nat.zero_xor] at h2
  · rintro rfl; exact Nat.xor_self _
/-- How many of the first ones differ. -/
def cnt (a b : List Nat) : Nat → Nat
  | 0 => 0
  | i + 1 => cnt a b i + (if a.getD i 0 = b.getD i 0 then 0 else 1)
theorem cnt_comm (a b : List Nat) (i : Nat) : cnt a b i = cnt b a i := by
  induction i with
  | zero => rfl
  | succ i ih =>
    rw [cnt, cnt, ih]
    by_cases h : a.getD i 0 = b.getD i 0
    · rw [if_pos h, if_pos h.symm]
    · rw [if_neg h, if_neg (fun e => h e.symm)]
theorem cnt_le (a b : List Nat) (i : Nat) : cnt a b i ≤ i := by
  induction i with
  | zero => exact Nat.le_refl _
  | succ i ih => rw [cnt]; split <;> omega
theorem cnt_zero (a b : List Nat) (i : Nat) : cnt a b i = 0 ↔ ∀ j, j < i → a.getD j 0 = b.getD j 0 := by
  induction i with
  | zero => simp [cnt]
  | succ i ih =>
    rw [cnt]
    constructor
    · intro h j hj
      have h1 : cnt a b i = 0 := by omega
      rcases Nat.lt_or_ge j i with h2 | h2
      · exact ih.1 h1 j h2
      · obtain rfl : j = i := by omega
        by_cases h3 : a.getD j 0 = b.getD j 0
        · exact h3
        · rw [if_neg h3] at h; omega
    · intro h
      rw [ih.2 (fun j hj => h j (by omega)), if_pos (h i (by omega))]
theorem same_iff (a b : List Nat) (h : a.length = b.length) : a = b ↔ ∀ j, j < a.length → a.getD j 0 = b.getD j 0 := by
  constructor
  · rintro rfl j _; rfl
  · intro hj
    apply List.ext_getElem h
    intro i h1 h2
    have := hj i h1
    rw [List.getD_eq_getElem?_getD, List.getD_eq_getElem?_getD, List.getElem?_eq_getElem h1, List.getElem?_eq_getElem h2] at this
    exact this
/-- A byte of what is read, under a name of its own. -/
theorem rb_byte {w : World} {A : Option Addr} {bs : List Nat} (h : Rb w A bs) (i : Nat) (hi : i < bs.length) : ∃ ad x, A = some ad ∧ Hid (bs.getD i 0 = x) ∧ x < 256 ∧ w.cell? (ad.add i) = some (.int .u8 (x : Int)) := by
  obtain ⟨ad, e, _, h2⟩ := h.2 (by rintro rfl; simp at hi)
  refine ⟨ad, _, e, hide rfl, Sha.getD_lt _ h.1 (by decide) i, h2 i _ ?_⟩
  rw [List.getD_eq_getElem?_getD, List.getElem?_eq_getElem hi]
  rfl

set_option maxRecDepth 100000 in
set_option maxHeartbeats 4000000 in
theorem same_c (a b : List Nat) (A B : Option Addr) (ca cb : Nat) (w : World) (ha : Rb w A a) (hb : Rb w B b) (hl : a.length ≤ 1000000) (hl2 : b.length ≤ 1000000) :
    Calls Tryd.prog 34 #[.slice A a.length ca, .slice B b.length cb] w fun e w' => e = .returned (.bool (decide (a = b))) ∧ Below w.heap.size w w' := by
  obtain ⟨n, hn⟩ : ∃ n, Hid (a.length = n) := ⟨_, hide rfl⟩
  obtain ⟨m, hm⟩ : ∃ m, Hid (b.length = m) := ⟨_, hide rfl⟩
  rw [hn.out] at hl
  rw [hm.out] at hl2
  rw [hn.out, hm.out]
  have HA := hide ha
  have HB := hide hb
  clear ha hb
  obtain ⟨r, hr⟩ : ∃ r, Hid (decide (a = b) = r) := ⟨_, hide rfl⟩
  rw [hr.out]
  by_cases hnm : n = m
  · subst hnm
    go_enter Tryd.func34, Tryd.ntmps34
    go_wp2_with fail
    go_loopw [5, 14] (fun v k wr => ∃ i acc : Nat, i ≤ n ∧ acc < 256 ∧ k = .int .i64 i ∧ v = .int .u8 (acc : Int) ∧ Hid (acc = 0 ↔ ∀ j, j < i → a.getD j 0 = b.getD j 0) ∧ ∃ q, wr = w.drewN q) (fun _ k _ => n - (intOf k).toNat)
    case atStart => exact ⟨0, 0, by omega, by decide, rfl, rfl, hide (by simp), 0, rfl⟩
    case round =>
      obtain ⟨i, acc, hi, hacc, rfl, rfl, hI, q, rfl⟩ := hrel
      by_cases hlt : i < n
      · obtain ⟨ad, x, rfl, ex, lx, cx⟩ := rb_byte HA.out i (by rw [hn.out]; exact hlt)
        obtain ⟨bd, y, rfl, ey, ly, cy⟩ := rb_byte HB.out i (by rw [hm.out]; exact hlt)
        have him : (i : Int) < n := by omega
        have hxor := u8_xor_nat x y lx ly
        have hxl : x ^^^ y < 256 := Nat.xor_lt_two_pow (n := 8) lx ly
        obtain ⟨z, hz⟩ : ∃ z, Hid (x ^^^ y = z) := ⟨_, hide rfl⟩
        rw [hz.out] at hxor hxl
        have hor := u8_or_nat acc z hacc hxl
        have hol : acc ||| z < 256 := Nat.or_lt_two_pow (n := 8) hacc hxl
        obtain ⟨acc2, hacc2⟩ : ∃ c, Hid (acc ||| z = c) := ⟨_, hide rfl⟩
        rw [hacc2.out] at hor hol
        go_wp2_with fail
        go_quiet (fail)
        go_wp2_with fail
        go_roundw
        case rel =>
          refine ⟨i + 1, acc2, by omega, hol, by go_num, rfl, hide ?_, _, rfl⟩
          rw [← hacc2.out, Nat.or_eq_zero_iff, hI.out, ← hz.out, xor_zero_iff, ← ex.out, ← ey.out]
          constructor
          · rintro ⟨h1, h2⟩ j hj
            rcases Nat.lt_or_ge j i with h | h
            · exact h1 j h
            · obtain rfl : j = i := by omega
              exact h2
          · intro h
            exact ⟨fun j hj => h j (by omega), h i (by omega)⟩
        case measure => simp [intOf]; omega
      · obtain rfl : i = n := by omega
        have hd : (((acc : Int) == 0) : Bool) = decide (a = b) := by
          rw [Bool.eq_iff_iff]
          simp only [beq_iff_eq, decide_eq_true_eq]
          rw [same_iff a b (by rw [hn.out, hm.out]), hn.out, ← hI.out]
          omega
        rw [hr.out] at hd
        go_wp2_with fail
        go_ret
        exact ⟨by first | rfl | rw [hd], ⟨rfl, rfl, rfl, Nat.le_refl _, fun _ _ => rfl⟩⟩
  · have hne : (((n : Int) == (m : Int)) : Bool) = false := by simp; omega
    have hd : decide (a = b) = false := by
      rw [decide_eq_false_iff_not]
      rintro rfl
      exact hnm (hn.out.symm.trans hm.out)
    rw [hr.out] at hd
    subst hd
    clear hnm
    go_enter Tryd.func34, Tryd.ntmps34
    go_wp2_with fail
    go_ret
    exact ⟨rfl, Below.refl _ _⟩
/-- How many bytes differ, and how many one is longer. -/
def dif (a b : List Nat) : Nat := cnt a b (min a.length b.length) + (max a.length b.length - min a.length b.length)

set_option maxRecDepth 100000 in
set_option maxHeartbeats 4000000 in
theorem differ_c (a b : List Nat) (A B : Option Addr) (ca cb : Nat) (w : World) (ha : Rb w A a) (hb : Rb w B b) (hl : a.length ≤ 100000) (hl2 : b.length ≤ 100000) :
    Calls Tryd.prog 35 #[.slice A a.length ca, .slice B b.length cb] w fun e w' => e = .returned (.int .i64 (dif a b : Nat)) ∧ Below w.heap.size w w' := by
  obtain ⟨d, hd⟩ : ∃ d, Hid (dif a b = d) := ⟨_, hide rfl⟩
  unfold dif at hd
  obtain ⟨n, hn⟩ : ∃ n, Hid (a.length = n) := ⟨_, hide rfl⟩
  obtain ⟨m, hm⟩ : ∃ m, Hid (b.length = m) := ⟨_, hide rfl⟩
  rw [hn.out] at hl
  rw [hm.out] at hl2
  rw [hn.out, hm.out] at hd
  rw [hn.out, hm.out, show dif a b = d by unfold dif; rw [hn.out, hm.out]; exact hd.out]
  have HA := hide ha
  have HB := hide hb
  clear ha hb
  by_cases hsw : m < n
  · have hswI : (m : Int) < n := by omega
    have hsub : ((n - m : Nat) : Int) = (n : Int) - m := by omega
    rw [Nat.min_eq_right (by omega), Nat.max_eq_left (by omega)] at hd
    go_enter Tryd.func35, Tryd.ntmps35
    go_wp2_with fail
    go_loopw [5, 21] (fun v k wr => ∃ i c : Nat, i ≤ m ∧ k = .int .i64 i ∧ v = .int .i64 (c : Int) ∧ Hid (n - m + cnt b a i = c) ∧ ∃ q, wr = w.drewN q) (fun _ k _ => m - (intOf k).toNat)
    case atStart => exact ⟨0, n - m, by omega, rfl, by rw [hsub], hide rfl, 0, rfl⟩
    case round =>
      obtain ⟨i, c, hi, rfl, rfl, hI, q, rfl⟩ := hrel
      have hcl : c ≤ 1000000 := by have := hI.out; have := cnt_le b a i; omega
      by_cases hlt : i < m
      · obtain ⟨ad, x, rfl, ex, lx, cx⟩ := rb_byte HB.out i (by rw [hm.out]; exact hlt)
        obtain ⟨bd, y, rfl, ey, ly, cy⟩ := rb_byte HA.out i (by rw [hn.out]; omega)
        have him : (i : Int) < m := by omega
        have himm : (i : Int) < n := by omega
        have hcn : cnt b a (i + 1) = cnt b a i + (if x = y then 0 else 1) := by rw [cnt, ex.out, ey.out]
        have HCN := hide hcn
        clear hcn
        by_cases hxy : x = y
        · have hne : (((x : Int) != (y : Int)) : Bool) = false := by simp; omega
          have HXY := hide hxy
          clear hxy
          go_wp2_with fail
          go_quiet (fail)
          go_wp2_with fail
          go_roundw
          case rel => exact ⟨i + 1, c, by omega, by go_num, rfl, hide (by rw [HCN.out, if_pos HXY.out]; exact hI.out), _, rfl⟩
          case measure => simp [intOf]; omega
        · have hne : (((x : Int) != (y : Int)) : Bool) = true := by simp; omega
          have HXY := hide hxy
          clear hxy
          go_wp2_with fail
          go_quiet (fail)
          go_wp2_with fail
          go_roundw
          case rel => exact ⟨i + 1, c + 1, by omega, by go_num, by go_num, hide (by rw [HCN.out, if_neg HXY.out]; have := hI.out; omega), _, rfl⟩
          case measure => simp [intOf]; omega
      · obtain rfl : i = m := by omega
        have hc : c = d := by rw [← hI.out, ← hd.out, cnt_comm a b]; omega
        subst hc
        go_wp2_with fail
        go_ret
        exact ⟨rfl, ⟨rfl, rfl, rfl, Nat.le_refl _, fun _ _ => rfl⟩⟩
  · have hswI : ¬ ((m : Int) < n) := by omega
    have hsub : ((m - n : Nat) : Int) = (m : Int) - n := by omega
    rw [Nat.min_eq_left (by omega), Nat.max_eq_right (by omega)] at hd
    go_enter Tryd.func35, Tryd.ntmps35
    go_wp2_with fail
    go_loopw [5, 21] (fun v k wr => ∃ i c : Nat, i ≤ n ∧ k = .int .i64 i ∧ v = .int .i64 (c : Int) ∧ Hid (m - n + cnt a b i = c) ∧ ∃ q, wr = w.drewN q) (fun _ k _ => n - (intOf k).toNat)
    case atStart => exact ⟨0, m - n, by omega, rfl, by rw [hsub], hide rfl, 0, rfl⟩
    case round =>
      obtain ⟨i, c, hi, rfl, rfl, hI, q, rfl⟩ := hrel
      have hcl : c ≤ 1000000 := by have := hI.out; have := cnt_le a b i; omega
      by_cases hlt : i < n
      · obtain ⟨ad, x, rfl, ex, lx, cx⟩ := rb_byte HA.out i (by rw [hn.out]; exact hlt)
        obtain ⟨bd, y, rfl, ey, ly, cy⟩ := rb_byte HB.out i (by rw [hm.out]; omega)
        have him : (i : Int) < n := by omega
        have himm : (i : Int) < m := by omega
        have hcn : cnt a b (i + 1) = cnt a b i + (if x = y then 0 else 1) := by rw [cnt, ex.out, ey.out]
        have HCN := hide hcn
        clear hcn
        by_cases hxy : x = y
        · have hne : (((x : Int) != (y : Int)) : Bool) = false := by simp; omega
          have HXY := hide hxy
          clear hxy
          go_wp2_with fail
          go_quiet (fail)
          go_wp2_with fail
          go_roundw
          case rel => exact ⟨i + 1, c, by omega, by go_num, rfl, hide (by rw [HCN.out, if_pos HXY.out]; exact hI.out), _, rfl⟩
          case measure => simp [intOf]; omega
        · have hne : (((x : Int) != (y : Int)) : Bool) = true := by simp; omega
          have HXY := hide hxy
          clear hxy
          go_wp2_with fail
          go_quiet (fail)
          go_wp2_with fail
          go_roundw
          case rel => exact ⟨i + 1, c + 1, by omega, by go_num, by go_num, hide (by rw [HCN.out, if_neg HXY.out]; have := hI.out; omega), _, rfl⟩
          case measure => simp [intOf]; omega
      · obtain rfl : i = n := by omega
        have hc : c = d := by rw [← hI.out, ← hd.out]; omega
        subst hc
        go_wp2_with fail
        go_ret
        exact ⟨rfl, ⟨rfl, rfl, rfl, Nat.le_refl _, fun _ _ => rfl⟩⟩
end Go.Proofs.YtijgomgiinlcoaaDoor
