/-
  math/bits.TrailingZeros64, walked. By an AI agent. No person has read it.
-/
import Derived.Test.YtboighnmgnjhdaaDoorFltK
import Derived.Lib.TrailingZeros
namespace Go.Proofs.YtboighnmgnjhdaaDoor
open Go.RowKit

/-- A byte of a row. -/
def u8v (ns : List Nat) : List Value := ns.map fun n : Nat => .int .u8 (n : Int)
/-- The package-level table of math/bits. -/
def Tz (w : World) : Prop := ∃ t fr, w.heap[4]? = some (.cells (u8v Lib.deBruijn64tab).toArray t fr) ∧ 4 < w.heap.size
theorem Tz.below {w w' : World} (h : Tz w) (hb : Below w.heap.size w w') : Tz w' := by
  obtain ⟨t, fr, h1, h2⟩ := h
  exact ⟨t, fr, (hb.block 4 h2).trans h1, Nat.lt_of_lt_of_le h2 hb.size⟩

set_option maxRecDepth 100000 in
theorem tz_c (x : Nat) (h0 : x ≠ 0) (hx : x < 18446744073709551616) (w : World) (hT : Tz w) :
    Calls Tryd.prog 84 #[.int .u64 x] w fun e w' => e = .returned (.int .i64 (Lib.ctz 64 x)) ∧ w' = w := by
  obtain ⟨hl, hk⟩ := Lib.lowest_bit 64 x h0 hx
  obtain ⟨k, hkk⟩ : ∃ k, Hid (Lib.ctz 64 x = k) := ⟨_, hide rfl⟩
  rw [hkk.out] at hl hk ⊢
  obtain ⟨d1, d2⟩ := Lib.deBruijn64_at k hk
  have hn : IntKind.u64.wrap (-(x : Int)) = ((18446744073709551616 - x : Nat) : Int) := by rw [IntKind.wrap_u64]; omega
  have ha : bits .and .u64 (x : Int) ((18446744073709551616 - x : Nat) : Int) = ((2 ^ k : Nat) : Int) := by
    rw [u64_and_nat x _ hx (by omega)]
    exact congrArg _ hl
  obtain ⟨p, hp⟩ : ∃ p, Hid (2 ^ k = p) := ⟨_, hide rfl⟩
  rw [hp.out] at d1 d2 ha
  obtain ⟨i, hi⟩ : ∃ i, Hid (p * 285870213051353865 % 18446744073709551616 / 288230376151711744 = i) := ⟨_, hide rfl⟩
  rw [hi.out] at d1 d2
  have hm : IntKind.u64.wrap ((p : Int) * 285870213051353865) / 288230376151711744 = (i : Int) := by rw [IntKind.wrap_u64, ← hi.out]; omega
  obtain ⟨t, fr, h1, h2⟩ := hT
  have hc : w.cell? ⟨4, i, none⟩ = some (.int .u8 (k : Int)) := by
    rw [cell_of_row w 4 i _ _ _ h1]
    rw [show (u8v Lib.deBruijn64tab).toArray[i]? = (u8v Lib.deBruijn64tab)[i]? from List.getElem?_toArray]
    unfold u8v
    rw [List.getElem?_map, List.getElem?_eq_getElem (by exact d1), Option.map_some, ← d2, List.getD_eq_getElem?_getD, List.getElem?_eq_getElem (by exact d1)]
    rfl
  have hx0 : ¬ ((x : Int) = 0) := by omega
  have hx0' : ((x : Int) == 0) = false := by simp; omega
  have hi64 : (i : Int) < 64 := by omega
  clear hkk hp hi
  go_enter Tryd.func84, Tryd.ntmps84
  go_wp2_with fail
  go_ret
  exact ⟨rfl, rfl⟩

theorem or_bit52 (f : Nat) (hf : f < 4503599627370496) : bits .or .u64 (f : Int) 4503599627370496 = ((f + 4503599627370496 : Nat) : Int) := by
  have h : f ||| 4503599627370496 = f + 4503599627370496 := by
    have h1 := Nat.two_pow_add_eq_or_of_lt (b := f) (i := 52) (by omega) 1
    rw [Nat.or_comm, Nat.add_comm]
    exact h1.symm
  have e : (4503599627370496 : Int) = ((4503599627370496 : Nat) : Int) := rfl
  rw [e, u64_or_nat _ _ (by omega) (by decide), h]

/-- The significand, and its place above the least. -/
def Flt.sig (b : Nat) : Nat := if Flt.expo b = 0 then Flt.frac b else Flt.frac b + 4503599627370496
def Flt.pe (b : Nat) : Nat := if Flt.expo b = 0 then 0 else Flt.expo b - 1
def Flt.odd (b : Nat) : Nat := Flt.sig b / 2 ^ Lib.ctz 64 (Flt.sig b)
/-- The odd part and the power. -/
def Flt.parts (b : Nat) : Int × Int × Bool :=
  if Flt.expo b = 2047 then (0, 0, false) else if Flt.sig b = 0 then (0, 0, true) else
  ((if Flt.neg b = true then -(Flt.odd b : Int) else Flt.odd b), -1074 + (Flt.pe b : Int) + (Lib.ctz 64 (Flt.sig b) : Int), true)
theorem sig_lt (b : Nat) : Flt.sig b < 9007199254740992 := by
  have := frac_lt b
  unfold Flt.sig
  split <;> omega

set_option maxRecDepth 100000 in
theorem parts_none (b : Nat) (hb : b < 18446744073709551616) (w : World) (he : Flt.expo b = 2047) :
    Calls Tryd.prog 50 #[.float .f64 b] w fun e w' => e = .returned (.tuple #[.int .i64 (Flt.parts b).1, .int .i64 (Flt.parts b).2.1, .bool (Flt.parts b).2.2]) ∧ w' = w := by
  have hk := kind_c b hb w
  obtain ⟨kg, hkg⟩ : ∃ x, Hid (Flt.kindNeg b = x) := ⟨_, hide rfl⟩
  rw [hkg.out] at hk
  have hp : Flt.parts b = (0, 0, false) := by unfold Flt.parts; rw [if_pos he]
  rw [hp]
  have hkk : Flt.kindNo b = 1 ∨ Flt.kindNo b = 2 := by
    unfold Flt.kindNo
    by_cases hf : Flt.frac b = 0
    · exact .inr (by simp [he, hf])
    · exact .inl (by simp [he, hf])
  rcases hkk with h | h
  · rw [h] at hk
    have HK := hide hk
    clear hk h he hp
    go_enter Tryd.func50, Tryd.ntmps50
    go_wp2_with fail
    refine HK.out.mono ?_
    rintro e w1 ⟨rfl, rfl⟩
    go_wp2_with fail
    go_ret3
    exact ⟨rfl, rfl⟩
  · rw [h] at hk
    have HK := hide hk
    clear hk h he hp
    go_enter Tryd.func50, Tryd.ntmps50
    go_wp2_with fail
    refine HK.out.mono ?_
    rintro e w1 ⟨rfl, rfl⟩
    go_wp2_with fail
    go_ret3
    exact ⟨rfl, rfl⟩

set_option maxRecDepth 100000 in
theorem parts_zero (b : Nat) (hb : b < 18446744073709551616) (w : World) (he : Flt.expo b = 0) (hf : Flt.frac b = 0) :
    Calls Tryd.prog 50 #[.float .f64 b] w fun e w' => e = .returned (.tuple #[.int .i64 (Flt.parts b).1, .int .i64 (Flt.parts b).2.1, .bool (Flt.parts b).2.2]) ∧ w' = w := by
  have hk := kind_c b hb w
  obtain ⟨kg, hkg⟩ : ∃ x, Hid (Flt.kindNeg b = x) := ⟨_, hide rfl⟩
  rw [hkg.out, show Flt.kindNo b = 3 by unfold Flt.kindNo; simp [he, hf]] at hk
  have hp : Flt.parts b = (0, 0, true) := by
    unfold Flt.parts
    rw [if_neg (by rw [he]; decide), if_pos (by unfold Flt.sig; rw [if_pos he, hf])]
  rw [hp]
  have HK := hide hk
  clear hk he hp
  go_enter Tryd.func50, Tryd.ntmps50
  go_wp2_with fail
  refine HK.out.mono ?_
  rintro e w1 ⟨rfl, rfl⟩
  go_wp2_with fail
  go_ret3
  exact ⟨rfl, rfl⟩

set_option maxRecDepth 100000 in
theorem parts_usual (b : Nat) (hb : b < 18446744073709551616) (w : World) (hT : Tz w) (he0 : Flt.expo b ≠ 0) (he1 : Flt.expo b ≠ 2047) :
    Calls Tryd.prog 50 #[.float .f64 b] w fun e w' => e = .returned (.tuple #[.int .i64 (Flt.parts b).1, .int .i64 (Flt.parts b).2.1, .bool (Flt.parts b).2.2]) ∧ w' = w := by
  have hk := kind_c b hb w
  have hs := split_c b hb w
  rw [show Flt.kindNo b = 5 by unfold Flt.kindNo; simp [he0, he1], show Flt.kindNeg b = Flt.neg b by unfold Flt.kindNeg; simp [he1]] at hk
  have hf := frac_lt b
  have hel := expo_lt b
  have ho := or_bit52 (Flt.frac b) hf
  have hsg : Flt.sig b = Flt.frac b + 4503599627370496 := by unfold Flt.sig; rw [if_neg he0]
  have hpe : (Flt.expo b : Int) - 1 = (Flt.pe b : Int) := by unfold Flt.pe; rw [if_neg he0]; omega
  have hp : Flt.parts b = ((if Flt.neg b = true then -(Flt.odd b : Int) else Flt.odd b), -1074 + (Flt.pe b : Int) + (Lib.ctz 64 (Flt.sig b) : Int), true) := by
    unfold Flt.parts
    rw [if_neg he1, if_neg (by rw [hsg]; omega)]
  have hsl := sig_lt b
  have ht := tz_c (Flt.sig b) (by rw [hsg]; omega) (by omega) w hT
  have hev := (Lib.lowest_bit 64 (Flt.sig b) (by rw [hsg]; omega) (by omega)).2
  have hq : ((Flt.sig b : Nat) : Int) / 2 ^ Lib.ctz 64 (Flt.sig b) = (Flt.odd b : Int) := by
    unfold Flt.odd
    simp
  have hql : Flt.odd b < 9007199254740992 := Nat.lt_of_le_of_lt (Nat.div_le_self _ _) hsl
  rw [hp]
  rw [← hsg] at ho
  have hpl : Flt.pe b < 2048 := by unfold Flt.pe; split <;> omega
  clear hp hsg hsl
  obtain ⟨ex, hex⟩ : ∃ x, Hid (Flt.expo b = x) := ⟨_, hide rfl⟩
  obtain ⟨fr, hfr⟩ : ∃ x, Hid (Flt.frac b = x) := ⟨_, hide rfl⟩
  obtain ⟨ng, hng⟩ : ∃ x, Hid (Flt.neg b = x) := ⟨_, hide rfl⟩
  obtain ⟨sg, hsg⟩ : ∃ x, Hid (Flt.sig b = x) := ⟨_, hide rfl⟩
  obtain ⟨od, hod⟩ : ∃ x, Hid (Flt.odd b = x) := ⟨_, hide rfl⟩
  obtain ⟨pe, hpp⟩ : ∃ x, Hid (Flt.pe b = x) := ⟨_, hide rfl⟩
  rw [hsg.out] at ho ht hev hq ⊢
  obtain ⟨ev, hevv⟩ : ∃ x, Hid (Lib.ctz 64 sg = x) := ⟨_, hide rfl⟩
  rw [hevv.out] at ht hev hq ⊢
  rw [hod.out] at hq hql ⊢
  rw [hpp.out] at hpe hpl ⊢
  rw [hex.out] at hs he0 he1 hel hpe
  rw [hfr.out] at hs hf ho
  rw [hng.out] at hs hk ⊢
  have HK := hide hk
  have HS := hide hs
  have HTT := hide ht
  clear hk hs ht
  cases ng
  all_goals
    go_enter Tryd.func50, Tryd.ntmps50
    go_wp2_with fail
    refine HK.out.mono ?_
    rintro e w1 ⟨rfl, rfl⟩
    go_wp2_with fail
    refine HS.out.mono ?_
    rintro e w1 ⟨rfl, rfl⟩
    go_wp2_with fail
    refine HTT.out.mono ?_
    rintro e w1 ⟨rfl, rfl⟩
    go_wp2_with fail
    go_ret3
    exact ⟨rfl, rfl⟩

set_option maxRecDepth 100000 in
theorem parts_small (b : Nat) (hb : b < 18446744073709551616) (w : World) (hT : Tz w) (he0 : Flt.expo b = 0) (hf0 : Flt.frac b ≠ 0) :
    Calls Tryd.prog 50 #[.float .f64 b] w fun e w' => e = .returned (.tuple #[.int .i64 (Flt.parts b).1, .int .i64 (Flt.parts b).2.1, .bool (Flt.parts b).2.2]) ∧ w' = w := by
  have hk := kind_c b hb w
  have hs := split_c b hb w
  rw [show Flt.kindNo b = 4 by unfold Flt.kindNo; simp [he0, hf0], show Flt.kindNeg b = Flt.neg b by unfold Flt.kindNeg; simp [he0]] at hk
  rw [he0] at hs
  have hf := frac_lt b
  have hsg : Flt.sig b = Flt.frac b := by unfold Flt.sig; rw [if_pos he0]
  have hp : Flt.parts b = ((if Flt.neg b = true then -(Flt.odd b : Int) else Flt.odd b), -1074 + (Lib.ctz 64 (Flt.sig b) : Int), true) := by
    unfold Flt.parts
    rw [if_neg (by rw [he0]; decide), if_neg (by rw [hsg]; exact hf0), show Flt.pe b = 0 by unfold Flt.pe; rw [if_pos he0]]
    rfl
  have ht := tz_c (Flt.frac b) hf0 (by omega) w hT
  have hev := (Lib.lowest_bit 64 (Flt.frac b) hf0 (by omega)).2
  have hq : ((Flt.frac b : Nat) : Int) / 2 ^ Lib.ctz 64 (Flt.frac b) = (Flt.odd b : Int) := by
    unfold Flt.odd
    rw [hsg]
    simp
  have hql : Flt.odd b < 9007199254740992 := Nat.lt_of_le_of_lt (Nat.div_le_self _ _) (sig_lt b)
  rw [hp, hsg]
  clear hp hsg
  obtain ⟨fr, hfr⟩ : ∃ x, Hid (Flt.frac b = x) := ⟨_, hide rfl⟩
  obtain ⟨ng, hng⟩ : ∃ x, Hid (Flt.neg b = x) := ⟨_, hide rfl⟩
  obtain ⟨od, hod⟩ : ∃ x, Hid (Flt.odd b = x) := ⟨_, hide rfl⟩
  rw [hfr.out] at hs hf ht hev hq ⊢
  obtain ⟨ev, hevv⟩ : ∃ x, Hid (Lib.ctz 64 fr = x) := ⟨_, hide rfl⟩
  rw [hevv.out] at ht hev hq ⊢
  rw [hod.out] at hq hql ⊢
  rw [hng.out] at hs hk ⊢
  have HK := hide hk
  have HS := hide hs
  have HTT := hide ht
  clear hk hs ht hf0 he0
  cases ng
  all_goals
    go_enter Tryd.func50, Tryd.ntmps50
    go_wp2_with fail
    refine HK.out.mono ?_
    rintro e w1 ⟨rfl, rfl⟩
    go_wp2_with fail
    refine HS.out.mono ?_
    rintro e w1 ⟨rfl, rfl⟩
    go_wp2_with fail
    refine HTT.out.mono ?_
    rintro e w1 ⟨rfl, rfl⟩
    go_wp2_with fail
    go_ret3
    exact ⟨rfl, rfl⟩

set_option maxRecDepth 100000 in
theorem parts_c (b : Nat) (hb : b < 18446744073709551616) (w : World) (hT : Tz w) :
    Calls Tryd.prog 50 #[.float .f64 b] w fun e w' => e = .returned (.tuple #[.int .i64 (Flt.parts b).1, .int .i64 (Flt.parts b).2.1, .bool (Flt.parts b).2.2]) ∧ w' = w := by
  by_cases h1 : Flt.expo b = 2047
  · exact parts_none b hb w h1
  · by_cases h0 : Flt.expo b = 0
    · by_cases hf : Flt.frac b = 0
      · exact parts_zero b hb w h0 hf
      · exact parts_small b hb w hT h0 hf
    · exact parts_usual b hb w hT h0 h1
end Go.Proofs.YtboighnmgnjhdaaDoor
