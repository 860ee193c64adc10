/-
  Rows of numbers of 64 bits: the order as a function, the sum, the first and the last of a row. By an AI agent. No person has read it.
-/
import Derived.Test.YtboighnmgnjhdaaDoorFltR
import Derived.Test.YtboighnmgnjhdaaDoorFltNr
namespace Go.Proofs.YtboighnmgnjhdaaDoor
open Go.RowKit

def Flt.cmp (a b : Nat) : Int := if Flt.less a b = true then -1 else if Flt.less b a = true then 1 else 0
set_option maxRecDepth 100000 in
theorem compare_c (a b : Nat) (ha : a < 18446744073709551616) (hb : b < 18446744073709551616) (w : World) :
    Calls Tryd.prog 55 #[.float .f64 a, .float .f64 b] w fun e w' => e = .returned (.int .i64 (Flt.cmp a b)) ∧ w' = w := by
  have H1 := hide (less_c a b ha hb w)
  have H2 := hide (less_c b a hb ha w)
  unfold Flt.cmp
  cases h1 : Flt.less a b <;> cases h2 : Flt.less b a
  all_goals
    rw [h1] at H1
    rw [h2] at H2
    go_enter Tryd.func55, Tryd.ntmps55
    go_wp2_with fail
    refine H1.out.mono ?_
    rintro e w1 ⟨rfl, rfl⟩
    go_wp2_with fail
    first
    | (refine H2.out.mono ?_
       rintro e w1 ⟨rfl, rfl⟩
       go_wp2_with fail
       go_ret
       exact ⟨rfl, rfl⟩)
    | (go_ret
       exact ⟨rfl, rfl⟩)

theorem below_two {w w3 w4 : World} (h : Below w.heap.size w w3) (h' : Below w3.heap.size w3 w4) : Below w.heap.size w w4 :=
  ⟨h'.os.trans h.os, h'.tape.trans h.tape, h'.output.trans h.output, Nat.le_trans h.size h'.size, fun k hk => (h'.block k (Nat.lt_of_lt_of_le hk h.size)).trans (h.block k hk)⟩
theorem ad_block (a : Addr) (n : Nat) : (a.add n).block = a.block := by unfold Addr.add; split <;> rfl
/-- A row of numbers of 64 bits, readable. -/
def Fl (w : World) (A : Option Addr) (xs : List Nat) : Prop := (∀ x ∈ xs, x < 18446744073709551616) ∧ ∀ (i : Nat) (x : Nat), xs[i]? = some x → ∃ ad, A = some ad ∧ ad.block < w.heap.size ∧ w.cell? (ad.add i) = some (.float .f64 x)
theorem Fl.below {w wr : World} {A : Option Addr} {xs : List Nat} (h : Fl w A xs) (hb : Below w.heap.size w wr) : Fl wr A xs := by
  refine ⟨h.1, fun i x hi => ?_⟩
  obtain ⟨ad, e, h1, h2⟩ := h.2 i x hi
  refine ⟨ad, e, Nat.lt_of_lt_of_le h1 hb.size, ?_⟩
  rw [hb.cell (p := ad.add i) (by rw [ad_block]; exact h1)]
  exact h2
theorem fl_at {w : World} {A : Option Addr} {xs : List Nat} (h : Fl w A xs) (i : Nat) (hi : i < xs.length) :
    ∃ ad x, A = some ad ∧ Hid (xs[i]? = some x) ∧ x < 18446744073709551616 ∧ w.cell? (ad.add i) = some (.float .f64 x) := by
  obtain ⟨ad, e, h1, h2⟩ := h.2 i xs[i] (List.getElem?_eq_getElem hi)
  exact ⟨ad, xs[i], e, hide (List.getElem?_eq_getElem hi), h.1 _ (List.getElem_mem hi), h2⟩
/-- One number on another: the sum, or any that is none. -/
def Flt.step (s x t : Nat) : Prop := t < 18446744073709551616 ∧ (Ieee.double.add s x = some t ∨ Ieee.double.add s x = none ∧ Flt.nanb t = true)
def Flt.sumTo : Nat → List Nat → Nat → Prop
  | s, [], r => r = s
  | s, x :: xs, r => ∃ t, Flt.step s x t ∧ Flt.sumTo t xs r
theorem sumTo_snoc (xs : List Nat) (x : Nat) : ∀ (s t r : Nat), Flt.sumTo s xs t → Flt.step t x r → Flt.sumTo s (xs ++ [x]) r := by
  induction xs with
  | nil => intro s t r h1 h2; subst h1; exact ⟨r, h2, rfl⟩
  | cons y ys ih => intro s t r h1 h2; obtain ⟨u, hu, h1⟩ := h1; exact ⟨u, hu, ih u t r h1 h2⟩
theorem write_lt (d : Ieee.Datum) : Ieee.double.write d < 18446744073709551616 := by
  cases d with
  | number g s e =>
    show Ieee.double.nearest g s e < _
    by_cases h0 : s = 0
    · subst h0
      rw [Flt.nearest_zero]
      split <;> omega
    · rw [near_sign _ _ _ h0]
      have := near_lt s e h0
      split <;> omega
  | infinity g =>
    show Ieee.double.word g _ < _
    rw [Flt.word_eq, Flt.ir]
    split <;> omega
  | nan g f =>
    show Ieee.double.word g _ < _
    rw [Flt.word_eq, Flt.ir, Flt.bn]
    split <;> omega
theorem add_lt (s x t : Nat) (h : Ieee.double.add s x = some t) : t < 18446744073709551616 := by
  unfold Ieee.Format.add at h
  rw [Option.map_eq_some_iff] at h
  obtain ⟨d, -, rfl⟩ := h
  exact write_lt d
theorem run_add (s x : Nat) (w : World) : ∃ t q, Hid (Flt.step s x t) ∧ (binOp .add 27 (.float .f64 s) (.float .f64 x)).run Tryd.prog w = .ok (.float .f64 t) (w.drewN q) := by
  cases h : Ieee.double.add s x with
  | some t => exact ⟨t, 0, hide ⟨add_lt s x t h, .inl h⟩, run_float_arith (P := Tryd.prog) w .add 27 .f64 _ _ _ h⟩
  | none =>
    have hf : FloatKind.f64.format.add s x = none := h
    obtain ⟨T, hT⟩ : ∃ T, w.tape w.drawn (.nanBits .f64 s x) = T := ⟨_, rfl⟩
    obtain ⟨t, ht⟩ : ∃ t, (T % 2) * 9223372036854775808 + 9218868437227405312 + 1 + (T / 2) % 4503599627370495 = t := ⟨_, rfl⟩
    refine ⟨t, 1, hide ⟨by omega, .inr ⟨h, ?_⟩⟩, ?_⟩
    · unfold Flt.nanb
      rw [decide_eq_true_eq]
      have h3 : T / 2 % 4503599627370495 < 4503599627370495 := Nat.mod_lt _ (by decide)
      generalize T / 2 % 4503599627370495 = z at *
      rcases Nat.mod_two_eq_zero_or_one T with h2 | h2 <;> rw [h2] at ht <;> omega
    · have hc : (Question.nanBits .f64 s x).cut (w.tape w.drawn (.nanBits .f64 s x)) = t := by rw [hT]; exact ht
      simp [binOp, Op.floatArith, hf, Question.forced, hc]
      rfl

set_option maxRecDepth 100000 in
theorem sum_c (xs : List Nat) (A : Option Addr) (cap : Nat) (w : World) (hr : Fl w A xs) (hl : xs.length ≤ 1000000) :
    Calls Tryd.prog 16 #[.slice A xs.length cap] w fun e w' => (∃ r, e = .returned (.float .f64 r) ∧ Flt.sumTo 0 xs r) ∧ ∃ q, w' = w.drewN q := by
  obtain ⟨n, hn⟩ : ∃ n, Hid (xs.length = n) := ⟨_, hide rfl⟩
  rw [hn.out] at hl ⊢
  have HA := hide hr
  clear hr
  go_enter Tryd.func16, Tryd.ntmps16
  go_wp2_with fail
  go_loopw [3, 8] (fun s k wr => ∃ (i : Nat) (v : Nat), i ≤ n ∧ k = .int .i64 i ∧ s = .float .f64 v ∧ Hid (Flt.sumTo 0 (xs.take i) v) ∧ ∃ q, wr = w.drewN q) (fun _ k _ => n - (intOf k).toNat)
  case atStart => exact ⟨0, 0, by omega, rfl, rfl, hide rfl, 0, rfl⟩
  case round =>
    obtain ⟨i, v, hi, rfl, rfl, hI, q, rfl⟩ := hrel
    by_cases hlt : i < n
    · obtain ⟨ad, x, rfl, ex, lx, cx⟩ := fl_at HA.out i (by rw [hn.out]; exact hlt)
      obtain ⟨t, q', hst, hrun⟩ := run_add v x (w.drewN q)
      have him : (i : Int) < n := by omega
      go_wp2_with fail
      go_roundw
      case rel =>
        refine ⟨i + 1, t, by omega, by go_num, rfl, hide ?_, _, rfl⟩
        rw [List.take_add_one, ex.out]
        exact sumTo_snoc _ x 0 v t hI.out hst.out
      case measure => simp [intOf]; omega
    · obtain rfl : i = n := by omega
      go_wp2_with fail
      go_ret
      refine ⟨⟨_, rfl, ?_⟩, _, rfl⟩
      have := hI.out
      rw [← hn.out, List.take_length] at this
      exact this

set_option maxRecDepth 100000 in
theorem refsum_c (xs : List Nat) (A : Option Addr) (cap : Nat) (w : World) (hr : Fl w A xs) (hl : xs.length ≤ 1000000) :
    Calls Tryd.prog 17 #[.slice A xs.length cap] w fun e w' => (∃ r, e = .returned (.float .f64 r) ∧ Flt.sumTo 0 xs r) ∧ ∃ q, w' = w.drewN q := by
  obtain ⟨n, hn⟩ : ∃ n, Hid (xs.length = n) := ⟨_, hide rfl⟩
  rw [hn.out] at hl ⊢
  have HA := hide hr
  clear hr
  go_enter Tryd.func17, Tryd.ntmps17
  go_wp2_with fail
  go_loopw [3, 4] (fun s k wr => ∃ (i : Nat) (v : Nat), i ≤ n ∧ k = .int .i64 i ∧ s = .float .f64 v ∧ Hid (Flt.sumTo 0 (xs.take i) v) ∧ ∃ q, wr = w.drewN q) (fun _ k _ => n - (intOf k).toNat)
  case atStart => exact ⟨0, 0, by omega, rfl, rfl, hide rfl, 0, rfl⟩
  case round =>
    obtain ⟨i, v, hi, rfl, rfl, hI, q, rfl⟩ := hrel
    by_cases hlt : i < n
    · obtain ⟨ad, x, rfl, ex, lx, cx⟩ := fl_at HA.out i (by rw [hn.out]; exact hlt)
      obtain ⟨t, q', hst, hrun⟩ := run_add v x (w.drewN q)
      have him : (i : Int) < n := by omega
      go_wp2_with fail
      go_roundw
      case rel =>
        refine ⟨i + 1, t, by omega, by go_num, rfl, hide ?_, _, rfl⟩
        rw [List.take_add_one, ex.out]
        exact sumTo_snoc _ x 0 v t hI.out hst.out
      case measure => simp [intOf]; omega
    · obtain rfl : i = n := by omega
      go_wp2_with fail
      go_ret
      refine ⟨⟨_, rfl, ?_⟩, _, rfl⟩
      have := hI.out
      rw [← hn.out, List.take_length] at this
      exact this
end Go.Proofs.YtboighnmgnjhdaaDoor
