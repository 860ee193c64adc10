/-
  The law QuantFixed of package lodgelaw4. By an AI agent. No person has read it.
-/
import Derived.Test.YtboighnmgnjhdaaDoorQuaD
import Derived.Test.YtboighnmgnjhdaaDoorQuaG
import Derived.Test.YtboighnmgnjhdaaDoorErrD
namespace Go.Proofs.YtboighnmgnjhdaaDoor
open Go.RowKit
set_option maxRecDepth 100000 in
set_option maxHeartbeats 4000000 in
theorem fixedlaw_c (a : Nat) (ha : a < 18446744073709551616) (x m s z : Int) (es : List Addr) (w : World) (hE : Ez w es) :
    Calls Tryd.prog 5 #[.float .f64 a, .int .i64 x, .int .i64 m, .int .i64 s, .int .i64 z] w fun e w' => e = .returned (.bool true) ∧ Below w.heap.size w w' := by
  have HF := hide qfirst_c
  have hEd : Ez w.drew es := hE.below (Below.refl _ _).drew
  by_cases hin : Qua.inr a = true
  case pos =>
    have hb : 4472074429978902528 ≤ a ∧ a ≤ 4742290407621132288 := by simpa [Qua.inr] using hin
    have H1 := hide (qfixed_in a hb.1 hb.2)
    have H2 := hide (rfixed_in a hb.1 hb.2)
    obtain ⟨p, hp⟩ : ∃ p, Hid ((Qua.fx a).1 = p) := ⟨_, hide rfl⟩
    obtain ⟨q, hq⟩ : ∃ p, Hid ((Qua.fx a).2 = p) := ⟨_, hide rfl⟩
    rw [hp.out, hq.out] at H1 H2
    have Q1 := hide (requant_c x m s z)
    have R1 := hide (rrequant_c x m s z)
    have Q2 := hide (requant_c x p q z)
    have R2 := hide (rrequant_c x p q z)
    obtain ⟨r1, hr1⟩ : ∃ p, Hid (Qua.req x m s z = p) := ⟨_, hide rfl⟩
    obtain ⟨r2, hr2⟩ : ∃ t, Hid (Qua.req x p q z = t) := ⟨_, hide rfl⟩
    rw [hr1.out] at Q1 R1
    rw [hr2.out] at Q2 R2
    clear hp hq hr1 hr2 hin hb hE hEd ha
    go_enter Tryd.func5, Tryd.ntmps5
    go_wp2_with fail
    refine (HF.out _).mono ?_
    rintro e w1 ⟨rfl, rfl⟩
    go_wp2_with fail
    refine (H1.out _).mono ?_
    rintro e w1 ⟨rfl, rfl⟩
    go_wp2_with fail
    refine (H2.out _).mono ?_
    rintro e w1 ⟨rfl, rfl⟩
    go_wp2_with fail
    refine (Q1.out _).mono ?_
    rintro e w1 ⟨rfl, rfl⟩
    go_wp2_with fail
    refine (R1.out _).mono ?_
    rintro e w1 ⟨rfl, rfl⟩
    go_wp2_with fail
    refine (Q2.out _).mono ?_
    rintro e w1 ⟨rfl, rfl⟩
    go_wp2_with fail
    refine (R2.out _).mono ?_
    rintro e w1 ⟨rfl, rfl⟩
    go_wp2_with fail
    go_ret
    exact ⟨rfl, ((Below.refl _ _).drew.drew).drew⟩
  case neg =>
    have hout : Qua.inr a = false := by simpa using hin
    obtain ⟨ar, har⟩ : ∃ ar, es[1]? = some ar := by
      have := hE.1
      exact ⟨es[1], List.getElem?_eq_getElem (by omega)⟩
    have hEr : ErrIs w.drew 1 ar := hEd.2.2 1 _ ar rfl har
    have H1 := hide (qfixed_out a ha hout ar w.drew hEr)
    have H2 := hide (rfixed_out a ha hout)
    have HI := hide (is_c es 1 ar har 102 w.drew.drew (hEd.below (Below.refl _ _).drew))
    clear hin hout hEr hEd hE ha har
    go_enter Tryd.func5, Tryd.ntmps5
    go_wp2_with fail
    refine (HF.out _).mono ?_
    rintro e w1 ⟨rfl, rfl⟩
    go_wp2_with fail
    refine H1.out.mono ?_
    rintro e w1 ⟨rfl, rfl⟩
    go_wp2_with fail
    refine (H2.out _).mono ?_
    rintro e w1 ⟨rfl, rfl⟩
    go_wp2_with fail
    refine HI.out.mono ?_
    rintro e w1 ⟨rfl, hB⟩
    have HB := hide hB
    clear hB
    go_wp2_with fail
    go_ret
    exact ⟨rfl, ((Below.refl _ _).drew.drew).trans (HB.out)⟩
end Go.Proofs.YtboighnmgnjhdaaDoor
