/-
  The law TensRounds, walked. By an AI agent. No person has read it.
-/
import Derived.Test.YtnbjcdmiehnceaaDoorTenG
namespace Go.Proofs.YtnbjcdmiehnceaaDoor
open Go.RowKit

set_option maxRecDepth 100000 in
set_option maxHeartbeats 4000000 in
theorem rounds_c (ah am ar : Addr) (n k : Int) (w : World) (hE : E3 w ah am ar) :
    Calls Tryd.prog 12 #[.int .i64 n, .int .i64 k] w fun e w' => e = .returned (.bool true) ∧ Below w.heap.size w w' := by
  have HF := hide (first6_c ah am ar w hE)
  clear hE
  have hwb : -2147483648 ≤ Tens.wide n ∧ Tens.wide n ≤ 2147483647 := by unfold Tens.wide; omega
  have hxb : -128 ≤ Tens.narrow n ∧ Tens.narrow n ≤ 127 ∧ (-128 ≤ n → n ≤ 127 → Tens.narrow n = n) := by unfold Tens.narrow; omega
  have H1 := hide (fun w' => wide_c n w')
  have H2 := hide (fun w' => narrow_c n w')
  obtain ⟨q, hq⟩ : ∃ q, Hid (Tens.wide n = q) := ⟨_, hide rfl⟩
  obtain ⟨x, hx⟩ : ∃ x, Hid (Tens.narrow n = x) := ⟨_, hide rfl⟩
  rw [hq.out] at hwb H1
  rw [hx.out] at hxb H2
  obtain ⟨q1, q2⟩ := hwb
  obtain ⟨x1, x2, x3⟩ := hxb
  have HX3 := hide x3
  clear hq hx x3
  go_enter Tryd.func12, Tryd.ntmps12
  go_wp2_with fail
  refine HF.out.mono ?_
  rintro e w1 ⟨rfl, hb⟩
  have HB := hide hb
  clear hb HF
  go_wp2_with fail
  refine (number_c k 1048576 (by decide) (by decide) 1048576 rfl w1).mono ?_
  rintro e w2 ⟨⟨j, hj, rfl⟩, rfl⟩
  have hs : IntKind.i64.wrap ((j : Int) - 524288) = (j : Int) - 524288 := by rw [IntKind.wrap_i64]; omega
  go_wp2_with fail
  refine (H1.out w2).mono ?_
  rintro e w3 ⟨rfl, rfl⟩
  go_wp2_with fail
  refine (H2.out w3).mono ?_
  rintro e w4 ⟨rfl, rfl⟩
  have hc : (n < -128 ∧ n ≤ 127) ∨ (127 < n ∧ -128 ≤ n) ∨ (x = n ∧ -128 ≤ n ∧ n ≤ 127) := by
    have h3 := HX3.out
    by_cases h : n < -128
    · exact .inl ⟨h, by omega⟩
    · by_cases h' : 127 < n
      · exact .inr (.inl ⟨h', by omega⟩)
      · exact .inr (.inr ⟨h3 (by omega) (by omega), by omega, by omega⟩)
  have HWm := hide (fun (i : Nat) (w' : World) => wide_c ((i : Int) - 2147483648) w')
  have HWs := hide (fun (i : Nat) (w' : World) => wide_c ((i : Int) - 2147483648 + ((j : Int) - 524288) * 4294967296) w')
  clear HX3 H1 H2
  rcases hc with ⟨hc1, hc2⟩ | ⟨hc1, hc2⟩ | ⟨rfl, hc1, hc2⟩
  · go_wp2_with fail
    refine (number_c _ 4294967296 (by decide) (by decide) 4294967296 rfl _).mono ?_
    rintro e w5 ⟨⟨i, hi, rfl⟩, rfl⟩
    have hs2 : IntKind.i64.wrap ((i : Int) - 2147483648) = (i : Int) - 2147483648 := by rw [IntKind.wrap_i64]; omega
    have em : Tens.wide ((i : Int) - 2147483648) = (i : Int) - 2147483648 := by unfold Tens.wide; omega
    have es : Tens.wide ((i : Int) - 2147483648 + ((j : Int) - 524288) * 4294967296) = (i : Int) - 2147483648 := by unfold Tens.wide; omega
    have Hm := hide (HWm.out i w5)
    have Hs := hide (HWs.out i w5)
    rw [em] at Hm
    rw [es] at Hs
    clear HWm HWs em es
    go_wp2_with fail
    refine Hm.out.mono ?_
    rintro e w6 ⟨rfl, rfl⟩
    go_wp2_with fail
    refine Hs.out.mono ?_
    rintro e w7 ⟨rfl, rfl⟩
    go_wp2_with fail
    go_ret
    exact ⟨rfl, HB.out⟩
  · go_wp2_with fail
    refine (number_c _ 4294967296 (by decide) (by decide) 4294967296 rfl _).mono ?_
    rintro e w5 ⟨⟨i, hi, rfl⟩, rfl⟩
    have hs2 : IntKind.i64.wrap ((i : Int) - 2147483648) = (i : Int) - 2147483648 := by rw [IntKind.wrap_i64]; omega
    have em : Tens.wide ((i : Int) - 2147483648) = (i : Int) - 2147483648 := by unfold Tens.wide; omega
    have es : Tens.wide ((i : Int) - 2147483648 + ((j : Int) - 524288) * 4294967296) = (i : Int) - 2147483648 := by unfold Tens.wide; omega
    have Hm := hide (HWm.out i w5)
    have Hs := hide (HWs.out i w5)
    rw [em] at Hm
    rw [es] at Hs
    clear HWm HWs em es
    go_wp2_with fail
    refine Hm.out.mono ?_
    rintro e w6 ⟨rfl, rfl⟩
    go_wp2_with fail
    refine Hs.out.mono ?_
    rintro e w7 ⟨rfl, rfl⟩
    go_wp2_with fail
    go_ret
    exact ⟨rfl, HB.out⟩
  · go_wp2_with fail
    refine (number_c _ 4294967296 (by decide) (by decide) 4294967296 rfl _).mono ?_
    rintro e w5 ⟨⟨i, hi, rfl⟩, rfl⟩
    have hs2 : IntKind.i64.wrap ((i : Int) - 2147483648) = (i : Int) - 2147483648 := by rw [IntKind.wrap_i64]; omega
    have em : Tens.wide ((i : Int) - 2147483648) = (i : Int) - 2147483648 := by unfold Tens.wide; omega
    have es : Tens.wide ((i : Int) - 2147483648 + ((j : Int) - 524288) * 4294967296) = (i : Int) - 2147483648 := by unfold Tens.wide; omega
    have Hm := hide (HWm.out i w5)
    have Hs := hide (HWs.out i w5)
    rw [em] at Hm
    rw [es] at Hs
    clear HWm HWs em es
    go_wp2_with fail
    refine Hm.out.mono ?_
    rintro e w6 ⟨rfl, rfl⟩
    go_wp2_with fail
    refine Hs.out.mono ?_
    rintro e w7 ⟨rfl, rfl⟩
    go_wp2_with fail
    go_ret
    exact ⟨rfl, HB.out⟩
theorem rounds_any (es : List Addr) (n k : Int) (w : World) (hz : Ez w es) :
    Calls Tryd.prog 12 #[.int .i64 n, .int .i64 k] w fun e w' => e = .returned (.bool true) ∧ Below w.heap.size w w' := by
  obtain ⟨ah, am, ar, -, -, -, hE⟩ := e3_of hz
  exact rounds_c ah am ar n k w hE
end Go.Proofs.YtnbjcdmiehnceaaDoor
