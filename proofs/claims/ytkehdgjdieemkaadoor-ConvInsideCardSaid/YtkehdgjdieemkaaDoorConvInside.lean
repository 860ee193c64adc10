/-
  The law ConvInside, walked. By an AI agent. No person has read it.
-/
import Derived.Test.YtkehdgjdieemkaaDoorCnvF
namespace Go.Proofs.YtkehdgjdieemkaaDoor
open Go.RowKit

/-- The numbers from f on, m of them. -/
def Cv.ints (f m : Nat) : List Int := (List.range m).map fun i => ((f + i : Nat) : Int)
theorem Cv.ints_length (f m : Nat) : (Cv.ints f m).length = m := by simp [Cv.ints]
theorem Cv.ints_succ (f m : Nat) : Cv.ints f (m + 1) = Cv.ints f m ++ [((f + m : Nat) : Int)] := by
  unfold Cv.ints
  rw [List.range_succ, List.map_append]
  rfl
theorem Cv.ints_at (f m i : Nat) (h : i < m) : (Cv.ints f m)[i]? = some ((f + i : Nat) : Int) := by simp [Cv.ints, h]
theorem Cv.ins_some (n k s p o : Int) : (Cv.ins n k s p o).1 < (Cv.ins n k s p o).2 ∨ Cv.ins n k s p o = (0, 0) := by
  unfold Cv.ins
  split
  · exact .inr rfl
  · rename_i h
    exact .inl (by show max 0 (p - o * s) < min k (n - (o * s - p)); omega)
theorem cv_own {w : World} {base n s : Nat} {e : TypeId} {v : Value} {xs : List Value} (h : w.ownsRow base e s v n xs) : ∃ P c, v = .slice P n c := by
  rcases h.2 with ⟨rfl, rfl⟩ | ⟨g, c, cur, rfl, -⟩
  · exact ⟨none, 0, rfl⟩
  · exact ⟨_, c, rfl⟩
set_option maxRecDepth 100000 in
set_option maxHeartbeats 8000000 in
theorem insidelaw_c (n k s p o : Int) (ah am ar : Addr) (w : World) (hE : E3 w ah am ar) :
    Calls Tryd.prog 8 #[.int .i64 n, .int .i64 k, .int .i64 s, .int .i64 p, .int .i64 o] w fun e w' => e = .returned (.bool true) ∧ Below w.heap.size w w' := by
  have HF := hide (first9_c ah am ar w hE)
  clear hE
--BIG
  by_cases big_n : 40 < n
  · go_enter Tryd.func8, Tryd.ntmps8
    go_wp2_with fail
    refine HF.out.mono ?_
    rintro e w1 ⟨rfl, hb⟩
    have HB := hide hb
    clear hb HF
    go_wp2_with fail
    go_ret
    exact ⟨rfl, HB.out⟩
  by_cases big_k : 40 < k
  · go_enter Tryd.func8, Tryd.ntmps8
    go_wp2_with fail
    refine HF.out.mono ?_
    rintro e w1 ⟨rfl, hb⟩
    have HB := hide hb
    clear hb HF
    go_wp2_with fail
    go_ret
    exact ⟨rfl, HB.out⟩
  by_cases big_s : 40 < s
  · go_enter Tryd.func8, Tryd.ntmps8
    go_wp2_with fail
    refine HF.out.mono ?_
    rintro e w1 ⟨rfl, hb⟩
    have HB := hide hb
    clear hb HF
    go_wp2_with fail
    go_ret
    exact ⟨rfl, HB.out⟩
  by_cases big_p : 40 < p
  · go_enter Tryd.func8, Tryd.ntmps8
    go_wp2_with fail
    refine HF.out.mono ?_
    rintro e w1 ⟨rfl, hb⟩
    have HB := hide hb
    clear hb HF
    go_wp2_with fail
    go_ret
    exact ⟨rfl, HB.out⟩
  by_cases big_o : 40 < o
  · go_enter Tryd.func8, Tryd.ntmps8
    go_wp2_with fail
    refine HF.out.mono ?_
    rintro e w1 ⟨rfl, hb⟩
    have HB := hide hb
    clear hb HF
    go_wp2_with fail
    go_ret
    exact ⟨rfl, HB.out⟩
--/BIG
--BAD
  by_cases bad0 : n < 0
  · have HK := hide (fun W => cvinside_bad n k s p o W (by omega))
    obtain ⟨mx, hmx⟩ : ∃ x, (if k < (0 : Int) then 0 else k) = x := ⟨_, rfl⟩
    have hm0 : (0 : Int) ≤ mx := by rw [← hmx]; split <;> omega
    go_enter Tryd.func8, Tryd.ntmps8
    go_wp2_with fail
    refine HF.out.mono ?_
    rintro e w1 ⟨rfl, hb⟩
    have HB := hide hb
    clear hb HF
    go_wp2_with fail
    refine (HK.out w1).mono ?_
    rintro e w9 ⟨rfl, hw⟩
    have hw := hw.symm
    subst hw
    go_wp2_with fail
    go_ret
    first
      | exact ⟨rfl, HB.out⟩
      | (refine ⟨?_, HB.out⟩; show Ending.returned (.bool (decide ((0 : Int) ≤ k))) = _; rw [decide_eq_true (by omega)])
  by_cases bad1 : k < 1
  · have HK := hide (fun W => cvinside_bad n k s p o W (by omega))
    obtain ⟨mx, hmx⟩ : ∃ x, (if k < (0 : Int) then 0 else k) = x := ⟨_, rfl⟩
    have hm0 : (0 : Int) ≤ mx := by rw [← hmx]; split <;> omega
    go_enter Tryd.func8, Tryd.ntmps8
    go_wp2_with fail
    refine HF.out.mono ?_
    rintro e w1 ⟨rfl, hb⟩
    have HB := hide hb
    clear hb HF
    go_wp2_with fail
    refine (HK.out w1).mono ?_
    rintro e w9 ⟨rfl, hw⟩
    have hw := hw.symm
    subst hw
    go_wp2_with fail
    go_ret
    first
      | exact ⟨rfl, HB.out⟩
      | (refine ⟨?_, HB.out⟩; show Ending.returned (.bool (decide ((0 : Int) ≤ k))) = _; rw [decide_eq_true (by omega)])
  by_cases bad2 : s < 1
  · have HK := hide (fun W => cvinside_bad n k s p o W (by omega))
    obtain ⟨mx, hmx⟩ : ∃ x, (if k < (0 : Int) then 0 else k) = x := ⟨_, rfl⟩
    have hm0 : (0 : Int) ≤ mx := by rw [← hmx]; split <;> omega
    go_enter Tryd.func8, Tryd.ntmps8
    go_wp2_with fail
    refine HF.out.mono ?_
    rintro e w1 ⟨rfl, hb⟩
    have HB := hide hb
    clear hb HF
    go_wp2_with fail
    refine (HK.out w1).mono ?_
    rintro e w9 ⟨rfl, hw⟩
    have hw := hw.symm
    subst hw
    go_wp2_with fail
    go_ret
    first
      | exact ⟨rfl, HB.out⟩
      | (refine ⟨?_, HB.out⟩; show Ending.returned (.bool (decide ((0 : Int) ≤ k))) = _; rw [decide_eq_true (by omega)])
  by_cases bad3 : p < 0
  · have HK := hide (fun W => cvinside_bad n k s p o W (by omega))
    obtain ⟨mx, hmx⟩ : ∃ x, (if k < (0 : Int) then 0 else k) = x := ⟨_, rfl⟩
    have hm0 : (0 : Int) ≤ mx := by rw [← hmx]; split <;> omega
    go_enter Tryd.func8, Tryd.ntmps8
    go_wp2_with fail
    refine HF.out.mono ?_
    rintro e w1 ⟨rfl, hb⟩
    have HB := hide hb
    clear hb HF
    go_wp2_with fail
    refine (HK.out w1).mono ?_
    rintro e w9 ⟨rfl, hw⟩
    have hw := hw.symm
    subst hw
    go_wp2_with fail
    go_ret
    first
      | exact ⟨rfl, HB.out⟩
      | (refine ⟨?_, HB.out⟩; show Ending.returned (.bool (decide ((0 : Int) ≤ k))) = _; rw [decide_eq_true (by omega)])
  by_cases bad4 : o < 0
  · have HK := hide (fun W => cvinside_bad n k s p o W (by omega))
    obtain ⟨mx, hmx⟩ : ∃ x, (if k < (0 : Int) then 0 else k) = x := ⟨_, rfl⟩
    have hm0 : (0 : Int) ≤ mx := by rw [← hmx]; split <;> omega
    go_enter Tryd.func8, Tryd.ntmps8
    go_wp2_with fail
    refine HF.out.mono ?_
    rintro e w1 ⟨rfl, hb⟩
    have HB := hide hb
    clear hb HF
    go_wp2_with fail
    refine (HK.out w1).mono ?_
    rintro e w9 ⟨rfl, hw⟩
    have hw := hw.symm
    subst hw
    go_wp2_with fail
    go_ret
    first
      | exact ⟨rfl, HB.out⟩
      | (refine ⟨?_, HB.out⟩; show Ending.returned (.bool (decide ((0 : Int) ≤ k))) = _; rw [decide_eq_true (by omega)])
  by_cases bad5 : n < 1
  · have HK := hide (fun W => cvinside_bad n k s p o W (by omega))
    obtain ⟨mx, hmx⟩ : ∃ x, (if k < (0 : Int) then 0 else k) = x := ⟨_, rfl⟩
    have hm0 : (0 : Int) ≤ mx := by rw [← hmx]; split <;> omega
    go_enter Tryd.func8, Tryd.ntmps8
    go_wp2_with fail
    refine HF.out.mono ?_
    rintro e w1 ⟨rfl, hb⟩
    have HB := hide hb
    clear hb HF
    go_wp2_with fail
    refine (HK.out w1).mono ?_
    rintro e w9 ⟨rfl, hw⟩
    have hw := hw.symm
    subst hw
    go_wp2_with fail
    go_ret
    first
      | exact ⟨rfl, HB.out⟩
      | (refine ⟨?_, HB.out⟩; show Ending.returned (.bool (decide ((0 : Int) ≤ k))) = _; rw [decide_eq_true (by omega)])
--/BAD
  have HK := hide (fun W => cvinside_good n k s p o W ⟨by omega, by omega⟩ ⟨by omega, by omega⟩ ⟨by omega, by omega⟩ ⟨by omega, by omega⟩ ⟨by omega, by omega⟩)
  obtain ⟨n, rfl⟩ : ∃ x : Nat, n = x := ⟨n.toNat, by omega⟩
  obtain ⟨k, rfl⟩ : ∃ x : Nat, k = x := ⟨k.toNat, by omega⟩
  obtain ⟨s, rfl⟩ : ∃ x : Nat, s = x := ⟨s.toNat, by omega⟩
  obtain ⟨p, rfl⟩ : ∃ x : Nat, p = x := ⟨p.toNat, by omega⟩
  obtain ⟨o, rfl⟩ : ∃ x : Nat, o = x := ⟨o.toNat, by omega⟩
  obtain ⟨f, t, hin, hft, htk, hI⟩ := Cv.ins_nat n k s p o
  have hsm := Cv.ins_some n k s p o
  rw [hin] at HK hsm
  have hsm2 : f < t ∨ (f = 0 ∧ t = 0) := by
    rcases hsm with h | h
    · exact .inl (Int.ofNat_lt.1 h)
    · have h1 := congrArg Prod.fst h
      have h2 := congrArg Prod.snd h
      exact .inr ⟨Int.ofNat.inj h1, Int.ofNat.inj h2⟩
  have HSM := hide hsm2
  have HI := hide hI
  have hos : o * s ≤ 40 * 40 := Nat.mul_le_mul (by omega) (by omega)
  have HOS := hide hos
  clear hin hsm hsm2 hI hos
  go_enter Tryd.func8, Tryd.ntmps8
  go_wp2_with fail
  refine HF.out.mono ?_
  rintro e w1 ⟨rfl, hb⟩
  have HB := hide hb
  clear hb HF
  go_wp2_with fail
  refine (HK.out w1).mono ?_
  rintro e w9 ⟨rfl, hw⟩
  have hw := hw.symm
  subst hw
  clear HK
  go_wp2_with fail
  go_loopg [14, 15] k (fun q v d wr => ∃ (i m : Nat), q + i = k ∧ d = .int .i64 i ∧ Hid (min i t - f = m) ∧ Hid (wr.ownsRow w.heap.size 3 1 v m (i64s (Cv.ints f m))) ∧ Hid (Below w.heap.size w wr))
  case atStart => exact ⟨0, 0, by omega, rfl, hide (by omega), hide (World.ownsRow_nil _ _ _ _), HB⟩
  case round =>
    clear HB
    rename_i v
    obtain ⟨i, m, hi, rfl, HM, HO, HB⟩ := hrel
    by_cases hik : i < k
    · have hik' : (i : Int) < (k : Int) := by omega
      obtain ⟨os, hoe⟩ : ∃ x, Hid (o * s = x) := ⟨_, hide rfl⟩
      obtain ⟨y, hy⟩ : ∃ x, Hid ((os : Int) - (p : Int) = x) := ⟨_, hide rfl⟩
      obtain ⟨x, hx⟩ : ∃ z, Hid (y + (i : Int) = z) := ⟨_, hide rfl⟩
      have hosb := HOS.out
      rw [hoe.out] at hosb
      have Hw1 : Hid (wrap64 ((o : Int) * (s : Int)) = (os : Int)) := hide (by rw [← Int.natCast_mul, hoe.out]; unfold wrap64; omega)
      have Hw2 : Hid (wrap64 ((os : Int) - (p : Int)) = y) := hide (by rw [hy.out]; have := hy.out; unfold wrap64; omega)
      have Hw3 : Hid (wrap64 (y + (i : Int)) = x) := hide (by have := hy.out; have := hx.out; unfold wrap64; omega)
      have hh := HI.out i hik
      unfold Cv.here at hh
      rw [hoe.out] at hh
      have hxe : x = (os : Int) - (p : Int) + (i : Int) := by have := hy.out; have := hx.out; omega
      have HX1 : Hid ((f ≤ i ∧ i < t) ↔ (0 ≤ x ∧ x < (n : Int))) := hide (by rw [hh, hxe]; omega)
      clear hh hxe hosb
      have hw1 := Hw1.out
      have hw2 := Hw2.out
      have hw3 := Hw3.out
      by_cases hin : f ≤ i ∧ i < t
      · obtain ⟨hx0, hxn⟩ := HX1.out.1 hin
        have hmi : Hid (f + m = i) := hide (by have := HM.out; omega)
        have hown2 := hide (HO.out.alloc (.cells #[.int .i64 (i : Int)] 3))
        have hB3 := hide (HB.out.alloc HB.out.size (.cells #[.int .i64 (i : Int)] 3))
        have hr3 := hide (new_ri wr 3 [(i : Int)] (fun z hz => by rw [List.mem_singleton.1 hz]; omega))
        have hs3 := hide hB3.out.size
        have hn3 := hide (show m + 1 ≤ 1000000000000 by have := hmi.out; omega)
        have HIN := hide hin
        clear hin
        go_wp2_with (at_builtin; refine wpList_append_is rfl (.tmp 106) (.tmp 108) rfl w.heap.size _ m (i64s (Cv.ints f m)) rfl hown2.out (some ⟨wr.heap.size, 0, none⟩) 1 1 [(i : Int)] rfl (hide rfl) hr3.out hn3.out hs3.out ?_)
        intro v4 w4 o1 o2 o3
        have HB4 := hide (elm_grown hB3.out hown2.out hB3.out.size o2)
        have HO4 : Hid (w4.ownsRow w.heap.size 3 1 v4 (m + 1) (i64s (Cv.ints f (m + 1)))) := hide (by
          rw [Cv.ints_succ, hmi.out]
          simpa [i64s] using o1)
        clear o1 o2 o3 hown2 hB3 hr3 hs3 hn3
        go_wp2_with fail
        go_roundg (k - (i + 1))
        case measure => omega
        case rel => exact ⟨i + 1, m + 1, by omega, by go_num, hide (by have := HM.out; have := HIN.out; omega), HO4, HB4⟩
      · have hno : ¬ (0 ≤ x ∧ x < (n : Int)) := fun h => hin (HX1.out.2 h)
        have HM2 : Hid (min (i + 1) t - f = m) := hide (by have := HM.out; omega)
        clear hin
        by_cases hx0 : x < 0
        · clear hno
          go_wp2_with fail
          go_roundg (k - (i + 1))
          case measure => omega
          case rel => exact ⟨i + 1, m, by omega, by go_num, HM2, HO, HB⟩
        · have hxn : (n : Int) ≤ x := by omega
          have hx1 : 0 ≤ x := by omega
          clear hno hx0
          go_wp2_with fail
          go_roundg (k - (i + 1))
          case measure => omega
          case rel => exact ⟨i + 1, m, by omega, by go_num, HM2, HO, HB⟩
    · obtain rfl : i = k := by omega
      obtain ⟨P, cc, rfl⟩ := cv_own HO.out
      by_cases hm0 : m = 0
      · subst hm0
        have hf0 : f = 0 ∧ t = 0 := by
          have h1 := HM.out
          rcases HSM.out with h | h
          · omega
          · exact h
        obtain ⟨rfl, rfl⟩ := hf0
        clear HO HM HSM HI
        go_wp2_with fail
        go_ret
        exact ⟨rfl, HB.out⟩
      · obtain ⟨g, cap, rest, hv, hl, -, -, -, hH⟩ := own_has HO.out (by
          intro h
          injection h with h1 h2 h3
          exact hm0 h2)
        obtain ⟨rfl, rfl⟩ : P = some ⟨g, 0, none⟩ ∧ cc = cap := by
          injection hv with h1 h2 h3
          exact ⟨h1, h3⟩
        have hft2 : Hid (f + m = t) := hide (by have := HM.out; omega)
        obtain ⟨m1, hm1⟩ : ∃ x, Hid (x + 1 = m) := ⟨m - 1, hide (by omega)⟩
        obtain ⟨e1, he1⟩ : ∃ x, Hid (f + m1 = x) := ⟨_, hide rfl⟩
        have c0 : wr.cell? ⟨g, 0, none⟩ = some (.int .i64 f) := by
          rw [hH.cell, List.getElem?_append_left (by simp [hl]; omega)]
          unfold i64s
          rw [List.getElem?_map, Cv.ints_at f m 0 (by omega)]
          rfl
        have c1 : wr.cell? ⟨g, m1, none⟩ = some (.int .i64 e1) := by
          rw [hH.cell, List.getElem?_append_left (by simp [hl]; have := hm1.out; omega)]
          unfold i64s
          rw [List.getElem?_map, Cv.ints_at f m m1 (by have := hm1.out; omega), he1.out]
          rfl
        have hmb : m ≤ 40 := by have := hft2.out; omega
        have hw1 : wrap64 ((m : Int) - 1) = (m1 : Int) := by have := hm1.out; unfold wrap64; omega
        have hw2 : wrap64 ((e1 : Int) + 1) = (t : Int) := by have := hm1.out; have := he1.out; have := hft2.out; unfold wrap64; omega
        have h10 : (0 : Int) ≤ (m1 : Int) := by omega
        have h11 : (m1 : Int) < (m : Int) := by have := hm1.out; omega
        have h12 : (0 : Int) < (m : Int) := by omega
        have hm0' : ¬ ((m : Int) = 0) := by omega
        have hmb' : ((m : Int) == 0) = false := by simp; omega
        clear HO HM HSM HI hH hl hv hm0 hmb
        go_wp2_with fail
        go_ret
        exact ⟨rfl, HB.out⟩
end Go.Proofs.YtkehdgjdieemkaaDoor
