/-
  The law OpNames, walked. By an AI agent. No person has read it.
-/
import Derived.Test.YtgdcfjmpjhlndaaDoorOpE
namespace Go.Proofs.YtgdcfjmpjhlndaaDoor
open Go.RowKit

theorem Op.find_own : ∀ i : Nat, i < 18 → Op.find (Op.nm i) = 4 + (i : Int) := by decide +kernel
theorem Op.nm_apart : ∀ i, i < 18 → ∀ j, j < 18 → i ≠ j → (Op.nm i).toList ≠ (Op.nm j).toList := by decide +kernel
theorem Op.ins_one : ∀ i : Nat, i < 18 → 1 ≤ Op.ins (4 + (i : Int)) := by decide +kernel
theorem Op.name_at : ∀ i : Nat, i < 18 → Op.name (4 + (i : Int)) = Op.names.getD i [] := by decide +kernel
/-- How many of the first names are this one: none or one. -/
theorem Op.hits (s : ByteArray) (k : Nat) (hk : k ≤ 18) : ((List.range k).countP (Op.hit s) = 1 ∧ ∃ i, i < k ∧ Op.hit s i = true ∧ ∀ j, j < i → Op.hit s j = false) ∨ ((List.range k).countP (Op.hit s) = 0 ∧ ∀ j, j < k → Op.hit s j = false) := by
  induction k with
  | zero => exact .inr ⟨rfl, fun j hj => by omega⟩
  | succ k ih =>
    rw [List.range_succ, List.countP_append, List.countP_singleton]
    rcases ih (by omega) with ⟨h1, i, h2, h3, h4⟩ | ⟨h1, h2⟩
    · refine .inl ⟨?_, i, by omega, h3, h4⟩
      have : Op.hit s k = false := by
        cases h : Op.hit s k with
        | false => rfl
        | true =>
          have e1 : (Op.nm i).toList = s.toList := eq_of_beq h3
          have e2 : (Op.nm k).toList = s.toList := eq_of_beq h
          exact absurd (e1.trans e2.symm) (Op.nm_apart i (by omega) k (by omega) (by omega))
      rw [h1, this]
      rfl
    · cases h : Op.hit s k with
      | false =>
        refine .inr ⟨by rw [h1]; rfl, fun j hj => ?_⟩
        by_cases e : j = k
        · rw [e]; exact h
        · exact h2 j (by omega)
      | true => exact .inl ⟨by rw [h1]; rfl, k, by omega, h, h2⟩
set_option maxRecDepth 100000 in
set_option maxHeartbeats 8000000 in
theorem opnames_c (s : ByteArray) (ah am ar ak : Addr) (w : World) (hE : E4 w ah am ar ak) (hK : Kz w) :
    Calls Tryd.prog 6 #[.string s] w fun e w' => e = .returned (.bool true) ∧ Below w.heap.size w w' := by
  have HF := hide (first12_c ah am ar ak w hE hK)
  have HK := hide (fun W (h : Below w.heap.size w W) => hK.below h)
  clear hE hK
  go_enter Tryd.func6, Tryd.ntmps6
  go_wp2_with fail
  refine HF.out.mono ?_
  rintro e w1 ⟨rfl, hb⟩
  have HB := hide hb
  clear hb HF
  go_wp2_with fail
  go_loopg [4, 5, 6, 7] 18 (fun gq sv k _ _ wr => ∃ i : Nat, gq + i = 18 ∧ k = .int .i64 ((i : Int) + 4) ∧ sv = .int .i64 ((List.range i).countP (Op.hit s) : Nat) ∧ Hid (Below w.heap.size w wr))
  case atStart => exact ⟨0, by omega, rfl, rfl, HB⟩
  case round =>
    clear HB
    obtain ⟨i, hi9, rfl, rfl, HB⟩ := hrel
    obtain ⟨sc, hsc⟩ : ∃ x, Hid ((List.range i).countP (Op.hit s) = x) := ⟨_, hide rfl⟩
    rw [hsc.out]
    have hcb : sc ≤ 1 := by
      have h := Op.hits s i (by omega)
      rw [hsc.out] at h
      omega
    obtain ⟨op, hop⟩ : ∃ op : Int, Hid ((i : Int) + 4 = op) := ⟨_, hide rfl⟩
    rw [hop.out]
    by_cases hlt : i < 18
    · have hii : op ≤ 21 := by have := hop.out; omega
      have e4 : 4 + (i : Int) = op := by have := hop.out; omega
      have HNM := hide (fun W (h : Below w.heap.size w W) => opname_c op W (HK.out W h))
      have hnm : Op.str (Op.name op) = .string (Op.nm i) := by rw [← e4, Op.name_at i hlt]; rfl
      rw [hnm] at HNM
      have HND := hide (fun W (h : Below w.heap.size w W) => opnamed_c (Op.nm i) W (HK.out W h))
      rw [Op.find_own i hlt, e4] at HND
      have hne : (op != 0) = true := by simp; omega
      rw [hne] at HND
      have HKN := hide (fun W => opknown_c op W)
      rw [decide_eq_true (show Op.known op from ⟨by omega, hii⟩)] at HKN
      have HIN := hide (fun W (h : Below w.heap.size w W) => opins_c op W (HK.out W h))
      obtain ⟨ni, hni⟩ : ∃ x, Hid (Op.ins op = x) := ⟨_, hide rfl⟩
      have hn1 : 1 ≤ ni := by rw [← hni.out, ← e4]; exact Op.ins_one i hlt
      rw [hni.out] at HIN
      have hni1 : ¬ (ni : Int) < 1 := by omega
      have hop2 : op ≤ 22 := by omega
      have hop0 : 4 ≤ op := by omega
      have hbb : (op != op) = false := by simp
      obtain ⟨nm, hnme⟩ : ∃ x, Hid (Op.nm i = x) := ⟨_, hide rfl⟩
      rw [hnme.out] at HNM HND
      have HC1 : Hid ((List.range (i + 1)).countP (Op.hit s) = sc + (if Op.hit s i = true then 1 else 0)) := hide (by
        rw [List.range_succ, List.countP_append, List.countP_singleton, hsc.out])
      clear hnm e4 hne hn1 hni
      go_wp2_with fail
      refine (HNM.out _ HB.out).mono ?_
      rintro e w2 ⟨rfl, hb⟩
      replace HB := hide (HB.out.trans (hb.mono HB.out.size))
      clear hb
      go_wp2_with fail
      refine (HND.out _ HB.out).mono ?_
      rintro e w3 ⟨rfl, hb⟩
      replace HB := hide (HB.out.trans (hb.mono HB.out.size))
      clear hb HND
      go_wp2_with fail
      refine (HKN.out _).mono ?_
      rintro e wq ⟨rfl, hw⟩
      have hw := hw.symm
      subst hw
      go_wp2_with fail
      refine (HIN.out _ HB.out).mono ?_
      rintro e w4 ⟨rfl, hb⟩
      replace HB := hide (HB.out.trans (hb.mono HB.out.size))
      clear hb HIN HKN
      go_wp2_with fail
      refine (HNM.out _ HB.out).mono ?_
      rintro e w5 ⟨rfl, hb⟩
      replace HB := hide (HB.out.trans (hb.mono HB.out.size))
      clear hb HNM
      cases hh : Op.hit s i with
      | true =>
        have hq : (nm.toList == s.toList) = true := by rw [← hnme.out]; exact hh
        have HC2 : Hid ((List.range (i + 1)).countP (Op.hit s) = sc + 1) := hide (by rw [HC1.out, hh]; rfl)
        have hs64 : (sc : Int) + 1 ≤ 3 := by omega
        clear hh
        go_wp2_with fail
        go_roundg (18 - (i + 1))
        case measure => omega
        case rel => exact ⟨i + 1, by omega, by have := hop.out; subst this; go_num, by rw [HC2.out]; go_num, HB⟩
      | false =>
        have hq : (nm.toList == s.toList) = false := by rw [← hnme.out]; exact hh
        have HC2 : Hid ((List.range (i + 1)).countP (Op.hit s) = sc) := hide (by rw [HC1.out, hh]; rfl)
        clear hh
        go_wp2_with fail
        go_roundg (18 - (i + 1))
        case measure => omega
        case rel => exact ⟨i + 1, by omega, by have := hop.out; subst this; go_num, by rw [HC2.out], HB⟩
    · obtain rfl : i = 18 := by omega
      have hii : ¬ op ≤ 21 := by have := hop.out; omega
      have HND := hide (fun W (h : Below w.heap.size w W) => opnamed_c s W (HK.out W h))
      have HNM := hide (fun W (h : Below w.heap.size w W) => opname_c 0 W (HK.out W h))
      have hnm : Op.str (Op.name 0) = .string ⟨#[]⟩ := rfl
      rw [hnm] at HNM
      have HK3 := hide (fun W => opknown_c 3 W)
      have HK22 := hide (fun W => opknown_c 22 W)
      rw [decide_eq_false (show ¬ Op.known 3 by decide)] at HK3
      rw [decide_eq_false (show ¬ Op.known 22 by decide)] at HK22
      obtain ⟨fd, hfd⟩ : ∃ x, Hid (Op.find s = x) := ⟨_, hide rfl⟩
      have hfc : (sc = 1 ∧ (fd != 0) = true) ∨ (sc = 0 ∧ fd = 0) := by
        rcases Op.hits s 18 (Nat.le_refl _) with ⟨h1, j, h2, h3, h4⟩ | ⟨h1, h2⟩
        · rw [hsc.out] at h1
          have h5 := Op.find_hit h2 h3 h4
          rw [hfd.out] at h5
          exact .inl ⟨h1, by simp; omega⟩
        · rw [hsc.out] at h1
          have h5 := Op.find_none h2
          rw [hfd.out] at h5
          exact .inr ⟨h1, h5⟩
      rw [hfd.out] at HND
      clear hnm
      go_wp2_with fail
      refine (HND.out _ HB.out).mono ?_
      rintro e w2 ⟨rfl, hb⟩
      replace HB := hide (HB.out.trans (hb.mono HB.out.size))
      clear hb HND hsc hcb
      rcases hfc with ⟨rfl, hf⟩ | ⟨rfl, rfl⟩
      · rw [hf]
        clear hf
        go_wp2_with fail
        refine (HK3.out _).mono ?_
        rintro e wq ⟨rfl, hw⟩
        have hw := hw.symm
        subst hw
        go_wp2_with fail
        refine (HK22.out _).mono ?_
        rintro e wq ⟨rfl, hw⟩
        have hw := hw.symm
        subst hw
        go_wp2_with fail
        refine (HNM.out _ HB.out).mono ?_
        rintro e w3 ⟨rfl, hb⟩
        replace HB := hide (HB.out.trans (hb.mono HB.out.size))
        clear hb HNM
        go_wp2_with fail
        go_ret
        exact ⟨rfl, HB.out⟩
      · go_wp2_with fail
        refine (HK3.out _).mono ?_
        rintro e wq ⟨rfl, hw⟩
        have hw := hw.symm
        subst hw
        go_wp2_with fail
        refine (HK22.out _).mono ?_
        rintro e wq ⟨rfl, hw⟩
        have hw := hw.symm
        subst hw
        go_wp2_with fail
        refine (HNM.out _ HB.out).mono ?_
        rintro e w3 ⟨rfl, hb⟩
        replace HB := hide (HB.out.trans (hb.mono HB.out.size))
        clear hb HNM
        go_wp2_with fail
        go_ret
        exact ⟨rfl, HB.out⟩
end Go.Proofs.YtgdcfjmpjhlndaaDoor
