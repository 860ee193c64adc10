/-
  lodgeref3.Ins, Args, Name of any number; a name names its operation. By an AI agent. No person has read it.
-/
import Derived.Test.YtgdcfjmpjhlndaaGreatDoorZOOpH
namespace Go.Proofs.YtgdcfjmpjhlndaaGreatDoor
open Go.RowKit
set_option maxRecDepth 100000 in
theorem rins4 (w : World) : Calls Tryz.prog 28 #[.int .i64 4] w fun e w' => e = .returned (.int .i64 2) ∧ w' = w := by
 go_enter Tryz.func28, Tryz.ntmps28
 go_wp2_with fail
 go_ret
 exact ⟨rfl, rfl⟩
set_option maxRecDepth 100000 in
theorem rargs4 (w : World) : Calls Tryz.prog 30 #[.int .i64 4] w fun e w' => e = .returned (.int .i64 0) ∧ w' = w := by
 go_enter Tryz.func30, Tryz.ntmps30
 go_wp2_with fail
 go_ret
 exact ⟨rfl, rfl⟩
set_option maxRecDepth 100000 in
theorem rins5 (w : World) : Calls Tryz.prog 28 #[.int .i64 5] w fun e w' => e = .returned (.int .i64 2) ∧ w' = w := by
 go_enter Tryz.func28, Tryz.ntmps28
 go_wp2_with fail
 go_ret
 exact ⟨rfl, rfl⟩
set_option maxRecDepth 100000 in
theorem rargs5 (w : World) : Calls Tryz.prog 30 #[.int .i64 5] w fun e w' => e = .returned (.int .i64 0) ∧ w' = w := by
 go_enter Tryz.func30, Tryz.ntmps30
 go_wp2_with fail
 go_ret
 exact ⟨rfl, rfl⟩
set_option maxRecDepth 100000 in
theorem rins6 (w : World) : Calls Tryz.prog 28 #[.int .i64 6] w fun e w' => e = .returned (.int .i64 2) ∧ w' = w := by
 go_enter Tryz.func28, Tryz.ntmps28
 go_wp2_with fail
 go_ret
 exact ⟨rfl, rfl⟩
set_option maxRecDepth 100000 in
theorem rargs6 (w : World) : Calls Tryz.prog 30 #[.int .i64 6] w fun e w' => e = .returned (.int .i64 0) ∧ w' = w := by
 go_enter Tryz.func30, Tryz.ntmps30
 go_wp2_with fail
 go_ret
 exact ⟨rfl, rfl⟩
set_option maxRecDepth 100000 in
theorem rins7 (w : World) : Calls Tryz.prog 28 #[.int .i64 7] w fun e w' => e = .returned (.int .i64 2) ∧ w' = w := by
 go_enter Tryz.func28, Tryz.ntmps28
 go_wp2_with fail
 go_ret
 exact ⟨rfl, rfl⟩
set_option maxRecDepth 100000 in
theorem rargs7 (w : World) : Calls Tryz.prog 30 #[.int .i64 7] w fun e w' => e = .returned (.int .i64 0) ∧ w' = w := by
 go_enter Tryz.func30, Tryz.ntmps30
 go_wp2_with fail
 go_ret
 exact ⟨rfl, rfl⟩
set_option maxRecDepth 100000 in
theorem rins8 (w : World) : Calls Tryz.prog 28 #[.int .i64 8] w fun e w' => e = .returned (.int .i64 1) ∧ w' = w := by
 have HK := hide (fun W => rknown_c 8 W)
 rw [decide_eq_true (show Op.known 8 from ⟨by decide, by decide⟩)] at HK
 go_enter Tryz.func28, Tryz.ntmps28
 go_wp2_with fail
 refine (HK.out _).mono ?_
 rintro e wq ⟨rfl, hw⟩
 have hw := hw.symm
 subst hw
 go_wp2_with fail
 go_ret
 exact ⟨rfl, rfl⟩
set_option maxRecDepth 100000 in
theorem rargs8 (w : World) : Calls Tryz.prog 30 #[.int .i64 8] w fun e w' => e = .returned (.int .i64 0) ∧ w' = w := by
 go_enter Tryz.func30, Tryz.ntmps30
 go_wp2_with fail
 go_ret
 exact ⟨rfl, rfl⟩
set_option maxRecDepth 100000 in
theorem rins9 (w : World) : Calls Tryz.prog 28 #[.int .i64 9] w fun e w' => e = .returned (.int .i64 1) ∧ w' = w := by
 have HK := hide (fun W => rknown_c 9 W)
 rw [decide_eq_true (show Op.known 9 from ⟨by decide, by decide⟩)] at HK
 go_enter Tryz.func28, Tryz.ntmps28
 go_wp2_with fail
 refine (HK.out _).mono ?_
 rintro e wq ⟨rfl, hw⟩
 have hw := hw.symm
 subst hw
 go_wp2_with fail
 go_ret
 exact ⟨rfl, rfl⟩
set_option maxRecDepth 100000 in
theorem rargs9 (w : World) : Calls Tryz.prog 30 #[.int .i64 9] w fun e w' => e = .returned (.int .i64 2) ∧ w' = w := by
 go_enter Tryz.func30, Tryz.ntmps30
 go_wp2_with fail
 go_ret
 exact ⟨rfl, rfl⟩
set_option maxRecDepth 100000 in
theorem rins10 (w : World) : Calls Tryz.prog 28 #[.int .i64 10] w fun e w' => e = .returned (.int .i64 1) ∧ w' = w := by
 have HK := hide (fun W => rknown_c 10 W)
 rw [decide_eq_true (show Op.known 10 from ⟨by decide, by decide⟩)] at HK
 go_enter Tryz.func28, Tryz.ntmps28
 go_wp2_with fail
 refine (HK.out _).mono ?_
 rintro e wq ⟨rfl, hw⟩
 have hw := hw.symm
 subst hw
 go_wp2_with fail
 go_ret
 exact ⟨rfl, rfl⟩
set_option maxRecDepth 100000 in
theorem rargs10 (w : World) : Calls Tryz.prog 30 #[.int .i64 10] w fun e w' => e = .returned (.int .i64 3) ∧ w' = w := by
 go_enter Tryz.func30, Tryz.ntmps30
 go_wp2_with fail
 go_ret
 exact ⟨rfl, rfl⟩
set_option maxRecDepth 100000 in
theorem rins11 (w : World) : Calls Tryz.prog 28 #[.int .i64 11] w fun e w' => e = .returned (.int .i64 1) ∧ w' = w := by
 have HK := hide (fun W => rknown_c 11 W)
 rw [decide_eq_true (show Op.known 11 from ⟨by decide, by decide⟩)] at HK
 go_enter Tryz.func28, Tryz.ntmps28
 go_wp2_with fail
 refine (HK.out _).mono ?_
 rintro e wq ⟨rfl, hw⟩
 have hw := hw.symm
 subst hw
 go_wp2_with fail
 go_ret
 exact ⟨rfl, rfl⟩
set_option maxRecDepth 100000 in
theorem rargs11 (w : World) : Calls Tryz.prog 30 #[.int .i64 11] w fun e w' => e = .returned (.int .i64 1) ∧ w' = w := by
 go_enter Tryz.func30, Tryz.ntmps30
 go_wp2_with fail
 go_ret
 exact ⟨rfl, rfl⟩
set_option maxRecDepth 100000 in
theorem rins_none (op : Int) (h : ¬ Op.known op) (w : World) : Calls Tryz.prog 28 #[.int .i64 op] w fun e w' => e = .returned (.int .i64 0) ∧ w' = w := by
 have HK := hide (fun W => rknown_c op W)
 rw [decide_eq_false h] at HK
 have h2 : op < 4 ∨ 21 < op := by
  unfold Op.known at h
  omega
 clear h
 have f4 : (op == (4 : Int)) = false := by simp; omega
 have f5 : (op == (5 : Int)) = false := by simp; omega
 have f6 : (op == (6 : Int)) = false := by simp; omega
 have f7 : (op == (7 : Int)) = false := by simp; omega
 have f12 : (op == (12 : Int)) = false := by simp; omega
 have f13 : (op == (13 : Int)) = false := by simp; omega
 have f16 : (op == (16 : Int)) = false := by simp; omega
 have f17 : (op == (17 : Int)) = false := by simp; omega
 clear h2
 go_enter Tryz.func28, Tryz.ntmps28
 go_wp2_with fail
 refine (HK.out _).mono ?_
 rintro e wq ⟨rfl, hw⟩
 have hw := hw.symm
 subst hw
 go_wp2_with fail
 go_ret
 exact ⟨rfl, rfl⟩
set_option maxRecDepth 100000 in
theorem rargs_none (op : Int) (h : ¬ Op.known op) (w : World) : Calls Tryz.prog 30 #[.int .i64 op] w fun e w' => e = .returned (.int .i64 0) ∧ w' = w := by
 have h2 : op < 4 ∨ 21 < op := by
  unfold Op.known at h
  omega
 clear h
 have f9 : (op == (9 : Int)) = false := by simp; omega
 have f12 : (op == (12 : Int)) = false := by simp; omega
 have f14 : (op == (14 : Int)) = false := by simp; omega
 have f15 : (op == (15 : Int)) = false := by simp; omega
 have f10 : (op == (10 : Int)) = false := by simp; omega
 have f13 : (op == (13 : Int)) = false := by simp; omega
 have f11 : (op == (11 : Int)) = false := by simp; omega
 clear h2
 go_enter Tryz.func30, Tryz.ntmps30
 go_wp2_with fail
 go_ret
 exact ⟨rfl, rfl⟩
theorem rins_any (op : Int) (w : World) : Calls Tryz.prog 28 #[.int .i64 op] w fun e w' => e = .returned (.int .i64 (Op.ins op : Nat)) ∧ w' = w := by
 by_cases hk : Op.known op
 ·obtain ⟨h1, h2⟩ := hk
  by_cases h12 : 12 ≤ op
  ·exact rins_c op h12 h2 w
  ·have : op = 4 ∨ op = 5 ∨ op = 6 ∨ op = 7 ∨ op = 8 ∨ op = 9 ∨ op = 10 ∨ op = 11 := by omega
   rcases this with rfl | rfl | rfl | rfl | rfl | rfl | rfl | rfl
   ·exact rins4 w
   ·exact rins5 w
   ·exact rins6 w
   ·exact rins7 w
   ·exact rins8 w
   ·exact rins9 w
   ·exact rins10 w
   ·exact rins11 w
 ·rw [show Op.ins op = 0 from if_neg hk]
  exact rins_none op hk w
theorem rargs_any (op : Int) (w : World) : Calls Tryz.prog 30 #[.int .i64 op] w fun e w' => e = .returned (.int .i64 (Op.args op : Nat)) ∧ w' = w := by
 by_cases hk : Op.known op
 ·obtain ⟨h1, h2⟩ := hk
  by_cases h12 : 12 ≤ op
  ·exact rargs_c op h12 h2 w
  ·have : op = 4 ∨ op = 5 ∨ op = 6 ∨ op = 7 ∨ op = 8 ∨ op = 9 ∨ op = 10 ∨ op = 11 := by omega
   rcases this with rfl | rfl | rfl | rfl | rfl | rfl | rfl | rfl
   ·exact rargs4 w
   ·exact rargs5 w
   ·exact rargs6 w
   ·exact rargs7 w
   ·exact rargs8 w
   ·exact rargs9 w
   ·exact rargs10 w
   ·exact rargs11 w
 ·rw [show Op.args op = 0 from if_neg hk]
  exact rargs_none op hk w
set_option maxRecDepth 100000 in
theorem rnames_c (w : World) : Calls Tryz.prog 61 #[] w fun e w' => (∃ g, e = .returned (.slice (some ⟨g, 0, none⟩) 18 18) ∧ Has w' g 9 (Op.names.map Op.str)) ∧ Below w.heap.size w w' := by
 have HB : Hid (Below w.heap.size w (w.alloc (.cells (Op.names.map Op.str).toArray 9))) := hide ((Below.refl _ _).alloc (Nat.le_refl _) _)
 have HG := hide (Has.new w 9 (Op.names.map Op.str))
 go_enter Tryz.func61, Tryz.ntmps61
 go_wp2_with fail
 go_ret
 exact ⟨⟨w.heap.size, rfl, HG.out⟩, HB.out⟩
set_option maxRecDepth 100000 in
theorem rname_c (op : Int) (w : World) : Calls Tryz.prog 31 #[.int .i64 op] w fun e w' => e = .returned (Op.str (Op.name op)) ∧ Below w.heap.size w w' := by
 have HK := hide (fun W => rknown_c op W)
 have HN := hide (rnames_c w)
 by_cases hk : Op.known op
 ·rw [decide_eq_true hk] at HK
  obtain ⟨i, hi⟩ : ∃ i : Nat, (op - 4).toNat = i := ⟨_, rfl⟩
  have hop : op = (i : Int) + 4 ∧ i < 18 := by
   obtain ⟨h1, h2⟩ := hk
   omega
  have hc : (Op.names.map Op.str)[i]? = some (Op.str (Op.names.getD i [])) := by
   rw [List.getElem?_map, List.getD_eq_getElem?_getD]
   have : i < Op.names.length := hop.2
   rw [List.getElem?_eq_getElem this]
   rfl
  have hv : Op.str (Op.name op) = Op.str (Op.names.getD i []) := by
   unfold Op.name
   rw [if_pos hk, hi]
  rw [hv]
  obtain ⟨nm, hnm⟩ : ∃ nm : ByteArray, Op.str (Op.names.getD i []) = .string nm := ⟨_, rfl⟩
  rw [hnm] at hc ⊢
  have HC := hide hc
  have o1 : wrap64 (op - 4) = (i : Int) := by unfold wrap64; omega
  have h0 : (0 : Int) ≤ (i : Int) := by omega
  have h1 : (i : Int) < 18 := by omega
  clear hk hi hop hc hv hnm
  go_enter Tryz.func31, Tryz.ntmps31
  go_wp2_with fail
  refine (HK.out _).mono ?_
  rintro e wq ⟨rfl, hw⟩
  have hw := hw.symm
  subst hw
  go_wp2_with fail
  refine HN.out.mono ?_
  rintro e w2 ⟨⟨g, rfl, hg⟩, hb⟩
  have HB := hide hb
  have cc : w2.cell? ⟨g, i, none⟩ = some (.string nm) := by rw [hg.cell]; exact HC.out
  clear HK HN hb hg
  go_wp2_with fail
  go_ret
  exact ⟨rfl, HB.out⟩
 ·rw [decide_eq_false hk] at HK
  have hv : Op.str (Op.name op) = .string ⟨#[]⟩ := by
   unfold Op.name
   rw [if_neg hk]
   rfl
  rw [hv]
  clear hk hv HN
  go_enter Tryz.func31, Tryz.ntmps31
  go_wp2_with fail
  refine (HK.out _).mono ?_
  rintro e wq ⟨rfl, hw⟩
  have hw := hw.symm
  subst hw
  go_wp2_with fail
  go_ret
  exact ⟨rfl, Below.refl _ _⟩
theorem Op.find_name : ∀ i : Nat, i < 18 → Op.find (Op.nm i) = 4 + (i : Int) := by decide +kernel
theorem Op.find_empty : Op.find ⟨#[]⟩ = 0 := by decide +kernel
theorem Op.find_of (op : Int) : ∃ nm : ByteArray, Op.str (Op.name op) = .string nm ∧ Op.find nm = if Op.known op then op else 0 := by
 by_cases hk : Op.known op
 ·obtain ⟨i, hi⟩ : ∃ i : Nat, (op - 4).toNat = i := ⟨_, rfl⟩
  have hop : op = (i : Int) + 4 ∧ i < 18 := by
   obtain ⟨h1, h2⟩ := hk
   omega
  refine ⟨Op.nm i, ?_, ?_⟩
  ·unfold Op.name
   rw [if_pos hk, hi]
   rfl
  ·rw [if_pos hk, Op.find_name i hop.2]
   omega
 ·refine ⟨⟨#[]⟩, ?_, ?_⟩
  ·unfold Op.name
   rw [if_neg hk]
   rfl
  ·rw [if_neg hk]
   exact Op.find_empty
end Go.Proofs.YtgdcfjmpjhlndaaGreatDoor
