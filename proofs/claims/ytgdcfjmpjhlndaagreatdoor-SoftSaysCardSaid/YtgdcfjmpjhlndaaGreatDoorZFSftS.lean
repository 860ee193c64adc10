/-
  Package soft, and the reference, of operations that are none of its own. By an AI agent. No person has read it.
-/
import Derived.Test.YtgdcfjmpjhlndaaGreatDoorZFSftN
import Derived.Test.YtgdcfjmpjhlndaaGreatDoorZFRefR
namespace Go.Proofs.YtgdcfjmpjhlndaaGreatDoor
open Go.RowKit
set_option maxRecDepth 100000 in
theorem scounts_none (op : Int) (h : ¬ Sf.isOp op) (w : World) : Calls Tryz.prog 46 #[.int .i64 op] w fun e w' => e = .returned (.int .i64 0) ∧ w' = w := by
  have f1 : (op == (16 : Int)) = false := by simp; intro h2; exact h (.inl h2)
  have f2 : (op == (17 : Int)) = false := by simp; intro h2; exact h (.inr (.inl h2))
  have f3 : (op == (19 : Int)) = false := by simp; intro h2; exact h (.inr (.inr (.inl h2)))
  have f4 : (op == (20 : Int)) = false := by simp; intro h2; exact h (.inr (.inr (.inr h2)))
  clear h
  go_enter Tryz.func46, Tryz.ntmps46
  go_wp2_with fail
  go_ret
  exact ⟨rfl, rfl⟩
set_option maxRecDepth 100000 in
set_option maxHeartbeats 4000000 in
theorem sresult_none (op : Int) (h : ¬ Sf.isOp op) (B : Option Addr) (n cap : Nat) (ah am ar ak : Addr) (w : World) (hE : E4 w ah am ar ak) :
    Calls Tryz.prog 14 #[.int .i64 op, .slice B n cap] w fun e w' => e = .returned (.tuple #[.agg (dcells none 0 0 false), errv ak]) ∧ Below w.heap.size w w' := by
  obtain ⟨W0, hW0⟩ : ∃ W, W = w.alloc (.cells #[.slice none 0 0, .bool false] 24) := ⟨_, rfl⟩
  have HZ : Hid (Has W0 w.heap.size 24 [.slice none 0 0, .bool false]) := hide (by rw [hW0]; exact Has.new _ _ _)
  have HB0 : Hid (Below w.heap.size w W0) := hide (by rw [hW0]; exact (Below.refl _ _).alloc (Nat.le_refl _) _)
  have HW := hide hW0
  have HKn := hide (fun W => scounts_none op h W)
  have HEe := hide hE.2
  clear hE hW0 h
  go_enter Tryz.func14, Tryz.ntmps14
  go_wp2_with fail
  rw [← HW.out]
  clear HW
  refine (HKn.out _).mono ?_
  rintro e wq ⟨rfl, hw⟩
  have hw := hw.symm
  subst hw
  clear HKn
  obtain ⟨z0, z1, zf0, zf1, HZf, HFf⟩ := elm_twod HZ.out HB0.out (Nat.le_refl _) (.slice none 0 0) (.bool false)
  have hs5 : W0.drew.cell? ⟨0, 0, none⟩ = some (errv ak) := (HEe.out.below HB0.out).1
  have hglt : 0 < w.heap.size := HEe.out.2.1
  have hS9 := hide (HEe.out.below HFf.out).1
  go_wp2_with fail
  go_region_held3 (fun W => W.cell? ⟨0, 0, none⟩ = some (errv ak))
    (first | exact hs5 | assumption | exact hS9.out)
    (first | fail)
  go_wp2_with fail
  refine bodyPost_ret (results_desc rfl _ _ w.heap.size _ _ rfl HZf.out) rfl ?_
  exact ⟨rfl, HFf.out⟩
set_option maxRecDepth 100000 in
set_option maxHeartbeats 4000000 in
theorem slookof_none (op : Int) (h : ¬ Sf.isOp op) (ts : List Ten) (B : Option Addr) (cap : Nat) (ah am ar ak : Addr) (w : World) (hR : Row w B (ts.flatMap Ten.vals)) (hI : ∀ t ∈ ts, t.In w) (hl : ts.length ≤ 1000000) (hE : E4 w ah am ar ak) :
    Calls Tryz.prog 51 #[.int .i64 op, .slice B ts.length cap] w fun e w' => (∃ x, e = .returned (.tuple #[.agg (dcells none 0 0 false), x]) ∧ ErrV x) ∧ Below w.heap.size w w' := by
  obtain ⟨W0, hW0⟩ : ∃ W, W = w.alloc (.cells #[.slice none 0 0, .bool false] 24) := ⟨_, rfl⟩
  have HZ : Hid (Has W0 w.heap.size 24 [.slice none 0 0, .bool false]) := hide (by rw [hW0]; exact Has.new _ _ _)
  have HB0 : Hid (Below w.heap.size w W0) := hide (by rw [hW0]; exact (Below.refl _ _).alloc (Nat.le_refl _) _)
  have HV := hide (looks_c ts B cap ah am ar W0 (hR.below HB0.out) (fun t ht => (hI t ht).below HB0.out) hl (hE.1.below HB0.out))
  have HRe := hide (fun W (C : Option Addr) (c : Nat) (hb : Below w.heap.size w W) => sresult_none op h C ts.length c ah am ar ak W (hE.below hb))
  have hfc := Tens.first_cases ts
  have HEk : Hid (ErrV (errv ak)) := hide (by have h := Elm.err_v (ah := ah) (am := am) (ar := ar) (ak := ak) (k := 103) (.inr (.inr (.inl rfl))); exact h)
  obtain ⟨R, hRR⟩ : ∃ k, Hid (Tens.first ts = k) := ⟨_, hide rfl⟩
  obtain ⟨nt, hnt⟩ : ∃ n, Hid (ts.length = n) := ⟨_, hide rfl⟩
  rw [hRR.out] at hfc HV
  rw [hnt.out] at HV HRe ⊢
  have HW := hide hW0
  clear hR hI hl hE hW0 h
  go_enter Tryz.func51, Tryz.ntmps51
  go_wp2_with fail
  rw [← HW.out]
  clear HW
  refine HV.out.mono ?_
  rintro e w1 ⟨⟨v, x, rfl, h1, h2⟩, hb⟩
  have hz0l := HZ.out.lt
  have hws := hb.size
  replace HZ := hide (HZ.out.below hb HZ.out.lt)
  have HB1 := hide (HB0.out.trans (hb.mono HB0.out.size))
  clear hb HV HB0
  by_cases hf : R = (0, none)
  case neg =>
    obtain ⟨rfl, hx⟩ := h2 hf
    have hE := hx.errv hfc hf
    obtain ⟨z0, z1, zf0, zf1, HZf, HFf⟩ := elm_two HZ.out HB1.out (Nat.le_refl _) (.slice none 0 0) (.bool false)
    have r1 := run_neqerr hE
    have r2 := run_neqguard hE
    have HEE := hide hE
    clear hf hx hfc hE HRe h1 h2
    go_wp2_with fail
    refine bodyPost_ret (results_desc rfl _ _ w.heap.size _ _ rfl HZf.out) rfl ?_
    exact ⟨⟨x, rfl, HEE.out⟩, HFf.out⟩
  case pos =>
    subst hf
    obtain ⟨rfl, ho⟩ := h1 rfl
    obtain ⟨C, cc, rfl, hrow, -⟩ := own_row2 ho
    have HC := hide (HRe.out w1 C cc HB1.out)
    clear hfc h1 h2 ho hrow HRe
    go_wp2_with fail
    refine (HC.out).mono ?_
    rintro e w2 ⟨rfl, hb⟩
    have hB2 := HB1.out.trans (hb.mono HB1.out.size)
    have hZ2 := HZ.out.below hb HZ.out.lt
    obtain ⟨z0, z1, zf0, zf1, HZf, HFf⟩ := elm_two hZ2 hB2 (Nat.le_refl _) (.slice none 0 0) (.bool false)
    clear hb hB2 hZ2
    go_wp2_with fail
    refine bodyPost_ret (results_desc rfl _ _ w.heap.size _ _ rfl HZf.out) rfl ?_
    exact ⟨⟨errv ak, rfl, HEk.out⟩, HFf.out⟩
set_option maxRecDepth 100000 in
set_option maxHeartbeats 4000000 in
theorem scell_none (op : Int) (h : ¬ Sf.isOp op) (ts : List Ten) (i : Int) (B : Option Addr) (cap : Nat) (ah am ar ak : Addr) (w : World) (hR : Row w B (ts.flatMap Ten.vals)) (hI : ∀ t ∈ ts, t.In w) (hl : ts.length ≤ 1000000) (hE : E4 w ah am ar ak) :
    Calls Tryz.prog 18 #[.int .i64 op, .int .i64 i, .slice B ts.length cap] w fun e w' => e = .returned (.int .i64 0) ∧ Below w.heap.size w w' := by
  have HV := hide (slookof_none op h ts B cap ah am ar ak w hR hI hl hE)
  obtain ⟨nt, hnt⟩ : ∃ n, Hid (ts.length = n) := ⟨_, hide rfl⟩
  rw [hnt.out] at HV ⊢
  clear hR hI hl hE h
  go_enter Tryz.func18, Tryz.ntmps18
  go_wp2_with fail
  refine HV.out.mono ?_
  rintro e w1 ⟨⟨x, rfl, hx⟩, hb⟩
  have HBf := hide (hb.alloc hb.size (.cells #[.slice none 0 0, .bool false] 24))
  have r1 := run_neqerr hx
  have r2 := run_neqguard hx
  clear HV hx hb
  go_wp2_with fail
  go_ret
  exact ⟨rfl, HBf.out⟩
set_option maxRecDepth 100000 in
set_option maxHeartbeats 4000000 in
theorem rsoft_none (op : Int) (h : ¬ Sf.isOp op) (B : Option Addr) (n cap : Nat) (w : World) :
    Calls Tryz.prog 15 #[.int .i64 op, .slice B n cap] w fun e w' => e = .returned (.tuple #[.agg (dcells none 0 0 false), .int .i64 103]) ∧ Below w.heap.size w w' := by
  obtain ⟨W0, hW0⟩ : ∃ W, W = w.alloc (.cells #[.slice none 0 0, .bool false] 24) := ⟨_, rfl⟩
  have HZ : Hid (Has W0 w.heap.size 24 [.slice none 0 0, .bool false]) := hide (by rw [hW0]; exact Has.new _ _ _)
  have HB0 : Hid (Below w.heap.size w W0) := hide (by rw [hW0]; exact (Below.refl _ _).alloc (Nat.le_refl _) _)
  have HW := hide hW0
  have f1 : (op == (16 : Int)) = false := by simp; intro h2; exact h (.inl h2)
  have f2 : (op == (17 : Int)) = false := by simp; intro h2; exact h (.inr (.inl h2))
  have f3 : (op == (19 : Int)) = false := by simp; intro h2; exact h (.inr (.inr (.inl h2)))
  have f4 : (op == (20 : Int)) = false := by simp; intro h2; exact h (.inr (.inr (.inr h2)))
  clear h hW0
  go_enter Tryz.func15, Tryz.ntmps15
  go_wp2_with fail
  rw [← HW.out]
  refine bodyPost_ret (results_desc rfl _ _ w.heap.size _ _ rfl HZ.out) rfl ?_
  exact ⟨rfl, HB0.out⟩
end Go.Proofs.YtgdcfjmpjhlndaaGreatDoor
