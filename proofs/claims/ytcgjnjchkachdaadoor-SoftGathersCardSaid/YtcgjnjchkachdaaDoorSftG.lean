/-
  soft.look of Softmax and of Gather, walked. By an AI agent. No person has read it.
-/
import Derived.Test.YtcgjnjchkachdaaDoorSftF
namespace Go.Proofs.YtcgjnjchkachdaaDoor
open Go.RowKit

set_option maxRecDepth 100000 in
set_option maxHeartbeats 8000000 in
theorem slook_soft (a b : Dsc) (B : Option Addr) (cap : Nat) (ah : Addr) (w : World) (hR : Row w B ([a, b].flatMap Dsc.vals)) (ha : a.In w) (hb : b.In w) (hE : ErrIs w 0 ah) :
    Calls Tryd.prog 131 #[.int .i64 16, .slice B 2 cap] w (Sf.LkE w ah (Sf.lk 16 [a, b])) := by
  have HEs := hide hE
  have HIb := hide (fun W (h : Below w.heap.size w W) => hb.below h)
  obtain ⟨W0, hW0⟩ : ∃ W, W = w.alloc (.cells #[.slice none 0 0, .bool false] 24) := ⟨_, rfl⟩
  have HZ : Hid (Has W0 w.heap.size 24 [.slice none 0 0, .bool false]) := hide (by rw [hW0]; exact Has.new _ _ _)
  have HB0 : Hid (Below w.heap.size w W0) := hide (by rw [hW0]; exact (Below.refl _ _).alloc (Nat.le_refl _) _)
  have HV := hide (clone_own a.zs a.P a.cap a.u W0 (ha.shp.below HB0.out) ha.ls)
  obtain ⟨ad, hB, had, c0, c1, d0, d1⟩ := rowd_two hR
  subst hB
  have HWF := hide ha.shp.1
  have HW := hide hW0
  obtain ⟨n, hn⟩ : ∃ n, Hid (a.zs.length = n) := ⟨_, hide rfl⟩
  obtain ⟨nb, hnb⟩ : ∃ n, Hid (b.zs.length = n) := ⟨_, hide rfl⟩
  obtain ⟨ua, hua⟩ : ∃ x, Hid (a.u = x) := ⟨_, hide rfl⟩
  obtain ⟨ub, hub⟩ : ∃ x, Hid (b.u = x) := ⟨_, hide rfl⟩
  rw [hn.out, hua.out] at HV
  rw [hn.out] at c0
  rw [hua.out] at c1
  rw [hnb.out] at d0
  rw [hub.out] at d1
  have hln : (n : Int) ≤ 1000000 := by have := ha.ls; have := hn.out; omega
  have h1 : (¬ (a.u = false ∧ 0 < a.zs.length ∧ b.zs = [256] ∧ b.u = true)) → Sf.lk 16 [a, b] = none := fun h => by
    unfold Sf.lk
    exact (if_pos rfl).trans (if_neg h)
  have h2 : a.u = false ∧ 0 < a.zs.length ∧ b.zs = [256] ∧ b.u = true → Sf.lk 16 [a, b] = some (a.zs, false) := fun h => by
    unfold Sf.lk
    exact (if_pos rfl).trans (if_pos h)
  clear hR ha hb hE hW0
  cases ua
  case true =>
    rw [h1 (by rw [hua.out]; simp)]
    clear h1 h2
    go_enter Tryd.func131, Tryd.ntmps131
    go_wp2_with fail
    rw [← HW.out]
    clear HW
    refine HV.out.mono ?_
    rintro e w1 ⟨⟨g, c, rest, rfl, hg, hc, hcc, hG, hrl⟩, hb⟩
    have hg1 : w.heap.size + 1 ≤ g := by have h1 := HZ.out.lt; omega
    have hgl := hG.lt
    have HG := hide hG
    replace HZ := hide (HZ.out.below hb HZ.out.lt)
    replace HB0 := hide (HB0.out.trans (hb.mono HB0.out.size))
    have had1 : ad.block < w1.heap.size := Nat.lt_of_lt_of_le had HB0.out.size
    have e2 : w1.cell? ⟨ad.block, ad.off + 2, none⟩ = some (.slice b.P nb b.cap) := (HB0.out.cell (p := ⟨ad.block, ad.off + 2, none⟩) had).trans d0
    have e3 : w1.cell? ⟨ad.block, ad.off + 3, none⟩ = some (.bool ub) := (HB0.out.cell (p := ⟨ad.block, ad.off + 3, none⟩) had).trans d1
    clear c0 c1 d0 d1
    obtain ⟨W1, hW1⟩ : ∃ W, W = (w1.alloc (.cells #[.slice (some ⟨g, 0, none⟩) n c, .bool true] 24)) := ⟨_, rfl⟩
    have hbA : Below w1.heap.size w1 W1 := by rw [hW1]; exact (Below.refl _ _).alloc (Nat.le_refl _) _
    have hzl : w.heap.size < w1.heap.size := HZ.out.lt
    have HX : Hid (Has W1 w1.heap.size 24 [.slice (some ⟨g, 0, none⟩) n c, .bool true]) := hide (by rw [hW1]; exact (Has.new w1 24 [.slice (some ⟨g, 0, none⟩) n c, .bool true]))
    have HZ0 := HZ
    have HG0 := HG
    have HBq := HB0
    have y0 := HZ.out.cell 0
    have y1 := HZ.out.cell 1
    have yf0 := HZ.out.frozen 0
    have yf1 := HZ.out.frozen 1
    replace HZ := hide (HZ.out.below hbA HZ.out.lt)
    replace HG := hide (HG.out.below hbA HG.out.lt)
    replace HB0 := hide (HB0.out.trans (hbA.mono HB0.out.size))
    have HW1 := hide hW1
    have HBA := hide hbA
    clear hW1 hbA hb hG HV
    obtain ⟨z0, z1, zf0, zf1, HZf, HFf⟩ := elm_twod HZ.out HB0.out (Nat.le_refl _) (.slice none 0 0) (.bool false)
    have hs5 : W1.drew.cell? ⟨0, 0, none⟩ = some (errv ah) := (HEs.out.below HB0.out).1
    have hglt : 0 < w.heap.size := HEs.out.2.1
    have hS9 := hide (HEs.out.below HFf.out).1
    go_wp2_with fail
    rw [← HW1.out]
    clear HW1 y0 y1 yf0 yf1
    go_region_held3 (fun W => W.cell? ⟨0, 0, none⟩ = some (errv ah))
      (first | exact hs5 | assumption | exact hS9.out)
      (first | fail)
    go_wp2_with fail
    refine bodyPost_ret (results_desc rfl _ _ w.heap.size _ _ rfl HZf.out) rfl ?_
    exact ⟨rfl, HFf.out⟩
  case false =>
  by_cases h0 : n = 0
  case pos =>
    rw [h1 (by rw [hn.out]; omega)]
    have hn0 : ¬ (0 : Int) < (n : Int) := by omega
    clear h1 h2 h0
    go_enter Tryd.func131, Tryd.ntmps131
    go_wp2_with fail
    rw [← HW.out]
    clear HW
    refine HV.out.mono ?_
    rintro e w1 ⟨⟨g, c, rest, rfl, hg, hc, hcc, hG, hrl⟩, hb⟩
    have hg1 : w.heap.size + 1 ≤ g := by have h1 := HZ.out.lt; omega
    have hgl := hG.lt
    have HG := hide hG
    replace HZ := hide (HZ.out.below hb HZ.out.lt)
    replace HB0 := hide (HB0.out.trans (hb.mono HB0.out.size))
    have had1 : ad.block < w1.heap.size := Nat.lt_of_lt_of_le had HB0.out.size
    have e2 : w1.cell? ⟨ad.block, ad.off + 2, none⟩ = some (.slice b.P nb b.cap) := (HB0.out.cell (p := ⟨ad.block, ad.off + 2, none⟩) had).trans d0
    have e3 : w1.cell? ⟨ad.block, ad.off + 3, none⟩ = some (.bool ub) := (HB0.out.cell (p := ⟨ad.block, ad.off + 3, none⟩) had).trans d1
    clear c0 c1 d0 d1
    obtain ⟨W1, hW1⟩ : ∃ W, W = (w1.alloc (.cells #[.slice (some ⟨g, 0, none⟩) n c, .bool false] 24)) := ⟨_, rfl⟩
    have hbA : Below w1.heap.size w1 W1 := by rw [hW1]; exact (Below.refl _ _).alloc (Nat.le_refl _) _
    have hzl : w.heap.size < w1.heap.size := HZ.out.lt
    have HX : Hid (Has W1 w1.heap.size 24 [.slice (some ⟨g, 0, none⟩) n c, .bool false]) := hide (by rw [hW1]; exact (Has.new w1 24 [.slice (some ⟨g, 0, none⟩) n c, .bool false]))
    have HZ0 := HZ
    have HG0 := HG
    have HBq := HB0
    have y0 := HZ.out.cell 0
    have y1 := HZ.out.cell 1
    have yf0 := HZ.out.frozen 0
    have yf1 := HZ.out.frozen 1
    replace HZ := hide (HZ.out.below hbA HZ.out.lt)
    replace HG := hide (HG.out.below hbA HG.out.lt)
    replace HB0 := hide (HB0.out.trans (hbA.mono HB0.out.size))
    have HW1 := hide hW1
    have HBA := hide hbA
    clear hW1 hbA hb hG HV
    obtain ⟨z0, z1, zf0, zf1, HZf, HFf⟩ := elm_twod HZ.out HB0.out (Nat.le_refl _) (.slice none 0 0) (.bool false)
    have hs5 : W1.drew.cell? ⟨0, 0, none⟩ = some (errv ah) := (HEs.out.below HB0.out).1
    have hglt : 0 < w.heap.size := HEs.out.2.1
    have hS9 := hide (HEs.out.below HFf.out).1
    go_wp2_with fail
    rw [← HW1.out]
    clear HW1 y0 y1 yf0 yf1
    go_region_held3 (fun W => W.cell? ⟨0, 0, none⟩ = some (errv ah))
      (first | exact hs5 | assumption | exact hS9.out)
      (first | fail)
    go_wp2_with fail
    refine bodyPost_ret (results_desc rfl _ _ w.heap.size _ _ rfl HZf.out) rfl ?_
    exact ⟨rfl, HFf.out⟩
  case neg =>
  have hn0 : (0 : Int) < (n : Int) := by omega
  have HSM := hide (fun W P (hW : Below w.heap.size w W) (hP : Ri W P [256]) => same_c b.zs [256] b.P P b.cap 1 b.u true W (HIb.out W hW).shp hP (by have := (HIb.out W hW).ls; omega) (by simp))
  obtain ⟨sm, hsm⟩ : ∃ x, Hid ((decide (b.zs = [256]) && (b.u == true)) = x) := ⟨_, hide rfl⟩
  rw [hsm.out, hnb.out, hub.out] at HSM
  cases sm
  case false =>
    rw [h1 (by intro h; have h5 := hsm.out; rw [h.2.2.1, h.2.2.2] at h5; simp at h5)]
    clear h1 h2
    go_enter Tryd.func131, Tryd.ntmps131
    go_wp2_with fail
    rw [← HW.out]
    clear HW
    refine HV.out.mono ?_
    rintro e w1 ⟨⟨g, c, rest, rfl, hg, hc, hcc, hG, hrl⟩, hb⟩
    have hg1 : w.heap.size + 1 ≤ g := by have h1 := HZ.out.lt; omega
    have hgl := hG.lt
    have HG := hide hG
    replace HZ := hide (HZ.out.below hb HZ.out.lt)
    replace HB0 := hide (HB0.out.trans (hb.mono HB0.out.size))
    have had1 : ad.block < w1.heap.size := Nat.lt_of_lt_of_le had HB0.out.size
    have e2 : w1.cell? ⟨ad.block, ad.off + 2, none⟩ = some (.slice b.P nb b.cap) := (HB0.out.cell (p := ⟨ad.block, ad.off + 2, none⟩) had).trans d0
    have e3 : w1.cell? ⟨ad.block, ad.off + 3, none⟩ = some (.bool ub) := (HB0.out.cell (p := ⟨ad.block, ad.off + 3, none⟩) had).trans d1
    clear c0 c1 d0 d1
    obtain ⟨W1, hW1⟩ : ∃ W, W = ((w1.alloc (.cells #[.slice (some ⟨g, 0, none⟩) n c, .bool false] 24)).alloc (.cells #[.int .i64 256] 3)) := ⟨_, rfl⟩
    have hbA : Below w1.heap.size w1 W1 := by rw [hW1]; exact ((Below.refl _ _).alloc (Nat.le_refl _) _).alloc (by simp) _
    have hzl : w.heap.size < w1.heap.size := HZ.out.lt
    have HX : Hid (Has W1 w1.heap.size 24 [.slice (some ⟨g, 0, none⟩) n c, .bool false]) := hide (by rw [hW1]; exact ((Has.new w1 24 [.slice (some ⟨g, 0, none⟩) n c, .bool false]).alloc _))
    have HS : Hid (Has W1 (w1.heap.size + 1) 3 [.int .i64 256]) := hide (by rw [hW1]; exact (box_at _ 3 [.int .i64 256] _ (by simp)))
    have HZ0 := HZ
    have HG0 := HG
    have HBq := HB0
    have y0 := HZ.out.cell 0
    have y1 := HZ.out.cell 1
    have yf0 := HZ.out.frozen 0
    have yf1 := HZ.out.frozen 1
    replace HZ := hide (HZ.out.below hbA HZ.out.lt)
    replace HG := hide (HG.out.below hbA HG.out.lt)
    replace HB0 := hide (HB0.out.trans (hbA.mono HB0.out.size))
    have HW1 := hide hW1
    have HBA := hide hbA
    clear hW1 hbA hb hG HV
    go_wp2_with fail
    rw [← HW1.out]
    clear HW1 y0 y1 yf0 yf1
    refine (HSM.out _ _ HB0.out (HS.out.ri (zs := [256]) (by decide))).mono ?_
    rintro e w3 ⟨rfl, hb⟩
    replace HZ := hide (HZ.out.below hb HZ.out.lt)
    replace HB0 := hide (HB0.out.trans (hb.mono HB0.out.size))
    clear hb
    obtain ⟨z0, z1, zf0, zf1, HZf, HFf⟩ := elm_twod HZ.out HB0.out (Nat.le_refl _) (.slice none 0 0) (.bool false)
    have hs5 : w3.drew.cell? ⟨0, 0, none⟩ = some (errv ah) := (HEs.out.below HB0.out).1
    have hglt : 0 < w.heap.size := HEs.out.2.1
    have hS9 := hide (HEs.out.below HFf.out).1
    go_wp2_with fail
    go_region_held3 (fun W => W.cell? ⟨0, 0, none⟩ = some (errv ah))
      (first | exact hs5 | assumption | exact hS9.out)
      (first | fail)
    go_wp2_with fail
    refine bodyPost_ret (results_desc rfl _ _ w.heap.size _ _ rfl HZf.out) rfl ?_
    exact ⟨rfl, HFf.out⟩
  case true =>
    have hc : a.u = false ∧ 0 < a.zs.length ∧ b.zs = [256] ∧ b.u = true := by
      have h5 := hsm.out
      simp at h5
      exact ⟨hua.out, by rw [hn.out]; omega, h5.1, h5.2⟩
    rw [h2 hc]
    clear h1 h2 hc
    go_enter Tryd.func131, Tryd.ntmps131
    go_wp2_with fail
    rw [← HW.out]
    clear HW
    refine HV.out.mono ?_
    rintro e w1 ⟨⟨g, c, rest, rfl, hg, hc, hcc, hG, hrl⟩, hb⟩
    have hg1 : w.heap.size + 1 ≤ g := by have h1 := HZ.out.lt; omega
    have hgl := hG.lt
    have HG := hide hG
    replace HZ := hide (HZ.out.below hb HZ.out.lt)
    replace HB0 := hide (HB0.out.trans (hb.mono HB0.out.size))
    have had1 : ad.block < w1.heap.size := Nat.lt_of_lt_of_le had HB0.out.size
    have e2 : w1.cell? ⟨ad.block, ad.off + 2, none⟩ = some (.slice b.P nb b.cap) := (HB0.out.cell (p := ⟨ad.block, ad.off + 2, none⟩) had).trans d0
    have e3 : w1.cell? ⟨ad.block, ad.off + 3, none⟩ = some (.bool ub) := (HB0.out.cell (p := ⟨ad.block, ad.off + 3, none⟩) had).trans d1
    clear c0 c1 d0 d1
    obtain ⟨W1, hW1⟩ : ∃ W, W = ((w1.alloc (.cells #[.slice (some ⟨g, 0, none⟩) n c, .bool false] 24)).alloc (.cells #[.int .i64 256] 3)) := ⟨_, rfl⟩
    have hbA : Below w1.heap.size w1 W1 := by rw [hW1]; exact ((Below.refl _ _).alloc (Nat.le_refl _) _).alloc (by simp) _
    have hzl : w.heap.size < w1.heap.size := HZ.out.lt
    have HX : Hid (Has W1 w1.heap.size 24 [.slice (some ⟨g, 0, none⟩) n c, .bool false]) := hide (by rw [hW1]; exact ((Has.new w1 24 [.slice (some ⟨g, 0, none⟩) n c, .bool false]).alloc _))
    have HS : Hid (Has W1 (w1.heap.size + 1) 3 [.int .i64 256]) := hide (by rw [hW1]; exact (box_at _ 3 [.int .i64 256] _ (by simp)))
    have HZ0 := HZ
    have HG0 := HG
    have HBq := HB0
    have y0 := HZ.out.cell 0
    have y1 := HZ.out.cell 1
    have yf0 := HZ.out.frozen 0
    have yf1 := HZ.out.frozen 1
    replace HZ := hide (HZ.out.below hbA HZ.out.lt)
    replace HG := hide (HG.out.below hbA HG.out.lt)
    replace HB0 := hide (HB0.out.trans (hbA.mono HB0.out.size))
    have HW1 := hide hW1
    have HBA := hide hbA
    clear hW1 hbA hb hG HV
    go_wp2_with fail
    rw [← HW1.out]
    clear HW1 y0 y1 yf0 yf1
    refine (HSM.out _ _ HB0.out (HS.out.ri (zs := [256]) (by decide))).mono ?_
    rintro e w3 ⟨rfl, hb⟩
    replace HZ := hide (HZ.out.below hb HZ.out.lt)
    replace HG := hide (HG.out.below hb HG.out.lt)
    replace HX := hide (HX.out.below hb HX.out.lt)
    replace HB0 := hide (HB0.out.trans (hb.mono HB0.out.size))
    have x0 := HX.out.cell 0
    have x1 := HX.out.cell 1
    clear hb
    obtain ⟨z0, z1, zf0, zf1, HZf, HFf⟩ := elm_two HZ.out HB0.out (Nat.le_refl _) (.slice (some ⟨g, 0, none⟩) n c) (.bool false)
    go_wp2_with fail
    refine bodyPost_ret (results_desc rfl _ _ w.heap.size _ _ rfl HZf.out) rfl ?_
    refine ⟨⟨⟨some ⟨g, 0, none⟩, a.zs, c, false⟩, by rw [hn.out]; rfl, ⟨((HG.out.far (p := ⟨w.heap.size, 0, none⟩) (by simp; omega) _).far (p := ⟨w.heap.size, 1, none⟩) (by simp; omega) _).ri_app HWF.out, by rw [hn.out]; omega⟩, ?_, rfl, rfl⟩, HFf.out⟩
    intro ad h
    cases h
    show w.heap.size ≤ g
    omega
set_option maxRecDepth 100000 in
set_option maxHeartbeats 8000000 in
theorem slook_gather (a b : Dsc) (B : Option Addr) (cap : Nat) (ah : Addr) (w : World) (hR : Row w B ([a, b].flatMap Dsc.vals)) (ha : a.In w) (hb : b.In w) (hE : ErrIs w 0 ah) :
    Calls Tryd.prog 131 #[.int .i64 17, .slice B 2 cap] w (Sf.LkE w ah (Sf.lk 17 [a, b])) := by
  have HEs := hide hE
  have HIb := hide (fun W (h : Below w.heap.size w W) => hb.below h)
  obtain ⟨W0, hW0⟩ : ∃ W, W = w.alloc (.cells #[.slice none 0 0, .bool false] 24) := ⟨_, rfl⟩
  have HZ : Hid (Has W0 w.heap.size 24 [.slice none 0 0, .bool false]) := hide (by rw [hW0]; exact Has.new _ _ _)
  have HB0 : Hid (Below w.heap.size w W0) := hide (by rw [hW0]; exact (Below.refl _ _).alloc (Nat.le_refl _) _)
  have HV := hide (clone_own a.zs a.P a.cap a.u W0 (ha.shp.below HB0.out) ha.ls)
  obtain ⟨ad, hB, had, c0, c1, d0, d1⟩ := rowd_two hR
  subst hB
  have HWF := hide ha.shp.1
  have HW := hide hW0
  obtain ⟨n, hn⟩ : ∃ n, Hid (a.zs.length = n) := ⟨_, hide rfl⟩
  obtain ⟨nb, hnb⟩ : ∃ n, Hid (b.zs.length = n) := ⟨_, hide rfl⟩
  obtain ⟨ua, hua⟩ : ∃ x, Hid (a.u = x) := ⟨_, hide rfl⟩
  obtain ⟨ub, hub⟩ : ∃ x, Hid (b.u = x) := ⟨_, hide rfl⟩
  rw [hn.out, hua.out] at HV
  rw [hn.out] at c0
  rw [hua.out] at c1
  rw [hnb.out] at d0
  rw [hub.out] at d1
  have hln : (n : Int) ≤ 1000000 := by have := ha.ls; have := hn.out; omega
  have h1 : (¬ (a.zs.length = 2 ∧ b.u = true ∧ b.zs.length = 1)) → Sf.lk 17 [a, b] = none := fun h => by
    unfold Sf.lk
    exact (if_neg (by decide)).trans (if_neg h)
  have h2 : a.zs.length = 2 ∧ b.u = true ∧ b.zs.length = 1 → Sf.lk 17 [a, b] = some ([b.zs.getD 0 0, a.zs.getD 1 0], a.u) := fun h => by
    unfold Sf.lk
    exact (if_neg (by decide)).trans (if_pos h)
  clear hR ha hb hE hW0
  by_cases h0 : n = 2
  case neg =>
    rw [h1 (by rw [hn.out]; omega)]
    have hn0 : ((n : Int) == 2) = false := by simp; omega
    clear h1 h2 h0
    go_enter Tryd.func131, Tryd.ntmps131
    go_wp2_with fail
    rw [← HW.out]
    clear HW
    refine HV.out.mono ?_
    rintro e w1 ⟨⟨g, c, rest, rfl, hg, hc, hcc, hG, hrl⟩, hb⟩
    have hg1 : w.heap.size + 1 ≤ g := by have h1 := HZ.out.lt; omega
    have hgl := hG.lt
    have HG := hide hG
    replace HZ := hide (HZ.out.below hb HZ.out.lt)
    replace HB0 := hide (HB0.out.trans (hb.mono HB0.out.size))
    have had1 : ad.block < w1.heap.size := Nat.lt_of_lt_of_le had HB0.out.size
    have e2 : w1.cell? ⟨ad.block, ad.off + 2, none⟩ = some (.slice b.P nb b.cap) := (HB0.out.cell (p := ⟨ad.block, ad.off + 2, none⟩) had).trans d0
    have e3 : w1.cell? ⟨ad.block, ad.off + 3, none⟩ = some (.bool ub) := (HB0.out.cell (p := ⟨ad.block, ad.off + 3, none⟩) had).trans d1
    clear c0 c1 d0 d1
    obtain ⟨W1, hW1⟩ : ∃ W, W = ((w1.alloc (.cells #[.slice (some ⟨g, 0, none⟩) n c, .bool ua] 24)).alloc (.cells #[.slice b.P nb b.cap, .bool ub] 24)) := ⟨_, rfl⟩
    have hbA : Below w1.heap.size w1 W1 := by rw [hW1]; exact ((Below.refl _ _).alloc (Nat.le_refl _) _).alloc (by simp) _
    have hzl : w.heap.size < w1.heap.size := HZ.out.lt
    have HX : Hid (Has W1 w1.heap.size 24 [.slice (some ⟨g, 0, none⟩) n c, .bool ua]) := hide (by rw [hW1]; exact ((Has.new w1 24 [.slice (some ⟨g, 0, none⟩) n c, .bool ua]).alloc _))
    have HY : Hid (Has W1 (w1.heap.size + 1) 24 [.slice b.P nb b.cap, .bool ub]) := hide (by rw [hW1]; exact (box_at _ 24 [.slice b.P nb b.cap, .bool ub] _ (by simp)))
    have HZ0 := HZ
    have HG0 := HG
    have HBq := HB0
    have y0 := HZ.out.cell 0
    have y1 := HZ.out.cell 1
    have yf0 := HZ.out.frozen 0
    have yf1 := HZ.out.frozen 1
    replace HZ := hide (HZ.out.below hbA HZ.out.lt)
    replace HG := hide (HG.out.below hbA HG.out.lt)
    replace HB0 := hide (HB0.out.trans (hbA.mono HB0.out.size))
    have HW1 := hide hW1
    have HBA := hide hbA
    clear hW1 hbA hb hG HV
    obtain ⟨z0, z1, zf0, zf1, HZf, HFf⟩ := elm_twod HZ.out HB0.out (Nat.le_refl _) (.slice none 0 0) (.bool false)
    have hs5 : W1.drew.cell? ⟨0, 0, none⟩ = some (errv ah) := (HEs.out.below HB0.out).1
    have hglt : 0 < w.heap.size := HEs.out.2.1
    have hS9 := hide (HEs.out.below HFf.out).1
    go_wp2_with fail
    rw [← HW1.out]
    clear HW1 y0 y1 yf0 yf1
    go_region_held3 (fun W => W.cell? ⟨0, 0, none⟩ = some (errv ah))
      (first | exact hs5 | assumption | exact hS9.out)
      (first | fail)
    go_wp2_with fail
    refine bodyPost_ret (results_desc rfl _ _ w.heap.size _ _ rfl HZf.out) rfl ?_
    exact ⟨rfl, HFf.out⟩
  case pos =>
  have hn0 : ((n : Int) == 2) = true := by simp; omega
  have HN2 := hide h0
  clear h0
  cases ub
  case false =>
    rw [h1 (by rw [hub.out]; simp)]
    clear h1 h2
    go_enter Tryd.func131, Tryd.ntmps131
    go_wp2_with fail
    rw [← HW.out]
    clear HW
    refine HV.out.mono ?_
    rintro e w1 ⟨⟨g, c, rest, rfl, hg, hc, hcc, hG, hrl⟩, hb⟩
    have hg1 : w.heap.size + 1 ≤ g := by have h1 := HZ.out.lt; omega
    have hgl := hG.lt
    have HG := hide hG
    replace HZ := hide (HZ.out.below hb HZ.out.lt)
    replace HB0 := hide (HB0.out.trans (hb.mono HB0.out.size))
    have had1 : ad.block < w1.heap.size := Nat.lt_of_lt_of_le had HB0.out.size
    have e2 : w1.cell? ⟨ad.block, ad.off + 2, none⟩ = some (.slice b.P nb b.cap) := (HB0.out.cell (p := ⟨ad.block, ad.off + 2, none⟩) had).trans d0
    have e3 : w1.cell? ⟨ad.block, ad.off + 3, none⟩ = some (.bool false) := (HB0.out.cell (p := ⟨ad.block, ad.off + 3, none⟩) had).trans d1
    clear c0 c1 d0 d1
    obtain ⟨W1, hW1⟩ : ∃ W, W = ((w1.alloc (.cells #[.slice (some ⟨g, 0, none⟩) n c, .bool ua] 24)).alloc (.cells #[.slice b.P nb b.cap, .bool false] 24)) := ⟨_, rfl⟩
    have hbA : Below w1.heap.size w1 W1 := by rw [hW1]; exact ((Below.refl _ _).alloc (Nat.le_refl _) _).alloc (by simp) _
    have hzl : w.heap.size < w1.heap.size := HZ.out.lt
    have HX : Hid (Has W1 w1.heap.size 24 [.slice (some ⟨g, 0, none⟩) n c, .bool ua]) := hide (by rw [hW1]; exact ((Has.new w1 24 [.slice (some ⟨g, 0, none⟩) n c, .bool ua]).alloc _))
    have HY : Hid (Has W1 (w1.heap.size + 1) 24 [.slice b.P nb b.cap, .bool false]) := hide (by rw [hW1]; exact (box_at _ 24 [.slice b.P nb b.cap, .bool false] _ (by simp)))
    have HZ0 := HZ
    have HG0 := HG
    have HBq := HB0
    have y0 := HZ.out.cell 0
    have y1 := HZ.out.cell 1
    have yf0 := HZ.out.frozen 0
    have yf1 := HZ.out.frozen 1
    replace HZ := hide (HZ.out.below hbA HZ.out.lt)
    replace HG := hide (HG.out.below hbA HG.out.lt)
    replace HB0 := hide (HB0.out.trans (hbA.mono HB0.out.size))
    have HW1 := hide hW1
    have HBA := hide hbA
    clear hW1 hbA hb hG HV
    obtain ⟨z0, z1, zf0, zf1, HZf, HFf⟩ := elm_twod HZ.out HB0.out (Nat.le_refl _) (.slice none 0 0) (.bool false)
    have hs5 : W1.drew.cell? ⟨0, 0, none⟩ = some (errv ah) := (HEs.out.below HB0.out).1
    have hglt : 0 < w.heap.size := HEs.out.2.1
    have hS9 := hide (HEs.out.below HFf.out).1
    go_wp2_with fail
    rw [← HW1.out]
    clear HW1 y0 y1 yf0 yf1
    go_region_held3 (fun W => W.cell? ⟨0, 0, none⟩ = some (errv ah))
      (first | exact hs5 | assumption | exact hS9.out)
      (first | fail)
    go_wp2_with fail
    refine bodyPost_ret (results_desc rfl _ _ w.heap.size _ _ rfl HZf.out) rfl ?_
    exact ⟨rfl, HFf.out⟩
  case true =>
  by_cases h3 : nb = 1
  case neg =>
    rw [h1 (by rw [hnb.out]; omega)]
    have hn1 : ((nb : Int) == 1) = false := by simp; omega
    clear h1 h2 h3
    go_enter Tryd.func131, Tryd.ntmps131
    go_wp2_with fail
    rw [← HW.out]
    clear HW
    refine HV.out.mono ?_
    rintro e w1 ⟨⟨g, c, rest, rfl, hg, hc, hcc, hG, hrl⟩, hb⟩
    have hg1 : w.heap.size + 1 ≤ g := by have h1 := HZ.out.lt; omega
    have hgl := hG.lt
    have HG := hide hG
    replace HZ := hide (HZ.out.below hb HZ.out.lt)
    replace HB0 := hide (HB0.out.trans (hb.mono HB0.out.size))
    have had1 : ad.block < w1.heap.size := Nat.lt_of_lt_of_le had HB0.out.size
    have e2 : w1.cell? ⟨ad.block, ad.off + 2, none⟩ = some (.slice b.P nb b.cap) := (HB0.out.cell (p := ⟨ad.block, ad.off + 2, none⟩) had).trans d0
    have e3 : w1.cell? ⟨ad.block, ad.off + 3, none⟩ = some (.bool true) := (HB0.out.cell (p := ⟨ad.block, ad.off + 3, none⟩) had).trans d1
    clear c0 c1 d0 d1
    obtain ⟨W1, hW1⟩ : ∃ W, W = ((w1.alloc (.cells #[.slice (some ⟨g, 0, none⟩) n c, .bool ua] 24)).alloc (.cells #[.slice b.P nb b.cap, .bool true] 24)) := ⟨_, rfl⟩
    have hbA : Below w1.heap.size w1 W1 := by rw [hW1]; exact ((Below.refl _ _).alloc (Nat.le_refl _) _).alloc (by simp) _
    have hzl : w.heap.size < w1.heap.size := HZ.out.lt
    have HX : Hid (Has W1 w1.heap.size 24 [.slice (some ⟨g, 0, none⟩) n c, .bool ua]) := hide (by rw [hW1]; exact ((Has.new w1 24 [.slice (some ⟨g, 0, none⟩) n c, .bool ua]).alloc _))
    have HY : Hid (Has W1 (w1.heap.size + 1) 24 [.slice b.P nb b.cap, .bool true]) := hide (by rw [hW1]; exact (box_at _ 24 [.slice b.P nb b.cap, .bool true] _ (by simp)))
    have HZ0 := HZ
    have HG0 := HG
    have HBq := HB0
    have y0 := HZ.out.cell 0
    have y1 := HZ.out.cell 1
    have yf0 := HZ.out.frozen 0
    have yf1 := HZ.out.frozen 1
    replace HZ := hide (HZ.out.below hbA HZ.out.lt)
    replace HG := hide (HG.out.below hbA HG.out.lt)
    replace HB0 := hide (HB0.out.trans (hbA.mono HB0.out.size))
    have HW1 := hide hW1
    have HBA := hide hbA
    clear hW1 hbA hb hG HV
    obtain ⟨z0, z1, zf0, zf1, HZf, HFf⟩ := elm_twod HZ.out HB0.out (Nat.le_refl _) (.slice none 0 0) (.bool false)
    have hs5 : W1.drew.cell? ⟨0, 0, none⟩ = some (errv ah) := (HEs.out.below HB0.out).1
    have hglt : 0 < w.heap.size := HEs.out.2.1
    have hS9 := hide (HEs.out.below HFf.out).1
    go_wp2_with fail
    rw [← HW1.out]
    clear HW1 y0 y1 yf0 yf1
    go_region_held3 (fun W => W.cell? ⟨0, 0, none⟩ = some (errv ah))
      (first | exact hs5 | assumption | exact hS9.out)
      (first | fail)
    go_wp2_with fail
    refine bodyPost_ret (results_desc rfl _ _ w.heap.size _ _ rfl HZf.out) rfl ?_
    exact ⟨rfl, HFf.out⟩
  case pos =>
    have hn1 : ((nb : Int) == 1) = true := by simp; omega
    rw [h2 ⟨hn.out.trans HN2.out, hub.out, hnb.out.trans h3⟩]
    have HNB1 := hide h3
    have HWFb := hide (HIb.out w (Below.refl _ _)).shp.1
    clear h1 h2 h3
    go_enter Tryd.func131, Tryd.ntmps131
    go_wp2_with fail
    rw [← HW.out]
    clear HW
    refine HV.out.mono ?_
    rintro e w1 ⟨⟨g, c, rest, rfl, hg, hc, hcc, hG, hrl⟩, hb⟩
    have hg1 : w.heap.size + 1 ≤ g := by have h1 := HZ.out.lt; omega
    have hgl := hG.lt
    have HG := hide hG
    replace HZ := hide (HZ.out.below hb HZ.out.lt)
    replace HB0 := hide (HB0.out.trans (hb.mono HB0.out.size))
    have had1 : ad.block < w1.heap.size := Nat.lt_of_lt_of_le had HB0.out.size
    have e2 : w1.cell? ⟨ad.block, ad.off + 2, none⟩ = some (.slice b.P nb b.cap) := (HB0.out.cell (p := ⟨ad.block, ad.off + 2, none⟩) had).trans d0
    have e3 : w1.cell? ⟨ad.block, ad.off + 3, none⟩ = some (.bool true) := (HB0.out.cell (p := ⟨ad.block, ad.off + 3, none⟩) had).trans d1
    clear c0 c1 d0 d1
    obtain ⟨W1, hW1⟩ : ∃ W, W = ((w1.alloc (.cells #[.slice (some ⟨g, 0, none⟩) n c, .bool ua] 24)).alloc (.cells #[.slice b.P nb b.cap, .bool true] 24)) := ⟨_, rfl⟩
    have hbA : Below w1.heap.size w1 W1 := by rw [hW1]; exact ((Below.refl _ _).alloc (Nat.le_refl _) _).alloc (by simp) _
    have hzl : w.heap.size < w1.heap.size := HZ.out.lt
    have HX : Hid (Has W1 w1.heap.size 24 [.slice (some ⟨g, 0, none⟩) n c, .bool ua]) := hide (by rw [hW1]; exact ((Has.new w1 24 [.slice (some ⟨g, 0, none⟩) n c, .bool ua]).alloc _))
    have HY : Hid (Has W1 (w1.heap.size + 1) 24 [.slice b.P nb b.cap, .bool true]) := hide (by rw [hW1]; exact (box_at _ 24 [.slice b.P nb b.cap, .bool true] _ (by simp)))
    have HZ0 := HZ
    have HG0 := HG
    have HBq := HB0
    have y0 := HZ.out.cell 0
    have y1 := HZ.out.cell 1
    have yf0 := HZ.out.frozen 0
    have yf1 := HZ.out.frozen 1
    replace HZ := hide (HZ.out.below hbA HZ.out.lt)
    replace HG := hide (HG.out.below hbA HG.out.lt)
    replace HB0 := hide (HB0.out.trans (hbA.mono HB0.out.size))
    have HW1 := hide hW1
    have HBA := hide hbA
    clear hW1 hbA hb hG HV
    go_wp2_with fail
    rw [← HW1.out]
    clear HW1 y0 y1 yf0 yf1 e2 e3
    obtain ⟨v0, hv0⟩ : ∃ x, Hid (b.zs.getD 0 0 = x) := ⟨_, hide rfl⟩
    obtain ⟨v1, hv1⟩ : ∃ x, Hid (a.zs.getD 1 0 = x) := ⟨_, hide rfl⟩
    rw [hv0.out, hv1.out]
    obtain ⟨pb, q0, hpb, eq0, cb0⟩ := ri_at (HIb.out w (Below.refl _ _)).shp 0 (by rw [hnb.out, HNB1.out]; omega)
    have hq0 : q0 = v0 := by rw [← hv0.out, List.getD_eq_getElem?_getD, eq0.out]; rfl
    subst hq0
    rw [Addr.add_zero'] at cb0
    have hpbl : pb.block < w.heap.size := by
      obtain ⟨ad', h1, h2, -⟩ := (HIb.out w (Below.refl _ _)).shp.2 (by intro h; have h3 := hnb.out; rw [h, HNB1.out] at h3; simp at h3)
      rw [hpb] at h1
      rw [Option.some.inj h1]
      exact h2
    have hv1a : a.zs[1]? = some v1 := by rw [← hv1.out, List.getD_eq_getElem?_getD, List.getElem?_eq_getElem (by rw [hn.out, HN2.out]; omega)]; rfl
    have HW1m := hide (HWF.out v1 (List.mem_of_getElem? hv1a))
    have HW0m := hide (HWFb.out q0 (List.mem_of_getElem? eq0.out))
    have ga1 : W1.cell? ⟨g, 1, none⟩ = some (.int .i64 v1) := by
      rw [HG.out.cell, List.getElem?_append_left (by unfold i64s; rw [List.length_map, hn.out, HN2.out]; omega)]
      unfold i64s
      rw [List.getElem?_map, hv1a]
      rfl
    rw [hpb] at HY
    have hp1 : pb.block < W1.heap.size := Nat.lt_of_lt_of_le hpbl HB0.out.size
    have hL : w1.heap.size + 1 < W1.heap.size := HY.out.lt
    have hgL : g < W1.heap.size := by omega
    have HS0 : SfC5 ⟨w1.heap.size + 1, 0, none⟩ pb ⟨w1.heap.size, 0, none⟩ ⟨g, 1, none⟩ ⟨w1.heap.size, 1, none⟩ (.slice (some pb) nb b.cap) (.int .i64 q0) (.slice (some ⟨g, 0, none⟩) n c) (.int .i64 v1) (.bool ua) W1 := ⟨HY.out.cell 0, (HB0.out.cell hpbl).trans cb0, HX.out.cell 0, ga1, HX.out.cell 1⟩
    have hS0 : SfC5 ⟨w1.heap.size + 1, 0, none⟩ pb ⟨w1.heap.size, 0, none⟩ ⟨g, 1, none⟩ ⟨w1.heap.size, 1, none⟩ (.slice (some pb) nb b.cap) (.int .i64 q0) (.slice (some ⟨g, 0, none⟩) n c) (.int .i64 v1) (.bool ua) W1.drew := HS0
    have hbA : Below W1.heap.size W1 (W1.alloc (.cells #[.int .i64 q0, .int .i64 v1] 3)) := (Below.refl _ _).alloc (Nat.le_refl _) _
    have hS1 : SfC5 ⟨w1.heap.size + 1, 0, none⟩ pb ⟨w1.heap.size, 0, none⟩ ⟨g, 1, none⟩ ⟨w1.heap.size, 1, none⟩ (.slice (some pb) nb b.cap) (.int .i64 q0) (.slice (some ⟨g, 0, none⟩) n c) (.int .i64 v1) (.bool ua) (W1.alloc (.cells #[.int .i64 q0, .int .i64 v1] 3)).drew := SfC5.keep HS0 hL hp1 (by show w1.heap.size < _; omega) hgL (by show w1.heap.size < _; omega) hbA.drew
    obtain ⟨z0, z1, zf0, zf1, HZp, HFp⟩ := elm_two HZ.out HB0.out (Nat.le_refl _) (.slice (some ⟨W1.heap.size, 0, none⟩) 2 2) (.bool ua)
    have hS2 := SfC5.far (SfC5.far HS0 (b := w.heap.size) (by simp; omega) (by omega) (by simp; omega) (by simp; omega) (by simp; omega) 0 (.slice (some ⟨W1.heap.size, 0, none⟩) 2 2)) (b := w.heap.size) (by simp; omega) (by omega) (by simp; omega) (by simp; omega) (by simp; omega) 1 (.bool ua)
    have hS3 := hide (SfC5.keep hS2 (by simp; omega) (by simp; omega) (by simp; omega) (by simp; omega) (by simp; omega) (((Below.refl _ _).alloc (Nat.le_refl _) (.cells #[.int .i64 q0, .int .i64 v1] 3)).drew))
    have HZf := hide ((HZp.out.alloc (.cells #[.int .i64 q0, .int .i64 v1] 3)).drewN 1)
    have HFf := hide ((HFp.out.alloc HFp.out.size (.cells #[.int .i64 q0, .int .i64 v1] 3)).drew)
    obtain ⟨s0, s1, sf0, sf1, HZg, HFg⟩ := elm_two ((HZ.out.alloc (.cells #[.int .i64 q0, .int .i64 v1] 3)).drewN 1) (HB0.out.alloc HB0.out.size (.cells #[.int .i64 q0, .int .i64 v1] 3)).drew (Nat.le_refl _) (.slice (some ⟨W1.heap.size, 0, none⟩) 2 2) (.bool ua)
    have hS4 := hide (SfC5.far (SfC5.far hS1 (b := w.heap.size) (by simp; omega) (by omega) (by simp; omega) (by simp; omega) (by simp; omega) 0 (.slice (some ⟨W1.heap.size, 0, none⟩) 2 2)) (b := w.heap.size) (by simp; omega) (by omega) (by simp; omega) (by simp; omega) (by simp; omega) 1 (.bool ua))
    have n1 : w.heap.size < W1.heap.size := HZ.out.lt
    have n2 : ¬ w.heap.size = W1.heap.size := by omega
    have n3 : ¬ W1.heap.size = w.heap.size := by omega
    have b1 : (1 : Int) < (n : Int) := by have := HN2.out; omega
    have b2 : 1 < n := by omega
    have b3 : (0 : Int) < (nb : Int) := by have := HNB1.out; omega
    have b4 : 0 < nb := by omega
    clear HS0 hbA eq0 cb0 hv1a ga1 hpb hS2
    go_wp2_with fail
    go_region_held3 (fun W => W.cell? ⟨w1.heap.size + 1, 0, none⟩ = some (.slice (some pb) nb b.cap) ∧ W.cell? pb = some (.int .i64 q0) ∧ W.cell? ⟨w1.heap.size, 0, none⟩ = some (.slice (some ⟨g, 0, none⟩) n c) ∧ W.cell? ⟨g, 1, none⟩ = some (.int .i64 v1) ∧ W.cell? ⟨w1.heap.size, 1, none⟩ = some (.bool ua))
      (first | exact hS0 | exact hS1 | exact hS3.out | exact hS4.out | assumption)
      (first | fail)
    go_wp2_with fail
    refine bodyPost_ret (results_desc rfl _ _ w.heap.size _ _ rfl HZf.out) rfl ?_
    refine ⟨⟨⟨some ⟨W1.heap.size, 0, none⟩, [q0, v1], 2, ua⟩, rfl, ⟨((box_at _ 3 (i64s [q0, v1]) W1.heap.size (by simp)).drewN 1).ri (fun q hq => ?_), by simp⟩, ?_, ?_, hua.out.symm⟩, HFf.out⟩
    · simp at hq
      rcases hq with rfl | rfl
      · exact HW0m.out
      · exact HW1m.out
    · intro ad h
      cases h
      show w.heap.size ≤ W1.heap.size
      omega
    · rw [hv0.out, hv1.out]
end Go.Proofs.YtcgjnjchkachdaaDoor
