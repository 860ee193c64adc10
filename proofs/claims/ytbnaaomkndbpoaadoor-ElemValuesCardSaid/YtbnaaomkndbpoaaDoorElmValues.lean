/-
  The law ElemValues, walked. By an AI agent. No person has read it.
-/
import Derived.Test.YtbnaaomkndbpoaaDoorElmFirst
import Derived.Test.YtbnaaomkndbpoaaDoorElmW
namespace Go.Proofs.YtbnaaomkndbpoaaDoor
open Go.RowKit

theorem two_yes (op : Int) (h : 4 ≤ op ∧ op ≤ 7) (w : World) : Calls Tryd.prog 26 #[.int .i64 op] w fun e w' => e = .returned (.bool true) ∧ w' = w := by
  have h1 : 4 ≤ op := h.1
  have h2 : op ≤ 7 := h.2
  clear h
  go_enter Tryd.func26, Tryd.ntmps26
  go_wp2_with fail
  go_ret
  exact ⟨rfl, rfl⟩
theorem two_no (op : Int) (h : 8 ≤ op) (w : World) : Calls Tryd.prog 26 #[.int .i64 op] w fun e w' => e = .returned (.bool false) ∧ w' = w := by
  have h1 : 4 ≤ op := by omega
  have h2 : ¬ op ≤ 7 := by omega
  clear h
  go_enter Tryd.func26, Tryd.ntmps26
  go_wp2_with fail
  go_ret
  exact ⟨rfl, rfl⟩
/-- The five blocks that are laid. -/
theorem values_world (w5 : World) (x y : Int) (u : Bool) (hx : -9223372036854775808 ≤ x ∧ x ≤ 9223372036854775807) (hy : -9223372036854775808 ≤ y ∧ y ≤ 9223372036854775807) : ∃ W, W = ((((w5.alloc (.cells #[.int .i64 x] 3)).alloc (.cells #[.slice none 0 0, .bool u, .slice (some ⟨w5.heap.size, 0, none⟩) 1 1] 38)).alloc (.cells #[.int .i64 y] 3)).alloc (.cells #[.slice none 0 0, .bool u, .slice (some ⟨w5.heap.size + 2, 0, none⟩) 1 1] 38)).alloc (.cells #[.slice none 0 0, .bool false, .slice none 0 0] 38) ∧
    Below w5.heap.size w5 W ∧ Ten.In W ⟨none, [], 0, u, some ⟨w5.heap.size, 0, none⟩, [x], 1⟩ ∧ Ten.In W ⟨none, [], 0, u, some ⟨w5.heap.size + 2, 0, none⟩, [y], 1⟩ ∧
    Has W (w5.heap.size + 1) 38 [.slice none 0 0, .bool u, .slice (some ⟨w5.heap.size, 0, none⟩) 1 1] ∧ Has W (w5.heap.size + 3) 38 [.slice none 0 0, .bool u, .slice (some ⟨w5.heap.size + 2, 0, none⟩) 1 1] ∧ Has W (w5.heap.size + 4) 38 [.slice none 0 0, .bool false, .slice none 0 0] := by
  refine ⟨_, rfl, ?_, ?_, ?_, ?_, ?_, ?_⟩
  · exact (((((Below.refl _ w5).alloc (Nat.le_refl _) _).alloc (by simp) _).alloc (by simp; omega) _).alloc (by simp; omega) _).alloc (by simp; omega) _
  · refine ⟨Ri.nil _ _, ?_, by simp, by simp⟩
    have h := box_at w5 3 (i64s [x]) w5.heap.size rfl
    exact ((((h.alloc _).alloc _).alloc _).alloc _).ri (fun z hz => by simp at hz; subst hz; exact wf_i64 _ hx)
  · refine ⟨Ri.nil _ _, ?_, by simp, by simp⟩
    have h := box_at ((w5.alloc (.cells #[.int .i64 x] 3)).alloc (.cells #[.slice none 0 0, .bool u, .slice (some ⟨w5.heap.size, 0, none⟩) 1 1] 38)) 3 (i64s [y]) (w5.heap.size + 2) (by simp)
    exact ((h.alloc _).alloc _).ri (fun z hz => by simp at hz; subst hz; exact wf_i64 _ hy)
  · exact (((box_at (w5.alloc (.cells #[.int .i64 x] 3)) 38 [.slice none 0 0, .bool u, .slice (some ⟨w5.heap.size, 0, none⟩) 1 1] (w5.heap.size + 1) (by simp)).alloc _).alloc _).alloc _
  · exact (box_at (((w5.alloc (.cells #[.int .i64 x] 3)).alloc (.cells #[.slice none 0 0, .bool u, .slice (some ⟨w5.heap.size, 0, none⟩) 1 1] 38)).alloc (.cells #[.int .i64 y] 3)) 38 [.slice none 0 0, .bool u, .slice (some ⟨w5.heap.size + 2, 0, none⟩) 1 1] (w5.heap.size + 3) (by simp)).alloc _
  · exact box_at ((((w5.alloc (.cells #[.int .i64 x] 3)).alloc (.cells #[.slice none 0 0, .bool u, .slice (some ⟨w5.heap.size, 0, none⟩) 1 1] 38)).alloc (.cells #[.int .i64 y] 3)).alloc (.cells #[.slice none 0 0, .bool u, .slice (some ⟨w5.heap.size + 2, 0, none⟩) 1 1] 38)) 38 [.slice none 0 0, .bool false, .slice none 0 0] (w5.heap.size + 4) (by simp)
theorem fit_bounds {u : Bool} {x : Int} (h : Tens.fit u x = true) : -2147483648 ≤ x ∧ x ≤ 2147483647 := by
  unfold Tens.fit at h
  split at h
  · exact of_decide_eq_true h
  · have := of_decide_eq_true h; omega
theorem fit_up {u v : Bool} {x : Int} (h : Tens.fit u x = true) (hv : v = true) : Tens.fit v x = true := by
  subst hv
  exact decide_eq_true (fit_bounds h)
theorem ri_drew {w : World} {A : Option Addr} {zs : List Int} (h : Ri w A zs) (k : Nat) : Ri (w.drewN k) A zs := h.below (below_drewN (Below.refl _ _) k)
set_option maxRecDepth 100000 in
set_option maxHeartbeats 4000000 in
theorem values_two_n (op x0 y0 : Int) (h : 4 ≤ op ∧ op ≤ 7) (p q r : Int) (ah am ar ak : Addr) (w : World) (hE : E4 w ah am ar ak) :
    Calls Tryd.prog 5 #[.int .i64 op, .int .i64 x0, .int .i64 y0, .bool false, .int .i64 p, .int .i64 q, .int .i64 r] w fun e w' => e = .returned (.bool true) ∧ Below w.heap.size w w' := by
  have HF := hide (first7_c ah am ar ak w hE)
  have HE := hide hE
  have HX := hide (fun W => number_c x0 256 (by decide) (by decide) 256 rfl W)
  have HY := hide (fun W => number_c y0 256 (by decide) (by decide) 256 rfl W)
  have HP := hide (fun W => number_c p 2147483648 (by decide) (by decide) 2147483648 rfl W)
  have HQn := hide (fun W => number_c q 63 (by decide) (by decide) 63 rfl W)
  have HRn := hide (fun W => number_c r 256 (by decide) (by decide) 256 rfl W)
  have HWx := hide (fun W => wide_c x0 W)
  have HWy := hide (fun W => wide_c y0 W)
  clear hE
  have n9 : op ≠ 9 := by omega
  have n10 : op ≠ 10 := by omega
  have n11 : op ≠ 11 := by omega
  have g1 : ¬ op < 4 := by omega
  have g2 : op ≤ 11 := by omega
  have ho : 4 ≤ op ∧ op ≤ 11 := by omega
  go_enter Tryd.func5, Tryd.ntmps5
  go_wp2_with fail
  refine HF.out.mono ?_
  rintro e w3 ⟨rfl, hb⟩
  have HB := hide hb
  clear hb HF
  go_wp2_with fail
  refine (HX.out _).mono ?_
  rintro e w2 ⟨⟨kx, hkx, rfl⟩, hw⟩
  have hw := hw.symm
  subst hw
  obtain ⟨Kx, hKx⟩ : ∃ K : Int, (kx : Int) = K := ⟨_, rfl⟩
  have h0x : 0 ≤ Kx := by omega
  have h1x : Kx < 256 := by omega
  rw [hKx]
  clear hKx hkx
  have b0x : -128 ≤ Kx - 128 := by omega
  have b1x : Kx - 128 ≤ 127 := by omega
  go_wp2_with fail
  clear h0x h1x
  generalize Kx - 128 = x at *
  refine (HY.out _).mono ?_
  rintro e w2 ⟨⟨ky, hky, rfl⟩, hw⟩
  have hw := hw.symm
  subst hw
  obtain ⟨Ky, hKy⟩ : ∃ K : Int, (ky : Int) = K := ⟨_, rfl⟩
  have h0y : 0 ≤ Ky := by omega
  have h1y : Ky < 256 := by omega
  rw [hKy]
  clear hKy hky
  have b0y : -128 ≤ Ky - 128 := by omega
  have b1y : Ky - 128 ≤ 127 := by omega
  go_wp2_with fail
  clear h0y h1y
  generalize Ky - 128 = y at *
  have hfx : Tens.fit false x = true := decide_eq_true ⟨b0x, b1x⟩
  have hfy : Tens.fit false y = true := decide_eq_true ⟨b0y, b1y⟩
  clear b0x b1x b0y b1y
  have hql : ([] : List Int).length = Elm.nargs op := by unfold Elm.nargs; rw [if_neg (by omega), if_neg (by omega), if_neg (by omega)]; rfl
  have hmay : Elm.may op false [] = true := by unfold Elm.may; rw [if_neg (by omega), if_neg (by omega), if_neg (by omega)]
  obtain ⟨qs, hqs⟩ : ∃ qs : List Int, qs = [] := ⟨_, rfl⟩
  rw [← hqs] at hql hmay
  have hnl : qs.length = 0 := by rw [hqs]; rfl
  have HQ : Hid (Ri w3 none qs) := hide (by rw [hqs]; exact Ri.nil _ _)
  have HV := hide (evalue_c op ho false x y qs none 0 w3 hql HQ.out)
  have HRV := hide (fun k => rvalue_c op ho false x y qs none 0 (w3.drewN k) hql (ri_drew HQ.out k) hmay)
  have HONE := hide (fun (D E : Option Addr) => Elm.single_two op (by omega) false x y hfx hfy D E)
  have HTWO := hide (fun W => two_yes op (by omega) W)
  have hbx := fit_bounds hfx
  have hby := fit_bounds hfy
  have HWD := hide (fun W => values_world W x y false ⟨by omega, by omega⟩ ⟨by omega, by omega⟩)
  obtain ⟨v, hv⟩ : ∃ v, Hid (Elm.val op false x y qs = v) := ⟨_, hide rfl⟩
  subst hqs
  rw [hv.out] at HV HRV HONE
  rw [hnl] at HV HRV
  have HNL := hide hnl
  clear hv hbx hby hnl hql hmay hfx hfy
  go_wp2_with fail
  refine HV.out.mono ?_
  rintro e w4 ⟨rfl, k1, rfl⟩
  go_wp2_with fail
  refine (HRV.out k1).mono ?_
  rintro e w4 ⟨rfl, k2, rfl⟩
  have HB5 := hide (below_drewN (below_drewN HB.out k1) k2)
  have HQ5 := hide (ri_drew (ri_drew HQ.out k1) k2)
  generalize (w3.drewN k1).drewN k2 = w5 at *
  obtain ⟨W, hW, hBW, hIa, hIb, hA, hB, hZ⟩ := HWD.out w5
  have HW := hide hW
  have hBt := HB5.out.trans (hBW.mono HB5.out.size)
  have a0 := hA.cell 0
  have a1 := hA.cell 1
  have a2 := hA.cell 2
  have b0 := hB.cell 0
  have b1 := hB.cell 1
  have b2 := hB.cell 2
  have HC := hide (two_c op ⟨none, [], 0, false, some ⟨w5.heap.size, 0, none⟩, [x], 1⟩ ⟨none, [], 0, false, some ⟨w5.heap.size + 2, 0, none⟩, [y], 1⟩ ah am ar ak W hIa hIb (HE.out.below hBt))
  rw [(HONE.out _ _).1, (HONE.out _ _).2] at HC
  have HZ := hide hZ
  have HBt := hide hBt
  clear HNL HV HRV HB HQ HONE HWD hW hBW hIa hIb hA hB hZ hBt HQ5 HE
  go_wp2_with fail
  rw [← HW.out]
  refine (HTWO.out _).mono ?_
  rintro e w6 ⟨rfl, hw⟩
  have hw := hw.symm
  subst hw
  go_wp2_with fail
  refine HC.out.mono ?_
  rintro e w6 ⟨⟨t, ev, rfl, hIn, hFr, -, -, e3, hEr⟩, hb⟩
  obtain rfl : ev = .nilIface := by
    unfold Elm.Err at hEr
    rw [if_neg (by simp)] at hEr
    exact hEr
  have hB2 := HBt.out.trans (hb.mono HBt.out.size)
  have hZ2 := HZ.out.below hb HZ.out.lt
  have hs5 := HB5.out.size
  have hD := hIn.dat
  rw [e3] at hD ⊢
  obtain ⟨ad, hDad, hadl, cad⟩ := ri_one hD
  rw [hDad]
  obtain ⟨z0, z1, z2, zf0, zf1, zf2, HZf, HFf⟩ := elm_three hZ2 hB2 (Nat.le_trans hs5 (Nat.le_add_right _ _)) (.slice t.P t.zs.length t.cap) (.bool t.u) (.slice (some ad) 1 t.dcap)
  have hne : w5.heap.size + 4 ≠ ad.block := by
    have h1 := hFr.2 ad hDad
    have h2 := HZ.out.lt
    omega
  have cad2 : (((w6.setCell ⟨w5.heap.size + 4, 0, none⟩ (.slice t.P t.zs.length t.cap)).setCell ⟨w5.heap.size + 4, 1, none⟩ (.bool t.u)).setCell ⟨w5.heap.size + 4, 2, none⟩ (.slice (some ad) 1 t.dcap)).cell? ad = some (.int .i64 v) := by
    rw [World.cell?_setCell_far _ _ _ _ hne, World.cell?_setCell_far _ _ _ _ hne, World.cell?_setCell_far _ _ _ _ hne]
    exact cad
  clear HC HZ HBt HB5 hb hIn hFr e3 hEr hB2 hZ2 hD hs5 hDad hadl cad hne HTWO HW
  go_wp2_with fail
  go_ret
  exact ⟨rfl, HFf.out⟩
set_option maxRecDepth 100000 in
set_option maxHeartbeats 4000000 in
theorem values_relu_n (op x0 y0 : Int) (h : op = 8) (p q r : Int) (ah am ar ak : Addr) (w : World) (hE : E4 w ah am ar ak) :
    Calls Tryd.prog 5 #[.int .i64 op, .int .i64 x0, .int .i64 y0, .bool false, .int .i64 p, .int .i64 q, .int .i64 r] w fun e w' => e = .returned (.bool true) ∧ Below w.heap.size w w' := by
  have HF := hide (first7_c ah am ar ak w hE)
  have HE := hide hE
  have HX := hide (fun W => number_c x0 256 (by decide) (by decide) 256 rfl W)
  have HY := hide (fun W => number_c y0 256 (by decide) (by decide) 256 rfl W)
  have HP := hide (fun W => number_c p 2147483648 (by decide) (by decide) 2147483648 rfl W)
  have HQn := hide (fun W => number_c q 63 (by decide) (by decide) 63 rfl W)
  have HRn := hide (fun W => number_c r 256 (by decide) (by decide) 256 rfl W)
  have HWx := hide (fun W => wide_c x0 W)
  have HWy := hide (fun W => wide_c y0 W)
  clear hE
  subst h
  have ho : (4 : Int) ≤ 8 ∧ 8 ≤ (11 : Int) := by decide
  go_enter Tryd.func5, Tryd.ntmps5
  go_wp2_with fail
  refine HF.out.mono ?_
  rintro e w3 ⟨rfl, hb⟩
  have HB := hide hb
  clear hb HF
  go_wp2_with fail
  refine (HX.out _).mono ?_
  rintro e w2 ⟨⟨kx, hkx, rfl⟩, hw⟩
  have hw := hw.symm
  subst hw
  obtain ⟨Kx, hKx⟩ : ∃ K : Int, (kx : Int) = K := ⟨_, rfl⟩
  have h0x : 0 ≤ Kx := by omega
  have h1x : Kx < 256 := by omega
  rw [hKx]
  clear hKx hkx
  have b0x : -128 ≤ Kx - 128 := by omega
  have b1x : Kx - 128 ≤ 127 := by omega
  go_wp2_with fail
  clear h0x h1x
  generalize Kx - 128 = x at *
  refine (HY.out _).mono ?_
  rintro e w2 ⟨⟨ky, hky, rfl⟩, hw⟩
  have hw := hw.symm
  subst hw
  obtain ⟨Ky, hKy⟩ : ∃ K : Int, (ky : Int) = K := ⟨_, rfl⟩
  have h0y : 0 ≤ Ky := by omega
  have h1y : Ky < 256 := by omega
  rw [hKy]
  clear hKy hky
  have b0y : -128 ≤ Ky - 128 := by omega
  have b1y : Ky - 128 ≤ 127 := by omega
  go_wp2_with fail
  clear h0y h1y
  generalize Ky - 128 = y at *
  have hfx : Tens.fit false x = true := decide_eq_true ⟨b0x, b1x⟩
  have hfy : Tens.fit false y = true := decide_eq_true ⟨b0y, b1y⟩
  clear b0x b1x b0y b1y
  have hql : ([] : List Int).length = Elm.nargs 8 := by rfl
  have hmay : Elm.may 8 false [] = true := by rfl
  obtain ⟨qs, hqs⟩ : ∃ qs : List Int, qs = [] := ⟨_, rfl⟩
  rw [← hqs] at hql hmay
  have hnl : qs.length = 0 := by rw [hqs]; rfl
  have HQ : Hid (Ri w3 none qs) := hide (by rw [hqs]; exact Ri.nil _ _)
  have HV := hide (evalue_c 8 ho false x y qs none 0 w3 hql HQ.out)
  have HRV := hide (fun k => rvalue_c 8 ho false x y qs none 0 (w3.drewN k) hql (ri_drew HQ.out k) hmay)
  have HONE := hide (fun (D : Option Addr) => Elm.single_one 8 (by omega) false x y qs hfx hql hmay (fun h => absurd h (by decide)) (fun h => absurd h (by decide)) D)
  have HTWO := hide (fun W => two_no 8 (by omega) W)
  have hbx := fit_bounds hfx
  have hby := fit_bounds hfy
  have HWD := hide (fun W => values_world W x y false ⟨by omega, by omega⟩ ⟨by omega, by omega⟩)
  obtain ⟨v, hv⟩ : ∃ v, Hid (Elm.val 8 false x y qs = v) := ⟨_, hide rfl⟩
  rw [hv.out] at HV HRV HONE
  rw [hnl] at HV HRV
  have HNL := hide hnl
  clear hv hbx hby hnl hql hmay hfx hfy
  go_wp2_with fail
  refine HV.out.mono ?_
  rintro e w4 ⟨rfl, k1, rfl⟩
  go_wp2_with fail
  refine (HRV.out k1).mono ?_
  rintro e w4 ⟨rfl, k2, rfl⟩
  have HB5 := hide (below_drewN (below_drewN HB.out k1) k2)
  have HQ5 := hide (ri_drew (ri_drew HQ.out k1) k2)
  generalize (w3.drewN k1).drewN k2 = w5 at *
  obtain ⟨W, hW, hBW, hIa, hIb, hA, hB, hZ⟩ := HWD.out w5
  have HW := hide hW
  have hBt := HB5.out.trans (hBW.mono HB5.out.size)
  have a0 := hA.cell 0
  have a1 := hA.cell 1
  have a2 := hA.cell 2
  have b0 := hB.cell 0
  have b1 := hB.cell 1
  have b2 := hB.cell 2
  have HC := hide (one_c 8 qs ⟨none, [], 0, false, some ⟨w5.heap.size, 0, none⟩, [x], 1⟩ none 0 ah am ar ak W hIa (HQ5.out.below hBW) (HE.out.below hBt))
  rw [(HONE.out _).1, (HONE.out _).2, HNL.out] at HC
  have HZ := hide hZ
  have HBt := hide hBt
  clear HNL HV HRV HB HQ HONE HWD hW hBW hIa hIb hA hB hZ hBt HQ5 HE
  go_wp2_with fail
  rw [← HW.out]
  refine (HTWO.out _).mono ?_
  rintro e w6 ⟨rfl, hw⟩
  have hw := hw.symm
  subst hw
  go_wp2_with fail
  refine HC.out.mono ?_
  rintro e w6 ⟨⟨t, ev, rfl, hIn, hFr, -, -, e3, hEr⟩, hb⟩
  obtain rfl : ev = .nilIface := by
    unfold Elm.Err at hEr
    rw [if_neg (by simp)] at hEr
    exact hEr
  have hB2 := HBt.out.trans (hb.mono HBt.out.size)
  have hZ2 := HZ.out.below hb HZ.out.lt
  have hs5 := HB5.out.size
  have hD := hIn.dat
  rw [e3] at hD ⊢
  obtain ⟨ad, hDad, hadl, cad⟩ := ri_one hD
  rw [hDad]
  obtain ⟨z0, z1, z2, zf0, zf1, zf2, HZf, HFf⟩ := elm_three hZ2 hB2 (Nat.le_trans hs5 (Nat.le_add_right _ _)) (.slice t.P t.zs.length t.cap) (.bool t.u) (.slice (some ad) 1 t.dcap)
  have hne : w5.heap.size + 4 ≠ ad.block := by
    have h1 := hFr.2 ad hDad
    have h2 := HZ.out.lt
    omega
  have cad2 : (((w6.setCell ⟨w5.heap.size + 4, 0, none⟩ (.slice t.P t.zs.length t.cap)).setCell ⟨w5.heap.size + 4, 1, none⟩ (.bool t.u)).setCell ⟨w5.heap.size + 4, 2, none⟩ (.slice (some ad) 1 t.dcap)).cell? ad = some (.int .i64 v) := by
    rw [World.cell?_setCell_far _ _ _ _ hne, World.cell?_setCell_far _ _ _ _ hne, World.cell?_setCell_far _ _ _ _ hne]
    exact cad
  clear HC HZ HBt HB5 hb hIn hFr e3 hEr hB2 hZ2 hD hs5 hDad hadl cad hne HTWO HW
  go_wp2_with fail
  go_ret
  exact ⟨rfl, HFf.out⟩
set_option maxRecDepth 100000 in
set_option maxHeartbeats 4000000 in
theorem values_clamp_n (op x0 y0 : Int) (h : op = 9) (p q r : Int) (ah am ar ak : Addr) (w : World) (hE : E4 w ah am ar ak) :
    Calls Tryd.prog 5 #[.int .i64 op, .int .i64 x0, .int .i64 y0, .bool false, .int .i64 p, .int .i64 q, .int .i64 r] w fun e w' => e = .returned (.bool true) ∧ Below w.heap.size w w' := by
  have HF := hide (first7_c ah am ar ak w hE)
  have HE := hide hE
  have HX := hide (fun W => number_c x0 256 (by decide) (by decide) 256 rfl W)
  have HY := hide (fun W => number_c y0 256 (by decide) (by decide) 256 rfl W)
  have HP := hide (fun W => number_c p 2147483648 (by decide) (by decide) 2147483648 rfl W)
  have HQn := hide (fun W => number_c q 63 (by decide) (by decide) 63 rfl W)
  have HRn := hide (fun W => number_c r 256 (by decide) (by decide) 256 rfl W)
  have HWx := hide (fun W => wide_c x0 W)
  have HWy := hide (fun W => wide_c y0 W)
  clear hE
  subst h
  have ho : (4 : Int) ≤ 9 ∧ 9 ≤ (11 : Int) := by decide
  go_enter Tryd.func5, Tryd.ntmps5
  go_wp2_with fail
  refine HF.out.mono ?_
  rintro e w3 ⟨rfl, hb⟩
  have HB := hide hb
  clear hb HF
  go_wp2_with fail
  refine (HX.out _).mono ?_
  rintro e w2 ⟨⟨kx, hkx, rfl⟩, hw⟩
  have hw := hw.symm
  subst hw
  obtain ⟨Kx, hKx⟩ : ∃ K : Int, (kx : Int) = K := ⟨_, rfl⟩
  have h0x : 0 ≤ Kx := by omega
  have h1x : Kx < 256 := by omega
  rw [hKx]
  clear hKx hkx
  have b0x : -128 ≤ Kx - 128 := by omega
  have b1x : Kx - 128 ≤ 127 := by omega
  go_wp2_with fail
  clear h0x h1x
  generalize Kx - 128 = x at *
  refine (HY.out _).mono ?_
  rintro e w2 ⟨⟨ky, hky, rfl⟩, hw⟩
  have hw := hw.symm
  subst hw
  obtain ⟨Ky, hKy⟩ : ∃ K : Int, (ky : Int) = K := ⟨_, rfl⟩
  have h0y : 0 ≤ Ky := by omega
  have h1y : Ky < 256 := by omega
  rw [hKy]
  clear hKy hky
  have b0y : -128 ≤ Ky - 128 := by omega
  have b1y : Ky - 128 ≤ 127 := by omega
  rcases Int.lt_trichotomy x (Ky - 128) with hlt | heq | hlt
  · go_wp2_with fail
    clear h0y h1y
    generalize Ky - 128 = y at *
    have hfx : Tens.fit false x = true := decide_eq_true ⟨b0x, b1x⟩
    have hfy : Tens.fit false y = true := decide_eq_true ⟨b0y, b1y⟩
    clear b0x b1x b0y b1y
    have bx := fit_bounds hfx
    have bby := fit_bounds hfy
    have h12 : x ≤ y := by omega
    have hmay0 : Elm.may 9 false [x, y] = true := by
      show (decide (x ≤ y) && Tens.fit false x && Tens.fit false y) = true
      rw [Bool.and_eq_true, Bool.and_eq_true]
      exact ⟨⟨decide_eq_true h12, by assumption⟩, by assumption⟩
    clear h12
    obtain ⟨wq, hwq⟩ : ∃ W, W = w3.alloc (.cells #[.int .i64 x, .int .i64 y] 3) := ⟨_, rfl⟩
    have HWq := hide hwq
    have HQ0 : Ri wq (some ⟨w3.heap.size, 0, none⟩) [x, y] := by
      rw [hwq]
      exact new_ri w3 3 [x, y] (by
        intro z hz
        simp at hz
        omega)
    have HB0 := HB.out.alloc HB.out.size (.cells #[.int .i64 x, .int .i64 y] 3)
    rw [← hwq] at HB0
    clear HB hwq
    have HB := hide HB0
    clear HB0
    obtain ⟨qs, hqs⟩ : ∃ qs : List Int, qs = [x, y] := ⟨_, rfl⟩
    have hql : qs.length = Elm.nargs 9 := by rw [hqs]; rfl
    have hnl : qs.length = 2 := by rw [hqs]; rfl
    rw [← hqs] at HQ0
    have HQ := hide HQ0
    clear HQ0
    have hmay : Elm.may 9 false qs = true := by rw [hqs]; exact hmay0
    clear hqs hmay0 bx bby
    have HV := hide (evalue_c 9 ho false x y qs (some ⟨w3.heap.size, 0, none⟩) 2 wq hql HQ.out)
    have HRV := hide (fun k => rvalue_c 9 ho false x y qs (some ⟨w3.heap.size, 0, none⟩) 2 (wq.drewN k) hql (ri_drew HQ.out k) hmay)
    have HONE := hide (fun (D : Option Addr) => Elm.single_one 9 (by omega) false x y qs hfx hql hmay (fun h => absurd h (by decide)) (fun h => absurd h (by decide)) D)
    have HTWO := hide (fun W => two_no 9 (by omega) W)
    have hbx := fit_bounds hfx
    have hby := fit_bounds hfy
    have HWD := hide (fun W => values_world W x y false ⟨by omega, by omega⟩ ⟨by omega, by omega⟩)
    obtain ⟨v, hv⟩ : ∃ v, Hid (Elm.val 9 false x y qs = v) := ⟨_, hide rfl⟩
    rw [hv.out] at HV HRV HONE
    rw [hnl] at HV HRV
    have HNL := hide hnl
    clear hv hbx hby hnl hql hmay hfx hfy
    rw [← HWq.out]
    refine HV.out.mono ?_
    rintro e w4 ⟨rfl, k1, rfl⟩
    go_wp2_with fail
    refine (HRV.out k1).mono ?_
    rintro e w4 ⟨rfl, k2, rfl⟩
    have HB5 := hide (below_drewN (below_drewN HB.out k1) k2)
    have HQ5 := hide (ri_drew (ri_drew HQ.out k1) k2)
    generalize (wq.drewN k1).drewN k2 = w5 at *
    obtain ⟨W, hW, hBW, hIa, hIb, hA, hB, hZ⟩ := HWD.out w5
    have HW := hide hW
    have hBt := HB5.out.trans (hBW.mono HB5.out.size)
    have a0 := hA.cell 0
    have a1 := hA.cell 1
    have a2 := hA.cell 2
    have b0 := hB.cell 0
    have b1 := hB.cell 1
    have b2 := hB.cell 2
    have HC := hide (one_c 9 qs ⟨none, [], 0, false, some ⟨w5.heap.size, 0, none⟩, [x], 1⟩ (some ⟨w3.heap.size, 0, none⟩) 2 ah am ar ak W hIa (HQ5.out.below hBW) (HE.out.below hBt))
    rw [(HONE.out _).1, (HONE.out _).2, HNL.out] at HC
    have HZ := hide hZ
    have HBt := hide hBt
    clear HNL HV HRV HB HQ HONE HWD hW hBW hIa hIb hA hB hZ hBt HQ5 HE
    go_wp2_with fail
    rw [← HW.out]
    refine (HTWO.out _).mono ?_
    rintro e w6 ⟨rfl, hw⟩
    have hw := hw.symm
    subst hw
    go_wp2_with fail
    refine HC.out.mono ?_
    rintro e w6 ⟨⟨t, ev, rfl, hIn, hFr, -, -, e3, hEr⟩, hb⟩
    obtain rfl : ev = .nilIface := by
      unfold Elm.Err at hEr
      rw [if_neg (by simp)] at hEr
      exact hEr
    have hB2 := HBt.out.trans (hb.mono HBt.out.size)
    have hZ2 := HZ.out.below hb HZ.out.lt
    have hs5 := HB5.out.size
    have hD := hIn.dat
    rw [e3] at hD ⊢
    obtain ⟨ad, hDad, hadl, cad⟩ := ri_one hD
    rw [hDad]
    obtain ⟨z0, z1, z2, zf0, zf1, zf2, HZf, HFf⟩ := elm_three hZ2 hB2 (Nat.le_trans hs5 (Nat.le_add_right _ _)) (.slice t.P t.zs.length t.cap) (.bool t.u) (.slice (some ad) 1 t.dcap)
    have hne : w5.heap.size + 4 ≠ ad.block := by
      have h1 := hFr.2 ad hDad
      have h2 := HZ.out.lt
      omega
    have cad2 : (((w6.setCell ⟨w5.heap.size + 4, 0, none⟩ (.slice t.P t.zs.length t.cap)).setCell ⟨w5.heap.size + 4, 1, none⟩ (.bool t.u)).setCell ⟨w5.heap.size + 4, 2, none⟩ (.slice (some ad) 1 t.dcap)).cell? ad = some (.int .i64 v) := by
      rw [World.cell?_setCell_far _ _ _ _ hne, World.cell?_setCell_far _ _ _ _ hne, World.cell?_setCell_far _ _ _ _ hne]
      exact cad
    clear HC HZ HBt HB5 hb hIn hFr e3 hEr hB2 hZ2 hD hs5 hDad hadl cad hne HTWO HW
    go_wp2_with fail
    go_ret
    exact ⟨rfl, HFf.out⟩
  · have HEQ := hide heq
    clear heq
    have nlt1 : ¬ x < Ky - 128 := by have := HEQ.out; omega
    have nlt2 : ¬ Ky - 128 < x := by have := HEQ.out; omega
    go_wp2_with fail
    clear h0y h1y
    generalize Ky - 128 = y at *
    have hfx : Tens.fit false x = true := decide_eq_true ⟨b0x, b1x⟩
    have hfy : Tens.fit false y = true := decide_eq_true ⟨b0y, b1y⟩
    clear b0x b1x b0y b1y
    have heq := HEQ.out
    clear HEQ nlt1 nlt2
    subst heq
    have bx := fit_bounds hfx
    have bby := fit_bounds hfx
    have h12 : x ≤ x := by omega
    have hmay0 : Elm.may 9 false [x, x] = true := by
      show (decide (x ≤ x) && Tens.fit false x && Tens.fit false x) = true
      rw [Bool.and_eq_true, Bool.and_eq_true]
      exact ⟨⟨decide_eq_true h12, by assumption⟩, by assumption⟩
    clear h12
    obtain ⟨wq, hwq⟩ : ∃ W, W = w3.alloc (.cells #[.int .i64 x, .int .i64 x] 3) := ⟨_, rfl⟩
    have HWq := hide hwq
    have HQ0 : Ri wq (some ⟨w3.heap.size, 0, none⟩) [x, x] := by
      rw [hwq]
      exact new_ri w3 3 [x, x] (by
        intro z hz
        simp at hz
        omega)
    have HB0 := HB.out.alloc HB.out.size (.cells #[.int .i64 x, .int .i64 x] 3)
    rw [← hwq] at HB0
    clear HB hwq
    have HB := hide HB0
    clear HB0
    obtain ⟨qs, hqs⟩ : ∃ qs : List Int, qs = [x, x] := ⟨_, rfl⟩
    have hql : qs.length = Elm.nargs 9 := by rw [hqs]; rfl
    have hnl : qs.length = 2 := by rw [hqs]; rfl
    rw [← hqs] at HQ0
    have HQ := hide HQ0
    clear HQ0
    have hmay : Elm.may 9 false qs = true := by rw [hqs]; exact hmay0
    clear hqs hmay0 bx bby
    have HV := hide (evalue_c 9 ho false x x qs (some ⟨w3.heap.size, 0, none⟩) 2 wq hql HQ.out)
    have HRV := hide (fun k => rvalue_c 9 ho false x x qs (some ⟨w3.heap.size, 0, none⟩) 2 (wq.drewN k) hql (ri_drew HQ.out k) hmay)
    have HONE := hide (fun (D : Option Addr) => Elm.single_one 9 (by omega) false x x qs hfx hql hmay (fun h => absurd h (by decide)) (fun h => absurd h (by decide)) D)
    have HTWO := hide (fun W => two_no 9 (by omega) W)
    have hbx := fit_bounds hfx
    have hby := fit_bounds hfx
    have HWD := hide (fun W => values_world W x x false ⟨by omega, by omega⟩ ⟨by omega, by omega⟩)
    obtain ⟨v, hv⟩ : ∃ v, Hid (Elm.val 9 false x x qs = v) := ⟨_, hide rfl⟩
    rw [hv.out] at HV HRV HONE
    rw [hnl] at HV HRV
    have HNL := hide hnl
    clear hv hbx hby hnl hql hmay hfx
    rw [← HWq.out]
    refine HV.out.mono ?_
    rintro e w4 ⟨rfl, k1, rfl⟩
    go_wp2_with fail
    refine (HRV.out k1).mono ?_
    rintro e w4 ⟨rfl, k2, rfl⟩
    have HB5 := hide (below_drewN (below_drewN HB.out k1) k2)
    have HQ5 := hide (ri_drew (ri_drew HQ.out k1) k2)
    generalize (wq.drewN k1).drewN k2 = w5 at *
    obtain ⟨W, hW, hBW, hIa, hIb, hA, hB, hZ⟩ := HWD.out w5
    have HW := hide hW
    have hBt := HB5.out.trans (hBW.mono HB5.out.size)
    have a0 := hA.cell 0
    have a1 := hA.cell 1
    have a2 := hA.cell 2
    have b0 := hB.cell 0
    have b1 := hB.cell 1
    have b2 := hB.cell 2
    have HC := hide (one_c 9 qs ⟨none, [], 0, false, some ⟨w5.heap.size, 0, none⟩, [x], 1⟩ (some ⟨w3.heap.size, 0, none⟩) 2 ah am ar ak W hIa (HQ5.out.below hBW) (HE.out.below hBt))
    rw [(HONE.out _).1, (HONE.out _).2, HNL.out] at HC
    have HZ := hide hZ
    have HBt := hide hBt
    clear HNL HV HRV HB HQ HONE HWD hW hBW hIa hIb hA hB hZ hBt HQ5 HE
    go_wp2_with fail
    rw [← HW.out]
    refine (HTWO.out _).mono ?_
    rintro e w6 ⟨rfl, hw⟩
    have hw := hw.symm
    subst hw
    go_wp2_with fail
    refine HC.out.mono ?_
    rintro e w6 ⟨⟨t, ev, rfl, hIn, hFr, -, -, e3, hEr⟩, hb⟩
    obtain rfl : ev = .nilIface := by
      unfold Elm.Err at hEr
      rw [if_neg (by simp)] at hEr
      exact hEr
    have hB2 := HBt.out.trans (hb.mono HBt.out.size)
    have hZ2 := HZ.out.below hb HZ.out.lt
    have hs5 := HB5.out.size
    have hD := hIn.dat
    rw [e3] at hD ⊢
    obtain ⟨ad, hDad, hadl, cad⟩ := ri_one hD
    rw [hDad]
    obtain ⟨z0, z1, z2, zf0, zf1, zf2, HZf, HFf⟩ := elm_three hZ2 hB2 (Nat.le_trans hs5 (Nat.le_add_right _ _)) (.slice t.P t.zs.length t.cap) (.bool t.u) (.slice (some ad) 1 t.dcap)
    have hne : w5.heap.size + 4 ≠ ad.block := by
      have h1 := hFr.2 ad hDad
      have h2 := HZ.out.lt
      omega
    have cad2 : (((w6.setCell ⟨w5.heap.size + 4, 0, none⟩ (.slice t.P t.zs.length t.cap)).setCell ⟨w5.heap.size + 4, 1, none⟩ (.bool t.u)).setCell ⟨w5.heap.size + 4, 2, none⟩ (.slice (some ad) 1 t.dcap)).cell? ad = some (.int .i64 v) := by
      rw [World.cell?_setCell_far _ _ _ _ hne, World.cell?_setCell_far _ _ _ _ hne, World.cell?_setCell_far _ _ _ _ hne]
      exact cad
    clear HC HZ HBt HB5 hb hIn hFr e3 hEr hB2 hZ2 hD hs5 hDad hadl cad hne HTWO HW
    go_wp2_with fail
    go_ret
    exact ⟨rfl, HFf.out⟩
  · go_wp2_with fail
    clear h0y h1y
    generalize Ky - 128 = y at *
    have hfx : Tens.fit false x = true := decide_eq_true ⟨b0x, b1x⟩
    have hfy : Tens.fit false y = true := decide_eq_true ⟨b0y, b1y⟩
    clear b0x b1x b0y b1y
    have bx := fit_bounds hfx
    have bby := fit_bounds hfy
    have h12 : y ≤ x := by omega
    have hmay0 : Elm.may 9 false [y, x] = true := by
      show (decide (y ≤ x) && Tens.fit false y && Tens.fit false x) = true
      rw [Bool.and_eq_true, Bool.and_eq_true]
      exact ⟨⟨decide_eq_true h12, by assumption⟩, by assumption⟩
    clear h12
    obtain ⟨wq, hwq⟩ : ∃ W, W = w3.alloc (.cells #[.int .i64 y, .int .i64 x] 3) := ⟨_, rfl⟩
    have HWq := hide hwq
    have HQ0 : Ri wq (some ⟨w3.heap.size, 0, none⟩) [y, x] := by
      rw [hwq]
      exact new_ri w3 3 [y, x] (by
        intro z hz
        simp at hz
        omega)
    have HB0 := HB.out.alloc HB.out.size (.cells #[.int .i64 y, .int .i64 x] 3)
    rw [← hwq] at HB0
    clear HB hwq
    have HB := hide HB0
    clear HB0
    obtain ⟨qs, hqs⟩ : ∃ qs : List Int, qs = [y, x] := ⟨_, rfl⟩
    have hql : qs.length = Elm.nargs 9 := by rw [hqs]; rfl
    have hnl : qs.length = 2 := by rw [hqs]; rfl
    rw [← hqs] at HQ0
    have HQ := hide HQ0
    clear HQ0
    have hmay : Elm.may 9 false qs = true := by rw [hqs]; exact hmay0
    clear hqs hmay0 bx bby
    have HV := hide (evalue_c 9 ho false x y qs (some ⟨w3.heap.size, 0, none⟩) 2 wq hql HQ.out)
    have HRV := hide (fun k => rvalue_c 9 ho false x y qs (some ⟨w3.heap.size, 0, none⟩) 2 (wq.drewN k) hql (ri_drew HQ.out k) hmay)
    have HONE := hide (fun (D : Option Addr) => Elm.single_one 9 (by omega) false x y qs hfx hql hmay (fun h => absurd h (by decide)) (fun h => absurd h (by decide)) D)
    have HTWO := hide (fun W => two_no 9 (by omega) W)
    have hbx := fit_bounds hfx
    have hby := fit_bounds hfy
    have HWD := hide (fun W => values_world W x y false ⟨by omega, by omega⟩ ⟨by omega, by omega⟩)
    obtain ⟨v, hv⟩ : ∃ v, Hid (Elm.val 9 false x y qs = v) := ⟨_, hide rfl⟩
    rw [hv.out] at HV HRV HONE
    rw [hnl] at HV HRV
    have HNL := hide hnl
    clear hv hbx hby hnl hql hmay hfx hfy
    rw [← HWq.out]
    refine HV.out.mono ?_
    rintro e w4 ⟨rfl, k1, rfl⟩
    go_wp2_with fail
    refine (HRV.out k1).mono ?_
    rintro e w4 ⟨rfl, k2, rfl⟩
    have HB5 := hide (below_drewN (below_drewN HB.out k1) k2)
    have HQ5 := hide (ri_drew (ri_drew HQ.out k1) k2)
    generalize (wq.drewN k1).drewN k2 = w5 at *
    obtain ⟨W, hW, hBW, hIa, hIb, hA, hB, hZ⟩ := HWD.out w5
    have HW := hide hW
    have hBt := HB5.out.trans (hBW.mono HB5.out.size)
    have a0 := hA.cell 0
    have a1 := hA.cell 1
    have a2 := hA.cell 2
    have b0 := hB.cell 0
    have b1 := hB.cell 1
    have b2 := hB.cell 2
    have HC := hide (one_c 9 qs ⟨none, [], 0, false, some ⟨w5.heap.size, 0, none⟩, [x], 1⟩ (some ⟨w3.heap.size, 0, none⟩) 2 ah am ar ak W hIa (HQ5.out.below hBW) (HE.out.below hBt))
    rw [(HONE.out _).1, (HONE.out _).2, HNL.out] at HC
    have HZ := hide hZ
    have HBt := hide hBt
    clear HNL HV HRV HB HQ HONE HWD hW hBW hIa hIb hA hB hZ hBt HQ5 HE
    go_wp2_with fail
    rw [← HW.out]
    refine (HTWO.out _).mono ?_
    rintro e w6 ⟨rfl, hw⟩
    have hw := hw.symm
    subst hw
    go_wp2_with fail
    refine HC.out.mono ?_
    rintro e w6 ⟨⟨t, ev, rfl, hIn, hFr, -, -, e3, hEr⟩, hb⟩
    obtain rfl : ev = .nilIface := by
      unfold Elm.Err at hEr
      rw [if_neg (by simp)] at hEr
      exact hEr
    have hB2 := HBt.out.trans (hb.mono HBt.out.size)
    have hZ2 := HZ.out.below hb HZ.out.lt
    have hs5 := HB5.out.size
    have hD := hIn.dat
    rw [e3] at hD ⊢
    obtain ⟨ad, hDad, hadl, cad⟩ := ri_one hD
    rw [hDad]
    obtain ⟨z0, z1, z2, zf0, zf1, zf2, HZf, HFf⟩ := elm_three hZ2 hB2 (Nat.le_trans hs5 (Nat.le_add_right _ _)) (.slice t.P t.zs.length t.cap) (.bool t.u) (.slice (some ad) 1 t.dcap)
    have hne : w5.heap.size + 4 ≠ ad.block := by
      have h1 := hFr.2 ad hDad
      have h2 := HZ.out.lt
      omega
    have cad2 : (((w6.setCell ⟨w5.heap.size + 4, 0, none⟩ (.slice t.P t.zs.length t.cap)).setCell ⟨w5.heap.size + 4, 1, none⟩ (.bool t.u)).setCell ⟨w5.heap.size + 4, 2, none⟩ (.slice (some ad) 1 t.dcap)).cell? ad = some (.int .i64 v) := by
      rw [World.cell?_setCell_far _ _ _ _ hne, World.cell?_setCell_far _ _ _ _ hne, World.cell?_setCell_far _ _ _ _ hne]
      exact cad
    clear HC HZ HBt HB5 hb hIn hFr e3 hEr hB2 hZ2 hD hs5 hDad hadl cad hne HTWO HW
    go_wp2_with fail
    go_ret
    exact ⟨rfl, HFf.out⟩
set_option maxRecDepth 100000 in
set_option maxHeartbeats 4000000 in
theorem values_requant_n (op x0 y0 : Int) (h : op = 10) (p q r : Int) (ah am ar ak : Addr) (w : World) (hE : E4 w ah am ar ak) :
    Calls Tryd.prog 5 #[.int .i64 op, .int .i64 x0, .int .i64 y0, .bool false, .int .i64 p, .int .i64 q, .int .i64 r] w fun e w' => e = .returned (.bool true) ∧ Below w.heap.size w w' := by
  have HF := hide (first7_c ah am ar ak w hE)
  have HE := hide hE
  have HX := hide (fun W => number_c x0 256 (by decide) (by decide) 256 rfl W)
  have HY := hide (fun W => number_c y0 256 (by decide) (by decide) 256 rfl W)
  have HP := hide (fun W => number_c p 2147483648 (by decide) (by decide) 2147483648 rfl W)
  have HQn := hide (fun W => number_c q 63 (by decide) (by decide) 63 rfl W)
  have HRn := hide (fun W => number_c r 256 (by decide) (by decide) 256 rfl W)
  have HWx := hide (fun W => wide_c x0 W)
  have HWy := hide (fun W => wide_c y0 W)
  clear hE
  subst h
  have ho : (4 : Int) ≤ 10 ∧ 10 ≤ (11 : Int) := by decide
  go_enter Tryd.func5, Tryd.ntmps5
  go_wp2_with fail
  refine HF.out.mono ?_
  rintro e w3 ⟨rfl, hb⟩
  have HB := hide hb
  clear hb HF
  go_wp2_with fail
  refine (HX.out _).mono ?_
  rintro e w2 ⟨⟨kx, hkx, rfl⟩, hw⟩
  have hw := hw.symm
  subst hw
  obtain ⟨Kx, hKx⟩ : ∃ K : Int, (kx : Int) = K := ⟨_, rfl⟩
  have h0x : 0 ≤ Kx := by omega
  have h1x : Kx < 256 := by omega
  rw [hKx]
  clear hKx hkx
  have b0x : -128 ≤ Kx - 128 := by omega
  have b1x : Kx - 128 ≤ 127 := by omega
  go_wp2_with fail
  clear h0x h1x
  generalize Kx - 128 = x at *
  refine (HY.out _).mono ?_
  rintro e w2 ⟨⟨ky, hky, rfl⟩, hw⟩
  have hw := hw.symm
  subst hw
  obtain ⟨Ky, hKy⟩ : ∃ K : Int, (ky : Int) = K := ⟨_, rfl⟩
  have h0y : 0 ≤ Ky := by omega
  have h1y : Ky < 256 := by omega
  rw [hKy]
  clear hKy hky
  have b0y : -128 ≤ Ky - 128 := by omega
  have b1y : Ky - 128 ≤ 127 := by omega
  go_wp2_with fail
  clear h0y h1y
  generalize Ky - 128 = y at *
  have hfx : Tens.fit false x = true := decide_eq_true ⟨b0x, b1x⟩
  have hfy : Tens.fit false y = true := decide_eq_true ⟨b0y, b1y⟩
  clear b0x b1x b0y b1y
  have Hfx := hide hfx
  have Hfy := hide hfy
  clear hfx hfy
  go_wp2_with fail
  refine (HP.out _).mono ?_
  rintro e w2 ⟨⟨kp, hkp, rfl⟩, hw⟩
  have hw := hw.symm
  subst hw
  obtain ⟨Kp, hKp⟩ : ∃ K : Int, (kp : Int) = K := ⟨_, rfl⟩
  have h0p : 0 ≤ Kp := by omega
  have h1p : Kp < 2147483648 := by omega
  rw [hKp]
  clear hKp hkp
  go_wp2_with fail
  refine (HQn.out _).mono ?_
  rintro e w2 ⟨⟨kq, hkq, rfl⟩, hw⟩
  have hw := hw.symm
  subst hw
  obtain ⟨Kq, hKq⟩ : ∃ K : Int, (kq : Int) = K := ⟨_, rfl⟩
  have h0q : 0 ≤ Kq := by omega
  have h1q : Kq < 63 := by omega
  rw [hKq]
  clear hKq hkq
  go_wp2_with fail
  refine (HRn.out _).mono ?_
  rintro e w2 ⟨⟨kr, hkr, rfl⟩, hw⟩
  have hw := hw.symm
  subst hw
  obtain ⟨Kr, hKr⟩ : ∃ K : Int, (kr : Int) = K := ⟨_, rfl⟩
  have h0r : 0 ≤ Kr := by omega
  have h1r : Kr < 256 := by omega
  rw [hKr]
  clear hKr hkr
  have b0r : -128 ≤ Kr - 128 := by omega
  have b1r : Kr - 128 ≤ 127 := by omega
  go_wp2_with fail
  clear h0r h1r
  generalize Kr - 128 = z at *
  have hfx := Hfx.out
  have hfy := Hfy.out
  have hfx2 : Tens.fit true x = true := fit_up hfx rfl
  have hfy2 : Tens.fit true y = true := fit_up hfy rfl
  obtain ⟨wq, hwq⟩ : ∃ W, W = w3.alloc (.cells #[.int .i64 Kp, .int .i64 Kq, .int .i64 z] 3) := ⟨_, rfl⟩
  have HWq := hide hwq
  have HQ0 : Ri wq (some ⟨w3.heap.size, 0, none⟩) [Kp, Kq, z] := by
    rw [hwq]
    exact new_ri w3 3 [Kp, Kq, z] (by
      intro z hz
      simp at hz
      omega)
  have HB0 := HB.out.alloc HB.out.size (.cells #[.int .i64 Kp, .int .i64 Kq, .int .i64 z] 3)
  rw [← hwq] at HB0
  clear HB hwq
  have HB := hide HB0
  clear HB0
  obtain ⟨qs, hqs⟩ : ∃ qs : List Int, qs = [Kp, Kq, z] := ⟨_, rfl⟩
  have hql : qs.length = Elm.nargs 10 := by rw [hqs]; rfl
  have hnl : qs.length = 3 := by rw [hqs]; rfl
  rw [← hqs] at HQ0
  have HQ := hide HQ0
  clear HQ0
  have hmay : Elm.may 10 true qs = true := by
    rw [hqs]
    show (decide (0 ≤ Kp) && decide (Kp ≤ 2147483647) && decide (0 ≤ Kq) && decide (Kq ≤ 62) && Tens.fit false z) = true
    simp only [Bool.and_eq_true, decide_eq_true_eq]
    exact ⟨⟨⟨⟨by omega, by omega⟩, by omega⟩, by omega⟩, decide_eq_true ⟨by omega, by omega⟩⟩
  clear hqs
  have HV := hide (evalue_c 10 ho true x y qs (some ⟨w3.heap.size, 0, none⟩) 3 wq hql HQ.out)
  have HRV := hide (fun k => rvalue_c 10 ho true x y qs (some ⟨w3.heap.size, 0, none⟩) 3 (wq.drewN k) hql (ri_drew HQ.out k) hmay)
  have HONE := hide (fun (D : Option Addr) => Elm.single_one 10 (by omega) true x y qs hfx2 hql hmay (fun _ => rfl) (fun h => absurd h (by decide)) D)
  have HTWO := hide (fun W => two_no 10 (by omega) W)
  have hbx := fit_bounds hfx
  have hby := fit_bounds hfy
  have HWD := hide (fun W => values_world W x y true ⟨by omega, by omega⟩ ⟨by omega, by omega⟩)
  obtain ⟨v, hv⟩ : ∃ v, Hid (Elm.val 10 true x y qs = v) := ⟨_, hide rfl⟩
  rw [hv.out] at HV HRV HONE
  rw [hnl] at HV HRV
  have HNL := hide hnl
  clear hv hbx hby hnl hql hmay hfx hfy hfx2 hfy2
  rw [← HWq.out]
  refine HV.out.mono ?_
  rintro e w4 ⟨rfl, k1, rfl⟩
  go_wp2_with fail
  refine (HRV.out k1).mono ?_
  rintro e w4 ⟨rfl, k2, rfl⟩
  have HB5 := hide (below_drewN (below_drewN HB.out k1) k2)
  have HQ5 := hide (ri_drew (ri_drew HQ.out k1) k2)
  generalize (wq.drewN k1).drewN k2 = w5 at *
  obtain ⟨W, hW, hBW, hIa, hIb, hA, hB, hZ⟩ := HWD.out w5
  have HW := hide hW
  have hBt := HB5.out.trans (hBW.mono HB5.out.size)
  have a0 := hA.cell 0
  have a1 := hA.cell 1
  have a2 := hA.cell 2
  have b0 := hB.cell 0
  have b1 := hB.cell 1
  have b2 := hB.cell 2
  have HC := hide (one_c 10 qs ⟨none, [], 0, true, some ⟨w5.heap.size, 0, none⟩, [x], 1⟩ (some ⟨w3.heap.size, 0, none⟩) 3 ah am ar ak W hIa (HQ5.out.below hBW) (HE.out.below hBt))
  rw [(HONE.out _).1, (HONE.out _).2, HNL.out] at HC
  have HZ := hide hZ
  have HBt := hide hBt
  clear HNL HV HRV HB HQ HONE HWD hW hBW hIa hIb hA hB hZ hBt HQ5 HE
  go_wp2_with fail
  rw [← HW.out]
  refine (HTWO.out _).mono ?_
  rintro e w6 ⟨rfl, hw⟩
  have hw := hw.symm
  subst hw
  go_wp2_with fail
  refine HC.out.mono ?_
  rintro e w6 ⟨⟨t, ev, rfl, hIn, hFr, -, -, e3, hEr⟩, hb⟩
  obtain rfl : ev = .nilIface := by
    unfold Elm.Err at hEr
    rw [if_neg (by simp)] at hEr
    exact hEr
  have hB2 := HBt.out.trans (hb.mono HBt.out.size)
  have hZ2 := HZ.out.below hb HZ.out.lt
  have hs5 := HB5.out.size
  have hD := hIn.dat
  rw [e3] at hD ⊢
  obtain ⟨ad, hDad, hadl, cad⟩ := ri_one hD
  rw [hDad]
  obtain ⟨z0, z1, z2, zf0, zf1, zf2, HZf, HFf⟩ := elm_three hZ2 hB2 (Nat.le_trans hs5 (Nat.le_add_right _ _)) (.slice t.P t.zs.length t.cap) (.bool t.u) (.slice (some ad) 1 t.dcap)
  have hne : w5.heap.size + 4 ≠ ad.block := by
    have h1 := hFr.2 ad hDad
    have h2 := HZ.out.lt
    omega
  have cad2 : (((w6.setCell ⟨w5.heap.size + 4, 0, none⟩ (.slice t.P t.zs.length t.cap)).setCell ⟨w5.heap.size + 4, 1, none⟩ (.bool t.u)).setCell ⟨w5.heap.size + 4, 2, none⟩ (.slice (some ad) 1 t.dcap)).cell? ad = some (.int .i64 v) := by
    rw [World.cell?_setCell_far _ _ _ _ hne, World.cell?_setCell_far _ _ _ _ hne, World.cell?_setCell_far _ _ _ _ hne]
    exact cad
  clear HC HZ HBt HB5 hb hIn hFr e3 hEr hB2 hZ2 hD hs5 hDad hadl cad hne HTWO HW
  go_wp2_with fail
  go_ret
  exact ⟨rfl, HFf.out⟩
set_option maxRecDepth 100000 in
set_option maxHeartbeats 4000000 in
theorem values_widen_n (op x0 y0 : Int) (h : op = 11) (p q r : Int) (ah am ar ak : Addr) (w : World) (hE : E4 w ah am ar ak) :
    Calls Tryd.prog 5 #[.int .i64 op, .int .i64 x0, .int .i64 y0, .bool false, .int .i64 p, .int .i64 q, .int .i64 r] w fun e w' => e = .returned (.bool true) ∧ Below w.heap.size w w' := by
  have HF := hide (first7_c ah am ar ak w hE)
  have HE := hide hE
  have HX := hide (fun W => number_c x0 256 (by decide) (by decide) 256 rfl W)
  have HY := hide (fun W => number_c y0 256 (by decide) (by decide) 256 rfl W)
  have HP := hide (fun W => number_c p 2147483648 (by decide) (by decide) 2147483648 rfl W)
  have HQn := hide (fun W => number_c q 63 (by decide) (by decide) 63 rfl W)
  have HRn := hide (fun W => number_c r 256 (by decide) (by decide) 256 rfl W)
  have HWx := hide (fun W => wide_c x0 W)
  have HWy := hide (fun W => wide_c y0 W)
  clear hE
  subst h
  have ho : (4 : Int) ≤ 11 ∧ 11 ≤ (11 : Int) := by decide
  go_enter Tryd.func5, Tryd.ntmps5
  go_wp2_with fail
  refine HF.out.mono ?_
  rintro e w3 ⟨rfl, hb⟩
  have HB := hide hb
  clear hb HF
  go_wp2_with fail
  refine (HX.out _).mono ?_
  rintro e w2 ⟨⟨kx, hkx, rfl⟩, hw⟩
  have hw := hw.symm
  subst hw
  obtain ⟨Kx, hKx⟩ : ∃ K : Int, (kx : Int) = K := ⟨_, rfl⟩
  have h0x : 0 ≤ Kx := by omega
  have h1x : Kx < 256 := by omega
  rw [hKx]
  clear hKx hkx
  have b0x : -128 ≤ Kx - 128 := by omega
  have b1x : Kx - 128 ≤ 127 := by omega
  go_wp2_with fail
  clear h0x h1x
  generalize Kx - 128 = x at *
  refine (HY.out _).mono ?_
  rintro e w2 ⟨⟨ky, hky, rfl⟩, hw⟩
  have hw := hw.symm
  subst hw
  obtain ⟨Ky, hKy⟩ : ∃ K : Int, (ky : Int) = K := ⟨_, rfl⟩
  have h0y : 0 ≤ Ky := by omega
  have h1y : Ky < 256 := by omega
  rw [hKy]
  clear hKy hky
  have b0y : -128 ≤ Ky - 128 := by omega
  have b1y : Ky - 128 ≤ 127 := by omega
  go_wp2_with fail
  clear h0y h1y
  generalize Ky - 128 = y at *
  have hfx : Tens.fit false x = true := decide_eq_true ⟨b0x, b1x⟩
  have hfy : Tens.fit false y = true := decide_eq_true ⟨b0y, b1y⟩
  clear b0x b1x b0y b1y
  have Hfx := hide hfx
  have Hfy := hide hfy
  clear hfx hfy
  go_wp2_with fail
  refine (HRn.out _).mono ?_
  rintro e w2 ⟨⟨kr, hkr, rfl⟩, hw⟩
  have hw := hw.symm
  subst hw
  obtain ⟨Kr, hKr⟩ : ∃ K : Int, (kr : Int) = K := ⟨_, rfl⟩
  have h0r : 0 ≤ Kr := by omega
  have h1r : Kr < 256 := by omega
  rw [hKr]
  clear hKr hkr
  have b0r : -128 ≤ Kr - 128 := by omega
  have b1r : Kr - 128 ≤ 127 := by omega
  go_wp2_with fail
  clear h0r h1r
  generalize Kr - 128 = z at *
  have hfx := Hfx.out
  have hfy := Hfy.out
  obtain ⟨wq, hwq⟩ : ∃ W, W = w3.alloc (.cells #[.int .i64 z] 3) := ⟨_, rfl⟩
  have HWq := hide hwq
  have HQ0 : Ri wq (some ⟨w3.heap.size, 0, none⟩) [z] := by
    rw [hwq]
    exact new_ri w3 3 [z] (by
      intro z hz
      simp at hz
      omega)
  have HB0 := HB.out.alloc HB.out.size (.cells #[.int .i64 z] 3)
  rw [← hwq] at HB0
  clear HB hwq
  have HB := hide HB0
  clear HB0
  obtain ⟨qs, hqs⟩ : ∃ qs : List Int, qs = [z] := ⟨_, rfl⟩
  have hql : qs.length = Elm.nargs 11 := by rw [hqs]; rfl
  have hnl : qs.length = 1 := by rw [hqs]; rfl
  rw [← hqs] at HQ0
  have HQ := hide HQ0
  clear HQ0
  have hmay : Elm.may 11 false qs = true := by
    rw [hqs]
    show Tens.fit false z = true
    exact decide_eq_true ⟨by omega, by omega⟩
  clear hqs
  have HV := hide (evalue_c 11 ho false x y qs (some ⟨w3.heap.size, 0, none⟩) 1 wq hql HQ.out)
  have HRV := hide (fun k => rvalue_c 11 ho false x y qs (some ⟨w3.heap.size, 0, none⟩) 1 (wq.drewN k) hql (ri_drew HQ.out k) hmay)
  have HONE := hide (fun (D : Option Addr) => Elm.single_one 11 (by omega) false x y qs hfx hql hmay (fun h => absurd h (by decide)) (fun _ => rfl) D)
  have HTWO := hide (fun W => two_no 11 (by omega) W)
  have hbx := fit_bounds hfx
  have hby := fit_bounds hfy
  have HWD := hide (fun W => values_world W x y false ⟨by omega, by omega⟩ ⟨by omega, by omega⟩)
  obtain ⟨v, hv⟩ : ∃ v, Hid (Elm.val 11 false x y qs = v) := ⟨_, hide rfl⟩
  rw [hv.out] at HV HRV HONE
  rw [hnl] at HV HRV
  have HNL := hide hnl
  clear hv hbx hby hnl hql hmay hfx hfy
  rw [← HWq.out]
  refine HV.out.mono ?_
  rintro e w4 ⟨rfl, k1, rfl⟩
  go_wp2_with fail
  refine (HRV.out k1).mono ?_
  rintro e w4 ⟨rfl, k2, rfl⟩
  have HB5 := hide (below_drewN (below_drewN HB.out k1) k2)
  have HQ5 := hide (ri_drew (ri_drew HQ.out k1) k2)
  generalize (wq.drewN k1).drewN k2 = w5 at *
  obtain ⟨W, hW, hBW, hIa, hIb, hA, hB, hZ⟩ := HWD.out w5
  have HW := hide hW
  have hBt := HB5.out.trans (hBW.mono HB5.out.size)
  have a0 := hA.cell 0
  have a1 := hA.cell 1
  have a2 := hA.cell 2
  have b0 := hB.cell 0
  have b1 := hB.cell 1
  have b2 := hB.cell 2
  have HC := hide (one_c 11 qs ⟨none, [], 0, false, some ⟨w5.heap.size, 0, none⟩, [x], 1⟩ (some ⟨w3.heap.size, 0, none⟩) 1 ah am ar ak W hIa (HQ5.out.below hBW) (HE.out.below hBt))
  rw [(HONE.out _).1, (HONE.out _).2, HNL.out] at HC
  have HZ := hide hZ
  have HBt := hide hBt
  clear HNL HV HRV HB HQ HONE HWD hW hBW hIa hIb hA hB hZ hBt HQ5 HE
  go_wp2_with fail
  rw [← HW.out]
  refine (HTWO.out _).mono ?_
  rintro e w6 ⟨rfl, hw⟩
  have hw := hw.symm
  subst hw
  go_wp2_with fail
  refine HC.out.mono ?_
  rintro e w6 ⟨⟨t, ev, rfl, hIn, hFr, -, -, e3, hEr⟩, hb⟩
  obtain rfl : ev = .nilIface := by
    unfold Elm.Err at hEr
    rw [if_neg (by simp)] at hEr
    exact hEr
  have hB2 := HBt.out.trans (hb.mono HBt.out.size)
  have hZ2 := HZ.out.below hb HZ.out.lt
  have hs5 := HB5.out.size
  have hD := hIn.dat
  rw [e3] at hD ⊢
  obtain ⟨ad, hDad, hadl, cad⟩ := ri_one hD
  rw [hDad]
  obtain ⟨z0, z1, z2, zf0, zf1, zf2, HZf, HFf⟩ := elm_three hZ2 hB2 (Nat.le_trans hs5 (Nat.le_add_right _ _)) (.slice t.P t.zs.length t.cap) (.bool t.u) (.slice (some ad) 1 t.dcap)
  have hne : w5.heap.size + 4 ≠ ad.block := by
    have h1 := hFr.2 ad hDad
    have h2 := HZ.out.lt
    omega
  have cad2 : (((w6.setCell ⟨w5.heap.size + 4, 0, none⟩ (.slice t.P t.zs.length t.cap)).setCell ⟨w5.heap.size + 4, 1, none⟩ (.bool t.u)).setCell ⟨w5.heap.size + 4, 2, none⟩ (.slice (some ad) 1 t.dcap)).cell? ad = some (.int .i64 v) := by
    rw [World.cell?_setCell_far _ _ _ _ hne, World.cell?_setCell_far _ _ _ _ hne, World.cell?_setCell_far _ _ _ _ hne]
    exact cad
  clear HC HZ HBt HB5 hb hIn hFr e3 hEr hB2 hZ2 hD hs5 hDad hadl cad hne HTWO HW
  go_wp2_with fail
  go_ret
  exact ⟨rfl, HFf.out⟩
set_option maxRecDepth 100000 in
set_option maxHeartbeats 4000000 in
theorem values_low_n (op x0 y0 : Int) (h : op < 4) (p q r : Int) (ah am ar ak : Addr) (w : World) (hE : E4 w ah am ar ak) :
    Calls Tryd.prog 5 #[.int .i64 op, .int .i64 x0, .int .i64 y0, .bool false, .int .i64 p, .int .i64 q, .int .i64 r] w fun e w' => e = .returned (.bool true) ∧ Below w.heap.size w w' := by
  have HF := hide (first7_c ah am ar ak w hE)
  have HE := hide hE
  have HX := hide (fun W => number_c x0 256 (by decide) (by decide) 256 rfl W)
  have HY := hide (fun W => number_c y0 256 (by decide) (by decide) 256 rfl W)
  have HP := hide (fun W => number_c p 2147483648 (by decide) (by decide) 2147483648 rfl W)
  have HQn := hide (fun W => number_c q 63 (by decide) (by decide) 63 rfl W)
  have HRn := hide (fun W => number_c r 256 (by decide) (by decide) 256 rfl W)
  have HWx := hide (fun W => wide_c x0 W)
  have HWy := hide (fun W => wide_c y0 W)
  clear hE
  have n9 : op ≠ 9 := by omega
  have n10 : op ≠ 10 := by omega
  have n11 : op ≠ 11 := by omega
  have g1 : op < 4 := h
  have HN := hide (fun x y W => evalue_none op (by omega) false x y none 0 0 W)
  clear h
  go_enter Tryd.func5, Tryd.ntmps5
  go_wp2_with fail
  refine HF.out.mono ?_
  rintro e w3 ⟨rfl, hb⟩
  have HB := hide hb
  clear hb HF
  go_wp2_with fail
  refine (HX.out _).mono ?_
  rintro e w2 ⟨⟨kx, hkx, rfl⟩, hw⟩
  have hw := hw.symm
  subst hw
  obtain ⟨Kx, hKx⟩ : ∃ K : Int, (kx : Int) = K := ⟨_, rfl⟩
  have h0x : 0 ≤ Kx := by omega
  have h1x : Kx < 256 := by omega
  rw [hKx]
  clear hKx hkx
  have b0x : -128 ≤ Kx - 128 := by omega
  have b1x : Kx - 128 ≤ 127 := by omega
  go_wp2_with fail
  clear h0x h1x
  generalize Kx - 128 = x at *
  refine (HY.out _).mono ?_
  rintro e w2 ⟨⟨ky, hky, rfl⟩, hw⟩
  have hw := hw.symm
  subst hw
  obtain ⟨Ky, hKy⟩ : ∃ K : Int, (ky : Int) = K := ⟨_, rfl⟩
  have h0y : 0 ≤ Ky := by omega
  have h1y : Ky < 256 := by omega
  rw [hKy]
  clear hKy hky
  have b0y : -128 ≤ Ky - 128 := by omega
  have b1y : Ky - 128 ≤ 127 := by omega
  go_wp2_with fail
  clear h0y h1y
  generalize Ky - 128 = y at *
  have hfx : Tens.fit false x = true := decide_eq_true ⟨b0x, b1x⟩
  have hfy : Tens.fit false y = true := decide_eq_true ⟨b0y, b1y⟩
  clear b0x b1x b0y b1y
  clear hfx hfy
  go_wp2_with fail
  refine (HN.out _ _ _).mono ?_
  rintro e w4 ⟨rfl, hw⟩
  have hw := hw.symm
  subst hw
  go_wp2_with fail
  go_ret
  exact ⟨rfl, HB.out⟩
set_option maxRecDepth 100000 in
set_option maxHeartbeats 4000000 in
theorem values_high_n (op x0 y0 : Int) (h : 11 < op) (p q r : Int) (ah am ar ak : Addr) (w : World) (hE : E4 w ah am ar ak) :
    Calls Tryd.prog 5 #[.int .i64 op, .int .i64 x0, .int .i64 y0, .bool false, .int .i64 p, .int .i64 q, .int .i64 r] w fun e w' => e = .returned (.bool true) ∧ Below w.heap.size w w' := by
  have HF := hide (first7_c ah am ar ak w hE)
  have HE := hide hE
  have HX := hide (fun W => number_c x0 256 (by decide) (by decide) 256 rfl W)
  have HY := hide (fun W => number_c y0 256 (by decide) (by decide) 256 rfl W)
  have HP := hide (fun W => number_c p 2147483648 (by decide) (by decide) 2147483648 rfl W)
  have HQn := hide (fun W => number_c q 63 (by decide) (by decide) 63 rfl W)
  have HRn := hide (fun W => number_c r 256 (by decide) (by decide) 256 rfl W)
  have HWx := hide (fun W => wide_c x0 W)
  have HWy := hide (fun W => wide_c y0 W)
  clear hE
  have n9 : op ≠ 9 := by omega
  have n10 : op ≠ 10 := by omega
  have n11 : op ≠ 11 := by omega
  have g1 : ¬ op < 4 := by omega
  have g2 : 11 < op := h
  have HN := hide (fun x y W => evalue_none op (by omega) false x y none 0 0 W)
  clear h
  go_enter Tryd.func5, Tryd.ntmps5
  go_wp2_with fail
  refine HF.out.mono ?_
  rintro e w3 ⟨rfl, hb⟩
  have HB := hide hb
  clear hb HF
  go_wp2_with fail
  refine (HX.out _).mono ?_
  rintro e w2 ⟨⟨kx, hkx, rfl⟩, hw⟩
  have hw := hw.symm
  subst hw
  obtain ⟨Kx, hKx⟩ : ∃ K : Int, (kx : Int) = K := ⟨_, rfl⟩
  have h0x : 0 ≤ Kx := by omega
  have h1x : Kx < 256 := by omega
  rw [hKx]
  clear hKx hkx
  have b0x : -128 ≤ Kx - 128 := by omega
  have b1x : Kx - 128 ≤ 127 := by omega
  go_wp2_with fail
  clear h0x h1x
  generalize Kx - 128 = x at *
  refine (HY.out _).mono ?_
  rintro e w2 ⟨⟨ky, hky, rfl⟩, hw⟩
  have hw := hw.symm
  subst hw
  obtain ⟨Ky, hKy⟩ : ∃ K : Int, (ky : Int) = K := ⟨_, rfl⟩
  have h0y : 0 ≤ Ky := by omega
  have h1y : Ky < 256 := by omega
  rw [hKy]
  clear hKy hky
  have b0y : -128 ≤ Ky - 128 := by omega
  have b1y : Ky - 128 ≤ 127 := by omega
  go_wp2_with fail
  clear h0y h1y
  generalize Ky - 128 = y at *
  have hfx : Tens.fit false x = true := decide_eq_true ⟨b0x, b1x⟩
  have hfy : Tens.fit false y = true := decide_eq_true ⟨b0y, b1y⟩
  clear b0x b1x b0y b1y
  clear hfx hfy
  go_wp2_with fail
  refine (HN.out _ _ _).mono ?_
  rintro e w4 ⟨rfl, hw⟩
  have hw := hw.symm
  subst hw
  go_wp2_with fail
  go_ret
  exact ⟨rfl, HB.out⟩
set_option maxRecDepth 100000 in
set_option maxHeartbeats 4000000 in
theorem values_two_w (op x0 y0 : Int) (h : 4 ≤ op ∧ op ≤ 7) (p q r : Int) (ah am ar ak : Addr) (w : World) (hE : E4 w ah am ar ak) :
    Calls Tryd.prog 5 #[.int .i64 op, .int .i64 x0, .int .i64 y0, .bool true, .int .i64 p, .int .i64 q, .int .i64 r] w fun e w' => e = .returned (.bool true) ∧ Below w.heap.size w w' := by
  have HF := hide (first7_c ah am ar ak w hE)
  have HE := hide hE
  have HX := hide (fun W => number_c x0 256 (by decide) (by decide) 256 rfl W)
  have HY := hide (fun W => number_c y0 256 (by decide) (by decide) 256 rfl W)
  have HP := hide (fun W => number_c p 2147483648 (by decide) (by decide) 2147483648 rfl W)
  have HQn := hide (fun W => number_c q 63 (by decide) (by decide) 63 rfl W)
  have HRn := hide (fun W => number_c r 256 (by decide) (by decide) 256 rfl W)
  have HWx := hide (fun W => wide_c x0 W)
  have HWy := hide (fun W => wide_c y0 W)
  clear hE
  have n9 : op ≠ 9 := by omega
  have n10 : op ≠ 10 := by omega
  have n11 : op ≠ 11 := by omega
  have g1 : ¬ op < 4 := by omega
  have g2 : op ≤ 11 := by omega
  have ho : 4 ≤ op ∧ op ≤ 11 := by omega
  go_enter Tryd.func5, Tryd.ntmps5
  go_wp2_with fail
  refine HF.out.mono ?_
  rintro e w3 ⟨rfl, hb⟩
  have HB := hide hb
  clear hb HF
  go_wp2_with fail
  refine (HWx.out _).mono ?_
  rintro e w2 ⟨rfl, hw⟩
  have hw := hw.symm
  subst hw
  have hfx : Hid (Tens.fit true (Tens.wide x0) = true) := hide (decide_eq_true (by unfold Tens.wide; omega))
  generalize Tens.wide x0 = x at *
  go_wp2_with fail
  refine (HWy.out _).mono ?_
  rintro e w2 ⟨rfl, hw⟩
  have hw := hw.symm
  subst hw
  have hfy : Hid (Tens.fit true (Tens.wide y0) = true) := hide (decide_eq_true (by unfold Tens.wide; omega))
  generalize Tens.wide y0 = y at *
  have hfx := hfx.out
  have hfy := hfy.out
  have hql : ([] : List Int).length = Elm.nargs op := by unfold Elm.nargs; rw [if_neg (by omega), if_neg (by omega), if_neg (by omega)]; rfl
  have hmay : Elm.may op true [] = true := by unfold Elm.may; rw [if_neg (by omega), if_neg (by omega), if_neg (by omega)]
  obtain ⟨qs, hqs⟩ : ∃ qs : List Int, qs = [] := ⟨_, rfl⟩
  rw [← hqs] at hql hmay
  have hnl : qs.length = 0 := by rw [hqs]; rfl
  have HQ : Hid (Ri w3 none qs) := hide (by rw [hqs]; exact Ri.nil _ _)
  have HV := hide (evalue_c op ho true x y qs none 0 w3 hql HQ.out)
  have HRV := hide (fun k => rvalue_c op ho true x y qs none 0 (w3.drewN k) hql (ri_drew HQ.out k) hmay)
  have HONE := hide (fun (D E : Option Addr) => Elm.single_two op (by omega) true x y hfx hfy D E)
  have HTWO := hide (fun W => two_yes op (by omega) W)
  have hbx := fit_bounds hfx
  have hby := fit_bounds hfy
  have HWD := hide (fun W => values_world W x y true ⟨by omega, by omega⟩ ⟨by omega, by omega⟩)
  obtain ⟨v, hv⟩ : ∃ v, Hid (Elm.val op true x y qs = v) := ⟨_, hide rfl⟩
  subst hqs
  rw [hv.out] at HV HRV HONE
  rw [hnl] at HV HRV
  have HNL := hide hnl
  clear hv hbx hby hnl hql hmay hfx hfy
  go_wp2_with fail
  refine HV.out.mono ?_
  rintro e w4 ⟨rfl, k1, rfl⟩
  go_wp2_with fail
  refine (HRV.out k1).mono ?_
  rintro e w4 ⟨rfl, k2, rfl⟩
  have HB5 := hide (below_drewN (below_drewN HB.out k1) k2)
  have HQ5 := hide (ri_drew (ri_drew HQ.out k1) k2)
  generalize (w3.drewN k1).drewN k2 = w5 at *
  obtain ⟨W, hW, hBW, hIa, hIb, hA, hB, hZ⟩ := HWD.out w5
  have HW := hide hW
  have hBt := HB5.out.trans (hBW.mono HB5.out.size)
  have a0 := hA.cell 0
  have a1 := hA.cell 1
  have a2 := hA.cell 2
  have b0 := hB.cell 0
  have b1 := hB.cell 1
  have b2 := hB.cell 2
  have HC := hide (two_c op ⟨none, [], 0, true, some ⟨w5.heap.size, 0, none⟩, [x], 1⟩ ⟨none, [], 0, true, some ⟨w5.heap.size + 2, 0, none⟩, [y], 1⟩ ah am ar ak W hIa hIb (HE.out.below hBt))
  rw [(HONE.out _ _).1, (HONE.out _ _).2] at HC
  have HZ := hide hZ
  have HBt := hide hBt
  clear HNL HV HRV HB HQ HONE HWD hW hBW hIa hIb hA hB hZ hBt HQ5 HE
  go_wp2_with fail
  rw [← HW.out]
  refine (HTWO.out _).mono ?_
  rintro e w6 ⟨rfl, hw⟩
  have hw := hw.symm
  subst hw
  go_wp2_with fail
  refine HC.out.mono ?_
  rintro e w6 ⟨⟨t, ev, rfl, hIn, hFr, -, -, e3, hEr⟩, hb⟩
  obtain rfl : ev = .nilIface := by
    unfold Elm.Err at hEr
    rw [if_neg (by simp)] at hEr
    exact hEr
  have hB2 := HBt.out.trans (hb.mono HBt.out.size)
  have hZ2 := HZ.out.below hb HZ.out.lt
  have hs5 := HB5.out.size
  have hD := hIn.dat
  rw [e3] at hD ⊢
  obtain ⟨ad, hDad, hadl, cad⟩ := ri_one hD
  rw [hDad]
  obtain ⟨z0, z1, z2, zf0, zf1, zf2, HZf, HFf⟩ := elm_three hZ2 hB2 (Nat.le_trans hs5 (Nat.le_add_right _ _)) (.slice t.P t.zs.length t.cap) (.bool t.u) (.slice (some ad) 1 t.dcap)
  have hne : w5.heap.size + 4 ≠ ad.block := by
    have h1 := hFr.2 ad hDad
    have h2 := HZ.out.lt
    omega
  have cad2 : (((w6.setCell ⟨w5.heap.size + 4, 0, none⟩ (.slice t.P t.zs.length t.cap)).setCell ⟨w5.heap.size + 4, 1, none⟩ (.bool t.u)).setCell ⟨w5.heap.size + 4, 2, none⟩ (.slice (some ad) 1 t.dcap)).cell? ad = some (.int .i64 v) := by
    rw [World.cell?_setCell_far _ _ _ _ hne, World.cell?_setCell_far _ _ _ _ hne, World.cell?_setCell_far _ _ _ _ hne]
    exact cad
  clear HC HZ HBt HB5 hb hIn hFr e3 hEr hB2 hZ2 hD hs5 hDad hadl cad hne HTWO HW
  go_wp2_with fail
  go_ret
  exact ⟨rfl, HFf.out⟩
set_option maxRecDepth 100000 in
set_option maxHeartbeats 4000000 in
theorem values_relu_w (op x0 y0 : Int) (h : op = 8) (p q r : Int) (ah am ar ak : Addr) (w : World) (hE : E4 w ah am ar ak) :
    Calls Tryd.prog 5 #[.int .i64 op, .int .i64 x0, .int .i64 y0, .bool true, .int .i64 p, .int .i64 q, .int .i64 r] w fun e w' => e = .returned (.bool true) ∧ Below w.heap.size w w' := by
  have HF := hide (first7_c ah am ar ak w hE)
  have HE := hide hE
  have HX := hide (fun W => number_c x0 256 (by decide) (by decide) 256 rfl W)
  have HY := hide (fun W => number_c y0 256 (by decide) (by decide) 256 rfl W)
  have HP := hide (fun W => number_c p 2147483648 (by decide) (by decide) 2147483648 rfl W)
  have HQn := hide (fun W => number_c q 63 (by decide) (by decide) 63 rfl W)
  have HRn := hide (fun W => number_c r 256 (by decide) (by decide) 256 rfl W)
  have HWx := hide (fun W => wide_c x0 W)
  have HWy := hide (fun W => wide_c y0 W)
  clear hE
  subst h
  have ho : (4 : Int) ≤ 8 ∧ 8 ≤ (11 : Int) := by decide
  go_enter Tryd.func5, Tryd.ntmps5
  go_wp2_with fail
  refine HF.out.mono ?_
  rintro e w3 ⟨rfl, hb⟩
  have HB := hide hb
  clear hb HF
  go_wp2_with fail
  refine (HWx.out _).mono ?_
  rintro e w2 ⟨rfl, hw⟩
  have hw := hw.symm
  subst hw
  have hfx : Hid (Tens.fit true (Tens.wide x0) = true) := hide (decide_eq_true (by unfold Tens.wide; omega))
  generalize Tens.wide x0 = x at *
  go_wp2_with fail
  refine (HWy.out _).mono ?_
  rintro e w2 ⟨rfl, hw⟩
  have hw := hw.symm
  subst hw
  have hfy : Hid (Tens.fit true (Tens.wide y0) = true) := hide (decide_eq_true (by unfold Tens.wide; omega))
  generalize Tens.wide y0 = y at *
  have hfx := hfx.out
  have hfy := hfy.out
  have hql : ([] : List Int).length = Elm.nargs 8 := by rfl
  have hmay : Elm.may 8 true [] = true := by rfl
  obtain ⟨qs, hqs⟩ : ∃ qs : List Int, qs = [] := ⟨_, rfl⟩
  rw [← hqs] at hql hmay
  have hnl : qs.length = 0 := by rw [hqs]; rfl
  have HQ : Hid (Ri w3 none qs) := hide (by rw [hqs]; exact Ri.nil _ _)
  have HV := hide (evalue_c 8 ho true x y qs none 0 w3 hql HQ.out)
  have HRV := hide (fun k => rvalue_c 8 ho true x y qs none 0 (w3.drewN k) hql (ri_drew HQ.out k) hmay)
  have HONE := hide (fun (D : Option Addr) => Elm.single_one 8 (by omega) true x y qs hfx hql hmay (fun h => absurd h (by decide)) (fun h => absurd h (by decide)) D)
  have HTWO := hide (fun W => two_no 8 (by omega) W)
  have hbx := fit_bounds hfx
  have hby := fit_bounds hfy
  have HWD := hide (fun W => values_world W x y true ⟨by omega, by omega⟩ ⟨by omega, by omega⟩)
  obtain ⟨v, hv⟩ : ∃ v, Hid (Elm.val 8 true x y qs = v) := ⟨_, hide rfl⟩
  rw [hv.out] at HV HRV HONE
  rw [hnl] at HV HRV
  have HNL := hide hnl
  clear hv hbx hby hnl hql hmay hfx hfy
  go_wp2_with fail
  refine HV.out.mono ?_
  rintro e w4 ⟨rfl, k1, rfl⟩
  go_wp2_with fail
  refine (HRV.out k1).mono ?_
  rintro e w4 ⟨rfl, k2, rfl⟩
  have HB5 := hide (below_drewN (below_drewN HB.out k1) k2)
  have HQ5 := hide (ri_drew (ri_drew HQ.out k1) k2)
  generalize (w3.drewN k1).drewN k2 = w5 at *
  obtain ⟨W, hW, hBW, hIa, hIb, hA, hB, hZ⟩ := HWD.out w5
  have HW := hide hW
  have hBt := HB5.out.trans (hBW.mono HB5.out.size)
  have a0 := hA.cell 0
  have a1 := hA.cell 1
  have a2 := hA.cell 2
  have b0 := hB.cell 0
  have b1 := hB.cell 1
  have b2 := hB.cell 2
  have HC := hide (one_c 8 qs ⟨none, [], 0, true, some ⟨w5.heap.size, 0, none⟩, [x], 1⟩ none 0 ah am ar ak W hIa (HQ5.out.below hBW) (HE.out.below hBt))
  rw [(HONE.out _).1, (HONE.out _).2, HNL.out] at HC
  have HZ := hide hZ
  have HBt := hide hBt
  clear HNL HV HRV HB HQ HONE HWD hW hBW hIa hIb hA hB hZ hBt HQ5 HE
  go_wp2_with fail
  rw [← HW.out]
  refine (HTWO.out _).mono ?_
  rintro e w6 ⟨rfl, hw⟩
  have hw := hw.symm
  subst hw
  go_wp2_with fail
  refine HC.out.mono ?_
  rintro e w6 ⟨⟨t, ev, rfl, hIn, hFr, -, -, e3, hEr⟩, hb⟩
  obtain rfl : ev = .nilIface := by
    unfold Elm.Err at hEr
    rw [if_neg (by simp)] at hEr
    exact hEr
  have hB2 := HBt.out.trans (hb.mono HBt.out.size)
  have hZ2 := HZ.out.below hb HZ.out.lt
  have hs5 := HB5.out.size
  have hD := hIn.dat
  rw [e3] at hD ⊢
  obtain ⟨ad, hDad, hadl, cad⟩ := ri_one hD
  rw [hDad]
  obtain ⟨z0, z1, z2, zf0, zf1, zf2, HZf, HFf⟩ := elm_three hZ2 hB2 (Nat.le_trans hs5 (Nat.le_add_right _ _)) (.slice t.P t.zs.length t.cap) (.bool t.u) (.slice (some ad) 1 t.dcap)
  have hne : w5.heap.size + 4 ≠ ad.block := by
    have h1 := hFr.2 ad hDad
    have h2 := HZ.out.lt
    omega
  have cad2 : (((w6.setCell ⟨w5.heap.size + 4, 0, none⟩ (.slice t.P t.zs.length t.cap)).setCell ⟨w5.heap.size + 4, 1, none⟩ (.bool t.u)).setCell ⟨w5.heap.size + 4, 2, none⟩ (.slice (some ad) 1 t.dcap)).cell? ad = some (.int .i64 v) := by
    rw [World.cell?_setCell_far _ _ _ _ hne, World.cell?_setCell_far _ _ _ _ hne, World.cell?_setCell_far _ _ _ _ hne]
    exact cad
  clear HC HZ HBt HB5 hb hIn hFr e3 hEr hB2 hZ2 hD hs5 hDad hadl cad hne HTWO HW
  go_wp2_with fail
  go_ret
  exact ⟨rfl, HFf.out⟩
set_option maxRecDepth 100000 in
set_option maxHeartbeats 4000000 in
theorem values_clamp_w (op x0 y0 : Int) (h : op = 9) (p q r : Int) (ah am ar ak : Addr) (w : World) (hE : E4 w ah am ar ak) :
    Calls Tryd.prog 5 #[.int .i64 op, .int .i64 x0, .int .i64 y0, .bool true, .int .i64 p, .int .i64 q, .int .i64 r] w fun e w' => e = .returned (.bool true) ∧ Below w.heap.size w w' := by
  have HF := hide (first7_c ah am ar ak w hE)
  have HE := hide hE
  have HX := hide (fun W => number_c x0 256 (by decide) (by decide) 256 rfl W)
  have HY := hide (fun W => number_c y0 256 (by decide) (by decide) 256 rfl W)
  have HP := hide (fun W => number_c p 2147483648 (by decide) (by decide) 2147483648 rfl W)
  have HQn := hide (fun W => number_c q 63 (by decide) (by decide) 63 rfl W)
  have HRn := hide (fun W => number_c r 256 (by decide) (by decide) 256 rfl W)
  have HWx := hide (fun W => wide_c x0 W)
  have HWy := hide (fun W => wide_c y0 W)
  clear hE
  subst h
  have ho : (4 : Int) ≤ 9 ∧ 9 ≤ (11 : Int) := by decide
  go_enter Tryd.func5, Tryd.ntmps5
  go_wp2_with fail
  refine HF.out.mono ?_
  rintro e w3 ⟨rfl, hb⟩
  have HB := hide hb
  clear hb HF
  go_wp2_with fail
  refine (HWx.out _).mono ?_
  rintro e w2 ⟨rfl, hw⟩
  have hw := hw.symm
  subst hw
  have hfx : Hid (Tens.fit true (Tens.wide x0) = true) := hide (decide_eq_true (by unfold Tens.wide; omega))
  generalize Tens.wide x0 = x at *
  go_wp2_with fail
  refine (HWy.out _).mono ?_
  rintro e w2 ⟨rfl, hw⟩
  have hw := hw.symm
  subst hw
  have hfy : Hid (Tens.fit true (Tens.wide y0) = true) := hide (decide_eq_true (by unfold Tens.wide; omega))
  generalize Tens.wide y0 = y at *
  have hfx := hfx.out
  have hfy := hfy.out
  rcases Int.lt_trichotomy x y with hlt | heq | hlt
  · have bx := fit_bounds hfx
    have bby := fit_bounds hfy
    have h12 : x ≤ y := by omega
    have hmay0 : Elm.may 9 true [x, y] = true := by
      show (decide (x ≤ y) && Tens.fit true x && Tens.fit true y) = true
      rw [Bool.and_eq_true, Bool.and_eq_true]
      exact ⟨⟨decide_eq_true h12, by assumption⟩, by assumption⟩
    clear h12
    obtain ⟨wq, hwq⟩ : ∃ W, W = w3.alloc (.cells #[.int .i64 x, .int .i64 y] 3) := ⟨_, rfl⟩
    have HWq := hide hwq
    have HQ0 : Ri wq (some ⟨w3.heap.size, 0, none⟩) [x, y] := by
      rw [hwq]
      exact new_ri w3 3 [x, y] (by
        intro z hz
        simp at hz
        omega)
    have HB0 := HB.out.alloc HB.out.size (.cells #[.int .i64 x, .int .i64 y] 3)
    rw [← hwq] at HB0
    clear HB hwq
    have HB := hide HB0
    clear HB0
    obtain ⟨qs, hqs⟩ : ∃ qs : List Int, qs = [x, y] := ⟨_, rfl⟩
    have hql : qs.length = Elm.nargs 9 := by rw [hqs]; rfl
    have hnl : qs.length = 2 := by rw [hqs]; rfl
    rw [← hqs] at HQ0
    have HQ := hide HQ0
    clear HQ0
    have hmay : Elm.may 9 true qs = true := by rw [hqs]; exact hmay0
    clear hqs hmay0 bx bby
    have HV := hide (evalue_c 9 ho true x y qs (some ⟨w3.heap.size, 0, none⟩) 2 wq hql HQ.out)
    have HRV := hide (fun k => rvalue_c 9 ho true x y qs (some ⟨w3.heap.size, 0, none⟩) 2 (wq.drewN k) hql (ri_drew HQ.out k) hmay)
    have HONE := hide (fun (D : Option Addr) => Elm.single_one 9 (by omega) true x y qs hfx hql hmay (fun h => absurd h (by decide)) (fun h => absurd h (by decide)) D)
    have HTWO := hide (fun W => two_no 9 (by omega) W)
    have hbx := fit_bounds hfx
    have hby := fit_bounds hfy
    have HWD := hide (fun W => values_world W x y true ⟨by omega, by omega⟩ ⟨by omega, by omega⟩)
    obtain ⟨v, hv⟩ : ∃ v, Hid (Elm.val 9 true x y qs = v) := ⟨_, hide rfl⟩
    rw [hv.out] at HV HRV HONE
    rw [hnl] at HV HRV
    have HNL := hide hnl
    clear hv hbx hby hnl hql hmay hfx hfy
    go_wp2_with fail
    rw [← HWq.out]
    refine HV.out.mono ?_
    rintro e w4 ⟨rfl, k1, rfl⟩
    go_wp2_with fail
    refine (HRV.out k1).mono ?_
    rintro e w4 ⟨rfl, k2, rfl⟩
    have HB5 := hide (below_drewN (below_drewN HB.out k1) k2)
    have HQ5 := hide (ri_drew (ri_drew HQ.out k1) k2)
    generalize (wq.drewN k1).drewN k2 = w5 at *
    obtain ⟨W, hW, hBW, hIa, hIb, hA, hB, hZ⟩ := HWD.out w5
    have HW := hide hW
    have hBt := HB5.out.trans (hBW.mono HB5.out.size)
    have a0 := hA.cell 0
    have a1 := hA.cell 1
    have a2 := hA.cell 2
    have b0 := hB.cell 0
    have b1 := hB.cell 1
    have b2 := hB.cell 2
    have HC := hide (one_c 9 qs ⟨none, [], 0, true, some ⟨w5.heap.size, 0, none⟩, [x], 1⟩ (some ⟨w3.heap.size, 0, none⟩) 2 ah am ar ak W hIa (HQ5.out.below hBW) (HE.out.below hBt))
    rw [(HONE.out _).1, (HONE.out _).2, HNL.out] at HC
    have HZ := hide hZ
    have HBt := hide hBt
    clear HNL HV HRV HB HQ HONE HWD hW hBW hIa hIb hA hB hZ hBt HQ5 HE
    go_wp2_with fail
    rw [← HW.out]
    refine (HTWO.out _).mono ?_
    rintro e w6 ⟨rfl, hw⟩
    have hw := hw.symm
    subst hw
    go_wp2_with fail
    refine HC.out.mono ?_
    rintro e w6 ⟨⟨t, ev, rfl, hIn, hFr, -, -, e3, hEr⟩, hb⟩
    obtain rfl : ev = .nilIface := by
      unfold Elm.Err at hEr
      rw [if_neg (by simp)] at hEr
      exact hEr
    have hB2 := HBt.out.trans (hb.mono HBt.out.size)
    have hZ2 := HZ.out.below hb HZ.out.lt
    have hs5 := HB5.out.size
    have hD := hIn.dat
    rw [e3] at hD ⊢
    obtain ⟨ad, hDad, hadl, cad⟩ := ri_one hD
    rw [hDad]
    obtain ⟨z0, z1, z2, zf0, zf1, zf2, HZf, HFf⟩ := elm_three hZ2 hB2 (Nat.le_trans hs5 (Nat.le_add_right _ _)) (.slice t.P t.zs.length t.cap) (.bool t.u) (.slice (some ad) 1 t.dcap)
    have hne : w5.heap.size + 4 ≠ ad.block := by
      have h1 := hFr.2 ad hDad
      have h2 := HZ.out.lt
      omega
    have cad2 : (((w6.setCell ⟨w5.heap.size + 4, 0, none⟩ (.slice t.P t.zs.length t.cap)).setCell ⟨w5.heap.size + 4, 1, none⟩ (.bool t.u)).setCell ⟨w5.heap.size + 4, 2, none⟩ (.slice (some ad) 1 t.dcap)).cell? ad = some (.int .i64 v) := by
      rw [World.cell?_setCell_far _ _ _ _ hne, World.cell?_setCell_far _ _ _ _ hne, World.cell?_setCell_far _ _ _ _ hne]
      exact cad
    clear HC HZ HBt HB5 hb hIn hFr e3 hEr hB2 hZ2 hD hs5 hDad hadl cad hne HTWO HW
    go_wp2_with fail
    go_ret
    exact ⟨rfl, HFf.out⟩
  · subst heq
    have bx := fit_bounds hfx
    have bby := fit_bounds hfx
    have h12 : x ≤ x := by omega
    have hmay0 : Elm.may 9 true [x, x] = true := by
      show (decide (x ≤ x) && Tens.fit true x && Tens.fit true x) = true
      rw [Bool.and_eq_true, Bool.and_eq_true]
      exact ⟨⟨decide_eq_true h12, by assumption⟩, by assumption⟩
    clear h12
    obtain ⟨wq, hwq⟩ : ∃ W, W = w3.alloc (.cells #[.int .i64 x, .int .i64 x] 3) := ⟨_, rfl⟩
    have HWq := hide hwq
    have HQ0 : Ri wq (some ⟨w3.heap.size, 0, none⟩) [x, x] := by
      rw [hwq]
      exact new_ri w3 3 [x, x] (by
        intro z hz
        simp at hz
        omega)
    have HB0 := HB.out.alloc HB.out.size (.cells #[.int .i64 x, .int .i64 x] 3)
    rw [← hwq] at HB0
    clear HB hwq
    have HB := hide HB0
    clear HB0
    obtain ⟨qs, hqs⟩ : ∃ qs : List Int, qs = [x, x] := ⟨_, rfl⟩
    have hql : qs.length = Elm.nargs 9 := by rw [hqs]; rfl
    have hnl : qs.length = 2 := by rw [hqs]; rfl
    rw [← hqs] at HQ0
    have HQ := hide HQ0
    clear HQ0
    have hmay : Elm.may 9 true qs = true := by rw [hqs]; exact hmay0
    clear hqs hmay0 bx bby
    have HV := hide (evalue_c 9 ho true x x qs (some ⟨w3.heap.size, 0, none⟩) 2 wq hql HQ.out)
    have HRV := hide (fun k => rvalue_c 9 ho true x x qs (some ⟨w3.heap.size, 0, none⟩) 2 (wq.drewN k) hql (ri_drew HQ.out k) hmay)
    have HONE := hide (fun (D : Option Addr) => Elm.single_one 9 (by omega) true x x qs hfx hql hmay (fun h => absurd h (by decide)) (fun h => absurd h (by decide)) D)
    have HTWO := hide (fun W => two_no 9 (by omega) W)
    have hbx := fit_bounds hfx
    have hby := fit_bounds hfx
    have HWD := hide (fun W => values_world W x x true ⟨by omega, by omega⟩ ⟨by omega, by omega⟩)
    obtain ⟨v, hv⟩ : ∃ v, Hid (Elm.val 9 true x x qs = v) := ⟨_, hide rfl⟩
    rw [hv.out] at HV HRV HONE
    rw [hnl] at HV HRV
    have HNL := hide hnl
    clear hv hbx hby hnl hql hmay hfx
    go_wp2_with fail
    rw [← HWq.out]
    refine HV.out.mono ?_
    rintro e w4 ⟨rfl, k1, rfl⟩
    go_wp2_with fail
    refine (HRV.out k1).mono ?_
    rintro e w4 ⟨rfl, k2, rfl⟩
    have HB5 := hide (below_drewN (below_drewN HB.out k1) k2)
    have HQ5 := hide (ri_drew (ri_drew HQ.out k1) k2)
    generalize (wq.drewN k1).drewN k2 = w5 at *
    obtain ⟨W, hW, hBW, hIa, hIb, hA, hB, hZ⟩ := HWD.out w5
    have HW := hide hW
    have hBt := HB5.out.trans (hBW.mono HB5.out.size)
    have a0 := hA.cell 0
    have a1 := hA.cell 1
    have a2 := hA.cell 2
    have b0 := hB.cell 0
    have b1 := hB.cell 1
    have b2 := hB.cell 2
    have HC := hide (one_c 9 qs ⟨none, [], 0, true, some ⟨w5.heap.size, 0, none⟩, [x], 1⟩ (some ⟨w3.heap.size, 0, none⟩) 2 ah am ar ak W hIa (HQ5.out.below hBW) (HE.out.below hBt))
    rw [(HONE.out _).1, (HONE.out _).2, HNL.out] at HC
    have HZ := hide hZ
    have HBt := hide hBt
    clear HNL HV HRV HB HQ HONE HWD hW hBW hIa hIb hA hB hZ hBt HQ5 HE
    go_wp2_with fail
    rw [← HW.out]
    refine (HTWO.out _).mono ?_
    rintro e w6 ⟨rfl, hw⟩
    have hw := hw.symm
    subst hw
    go_wp2_with fail
    refine HC.out.mono ?_
    rintro e w6 ⟨⟨t, ev, rfl, hIn, hFr, -, -, e3, hEr⟩, hb⟩
    obtain rfl : ev = .nilIface := by
      unfold Elm.Err at hEr
      rw [if_neg (by simp)] at hEr
      exact hEr
    have hB2 := HBt.out.trans (hb.mono HBt.out.size)
    have hZ2 := HZ.out.below hb HZ.out.lt
    have hs5 := HB5.out.size
    have hD := hIn.dat
    rw [e3] at hD ⊢
    obtain ⟨ad, hDad, hadl, cad⟩ := ri_one hD
    rw [hDad]
    obtain ⟨z0, z1, z2, zf0, zf1, zf2, HZf, HFf⟩ := elm_three hZ2 hB2 (Nat.le_trans hs5 (Nat.le_add_right _ _)) (.slice t.P t.zs.length t.cap) (.bool t.u) (.slice (some ad) 1 t.dcap)
    have hne : w5.heap.size + 4 ≠ ad.block := by
      have h1 := hFr.2 ad hDad
      have h2 := HZ.out.lt
      omega
    have cad2 : (((w6.setCell ⟨w5.heap.size + 4, 0, none⟩ (.slice t.P t.zs.length t.cap)).setCell ⟨w5.heap.size + 4, 1, none⟩ (.bool t.u)).setCell ⟨w5.heap.size + 4, 2, none⟩ (.slice (some ad) 1 t.dcap)).cell? ad = some (.int .i64 v) := by
      rw [World.cell?_setCell_far _ _ _ _ hne, World.cell?_setCell_far _ _ _ _ hne, World.cell?_setCell_far _ _ _ _ hne]
      exact cad
    clear HC HZ HBt HB5 hb hIn hFr e3 hEr hB2 hZ2 hD hs5 hDad hadl cad hne HTWO HW
    go_wp2_with fail
    go_ret
    exact ⟨rfl, HFf.out⟩
  · have bx := fit_bounds hfx
    have bby := fit_bounds hfy
    have h12 : y ≤ x := by omega
    have hmay0 : Elm.may 9 true [y, x] = true := by
      show (decide (y ≤ x) && Tens.fit true y && Tens.fit true x) = true
      rw [Bool.and_eq_true, Bool.and_eq_true]
      exact ⟨⟨decide_eq_true h12, by assumption⟩, by assumption⟩
    clear h12
    obtain ⟨wq, hwq⟩ : ∃ W, W = w3.alloc (.cells #[.int .i64 y, .int .i64 x] 3) := ⟨_, rfl⟩
    have HWq := hide hwq
    have HQ0 : Ri wq (some ⟨w3.heap.size, 0, none⟩) [y, x] := by
      rw [hwq]
      exact new_ri w3 3 [y, x] (by
        intro z hz
        simp at hz
        omega)
    have HB0 := HB.out.alloc HB.out.size (.cells #[.int .i64 y, .int .i64 x] 3)
    rw [← hwq] at HB0
    clear HB hwq
    have HB := hide HB0
    clear HB0
    obtain ⟨qs, hqs⟩ : ∃ qs : List Int, qs = [y, x] := ⟨_, rfl⟩
    have hql : qs.length = Elm.nargs 9 := by rw [hqs]; rfl
    have hnl : qs.length = 2 := by rw [hqs]; rfl
    rw [← hqs] at HQ0
    have HQ := hide HQ0
    clear HQ0
    have hmay : Elm.may 9 true qs = true := by rw [hqs]; exact hmay0
    clear hqs hmay0 bx bby
    have HV := hide (evalue_c 9 ho true x y qs (some ⟨w3.heap.size, 0, none⟩) 2 wq hql HQ.out)
    have HRV := hide (fun k => rvalue_c 9 ho true x y qs (some ⟨w3.heap.size, 0, none⟩) 2 (wq.drewN k) hql (ri_drew HQ.out k) hmay)
    have HONE := hide (fun (D : Option Addr) => Elm.single_one 9 (by omega) true x y qs hfx hql hmay (fun h => absurd h (by decide)) (fun h => absurd h (by decide)) D)
    have HTWO := hide (fun W => two_no 9 (by omega) W)
    have hbx := fit_bounds hfx
    have hby := fit_bounds hfy
    have HWD := hide (fun W => values_world W x y true ⟨by omega, by omega⟩ ⟨by omega, by omega⟩)
    obtain ⟨v, hv⟩ : ∃ v, Hid (Elm.val 9 true x y qs = v) := ⟨_, hide rfl⟩
    rw [hv.out] at HV HRV HONE
    rw [hnl] at HV HRV
    have HNL := hide hnl
    clear hv hbx hby hnl hql hmay hfx hfy
    go_wp2_with fail
    rw [← HWq.out]
    refine HV.out.mono ?_
    rintro e w4 ⟨rfl, k1, rfl⟩
    go_wp2_with fail
    refine (HRV.out k1).mono ?_
    rintro e w4 ⟨rfl, k2, rfl⟩
    have HB5 := hide (below_drewN (below_drewN HB.out k1) k2)
    have HQ5 := hide (ri_drew (ri_drew HQ.out k1) k2)
    generalize (wq.drewN k1).drewN k2 = w5 at *
    obtain ⟨W, hW, hBW, hIa, hIb, hA, hB, hZ⟩ := HWD.out w5
    have HW := hide hW
    have hBt := HB5.out.trans (hBW.mono HB5.out.size)
    have a0 := hA.cell 0
    have a1 := hA.cell 1
    have a2 := hA.cell 2
    have b0 := hB.cell 0
    have b1 := hB.cell 1
    have b2 := hB.cell 2
    have HC := hide (one_c 9 qs ⟨none, [], 0, true, some ⟨w5.heap.size, 0, none⟩, [x], 1⟩ (some ⟨w3.heap.size, 0, none⟩) 2 ah am ar ak W hIa (HQ5.out.below hBW) (HE.out.below hBt))
    rw [(HONE.out _).1, (HONE.out _).2, HNL.out] at HC
    have HZ := hide hZ
    have HBt := hide hBt
    clear HNL HV HRV HB HQ HONE HWD hW hBW hIa hIb hA hB hZ hBt HQ5 HE
    go_wp2_with fail
    rw [← HW.out]
    refine (HTWO.out _).mono ?_
    rintro e w6 ⟨rfl, hw⟩
    have hw := hw.symm
    subst hw
    go_wp2_with fail
    refine HC.out.mono ?_
    rintro e w6 ⟨⟨t, ev, rfl, hIn, hFr, -, -, e3, hEr⟩, hb⟩
    obtain rfl : ev = .nilIface := by
      unfold Elm.Err at hEr
      rw [if_neg (by simp)] at hEr
      exact hEr
    have hB2 := HBt.out.trans (hb.mono HBt.out.size)
    have hZ2 := HZ.out.below hb HZ.out.lt
    have hs5 := HB5.out.size
    have hD := hIn.dat
    rw [e3] at hD ⊢
    obtain ⟨ad, hDad, hadl, cad⟩ := ri_one hD
    rw [hDad]
    obtain ⟨z0, z1, z2, zf0, zf1, zf2, HZf, HFf⟩ := elm_three hZ2 hB2 (Nat.le_trans hs5 (Nat.le_add_right _ _)) (.slice t.P t.zs.length t.cap) (.bool t.u) (.slice (some ad) 1 t.dcap)
    have hne : w5.heap.size + 4 ≠ ad.block := by
      have h1 := hFr.2 ad hDad
      have h2 := HZ.out.lt
      omega
    have cad2 : (((w6.setCell ⟨w5.heap.size + 4, 0, none⟩ (.slice t.P t.zs.length t.cap)).setCell ⟨w5.heap.size + 4, 1, none⟩ (.bool t.u)).setCell ⟨w5.heap.size + 4, 2, none⟩ (.slice (some ad) 1 t.dcap)).cell? ad = some (.int .i64 v) := by
      rw [World.cell?_setCell_far _ _ _ _ hne, World.cell?_setCell_far _ _ _ _ hne, World.cell?_setCell_far _ _ _ _ hne]
      exact cad
    clear HC HZ HBt HB5 hb hIn hFr e3 hEr hB2 hZ2 hD hs5 hDad hadl cad hne HTWO HW
    go_wp2_with fail
    go_ret
    exact ⟨rfl, HFf.out⟩
set_option maxRecDepth 100000 in
set_option maxHeartbeats 4000000 in
theorem values_requant_w (op x0 y0 : Int) (h : op = 10) (p q r : Int) (ah am ar ak : Addr) (w : World) (hE : E4 w ah am ar ak) :
    Calls Tryd.prog 5 #[.int .i64 op, .int .i64 x0, .int .i64 y0, .bool true, .int .i64 p, .int .i64 q, .int .i64 r] w fun e w' => e = .returned (.bool true) ∧ Below w.heap.size w w' := by
  have HF := hide (first7_c ah am ar ak w hE)
  have HE := hide hE
  have HX := hide (fun W => number_c x0 256 (by decide) (by decide) 256 rfl W)
  have HY := hide (fun W => number_c y0 256 (by decide) (by decide) 256 rfl W)
  have HP := hide (fun W => number_c p 2147483648 (by decide) (by decide) 2147483648 rfl W)
  have HQn := hide (fun W => number_c q 63 (by decide) (by decide) 63 rfl W)
  have HRn := hide (fun W => number_c r 256 (by decide) (by decide) 256 rfl W)
  have HWx := hide (fun W => wide_c x0 W)
  have HWy := hide (fun W => wide_c y0 W)
  clear hE
  subst h
  have ho : (4 : Int) ≤ 10 ∧ 10 ≤ (11 : Int) := by decide
  go_enter Tryd.func5, Tryd.ntmps5
  go_wp2_with fail
  refine HF.out.mono ?_
  rintro e w3 ⟨rfl, hb⟩
  have HB := hide hb
  clear hb HF
  go_wp2_with fail
  refine (HWx.out _).mono ?_
  rintro e w2 ⟨rfl, hw⟩
  have hw := hw.symm
  subst hw
  have hfx : Hid (Tens.fit true (Tens.wide x0) = true) := hide (decide_eq_true (by unfold Tens.wide; omega))
  generalize Tens.wide x0 = x at *
  go_wp2_with fail
  refine (HWy.out _).mono ?_
  rintro e w2 ⟨rfl, hw⟩
  have hw := hw.symm
  subst hw
  have hfy : Hid (Tens.fit true (Tens.wide y0) = true) := hide (decide_eq_true (by unfold Tens.wide; omega))
  generalize Tens.wide y0 = y at *
  have hfx := hfx.out
  have hfy := hfy.out
  have Hfx := hide hfx
  have Hfy := hide hfy
  clear hfx hfy
  go_wp2_with fail
  refine (HP.out _).mono ?_
  rintro e w2 ⟨⟨kp, hkp, rfl⟩, hw⟩
  have hw := hw.symm
  subst hw
  obtain ⟨Kp, hKp⟩ : ∃ K : Int, (kp : Int) = K := ⟨_, rfl⟩
  have h0p : 0 ≤ Kp := by omega
  have h1p : Kp < 2147483648 := by omega
  rw [hKp]
  clear hKp hkp
  go_wp2_with fail
  refine (HQn.out _).mono ?_
  rintro e w2 ⟨⟨kq, hkq, rfl⟩, hw⟩
  have hw := hw.symm
  subst hw
  obtain ⟨Kq, hKq⟩ : ∃ K : Int, (kq : Int) = K := ⟨_, rfl⟩
  have h0q : 0 ≤ Kq := by omega
  have h1q : Kq < 63 := by omega
  rw [hKq]
  clear hKq hkq
  go_wp2_with fail
  refine (HRn.out _).mono ?_
  rintro e w2 ⟨⟨kr, hkr, rfl⟩, hw⟩
  have hw := hw.symm
  subst hw
  obtain ⟨Kr, hKr⟩ : ∃ K : Int, (kr : Int) = K := ⟨_, rfl⟩
  have h0r : 0 ≤ Kr := by omega
  have h1r : Kr < 256 := by omega
  rw [hKr]
  clear hKr hkr
  have b0r : -128 ≤ Kr - 128 := by omega
  have b1r : Kr - 128 ≤ 127 := by omega
  go_wp2_with fail
  clear h0r h1r
  generalize Kr - 128 = z at *
  have hfx := Hfx.out
  have hfy := Hfy.out
  have hfx2 := hfx
  have hfy2 := hfy
  obtain ⟨wq, hwq⟩ : ∃ W, W = w3.alloc (.cells #[.int .i64 Kp, .int .i64 Kq, .int .i64 z] 3) := ⟨_, rfl⟩
  have HWq := hide hwq
  have HQ0 : Ri wq (some ⟨w3.heap.size, 0, none⟩) [Kp, Kq, z] := by
    rw [hwq]
    exact new_ri w3 3 [Kp, Kq, z] (by
      intro z hz
      simp at hz
      omega)
  have HB0 := HB.out.alloc HB.out.size (.cells #[.int .i64 Kp, .int .i64 Kq, .int .i64 z] 3)
  rw [← hwq] at HB0
  clear HB hwq
  have HB := hide HB0
  clear HB0
  obtain ⟨qs, hqs⟩ : ∃ qs : List Int, qs = [Kp, Kq, z] := ⟨_, rfl⟩
  have hql : qs.length = Elm.nargs 10 := by rw [hqs]; rfl
  have hnl : qs.length = 3 := by rw [hqs]; rfl
  rw [← hqs] at HQ0
  have HQ := hide HQ0
  clear HQ0
  have hmay : Elm.may 10 true qs = true := by
    rw [hqs]
    show (decide (0 ≤ Kp) && decide (Kp ≤ 2147483647) && decide (0 ≤ Kq) && decide (Kq ≤ 62) && Tens.fit false z) = true
    simp only [Bool.and_eq_true, decide_eq_true_eq]
    exact ⟨⟨⟨⟨by omega, by omega⟩, by omega⟩, by omega⟩, decide_eq_true ⟨by omega, by omega⟩⟩
  clear hqs
  have HV := hide (evalue_c 10 ho true x y qs (some ⟨w3.heap.size, 0, none⟩) 3 wq hql HQ.out)
  have HRV := hide (fun k => rvalue_c 10 ho true x y qs (some ⟨w3.heap.size, 0, none⟩) 3 (wq.drewN k) hql (ri_drew HQ.out k) hmay)
  have HONE := hide (fun (D : Option Addr) => Elm.single_one 10 (by omega) true x y qs hfx2 hql hmay (fun _ => rfl) (fun h => absurd h (by decide)) D)
  have HTWO := hide (fun W => two_no 10 (by omega) W)
  have hbx := fit_bounds hfx
  have hby := fit_bounds hfy
  have HWD := hide (fun W => values_world W x y true ⟨by omega, by omega⟩ ⟨by omega, by omega⟩)
  obtain ⟨v, hv⟩ : ∃ v, Hid (Elm.val 10 true x y qs = v) := ⟨_, hide rfl⟩
  rw [hv.out] at HV HRV HONE
  rw [hnl] at HV HRV
  have HNL := hide hnl
  clear hv hbx hby hnl hql hmay hfx hfy hfx2 hfy2
  rw [← HWq.out]
  refine HV.out.mono ?_
  rintro e w4 ⟨rfl, k1, rfl⟩
  go_wp2_with fail
  refine (HRV.out k1).mono ?_
  rintro e w4 ⟨rfl, k2, rfl⟩
  have HB5 := hide (below_drewN (below_drewN HB.out k1) k2)
  have HQ5 := hide (ri_drew (ri_drew HQ.out k1) k2)
  generalize (wq.drewN k1).drewN k2 = w5 at *
  obtain ⟨W, hW, hBW, hIa, hIb, hA, hB, hZ⟩ := HWD.out w5
  have HW := hide hW
  have hBt := HB5.out.trans (hBW.mono HB5.out.size)
  have a0 := hA.cell 0
  have a1 := hA.cell 1
  have a2 := hA.cell 2
  have b0 := hB.cell 0
  have b1 := hB.cell 1
  have b2 := hB.cell 2
  have HC := hide (one_c 10 qs ⟨none, [], 0, true, some ⟨w5.heap.size, 0, none⟩, [x], 1⟩ (some ⟨w3.heap.size, 0, none⟩) 3 ah am ar ak W hIa (HQ5.out.below hBW) (HE.out.below hBt))
  rw [(HONE.out _).1, (HONE.out _).2, HNL.out] at HC
  have HZ := hide hZ
  have HBt := hide hBt
  clear HNL HV HRV HB HQ HONE HWD hW hBW hIa hIb hA hB hZ hBt HQ5 HE
  go_wp2_with fail
  rw [← HW.out]
  refine (HTWO.out _).mono ?_
  rintro e w6 ⟨rfl, hw⟩
  have hw := hw.symm
  subst hw
  go_wp2_with fail
  refine HC.out.mono ?_
  rintro e w6 ⟨⟨t, ev, rfl, hIn, hFr, -, -, e3, hEr⟩, hb⟩
  obtain rfl : ev = .nilIface := by
    unfold Elm.Err at hEr
    rw [if_neg (by simp)] at hEr
    exact hEr
  have hB2 := HBt.out.trans (hb.mono HBt.out.size)
  have hZ2 := HZ.out.below hb HZ.out.lt
  have hs5 := HB5.out.size
  have hD := hIn.dat
  rw [e3] at hD ⊢
  obtain ⟨ad, hDad, hadl, cad⟩ := ri_one hD
  rw [hDad]
  obtain ⟨z0, z1, z2, zf0, zf1, zf2, HZf, HFf⟩ := elm_three hZ2 hB2 (Nat.le_trans hs5 (Nat.le_add_right _ _)) (.slice t.P t.zs.length t.cap) (.bool t.u) (.slice (some ad) 1 t.dcap)
  have hne : w5.heap.size + 4 ≠ ad.block := by
    have h1 := hFr.2 ad hDad
    have h2 := HZ.out.lt
    omega
  have cad2 : (((w6.setCell ⟨w5.heap.size + 4, 0, none⟩ (.slice t.P t.zs.length t.cap)).setCell ⟨w5.heap.size + 4, 1, none⟩ (.bool t.u)).setCell ⟨w5.heap.size + 4, 2, none⟩ (.slice (some ad) 1 t.dcap)).cell? ad = some (.int .i64 v) := by
    rw [World.cell?_setCell_far _ _ _ _ hne, World.cell?_setCell_far _ _ _ _ hne, World.cell?_setCell_far _ _ _ _ hne]
    exact cad
  clear HC HZ HBt HB5 hb hIn hFr e3 hEr hB2 hZ2 hD hs5 hDad hadl cad hne HTWO HW
  go_wp2_with fail
  go_ret
  exact ⟨rfl, HFf.out⟩
set_option maxRecDepth 100000 in
set_option maxHeartbeats 4000000 in
theorem values_widen_w (op x0 y0 : Int) (h : op = 11) (p q r : Int) (ah am ar ak : Addr) (w : World) (hE : E4 w ah am ar ak) :
    Calls Tryd.prog 5 #[.int .i64 op, .int .i64 x0, .int .i64 y0, .bool true, .int .i64 p, .int .i64 q, .int .i64 r] w fun e w' => e = .returned (.bool true) ∧ Below w.heap.size w w' := by
  have HF := hide (first7_c ah am ar ak w hE)
  have HE := hide hE
  have HX := hide (fun W => number_c x0 256 (by decide) (by decide) 256 rfl W)
  have HY := hide (fun W => number_c y0 256 (by decide) (by decide) 256 rfl W)
  have HP := hide (fun W => number_c p 2147483648 (by decide) (by decide) 2147483648 rfl W)
  have HQn := hide (fun W => number_c q 63 (by decide) (by decide) 63 rfl W)
  have HRn := hide (fun W => number_c r 256 (by decide) (by decide) 256 rfl W)
  have HWx := hide (fun W => wide_c x0 W)
  have HWy := hide (fun W => wide_c y0 W)
  clear hE
  subst h
  have ho : (4 : Int) ≤ 11 ∧ 11 ≤ (11 : Int) := by decide
  go_enter Tryd.func5, Tryd.ntmps5
  go_wp2_with fail
  refine HF.out.mono ?_
  rintro e w3 ⟨rfl, hb⟩
  have HB := hide hb
  clear hb HF
  go_wp2_with fail
  refine (HWx.out _).mono ?_
  rintro e w2 ⟨rfl, hw⟩
  have hw := hw.symm
  subst hw
  have hfx : Hid (Tens.fit true (Tens.wide x0) = true) := hide (decide_eq_true (by unfold Tens.wide; omega))
  generalize Tens.wide x0 = x at *
  go_wp2_with fail
  refine (HWy.out _).mono ?_
  rintro e w2 ⟨rfl, hw⟩
  have hw := hw.symm
  subst hw
  have hfy : Hid (Tens.fit true (Tens.wide y0) = true) := hide (decide_eq_true (by unfold Tens.wide; omega))
  generalize Tens.wide y0 = y at *
  have hfx := hfx.out
  have hfy := hfy.out
  clear hfx hfy
  go_wp2_with fail
  refine (HRn.out _).mono ?_
  rintro e w2 ⟨⟨kr, hkr, rfl⟩, hw⟩
  have hw := hw.symm
  subst hw
  obtain ⟨Kr, hKr⟩ : ∃ K : Int, (kr : Int) = K := ⟨_, rfl⟩
  have h0r : 0 ≤ Kr := by omega
  have h1r : Kr < 256 := by omega
  rw [hKr]
  clear hKr hkr
  have b0r : -128 ≤ Kr - 128 := by omega
  have b1r : Kr - 128 ≤ 127 := by omega
  go_wp2_with fail
  clear h0r h1r
  generalize Kr - 128 = z at *
  go_ret
  exact ⟨rfl, HB.out.alloc HB.out.size _⟩
set_option maxRecDepth 100000 in
set_option maxHeartbeats 4000000 in
theorem values_low_w (op x0 y0 : Int) (h : op < 4) (p q r : Int) (ah am ar ak : Addr) (w : World) (hE : E4 w ah am ar ak) :
    Calls Tryd.prog 5 #[.int .i64 op, .int .i64 x0, .int .i64 y0, .bool true, .int .i64 p, .int .i64 q, .int .i64 r] w fun e w' => e = .returned (.bool true) ∧ Below w.heap.size w w' := by
  have HF := hide (first7_c ah am ar ak w hE)
  have HE := hide hE
  have HX := hide (fun W => number_c x0 256 (by decide) (by decide) 256 rfl W)
  have HY := hide (fun W => number_c y0 256 (by decide) (by decide) 256 rfl W)
  have HP := hide (fun W => number_c p 2147483648 (by decide) (by decide) 2147483648 rfl W)
  have HQn := hide (fun W => number_c q 63 (by decide) (by decide) 63 rfl W)
  have HRn := hide (fun W => number_c r 256 (by decide) (by decide) 256 rfl W)
  have HWx := hide (fun W => wide_c x0 W)
  have HWy := hide (fun W => wide_c y0 W)
  clear hE
  have n9 : op ≠ 9 := by omega
  have n10 : op ≠ 10 := by omega
  have n11 : op ≠ 11 := by omega
  have g1 : op < 4 := h
  have HN := hide (fun x y W => evalue_none op (by omega) true x y none 0 0 W)
  clear h
  go_enter Tryd.func5, Tryd.ntmps5
  go_wp2_with fail
  refine HF.out.mono ?_
  rintro e w3 ⟨rfl, hb⟩
  have HB := hide hb
  clear hb HF
  go_wp2_with fail
  refine (HWx.out _).mono ?_
  rintro e w2 ⟨rfl, hw⟩
  have hw := hw.symm
  subst hw
  have hfx : Hid (Tens.fit true (Tens.wide x0) = true) := hide (decide_eq_true (by unfold Tens.wide; omega))
  generalize Tens.wide x0 = x at *
  go_wp2_with fail
  refine (HWy.out _).mono ?_
  rintro e w2 ⟨rfl, hw⟩
  have hw := hw.symm
  subst hw
  have hfy : Hid (Tens.fit true (Tens.wide y0) = true) := hide (decide_eq_true (by unfold Tens.wide; omega))
  generalize Tens.wide y0 = y at *
  have hfx := hfx.out
  have hfy := hfy.out
  clear hfx hfy
  go_wp2_with fail
  refine (HN.out _ _ _).mono ?_
  rintro e w4 ⟨rfl, hw⟩
  have hw := hw.symm
  subst hw
  go_wp2_with fail
  go_ret
  exact ⟨rfl, HB.out⟩
set_option maxRecDepth 100000 in
set_option maxHeartbeats 4000000 in
theorem values_high_w (op x0 y0 : Int) (h : 11 < op) (p q r : Int) (ah am ar ak : Addr) (w : World) (hE : E4 w ah am ar ak) :
    Calls Tryd.prog 5 #[.int .i64 op, .int .i64 x0, .int .i64 y0, .bool true, .int .i64 p, .int .i64 q, .int .i64 r] w fun e w' => e = .returned (.bool true) ∧ Below w.heap.size w w' := by
  have HF := hide (first7_c ah am ar ak w hE)
  have HE := hide hE
  have HX := hide (fun W => number_c x0 256 (by decide) (by decide) 256 rfl W)
  have HY := hide (fun W => number_c y0 256 (by decide) (by decide) 256 rfl W)
  have HP := hide (fun W => number_c p 2147483648 (by decide) (by decide) 2147483648 rfl W)
  have HQn := hide (fun W => number_c q 63 (by decide) (by decide) 63 rfl W)
  have HRn := hide (fun W => number_c r 256 (by decide) (by decide) 256 rfl W)
  have HWx := hide (fun W => wide_c x0 W)
  have HWy := hide (fun W => wide_c y0 W)
  clear hE
  have n9 : op ≠ 9 := by omega
  have n10 : op ≠ 10 := by omega
  have n11 : op ≠ 11 := by omega
  have g1 : ¬ op < 4 := by omega
  have g2 : 11 < op := h
  have HN := hide (fun x y W => evalue_none op (by omega) true x y none 0 0 W)
  clear h
  go_enter Tryd.func5, Tryd.ntmps5
  go_wp2_with fail
  refine HF.out.mono ?_
  rintro e w3 ⟨rfl, hb⟩
  have HB := hide hb
  clear hb HF
  go_wp2_with fail
  refine (HWx.out _).mono ?_
  rintro e w2 ⟨rfl, hw⟩
  have hw := hw.symm
  subst hw
  have hfx : Hid (Tens.fit true (Tens.wide x0) = true) := hide (decide_eq_true (by unfold Tens.wide; omega))
  generalize Tens.wide x0 = x at *
  go_wp2_with fail
  refine (HWy.out _).mono ?_
  rintro e w2 ⟨rfl, hw⟩
  have hw := hw.symm
  subst hw
  have hfy : Hid (Tens.fit true (Tens.wide y0) = true) := hide (decide_eq_true (by unfold Tens.wide; omega))
  generalize Tens.wide y0 = y at *
  have hfx := hfx.out
  have hfy := hfy.out
  clear hfx hfy
  go_wp2_with fail
  refine (HN.out _ _ _).mono ?_
  rintro e w4 ⟨rfl, hw⟩
  have hw := hw.symm
  subst hw
  go_wp2_with fail
  go_ret
  exact ⟨rfl, HB.out⟩
theorem valueslaw_c (op x0 y0 : Int) (wide : Bool) (p q r : Int) (ah am ar ak : Addr) (w : World) (hE : E4 w ah am ar ak) :
    Calls Tryd.prog 5 #[.int .i64 op, .int .i64 x0, .int .i64 y0, .bool wide, .int .i64 p, .int .i64 q, .int .i64 r] w fun e w' => e = .returned (.bool true) ∧ Below w.heap.size w w' := by
  have hop : (4 ≤ op ∧ op ≤ 7) ∨ op = 8 ∨ op = 9 ∨ op = 10 ∨ op = 11 ∨ op < 4 ∨ 11 < op := by omega
  cases wide
  · rcases hop with h | h | h | h | h | h | h
    · exact values_two_n op x0 y0 h p q r ah am ar ak w hE
    · exact values_relu_n op x0 y0 h p q r ah am ar ak w hE
    · exact values_clamp_n op x0 y0 h p q r ah am ar ak w hE
    · exact values_requant_n op x0 y0 h p q r ah am ar ak w hE
    · exact values_widen_n op x0 y0 h p q r ah am ar ak w hE
    · exact values_low_n op x0 y0 h p q r ah am ar ak w hE
    · exact values_high_n op x0 y0 h p q r ah am ar ak w hE
  · rcases hop with h | h | h | h | h | h | h
    · exact values_two_w op x0 y0 h p q r ah am ar ak w hE
    · exact values_relu_w op x0 y0 h p q r ah am ar ak w hE
    · exact values_clamp_w op x0 y0 h p q r ah am ar ak w hE
    · exact values_requant_w op x0 y0 h p q r ah am ar ak w hE
    · exact values_widen_w op x0 y0 h p q r ah am ar ak w hE
    · exact values_low_w op x0 y0 h p q r ah am ar ak w hE
    · exact values_high_w op x0 y0 h p q r ah am ar ak w hE
end Go.Proofs.YtbnaaomkndbpoaaDoor
