/-
  The law QuantFits of package lodgelaw4, for lists as told. By an AI agent. No person has read it.
-/
import Derived.Test.YtboighnmgnjhdaaDoorQvK
namespace Go.Proofs.YtboighnmgnjhdaaDoor
open Go.RowKit
open Ieee

set_option maxRecDepth 100000 in
set_option maxHeartbeats 8000000 in
theorem fits_small (xs : List Nat) (A : Option Addr) (cap : Nat) (bs : List Nat) (B : Option Addr) (capb : Nat) (es : List Addr) (w : World) (hr : Fl w A xs) (hq : Rb w B bs) (hE : Ez w es) (h1 : xs.length ≤ 40) (h2 : bs.length ≤ 20) (hcb : bs.length ≤ capb) (hcb2 : capb ≤ 9223372036854775807) :
    Calls Tryd.prog 6 #[.slice A xs.length cap, .slice B bs.length capb] w fun e w' => e = .returned (.bool true) ∧ Below w.heap.size w w' := by
  have HF := hide qfirst_c
  have hbd : Below w.heap.size w w.drew := (Below.refl _ _).drew
  obtain ⟨ar, har⟩ : ∃ ar, es[1]? = some ar := by
    have := hE.1
    exact ⟨es[1], List.getElem?_eq_getElem (by omega)⟩
  have H1 := hide (fit_c xs A cap ar w.drew (hr.below hbd) (by omega) ((hE.below hbd).2.2 1 _ ar rfl har))
  have H2 := hide (fun W hb => reffit_c xs A cap W (hr.below hb) (by omega))
  have HI := hide (fun W h => is_c es 1 ar har 102 W h)
  have HRd := hide (fun W (hb : Below w.heap.size w W) h => sread_c bs B capb hcb hcb2 es W (hq.below hb) h)
  have hbl := (fit_facts xs hr.1 _ rfl).choose_spec.2.2.2.1
  have hzf : Qua.pos (Qua.fby xs) = true → -128 ≤ Qua.zer (Qua.lows xs) (Qua.fby xs) ∧ Qua.zer (Qua.lows xs) (Qua.fby xs) ≤ 127 := fun hp => by
    obtain ⟨t, u, -, -, -, hzu⟩ := zer_facts (Qua.lows xs) (Qua.fby xs) (fit_facts xs hr.1 _ rfl).choose_spec.2.2.2.2.2.1 hp
    rw [hzu]
    exact clamp_in _ _ _ (by decide)
  obtain ⟨b, hbq⟩ : ∃ b, Hid (Qua.fby xs = b) := ⟨_, hide rfl⟩
  obtain ⟨z, hzq⟩ : ∃ z, Hid (Qua.zer (Qua.lows xs) (Qua.fby xs) = z) := ⟨_, hide rfl⟩
  rw [hzq.out] at H1 H2 hzf
  rw [hbq.out] at H1 H2 hzf hbl
  obtain ⟨n, hn⟩ : ∃ n, Hid (xs.length = n) := ⟨_, hide rfl⟩
  obtain ⟨m, hm⟩ : ∃ m, Hid (bs.length = m) := ⟨_, hide rfl⟩
  have hbl9 : Hid (∀ x ∈ bs, x < 256) := hide hq.1
  have HQ := hide hq
  rw [hn.out] at H1 H2 h1 ⊢
  rw [hm.out] at HRd h2 hcb ⊢
  have hn1 : ¬ (40 : Int) < n := by omega
  have hm1 : ¬ (20 : Int) < m := by omega
  have HE := hide (hE.below hbd)
  have HB := hide hbd
  clear hn hr hE hbd hbq hzq hq
  go_enter Tryd.func6, Tryd.ntmps6
  go_wp2_with fail
  refine (HF.out _).mono ?_
  rintro e w1 ⟨rfl, rfl⟩
  go_wp2_with fail
  refine H1.out.mono ?_
  rintro e w1 ⟨⟨hp1, hp2⟩, hb⟩
  have HB1 := hide (HB.out.trans (hb.mono HB.out.size))
  have HE1 := hide (HE.out.below hb)
  clear hb HB HE H1 HF
  cases hp : Qua.pos b
  · obtain rfl := hp2 hp
    have hsf := store_f 0
    clear hp1 hp2 hzf
    go_wp2_with fail
    have hs0 := Has.new w1 33 [.float .f64 0, .int .i64 0]
    have hbA := (Below.refl w1.heap.size w1).alloc (Nat.le_refl _) (.cells #[.float .f64 0, .int .i64 0] 33)
    refine (H2.out _ (HB1.out.trans (hbA.mono HB1.out.size))).mono ?_
    rintro e w2 ⟨⟨-, hx⟩, hw2⟩
    obtain rfl := hx hp
    have HB2 : Hid (Below w.heap.size w w2) := by rw [hw2]; exact hide (HB1.out.trans (hbA.mono HB1.out.size))
    have HE2 : Hid (Ez w2 es) := by rw [hw2]; exact hide (HE1.out.below hbA)
    clear hw2 hbA hs0 HB1 HE1 hx hp H2
    have HX := hide (HI.out w2 HE2.out)
    go_wp2_with fail
    refine HX.out.mono ?_
    rintro e w3 ⟨rfl, hb⟩
    have HB3 := hide (HB2.out.trans (hb.mono HB2.out.size))
    have HE3 := hide (HE2.out.below hb)
    clear HX hb HB2 HE2
    go_wp2_with fail
    -- TAIL
    have HBV := hide HB3.out
    have HEV := hide HE3.out
    refine (HRd.out w3 HBV.out HEV.out).mono ?_
    rintro e wr ⟨⟨x, y, v, k, rfl, hcs⟩, hb⟩
    have hsf2 := store_f x
    have hbA := (Below.refl wr.heap.size wr).alloc (Nat.le_refl _) (.cells #[.float .f64 x, .int .i64 y] 33)
    have hs0 := Has.new wr 33 [.float .f64 x, .int .i64 y]
    have hBV2 := HBV.out.trans (hb.mono HBV.out.size)
    have HBX := hide (hBV2.trans (hbA.mono hBV2.size))
    have HEX := hide ((HEV.out.below hb).below hbA)
    have HSX := hide hs0
    have HQX := hide (HQ.out.below HBX.out)
    clear hb hbA hs0 hBV2 HBV HEV HRd
    have hX : Hid (wr.alloc (.cells #[.float .f64 x, .int .i64 y] 33) = wr.alloc (.cells #[.float .f64 x, .int .i64 y] 33)) := hide rfl
    rcases hcs with ⟨hm9, rfl, a, ha, rfl⟩ | ⟨hm9, rfl, a, ha, rfl⟩ | ⟨hm9, hgd, rfl, a, ha, rfl⟩ | ⟨hm9, hgd, rfl, rfl, rfl, rfl⟩
    · have HIs := hide (is_c es 4 a ha 105 _ HEX.out)
      have hm9' : (m : Int) < 9 := by omega
      clear ha hm9
      go_wp2_with fail
      refine HIs.out.mono ?_
      rintro e wf ⟨rfl, hb⟩
      have HBF := hide (HBX.out.trans (hb.mono HBX.out.size))
      clear hb
      go_wp2_with fail
      go_ret
      exact ⟨rfl, HBF.out⟩
    · have HIs := hide (is_c es 3 a ha 104 _ HEX.out)
      have hm9' : (9 : Int) < m := by omega
      have hm9n : ¬ (m : Int) < 9 := by omega
      clear ha hm9
      go_wp2_with fail
      refine HIs.out.mono ?_
      rintro e wf ⟨rfl, hb⟩
      have HBF := hide (HBX.out.trans (hb.mono HBX.out.size))
      clear hb
      go_wp2_with fail
      go_ret
      exact ⟨rfl, HBF.out⟩
    · obtain ⟨ad, c8, rfl, hc8, hc256, cx⟩ := rb_at HQX.out 8 (by rw [hm.out]; omega)
      have hm9e : m = 9 := hm9
      have hbs9 : bs.length = 9 := hm.out.trans hm9
      have HRf := hide (refread8_c (bs.take 8) (some ad) capb (wr.alloc (.cells #[.float .f64 x, .int .i64 y] 33)) (HQX.out.qtake 8) (by rw [List.length_take, hbs9]; rfl))
      have hhd := qhead_run (some ad) 9 capb (by omega)
      have hbl2 := rby_lt bs hbl9.out hbs9
      have HG := hide (goodscale_c (Qua.rby bs) hbl2 (Qua.rz bs))
      rw [hgd] at HG
      have hgd8 : bs.getD 8 0 = c8 := by rw [List.getD_eq_getElem?_getD, hc8.out]; rfl
      have hrz : (c8 : Int) - 128 = Qua.rz bs := by unfold Qua.rz; rw [hgd8]
      have hby : Flt.le (bs.take 8) = Qua.rby bs := rfl
      rw [hby] at HRf
      have s8 : IntKind.i64.wrap ((c8 : Int) - 128) = Qua.rz bs := by rw [iwrap_small _ (by omega) (by omega)]; exact hrz
      have s9 : IntKind.i64.wrap (c8 : Int) = (c8 : Int) := iwrap_small _ (by omega) (by omega)
      have cx' : (wr.alloc (.cells #[.float .f64 x, .int .i64 y] 33)).cell? ⟨ad.block, ad.off + 8, none⟩ = some (.int .u8 c8) := cx
      have HIs := hide (is_c es 1 a ha 102 _ HEX.out)
      clear hc8 hm9 hbs9 hbl2 hgd hgd8 hrz hby hc256 ha
      subst hm9e
      generalize Qua.rby bs = X at *
      generalize Qua.rz bs = Y at *
      go_wp2_with fail
      refine HRf.out.mono ?_
      rintro e w8 ⟨rfl, rfl⟩
      go_wp2_with fail
      refine (HG.out _).mono ?_
      rintro e w8 ⟨rfl, rfl⟩
      go_wp2_with fail
      refine HIs.out.mono ?_
      rintro e wf ⟨rfl, hb⟩
      have HBF := hide (HBX.out.trans (hb.mono HBX.out.size))
      clear hb
      go_wp2_with fail
      go_ret
      exact ⟨rfl, HBF.out⟩
    · obtain ⟨ad, c8, rfl, hc8, hc256, cx⟩ := rb_at HQX.out 8 (by rw [hm.out]; omega)
      have hm9e : m = 9 := hm9
      have hbs9 : bs.length = 9 := hm.out.trans hm9
      have HRf := hide (refread8_c (bs.take 8) (some ad) capb (wr.alloc (.cells #[.float .f64 (Qua.rby bs), .int .i64 (Qua.rz bs)] 33)) (HQX.out.qtake 8) (by rw [List.length_take, hbs9]; rfl))
      have hhd := qhead_run (some ad) 9 capb (by omega)
      have hbl2 := rby_lt bs hbl9.out hbs9
      have HG := hide (goodscale_c (Qua.rby bs) hbl2 (Qua.rz bs))
      rw [hgd] at HG
      have hgd8 : bs.getD 8 0 = c8 := by rw [List.getD_eq_getElem?_getD, hc8.out]; rfl
      have hrz : (c8 : Int) - 128 = Qua.rz bs := by unfold Qua.rz; rw [hgd8]
      have hby : Flt.le (bs.take 8) = Qua.rby bs := rfl
      rw [hby] at HRf
      have s8 : IntKind.i64.wrap ((c8 : Int) - 128) = Qua.rz bs := by rw [iwrap_small _ (by omega) (by omega)]; exact hrz
      have s9 : IntKind.i64.wrap (c8 : Int) = (c8 : Int) := iwrap_small _ (by omega) (by omega)
      have cx' : (wr.alloc (.cells #[.float .f64 (Qua.rby bs), .int .i64 (Qua.rz bs)] 33)).cell? ⟨ad.block, ad.off + 8, none⟩ = some (.int .u8 c8) := cx
      have hpb : Qua.pos (Qua.rby bs) = true := by unfold Qua.good at hgd; simp only [Bool.and_eq_true] at hgd; exact hgd.1.1
      have oxx : FloatKind.f64.format.order (Qua.rby bs) (Qua.rby bs) = some .eq := order_num' (by
        unfold Qua.pos at hpb
        rw [decide_eq_true_eq] at hpb
        unfold Flt.nanb
        rw [decide_eq_false_iff_not]
        omega)
      have HIs := hide (fun W => is_nil 0 W)
      clear hc8 hm9 hbs9 hbl2 hgd hgd8 hrz hby hc256 hpb
      subst hm9e
      generalize Qua.rby bs = X at *
      generalize Qua.rz bs = Y at *
      have k0 : (wr.alloc (.cells #[.float .f64 X, .int .i64 Y] 33)).cell? ⟨wr.heap.size, 0, none⟩ = some (.float .f64 X) := HSX.out.cell 0
      have k1 : (wr.alloc (.cells #[.float .f64 X, .int .i64 Y] 33)).cell? ⟨wr.heap.size, 1, none⟩ = some (.int .i64 Y) := HSX.out.cell 1
      go_wp2_with fail
      refine HRf.out.mono ?_
      rintro e w8 ⟨rfl, rfl⟩
      go_wp2_with fail
      refine (HG.out _).mono ?_
      rintro e w8 ⟨rfl, rfl⟩
      go_wp2_with fail
      have hSS : (wr.alloc (.cells #[.float .f64 X, .int .i64 Y] 33)).drew.cell? ⟨wr.heap.size, 0, none⟩ = some (.float .f64 X) ∧ (wr.alloc (.cells #[.float .f64 X, .int .i64 Y] 33)).drew.cell? ⟨wr.heap.size, 1, none⟩ = some (.int .i64 Y) ∧ (wr.alloc (.cells #[.float .f64 X, .int .i64 Y] 33)).drew.cell? ⟨ad.block, ad.off + 8, none⟩ = some (.int .u8 c8) := ⟨k0, k1, cx'⟩
      go_region_held3 (fun W => W.cell? ⟨wr.heap.size, 0, none⟩ = some (.float .f64 X) ∧ W.cell? ⟨wr.heap.size, 1, none⟩ = some (.int .i64 Y) ∧ W.cell? ⟨ad.block, ad.off + 8, none⟩ = some (.int .u8 c8))
        (first | exact hSS | assumption)
        (first | fail)
      go_wp2_with fail
      refine (HIs.out _).mono ?_
      rintro e wf ⟨rfl, hb⟩
      have HBF := hide ((HBX.out.drew).trans (hb.mono HBX.out.size))
      clear hb
      go_wp2_with fail
      go_ret
      exact ⟨rfl, HBF.out⟩
  · obtain rfl := hp1 hp
    have hzb := hzf hp
    obtain ⟨c, hcz⟩ : ∃ c : Nat, z = (c : Int) - 128 := ⟨(z + 128).toNat, by omega⟩
    have hc256 : c < 256 := by omega
    have HSB := hide (sbytes_c b z hbl hp c hc256 hcz)
    have hbt : Flt.told b = b := by
      unfold Flt.told
      rw [if_neg]
      unfold Flt.nanb
      unfold Qua.pos at hp
      simp at hp ⊢
      omega
    have HRF := hide (reffloatbytes_c b hbl)
    rw [hbt] at HRF
    have hrb9 : Qua.rby (Flt.by8 b ++ [c]) = b := by
      unfold Qua.rby
      rw [List.take_append_of_le_length (by exact Nat.le_refl 8), List.take_of_length_le (by exact Nat.le_refl 8), Flt.le_by8 b hbl]
    have hrz9 : Qua.rz (Flt.by8 b ++ [c]) = z := by
      rw [hcz]
      rfl
    have hgood : Qua.good b z = true := by unfold Qua.good; rw [hp]; simp; omega
    have HRN : Hid (∀ W A1 cap1, 9 ≤ cap1 → cap1 ≤ 9223372036854775807 → Ez W es → Rb W A1 (Flt.by8 b ++ [c]) → Calls Tryd.prog 39 #[.slice A1 9 cap1] W fun e w' => e = .returned (.tuple #[.agg #[.float .f64 b, .int .i64 z], .nilIface]) ∧ Below W.heap.size W w') := hide (fun W A1 cap1 k1 k2 hEz hRb => by
      have hh := sread_nine (Flt.by8 b ++ [c]) A1 cap1 k1 k2 ar W hRb rfl (hEz.2.2 1 _ ar rfl har)
      rw [hrb9, hrz9] at hh
      exact hh.mono fun e w' hx => ⟨hx.1.1 hgood, hx.2⟩)
    have HSm : Hid (∀ W A1 cap1 A2 cap2, Rb W A1 (Flt.by8 b ++ [c]) → Rb W A2 (Flt.by8 b) → Calls Tryd.prog 40 #[.slice A1 8 cap1, .slice A2 8 cap2] W fun e w' => e = .returned (.bool true) ∧ Below W.heap.size W w') := hide (fun W A1 cap1 A2 cap2 hR1 hR2 => by
      have hh := samebytes_c (Flt.by8 b) (Flt.by8 b) A1 A2 cap1 cap2 W (by
        have := hR1.qtake 8
        rw [List.take_append_of_le_length (by exact Nat.le_refl 8), List.take_of_length_le (by exact Nat.le_refl 8)] at this
        exact this) hR2 (show 8 ≤ 1000000 by decide) (show 8 ≤ 1000000 by decide)
      rw [decide_eq_true rfl] at hh
      exact hh)
    have obb : FloatKind.f64.format.order b b = some .eq := order_num' (by
      unfold Qua.pos at hp
      rw [decide_eq_true_eq] at hp
      unfold Flt.nanb
      rw [decide_eq_false_iff_not]
      omega)
    obtain ⟨l, hl⟩ : ∃ l, Hid (Flt.by8 b = l) := ⟨_, hide rfl⟩
    rw [hl.out] at HSB HRF HRN HSm
    have hsf := store_f b
    clear hp2 hp1 hzf hzb hcz hc256 hbt hrb9 hrz9 hgood hbl hl
    go_wp2_with fail
    have hs0 := Has.new w1 33 [.float .f64 b, .int .i64 z]
    have hbA := (Below.refl w1.heap.size w1).alloc (Nat.le_refl _) (.cells #[.float .f64 b, .int .i64 z] 33)
    refine (H2.out _ (HB1.out.trans (hbA.mono HB1.out.size))).mono ?_
    rintro e w2 ⟨⟨hx, -⟩, hw2⟩
    obtain rfl := hx hp
    have HB2 : Hid (Below w.heap.size w w2) := by rw [hw2]; exact hide (HB1.out.trans (hbA.mono HB1.out.size))
    have HE2 : Hid (Ez w2 es) := by rw [hw2]; exact hide (HE1.out.below hbA)
    have hs2 : Has w2 w1.heap.size 33 [.float .f64 b, .int .i64 z] := by rw [hw2]; exact hs0
    have c0 : w2.cell? ⟨w1.heap.size, 0, none⟩ = some (.float .f64 b) := hs2.cell 0
    have c1 : w2.cell? ⟨w1.heap.size, 1, none⟩ = some (.int .i64 z) := hs2.cell 1
    have HS2 := hide hs2
    clear hw2 hbA hs0 HB1 HE1 hx hp H2 hs2 HI
    go_wp2_with fail
    refine (HSB.out w2).mono ?_
    rintro e w3 ⟨⟨A1, cap1, ⟨u1, u2⟩, rfl, hR1⟩, hb⟩
    have HB3 := hide (HB2.out.trans (hb.mono HB2.out.size))
    have HE3 := hide (HE2.out.below hb)
    have HS3 := hide (HS2.out.below hb HS2.out.lt)
    have HN := hide (HRN.out w3 A1 cap1 u1 u2 HE3.out hR1)
    have HR3 := hide hR1
    have hhd1 := qhead_run A1 9 cap1 (by omega)
    clear hb HB2 HE2 HS2 HSB HRN hR1 c0 c1
    go_wp2_with fail
    refine HN.out.mono ?_
    rintro e w4 ⟨rfl, hb⟩
    have hbA := (Below.refl w4.heap.size w4).alloc (Nat.le_refl _) (.cells #[.float .f64 b, .int .i64 z] 33)
    have hB4 := HB3.out.trans (hb.mono HB3.out.size)
    have HB5 := hide (hB4.trans (hbA.mono hB4.size))
    have HE5 := hide ((HE3.out.below hb).below hbA)
    have HR5 := hide ((HR3.out.below hb).below hbA)
    have hs4 := HS3.out.below hb HS3.out.lt
    have HS5 := hide (hs4.below hbA hs4.lt)
    have HT5 := hide (Has.new w4 33 [.float .f64 b, .int .i64 z])
    clear hb hbA hB4 HB3 HE3 HR3 hs4 HS3 HN
    generalize w1.heap.size = g at *
    have hS0 : FitS g w4.heap.size (w4.alloc (.cells #[.float .f64 b, .int .i64 z] 33)) (.float .f64 b) (.int .i64 z) (.float .f64 b) (.int .i64 z) (w4.alloc (.cells #[.float .f64 b, .int .i64 z] 33)).drew := ⟨HS5.out.cell 0, HS5.out.cell 1, HT5.out.cell 0, HT5.out.cell 1, hide (Below.refl _ _).drew⟩
    clear HS5 HT5
    go_wp2_with fail
    obtain ⟨W4, hW4⟩ : ∃ W4, Hid (w4.alloc (.cells #[.float .f64 b, .int .i64 z] 33) = W4) := ⟨_, hide rfl⟩
    obtain ⟨G, hG⟩ : ∃ G, Hid (w4.heap.size = G) := ⟨_, hide rfl⟩
    rw [hG.out, hW4.out] at hS0
    rw [hW4.out] at HB5 HE5 HR5
    have hW4' := hW4.out
    have hG' := hG.out
    rw [hG', hW4']
    clear hW4 hW4' hG hG'
    go_region_held3 (fun W => W.cell? ⟨g, 0, none⟩ = some (.float .f64 b) ∧ W.cell? ⟨g, 1, none⟩ = some (.int .i64 z) ∧ W.cell? ⟨G, 0, none⟩ = some (.float .f64 b) ∧ W.cell? ⟨G, 1, none⟩ = some (.int .i64 z) ∧ Hid (Below W4.heap.size W4 W))
      (first | exact hS0 | assumption | exact FitS.keep (by assumption) hb)
      (first
        | (go_at_call 41; refine (HRF.out _).mono ?_; rintro e W6 ⟨⟨A2, cap2, rfl, hR2⟩, hb⟩)
        | (go_at_call 40; refine (HSm.out _ A1 cap1 A2 cap2 (HR5.out.below (FitS.low (by assumption))) hR2).mono ?_; rintro e W7 ⟨rfl, hb⟩))
    have hb9 := FitS.low (by assumption : FitS g G W4 (.float .f64 b) (.int .i64 z) (.float .f64 b) (.int .i64 z) W7)
    have HB7 := hide (HB5.out.trans (hb9.mono HB5.out.size))
    have HE7 := hide (HE5.out.below hb9)
    clear hb hb9 HB5 HE5 HR5 hR2 HSm HRF hS0
    go_wp2_with fail
    -- TAIL
    have HBV := hide HB7.out
    have HEV := hide HE7.out
    refine (HRd.out W7 HBV.out HEV.out).mono ?_
    rintro e wr ⟨⟨x, y, v, k, rfl, hcs⟩, hb⟩
    have hsf2 := store_f x
    have hbA := (Below.refl wr.heap.size wr).alloc (Nat.le_refl _) (.cells #[.float .f64 x, .int .i64 y] 33)
    have hs0 := Has.new wr 33 [.float .f64 x, .int .i64 y]
    have hBV2 := HBV.out.trans (hb.mono HBV.out.size)
    have HBX := hide (hBV2.trans (hbA.mono hBV2.size))
    have HEX := hide ((HEV.out.below hb).below hbA)
    have HSX := hide hs0
    have HQX := hide (HQ.out.below HBX.out)
    clear hb hbA hs0 hBV2 HBV HEV HRd
    have hX : Hid (wr.alloc (.cells #[.float .f64 x, .int .i64 y] 33) = wr.alloc (.cells #[.float .f64 x, .int .i64 y] 33)) := hide rfl
    rcases hcs with ⟨hm9, rfl, a, ha, rfl⟩ | ⟨hm9, rfl, a, ha, rfl⟩ | ⟨hm9, hgd, rfl, a, ha, rfl⟩ | ⟨hm9, hgd, rfl, rfl, rfl, rfl⟩
    · have HIs := hide (is_c es 4 a ha 105 _ HEX.out)
      have hm9' : (m : Int) < 9 := by omega
      clear ha hm9
      go_wp2_with fail
      refine HIs.out.mono ?_
      rintro e wf ⟨rfl, hb⟩
      have HBF := hide (HBX.out.trans (hb.mono HBX.out.size))
      clear hb
      go_wp2_with fail
      go_ret
      exact ⟨rfl, HBF.out⟩
    · have HIs := hide (is_c es 3 a ha 104 _ HEX.out)
      have hm9' : (9 : Int) < m := by omega
      have hm9n : ¬ (m : Int) < 9 := by omega
      clear ha hm9
      go_wp2_with fail
      refine HIs.out.mono ?_
      rintro e wf ⟨rfl, hb⟩
      have HBF := hide (HBX.out.trans (hb.mono HBX.out.size))
      clear hb
      go_wp2_with fail
      go_ret
      exact ⟨rfl, HBF.out⟩
    · obtain ⟨ad, c8, rfl, hc8, hc256, cx⟩ := rb_at HQX.out 8 (by rw [hm.out]; omega)
      have hm9e : m = 9 := hm9
      have hbs9 : bs.length = 9 := hm.out.trans hm9
      have HRf := hide (refread8_c (bs.take 8) (some ad) capb (wr.alloc (.cells #[.float .f64 x, .int .i64 y] 33)) (HQX.out.qtake 8) (by rw [List.length_take, hbs9]; rfl))
      have hhd := qhead_run (some ad) 9 capb (by omega)
      have hbl2 := rby_lt bs hbl9.out hbs9
      have HG := hide (goodscale_c (Qua.rby bs) hbl2 (Qua.rz bs))
      rw [hgd] at HG
      have hgd8 : bs.getD 8 0 = c8 := by rw [List.getD_eq_getElem?_getD, hc8.out]; rfl
      have hrz : (c8 : Int) - 128 = Qua.rz bs := by unfold Qua.rz; rw [hgd8]
      have hby : Flt.le (bs.take 8) = Qua.rby bs := rfl
      rw [hby] at HRf
      have s8 : IntKind.i64.wrap ((c8 : Int) - 128) = Qua.rz bs := by rw [iwrap_small _ (by omega) (by omega)]; exact hrz
      have s9 : IntKind.i64.wrap (c8 : Int) = (c8 : Int) := iwrap_small _ (by omega) (by omega)
      have cx' : (wr.alloc (.cells #[.float .f64 x, .int .i64 y] 33)).cell? ⟨ad.block, ad.off + 8, none⟩ = some (.int .u8 c8) := cx
      have HIs := hide (is_c es 1 a ha 102 _ HEX.out)
      clear hc8 hm9 hbs9 hbl2 hgd hgd8 hrz hby hc256 ha
      subst hm9e
      generalize Qua.rby bs = X at *
      generalize Qua.rz bs = Y at *
      go_wp2_with fail
      refine HRf.out.mono ?_
      rintro e w8 ⟨rfl, rfl⟩
      go_wp2_with fail
      refine (HG.out _).mono ?_
      rintro e w8 ⟨rfl, rfl⟩
      go_wp2_with fail
      refine HIs.out.mono ?_
      rintro e wf ⟨rfl, hb⟩
      have HBF := hide (HBX.out.trans (hb.mono HBX.out.size))
      clear hb
      go_wp2_with fail
      go_ret
      exact ⟨rfl, HBF.out⟩
    · obtain ⟨ad, c8, rfl, hc8, hc256, cx⟩ := rb_at HQX.out 8 (by rw [hm.out]; omega)
      have hm9e : m = 9 := hm9
      have hbs9 : bs.length = 9 := hm.out.trans hm9
      have HRf := hide (refread8_c (bs.take 8) (some ad) capb (wr.alloc (.cells #[.float .f64 (Qua.rby bs), .int .i64 (Qua.rz bs)] 33)) (HQX.out.qtake 8) (by rw [List.length_take, hbs9]; rfl))
      have hhd := qhead_run (some ad) 9 capb (by omega)
      have hbl2 := rby_lt bs hbl9.out hbs9
      have HG := hide (goodscale_c (Qua.rby bs) hbl2 (Qua.rz bs))
      rw [hgd] at HG
      have hgd8 : bs.getD 8 0 = c8 := by rw [List.getD_eq_getElem?_getD, hc8.out]; rfl
      have hrz : (c8 : Int) - 128 = Qua.rz bs := by unfold Qua.rz; rw [hgd8]
      have hby : Flt.le (bs.take 8) = Qua.rby bs := rfl
      rw [hby] at HRf
      have s8 : IntKind.i64.wrap ((c8 : Int) - 128) = Qua.rz bs := by rw [iwrap_small _ (by omega) (by omega)]; exact hrz
      have s9 : IntKind.i64.wrap (c8 : Int) = (c8 : Int) := iwrap_small _ (by omega) (by omega)
      have cx' : (wr.alloc (.cells #[.float .f64 (Qua.rby bs), .int .i64 (Qua.rz bs)] 33)).cell? ⟨ad.block, ad.off + 8, none⟩ = some (.int .u8 c8) := cx
      have hpb : Qua.pos (Qua.rby bs) = true := by unfold Qua.good at hgd; simp only [Bool.and_eq_true] at hgd; exact hgd.1.1
      have oxx : FloatKind.f64.format.order (Qua.rby bs) (Qua.rby bs) = some .eq := order_num' (by
        unfold Qua.pos at hpb
        rw [decide_eq_true_eq] at hpb
        unfold Flt.nanb
        rw [decide_eq_false_iff_not]
        omega)
      have HIs := hide (fun W => is_nil 0 W)
      clear hc8 hm9 hbs9 hbl2 hgd hgd8 hrz hby hc256 hpb
      subst hm9e
      generalize Qua.rby bs = X at *
      generalize Qua.rz bs = Y at *
      have k0 : (wr.alloc (.cells #[.float .f64 X, .int .i64 Y] 33)).cell? ⟨wr.heap.size, 0, none⟩ = some (.float .f64 X) := HSX.out.cell 0
      have k1 : (wr.alloc (.cells #[.float .f64 X, .int .i64 Y] 33)).cell? ⟨wr.heap.size, 1, none⟩ = some (.int .i64 Y) := HSX.out.cell 1
      go_wp2_with fail
      refine HRf.out.mono ?_
      rintro e w8 ⟨rfl, rfl⟩
      go_wp2_with fail
      refine (HG.out _).mono ?_
      rintro e w8 ⟨rfl, rfl⟩
      go_wp2_with fail
      have hSS : (wr.alloc (.cells #[.float .f64 X, .int .i64 Y] 33)).drew.cell? ⟨wr.heap.size, 0, none⟩ = some (.float .f64 X) ∧ (wr.alloc (.cells #[.float .f64 X, .int .i64 Y] 33)).drew.cell? ⟨wr.heap.size, 1, none⟩ = some (.int .i64 Y) ∧ (wr.alloc (.cells #[.float .f64 X, .int .i64 Y] 33)).drew.cell? ⟨ad.block, ad.off + 8, none⟩ = some (.int .u8 c8) := ⟨k0, k1, cx'⟩
      go_region_held3 (fun W => W.cell? ⟨wr.heap.size, 0, none⟩ = some (.float .f64 X) ∧ W.cell? ⟨wr.heap.size, 1, none⟩ = some (.int .i64 Y) ∧ W.cell? ⟨ad.block, ad.off + 8, none⟩ = some (.int .u8 c8))
        (first | exact hSS | assumption)
        (first | fail)
      go_wp2_with fail
      refine (HIs.out _).mono ?_
      rintro e wf ⟨rfl, hb⟩
      have HBF := hide ((HBX.out.drew).trans (hb.mono HBX.out.size))
      clear hb
      go_wp2_with fail
      go_ret
      exact ⟨rfl, HBF.out⟩
end Go.Proofs.YtboighnmgnjhdaaDoor
