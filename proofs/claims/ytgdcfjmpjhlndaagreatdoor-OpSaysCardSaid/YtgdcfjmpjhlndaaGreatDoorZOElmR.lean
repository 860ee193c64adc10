/-
  elem.Result of any operation, walked. By an AI agent. No person has read it.
-/
import Derived.Test.YtgdcfjmpjhlndaaGreatDoorZOElmN
namespace Go.Proofs.YtgdcfjmpjhlndaaGreatDoor
open Go.RowKit
set_option maxRecDepth 100000 in
set_option maxHeartbeats 8000000 in
theorem result_c (op : Int) (qs : List Int) (ds : List Dsc) (A B : Option Addr) (qcap cap : Nat) (ah am ar ak : Addr) (w : World) (hQ : Ri w A qs) (hR : Row w B (ds.flatMap Dsc.vals)) (hI : ∀ d ∈ ds, d.In w) (hl : ds.length ≤ 1000000) (hE : E4 w ah am ar ak) :
  Calls Tryz.prog 102 #[.int .i64 op, .slice A qs.length qcap, .slice B ds.length cap] w fun e w' =>
   (∃ Q c x, e = .returned (.tuple #[.agg (dcells Q (Elm.shape op qs ds).length c (Elm.kind op qs ds)), x]) ∧ x = Elm.err ah am ar ak (Elm.code op qs ds) ∧
    (Elm.code op qs ds = 0 → ∃ g rest, Q = some ⟨g, 0, none⟩ ∧ w.heap.size < g ∧ (Elm.shape op qs ds).length ≤ c ∧ c ≤ 9223372036854775807 ∧ Has w' g 3 (i64s (Elm.shape op qs ds) ++ rest))) ∧ Below w.heap.size w w' := by
 have HEk := hide hE.2
 have HEh := hide hE.1.1
 have HEr := hide hE.1.2.2
 have hb0 := (Below.refl w.heap.size w).alloc (Nat.le_refl _) (.cells #[.slice none 0 0, .bool false] 24)
 have hz0 := Has.new w 24 [.slice none 0 0, .bool false]
 have V0 := hide (counts_c op)
 by_cases hkn : Elm.known op = true
 case neg =>
  have hkf : Elm.known op = false := by simpa using hkn
  have ec : Elm.code op qs ds = 103 := by unfold Elm.code; rw [if_pos hkf]
  have es : Elm.shape op qs ds = [] := by unfold Elm.shape; rw [if_neg (by omega)]
  have ek : Elm.kind op qs ds = false := by unfold Elm.kind; rw [if_neg (by omega)]
  rw [hkf] at V0
  rw [ec, es, ek]
  clear hE hQ hR hI
  obtain ⟨nq, hnq⟩ : ∃ n, Hid (qs.length = n) := ⟨_, hide rfl⟩
  obtain ⟨nd, hnd⟩ : ∃ n, Hid (ds.length = n) := ⟨_, hide rfl⟩
  rw [hnq.out, hnd.out]
  clear hkf hkn ec es ek hl
  have HB := hide hb0
  have HZ := hide hz0
  clear hb0 hz0
  go_enter Tryz.func102, Tryz.ntmps102
  go_wp2_with fail
  refine (V0.out _).mono ?_
  rintro e w1 ⟨rfl, rfl⟩
  clear V0
  generalize (w.alloc (.cells #[.slice none 0 0, .bool false] 24)) = W0 at *
  obtain ⟨z0, z1, zf0, zf1, HZf, HFf⟩ := elm_twod HZ.out HB.out (Nat.le_refl _) (.slice none 0 0) (.bool false)
  have hs5 : W0.drew.cell? ⟨0, 0, none⟩ = some (errv ak) := (HEk.out.below HB.out).1
  have hglt : 0 < w.heap.size := HEk.out.2.1
  have hS9 := hide (HEk.out.below HFf.out).1
  go_wp2_with fail
  go_region_held3 (fun W => W.cell? ⟨0, 0, none⟩ = some (errv ak))
   (first | exact hs5 | assumption | exact hS9.out)
   (first | fail)
  go_wp2_with fail
  refine bodyPost_ret (results_desc rfl _ _ w.heap.size _ _ rfl HZf.out) rfl ?_
  exact ⟨⟨none, 0, _, rfl, rfl, fun h => by cases h⟩, HFf.out⟩
 case pos =>
 have ho : 4 ≤ op ∧ op ≤ 11 := of_decide_eq_true hkn
 rw [hkn, if_pos rfl] at V0
 by_cases hlen : ds.length = Elm.nins op ∧ qs.length = Elm.nargs op
 case neg =>
  have hlen' : ds.length ≠ Elm.nins op ∨ qs.length ≠ Elm.nargs op := by
   by_cases h : ds.length = Elm.nins op
   ·exact .inr fun h2 => hlen ⟨h, h2⟩
   ·exact .inl h
  have ec : Elm.code op qs ds = 101 := by unfold Elm.code; rw [if_neg (by simp [hkn]), if_pos hlen']
  have es : Elm.shape op qs ds = [] := by unfold Elm.shape; rw [if_neg (by omega)]
  have ek : Elm.kind op qs ds = false := by unfold Elm.kind; rw [if_neg (by omega)]
  rw [ec, es, ek]
  clear hE hQ hR hI
  obtain ⟨nq, hnq⟩ : ∃ n, Hid (qs.length = n) := ⟨_, hide rfl⟩
  obtain ⟨nd, hnd⟩ : ∃ n, Hid (ds.length = n) := ⟨_, hide rfl⟩
  obtain ⟨mi, hmi⟩ : ∃ n, Hid (Elm.nins op = n) := ⟨_, hide rfl⟩
  obtain ⟨ma, hma⟩ : ∃ n, Hid (Elm.nargs op = n) := ⟨_, hide rfl⟩
  rw [hnd.out, hmi.out, hnq.out, hma.out] at hlen'
  rw [hnq.out, hnd.out]
  rw [hmi.out, hma.out] at V0
  clear hkn ec es ek hl hlen hnq hnd hmi hma ho
  have HB := hide hb0
  have HZ := hide hz0
  clear hb0 hz0
  by_cases hd : nd = mi
  ·subst hd
   have hqn : nq ≠ ma := by
    rcases hlen' with h | h
    ·exact absurd rfl h
    ·exact h
   have hqi : ((nq : Int) == (ma : Int)) = false := by simp; omega
   have hqj : ((nq : Int) != (ma : Int)) = true := by simp; omega
   clear hlen'
   go_enter Tryz.func102, Tryz.ntmps102
   go_wp2_with fail
   refine (V0.out _).mono ?_
   rintro e w1 ⟨rfl, rfl⟩
   clear V0
   generalize (w.alloc (.cells #[.slice none 0 0, .bool false] 24)) = W0 at *
   obtain ⟨z0, z1, zf0, zf1, HZf, HFf⟩ := elm_twod HZ.out HB.out (Nat.le_refl _) (.slice none 0 0) (.bool false)
   have hs5 : W0.drew.cell? ⟨1, 0, none⟩ = some (errv ah) := (HEh.out.below HB.out).1
   have hglt : 1 < w.heap.size := HEh.out.2.1
   have hS9 := hide (HEh.out.below HFf.out).1
   go_wp2_with fail
   go_region_held3 (fun W => W.cell? ⟨1, 0, none⟩ = some (errv ah))
    (first | exact hs5 | assumption | exact hS9.out)
    (first | fail)
   go_wp2_with fail
   refine bodyPost_ret (results_desc rfl _ _ w.heap.size _ _ rfl HZf.out) rfl ?_
   exact ⟨⟨none, 0, _, rfl, rfl, fun h => by cases h⟩, HFf.out⟩
  ·have hqi : ((nd : Int) == (mi : Int)) = false := by simp; omega
   have hqj : ((nd : Int) != (mi : Int)) = true := by simp; omega
   clear hlen'
   go_enter Tryz.func102, Tryz.ntmps102
   go_wp2_with fail
   refine (V0.out _).mono ?_
   rintro e w1 ⟨rfl, rfl⟩
   clear V0
   generalize (w.alloc (.cells #[.slice none 0 0, .bool false] 24)) = W0 at *
   obtain ⟨z0, z1, zf0, zf1, HZf, HFf⟩ := elm_twod HZ.out HB.out (Nat.le_refl _) (.slice none 0 0) (.bool false)
   have hs5 : W0.drew.cell? ⟨1, 0, none⟩ = some (errv ah) := (HEh.out.below HB.out).1
   have hglt : 1 < w.heap.size := HEh.out.2.1
   have hS9 := hide (HEh.out.below HFf.out).1
   go_wp2_with fail
   go_region_held3 (fun W => W.cell? ⟨1, 0, none⟩ = some (errv ah))
    (first | exact hs5 | assumption | exact hS9.out)
    (first | fail)
   go_wp2_with fail
   refine bodyPost_ret (results_desc rfl _ _ w.heap.size _ _ rfl HZf.out) rfl ?_
   exact ⟨⟨none, 0, _, rfl, rfl, fun h => by cases h⟩, HFf.out⟩
 case pos =>
 obtain ⟨hli, hla⟩ := hlen
 have hc1 : Elm.code op qs ds = if Shp.firstbad ds ≠ 0 then Shp.firstbad ds else if Elm.alike op ds = false then 101 else if Elm.may op ((ds.head?.map (·.u)).getD false) qs = false then 102 else 0 := by
  unfold Elm.code
  rw [if_neg (by simp [hkn]), if_neg (by omega)]
 obtain ⟨R, hRR⟩ : ∃ R, Hid (Elm.code op qs ds = R) := ⟨_, hide rfl⟩
 have hsh : Hid (R = 0 → Elm.shape op qs ds = (ds.head?.map (·.zs)).getD []) := hide fun h => by unfold Elm.shape; rw [hRR.out, if_pos h]
 have hshn : Hid (R ≠ 0 → Elm.shape op qs ds = []) := hide fun h => by unfold Elm.shape; rw [hRR.out, if_neg h]
 have hki : Hid (R = 0 → Elm.kind op qs ds = Elm.wide op ((ds.head?.map (·.u)).getD false)) := hide fun h => by unfold Elm.kind; rw [hRR.out, if_pos h]
 have hkin : Hid (R ≠ 0 → Elm.kind op qs ds = false) := hide fun h => by unfold Elm.kind; rw [hRR.out, if_neg h]
 rw [hRR.out] at hc1 ⊢
 obtain ⟨X, hX⟩ : ∃ X, Hid (Elm.shape op qs ds = X) := ⟨_, hide rfl⟩
 obtain ⟨Y, hY⟩ : ∃ X, Hid (Elm.kind op qs ds = X) := ⟨_, hide rfl⟩
 rw [hX.out] at hsh hshn ⊢
 rw [hY.out] at hki hkin ⊢
 clear hX hY hRR
 have HC1 := hide hc1
 have V1 : Hid (∀ (i : Nat) (d : Dsc), ds[i]? = some d → ∀ W, Below w.heap.size w W → Calls Tryz.prog 47 #[.agg (dcells d.P d.zs.length d.cap d.u)] W fun e w' => e = .returned (Shp.err am ar (Shp.code d.zs)) ∧ Below W.heap.size W w') := hide fun i d hd W hb => by
  have h := (hI d (List.mem_of_getElem? hd)).below hb
  exact valid_c d.zs d.P d.cap d.u am ar W h.shp (by have := h.ls; omega) (hE.1.2.below hb)
 have V3 := hide (fun W (hb : Below w.heap.size w W) => looks_e op ho ds B cap W hli (hR.below hb) (fun d hd => (hI d hd).below hb))
 have V4 := hide (fun W u (hb : Below w.heap.size w W) => may_c op ho u qs A qcap W hla (hQ.below hb))
 have V5 : Hid (∀ (i : Nat) (d : Dsc), ds[i]? = some d → ∀ W, Below w.heap.size w W → Calls Tryz.prog 79 #[.agg (dcells d.P d.zs.length d.cap d.u)] W fun e w' => (∃ g c rest, e = .returned (.agg (dcells (some ⟨g, 0, none⟩) d.zs.length c d.u)) ∧ W.heap.size ≤ g ∧ d.zs.length ≤ c ∧ c ≤ 9223372036854775807 ∧ Has w' g 3 (i64s d.zs ++ rest) ∧ d.zs.length + rest.length = c) ∧ Below W.heap.size W w') := hide fun i d hd W hb => by
  have h := (hI d (List.mem_of_getElem? hd)).below hb
  exact clone_own d.zs d.P d.cap d.u W h.shp h.ls
 have HR := hide hR
 have HB0 := hide hb0
 have HZ0 := hide hz0
 have hpos : 0 < ds.length := by rw [hli]; unfold Elm.nins; split <;> omega
 obtain ⟨nq, hnq⟩ : ∃ n, Hid (qs.length = n) := ⟨_, hide rfl⟩
 obtain ⟨nd, hnd⟩ : ∃ n, Hid (ds.length = n) := ⟨_, hide rfl⟩
 rw [hnq.out] at hla V4 ⊢
 rw [hnd.out] at hli hl V3 hpos ⊢
 rw [← hli, ← hla] at V0
 clear hE hQ hR hI hb0 hz0 hkn hli hla hnq hc1
 go_enter Tryz.func102, Tryz.ntmps102
 go_wp2_with fail
 refine (V0.out _).mono ?_
 rintro e w1 ⟨rfl, rfl⟩
 clear V0
 go_wp2_with fail
 generalize (w.alloc (.cells #[.slice none 0 0, .bool false] 24)) = W0 at *
 go_loopw [39] (fun k wr => ∃ i : Nat, i ≤ nd ∧ k = .int .i64 i ∧ Hid (Has wr w.heap.size 24 [.slice none 0 0, .bool false]) ∧ Hid (Below w.heap.size w wr) ∧ Hid (∀ (j : Nat) x, j < i → ds[j]? = some x → Shp.code x.zs = 0)) (fun k _ => nd - (intOf k).toNat)
 case atStart => exact ⟨0, by omega, rfl, HZ0, HB0, hide (fun j x hj => by omega)⟩
 case round =>
  clear HZ0 HB0
  obtain ⟨i, hi, rfl, HZ, HB, HF⟩ := hrel
  by_cases hlt : i < nd
  ·obtain ⟨ad, d, hBad, had, hd, c0, c1⟩ := row_dsc (HR.out.below HB.out) i (by rw [hnd.out]; exact hlt)
   subst hBad
   have hx := Has.new wr 24 d.vals
   have HBx := hide (HB.out.alloc HB.out.size (.cells d.vals.toArray 24))
   have HZx := hide (HZ.out.alloc (.cells d.vals.toArray 24))
   have HV := hide (V1.out i d hd.out _ HBx.out)
   have hcs := Shp.code_is d.zs
   clear hx HZ HB
   go_wp2_with fail
   clear c0 c1 had
   refine HV.out.mono ?_
   rintro e w1 ⟨rfl, hb⟩
   have HB := hide (HBx.out.trans (hb.mono HBx.out.size))
   have HZ := hide (HZx.out.below hb HZx.out.lt)
   clear HV HBx HZx hb
   by_cases hf : Shp.code d.zs = 0
   ·rw [hf, show Shp.err am ar 0 = .nilIface from rfl]
    have HFt := hide hf
    clear hcs hf
    go_wp2_with fail
    go_roundw
    case rel =>
     refine ⟨i + 1, by omega, by go_num, HZ, HB, hide (fun j x hj hx => ?_)⟩
     rcases Nat.lt_or_ge j i with h | h
     ·exact HF.out j x h hx
     ·obtain rfl : j = i := by omega
      rw [hd.out] at hx
      obtain rfl := Option.some.inj hx
      exact HFt.out
    case measure => simp [intOf]; omega
   ·have hE := Shp.err_v (am := am) (ar := ar) hcs hf
    have hR2 : R = Shp.code d.zs := by
     have h := Shp.first_at ds i d hd.out HF.out hf
     rw [HC1.out, h, if_pos hf]
    have hRn : R ≠ 0 := by rw [hR2]; exact hf
    have e1 := hshn.out hRn
    have e2 := hkin.out hRn
    subst e1
    subst e2
    have HR2 := hide hR2
    have HRn := hide hRn
    have r1 := run_neqerr hE
    have r2 := run_neqguard hE
    have HCS := hide hcs
    obtain ⟨ev, hev⟩ : ∃ ev, Hid (Shp.err am ar (Shp.code d.zs) = ev) := ⟨_, hide rfl⟩
    rw [hev.out] at r1 r2 ⊢
    obtain ⟨z0, z1, zf0, zf1, HZf, HFf⟩ := elm_two HZ.out HB.out (Nat.le_refl _) (.slice none 0 0) (.bool false)
    clear hcs hf hE hR2 hRn HZ HB hsh hki hshn hkin V1 V3 V4 V5
    go_wp2_with fail
    refine bodyPost_ret (results_desc rfl _ _ w.heap.size _ _ rfl HZf.out) rfl ?_
    refine ⟨⟨none, 0, _, rfl, ?_, fun h => absurd h HRn.out⟩, HFf.out⟩
    rw [HR2.out, Elm.err_shp _ _ _ _ _ HCS.out]
    exact hev.out.symm
  ·obtain rfl : i = nd := by omega
   have hfb := Shp.first_none ds fun j x hx => HF.out j x (by have := (List.getElem?_eq_some_iff.1 hx).1; rw [hnd.out] at this; exact this) hx
   have hc0 := HC1.out
   rw [hfb, if_neg (by simp)] at hc0
   clear HF HC1 hfb hlt hi V1
   obtain ⟨ad, d, hBad, had, hd, c0, c1⟩ := row_dsc (HR.out.below HB.out) 0 (by rw [hnd.out]; exact hpos)
   subst hBad
   have hhd : ds.head? = some d := by rw [List.head?_eq_getElem?]; exact hd.out
   rw [hhd] at hsh hki hc0
   have hc2 : R = if Elm.alike op ds = false then 101 else if Elm.may op d.u qs = false then 102 else 0 := hc0
   simp only [Option.map_some, Option.getD_some] at hsh hki
   clear hc0
   rw [Nat.zero_mul, Addr.add_zero'] at c0 c1
   have HV3 := hide (V3.out wr HB.out)
   obtain ⟨al, hal⟩ : ∃ b, Hid (Elm.alike op ds = b) := ⟨_, hide rfl⟩
   rw [hal.out] at HV3 hc2
   have HC2 := hide hc2
   clear V3 hal hc2 hhd
   have haw : ad.block < wr.heap.size := had
   cases al
   ·have hRn : R = 101 := HC2.out
    have e1 := hshn.out (by omega)
    have e2 := hkin.out (by omega)
    subst hRn
    subst e1
    subst e2
    clear hsh hki hshn hkin HC2 V4 V5 c0 c1 had haw
    go_wp2_with fail
    refine HV3.out.mono ?_
    rintro e w2 ⟨rfl, hb⟩
    have HB2 := hide (HB.out.trans (hb.mono HB.out.size))
    have HZ2 := hide (HZ.out.below hb HZ.out.lt)
    clear HV3 hb HB HZ
    obtain ⟨z0, z1, zf0, zf1, HZf, HFf⟩ := elm_twod HZ2.out HB2.out (Nat.le_refl _) (.slice none 0 0) (.bool false)
    have hs5 : w2.drew.cell? ⟨1, 0, none⟩ = some (errv ah) := (HEh.out.below HB2.out).1
    have hglt : 1 < w.heap.size := HEh.out.2.1
    have hS9 := hide (HEh.out.below HFf.out).1
    go_wp2_with fail
    go_region_held3 (fun W => W.cell? ⟨1, 0, none⟩ = some (errv ah))
     (first | exact hs5 | assumption | exact hS9.out)
     (first | fail)
    go_wp2_with fail
    refine bodyPost_ret (results_desc rfl _ _ w.heap.size _ _ rfl HZf.out) rfl ?_
    exact ⟨⟨none, 0, _, rfl, rfl, fun h => by cases h⟩, HFf.out⟩
   ·have hc3 := HC2.out
    rw [if_neg (by simp)] at hc3
    obtain ⟨my, hmy⟩ : ∃ b, Hid (Elm.may op d.u qs = b) := ⟨_, hide rfl⟩
    rw [hmy.out] at hc3
    have HC3 := hide hc3
    have V4' := hide (fun W hb => V4.out W d.u hb)
    rw [hmy.out] at V4'
    clear HC2 hc3 hmy V4
    go_wp2_with fail
    refine HV3.out.mono ?_
    rintro e w2 ⟨rfl, hb⟩
    have HB2 := hide (HB.out.trans (hb.mono HB.out.size))
    have HZ2 := hide (HZ.out.below hb HZ.out.lt)
    have c0' : w2.cell? ad = some (.slice d.P d.zs.length d.cap) := by rw [hb.cell haw]; exact c0
    have c1' : w2.cell? ⟨ad.block, ad.off + 1, none⟩ = some (.bool d.u) := by rw [hb.cell (p := ⟨ad.block, ad.off + 1, none⟩) haw]; exact c1
    have hbl : ad.block < w2.heap.size := Nat.lt_of_lt_of_le haw hb.size
    clear HV3 hb HB HZ c0 c1 had haw
    go_wp2_with fail
    refine (V4'.out _ HB2.out).mono ?_
    rintro e w3 ⟨rfl, k, rfl⟩
    have HB3 := hide (below_drewN HB2.out k)
    have HZ3 := hide (HZ2.out.drewN k)
    have c2 : (w2.drewN k).cell? ad = some (.slice d.P d.zs.length d.cap) := c0'
    have c3 : (w2.drewN k).cell? ⟨ad.block, ad.off + 1, none⟩ = some (.bool d.u) := c1'
    have hbl3 : ad.block < (w2.drewN k).heap.size := hbl
    generalize w2.drewN k = w3 at *
    clear HB2 HZ2 V4' hbl c0' c1'
    cases my
    ·have hRn : R = 102 := HC3.out
     have e1 := hshn.out (by omega)
     have e2 := hkin.out (by omega)
     subst hRn
     subst e1
     subst e2
     clear hsh hki hshn hkin HC3 V5 c2 c3 hbl3
     obtain ⟨z0, z1, zf0, zf1, HZf, HFf⟩ := elm_twod HZ3.out HB3.out (Nat.le_refl _) (.slice none 0 0) (.bool false)
     have hs5 : w3.drew.cell? ⟨3, 0, none⟩ = some (errv ar) := (HEr.out.below HB3.out).1
     have hglt : 3 < w.heap.size := HEr.out.2.1
     have hS9 := hide (HEr.out.below HFf.out).1
     go_wp2_with fail
     go_region_held3 (fun W => W.cell? ⟨3, 0, none⟩ = some (errv ar))
      (first | exact hs5 | assumption | exact hS9.out)
      (first | fail)
     go_wp2_with fail
     refine bodyPost_ret (results_desc rfl _ _ w.heap.size _ _ rfl HZf.out) rfl ?_
     exact ⟨⟨none, 0, _, rfl, rfl, fun h => by cases h⟩, HFf.out⟩
    ·have hRn : R = 0 := HC3.out
     have e1 := hsh.out hRn
     have e2 := hki.out hRn
     subst hRn
     subst e1
     have E2 := hide e2
     clear e2
     have V6 := hide (V5.out 0 d hd.out w3 HB3.out)
     clear hsh hki hshn hkin HC3 V5
     go_wp2_with fail
     refine V6.out.mono ?_
     rintro e w4 ⟨⟨g, c, rest, rfl, hg, hgc, hc9, hG, -⟩, hb⟩
     have hB4 := HB3.out.trans (hb.mono HB3.out.size)
     have hZ4 := HZ3.out.below hb HZ3.out.lt
     have hgz : w.heap.size < g := Nat.lt_of_lt_of_le HZ3.out.lt hg
     have hgl := hG.lt
     clear V6 hb HB3 HZ3 c2 c3 hbl3
     have fin : ∀ v : Bool, w4.cell? ⟨w.heap.size, 0, none⟩ = some (.slice none 0 0) ∧ w4.cell? ⟨w.heap.size, 1, none⟩ = some (.bool false) ∧ w4.frozen? ⟨w.heap.size, 0, none⟩ = false ∧ w4.frozen? ⟨w.heap.size, 1, none⟩ = false ∧
       Hid (Has (((w4.setCell ⟨w.heap.size, 0, none⟩ (.slice (some ⟨g, 0, none⟩) d.zs.length c)).setCell ⟨w.heap.size, 1, none⟩ (.bool v)).alloc (.cells #[.slice (some ⟨g, 0, none⟩) d.zs.length c, .bool v] 24)) w.heap.size 24 [.slice (some ⟨g, 0, none⟩) d.zs.length c, .bool v]) ∧
       Hid (Has (((w4.setCell ⟨w.heap.size, 0, none⟩ (.slice (some ⟨g, 0, none⟩) d.zs.length c)).setCell ⟨w.heap.size, 1, none⟩ (.bool v)).alloc (.cells #[.slice (some ⟨g, 0, none⟩) d.zs.length c, .bool v] 24)) g 3 (i64s d.zs ++ rest)) ∧
       Hid (Below w.heap.size w (((w4.setCell ⟨w.heap.size, 0, none⟩ (.slice (some ⟨g, 0, none⟩) d.zs.length c)).setCell ⟨w.heap.size, 1, none⟩ (.bool v)).alloc (.cells #[.slice (some ⟨g, 0, none⟩) d.zs.length c, .bool v] 24))) := fun v =>
      ⟨hZ4.cell 0, hZ4.cell 1, hZ4.frozen 0, hZ4.frozen 1, ((hZ4.set_ 0 (.slice (some ⟨g, 0, none⟩) d.zs.length c)).set_ 1 (.bool v)).alloc _,
       ((hG.far (p := ⟨w.heap.size, 0, none⟩) (by simp; omega) (.slice (some ⟨g, 0, none⟩) d.zs.length c)).far (p := ⟨w.heap.size, 1, none⟩) (by simp; omega) (.bool v)).alloc _,
       ((hB4.setCell (p := ⟨w.heap.size, 0, none⟩) (Nat.le_refl _) (.slice (some ⟨g, 0, none⟩) d.zs.length c)).setCell (p := ⟨w.heap.size, 1, none⟩) (Nat.le_refl _) (.bool v)).alloc (by simp; exact hB4.size) _⟩
     clear hB4 hG
     by_cases h11 : op = 11
     ·subst h11
      have hY : Y = true := E2.out
      subst hY
      obtain ⟨z0, z1, zf0, zf1, HZf, HGf, HFf⟩ := fin true
      have hz5 := hZ4.lt
      clear fin hZ4 E2
      go_wp2_with fail
      refine bodyPost_ret (results_desc rfl _ _ w.heap.size _ _ rfl HZf.out) rfl ?_
      exact ⟨⟨_, c, _, rfl, rfl, ⟨g, rfl, hgz, hgc, hc9, rest, HGf.out⟩⟩, HFf.out⟩
     ·have e11 : (op == 11) = false := by simpa using h11
      have hz5 := hZ4.lt
      cases hu : d.u
      ·have hY : Y = false := E2.out.trans (by rw [hu]; unfold Elm.wide; rw [e11]; rfl)
       subst hY
       obtain ⟨z0, z1, zf0, zf1, HZf, HGf, HFf⟩ := fin false
       clear fin hZ4 hu E2
       go_wp2_with fail
       refine bodyPost_ret (results_desc rfl _ _ w.heap.size _ _ rfl HZf.out) rfl ?_
       exact ⟨⟨_, c, _, rfl, rfl, ⟨g, rfl, hgz, hgc, hc9, rest, HGf.out⟩⟩, HFf.out⟩
      ·by_cases h10 : op = 10
       ·subst h10
        have hY : Y = false := E2.out.trans (by rw [hu]; rfl)
        subst hY
        obtain ⟨z0, z1, zf0, zf1, HZf, HGf, HFf⟩ := fin false
        clear fin hZ4 hu E2
        go_wp2_with fail
        refine bodyPost_ret (results_desc rfl _ _ w.heap.size _ _ rfl HZf.out) rfl ?_
        exact ⟨⟨_, c, _, rfl, rfl, ⟨g, rfl, hgz, hgc, hc9, rest, HGf.out⟩⟩, HFf.out⟩
       ·have e10 : (op != 10) = true := by simpa using h10
        have hY : Y = true := E2.out.trans (by rw [hu]; unfold Elm.wide; rw [e11, e10]; rfl)
        subst hY
        obtain ⟨z0, z1, zf0, zf1, HZf, HGf, HFf⟩ := fin true
        clear fin hZ4 hu E2
        go_wp2_with fail
        refine bodyPost_ret (results_desc rfl _ _ w.heap.size _ _ rfl HZf.out) rfl ?_
        exact ⟨⟨_, c, _, rfl, rfl, ⟨g, rfl, hgz, hgc, hc9, rest, HGf.out⟩⟩, HFf.out⟩
end Go.Proofs.YtgdcfjmpjhlndaaGreatDoor
