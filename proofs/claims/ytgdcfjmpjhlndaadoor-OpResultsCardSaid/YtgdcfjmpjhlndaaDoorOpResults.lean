/-
  The law OpResults, walked. By an AI agent. No person has read it.
-/
import Derived.Test.YtgdcfjmpjhlndaaDoorOpE
import Derived.Test.YtgdcfjmpjhlndaaDoorOpI
import Derived.Test.YtgdcfjmpjhlndaaDoorErrD
import Derived.Test.YtgdcfjmpjhlndaaDoorShpX
namespace Go.Proofs.YtgdcfjmpjhlndaaDoor
open Go.RowKit

theorem E4.ofz {w : World} {es : List Addr} (h : Ez w es) : ∃ ah am ar ak, es[0]? = some ah ∧ es[1]? = some ar ∧ es[2]? = some ak ∧ es[3]? = some am ∧ E4 w ah am ar ak := by
  obtain ⟨ah, hh⟩ : ∃ a, es[0]? = some a := ⟨_, List.getElem?_eq_getElem (by rw [h.1]; decide)⟩
  obtain ⟨ar, hr⟩ : ∃ a, es[1]? = some a := ⟨_, List.getElem?_eq_getElem (by rw [h.1]; decide)⟩
  obtain ⟨ak, hk⟩ : ∃ a, es[2]? = some a := ⟨_, List.getElem?_eq_getElem (by rw [h.1]; decide)⟩
  obtain ⟨am, hm⟩ : ∃ a, es[3]? = some a := ⟨_, List.getElem?_eq_getElem (by rw [h.1]; decide)⟩
  exact ⟨ah, am, ar, ak, hh, hr, hk, hm, ⟨h.2.2 0 _ ah rfl hh, h.2.2 3 _ am rfl hm, h.2.2 1 _ ar rfl hr⟩, h.2.2 2 _ ak rfl hk⟩
theorem is_op {es : List Addr} {ah am ar ak : Addr} (h0 : es[0]? = some ah) (h1 : es[1]? = some ar) (h2 : es[2]? = some ak) (h3 : es[3]? = some am) (k : Nat) (hk : k = 0 ∨ k = 101 ∨ k = 102 ∨ k = 103 ∨ k = 104) (w : World) (h : Ez w es) :
    Calls Tryd.prog 17 #[Elm.err ah am ar ak k, .int .i64 (k : Nat)] w fun e w' => e = .returned (.bool true) ∧ Below w.heap.size w w' := by
  rcases hk with rfl | rfl | rfl | rfl | rfl
  · exact is_nil 0 w
  · exact is_c es 0 ah h0 101 w h
  · exact is_c es 1 ar h1 102 w h
  · exact is_c es 2 ak h2 103 w h
  · exact is_c es 3 am h3 104 w h
set_option maxRecDepth 100000 in
set_option maxHeartbeats 8000000 in
theorem opresultslaw_c (op : Int) (qs : List Int) (ds : List Dsc) (A B : Option Addr) (qcap cap : Nat) (es : List Addr) (w : World) (hQ : Ri w A qs) (hR : Row w B (ds.flatMap Dsc.vals)) (hI : ∀ d ∈ ds, Ri w d.P d.zs ∧ d.zs.length ≤ d.cap) (hZ : Ez w es) (hKz : Kz w) :
    Calls Tryd.prog 4 #[.int .i64 op, .slice A qs.length qcap, .slice B ds.length cap] w fun e w' => e = .returned (.bool true) ∧ Below w.heap.size w w' := by
  obtain ⟨ah, am, ar, ak, h0, h1, h2, h3, hE⟩ := E4.ofz hZ
  have HF := hide (first12_c ah am ar ak w hE hKz)
  by_cases hsm : qs.length ≤ 10 ∧ ds.length ≤ 3
  case neg =>
    clear hQ hR hI hZ h0 h1 h2 h3 hE hKz
    obtain ⟨nq, hnq⟩ : ∃ n, qs.length = n := ⟨_, rfl⟩
    obtain ⟨nd, hnd⟩ : ∃ n, ds.length = n := ⟨_, rfl⟩
    rw [hnq, hnd] at hsm
    rw [hnq, hnd]
    clear hnq hnd
    by_cases hq : nq ≤ 10
    · have hd : (3 : Int) < nd := by omega
      have hq2 : (nq : Int) ≤ 10 := by omega
      clear hsm hq
      go_enter Tryd.func4, Tryd.ntmps4
      go_wp2_with fail
      refine HF.out.mono ?_
      rintro e w1 ⟨rfl, hb⟩
      have HB := hide hb
      clear hb HF
      go_wp2_with fail
      go_ret
      exact ⟨rfl, HB.out⟩
    · have hq2 : (10 : Int) < nq := by omega
      clear hsm hq
      go_enter Tryd.func4, Tryd.ntmps4
      go_wp2_with fail
      refine HF.out.mono ?_
      rintro e w1 ⟨rfl, hb⟩
      have HB := hide hb
      clear hb HF
      go_wp2_with fail
      go_ret
      exact ⟨rfl, HB.out⟩
  case pos =>
  have V : Hid (∀ (i : Nat) (d : Dsc), ds[i]? = some d → ∀ W, Calls Tryd.prog 20 #[.agg (dcells d.P d.zs.length d.cap d.u)] W fun e w' => e = .returned (.bool (decide (d.zs.length ≤ 8))) ∧ Below W.heap.size W w') := hide fun i d _ W => worlddesc_c d.P d.zs.length d.cap d.u W
  have HIn : Hid ((∀ d ∈ ds, d.zs.length ≤ 8) → ∀ W, Below w.heap.size w W → ∀ d ∈ ds, d.In W) := hide fun h8 W hb d hd => ⟨(hI d hd).1.below hb, by have := h8 d hd; omega⟩
  have HCap := hide (fun d hd => (hI d hd).2)
  have V1 := hide (fun h8 W (hb : Below w.heap.size w W) => opresult_c op qs ds A B qcap cap ah am ar ak W (hQ.below hb) (by omega) (hR.below hb) (HIn.out h8 W hb) (by omega) (hE.below hb) (hKz.below hb))
  have V2 := hide (fun h8 W (hb : Below w.heap.size w W) => rres_c op qs ds A B qcap cap W (hQ.below hb) (by omega) (hR.below hb) (HIn.out h8 W hb) (by omega) HCap.out)
  have V3 := hide (fun h8 W (hb : Below w.heap.size w W) => opunit_c op qs ds A B qcap cap ah am ar ak W (hQ.below hb) (by omega) (hR.below hb) (HIn.out h8 W hb) (by omega) (hE.below hb) (hKz.below hb) HCap.out)
  have V4 := hide (fun h8 W (hb : Below w.heap.size w W) => runit_c op qs ds A B qcap cap W (hQ.below hb) (by omega) (hR.below hb) (HIn.out h8 W hb) (by omega) HCap.out)
  have V5 := hide (fun W (hb : Below w.heap.size w W) => is_op h0 h1 h2 h3 _ (Op.look_known op qs ds) W (hZ.below hb))
  have HR := hide hR
  obtain ⟨hq10, hd3⟩ := hsm
  obtain ⟨nq, hnq⟩ : ∃ n, Hid (qs.length = n) := ⟨_, hide rfl⟩
  obtain ⟨nd, hnd⟩ : ∃ n, Hid (ds.length = n) := ⟨_, hide rfl⟩
  obtain ⟨L, hL⟩ : ∃ n, Hid (Op.look op qs ds = n) := ⟨_, hide rfl⟩
  obtain ⟨U, hU⟩ : ∃ n, Hid (Op.unit op qs ds = n) := ⟨_, hide rfl⟩
  obtain ⟨K, X, Y⟩ := L
  rw [hnq.out, hnd.out, hL.out] at V1 V2
  rw [hnq.out, hnd.out, hL.out, hU.out] at V3 V4
  rw [hL.out] at V5
  obtain ⟨ev, hev⟩ : ∃ v, Hid (Elm.err ah am ar ak K = v) := ⟨_, hide rfl⟩
  unfold OpE at V1
  unfold OpR at V2
  unfold OpU at V3
  unfold OpV at V4
  dsimp only at V1 V2 V3 V4 V5
  rw [hev.out] at V1 V3 V5
  rw [hnq.out] at hq10 ⊢
  rw [hnd.out] at hd3 ⊢
  have hq2 : (nq : Int) ≤ 10 := by omega
  have hd2 : (nd : Int) ≤ 3 := by omega
  clear hQ hR hI hZ h0 h1 h2 h3 hE hKz hq10 hd3 hL hU hev HIn HCap hnq
  go_enter Tryd.func4, Tryd.ntmps4
  go_wp2_with fail
  refine HF.out.mono ?_
  rintro e w1 ⟨rfl, hb⟩
  have HB0 := hide hb
  clear hb HF
  go_wp2_with fail
  go_loopw [8] (fun k wr => ∃ i : Nat, i ≤ nd ∧ k = .int .i64 i ∧ Hid (Below w.heap.size w wr) ∧ Hid (∀ (j : Nat) x, j < i → ds[j]? = some x → x.zs.length ≤ 8)) (fun k _ => nd - (intOf k).toNat)
  case atStart => exact ⟨0, by omega, rfl, HB0, hide (fun j x hj => by omega)⟩
  case round =>
    clear HB0
    obtain ⟨i, hi, rfl, HB, HK⟩ := hrel
    by_cases hlt : i < nd
    · obtain ⟨ad, d, hBad, had, hd, c0, c1⟩ := row_dsc (HR.out.below HB.out) i (by rw [hnd.out]; exact hlt)
      subst hBad
      have HV := hide (V.out i d hd.out wr)
      clear had
      by_cases h8 : d.zs.length ≤ 8
      · rw [decide_eq_true h8] at HV
        have H8 := hide h8
        clear h8
        go_wp2_with fail
        clear c0 c1
        refine HV.out.mono ?_
        rintro e w2 ⟨rfl, hb⟩
        have HB2 := hide (HB.out.trans (hb.mono HB.out.size))
        clear HV HB hb
        go_wp2_with fail
        go_roundw
        case rel =>
          refine ⟨i + 1, by omega, by go_num, HB2, hide (fun j x hj hx => ?_)⟩
          rcases Nat.lt_or_ge j i with h | h
          · exact HK.out j x h hx
          · obtain rfl : j = i := by omega
            rw [hd.out] at hx
            obtain rfl := Option.some.inj hx
            exact H8.out
        case measure => simp [intOf]; omega
      · rw [decide_eq_false h8] at HV
        clear h8
        go_wp2_with fail
        clear c0 c1
        refine HV.out.mono ?_
        rintro e w2 ⟨rfl, hb⟩
        have HB2 := hide (HB.out.trans (hb.mono HB.out.size))
        clear HV HB hb
        go_wp2_with fail
        go_ret
        exact ⟨rfl, HB2.out⟩
    · obtain rfl : i = nd := by omega
      have h8 : ∀ d ∈ ds, d.zs.length ≤ 8 := fun d hd => by
        obtain ⟨j, hj⟩ := List.mem_iff_getElem?.1 hd
        exact HK.out j d (by have := (List.getElem?_eq_some_iff.1 hj).1; rw [hnd.out] at this; exact this) hj
      have HV1 := hide (V1.out h8 wr HB.out)
      have HV2 := hide (V2.out h8)
      have HV3 := hide (V3.out h8)
      have HV4 := hide (V4.out h8)
      clear h8 V V1 V2 V3 V4 HK hlt hi HR
      go_wp2_with fail
      refine HV1.out.mono ?_
      rintro e w2 ⟨⟨⟨Q, zs, c, u⟩, rfl, hdi, hdz, hdu⟩, hb⟩
      have hB2 := HB.out.trans (hb.mono HB.out.size)
      have hbA := (Below.refl _ w2).alloc (Nat.le_refl _) (.cells (dcells Q zs.length c u) 24)
      have HB3 := hide (hB2.alloc hB2.size (.cells (dcells Q zs.length c u) 24))
      have HQ3 : Hid (Ri (w2.alloc (.cells (dcells Q zs.length c u) 24)) Q zs) := hide (hdi.shp.below hbA)
      have HL3 : Hid (zs.length ≤ 1000000) := hide hdi.ls
      have HD3 := hide (Has.new w2 24 [.slice Q zs.length c, .bool u])
      have HZ1 : Hid (zs = X) := hide hdz
      have HU1 : Hid (u = Y) := hide hdu
      clear hdi hdz hdu hB2 hbA hb HB HV1
      go_wp2_with fail
      generalize (w2.alloc (.cells (dcells Q zs.length c u) 24)) = w3 at *
      refine (HV2.out w3 HB3.out).mono ?_
      rintro e w4 ⟨⟨⟨Q2, zs2, c2, u2⟩, rfl, hdi, hdz, hdu⟩, hb⟩
      have hB4 := HB3.out.trans (hb.mono HB3.out.size)
      have hQ4 := HQ3.out.below hb
      have hD4 := HD3.out.below hb HD3.out.lt
      have hbA := (Below.refl _ w4).alloc (Nat.le_refl _) (.cells (dcells Q2 zs2.length c2 u2) 24)
      have HB5 := hide (hB4.alloc hB4.size (.cells (dcells Q2 zs2.length c2 u2) 24))
      have HQ5 := hide (hQ4.below hbA)
      have HP5 : Hid (Ri (w4.alloc (.cells (dcells Q2 zs2.length c2 u2) 24)) Q2 zs2) := hide (hdi.shp.below hbA)
      have HL5 : Hid (zs2.length ≤ 1000000) := hide hdi.ls
      have HD5 := hide (hD4.alloc (.cells (dcells Q2 zs2.length c2 u2) 24))
      have HE5 := hide (Has.new w4 24 [.slice Q2 zs2.length c2, .bool u2])
      have HZ2 : Hid (zs2 = X) := hide hdz
      have HU2 : Hid (u2 = Y) := hide hdu
      clear hdi hdz hdu hB4 hQ4 hD4 hbA hb HB3 HQ3 HD3 HV2
      go_wp2_with fail
      generalize (w4.alloc (.cells (dcells Q2 zs2.length c2 u2) 24)) = w5 at *
      refine (HV3.out w5 HB5.out).mono ?_
      rintro e w6 ⟨rfl, hb⟩
      replace HQ5 := hide (HQ5.out.below hb)
      replace HP5 := hide (HP5.out.below hb)
      replace HD5 := hide (HD5.out.below hb HD5.out.lt)
      replace HE5 := hide (HE5.out.below hb HE5.out.lt)
      replace HB5 := hide (HB5.out.trans (hb.mono HB5.out.size))
      clear hb HV3
      go_wp2_with fail
      refine (HV4.out w6 HB5.out).mono ?_
      rintro e w7 ⟨rfl, hb⟩
      replace HQ5 := hide (HQ5.out.below hb)
      replace HP5 := hide (HP5.out.below hb)
      replace HD5 := hide (HD5.out.below hb HD5.out.lt)
      replace HE5 := hide (HE5.out.below hb HE5.out.lt)
      replace HB5 := hide (HB5.out.trans (hb.mono HB5.out.size))
      clear hb HV4
      go_wp2_with fail
      refine (V5.out w7 HB5.out).mono ?_
      rintro e w8 ⟨rfl, hb⟩
      have hD6 := HD5.out.below hb HD5.out.lt
      have hE6 := HE5.out.below hb HE5.out.lt
      have d0 := hD6.cell 0
      have d1 := hD6.cell 1
      have e0 := hE6.cell 0
      have e1 := hE6.cell 1
      have hs1 : (decide (zs = zs2) && (u == u2)) = true := by rw [HZ1.out, HZ2.out, HU1.out, HU2.out]; simp
      have HS := hide (samedesc_c zs zs2 Q Q2 c c2 u u2 w8 (HQ5.out.below hb) (HP5.out.below hb) HL3.out HL5.out)
      rw [hs1] at HS
      replace HB5 := hide (HB5.out.trans (hb.mono HB5.out.size))
      clear hs1 hD6 hE6 hb HQ5 HP5 HD5 HE5 HZ1 HZ2 HU1 HU2 HL3 HL5
      go_wp2_with fail
      refine HS.out.mono ?_
      rintro e w9 ⟨rfl, hb⟩
      replace HB5 := hide (HB5.out.trans (hb.mono HB5.out.size))
      have hu1 : (U == U) = true := by simp
      clear hb HS d0 d1 e0 e1
      go_wp2_with fail
      refine (V5.out w9 HB5.out).mono ?_
      rintro e w10 ⟨rfl, hb⟩
      replace HB5 := hide (HB5.out.trans (hb.mono HB5.out.size))
      clear hb V5
      go_wp2_with fail
      go_ret
      exact ⟨rfl, HB5.out⟩
end Go.Proofs.YtgdcfjmpjhlndaaDoor
