/-
  The law ElemResults, walked. By an AI agent. No person has read it.
-/
import Derived.Test.YtbnaaomkndbpoaaDoorElmFirst
import Derived.Test.YtbnaaomkndbpoaaDoorElmY
import Derived.Test.YtbnaaomkndbpoaaDoorErrD
import Derived.Test.YtbnaaomkndbpoaaDoorShpX
namespace Go.Proofs.YtbnaaomkndbpoaaDoor
open Go.RowKit

theorem E4.of {w : World} {es : List Addr} (h : Ez w es) : ∃ ah am ar ak, es[0]? = some ah ∧ es[1]? = some ar ∧ es[2]? = some ak ∧ es[3]? = some am ∧ E4 w ah am ar ak := by
  obtain ⟨ah, hh⟩ : ∃ a, es[0]? = some a := ⟨_, List.getElem?_eq_getElem (by rw [h.1]; decide)⟩
  obtain ⟨ar, hr⟩ : ∃ a, es[1]? = some a := ⟨_, List.getElem?_eq_getElem (by rw [h.1]; decide)⟩
  obtain ⟨ak, hk⟩ : ∃ a, es[2]? = some a := ⟨_, List.getElem?_eq_getElem (by rw [h.1]; decide)⟩
  obtain ⟨am, hm⟩ : ∃ a, es[3]? = some a := ⟨_, List.getElem?_eq_getElem (by rw [h.1]; decide)⟩
  exact ⟨ah, am, ar, ak, hh, hr, hk, hm, ⟨h.2.2 0 _ ah rfl hh, h.2.2 3 _ am rfl hm, h.2.2 1 _ ar rfl hr⟩, h.2.2 2 _ ak rfl hk⟩
theorem is_elm {es : List Addr} {ah am ar ak : Addr} (h0 : es[0]? = some ah) (h1 : es[1]? = some ar) (h2 : es[2]? = some ak) (h3 : es[3]? = some am) (op : Int) (qs : List Int) (ds : List Dsc) (w : World) (h : Ez w es) :
    Calls Tryd.prog 13 #[Elm.err ah am ar ak (Elm.code op qs ds), .int .i64 (Elm.code op qs ds : Nat)] w fun e w' => e = .returned (.bool true) ∧ Below w.heap.size w w' := by
  rcases Elm.code_cases op qs ds with hc | hc | hc | hc | hc <;> rw [hc]
  · exact is_nil 0 w
  · exact is_c es 0 ah h0 101 w h
  · exact is_c es 1 ar h1 102 w h
  · exact is_c es 2 ak h2 103 w h
  · exact is_c es 3 am h3 104 w h
set_option maxRecDepth 100000 in
set_option maxHeartbeats 8000000 in
theorem resultslaw_c (op : Int) (qs : List Int) (ds : List Dsc) (A B : Option Addr) (qcap cap : Nat) (es : List Addr) (w : World) (hQ : Ri w A qs) (hR : Row w B (ds.flatMap Dsc.vals)) (hI : ∀ d ∈ ds, Ri w d.P d.zs) (hZ : Ez w es) :
    Calls Tryd.prog 3 #[.int .i64 op, .slice A qs.length qcap, .slice B ds.length cap] w fun e w' => e = .returned (.bool true) ∧ Below w.heap.size w w' := by
  obtain ⟨ah, am, ar, ak, h0, h1, h2, h3, hE⟩ := E4.of hZ
  have HF := hide (first7_c ah am ar ak w hE)
  by_cases hsm : qs.length ≤ 10 ∧ ds.length ≤ 3
  case neg =>
    clear hQ hR hI hZ h0 h1 h2 h3 hE
    obtain ⟨nq, hnq⟩ : ∃ n, qs.length = n := ⟨_, rfl⟩
    obtain ⟨nd, hnd⟩ : ∃ n, ds.length = n := ⟨_, rfl⟩
    rw [hnq, hnd] at hsm
    rw [hnq, hnd]
    clear hnq hnd
    by_cases hq : nq ≤ 10
    · have hd : (3 : Int) < nd := by omega
      have hq2 : (nq : Int) ≤ 10 := by omega
      clear hsm hq
      go_enter Tryd.func3, Tryd.ntmps3
      go_wp2_with fail
      refine HF.out.mono ?_
      rintro e w1 ⟨rfl, hb⟩
      have HB := hide hb
      clear hb HF
      go_wp2_with fail
      go_ret
      exact ⟨rfl, HB.out⟩
    · have hq2 : (10 : Int) < nq := by omega
      clear hsm hq
      go_enter Tryd.func3, Tryd.ntmps3
      go_wp2_with fail
      refine HF.out.mono ?_
      rintro e w1 ⟨rfl, hb⟩
      have HB := hide hb
      clear hb HF
      go_wp2_with fail
      go_ret
      exact ⟨rfl, HB.out⟩
  case pos =>
  have V : Hid (∀ (i : Nat) (d : Dsc), ds[i]? = some d → ∀ W, Calls Tryd.prog 10 #[.agg (dcells d.P d.zs.length d.cap d.u)] W fun e w' => e = .returned (.bool (decide (d.zs.length ≤ 8))) ∧ Below W.heap.size W w') := hide fun i d _ W => worlddesc_c d.P d.zs.length d.cap d.u W
  have HIn : Hid ((∀ d ∈ ds, d.zs.length ≤ 8) → ∀ W, Below w.heap.size w W → ∀ d ∈ ds, d.In W) := hide fun h8 W hb d hd => ⟨(hI d hd).below hb, by have := h8 d hd; omega⟩
  have V1 : Hid ((∀ d ∈ ds, d.zs.length ≤ 8) → ∀ W, Below w.heap.size w W → Calls Tryd.prog 11 #[.int .i64 op, .slice A qs.length qcap, .slice B ds.length cap] W fun e w' =>
      (∃ Q c x, e = .returned (.tuple #[.agg (dcells Q (Elm.shape op qs ds).length c (Elm.kind op qs ds)), x]) ∧ x = Elm.err ah am ar ak (Elm.code op qs ds) ∧
        (Elm.code op qs ds = 0 → ∃ g rest, Q = some ⟨g, 0, none⟩ ∧ W.heap.size < g ∧ (Elm.shape op qs ds).length ≤ c ∧ c ≤ 9223372036854775807 ∧ Has w' g 3 (i64s (Elm.shape op qs ds) ++ rest))) ∧ Below W.heap.size W w') := hide fun h8 W hb =>
    result_c op qs ds A B qcap cap ah am ar ak W (hQ.below hb) (hR.below hb) (HIn.out h8 W hb) (by omega) (hE.below hb)
  have V2 : Hid ((∀ d ∈ ds, d.zs.length ≤ 8) → ∀ W, Below w.heap.size w W → Calls Tryd.prog 12 #[.int .i64 op, .slice A qs.length qcap, .slice B ds.length cap] W (Elm.Res W (Elm.shape op qs ds) (Elm.kind op qs ds) (Elm.code op qs ds))) := hide fun h8 W hb =>
    rresult_c op qs ds A B qcap cap W (hQ.below hb) (hR.below hb) (HIn.out h8 W hb) (by omega)
  have V3 := hide (fun W (hb : Below w.heap.size w W) => is_elm h0 h1 h2 h3 op qs ds W (hZ.below hb))
  have hshw : Hid ((∀ d ∈ ds, d.zs.length ≤ 8) → (∀ z ∈ Elm.shape op qs ds, (Lit.int .i64 z).wf = true) ∧ (Elm.shape op qs ds).length ≤ 1000000) := hide fun h8 => by
    unfold Elm.shape
    split
    · cases ds with
      | nil => exact ⟨by simp, by simp⟩
      | cons d l =>
        show (∀ z ∈ d.zs, (Lit.int .i64 z).wf = true) ∧ d.zs.length ≤ 1000000
        exact ⟨(hI d (by simp)).1, by have := h8 d (by simp); omega⟩
    · exact ⟨by simp, by simp⟩
  have HR := hide hR
  obtain ⟨hq10, hd3⟩ := hsm
  obtain ⟨nq, hnq⟩ : ∃ n, Hid (qs.length = n) := ⟨_, hide rfl⟩
  obtain ⟨nd, hnd⟩ : ∃ n, Hid (ds.length = n) := ⟨_, hide rfl⟩
  obtain ⟨K, hK⟩ : ∃ n, Hid (Elm.code op qs ds = n) := ⟨_, hide rfl⟩
  obtain ⟨X, hX⟩ : ∃ n, Hid (Elm.shape op qs ds = n) := ⟨_, hide rfl⟩
  obtain ⟨Y, hY⟩ : ∃ n, Hid (Elm.kind op qs ds = n) := ⟨_, hide rfl⟩
  rw [hnq.out, hnd.out, hK.out, hX.out, hY.out] at V1
  rw [hnq.out, hnd.out, hK.out, hX.out, hY.out] at V2
  rw [hK.out] at V3
  rw [hX.out] at hshw
  have hXK : Hid (K ≠ 0 → X = []) := hide fun h => by rw [← hX.out]; exact (Elm.bad_shape (op := op) (qs := qs) (ds := ds) (by rw [hK.out]; exact h)).1
  rw [hnq.out] at hq10 ⊢
  rw [hnd.out] at hd3 ⊢
  have hq2 : (nq : Int) ≤ 10 := by omega
  have hd2 : (nd : Int) ≤ 3 := by omega
  clear hQ hR hI hZ h0 h1 h2 h3 hE hq10 hd3 hK hX hY HIn hnq
  go_enter Tryd.func3, Tryd.ntmps3
  go_wp2_with fail
  refine HF.out.mono ?_
  rintro e w1 ⟨rfl, hb⟩
  have HB0 := hide hb
  clear hb HF
  go_wp2_with fail
  go_loopw [8] (fun k wr => ∃ i : Nat, i ≤ nd ∧ k = .int .i64 i ∧ Hid (Below w.heap.size w wr) ∧ Hid (∀ (j : Nat) x, j < i → ds[j]? = some x → x.zs.length ≤ 8)) (fun k _ => nd - (intOf k).toNat)
  case atStart => exact ⟨0, by omega, rfl, HB0, hide (fun j x hj => by omega)⟩
  case round =>
    clear HB0
    obtain ⟨i, hi, rfl, HB, HK⟩ := hrel
    by_cases hlt : i < nd
    · obtain ⟨ad, d, hBad, had, hd, c0, c1⟩ := row_dsc (HR.out.below HB.out) i (by rw [hnd.out]; exact hlt)
      subst hBad
      have HV := hide (V.out i d hd.out wr)
      clear had
      by_cases h8 : d.zs.length ≤ 8
      · rw [decide_eq_true h8] at HV
        have H8 := hide h8
        clear h8
        go_wp2_with fail
        clear c0 c1
        refine HV.out.mono ?_
        rintro e w2 ⟨rfl, hb⟩
        have HB2 := hide (HB.out.trans (hb.mono HB.out.size))
        clear HV HB hb
        go_wp2_with fail
        go_roundw
        case rel =>
          refine ⟨i + 1, by omega, by go_num, HB2, hide (fun j x hj hx => ?_)⟩
          rcases Nat.lt_or_ge j i with h | h
          · exact HK.out j x h hx
          · obtain rfl : j = i := by omega
            rw [hd.out] at hx
            obtain rfl := Option.some.inj hx
            exact H8.out
        case measure => simp [intOf]; omega
      · rw [decide_eq_false h8] at HV
        clear h8
        go_wp2_with fail
        clear c0 c1
        refine HV.out.mono ?_
        rintro e w2 ⟨rfl, hb⟩
        have HB2 := hide (HB.out.trans (hb.mono HB.out.size))
        clear HV HB hb
        go_wp2_with fail
        go_ret
        exact ⟨rfl, HB2.out⟩
    · obtain rfl : i = nd := by omega
      have h8 : ∀ d ∈ ds, d.zs.length ≤ 8 := fun d hd => by
        obtain ⟨j, hj⟩ := List.mem_iff_getElem?.1 hd
        exact HK.out j d (by have := (List.getElem?_eq_some_iff.1 hj).1; rw [hnd.out] at this; exact this) hj
      have HV1 := hide (V1.out h8 wr HB.out)
      have HW := hide (hshw.out h8)
      have HV2 := hide (V2.out h8)
      clear h8 V V1 V2 HK hlt hi hshw HR
      go_wp2_with fail
      refine HV1.out.mono ?_
      rintro e w2 ⟨⟨Q, c, x, rfl, hx, hg⟩, hb⟩
      have hB2 := HB.out.trans (hb.mono HB.out.size)
      have hRQ : Ri w2 Q X := by
        by_cases hk : K = 0
        · obtain ⟨g, rest, rfl, -, -, -, hG⟩ := hg hk
          exact hG.ri_app HW.out.1
        · rw [hXK.out hk]
          exact Ri.nil _ _
      have hbA := (Below.refl _ w2).alloc (Nat.le_refl _) (.cells (dcells Q X.length c Y) 27)
      have HB3 := hide (hB2.alloc hB2.size (.cells (dcells Q X.length c Y) 27))
      have HQ3 := hide (hRQ.below hbA)
      have HD3 := hide (Has.new w2 27 [.slice Q X.length c, .bool Y])
      have HX2 := hide hx
      clear hx hg hB2 hRQ hbA hb HB HV1
      go_wp2_with fail
      generalize (w2.alloc (.cells (dcells Q X.length c Y) 27)) = w3 at *
      refine (HV2.out w3 HB3.out).mono ?_
      rintro e w4 ⟨⟨Q2, c2, rfl, hg2⟩, hb⟩
      have hB4 := HB3.out.trans (hb.mono HB3.out.size)
      have hRQ2 : Ri w4 Q2 X := by
        by_cases hk : K = 0
        · obtain ⟨g, rest, rfl, -, hG⟩ := hg2 hk
          exact hG.ri_app HW.out.1
        · rw [hXK.out hk]
          exact Ri.nil _ _
      have hQ4 := HQ3.out.below hb
      have hD4 := HD3.out.below hb HD3.out.lt
      have hbA := (Below.refl _ w4).alloc (Nat.le_refl _) (.cells (dcells Q2 X.length c2 Y) 27)
      have HB5 := hide (hB4.alloc hB4.size (.cells (dcells Q2 X.length c2 Y) 27))
      have HQ5 := hide (hQ4.below hbA)
      have HP5 := hide (hRQ2.below hbA)
      have HD5 := hide (hD4.alloc (.cells (dcells Q2 X.length c2 Y) 27))
      have HE5 := hide (Has.new w4 27 [.slice Q2 X.length c2, .bool Y])
      clear hg2 hB4 hRQ2 hQ4 hD4 hbA hb HB3 HQ3 HD3 HV2
      go_wp2_with fail
      generalize (w4.alloc (.cells (dcells Q2 X.length c2 Y) 27)) = w5 at *
      rw [HX2.out]
      refine (V3.out w5 HB5.out).mono ?_
      rintro e w6 ⟨rfl, hb⟩
      have hD6 := HD5.out.below hb HD5.out.lt
      have hE6 := HE5.out.below hb HE5.out.lt
      have d0 := hD6.cell 0
      have d1 := hD6.cell 1
      have e0 := hE6.cell 0
      have e1 := hE6.cell 1
      have HS := hide (samedesc_c X X Q Q2 c c2 Y Y w6 (HQ5.out.below hb) (HP5.out.below hb) HW.out.2 HW.out.2)
      have hs1 : (decide (X = X) && (Y == Y)) = true := by simp
      rw [hs1] at HS
      have HB6 := hide (HB5.out.trans (hb.mono HB5.out.size))
      clear hs1 hD6 hE6 hb HB5 HQ5 HP5 HD5 HE5 V3
      go_wp2_with fail
      refine HS.out.mono ?_
      rintro e w7 ⟨rfl, hb⟩
      have HB7 := hide (HB6.out.trans (hb.mono HB6.out.size))
      clear hb HS HB6 d0 d1 e0 e1
      go_wp2_with fail
      go_ret
      exact ⟨rfl, HB7.out⟩
end Go.Proofs.YtbnaaomkndbpoaaDoor
