/-
  Lists of tensors: are they few and small, a copy of them, are two the same; is an operation light. By an AI agent. No person has read it.
-/
import Derived.Test.YtgdcfjmpjhlndaaGreatDoorZOElmN
import Derived.Test.YtgdcfjmpjhlndaaGreatDoorZOElmOpen
import Derived.Test.YtgdcfjmpjhlndaaGreatDoorZOOpI
namespace Go.Proofs.YtgdcfjmpjhlndaaGreatDoor
open Go.RowKit
def Ten.key (t : Ten) : List Int × Bool × List Int := (t.zs, t.u, t.ds)
def Ten.small (t : Ten) : Prop := t.zs.length ≤ 8 ∧ t.ds.length ≤ 300
set_option maxRecDepth 100000 in
set_option maxHeartbeats 4000000 in
theorem worldtensors_c (ts : List Ten) (B : Option Addr) (cap : Nat) (w : World) (hR : Row w B (ts.flatMap Ten.vals)) :
  Calls Tryz.prog 56 #[.slice B ts.length cap, .int .i64 3, .int .i64 300] w fun e w' => (∃ b : Bool, e = .returned (.bool b) ∧ (b = true → ts.length ≤ 3 ∧ ∀ t ∈ ts, t.small)) ∧ Below w.heap.size w w' := by
 have V : Hid (∀ (t : Ten) W, Calls Tryz.prog 6 #[.agg (tcells t.P t.zs.length t.cap t.u t.D t.ds.length t.dcap), .int .i64 300] W fun e w' => e = .returned (.bool (decide (t.zs.length ≤ 8) && decide (t.ds.length ≤ 300))) ∧ Below W.heap.size W w') := hide fun t W => worldtensor_c t.P t.D t.zs.length t.cap t.ds.length t.dcap t.u W
 have HR := hide hR
 obtain ⟨n, hn⟩ : ∃ n, Hid (ts.length = n) := ⟨_, hide rfl⟩
 rw [hn.out]
 clear hR
 by_cases hbig : n ≤ 3
 case neg =>
  have hb2 : (3 : Int) < n := by omega
  clear hbig
  go_enter Tryz.func56, Tryz.ntmps56
  go_wp2_with fail
  go_ret
  exact ⟨⟨false, rfl, fun h => by cases h⟩, Below.refl _ _⟩
 case pos =>
 have hb3 : (n : Int) ≤ 3 := by omega
 have HN3 := hide hbig
 clear hbig
 go_enter Tryz.func56, Tryz.ntmps56
 go_wp2_with fail
 go_loopw [7] (fun k wr => ∃ i : Nat, i ≤ n ∧ k = .int .i64 i ∧ Hid (Below w.heap.size w wr) ∧ Hid (∀ (j : Nat) x, j < i → ts[j]? = some x → x.small)) (fun k _ => n - (intOf k).toNat)
 case atStart => exact ⟨0, by omega, rfl, hide (Below.refl _ _), hide (fun j x hj => by omega)⟩
 case round =>
  obtain ⟨i, hi, rfl, HB, HK⟩ := hrel
  by_cases hlt : i < n
  ·obtain ⟨ad, t, rfl, had, ht, c0, c1, c2⟩ := row_ten (HR.out.below HB.out) i (by rw [hn.out]; exact hlt)
   have HV := hide (V.out t wr)
   obtain ⟨bb, hbb⟩ : ∃ b, Hid ((decide (t.zs.length ≤ 8) && decide (t.ds.length ≤ 300)) = b) := ⟨_, hide rfl⟩
   rw [hbb.out] at HV
   clear V
   go_wp2_with fail
   clear c0 c1 c2 had
   refine HV.out.mono ?_
   rintro e w2 ⟨rfl, hb⟩
   have HB2 := hide (HB.out.trans (hb.mono HB.out.size))
   clear HV HB hb
   cases bb
   ·go_wp2_with fail
    go_ret
    exact ⟨⟨false, rfl, fun h => by cases h⟩, HB2.out⟩
   ·go_wp2_with fail
    go_roundw
    case rel =>
     refine ⟨i + 1, by omega, by go_num, HB2, hide (fun j x hj hx => ?_)⟩
     rcases Nat.lt_or_ge j i with h | h
     ·exact HK.out j x h hx
     ·obtain rfl : j = i := by omega
      rw [ht.out] at hx
      obtain rfl := Option.some.inj hx
      have h := hbb.out
      rw [Bool.and_eq_true, decide_eq_true_eq, decide_eq_true_eq] at h
      exact h
    case measure => simp [intOf]; omega
  ·obtain rfl : i = n := by omega
   have h8 : ∀ t ∈ ts, t.small := fun d hd => by
    obtain ⟨j, hj⟩ := List.mem_iff_getElem?.1 hd
    exact HK.out j d (by have := (List.getElem?_eq_some_iff.1 hj).1; rw [hn.out] at this; exact this) hj
   have H8 := hide h8
   clear h8 V HK HR
   go_wp2_with fail
   go_ret
   exact ⟨⟨true, rfl, fun _ => ⟨HN3.out, H8.out⟩⟩, HB.out⟩
def Ten.Own (base : Nat) (w : World) (t : Ten) : Prop := ∃ g rest gd rd, t.P = some ⟨g, 0, none⟩ ∧ t.D = some ⟨gd, 0, none⟩ ∧ base ≤ g ∧ base ≤ gd ∧ Has w g 3 (i64s t.zs ++ rest) ∧ Has w gd 3 (i64s t.ds ++ rd)
theorem Ten.Own.below {base : Nat} {w w' : World} {t : Ten} (h : t.Own base w) (hb : Below w.heap.size w w') : t.Own base w' := by
 obtain ⟨g, rest, gd, rd, h1, h2, h3, h4, h5, h6⟩ := h
 exact ⟨g, rest, gd, rd, h1, h2, h3, h4, h5.below hb h5.lt, h6.below hb h6.lt⟩
theorem type_apart {w : World} {base n s g : Nat} {e t : TypeId} {v : Value} {xs cs : List Value} (h : w.ownsRow base e s v n xs) (hc : Has w g t cs) (ht : t ≠ e) : some g ≠ v.ownBlock := by
 intro hk
 rcases h.2 with ⟨rfl, -⟩ | ⟨k, c, cur, rfl, -, h3, -⟩
 ·cases hk
 ·obtain rfl : g = k := Option.some.inj hk
  unfold Has at hc
  rw [hc] at h3
  injection h3 with h3
  injection h3 with _ h4
  exact ht h4
theorem Ten.Own.grown {base b2 n s : Nat} {w w' : World} {t : Ten} {v : Value} {e : TypeId} {xs : List Value} (h : t.Own base w) (ho : w.ownsRow b2 e s v n xs) (he : 3 ≠ e) (hg : w.grownBy w' v.ownBlock) : t.Own base w' := by
 obtain ⟨g, rest, gd, rd, h1, h2, h3, h4, h5, h6⟩ := h
 exact ⟨g, rest, gd, rd, h1, h2, h3, h4, h5.grown hg (type_apart ho h5 he), h6.grown hg (type_apart ho h6 he)⟩
set_option maxRecDepth 100000 in
set_option maxHeartbeats 8000000 in
theorem light_c (op : Int) (qs : List Int) (ts : List Ten) (A B : Option Addr) (qcap cap : Nat) (w : World) (hQ : Ri w A qs) (hR : Row w B (ts.flatMap Ten.vals)) (hI : ∀ t ∈ ts, Ri w t.P t.zs ∧ Ri w t.D t.ds) (hC : ∀ t ∈ ts, t.zs.length ≤ t.cap) :
  Calls Tryz.prog 21 #[.int .i64 op, .slice A qs.length qcap, .slice B ts.length cap] w fun e w' => (∃ b : Bool, e = .returned (.bool b) ∧ (b = true → qs.length ≤ 10 ∧ ts.length ≤ 3 ∧ ∀ t ∈ ts, t.small)) ∧ Below w.heap.size w w' := by
 have V0 := hide (worldtensors_c ts B cap w hR)
 have HR := hide hR
 have HIn : Hid ((∀ t ∈ ts, t.small) → ∀ W, Below w.heap.size w W → ∀ d ∈ ts.map Ten.look, d.In W) := hide fun h8 W hb d hd => by
  obtain ⟨t, ht, rfl⟩ := List.mem_map.1 hd
  exact ⟨(hI t ht).1.below hb, by have := (h8 t ht).1; show t.zs.length ≤ 1000000; omega⟩
 have HCap : Hid (∀ d ∈ ts.map Ten.look, d.zs.length ≤ d.cap) := hide fun d hd => by
  obtain ⟨t, ht, rfl⟩ := List.mem_map.1 hd
  exact hC t ht
 have V1 := hide (fun (h8 : ∀ t ∈ ts, t.small) (hq : qs.length ≤ 10) (hn : ts.length ≤ 3) W (C : Option Addr) (c : Nat) (hb : Below w.heap.size w W) (hr : Row W C (ts.flatMap fun t => t.look.vals)) => rres_c op qs (ts.map Ten.look) A C qcap c W (hQ.below hb) (by omega) (by rw [Ten.flat_look]; exact hr) (HIn.out h8 W hb) (by rw [List.length_map]; omega) HCap.out)
 have V2 := hide (fun (h8 : ∀ t ∈ ts, t.small) (hq : qs.length ≤ 10) (hn : ts.length ≤ 3) W (C : Option Addr) (c : Nat) (hb : Below w.heap.size w W) (hr : Row W C (ts.flatMap fun t => t.look.vals)) => runit_c op qs (ts.map Ten.look) A C qcap c W (hQ.below hb) (by omega) (by rw [Ten.flat_look]; exact hr) (HIn.out h8 W hb) (by rw [List.length_map]; omega) HCap.out)
 rw [List.length_map] at V1 V2
 obtain ⟨i0, hi0, hz0, hz1, hz2⟩ := descinfo
 have HI0 := hide hi0
 have HZ0 := hide hz0
 have HZ1 := hide hz1
 have HZ2 := hide hz2
 have HU := hide uds
 clear hi0 hz0 hz1 hz2 hR hI hC hQ HIn HCap
 obtain ⟨nq, hnq⟩ : ∃ n, Hid (qs.length = n) := ⟨_, hide rfl⟩
 obtain ⟨n, hn⟩ : ∃ n, Hid (ts.length = n) := ⟨_, hide rfl⟩
 obtain ⟨L, hL⟩ : ∃ n, Hid (Op.look op qs (ts.map Ten.look) = n) := ⟨_, hide rfl⟩
 obtain ⟨U, hU⟩ : ∃ n, Hid (Op.unit op qs (ts.map Ten.look) = n) := ⟨_, hide rfl⟩
 obtain ⟨K, X, Y⟩ := L
 rw [hnq.out, hn.out, hL.out] at V1
 rw [hnq.out, hn.out, hL.out, hU.out] at V2
 rw [hn.out] at V0
 unfold OpR at V1
 unfold OpV at V2
 dsimp only at V1 V2
 rw [hnq.out, hn.out]
 by_cases hq : nq ≤ 10
 case neg =>
  have hq2 : (10 : Int) < nq := by omega
  clear hq V0 V1 V2 HR hL hU
  go_enter Tryz.func21, Tryz.ntmps21
  go_wp2_with fail
  go_ret
  exact ⟨⟨false, rfl, fun h => by cases h⟩, Below.refl _ _⟩
 case pos =>
 have hq2 : (nq : Int) ≤ 10 := by omega
 have HQ10 := hide hq
 clear hq
 go_enter Tryz.func21, Tryz.ntmps21
 go_wp2_with fail
 refine V0.out.mono ?_
 rintro e w1 ⟨⟨b, rfl, hs⟩, hb⟩
 have HB0 := hide hb
 clear V0 hb
 cases b
 case false =>
  go_wp2_with fail
  go_ret
  exact ⟨⟨false, rfl, fun h => by cases h⟩, HB0.out⟩
 case true =>
 have hs := hs rfl
 have HS := hide hs
 have hl3 : n ≤ 3 := hs.1
 have HV1 := hide (V1.out hs.2 HQ10.out hl3)
 have HV2 := hide (V2.out hs.2 HQ10.out hl3)
 clear hs V1 V2
 go_wp2_with fail
 go_loopw [7, 8] (fun v k wr => ∃ i : Nat, i ≤ n ∧ k = .int .i64 i ∧ Hid (wr.ownsRow w.heap.size 24 2 v i ((ts.take i).flatMap fun t => t.look.vals)) ∧ Hid (Below w.heap.size w wr)) (fun _ k _ => n - (intOf k).toNat)
 case atStart => exact ⟨0, by omega, rfl, hide ⟨rfl, .inl ⟨rfl, rfl⟩⟩, HB0⟩
 case round =>
  obtain ⟨i, hi, rfl, HO, HB⟩ := hrel
  clear HB0
  by_cases hlt : i < n
  ·obtain ⟨ad, t, rfl, had, ht, c0, c1, c2⟩ := row_ten (HR.out.below HB.out) i (by rw [hn.out]; exact hlt)
   have hown2 := hide (HO.out.alloc (.cells #[.slice t.P t.zs.length t.cap, .bool t.u] 24))
   have HB2 := hide (HB.out.alloc HB.out.size (.cells #[.slice t.P t.zs.length t.cap, .bool t.u] 24))
   have hsz := hide HB2.out.size
   have hnw := hide (new_cells wr 24 [.slice t.P t.zs.length t.cap, .bool t.u])
   have h1w : Hid (∀ x ∈ [Value.slice t.P t.zs.length t.cap, .bool t.u], x.oneCell' = true) := hide (by
    intro x hx
    simp at hx
    rcases hx with rfl | rfl
    all_goals rfl)
   clear HO HB
   go_wp2_with (at_builtin; refine wpList_append_own_at _ rfl _ _ 45 rfl w.heap.size 24 i0 (.agg #[.slice none 0 0, .bool false]) 2 32 HU.out HI0.out HZ0.out HZ1.out HZ2.out rfl (by decide) _ i _ rfl hown2.out ⟨wr.heap.size, 0, none⟩ 1 1 [.slice t.P t.zs.length t.cap, .bool t.u] rfl rfl hnw.out h1w.out (by unfold maxLen; omega) (by omega) hsz.out ?_)
   intro s0 W0 hown' hgrow hnil hat
   have HB := hide (elm_grown HB2.out hown2.out HB2.out.size hgrow)
   have HO := hide hown'
   clear HB2 hown2 hown' hgrow hnw h1w hsz hnil hat c0 c1 c2 had
   go_wp2_with fail
   go_roundw
   case rel =>
    refine ⟨i + 1, by omega, by go_num, hide ?_, HB⟩
    have h := HO.out
    rw [List.take_add_one, ht.out, Option.toList_some, List.flatMap_append, List.flatMap_cons, List.flatMap_nil, List.append_nil]
    exact h
   case measure => simp [intOf]; omega
  ·obtain rfl : i = n := by omega
   have hl2 : ts.take i = ts := List.take_of_length_le (by rw [hn.out]; exact Nat.le_refl _)
   rw [hl2] at HO
   obtain ⟨C, c, rfl, hrow⟩ := own_row HO.out
   have HV1a := hide (HV1.out wr C c HB.out hrow)
   have HV2a := hide (fun W (hb : Below wr.heap.size wr W) => HV2.out W C c (HB.out.trans (hb.mono HB.out.size)) (hrow.below hb))
   clear hl2 hrow HO HV1 HV2 HR hl3 hlt hi
   go_wp2_with fail
   refine HV1a.out.mono ?_
   rintro e w2 ⟨⟨⟨Q, zs, dc, u⟩, rfl, hdi, hdz, hdu⟩, hb⟩
   have hbA := (Below.refl _ w2).alloc (Nat.le_refl _) (.cells (dcells Q zs.length dc u) 24)
   have hbB := hb.trans (hbA.mono hb.size)
   have HB3 := hide (HB.out.trans (hbB.mono HB.out.size))
   have HV2b := hide (HV2a.out _ hbB)
   have HQ3 : Hid (Ri (w2.alloc (.cells (dcells Q zs.length dc u) 24)) Q zs) := hide (hdi.shp.below hbA)
   have HL3 : Hid (zs.length ≤ 1000000) := hide hdi.ls
   have HD3 := hide (Has.new w2 24 [.slice Q zs.length dc, .bool u])
   clear hdi hdz hdu hbA hbB hb HB HV1a HV2a
   go_wp2_with fail
   generalize (w2.alloc (.cells (dcells Q zs.length dc u) 24)) = w3 at *
   refine HV2b.out.mono ?_
   rintro e w4 ⟨rfl, hb⟩
   have HV3 := hide (refelems_c zs Q dc w4 (HQ3.out.below hb) (by have := HL3.out; omega))
   have HD4 := hide (HD3.out.below hb HD3.out.lt)
   have HB4 := hide (HB3.out.trans (hb.mono HB3.out.size))
   have d0 := HD4.out.cell 0
   clear HB3 HD3 HQ3 HV2b hb
   by_cases hk : K = 0
   ·subst hk
    go_wp2_with fail
    refine HV3.out.mono ?_
    rintro e w5 ⟨rfl, hb⟩
    have HB5 := hide (HB4.out.trans (hb.mono HB4.out.size))
    clear HV3 d0 hb
    go_wp2_with fail
    go_ret
    exact ⟨⟨_, rfl, fun _ => ⟨HQ10.out, HS.out⟩⟩, HB5.out⟩
   ·have hk2 : ((K : Int) != 0) = true := by simp; omega
    clear hk HV3
    go_wp2_with fail
    go_ret
    exact ⟨⟨_, rfl, fun _ => ⟨HQ10.out, HS.out⟩⟩, HB4.out⟩
end Go.Proofs.YtgdcfjmpjhlndaaGreatDoor
