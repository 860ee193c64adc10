/-
  soft.Result of an operation of package soft, walked. By an AI agent. No person has read it.
-/
import Derived.Test.YtcgjnjchkachdaaDoorSftG
namespace Go.Proofs.YtcgjnjchkachdaaDoor
open Go.RowKit

def Sf.lkcode : Option (List Int × Bool) → Nat
  | none => 101
  | some x => Shp.code x.1
/-- What is amiss with the ins: the error's number. -/
def Sf.code (op : Int) (ds : List Dsc) : Nat :=
  if ds.length ≠ Sf.nins op then 101 else if Shp.firstbad ds ≠ 0 then Shp.firstbad ds
  else Sf.lkcode (Sf.lk op ds)
def Sf.shape (op : Int) (ds : List Dsc) : List Int := if Sf.code op ds = 0 then ((Sf.lk op ds).map (·.1)).getD [] else []
def Sf.kind (op : Int) (ds : List Dsc) : Bool := if Sf.code op ds = 0 then ((Sf.lk op ds).map (·.2)).getD false else false
theorem Sf.bad {op : Int} {ds : List Dsc} (h : Sf.code op ds ≠ 0) : Sf.shape op ds = [] ∧ Sf.kind op ds = false := by
  unfold Sf.shape Sf.kind
  rw [if_neg h, if_neg h]
  exact ⟨rfl, rfl⟩
theorem Sf.code_known (op : Int) (ds : List Dsc) : Cel.known (Sf.code op ds) := by
  unfold Sf.code
  split
  · exact .inr (.inl rfl)
  split
  · exact Cel.known_bad _
  cases Sf.lk op ds with
  | none => exact .inr (.inl rfl)
  | some x => exact Cel.known_shp _
theorem Sf.nins_pos (op : Int) : 1 ≤ Sf.nins op ∧ Sf.nins op ≤ 2 := by unfold Sf.nins; split <;> omega
theorem slook_c (op : Int) (hop : Sf.isOp op) (ds : List Dsc) (B : Option Addr) (cap : Nat) (ah : Addr) (w : World) (hn : ds.length = Sf.nins op) (hR : Row w B (ds.flatMap Dsc.vals)) (hI : ∀ d ∈ ds, d.In w) (hE : ErrIs w 0 ah) :
    Calls Tryd.prog 131 #[.int .i64 op, .slice B (Sf.nins op) cap] w (Sf.LkE w ah (Sf.lk op ds)) := by
  have two : Sf.nins op = 2 → ∃ a b, ds = [a, b] := fun h => by
    rw [h] at hn
    match ds, hn with
    | [a, b], _ => exact ⟨a, b, rfl⟩
  have one : Sf.nins op = 1 → ∃ a, ds = [a] := fun h => by
    rw [h] at hn
    match ds, hn with
    | [a], _ => exact ⟨a, rfl⟩
  rcases hop with rfl | rfl | rfl | rfl
  · obtain ⟨a, b, rfl⟩ := two rfl
    exact slook_soft a b B cap ah w hR (hI a (by simp)) (hI b (by simp)) hE
  · obtain ⟨a, b, rfl⟩ := two rfl
    exact slook_gather a b B cap ah w hR (hI a (by simp)) (hI b (by simp)) hE
  · obtain ⟨a, rfl⟩ := one rfl
    exact slook_row 19 (.inl rfl) a B cap ah w hR (hI a (by simp)) hE
  · obtain ⟨a, rfl⟩ := one rfl
    exact slook_row 20 (.inr rfl) a B cap ah w hR (hI a (by simp)) hE
set_option maxRecDepth 100000 in
set_option maxHeartbeats 8000000 in
theorem sresult_c (op : Int) (hop : Sf.isOp op) (ds : List Dsc) (B : Option Addr) (cap : Nat) (ah am ar : Addr) (w : World) (hR : Row w B (ds.flatMap Dsc.vals)) (hI : ∀ d ∈ ds, d.In w) (hl : ds.length ≤ 1000000) (hE : E3 w ah am ar) :
    Calls Tryd.prog 106 #[.int .i64 op, .slice B ds.length cap] w (DscE w ah am ar (Sf.shape op ds) (Sf.kind op ds) (Sf.code op ds)) := by
  have HEh := hide hE.1
  obtain ⟨W0, hW0⟩ : ∃ W, W = w.alloc (.cells #[.slice none 0 0, .bool false] 24) := ⟨_, rfl⟩
  have HZ : Hid (Has W0 w.heap.size 24 [.slice none 0 0, .bool false]) := hide (by rw [hW0]; exact Has.new _ _ _)
  have HB : Hid (Below w.heap.size w W0) := hide (by rw [hW0]; exact (Below.refl _ _).alloc (Nat.le_refl _) _)
  have V0 := hide (fun W => scounts_c op hop W)
  have V1 : Hid (∀ (i : Nat) (d : Dsc), ds[i]? = some d → ∀ W, Below w.heap.size w W → Calls Tryd.prog 64 #[.agg (dcells d.P d.zs.length d.cap d.u)] W fun e w' => e = .returned (Shp.err am ar (Shp.code d.zs)) ∧ Below W.heap.size W w') := hide fun i d hd W hb => by
    have h := (hI d (List.mem_of_getElem? hd)).below hb
    exact valid_c d.zs d.P d.cap d.u am ar W h.shp (by have := h.ls; omega) (hE.2.below hb)
  have VL := hide (fun (hn : ds.length = Sf.nins op) W (hb : Below w.heap.size w W) => slook_c op hop ds B cap ah W hn (hR.below hb) (fun d hd => (hI d hd).below hb) (hE.1.below hb))
  have VD := hide (fun (d : Dsc) W (hd : d.In W) (hb : Below w.heap.size w W) => valid_c d.zs d.P d.cap d.u am ar W hd.shp (by have := hd.ls; omega) (hE.2.below hb))
  have hnp := Sf.nins_pos op
  have HC : Hid (Sf.code op ds = if ds.length ≠ Sf.nins op then 101 else if Shp.firstbad ds ≠ 0 then Shp.firstbad ds else Sf.lkcode (Sf.lk op ds)) := hide rfl
  have HBD := hide (fun h : Sf.code op ds ≠ 0 => Sf.bad h)
  have HGD : Hid (Sf.code op ds = 0 → Sf.shape op ds = ((Sf.lk op ds).map (·.1)).getD [] ∧ Sf.kind op ds = ((Sf.lk op ds).map (·.2)).getD false) := hide (fun h => by
    unfold Sf.shape Sf.kind
    rw [if_pos h, if_pos h]
    exact ⟨rfl, rfl⟩)
  have HR := hide hR
  have HW := hide hW0
  obtain ⟨ni, hni⟩ : ∃ n, Hid (Sf.nins op = n) := ⟨_, hide rfl⟩
  obtain ⟨nd, hnd⟩ : ∃ n, Hid (ds.length = n) := ⟨_, hide rfl⟩
  obtain ⟨lk, hlk⟩ : ∃ n, Hid (Sf.lk op ds = n) := ⟨_, hide rfl⟩
  obtain ⟨K, hK⟩ : ∃ n, Hid (Sf.code op ds = n) := ⟨_, hide rfl⟩
  obtain ⟨SH, hSH⟩ : ∃ n, Hid (Sf.shape op ds = n) := ⟨_, hide rfl⟩
  obtain ⟨KD, hKD⟩ : ∃ n, Hid (Sf.kind op ds = n) := ⟨_, hide rfl⟩
  rw [hni.out] at V0 VL hnp HC
  rw [hnd.out] at hl VL HC ⊢
  rw [hlk.out] at VL HC HGD
  rw [hK.out] at HC HBD HGD ⊢
  rw [hSH.out] at HBD HGD ⊢
  rw [hKD.out] at HBD HGD ⊢
  have hn0 : ((ni : Int) == 0) = false := by simp; omega
  have hnl : (nd : Int) ≤ 1000000 := by omega
  clear hE hR hI hW0 hop
  by_cases hlen : nd = ni
  case neg =>
    have hcd : K = 101 := by rw [HC.out, if_pos hlen]
    have hqj : ((nd : Int) != (ni : Int)) = true := by simp; omega
    have hb := HBD.out (by omega)
    have HCD := hide hcd
    have HSD := hide hb.1
    have HKD := hide hb.2
    clear hcd hb hlen hSH hKD hK
    go_enter Tryd.func106, Tryd.ntmps106
    go_wp2_with fail
    rw [← HW.out]
    clear HW
    refine (V0.out _).mono ?_
    rintro e wq ⟨rfl, hw⟩
    have hw := hw.symm
    subst hw
    clear V0
    obtain ⟨z0, z1, zf0, zf1, HZf, HFf⟩ := elm_twod HZ.out HB.out (Nat.le_refl _) (.slice none 0 0) (.bool false)
    have hs5 : W0.drew.cell? ⟨0, 0, none⟩ = some (errv ah) := (HEh.out.below HB.out).1
    have hglt : 0 < w.heap.size := HEh.out.2.1
    have hS9 := hide (HEh.out.below HFf.out).1
    go_wp2_with fail
    go_region_held3 (fun W => W.cell? ⟨0, 0, none⟩ = some (errv ah))
      (first | exact hs5 | assumption | exact hS9.out)
      (first | fail)
    go_wp2_with fail
    refine bodyPost_ret (results_desc rfl _ _ w.heap.size _ _ rfl HZf.out) rfl ?_
    rw [HCD.out, HSD.out, HKD.out]
    exact DscE.bad rfl HFf.out
  case pos =>
  subst hlen
  have HC1 : Hid (K = if Shp.firstbad ds ≠ 0 then Shp.firstbad ds else Sf.lkcode lk) := hide (by have h := HC.out; rw [if_neg (by omega)] at h; exact h)
  have hqj : ((nd : Int) != (nd : Int)) = false := by simp
  clear HC
  go_enter Tryd.func106, Tryd.ntmps106
  go_wp2_with fail
  rw [← HW.out]
  clear HW
  refine (V0.out _).mono ?_
  rintro e wq ⟨rfl, hw⟩
  have hw := hw.symm
  subst hw
  clear V0
  go_wp2_with fail
  go_loopw [27] (fun k wr => ∃ i : Nat, i ≤ nd ∧ k = .int .i64 i ∧ Hid (Has wr w.heap.size 24 [.slice none 0 0, .bool false]) ∧ Hid (Below w.heap.size w wr) ∧ Hid (∀ (j : Nat) x, j < i → ds[j]? = some x → Shp.code x.zs = 0)) (fun k _ => nd - (intOf k).toNat)
  case atStart => exact ⟨0, by omega, rfl, HZ, HB, hide (fun j x hj => by omega)⟩
  case round =>
    clear HZ HB
    obtain ⟨i, hi, rfl, HZ, HB, HF⟩ := hrel
    by_cases hlt : i < nd
    · obtain ⟨ad, d, hBad, had, hd, c0, c1⟩ := row_dsc (HR.out.below HB.out) i (by rw [hnd.out]; exact hlt)
      subst hBad
      have HBx := hide (HB.out.alloc HB.out.size (.cells d.vals.toArray 24))
      have HZx := hide (HZ.out.alloc (.cells d.vals.toArray 24))
      have HV := hide (V1.out i d hd.out _ HBx.out)
      have hcs := Shp.code_is d.zs
      clear HZ HB
      go_wp2_with fail
      clear c0 c1 had
      refine HV.out.mono ?_
      rintro e w1 ⟨rfl, hb⟩
      have HB := hide (HBx.out.trans (hb.mono HBx.out.size))
      have HZ := hide (HZx.out.below hb HZx.out.lt)
      clear HV HBx HZx hb
      by_cases hf : Shp.code d.zs = 0
      · rw [hf, show Shp.err am ar 0 = .nilIface from rfl]
        have HFt := hide hf
        clear hcs hf
        go_wp2_with fail
        go_roundw
        case rel =>
          refine ⟨i + 1, by omega, by go_num, HZ, HB, hide (fun j x hj hx => ?_)⟩
          rcases Nat.lt_or_ge j i with h | h
          · exact HF.out j x h hx
          · obtain rfl : j = i := by omega
            rw [hd.out] at hx
            obtain rfl := Option.some.inj hx
            exact HFt.out
        case measure => simp [intOf]; omega
      · have hE := Shp.err_v (am := am) (ar := ar) hcs hf
        have hR2 : K = Shp.code d.zs := by
          have h := Shp.first_at ds i d hd.out HF.out hf
          rw [HC1.out, h, if_pos hf]
        have hb := HBD.out (by rw [hR2]; exact hf)
        have HSD := hide hb.1
        have HKD := hide hb.2
        have HCD := hide hR2
        have r1 := run_neqerr hE
        have r2 := run_neqguard hE
        have hx : Tens.err ah am ar (Shp.code d.zs) = Shp.err am ar (Shp.code d.zs) := by
          unfold Tens.err
          rw [if_neg (by omega)]
        obtain ⟨ev, hev⟩ : ∃ ev, Hid (Shp.err am ar (Shp.code d.zs) = ev) := ⟨_, hide rfl⟩
        rw [hev.out] at r1 r2 hx ⊢
        have HX := hide hx
        obtain ⟨z0, z1, zf0, zf1, HZf, HFf⟩ := elm_two HZ.out HB.out (Nat.le_refl _) (.slice none 0 0) (.bool false)
        clear hcs hf hE hR2 HZ HB V1 hx hb
        go_wp2_with fail
        refine bodyPost_ret (results_desc rfl _ _ w.heap.size _ _ rfl HZf.out) rfl ?_
        rw [HCD.out, HSD.out, HKD.out]
        exact DscE.bad (by rw [HX.out]; rfl) HFf.out
    · obtain rfl : i = nd := by omega
      have hfb := Shp.first_none ds fun j x hx => HF.out j x (by have := (List.getElem?_eq_some_iff.1 hx).1; rw [hnd.out] at this; exact this) hx
      have hc0 := HC1.out
      rw [hfb, if_neg (by simp)] at hc0
      have HC2 := hide hc0
      clear HF HC1 hfb hlt hi V1 hc0
      have HL := hide (VL.out (by first | trivial | rfl) wr HB.out)
      have hzl : w.heap.size < wr.heap.size := HZ.out.lt
      clear VL
      go_wp2_with fail
      refine HL.out.mono ?_
      rintro e w1 ⟨hL, hb⟩
      clear HL
      cases lk with
      | none =>
        have hL : e = .returned (.tuple #[.agg (dcells none 0 0 false), errv ah]) := hL
        subst hL
        have hcd : K = 101 := HC2.out
        have hbd := HBD.out (by omega)
        have HCD := hide hcd
        have HSD := hide hbd.1
        have HKD := hide hbd.2
        have HZ1 := hide ((HZ.out.below hb HZ.out.lt).alloc (.cells #[.slice none 0 0, .bool false] 24))
        have hB1 := HB.out.trans (hb.mono HB.out.size)
        have HB1 := hide (hB1.alloc hB1.size (.cells #[.slice none 0 0, .bool false] 24))
        have hz := HZ.out.below hb HZ.out.lt
        have hz1 := hz.lt
        have y0 := hz.cell 0
        have y1 := hz.cell 1
        have yf0 := hz.frozen 0
        have yf1 := hz.frozen 1
        have hE : ErrV (errv ah) := .inl ⟨ah, rfl⟩
        have r1 := run_neqerr hE
        have r2 := run_neqguard hE
        obtain ⟨z0, z1, zf0, zf1, HZf, HFf⟩ := elm_two hz hB1 (Nat.le_refl _) (.slice none 0 0) (.bool false)
        have HZq := hide (HZf.out.alloc (.cells #[.slice none 0 0, .bool false] 24))
        have HFq := hide (HFf.out.alloc HFf.out.size (.cells #[.slice none 0 0, .bool false] 24))
        clear hcd hbd hb hB1 hz hE
        go_wp2_with fail
        refine bodyPost_ret (results_desc rfl _ _ w.heap.size _ _ rfl HZq.out) rfl ?_
        rw [HCD.out, HSD.out, HKD.out]
        exact DscE.bad rfl HFq.out
      | some x =>
        obtain ⟨zs, u⟩ := x
        obtain ⟨d, rfl, hdi, hdf, hdz, hdu⟩ := hL
        have hc2 : K = Shp.code zs := HC2.out
        have HK2 := hide hc2
        have hz := HZ.out.below hb HZ.out.lt
        have hB1 := HB.out.trans (hb.mono HB.out.size)
        obtain ⟨W2, hW2⟩ : ∃ W, W = w1.alloc (.cells #[.slice d.P d.zs.length d.cap, .bool d.u] 24) := ⟨_, rfl⟩
        have hbA : Below w1.heap.size w1 W2 := by rw [hW2]; exact (Below.refl _ _).alloc (Nat.le_refl _) _
        have HX2 : Hid (Has W2 w1.heap.size 24 [.slice d.P d.zs.length d.cap, .bool d.u]) := hide (by rw [hW2]; exact Has.new _ _ _)
        have HZ2 := hide (hz.below hbA hz.lt)
        have HB2 := hide (hB1.trans (hbA.mono hB1.size))
        have HDI := hide (hdi.below hbA)
        have HDF := hide hdf
        have HDZ := hide hdz
        have HDU := hide hdu
        have HVD := hide (VD.out d W2 HDI.out HB2.out)
        have hcs := Shp.code_is zs
        rw [hdz] at HVD
        have hws : w1.heap.size < W2.heap.size := by rw [hW2]; simp
        have HW2 := hide hW2
        clear hW2 hbA hdi hdf hdz hdu hz hB1 hb HC2 hc2
        go_wp2_with fail
        rw [← HW2.out]
        clear HW2
        rw [← HDZ.out] at HVD
        refine HVD.out.mono ?_
        rintro e w3 ⟨rfl, hb⟩
        rw [HDZ.out]
        replace HZ2 := hide (HZ2.out.below hb HZ2.out.lt)
        replace HX2 := hide (HX2.out.below hb HX2.out.lt)
        replace HB2 := hide (HB2.out.trans (hb.mono HB2.out.size))
        replace HDI := hide (HDI.out.below hb)
        have hzl3 : w.heap.size < w3.heap.size := HZ2.out.lt
        clear hb HVD
        obtain ⟨kz, hkz⟩ : ∃ n, Hid (Shp.code zs = n) := ⟨_, hide rfl⟩
        rw [hkz.out] at hcs HK2 ⊢
        by_cases hf : kz = 0
        · subst hf
          have hg := HGD.out HK2.out
          have HSD : Hid (SH = zs) := hide hg.1
          have HKD : Hid (KD = u) := hide hg.2
          have x0 := HX2.out.cell 0
          have x1 := HX2.out.cell 1
          obtain ⟨z0, z1, zf0, zf1, HZf, HFf⟩ := elm_two HZ2.out HB2.out (Nat.le_refl _) (.slice d.P d.zs.length d.cap) (.bool d.u)
          have HDn := hide (HDI.out.far2 (b := w.heap.size) (n := wr.heap.size) HDF.out (by omega) (.slice d.P d.zs.length d.cap) (.bool d.u))
          have hs1 : Shp.err am ar 0 = .nilIface := rfl
          rw [hs1]
          clear hcs hg hs1
          go_wp2_with fail
          refine bodyPost_ret (results_desc rfl _ _ w.heap.size _ _ rfl HZf.out) rfl ?_
          rw [HK2.out, HSD.out, HKD.out]
          exact ⟨⟨d, rfl, HDn.out, fun ad h => by have h1 := HDF.out ad h; omega, HDZ.out, HDU.out⟩, HFf.out⟩
        · have hE := Shp.err_v (am := am) (ar := ar) hcs hf
          have hbd := HBD.out (by rw [HK2.out]; exact hf)
          have HSD := hide hbd.1
          have HKD := hide hbd.2
          have r1 := run_neqerr hE
          have r2 := run_neqguard hE
          have hx : Tens.err ah am ar kz = Shp.err am ar kz := by
            unfold Tens.err
            rw [if_neg (by omega)]
          obtain ⟨ev, hev⟩ : ∃ ev, Hid (Shp.err am ar kz = ev) := ⟨_, hide rfl⟩
          rw [hev.out] at r1 r2 hx ⊢
          have HX := hide hx
          obtain ⟨z0, z1, zf0, zf1, HZf, HFf⟩ := elm_two HZ2.out HB2.out (Nat.le_refl _) (.slice none 0 0) (.bool false)
          clear hcs hf hE hx hbd
          go_wp2_with fail
          refine bodyPost_ret (results_desc rfl _ _ w.heap.size _ _ rfl HZf.out) rfl ?_
          rw [HK2.out, HSD.out, HKD.out]
          exact DscE.bad (by rw [HX.out]; rfl) HFf.out
end Go.Proofs.YtcgjnjchkachdaaDoor
