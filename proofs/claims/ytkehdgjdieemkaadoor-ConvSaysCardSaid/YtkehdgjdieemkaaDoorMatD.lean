/-
  mat.look, Mul, Cell, Turn, walked. By an AI agent. No person has read it.
-/
import Derived.Test.YtkehdgjdieemkaaDoorMatC
import Derived.Test.YtkehdgjdieemkaaDoorMatA
import Derived.Test.YtkehdgjdieemkaaDoorMatB
namespace Go.Proofs.YtkehdgjdieemkaaDoor
open Go.RowKit

/-- What is held: four cells of a row. -/
abbrev LkS (ad : Addr) (x0 x1 x2 x3 : Value) (W : World) : Prop := W.cell? ad = some x0 ∧ W.cell? ⟨ad.block, ad.off + 1, none⟩ = some x1 ∧ W.cell? ⟨ad.block, ad.off + 2, none⟩ = some x2 ∧ W.cell? ⟨ad.block, ad.off + 3, none⟩ = some x3
theorem LkS.keep {ad : Addr} {x0 x1 x2 x3 : Value} {W W' : World} (h : LkS ad x0 x1 x2 x3 W) (hl : ad.block < W.heap.size) (hb : Below W.heap.size W W') : LkS ad x0 x1 x2 x3 W' :=
  ⟨(hb.cell hl).trans h.1, (hb.cell (p := ⟨ad.block, ad.off + 1, none⟩) hl).trans h.2.1, (hb.cell (p := ⟨ad.block, ad.off + 2, none⟩) hl).trans h.2.2.1, (hb.cell (p := ⟨ad.block, ad.off + 3, none⟩) hl).trans h.2.2.2⟩
theorem LkS.far2 {ad : Addr} {x0 x1 x2 x3 : Value} {W : World} (h : LkS ad x0 x1 x2 x3 W) {b : Nat} (hn : b ≠ ad.block) (x y : Value) : LkS ad x0 x1 x2 x3 ((W.setCell ⟨b, 0, none⟩ x).setCell ⟨b, 1, none⟩ y) := by
  have k : ∀ (p : Addr), p.block = ad.block → ((W.setCell ⟨b, 0, none⟩ x).setCell ⟨b, 1, none⟩ y).cell? p = W.cell? p := fun p hp => by
    rw [World.cell?_setCell_far _ _ _ _ (by rw [hp]; exact hn), World.cell?_setCell_far _ _ _ _ (by rw [hp]; exact hn)]
  exact ⟨(k ad rfl).trans h.1, (k ⟨ad.block, ad.off + 1, none⟩ rfl).trans h.2.1, (k ⟨ad.block, ad.off + 2, none⟩ rfl).trans h.2.2.1, (k ⟨ad.block, ad.off + 3, none⟩ rfl).trans h.2.2.2⟩
set_option maxRecDepth 100000 in
set_option maxHeartbeats 8000000 in
theorem mlook_c (a b : Ten) (za zb : Int) (ah am ar : Addr) (w : World) (ha : a.In w) (hb : b.In w) (hE : E3 w ah am ar) :
    Calls Tryd.prog 42 #[.agg (tcells a.P a.zs.length a.cap a.u a.D a.ds.length a.dcap), .agg (tcells b.P b.zs.length b.cap b.u b.D b.ds.length b.dcap), .int .i64 za, .int .i64 zb] w
      (LookE w ah am ar [a, b] (Mat.shape za zb a.look b.look) (Mat.kind za zb a.look b.look) (Mat.code za zb a.look b.look)) := by
  obtain ⟨W0, hW0⟩ : ∃ W, W = ((((w.alloc (.cells a.vals.toArray 26)).alloc (.cells b.vals.toArray 26)).alloc (.cells #[.slice none 0 0, .bool false] 24)).alloc (.cells ([a, b].flatMap Ten.vals).toArray 26)) := ⟨_, rfl⟩
  have HZ : Hid (Has W0 (w.heap.size + 2) 24 [.slice none 0 0, .bool false]) := hide (by rw [hW0]; exact (box_at _ _ _ _ (by simp)).alloc _)
  have HS : Hid (Has W0 (w.heap.size + 3) 26 ([a, b].flatMap Ten.vals)) := hide (by rw [hW0]; exact box_at _ _ _ _ (by simp))
  have HB0 : Hid (Below w.heap.size w W0) := hide (by rw [hW0]; exact ((((Below.refl _ _).alloc (Nat.le_refl _) _).alloc (by simp) _).alloc (by simp; omega) _).alloc (by simp; omega) _)
  have HV := hide (looks_c [a, b] (some ⟨w.heap.size + 3, 0, none⟩) 2 ah am ar W0 HS.out.row (fun t ht => by
    simp at ht
    rcases ht with rfl | rfl
    · exact ha.below HB0.out
    · exact hb.below HB0.out) (by simp) (hE.below HB0.out))
  have HRe := hide (fun W (h : Below w.heap.size w W) => mresult_c za zb a.look b.look ah am ar W (ha.look.below h) (hb.look.below h) (hE.below h))
  have HF0 := hide (fun h : Tens.first [a, b] ≠ (0, none) => Cel.fault_first (k := Mat.code za zb a.look b.look) h)
  have HF1 := hide (fun h : Tens.first [a, b] = (0, none) => Cel.fault_code (k := Mat.code za zb a.look b.look) h)
  have hfc := Tens.first_cases [a, b]
  have HK := hide (fun h : Mat.code za zb a.look b.look ≠ 0 => Mat.bad h)
  obtain ⟨K, hK⟩ : ∃ k, Hid (Mat.code za zb a.look b.look = k) := ⟨_, hide rfl⟩
  obtain ⟨sh, hsh⟩ : ∃ k, Hid (Mat.shape za zb a.look b.look = k) := ⟨_, hide rfl⟩
  obtain ⟨kd, hkd⟩ : ∃ k, Hid (Mat.kind za zb a.look b.look = k) := ⟨_, hide rfl⟩
  obtain ⟨R, hR⟩ : ∃ k, Hid (Tens.first [a, b] = k) := ⟨_, hide rfl⟩
  rw [hK.out, hsh.out, hkd.out] at HRe HK
  rw [hK.out, hR.out] at HF0 HF1
  rw [hR.out] at hfc HV
  rw [hK.out, hsh.out, hkd.out]
  have HL := hide (And.intro ha.ls hb.ls)
  have HW := hide hW0
  unfold Ten.vals at HW
  simp only [List.flatMap_cons, List.flatMap_nil, List.append_nil, List.cons_append, List.nil_append] at HW
  clear ha hb hE hW0 hK hsh hkd HS
  go_enter Tryd.func42, Tryd.ntmps42
  go_wp2_with fail
  rw [← HW.out]
  clear HW
  refine HV.out.mono ?_
  rintro e w1 ⟨⟨v, x, rfl, h1, h2⟩, hb⟩
  have hz0l := HZ.out.lt
  replace HZ := hide (HZ.out.below hb HZ.out.lt)
  have HB1 := hide (HB0.out.trans (hb.mono HB0.out.size))
  have hsz0 := HB0.out.size
  clear hb HV HB0
  by_cases hf : R = (0, none)
  case neg =>
    obtain ⟨rfl, hx⟩ := h2 hf
    have hE := hx.errv hfc hf
    have hF := HF0.out hf
    have hor : ∀ {α : Type} (p q : α), Cel.or [a, b] K p q = q := fun p q => by
      unfold Cel.or
      rw [hF, if_neg hf]
    have HO1 := hide (hor sh [])
    have HO2 := hide (hor kd false)
    have HFq := hide hF
    obtain ⟨z0, z1, zf0, zf1, HZf, HFf⟩ := elm_two HZ.out HB1.out (Nat.le_add_right _ 2) (.slice none 0 0) (.bool false)
    have HXX := hide (hx.fart2 HZ.out (by decide) (.slice none 0 0) (.bool false))
    have r1 := run_neqerr hE
    have r2 := run_neqguard hE
    clear h1 h2 hf hx hfc hE hF hor HRe HF0 HF1 HK
    go_wp2_with fail
    refine bodyPost_ret (results_desc rfl _ _ (w.heap.size + 2) _ _ rfl HZf.out) rfl ?_
    refine ⟨⟨⟨none, [], 0, false⟩, x, rfl, ⟨Ri.nil _ _, by simp⟩, (fun ad h => by cases h), HO1.out.symm, HO2.out.symm, ?_⟩, HFf.out⟩
    rw [HFq.out]
    exact HXX.out
  case pos =>
    obtain ⟨rfl, hown⟩ := h1 hf
    obtain ⟨C, c, rfl, hrow, hCb⟩ := own_row2 hown
    have hrow2 : Row w1 C ([a.look, b.look].flatMap Dsc.vals) := hrow
    obtain ⟨ad, rfl, hadl, c0, c1, c2, c3⟩ := rowd_two hrow2
    have hadb := hCb ad rfl
    have hF := HF1.out hf
    have HFq := hide hF
    have hS0 : LkS ad (.slice a.P a.zs.length a.cap) (.bool a.u) (.slice b.P b.zs.length b.cap) (.bool b.u) w1.drew := ⟨c0, c1, c2, c3⟩
    have HBd := hide (show Below w.heap.size w w1.drew from HB1.out.drew)
    have HZd := hide (HZ.out.drewN 1)
    have hne : w.heap.size + 2 ≠ ad.block := by omega
    have hzl : w.heap.size + 2 < w1.heap.size := HZ.out.lt
    clear h1 h2 hown hrow hrow2 hCb c0 c1 c2 c3 hf hF hfc HF0 HF1
    go_wp2_with fail
    go_region_held3 (fun W => W.cell? ad = some (.slice a.P a.zs.length a.cap) ∧ W.cell? ⟨ad.block, ad.off + 1, none⟩ = some (.bool a.u) ∧ W.cell? ⟨ad.block, ad.off + 2, none⟩ = some (.slice b.P b.zs.length b.cap) ∧ W.cell? ⟨ad.block, ad.off + 3, none⟩ = some (.bool b.u))
      (first | exact hS0 | assumption | exact hS9.out | exact hS8.out)
      (first
        | (go_at_call 17; refine (HRe.out _ HBd.out).mono ?_; rintro e W2 ⟨⟨d, rfl, hdi, hdf, hdz, hdu⟩, hb⟩; have hS8 := hide (LkS.keep hS0 hadl hb); have hB2 := HBd.out.trans (hb.mono HBd.out.size); have hZ2 := HZd.out.below hb HZd.out.lt; obtain ⟨z0, z1, zf0, zf1, HZf, HFf⟩ := elm_two hZ2 hB2 (Nat.le_add_right _ 2) (.slice d.P d.zs.length d.cap) (.bool d.u); have hS9 := hide (LkS.far2 hS8.out hne (.slice d.P d.zs.length d.cap) (.bool d.u)); have HDI := hide (hdi.far2 (b := w.heap.size + 2) hdf (by have : w1.drew.heap.size = w1.heap.size := rfl; omega) (.slice d.P d.zs.length d.cap) (.bool d.u)); have HDF := hide (hdf.le (m := w.heap.size + 1) (by have : w1.drew.heap.size = w1.heap.size := rfl; omega)); have HDZ := hide hdz; have HDU := hide hdu; clear hb hdi hdf hdz hdu hB2 hZ2))
    go_wp2_with fail
    refine bodyPost_ret (results_desc rfl _ _ (w.heap.size + 2) _ _ rfl HZf.out) rfl ?_
    refine ⟨⟨d, _, rfl, HDI.out, HDF.out, ?_, ?_, ?_⟩, HFf.out⟩
    · unfold Cel.or
      rw [HFq.out, HDZ.out]
      by_cases h : K = 0
      · rw [if_pos (by rw [h])]
      · rw [if_neg (fun hh => h (congrArg Prod.fst hh)), (HK.out h).1]
    · unfold Cel.or
      rw [HFq.out, HDU.out]
      by_cases h : K = 0
      · rw [if_pos (by rw [h])]
      · rw [if_neg (fun hh => h (congrArg Prod.fst hh)), (HK.out h).2]
    · rw [HFq.out]
      exact TErr.code K
end Go.Proofs.YtkehdgjdieemkaaDoor
