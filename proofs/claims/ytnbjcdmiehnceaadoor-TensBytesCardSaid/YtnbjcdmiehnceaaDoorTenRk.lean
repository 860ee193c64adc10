/-
  lodgeref3.Zero, walked, with where its numbers lie. lodgeref3.OfRaw, walked. By an AI agent. No person has read it.
-/
import Derived.Test.YtnbjcdmiehnceaaDoorTenRj
import Derived.Test.YtnbjcdmiehnceaaDoorTenM
namespace Go.Proofs.YtnbjcdmiehnceaaDoor
open Go.RowKit

set_option maxRecDepth 100000 in
set_option maxHeartbeats 4000000 in
theorem rzero_own (zs : List Int) (P : Option Addr) (cap : Nat) (u : Bool) (w : World) (hr : Ri w P zs) (hl : zs.length ≤ 1000000) :
    Calls Tryd.prog 48 #[.agg (dcells P zs.length cap u)] w fun e w' => (∃ g c rest gd, e = .returned (.agg (tcells (some ⟨g, 0, none⟩) zs.length c u (some ⟨gd, 0, none⟩) (Shp.elems zs).toNat (Shp.elems zs).toNat)) ∧ Has w' g 3 (i64s zs ++ rest) ∧ Has w' gd 3 (i64s (List.replicate (Shp.elems zs).toNat 0)) ∧ w.heap.size ≤ gd ∧ g ≠ gd) ∧ Below w.heap.size w w' := by
  obtain ⟨hb1, hT, hZ⟩ := box_two w 24 53 [.slice P zs.length cap, .bool u] [.slice none 0 0, .bool false, .slice none 0 0]
  have HI := hide (fun W (hb : Below w.heap.size w W) => rdesc_c zs P cap u W (hr.below hb) hl)
  have HJ := hide (fun W (hb : Below w.heap.size w W) => refelems_c zs P cap W (hr.below hb) (by omega))
  have hEb := Shp.elems_le zs
  obtain ⟨m, hm⟩ : ∃ m : Nat, Hid (Shp.elems zs = (m : Int)) := ⟨(Shp.elems zs).toNat, hide (by omega)⟩
  have hm16 : m ≤ 16384 := by have := hm.out; omega
  obtain ⟨Y, hY, hmk⟩ := made_ints m (by omega)
  obtain ⟨n, hn⟩ : ∃ n, Hid (zs.length = n) := ⟨_, hide rfl⟩
  rw [hm.out, Int.toNat_natCast]
  rw [hm.out] at HJ
  rw [hn.out] at HI HJ hb1 hT hZ ⊢
  clear hr hl hn hm hEb
  have HB1 := hide hb1
  have HT1 := hide hT
  have HZ1 := hide hZ
  have hS0 := DesS.of hT hb1
  clear hb1 hT hZ
  go_enter Tryd.func48, Tryd.ntmps48
  go_wp2_with fail
  go_region_held3 (fun W => W.cell? ⟨w.heap.size, 0, none⟩ = some (.slice P n cap) ∧ W.cell? ⟨w.heap.size, 1, none⟩ = some (.bool u) ∧ Hid (Below w.heap.size w W))
    (first | exact hS0 | assumption | exact hS9.out | exact hS8.out | exact DesS.keep (by assumption) hb)
    (first
      | (go_at_call 73; refine (HI.out _ HB1.out).mono ?_; rintro e W2 ⟨⟨g, c, rest, rfl, hg, hC⟩, hb⟩; have hz2 := HZ1.out.below hb HZ1.out.lt; have ht2 := HT1.out.below hb HT1.out.lt; have hB2 := HB1.out.trans (hb.mono HB1.out.size); have hlt := HZ1.out.lt; have hgn : g ≠ w.heap.size + 1 := (by omega); have hsz := hb.size)
      | (go_at_call 21; refine (HJ.out _ hB2).mono ?_; rintro e W3 ⟨rfl, hb⟩; have hz := (hz2.below hb hz2.lt).alloc (Obj.cells Y 3); have ht := (ht2.below hb ht2.lt).alloc (Obj.cells Y 3); have hC3 := (hC.below hb hC.lt).alloc (Obj.cells Y 3); have hBq := hB2.trans (hb.mono hB2.size); have hB := hBq.alloc hBq.size (Obj.cells Y 3); have hsz2 := hb.size; have hD : Has (W3.alloc (Obj.cells Y 3)) W3.heap.size 3 (i64s (List.replicate m 0)) := (by rw [hY.out]; exact Has.new W3 _ _); have d0 : (W3.alloc (Obj.cells Y 3)).cell? ⟨w.heap.size + 1, 0, none⟩ = some (.slice none 0 0) := (by rw [hz.cell]; rfl); have d1 : (W3.alloc (Obj.cells Y 3)).cell? ⟨w.heap.size + 1, 1, none⟩ = some (.bool false) := (by rw [hz.cell]; rfl); have d2 : (W3.alloc (Obj.cells Y 3)).cell? ⟨w.heap.size + 1, 2, none⟩ = some (.slice none 0 0) := (by rw [hz.cell]; rfl); have f0 := hz.frozen 0; have f1 := hz.frozen 1; have f2 := hz.frozen 2; have HO := hide (tstore (.slice (some ⟨g, 0, none⟩) n c) (.bool u) (.slice (some ⟨W3.heap.size, 0, none⟩) m m) hz ht hC3 hD hB hgn (by omega)); have hgd : Hid (w.heap.size ≤ W3.heap.size ∧ g ≠ W3.heap.size) := hide (have h1 := hBq.size; have h2 := hC.lt; have h3 := hb.size; ⟨h1, by omega⟩); have hS8 := hide (DesS.of ht hB); have hS9 := hide (DesS.of HO.out.2.1 HO.out.2.2.2.2)))
  go_wp2_with fail
  refine bodyPost_ret (results_cell_row rfl _ _ (w.heap.size + 1) 53 (tcells (some ⟨g, 0, none⟩) n c u (some ⟨W3.heap.size, 0, none⟩) m m) (0, 0) _ rfl HO.out.1 Tryd.underlying53 rfl (by kernel_rfl)) rfl ?_
  exact ⟨⟨g, c, rest, W3.heap.size, rfl, HO.out.2.2.1, HO.out.2.2.2.1, hgd.out.1, hgd.out.2⟩, HO.out.2.2.2.2⟩
/-- The blocks that a call has laid, while it fills in its numbers. -/
structure OfI (w : World) (V g gd : Nat) (tv dv rv xs ys : List Value) (W : World) : Prop where
  low : Below w.heap.size w W
  vec : Has W V 53 tv
  des : Has W w.heap.size 24 dv
  res : Has W (w.heap.size + 1) 53 rv
  shp : Has W g 3 xs
  dat : Has W gd 3 ys
  gdl : w.heap.size ≤ gd
  ne : g ≠ gd
  nv : w.heap.size + 1 ≠ V
theorem OfI.below {w W W' : World} {V g gd : Nat} {tv dv rv xs ys : List Value} (h : OfI w V g gd tv dv rv xs ys W) (hb : Below W.heap.size W W') : OfI w V g gd tv dv rv xs ys W' :=
  ⟨h.low.trans (hb.mono h.low.size), h.vec.below hb h.vec.lt, h.des.below hb h.des.lt, h.res.below hb h.res.lt, h.shp.below hb h.shp.lt, h.dat.below hb h.dat.lt, h.gdl, h.ne, h.nv⟩
theorem OfI.drew {w W : World} {V g gd : Nat} {tv dv rv xs ys : List Value} (h : OfI w V g gd tv dv rv xs ys W) : OfI w V g gd tv dv rv xs ys W.drew :=
  ⟨h.low.drew, h.vec.drewN 1, h.des.drewN 1, h.res.drewN 1, h.shp.drewN 1, h.dat.drewN 1, h.gdl, h.ne, h.nv⟩
theorem OfI.set {w W : World} {V g gd : Nat} {tv dv rv xs ys : List Value} (h : OfI w V g gd tv dv rv xs ys W) (i : Nat) (v : Value) : OfI w V g gd tv dv rv xs (ys.set i v) (W.setCell ⟨gd, i, none⟩ v) :=
  ⟨h.low.setCell (p := ⟨gd, i, none⟩) h.gdl v, h.vec.far (p := ⟨gd, i, none⟩) (h.vec.apart h.dat (by decide)) v, h.des.far (p := ⟨gd, i, none⟩) (h.des.apart h.dat (by decide)) v, h.res.far (p := ⟨gd, i, none⟩) (h.res.apart h.dat (by decide)) v,
    h.shp.far (p := ⟨gd, i, none⟩) h.ne v, h.dat.set_ i v, h.gdl, h.ne, h.nv⟩
theorem OfI.done {w W : World} {V g gd : Nat} {tv dv xs ys : List Value} {x y z : Value} (v1 v2 v3 : Value) (h : OfI w V g gd tv dv [x, y, z] xs ys W) :
    Has (((W.setCell ⟨w.heap.size + 1, 0, none⟩ v1).setCell ⟨w.heap.size + 1, 1, none⟩ v2).setCell ⟨w.heap.size + 1, 2, none⟩ v3) (w.heap.size + 1) 53 [v1, v2, v3] ∧
    Has (((W.setCell ⟨w.heap.size + 1, 0, none⟩ v1).setCell ⟨w.heap.size + 1, 1, none⟩ v2).setCell ⟨w.heap.size + 1, 2, none⟩ v3) g 3 xs ∧ Has (((W.setCell ⟨w.heap.size + 1, 0, none⟩ v1).setCell ⟨w.heap.size + 1, 1, none⟩ v2).setCell ⟨w.heap.size + 1, 2, none⟩ v3) gd 3 ys ∧
    Below w.heap.size w (((W.setCell ⟨w.heap.size + 1, 0, none⟩ v1).setCell ⟨w.heap.size + 1, 1, none⟩ v2).setCell ⟨w.heap.size + 1, 2, none⟩ v3) :=
  have k := tstore v1 v2 v3 h.res h.des h.shp h.dat h.low (h.shp.apart h.res (by decide)) (h.dat.apart h.res (by decide))
  ⟨k.1, k.2.2.1, k.2.2.2.1, k.2.2.2.2⟩
theorem Tens.fill_full (l : List Int) : Tens.fill l l.length l.length = l := by
  unfold Tens.fill
  rw [List.take_of_length_le (Nat.le_refl _), Nat.sub_self]
  simp
theorem Tens.fill_at (l : List Int) (i : Nat) (h : i < l.length) : ∃ u, (i64s (Tens.fill l l.length i))[i]? = some u := ⟨_, List.getElem?_eq_getElem (by simp [Tens.fill]; omega)⟩
/-- What is wrong with raw bytes: the error's number. -/
def Tens.ofcode (zs : List Int) (u : Bool) (bs : List Nat) : Nat := if Shp.code zs ≠ 0 then Shp.code zs else if (bs.length : Int) < Shp.size zs u then 105 else if Shp.size zs u < (bs.length : Int) then 104 else 0
theorem Tens.nums_length (u : Bool) (bs : List Nat) : (Tens.nums u bs).length = if u = true then bs.length / 4 else bs.length := by
  unfold Tens.nums
  cases u
  · simp [Tens.nums1]
  · simp [Tens.nums4]
theorem rnum_c (bs : List Nat) (A : Option Addr) (cap i : Nat) (u : Bool) (w : World) (hr : Rb w A bs) (hi : i < (Tens.nums u bs).length) (hl : bs.length ≤ 1000000) (hc : bs.length ≤ cap) :
    Calls Tryd.prog 82 #[.slice A bs.length cap, .int .i64 (i : Int), .bool u] w fun e w' => (∃ z, e = .returned (.int .i64 z) ∧ (Tens.nums u bs)[i]? = some z) ∧ Below w.heap.size w w' := by
  rw [Tens.nums_length] at hi
  cases u
  · rw [if_neg (by decide)] at hi
    refine (rnum_n bs A cap i w hr hi).mono ?_
    rintro e w' ⟨rfl, hb⟩
    refine ⟨⟨_, rfl, ?_⟩, hb⟩
    unfold Tens.nums Tens.nums1
    rw [if_neg (by decide), List.getElem?_map, List.getD_eq_getElem?_getD, List.getElem?_eq_getElem hi]
    rfl
  · rw [if_pos rfl] at hi
    refine (rnum_w bs A cap i w hr (by omega) hl hc).mono ?_
    rintro e w' ⟨rfl, hb⟩
    refine ⟨⟨_, rfl, ?_⟩, hb⟩
    unfold Tens.nums Tens.nums4
    rw [if_pos rfl, List.getElem?_map, List.getElem?_range hi]
    rfl
set_option maxRecDepth 100000 in
set_option maxHeartbeats 4000000 in
theorem rof_c (zs : List Int) (bs : List Nat) (P A : Option Addr) (cap bcap : Nat) (u : Bool) (w : World) (hr : Ri w P zs) (hb : Rb w A bs) (hl : zs.length ≤ 1000000) (hbl : bs.length ≤ 1000000) (hbc : bs.length ≤ bcap) :
    Calls Tryd.prog 56 #[.agg (dcells P zs.length cap u), .slice A bs.length bcap] w fun e w' =>
      (Tens.ofcode zs u bs = 0 → ∃ g c rest gd, e = .returned (.tuple #[.agg (tcells (some ⟨g, 0, none⟩) zs.length c u (some ⟨gd, 0, none⟩) (Tens.nums u bs).length (Tens.nums u bs).length), .int .i64 0]) ∧ Has w' g 3 (i64s zs ++ rest) ∧ Has w' gd 3 (i64s (Tens.nums u bs))) ∧
      (Tens.ofcode zs u bs ≠ 0 → e = .returned (.tuple #[.agg (tcells none 0 0 false none 0 0), .int .i64 (Tens.ofcode zs u bs : Nat)])) ∧ Below w.heap.size w w' := by
  obtain ⟨hb1, hT, hZ⟩ : Below w.heap.size w ((w.alloc (Obj.cells (dcells P zs.length cap u) 24)).alloc (Obj.cells #[.slice none 0 0, .bool false, .slice none 0 0] 53)) ∧ Has ((w.alloc (Obj.cells (dcells P zs.length cap u) 24)).alloc (Obj.cells #[.slice none 0 0, .bool false, .slice none 0 0] 53)) w.heap.size 24 [.slice P zs.length cap, .bool u] ∧
      Has ((w.alloc (Obj.cells (dcells P zs.length cap u) 24)).alloc (Obj.cells #[.slice none 0 0, .bool false, .slice none 0 0] 53)) (w.heap.size + 1) 53 [.slice none 0 0, .bool false, .slice none 0 0] := by
    refine ⟨((Below.refl _ w).alloc (Nat.le_refl _) _).alloc (by simp) _, (desc_row w P zs.length cap u).alloc _, ?_⟩
    have h := Has.new (w.alloc (Obj.cells (dcells P zs.length cap u) 24)) 53 [.slice none 0 0, .bool false, .slice none 0 0]
    simpa using h
  have HV := hide (refvalid_c zs P cap u _ (hr.below hb1) (by omega))
  have HS := hide (fun W (h : Below w.heap.size w W) => size_c zs P cap u W (hr.below h) (by omega))
  have HZr := hide (fun W (h : Below w.heap.size w W) => rzero_own zs P cap u W (hr.below h) hl)
  have HJ := hide (fun W i (h : Below w.heap.size w W) (hi : i < (Tens.nums u bs).length) => rnum_c bs A bcap i u W (hb.below h) hi hbl hbc)
  have hnl := Tens.nums_length u bs
  have hel := Shp.elems_le zs
  have hMM : Shp.code zs = 0 → (bs.length : Int) = Shp.size zs u → (Shp.elems zs).toNat = (Tens.nums u bs).length := fun _ h => by
    rw [hnl]
    unfold Shp.size at h
    cases u <;> simp at h ⊢ <;> omega
  obtain ⟨L, hL⟩ : ∃ L, Hid (Tens.nums u bs = L) := ⟨_, hide rfl⟩
  obtain ⟨E, hE⟩ : ∃ E, Hid ((Shp.elems zs).toNat = E) := ⟨_, hide rfl⟩
  have hM6 : L.length ≤ 1000000 := by rw [← hL.out, hnl]; split <;> omega
  have hoc : Tens.ofcode zs u bs = if Shp.code zs ≠ 0 then Shp.code zs else if (bs.length : Int) < Shp.size zs u then 105 else if Shp.size zs u < (bs.length : Int) then 104 else 0 := rfl
  obtain ⟨n, hn⟩ : ∃ n, Hid (zs.length = n) := ⟨_, hide rfl⟩
  obtain ⟨m, hm⟩ : ∃ m, Hid (bs.length = m) := ⟨_, hide rfl⟩
  obtain ⟨k, hk⟩ : ∃ k, Hid (Shp.code zs = k) := ⟨_, hide rfl⟩
  obtain ⟨S, hS⟩ : ∃ S, Hid (Shp.size zs u = S) := ⟨_, hide rfl⟩
  obtain ⟨K, hK⟩ : ∃ K, Hid (Tens.ofcode zs u bs = K) := ⟨_, hide rfl⟩
  rw [hL.out] at HJ hMM ⊢
  rw [hE.out] at HZr hMM
  rw [hk.out] at HV hoc hMM
  rw [hS.out] at HS hoc hMM
  rw [hm.out] at HJ hoc hMM ⊢
  rw [hK.out] at hoc ⊢
  rw [hn.out] at HV HS HZr hb1 hT hZ ⊢
  clear hr hb hl hbl hbc hn hm hk hS hK hnl hel hL
  have HB1 := hide hb1
  have HT1 := hide hT
  have HZ1 := hide hZ
  have HE := hide hE.out
  have HMM := hide hMM
  clear hb1 hT hZ hE hMM
  go_enter Tryd.func56, Tryd.ntmps56
  go_wp2_with fail
  refine HV.out.mono ?_
  rintro e w1 ⟨rfl, hb⟩
  have hB1 := HB1.out.trans (hb.mono HB1.out.size)
  have hz := HZ1.out.below hb HZ1.out.lt
  have hT := HT1.out.below hb HT1.out.lt
  clear hb HB1 HZ1 HT1 HV
  by_cases hk0 : k = 0
  · subst hk0
    have hoc2 : K = if (m : Int) < S then 105 else if S < (m : Int) then 104 else 0 := hoc
    clear hoc
    have c0 : w1.cell? ⟨w.heap.size, 0, none⟩ = some (.slice P n cap) := by rw [hT.cell]; rfl
    have c1 : w1.cell? ⟨w.heap.size, 1, none⟩ = some (.bool u) := by rw [hT.cell]; rfl
    go_wp2_with fail
    refine (HS.out w1 hB1).mono ?_
    rintro e w2 ⟨rfl, hb⟩
    have hB2 := hB1.trans (hb.mono hB1.size)
    replace hz := hz.below hb hz.lt
    replace hT := hT.below hb hT.lt
    clear hb c0 c1 hB1
    by_cases hlt : (m : Int) < S
    · rw [if_pos hlt] at hoc2
      subst hoc2
      have d0 : w2.cell? ⟨w.heap.size + 1, 0, none⟩ = some (.slice none 0 0) := by rw [hz.cell]; rfl
      have d1 : w2.cell? ⟨w.heap.size + 1, 1, none⟩ = some (.bool false) := by rw [hz.cell]; rfl
      have d2 : w2.cell? ⟨w.heap.size + 1, 2, none⟩ = some (.slice none 0 0) := by rw [hz.cell]; rfl
      have f0 := hz.frozen 0
      have f1 := hz.frozen 1
      have f2 := hz.frozen 2
      have HZ' := hide (((hz.set_ 0 (.slice none 0 0)).set_ 1 (.bool false)).set_ 2 (.slice none 0 0))
      have HF' := hide (((hB2.setCell (p := ⟨w.heap.size + 1, 0, none⟩) (Nat.le_succ _) (.slice none 0 0)).setCell (p := ⟨w.heap.size + 1, 1, none⟩) (Nat.le_succ _) (.bool false)).setCell (p := ⟨w.heap.size + 1, 2, none⟩) (Nat.le_succ _) (.slice none 0 0))
      clear hz hT hB2
      go_wp2_with fail
      refine bodyPost_ret (results_tens rfl _ _ (w.heap.size + 1) _ _ _ rfl HZ'.out) rfl ?_
      exact ⟨fun h => absurd h (by decide), fun _ => rfl, HF'.out⟩
    · rw [if_neg hlt] at hoc2
      have c0 : w2.cell? ⟨w.heap.size, 0, none⟩ = some (.slice P n cap) := by rw [hT.cell]; rfl
      have c1 : w2.cell? ⟨w.heap.size, 1, none⟩ = some (.bool u) := by rw [hT.cell]; rfl
      go_wp2_with fail
      refine (HS.out w2 hB2).mono ?_
      rintro e w3 ⟨rfl, hb⟩
      have hB3 := hB2.trans (hb.mono hB2.size)
      replace hz := hz.below hb hz.lt
      replace hT := hT.below hb hT.lt
      clear hb c0 c1 hB2
      by_cases hgt : S < (m : Int)
      · rw [if_pos hgt] at hoc2
        subst hoc2
        have d0 : w3.cell? ⟨w.heap.size + 1, 0, none⟩ = some (.slice none 0 0) := by rw [hz.cell]; rfl
        have d1 : w3.cell? ⟨w.heap.size + 1, 1, none⟩ = some (.bool false) := by rw [hz.cell]; rfl
        have d2 : w3.cell? ⟨w.heap.size + 1, 2, none⟩ = some (.slice none 0 0) := by rw [hz.cell]; rfl
        have f0 := hz.frozen 0
        have f1 := hz.frozen 1
        have f2 := hz.frozen 2
        have HZ' := hide (((hz.set_ 0 (.slice none 0 0)).set_ 1 (.bool false)).set_ 2 (.slice none 0 0))
        have HF' := hide (((hB3.setCell (p := ⟨w.heap.size + 1, 0, none⟩) (Nat.le_succ _) (.slice none 0 0)).setCell (p := ⟨w.heap.size + 1, 1, none⟩) (Nat.le_succ _) (.bool false)).setCell (p := ⟨w.heap.size + 1, 2, none⟩) (Nat.le_succ _) (.slice none 0 0))
        clear hz hT hB3
        go_wp2_with fail
        refine bodyPost_ret (results_tens rfl _ _ (w.heap.size + 1) _ _ _ rfl HZ'.out) rfl ?_
        exact ⟨fun h => absurd h (by decide), fun _ => rfl, HF'.out⟩
      · rw [if_neg hgt] at hoc2
        subst hoc2
        have hEM : E = L.length := by first | exact HMM.out rfl (by omega) | exact HMM.out trivial (by omega) | exact HMM.out (by omega)
        have c0 : w3.cell? ⟨w.heap.size, 0, none⟩ = some (.slice P n cap) := by rw [hT.cell]; rfl
        have c1 : w3.cell? ⟨w.heap.size, 1, none⟩ = some (.bool u) := by rw [hT.cell]; rfl
        go_wp2_with fail
        refine (HZr.out w3 hB3).mono ?_
        rintro e w4 ⟨⟨g, c, rest, gd, rfl, hg, hgd, hgl, hgn⟩, hb⟩
        have hB4 := hB3.trans (hb.mono hB3.size)
        replace hz := hz.below hb hz.lt
        replace hT := hT.below hb hT.lt
        rw [hEM] at hgd ⊢
        have hI0 : OfI w w4.heap.size g gd [.slice (some ⟨g, 0, none⟩) n c, .bool u, .slice (some ⟨gd, 0, none⟩) L.length L.length] [.slice P n cap, .bool u] [.slice none 0 0, .bool false, .slice none 0 0] (i64s zs ++ rest) (i64s (Tens.fill L L.length 0))
            (w4.alloc (Obj.cells #[.slice (some ⟨g, 0, none⟩) n c, .bool u, .slice (some ⟨gd, 0, none⟩) L.length L.length] 53)) :=
          ⟨hB4.alloc hB4.size _, Has.new w4 _ _, hT.alloc _, hz.alloc _, hg.alloc _, by rw [show Tens.fill L L.length 0 = List.replicate L.length 0 by simp [Tens.fill]]; exact hgd.alloc _, Nat.le_trans hB3.size hgl, hgn, by have := hz.lt; omega⟩
        have HI0 := hide hI0
        obtain ⟨V, hV⟩ : ∃ V, V = w4.heap.size := ⟨_, rfl⟩
        rw [← hV] at HI0
        clear hb c0 c1 hB3 HZr hI0 hz hT hB4 hg hgd hgl hgn HMM HE hEM
        go_wp2_with fail
        generalize hW5 : w4.alloc (Obj.cells #[.slice (some ⟨g, 0, none⟩) n c, .bool u, .slice (some ⟨gd, 0, none⟩) L.length L.length] 53) = w5 at *
        rw [← hV]
        clear hW5 hV
        obtain ⟨M, hM⟩ : ∃ M, Hid (L.length = M) := ⟨_, hide rfl⟩
        go_loopw [8] (fun k wr => ∃ i : Nat, i ≤ L.length ∧ k = .int .i64 i ∧ Hid (OfI w V g gd [.slice (some ⟨g, 0, none⟩) n c, .bool u, .slice (some ⟨gd, 0, none⟩) L.length L.length] [.slice P n cap, .bool u] [.slice none 0 0, .bool false, .slice none 0 0] (i64s zs ++ rest) (i64s (Tens.fill L L.length i)) wr)) (fun k _ => L.length - (intOf k).toNat)
        case atStart => exact ⟨0, Nat.zero_le _, rfl, HI0⟩
        case round =>
          obtain ⟨i, hi, rfl, HI⟩ := hrel
          have c2 : wr.cell? ⟨V, 2, none⟩ = some (.slice (some ⟨gd, 0, none⟩) L.length L.length) := by rw [HI.out.vec.cell]; rfl
          by_cases hlt : i < L.length
          · have him : (i : Int) < L.length := by omega
            have hadd : IntKind.i64.wrap ((i : Int) + 1) = (i : Int) + 1 := by rw [IntKind.wrap_i64]; omega
            have hS0 : wr.drew.cell? ⟨V, 2, none⟩ = some (.slice (some ⟨gd, 0, none⟩) L.length L.length) ∧ wr.drew.cell? ⟨w.heap.size, 1, none⟩ = some (.bool u) ∧ Hid (Below w.heap.size w wr.drew) :=
              ⟨by rw [HI.out.drew.vec.cell]; rfl, by rw [HI.out.drew.des.cell]; rfl, hide HI.out.drew.low⟩
            go_wp2_with fail
            go_region_held3 (fun W => W.cell? ⟨V, 2, none⟩ = some (.slice (some ⟨gd, 0, none⟩) L.length L.length) ∧ W.cell? ⟨w.heap.size, 1, none⟩ = some (.bool u) ∧ Hid (Below w.heap.size w W))
              (first | exact hS0 | assumption | exact hS9.out | exact hS8.out)
              (first | (go_at_call 82; refine (HJ.out _ i HI.out.drew.low hlt).mono ?_; rintro e W2 ⟨⟨z, rfl, hzz⟩, hb⟩; have HI2 := hide (HI.out.drew.below hb); obtain ⟨uu, huu⟩ := Tens.fill_at L i hlt; have k0 : W2.cell? ⟨gd, i, none⟩ = some uu := (by rw [HI2.out.dat.cell]; exact huu); have f0 := HI2.out.dat.frozen i; have HO := hide (HI2.out.set i (.int .i64 z)); have HZZ := hide hzz; have hS8 := hide (show W2.cell? ⟨V, 2, none⟩ = some (.slice (some ⟨gd, 0, none⟩) L.length L.length) ∧ W2.cell? ⟨w.heap.size, 1, none⟩ = some (.bool u) ∧ Hid (Below w.heap.size w W2) from ⟨(by rw [HI2.out.vec.cell]; rfl), (by rw [HI2.out.des.cell]; rfl), hide HI2.out.low⟩); have hS9 := hide (show (W2.setCell ⟨gd, i, none⟩ (.int .i64 z)).cell? ⟨V, 2, none⟩ = some (.slice (some ⟨gd, 0, none⟩) L.length L.length) ∧ (W2.setCell ⟨gd, i, none⟩ (.int .i64 z)).cell? ⟨w.heap.size, 1, none⟩ = some (.bool u) ∧ Hid (Below w.heap.size w (W2.setCell ⟨gd, i, none⟩ (.int .i64 z))) from ⟨(by rw [HO.out.vec.cell]; rfl), (by rw [HO.out.des.cell]; rfl), hide HO.out.low⟩); clear hzz hb huu))
            go_wp2_with fail
            go_roundw
            case rel => exact ⟨i + 1, by omega, by go_num, by rw [← Tens.fill_set L L.length i z rfl HZZ.out]; exact HO⟩
            case measure => simp [intOf]; omega
          · obtain rfl : i = L.length := by omega
            have c0 : wr.cell? ⟨V, 0, none⟩ = some (.slice (some ⟨g, 0, none⟩) n c) := by rw [HI.out.vec.cell]; rfl
            have c1 : wr.cell? ⟨V, 1, none⟩ = some (.bool u) := by rw [HI.out.vec.cell]; rfl
            have d0 : wr.cell? ⟨w.heap.size + 1, 0, none⟩ = some (.slice none 0 0) := by rw [HI.out.res.cell]; rfl
            have d1 : wr.cell? ⟨w.heap.size + 1, 1, none⟩ = some (.bool false) := by rw [HI.out.res.cell]; rfl
            have d2 : wr.cell? ⟨w.heap.size + 1, 2, none⟩ = some (.slice none 0 0) := by rw [HI.out.res.cell]; rfl
            have f0 := HI.out.res.frozen 0
            have f1 := HI.out.res.frozen 1
            have f2 := HI.out.res.frozen 2
            have HO := hide (HI.out.done (.slice (some ⟨g, 0, none⟩) n c) (.bool u) (.slice (some ⟨gd, 0, none⟩) L.length L.length))
            rw [Tens.fill_full] at HO
            clear HI
            go_wp2_with fail
            refine bodyPost_ret (results_tens rfl _ _ (w.heap.size + 1) _ _ _ rfl HO.out.1) rfl ?_
            first | exact ⟨⟨g, c, rest, gd, rfl, HO.out.2.1, HO.out.2.2.1⟩, HO.out.2.2.2⟩ | exact ⟨fun _ => ⟨g, c, rest, gd, rfl, HO.out.2.1, HO.out.2.2.1⟩, fun h => absurd rfl h, HO.out.2.2.2⟩
  · rw [if_pos hk0] at hoc
    obtain rfl : k = K := hoc.symm
    have d0 : w1.cell? ⟨w.heap.size + 1, 0, none⟩ = some (.slice none 0 0) := by rw [hz.cell]; rfl
    have d1 : w1.cell? ⟨w.heap.size + 1, 1, none⟩ = some (.bool false) := by rw [hz.cell]; rfl
    have d2 : w1.cell? ⟨w.heap.size + 1, 2, none⟩ = some (.slice none 0 0) := by rw [hz.cell]; rfl
    have f0 := hz.frozen 0
    have f1 := hz.frozen 1
    have f2 := hz.frozen 2
    have HZ' := hide (((hz.set_ 0 (.slice none 0 0)).set_ 1 (.bool false)).set_ 2 (.slice none 0 0))
    have HF' := hide (((hB1.setCell (p := ⟨w.heap.size + 1, 0, none⟩) (Nat.le_succ _) (.slice none 0 0)).setCell (p := ⟨w.heap.size + 1, 1, none⟩) (Nat.le_succ _) (.bool false)).setCell (p := ⟨w.heap.size + 1, 2, none⟩) (Nat.le_succ _) (.slice none 0 0))
    have hkn : ((k : Int) == 0) = false := by simp; omega
    clear hz hT hB1
    go_wp2_with fail
    refine bodyPost_ret (results_tens rfl _ _ (w.heap.size + 1) _ _ _ rfl HZ'.out) rfl ?_
    exact ⟨fun h => absurd h hk0, fun _ => rfl, HF'.out⟩
end Go.Proofs.YtnbjcdmiehnceaaDoor
