/-
  mat.Mul and mat.Cell, walked. By an AI agent. No person has read it.
-/
import Derived.Test.YtkehdgjdieemkaaDoorMatD
import Derived.Test.YtkehdgjdieemkaaDoorCelD
namespace Go.Proofs.YtkehdgjdieemkaaDoor
open Go.RowKit

/-- The numbers of a product. -/
def Mat.ds (za zb : Int) (a b : Ten) : List Int := Mat.part a.ds b.ds za zb (b.zs.getD 0 0).toNat (b.zs.getD 1 0).toNat 0 ((a.zs.getD 0 0).toNat * (b.zs.getD 1 0).toNat)
/-- An element of it; 0 of a place that is none. -/
def Mat.el (za zb : Int) (a b : Ten) (i : Int) : Int := (if 0 ≤ i then (Mat.ds za zb a b).getD i.toNat 0 else 0)
structure Mat.Fine (za zb : Int) (a b : Ten) (M K N : Nat) : Prop where
  az : a.zs = [(M : Int), (K : Int)]
  bz : b.zs = [(K : Int), (N : Int)]
  m1 : 1 ≤ M
  m2 : M ≤ 256
  k1 : 1 ≤ K
  k2 : K ≤ 256
  n1 : 1 ≤ N
  n2 : N ≤ 256
  al : a.ds.length = M * K
  bl : b.ds.length = K * N
  mn : M * N ≤ 16384
  sa : Mat.small a.ds
  sb : Mat.small b.ds
  ra : -128 ≤ za ∧ za ≤ 127
  rb : -128 ≤ zb ∧ zb ≤ 127
  sh : Mat.shape za zb a.look b.look = [(M : Int), (N : Int)]
  kd : Mat.kind za zb a.look b.look = true
  ds : Mat.ds za zb a b = Mat.part a.ds b.ds za zb K N 0 (M * N)
theorem Mat.fine {za zb : Int} {a b : Ten} (h : Cel.fault [a, b] (Mat.code za zb a.look b.look) = (0, none)) : ∃ M K N : Nat, Mat.Fine za zb a b M K N := by
  obtain ⟨h1, h2⟩ := Cel.fine h
  have hfa := Tens.whole (Tens.first_fine _ h1 a (by simp))
  have hfb := Tens.whole (Tens.first_fine _ h1 b (by simp))
  have hwa := Shp.whole hfa.1
  have hwb := Shp.whole hfb.1
  have hc := h2
  unfold Mat.code at h2
  split at h2
  · rename_i h3
    exact absurd h2 h3
  split at h2
  · cases h2
  rename_i h4
  split at h2
  · cases h2
  rename_i h5
  have hua : a.u = false := by
    cases e : a.u
    · rfl
    · exact absurd (.inl e) h4
  have hub : b.u = false := by
    cases e : b.u
    · rfl
    · exact absurd (.inr (.inl e)) h4
  have hal : a.zs.length = 2 := Classical.byContradiction fun e => h4 (.inr (.inr (.inl e)))
  have hbl : b.zs.length = 2 := Classical.byContradiction fun e => h4 (.inr (.inr (.inr (.inl e))))
  have hk : a.zs.getD 1 0 = b.zs.getD 0 0 := Classical.byContradiction fun e => h4 (.inr (.inr (.inr (.inr e))))
  have hza : Tens.narrow za = za := Classical.byContradiction fun e => h5 (.inl e)
  have hzb : Tens.narrow zb = zb := Classical.byContradiction fun e => h5 (.inr e)
  obtain ⟨x0, x1, hx⟩ : ∃ x y, a.zs = [x, y] := by
    match h : a.zs, hal with
    | [x, y], _ => exact ⟨x, y, rfl⟩
  obtain ⟨y0, y1, hy⟩ : ∃ x y, b.zs = [x, y] := by
    match h : b.zs, hbl with
    | [x, y], _ => exact ⟨x, y, rfl⟩
  have hx' : a.look.zs = [x0, x1] := hx
  have hy' : b.look.zs = [y0, y1] := hy
  rw [hx, hy] at hk
  obtain rfl : x1 = y0 := hk
  rw [hx] at hfa hwa
  rw [hy] at hfb hwb
  have d0 := hwa.2.1 x0 (by simp)
  have d1 := hwa.2.1 x1 (by simp)
  have d2 := hwb.2.1 y1 (by simp)
  obtain ⟨M, rfl⟩ : ∃ n : Nat, x0 = n := ⟨x0.toNat, by omega⟩
  obtain ⟨K, rfl⟩ : ∃ n : Nat, x1 = n := ⟨x1.toNat, by omega⟩
  obtain ⟨N, rfl⟩ : ∃ n : Nat, y1 = n := ⟨y1.toNat, by omega⟩
  have hp : Shp.code [(M : Int), (N : Int)] = 0 := by
    rw [hx', hy'] at h2
    exact h2
  have hwp := (Shp.whole hp).2.2.2.2
  have e1 : Shp.prod [(M : Int), (N : Int)] = ((M * N : Nat) : Int) := by simp [Shp.prod]
  have e2 : Shp.prod [(M : Int), (K : Int)] = ((M * K : Nat) : Int) := by simp [Shp.prod]
  have e3 : Shp.prod [(K : Int), (N : Int)] = ((K * N : Nat) : Int) := by simp [Shp.prod]
  rw [e1] at hwp
  rw [e2] at hfa
  rw [e3] at hfb
  refine ⟨M, K, N, hx, hy, by omega, by omega, by omega, by omega, by omega, by omega, Int.ofNat.inj hfa.2.1, Int.ofNat.inj hfb.2.1, by omega, fun z hz => fit_narrow hua (hfa.2.2 z hz), fun z hz => fit_narrow hub (hfb.2.2 z hz), narrow_self hza, narrow_self hzb, ?_, ?_, ?_⟩
  · unfold Mat.shape
    rw [if_pos hc, hx', hy']
    rfl
  · unfold Mat.kind
    exact decide_eq_true hc
  · unfold Mat.ds
    rw [hx, hy]
    rfl
/-- cells.Of a product, from a place on, so many. -/
theorem mof_c (za zb : Int) (a b : Ten) (M K N : Nat) (hf : Mat.Fine za zb a b M K N) (A B : Option Addr) (qcap bcap f n : Nat) (w : World) (hQ : Ri w A [za, zb]) (hR : Row w B ([a, b].flatMap Ten.vals)) (ha : a.In w) (hb : b.In w) (hn : f + n ≤ M * N) :
    Calls Tryd.prog 70 #[.int .i64 12, .slice A 2 qcap, .int .i64 f, .int .i64 ((f + n : Nat) : Int), .slice B 2 bcap] w fun e w' => (∃ g, e = .returned (.slice (some ⟨g, 0, none⟩) n n) ∧ w.heap.size ≤ g ∧ Has w' g 3 (i64s (Mat.part a.ds b.ds za zb K N f n))) ∧ Below w.heap.size w w' := by
  have hmn := hf.mn
  refine of_any (Mat.part a.ds b.ds za zb K N f n) 12 A B 2 qcap 2 bcap f n w (by omega) fun W g hB hg hG => ?_
  refine fill_mat _ a b za zb A B qcap bcap n f n (some ⟨g, 0, none⟩) W (hQ.below hB) (hR.below hB) ?_
  have h := matmul_c (List.replicate n 0) a b za zb M K N n f g w W.drew hf.bz hf.al hf.bl hf.n1 (by omega) (by have := hf.k2; omega) ha hb hf.sa hf.sb hf.ra hf.rb hB.drew hg (hG.drewN 1) (by rw [List.length_replicate]; exact hn)
  rw [List.length_replicate] at h
  exact h
theorem Mat.part_wf (xs ys : List Int) (za zb : Int) (inner n f m : Nat) : ∀ z ∈ Mat.part xs ys za zb inner n f m, (Lit.int .i64 z).wf = true := by
  intro z hz
  unfold Mat.part at hz
  obtain ⟨i, -, rfl⟩ := List.mem_map.1 hz
  exact wide_wf _
/-- cells.All of a product. -/
theorem mall_c (za zb : Int) (a b : Ten) (M K N : Nat) (hf : Mat.Fine za zb a b M K N) (P : Option Addr) (cap : Nat) (u : Bool) (A B : Option Addr) (qcap bcap : Nat) (am ar : Addr) (w : World) (hr : Ri w P [(M : Int), (N : Int)]) (hE : E2 w am ar) (hQ : Ri w A [za, zb]) (hR : Row w B ([a, b].flatMap Ten.vals)) (ha : a.In w) (hb : b.In w) :
    Calls Tryd.prog 43 #[.agg (dcells P 2 cap u), .int .i64 12, .slice A 2 qcap, .slice B 2 bcap] w fun e w' => (∃ g, e = .returned (.agg (tcells P 2 cap u (some ⟨g, 0, none⟩) (M * N) (M * N))) ∧ w.heap.size < g ∧ Has w' g 3 (i64s (Mat.part a.ds b.ds za zb K N 0 (M * N)))) ∧ Below w.heap.size w w' := by
  have hmn := hf.mn
  have hpe : ((Mat.part a.ds b.ds za zb K N 0 (M * N)).length : Int) = Shp.elems [(M : Int), (N : Int)] := by
    have hc : Shp.code [(M : Int), (N : Int)] = 0 := by
      unfold Shp.code
      have h1 := hf.m1
      have h2 := hf.m2
      have h3 := hf.n1
      have h4 := hf.n2
      have e1 : Shp.prod [(M : Int), (N : Int)] = ((M * N : Nat) : Int) := by simp [Shp.prod]
      rw [if_neg (by show ¬ 4 < 2; omega), if_neg (by simp [Shp.okDim]; omega), if_neg (by rw [e1]; omega)]
    rw [(Shp.whole hc).2.2.1, Mat.part_length]
    simp [Shp.prod]
  have h := all_c [(M : Int), (N : Int)] (Mat.part a.ds b.ds za zb K N 0 (M * N)) P cap u 12 A B 2 qcap 2 bcap am ar w hr (by show 2 ≤ 1000000; omega) hE hpe fun W hB => by
    have h := mof_c za zb a b M K N hf A B qcap bcap 0 (M * N) W (hQ.below hB) (hR.below hB) (ha.below hB) (hb.below hB) (by omega)
    rw [Nat.zero_add] at h
    rw [Mat.part_length]
    exact h
  rw [Mat.part_length] at h
  exact h
set_option maxRecDepth 100000 in
set_option maxHeartbeats 8000000 in
theorem mul_c (a b : Ten) (za zb : Int) (ah am ar : Addr) (w : World) (ha : a.In w) (hb : b.In w) (hzz : ∀ q ∈ [za, zb], (Lit.int .i64 q).wf = true) (hE : E3 w ah am ar) :
    Calls Tryd.prog 15 #[.agg (tcells a.P a.zs.length a.cap a.u a.D a.ds.length a.dcap), .agg (tcells b.P b.zs.length b.cap b.u b.D b.ds.length b.dcap), .int .i64 za, .int .i64 zb] w
      (TenE w ah am ar (Cel.fault [a, b] (Mat.code za zb a.look b.look)) (Mat.shape za zb a.look b.look) (Mat.kind za zb a.look b.look) (Mat.ds za zb a b)) := by
  obtain ⟨W0, hW0⟩ : ∃ W, W = (((w.alloc (.cells a.vals.toArray 26)).alloc (.cells b.vals.toArray 26)).alloc (.cells #[.slice none 0 0, .bool false, .slice none 0 0] 26)) := ⟨_, rfl⟩
  have HA : Hid (Has W0 w.heap.size 26 a.vals) := hide (by rw [hW0]; exact ((Has.new w 26 a.vals).alloc _).alloc _)
  have HB : Hid (Has W0 (w.heap.size + 1) 26 b.vals) := hide (by rw [hW0]; exact (box_at _ _ _ _ (by simp)).alloc _)
  have HZ : Hid (Has W0 (w.heap.size + 2) 26 [.slice none 0 0, .bool false, .slice none 0 0]) := hide (by rw [hW0]; exact box_at _ _ _ _ (by simp))
  have HB0 : Hid (Below w.heap.size w W0) := hide (by rw [hW0]; exact (((Below.refl _ _).alloc (Nat.le_refl _) _).alloc (by simp) _).alloc (by simp; omega) _)
  have HV := hide (mlook_c a b za zb ah am ar W0 (ha.below HB0.out) (hb.below HB0.out) (hE.below HB0.out))
  have HIa := hide (fun W (h : Below w.heap.size w W) => ha.below h)
  have HIb := hide (fun W (h : Below w.heap.size w W) => hb.below h)
  have HE2 := hide (fun W (h : Below w.heap.size w W) => hE.2.below h)
  have HFi := hide (fun h : Cel.fault [a, b] (Mat.code za zb a.look b.look) = (0, none) => Mat.fine h)
  have hfc := Cel.fault_cases (ts := [a, b]) (Mat.code_known za zb a.look b.look)
  have HW := hide hW0
  have HQ := hide hzz
  unfold Ten.vals at HW
  clear ha hb hE hW0 hzz
  go_enter Tryd.func15, Tryd.ntmps15
  go_wp2_with fail
  rw [← HW.out]
  clear HW
  refine HV.out.mono ?_
  rintro e w1 ⟨⟨d, x, rfl, hdi, hdf, hdz, hdu, hx⟩, hb⟩
  have hz0l := HZ.out.lt
  have hsz0 := hb.size
  replace HZ := hide (HZ.out.below hb HZ.out.lt)
  replace HA := hide (HA.out.below hb HA.out.lt)
  replace HB := hide (HB.out.below hb HB.out.lt)
  have HB1 := hide (HB0.out.trans (hb.mono HB0.out.size))
  clear hb HV HB0
  have hdx := HZ.out.alloc (.cells #[.slice d.P d.zs.length d.cap, .bool d.u] 24)
  have hbx := HB1.out.alloc HB1.out.size (.cells #[.slice d.P d.zs.length d.cap, .bool d.u] 24)
  by_cases hf : Cel.fault [a, b] (Mat.code za zb a.look b.look) = (0, none)
  case neg =>
    have hE := hx.errv hfc hf
    obtain ⟨z0, z1, z2, zf0, zf1, zf2, HZf, HFf⟩ := elm_three hdx hbx (Nat.le_add_right _ 2) (.slice none 0 0) (.bool false) (.slice none 0 0)
    have HXX := hide ((hx.down ((Below.refl _ _).alloc (Nat.le_refl _) (.cells #[.slice d.P d.zs.length d.cap, .bool d.u] 24))).fart3 hdx (by decide) (.slice none 0 0) (.bool false) (.slice none 0 0))
    have r1 := run_neqerr hE
    have r2 := run_neqguard hE
    have HN := hide hf
    clear hdi hdf hdz hdu hx hdx hbx hf hfc hE HFi HIa HIb HE2 HQ HA HB
    go_wp2_with fail
    refine bodyPost_ret (results_tn rfl _ _ (w.heap.size + 2) _ _ _ rfl HZf.out) rfl ?_
    exact TenE.bad rfl HN.out HXX.out HFf.out
  case pos =>
    obtain ⟨M, K, N, hfi⟩ := HFi.out hf
    have hor : ∀ {α : Type} (p q : α), Cel.or [a, b] (Mat.code za zb a.look b.look) p q = p := fun p q => by
      unfold Cel.or
      rw [if_pos hf]
    rw [hor, hfi.sh] at hdz
    rw [hor, hfi.kd] at hdu
    rw [hf] at hx
    obtain rfl : x = .nilIface := hx
    have HN := hide hf
    have HFI := hide hfi
    have hdzl : d.zs.length = 2 := by rw [hdz]; rfl
    have hri := hdi.shp
    rw [hdz] at hri
    rw [hdzl, hdu] at hdx hbx ⊢
    obtain ⟨W2, hW2⟩ : ∃ W, W = ((w1.alloc (.cells #[.slice d.P 2 d.cap, .bool true] 24)).alloc (.cells #[.int .i64 za, .int .i64 zb] 3)).alloc (.cells ([a, b].flatMap Ten.vals).toArray 26) := ⟨_, rfl⟩
    have hb2 : Below w1.heap.size w1 W2 := by rw [hW2]; exact (((Below.refl _ _).alloc (Nat.le_refl _) _).alloc (by simp) _).alloc (by simp; omega) _
    have hI2 : Has W2 (w1.heap.size + 1) 3 (i64s [za, zb]) := by rw [hW2]; exact (box_at _ 3 [.int .i64 za, .int .i64 zb] _ (by simp)).alloc _
    have hT2 : Has W2 (w1.heap.size + 2) 26 ([a, b].flatMap Ten.vals) := by rw [hW2]; exact box_at _ _ _ _ (by simp)
    have hB2 := HB1.out.trans (hb2.mono HB1.out.size)
    have HAl := hide (mall_c za zb a b M K N hfi d.P d.cap true (some ⟨w1.heap.size + 1, 0, none⟩) (some ⟨w1.heap.size + 2, 0, none⟩) 2 2 am ar W2 (hri.below hb2) (HE2.out _ hB2) (hI2.ri HQ.out) hT2.row (HIa.out _ hB2) (HIb.out _ hB2))
    have HZ2 := hide (HZ.out.below hb2 HZ.out.lt)
    have HB2 := hide hB2
    have HRI := hide (hri.below hb2)
    have HDF := hide hdf
    have HW2 := hide hW2
    have HWS : Hid (w1.heap.size ≤ W2.heap.size) := hide hb2.size
    unfold Ten.vals at HA HB HW2
    simp only [List.flatMap_cons, List.flatMap_nil, List.append_nil, List.cons_append, List.nil_append] at HW2
    have a0 := HA.out.cell 0
    have a1 := HA.out.cell 1
    have a2 := HA.out.cell 2
    have b0 := HB.out.cell 0
    have b1 := HB.out.cell 1
    have b2 := HB.out.cell 2
    have hal := HA.out.lt
    have hbl := HB.out.lt
    clear hdi hdf hdz hdx hbx hf hfc hfi hri hW2 hb2 hI2 hT2 hB2 HFi HIa HIb HE2 HQ hor hdzl hdu HZ HB1 HA HB
    go_wp2_with fail
    rw [← HW2.out]
    clear HW2 a0 a1 a2 b0 b1 b2
    refine HAl.out.mono ?_
    rintro e w3 ⟨⟨g, rfl, hg, hG⟩, hb⟩
    have hZ3 := HZ2.out.below hb HZ2.out.lt
    have hB3 := HB2.out.trans (hb.mono HB2.out.size)
    have hR3 := HRI.out.below hb
    obtain ⟨z0, z1, z2, zf0, zf1, zf2, HZf, HFf⟩ := elm_three hZ3 hB3 (Nat.le_add_right _ 2) (.slice d.P 2 d.cap) (.bool true) (.slice (some ⟨g, 0, none⟩) (M * N) (M * N))
    have hdfr := HDF.out
    have hws := HWS.out
    have hmn := HFI.out.mn
    have ht : Ten.In w3 ⟨d.P, [(M : Int), (N : Int)], d.cap, true, some ⟨g, 0, none⟩, Mat.part a.ds b.ds za zb K N 0 (M * N), M * N⟩ := ⟨hR3, hG.ri (Mat.part_wf _ _ _ _ _ _ _ _), by show 2 ≤ 1000000; omega, by rw [Mat.part_length]; omega⟩
    have htf : Ten.Fresh (w.heap.size + 2 + 1) ⟨d.P, [(M : Int), (N : Int)], d.cap, true, some ⟨g, 0, none⟩, Mat.part a.ds b.ds za zb K N 0 (M * N), M * N⟩ := ⟨fun ad h => by have := hdfr ad h; omega, fun ad h => by cases h; show w.heap.size + 2 + 1 ≤ g; omega⟩
    have HT := hide (ht.far3 htf (.slice d.P 2 d.cap) (.bool true) (.slice (some ⟨g, 0, none⟩) (M * N) (M * N)))
    have HTF := hide (htf.le (m := w.heap.size + 1) (by omega))
    have HGf := hide (((hG.far (p := ⟨w.heap.size + 2, 0, none⟩) (by simp; omega) (.slice d.P 2 d.cap)).far (p := ⟨w.heap.size + 2, 1, none⟩) (by simp; omega) (.bool true)).far (p := ⟨w.heap.size + 2, 2, none⟩) (by simp; omega) (.slice (some ⟨g, 0, none⟩) (M * N) (M * N)))
    clear HAl hb hZ3 hB3 hR3 hG hdfr hws hmn ht htf
    go_wp2_with fail
    refine bodyPost_ret (results_tn rfl _ _ (w.heap.size + 2) _ _ _ rfl HZf.out) rfl ?_
    refine ⟨⟨⟨d.P, [(M : Int), (N : Int)], d.cap, true, some ⟨g, 0, none⟩, Mat.part a.ds b.ds za zb K N 0 (M * N), M * N⟩, .nilIface, ?_, HT.out, HTF.out, ?_, ?_, ?_, ?_, fun _ => ⟨g, rfl, (Mat.part_length _ _ _ _ _ _ _ _).symm, HGf.out⟩⟩, HFf.out⟩
    · rw [Mat.part_length]
      rfl
    · rw [if_pos HN.out, HFI.out.sh]
    · rw [if_pos HN.out, HFI.out.kd]
    · rw [if_pos HN.out, HFI.out.ds]
    · rw [HN.out]
      rfl
end Go.Proofs.YtkehdgjdieemkaaDoor
