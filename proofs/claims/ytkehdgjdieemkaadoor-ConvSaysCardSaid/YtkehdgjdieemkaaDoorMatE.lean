/-
  mat.Mul and mat.Cell, walked. mat.Cell and mat.Turn, walked. lodgeworld.Number by its value; lodgelaw8.matrix. Products and turned ones that are lawful; the examples of package lodgelaw8. What laws about products use. By an AI agent. No person has read it.
-/
import Derived.Test.YtkehdgjdieemkaaDoorMatD
import Derived.Test.YtkehdgjdieemkaaDoorCelD
import Derived.Test.YtkehdgjdieemkaaDoorCelI
import Derived.Laws.CopyOwn
namespace Go.Proofs.YtkehdgjdieemkaaDoor
open Go.RowKit

/-- The numbers of a product. -/
def Mat.ds (za zb : Int) (a b : Ten) : List Int := Mat.part a.ds b.ds za zb (b.zs.getD 0 0).toNat (b.zs.getD 1 0).toNat 0 ((a.zs.getD 0 0).toNat * (b.zs.getD 1 0).toNat)
/-- An element of it; 0 of a place that is none. -/
def Mat.el (za zb : Int) (a b : Ten) (i : Int) : Int := (if 0 ≤ i then (Mat.ds za zb a b).getD i.toNat 0 else 0)
structure Mat.Fine (za zb : Int) (a b : Ten) (M K N : Nat) : Prop where
  az : a.zs = [(M : Int), (K : Int)]
  bz : b.zs = [(K : Int), (N : Int)]
  m1 : 1 ≤ M
  m2 : M ≤ 256
  k1 : 1 ≤ K
  k2 : K ≤ 256
  n1 : 1 ≤ N
  n2 : N ≤ 256
  al : a.ds.length = M * K
  bl : b.ds.length = K * N
  mn : M * N ≤ 16384
  sa : Mat.small a.ds
  sb : Mat.small b.ds
  ra : -128 ≤ za ∧ za ≤ 127
  rb : -128 ≤ zb ∧ zb ≤ 127
  sh : Mat.shape za zb a.look b.look = [(M : Int), (N : Int)]
  kd : Mat.kind za zb a.look b.look = true
  ds : Mat.ds za zb a b = Mat.part a.ds b.ds za zb K N 0 (M * N)
theorem Mat.fine {za zb : Int} {a b : Ten} (h : Cel.fault [a, b] (Mat.code za zb a.look b.look) = (0, none)) : ∃ M K N : Nat, Mat.Fine za zb a b M K N := by
  obtain ⟨h1, h2⟩ := Cel.fine h
  have hfa := Tens.whole (Tens.first_fine _ h1 a (by simp))
  have hfb := Tens.whole (Tens.first_fine _ h1 b (by simp))
  have hwa := Shp.whole hfa.1
  have hwb := Shp.whole hfb.1
  have hc := h2
  unfold Mat.code at h2
  split at h2
  · rename_i h3
    exact absurd h2 h3
  split at h2
  · cases h2
  rename_i h4
  split at h2
  · cases h2
  rename_i h5
  have hua : a.u = false := by
    cases e : a.u
    · rfl
    · exact absurd (.inl e) h4
  have hub : b.u = false := by
    cases e : b.u
    · rfl
    · exact absurd (.inr (.inl e)) h4
  have hal : a.zs.length = 2 := Classical.byContradiction fun e => h4 (.inr (.inr (.inl e)))
  have hbl : b.zs.length = 2 := Classical.byContradiction fun e => h4 (.inr (.inr (.inr (.inl e))))
  have hk : a.zs.getD 1 0 = b.zs.getD 0 0 := Classical.byContradiction fun e => h4 (.inr (.inr (.inr (.inr e))))
  have hza : Tens.narrow za = za := Classical.byContradiction fun e => h5 (.inl e)
  have hzb : Tens.narrow zb = zb := Classical.byContradiction fun e => h5 (.inr e)
  obtain ⟨x0, x1, hx⟩ : ∃ x y, a.zs = [x, y] := by
    match h : a.zs, hal with
    | [x, y], _ => exact ⟨x, y, rfl⟩
  obtain ⟨y0, y1, hy⟩ : ∃ x y, b.zs = [x, y] := by
    match h : b.zs, hbl with
    | [x, y], _ => exact ⟨x, y, rfl⟩
  have hx' : a.look.zs = [x0, x1] := hx
  have hy' : b.look.zs = [y0, y1] := hy
  rw [hx, hy] at hk
  obtain rfl : x1 = y0 := hk
  rw [hx] at hfa hwa
  rw [hy] at hfb hwb
  have d0 := hwa.2.1 x0 (by simp)
  have d1 := hwa.2.1 x1 (by simp)
  have d2 := hwb.2.1 y1 (by simp)
  obtain ⟨M, rfl⟩ : ∃ n : Nat, x0 = n := ⟨x0.toNat, by omega⟩
  obtain ⟨K, rfl⟩ : ∃ n : Nat, x1 = n := ⟨x1.toNat, by omega⟩
  obtain ⟨N, rfl⟩ : ∃ n : Nat, y1 = n := ⟨y1.toNat, by omega⟩
  have hp : Shp.code [(M : Int), (N : Int)] = 0 := by
    rw [hx', hy'] at h2
    exact h2
  have hwp := (Shp.whole hp).2.2.2.2
  have e1 : Shp.prod [(M : Int), (N : Int)] = ((M * N : Nat) : Int) := by simp [Shp.prod]
  have e2 : Shp.prod [(M : Int), (K : Int)] = ((M * K : Nat) : Int) := by simp [Shp.prod]
  have e3 : Shp.prod [(K : Int), (N : Int)] = ((K * N : Nat) : Int) := by simp [Shp.prod]
  rw [e1] at hwp
  rw [e2] at hfa
  rw [e3] at hfb
  refine ⟨M, K, N, hx, hy, by omega, by omega, by omega, by omega, by omega, by omega, Int.ofNat.inj hfa.2.1, Int.ofNat.inj hfb.2.1, by omega, fun z hz => fit_narrow hua (hfa.2.2 z hz), fun z hz => fit_narrow hub (hfb.2.2 z hz), narrow_self hza, narrow_self hzb, ?_, ?_, ?_⟩
  · unfold Mat.shape
    rw [if_pos hc, hx', hy']
    rfl
  · unfold Mat.kind
    exact decide_eq_true hc
  · unfold Mat.ds
    rw [hx, hy]
    rfl
/-- cells.Of a product, from a place on, so many. -/
theorem mof_c (za zb : Int) (a b : Ten) (M K N : Nat) (hf : Mat.Fine za zb a b M K N) (A B : Option Addr) (qcap bcap f n : Nat) (w : World) (hQ : Ri w A [za, zb]) (hR : Row w B ([a, b].flatMap Ten.vals)) (ha : a.In w) (hb : b.In w) (hn : f + n ≤ M * N) :
    Calls Tryd.prog 70 #[.int .i64 12, .slice A 2 qcap, .int .i64 f, .int .i64 ((f + n : Nat) : Int), .slice B 2 bcap] w fun e w' => (∃ g, e = .returned (.slice (some ⟨g, 0, none⟩) n n) ∧ w.heap.size ≤ g ∧ Has w' g 3 (i64s (Mat.part a.ds b.ds za zb K N f n))) ∧ Below w.heap.size w w' := by
  have hmn := hf.mn
  refine of_any (Mat.part a.ds b.ds za zb K N f n) 12 A B 2 qcap 2 bcap f n w (by omega) fun W g hB hg hG => ?_
  refine fill_mat _ a b za zb A B qcap bcap n f n (some ⟨g, 0, none⟩) W (hQ.below hB) (hR.below hB) ?_
  have h := matmul_c (List.replicate n 0) a b za zb M K N n f g w W.drew hf.bz hf.al hf.bl hf.n1 (by omega) (by have := hf.k2; omega) ha hb hf.sa hf.sb hf.ra hf.rb hB.drew hg (hG.drewN 1) (by rw [List.length_replicate]; exact hn)
  rw [List.length_replicate] at h
  exact h
theorem Mat.part_wf (xs ys : List Int) (za zb : Int) (inner n f m : Nat) : ∀ z ∈ Mat.part xs ys za zb inner n f m, (Lit.int .i64 z).wf = true := by
  intro z hz
  unfold Mat.part at hz
  obtain ⟨i, -, rfl⟩ := List.mem_map.1 hz
  exact wide_wf _
/-- cells.All of a product. -/
theorem mall_c (za zb : Int) (a b : Ten) (M K N : Nat) (hf : Mat.Fine za zb a b M K N) (P : Option Addr) (cap : Nat) (u : Bool) (A B : Option Addr) (qcap bcap : Nat) (am ar : Addr) (w : World) (hr : Ri w P [(M : Int), (N : Int)]) (hE : E2 w am ar) (hQ : Ri w A [za, zb]) (hR : Row w B ([a, b].flatMap Ten.vals)) (ha : a.In w) (hb : b.In w) :
    Calls Tryd.prog 43 #[.agg (dcells P 2 cap u), .int .i64 12, .slice A 2 qcap, .slice B 2 bcap] w fun e w' => (∃ g, e = .returned (.agg (tcells P 2 cap u (some ⟨g, 0, none⟩) (M * N) (M * N))) ∧ w.heap.size < g ∧ Has w' g 3 (i64s (Mat.part a.ds b.ds za zb K N 0 (M * N)))) ∧ Below w.heap.size w w' := by
  have hmn := hf.mn
  have hpe : ((Mat.part a.ds b.ds za zb K N 0 (M * N)).length : Int) = Shp.elems [(M : Int), (N : Int)] := by
    have hc : Shp.code [(M : Int), (N : Int)] = 0 := by
      unfold Shp.code
      have h1 := hf.m1
      have h2 := hf.m2
      have h3 := hf.n1
      have h4 := hf.n2
      have e1 : Shp.prod [(M : Int), (N : Int)] = ((M * N : Nat) : Int) := by simp [Shp.prod]
      rw [if_neg (by show ¬ 4 < 2; omega), if_neg (by simp [Shp.okDim]; omega), if_neg (by rw [e1]; omega)]
    rw [(Shp.whole hc).2.2.1, Mat.part_length]
    simp [Shp.prod]
  have h := all_c [(M : Int), (N : Int)] (Mat.part a.ds b.ds za zb K N 0 (M * N)) P cap u 12 A B 2 qcap 2 bcap am ar w hr (by show 2 ≤ 1000000; omega) hE hpe fun W hB => by
    have h := mof_c za zb a b M K N hf A B qcap bcap 0 (M * N) W (hQ.below hB) (hR.below hB) (ha.below hB) (hb.below hB) (by omega)
    rw [Nat.zero_add] at h
    rw [Mat.part_length]
    exact h
  rw [Mat.part_length] at h
  exact h
set_option maxRecDepth 100000 in
set_option maxHeartbeats 8000000 in
theorem mul_c (a b : Ten) (za zb : Int) (ah am ar : Addr) (w : World) (ha : a.In w) (hb : b.In w) (hzz : ∀ q ∈ [za, zb], (Lit.int .i64 q).wf = true) (hE : E3 w ah am ar) :
    Calls Tryd.prog 15 #[.agg (tcells a.P a.zs.length a.cap a.u a.D a.ds.length a.dcap), .agg (tcells b.P b.zs.length b.cap b.u b.D b.ds.length b.dcap), .int .i64 za, .int .i64 zb] w
      (TenE w ah am ar (Cel.fault [a, b] (Mat.code za zb a.look b.look)) (Mat.shape za zb a.look b.look) (Mat.kind za zb a.look b.look) (Mat.ds za zb a b)) := by
  obtain ⟨W0, hW0⟩ : ∃ W, W = (((w.alloc (.cells a.vals.toArray 26)).alloc (.cells b.vals.toArray 26)).alloc (.cells #[.slice none 0 0, .bool false, .slice none 0 0] 26)) := ⟨_, rfl⟩
  have HA : Hid (Has W0 w.heap.size 26 a.vals) := hide (by rw [hW0]; exact ((Has.new w 26 a.vals).alloc _).alloc _)
  have HB : Hid (Has W0 (w.heap.size + 1) 26 b.vals) := hide (by rw [hW0]; exact (box_at _ _ _ _ (by simp)).alloc _)
  have HZ : Hid (Has W0 (w.heap.size + 2) 26 [.slice none 0 0, .bool false, .slice none 0 0]) := hide (by rw [hW0]; exact box_at _ _ _ _ (by simp))
  have HB0 : Hid (Below w.heap.size w W0) := hide (by rw [hW0]; exact (((Below.refl _ _).alloc (Nat.le_refl _) _).alloc (by simp) _).alloc (by simp; omega) _)
  have HV := hide (mlook_c a b za zb ah am ar W0 (ha.below HB0.out) (hb.below HB0.out) (hE.below HB0.out))
  have HIa := hide (fun W (h : Below w.heap.size w W) => ha.below h)
  have HIb := hide (fun W (h : Below w.heap.size w W) => hb.below h)
  have HE2 := hide (fun W (h : Below w.heap.size w W) => hE.2.below h)
  have HFi := hide (fun h : Cel.fault [a, b] (Mat.code za zb a.look b.look) = (0, none) => Mat.fine h)
  have hfc := Cel.fault_cases (ts := [a, b]) (Mat.code_known za zb a.look b.look)
  have HW := hide hW0
  have HQ := hide hzz
  unfold Ten.vals at HW
  clear ha hb hE hW0 hzz
  go_enter Tryd.func15, Tryd.ntmps15
  go_wp2_with fail
  rw [← HW.out]
  clear HW
  refine HV.out.mono ?_
  rintro e w1 ⟨⟨d, x, rfl, hdi, hdf, hdz, hdu, hx⟩, hb⟩
  have hz0l := HZ.out.lt
  have hsz0 := hb.size
  replace HZ := hide (HZ.out.below hb HZ.out.lt)
  replace HA := hide (HA.out.below hb HA.out.lt)
  replace HB := hide (HB.out.below hb HB.out.lt)
  have HB1 := hide (HB0.out.trans (hb.mono HB0.out.size))
  clear hb HV HB0
  have hdx := HZ.out.alloc (.cells #[.slice d.P d.zs.length d.cap, .bool d.u] 24)
  have hbx := HB1.out.alloc HB1.out.size (.cells #[.slice d.P d.zs.length d.cap, .bool d.u] 24)
  by_cases hf : Cel.fault [a, b] (Mat.code za zb a.look b.look) = (0, none)
  case neg =>
    have hE := hx.errv hfc hf
    obtain ⟨z0, z1, z2, zf0, zf1, zf2, HZf, HFf⟩ := elm_three hdx hbx (Nat.le_add_right _ 2) (.slice none 0 0) (.bool false) (.slice none 0 0)
    have HXX := hide ((hx.down ((Below.refl _ _).alloc (Nat.le_refl _) (.cells #[.slice d.P d.zs.length d.cap, .bool d.u] 24))).fart3 hdx (by decide) (.slice none 0 0) (.bool false) (.slice none 0 0))
    have r1 := run_neqerr hE
    have r2 := run_neqguard hE
    have HN := hide hf
    clear hdi hdf hdz hdu hx hdx hbx hf hfc hE HFi HIa HIb HE2 HQ HA HB
    go_wp2_with fail
    refine bodyPost_ret (results_tn rfl _ _ (w.heap.size + 2) _ _ _ rfl HZf.out) rfl ?_
    exact TenE.bad rfl HN.out HXX.out HFf.out
  case pos =>
    obtain ⟨M, K, N, hfi⟩ := HFi.out hf
    have hor : ∀ {α : Type} (p q : α), Cel.or [a, b] (Mat.code za zb a.look b.look) p q = p := fun p q => by
      unfold Cel.or
      rw [if_pos hf]
    rw [hor, hfi.sh] at hdz
    rw [hor, hfi.kd] at hdu
    rw [hf] at hx
    obtain rfl : x = .nilIface := hx
    have HN := hide hf
    have HFI := hide hfi
    have hdzl : d.zs.length = 2 := by rw [hdz]; rfl
    have hri := hdi.shp
    rw [hdz] at hri
    rw [hdzl, hdu] at hdx hbx ⊢
    obtain ⟨W2, hW2⟩ : ∃ W, W = ((w1.alloc (.cells #[.slice d.P 2 d.cap, .bool true] 24)).alloc (.cells #[.int .i64 za, .int .i64 zb] 3)).alloc (.cells ([a, b].flatMap Ten.vals).toArray 26) := ⟨_, rfl⟩
    have hb2 : Below w1.heap.size w1 W2 := by rw [hW2]; exact (((Below.refl _ _).alloc (Nat.le_refl _) _).alloc (by simp) _).alloc (by simp; omega) _
    have hI2 : Has W2 (w1.heap.size + 1) 3 (i64s [za, zb]) := by rw [hW2]; exact (box_at _ 3 [.int .i64 za, .int .i64 zb] _ (by simp)).alloc _
    have hT2 : Has W2 (w1.heap.size + 2) 26 ([a, b].flatMap Ten.vals) := by rw [hW2]; exact box_at _ _ _ _ (by simp)
    have hB2 := HB1.out.trans (hb2.mono HB1.out.size)
    have HAl := hide (mall_c za zb a b M K N hfi d.P d.cap true (some ⟨w1.heap.size + 1, 0, none⟩) (some ⟨w1.heap.size + 2, 0, none⟩) 2 2 am ar W2 (hri.below hb2) (HE2.out _ hB2) (hI2.ri HQ.out) hT2.row (HIa.out _ hB2) (HIb.out _ hB2))
    have HZ2 := hide (HZ.out.below hb2 HZ.out.lt)
    have HB2 := hide hB2
    have HRI := hide (hri.below hb2)
    have HDF := hide hdf
    have HW2 := hide hW2
    have HWS : Hid (w1.heap.size ≤ W2.heap.size) := hide hb2.size
    unfold Ten.vals at HA HB HW2
    simp only [List.flatMap_cons, List.flatMap_nil, List.append_nil, List.cons_append, List.nil_append] at HW2
    have a0 := HA.out.cell 0
    have a1 := HA.out.cell 1
    have a2 := HA.out.cell 2
    have b0 := HB.out.cell 0
    have b1 := HB.out.cell 1
    have b2 := HB.out.cell 2
    have hal := HA.out.lt
    have hbl := HB.out.lt
    clear hdi hdf hdz hdx hbx hf hfc hfi hri hW2 hb2 hI2 hT2 hB2 HFi HIa HIb HE2 HQ hor hdzl hdu HZ HB1 HA HB
    go_wp2_with fail
    rw [← HW2.out]
    clear HW2 a0 a1 a2 b0 b1 b2
    refine HAl.out.mono ?_
    rintro e w3 ⟨⟨g, rfl, hg, hG⟩, hb⟩
    have hZ3 := HZ2.out.below hb HZ2.out.lt
    have hB3 := HB2.out.trans (hb.mono HB2.out.size)
    have hR3 := HRI.out.below hb
    obtain ⟨z0, z1, z2, zf0, zf1, zf2, HZf, HFf⟩ := elm_three hZ3 hB3 (Nat.le_add_right _ 2) (.slice d.P 2 d.cap) (.bool true) (.slice (some ⟨g, 0, none⟩) (M * N) (M * N))
    have hdfr := HDF.out
    have hws := HWS.out
    have hmn := HFI.out.mn
    have ht : Ten.In w3 ⟨d.P, [(M : Int), (N : Int)], d.cap, true, some ⟨g, 0, none⟩, Mat.part a.ds b.ds za zb K N 0 (M * N), M * N⟩ := ⟨hR3, hG.ri (Mat.part_wf _ _ _ _ _ _ _ _), by show 2 ≤ 1000000; omega, by rw [Mat.part_length]; omega⟩
    have htf : Ten.Fresh (w.heap.size + 2 + 1) ⟨d.P, [(M : Int), (N : Int)], d.cap, true, some ⟨g, 0, none⟩, Mat.part a.ds b.ds za zb K N 0 (M * N), M * N⟩ := ⟨fun ad h => by have := hdfr ad h; omega, fun ad h => by cases h; show w.heap.size + 2 + 1 ≤ g; omega⟩
    have HT := hide (ht.far3 htf (.slice d.P 2 d.cap) (.bool true) (.slice (some ⟨g, 0, none⟩) (M * N) (M * N)))
    have HTF := hide (htf.le (m := w.heap.size + 1) (by omega))
    have HGf := hide (((hG.far (p := ⟨w.heap.size + 2, 0, none⟩) (by simp; omega) (.slice d.P 2 d.cap)).far (p := ⟨w.heap.size + 2, 1, none⟩) (by simp; omega) (.bool true)).far (p := ⟨w.heap.size + 2, 2, none⟩) (by simp; omega) (.slice (some ⟨g, 0, none⟩) (M * N) (M * N)))
    clear HAl hb hZ3 hB3 hR3 hG hdfr hws hmn ht htf
    go_wp2_with fail
    refine bodyPost_ret (results_tn rfl _ _ (w.heap.size + 2) _ _ _ rfl HZf.out) rfl ?_
    refine ⟨⟨⟨d.P, [(M : Int), (N : Int)], d.cap, true, some ⟨g, 0, none⟩, Mat.part a.ds b.ds za zb K N 0 (M * N), M * N⟩, .nilIface, ?_, HT.out, HTF.out, ?_, ?_, ?_, ?_, fun _ => ⟨g, rfl, (Mat.part_length _ _ _ _ _ _ _ _).symm, HGf.out⟩⟩, HFf.out⟩
    · rw [Mat.part_length]
      rfl
    · rw [if_pos HN.out, HFI.out.sh]
    · rw [if_pos HN.out, HFI.out.kd]
    · rw [if_pos HN.out, HFI.out.ds]
    · rw [HN.out]
      rfl
/-- An element of a product; 0 of a place that is none, and where there is no product. -/
def Mat.cell (za zb : Int) (a b : Ten) (i : Int) : Int := if Cel.fault [a, b] (Mat.code za zb a.look b.look) = (0, none) then (if 0 ≤ i then (Mat.ds za zb a b).getD i.toNat 0 else 0) else 0
theorem Mat.part_one (xs ys : List Int) (za zb : Int) (inner n m k : Nat) (hk : k < m) : Mat.part xs ys za zb inner n k 1 = [(Mat.part xs ys za zb inner n 0 m).getD k 0] := by
  rw [List.getD_eq_getElem?_getD, Mat.part_at _ _ _ _ _ _ _ _ _ hk]
  simp [Mat.part]
theorem Mat.prod_two (M N : Nat) (h1 : 1 ≤ M) (h2 : M ≤ 256) (h3 : 1 ≤ N) (h4 : N ≤ 256) (h : M * N ≤ 16384) : Shp.code [(M : Int), (N : Int)] = 0 ∧ Shp.elems [(M : Int), (N : Int)] = ((M * N : Nat) : Int) := by
  have hc : Shp.code [(M : Int), (N : Int)] = 0 := by
    unfold Shp.code
    have e1 : Shp.prod [(M : Int), (N : Int)] = ((M * N : Nat) : Int) := by simp [Shp.prod]
    rw [if_neg (by show ¬ 4 < 2; omega), if_neg (by simp [Shp.okDim]; omega), if_neg (by rw [e1]; omega)]
  refine ⟨hc, ?_⟩
  rw [(Shp.whole hc).2.2.1]
  simp [Shp.prod]
set_option maxRecDepth 100000 in
set_option maxHeartbeats 8000000 in
theorem mcell_c (a b : Ten) (za zb i : Int) (ah am ar : Addr) (w : World) (ha : a.In w) (hb : b.In w) (hzz : ∀ q ∈ [za, zb], (Lit.int .i64 q).wf = true) (hi : -9223372036854775808 ≤ i ∧ i ≤ 9223372036854775807) (hE : E3 w ah am ar) :
    Calls Tryd.prog 24 #[.agg (tcells a.P a.zs.length a.cap a.u a.D a.ds.length a.dcap), .agg (tcells b.P b.zs.length b.cap b.u b.D b.ds.length b.dcap), .int .i64 za, .int .i64 zb, .int .i64 i] w fun e w' => e = .returned (.int .i64 (Mat.cell za zb a b i)) ∧ Below w.heap.size w w' := by
  obtain ⟨W0, hW0⟩ : ∃ W, W = ((w.alloc (.cells a.vals.toArray 26)).alloc (.cells b.vals.toArray 26)) := ⟨_, rfl⟩
  have HA : Hid (Has W0 w.heap.size 26 a.vals) := hide (by rw [hW0]; exact (Has.new w 26 a.vals).alloc _)
  have HB : Hid (Has W0 (w.heap.size + 1) 26 b.vals) := hide (by rw [hW0]; exact box_at _ _ _ _ (by simp))
  have HB0 : Hid (Below w.heap.size w W0) := hide (by rw [hW0]; exact ((Below.refl _ _).alloc (Nat.le_refl _) _).alloc (by simp) _)
  have HV := hide (mlook_c a b za zb ah am ar W0 (ha.below HB0.out) (hb.below HB0.out) (hE.below HB0.out))
  have HIa := hide (fun W (h : Below w.heap.size w W) => ha.below h)
  have HIb := hide (fun W (h : Below w.heap.size w W) => hb.below h)
  have HE2 := hide (fun W (h : Below w.heap.size w W) => hE.2.below h)
  have HFi := hide (fun h : Cel.fault [a, b] (Mat.code za zb a.look b.look) = (0, none) => Mat.fine h)
  have hfc := Cel.fault_cases (ts := [a, b]) (Mat.code_known za zb a.look b.look)
  have HW := hide hW0
  have HQ := hide hzz
  have HI := hide hi
  unfold Ten.vals at HW
  clear ha hb hE hW0 hzz hi
  go_enter Tryd.func24, Tryd.ntmps24
  go_wp2_with fail
  rw [← HW.out]
  clear HW
  refine HV.out.mono ?_
  rintro e w1 ⟨⟨d, x, rfl, hdi, hdf, hdz, hdu, hx⟩, hb⟩
  replace HA := hide (HA.out.below hb HA.out.lt)
  replace HB := hide (HB.out.below hb HB.out.lt)
  have HB1 := hide (HB0.out.trans (hb.mono HB0.out.size))
  clear hb HV HB0
  by_cases hf : Cel.fault [a, b] (Mat.code za zb a.look b.look) = (0, none)
  case neg =>
    have hE := hx.errv hfc hf
    have HBf := hide (HB1.out.alloc HB1.out.size (.cells #[.slice d.P d.zs.length d.cap, .bool d.u] 24))
    have HV0 : Hid (Mat.cell za zb a b i = 0) := hide (by unfold Mat.cell; rw [if_neg hf])
    have r1 := run_neqerr hE
    have r2 := run_neqguard hE
    clear hdi hdf hdz hdu hx hf hfc hE HFi HIa HIb HE2 HQ HA HB HI
    go_wp2_with fail
    go_ret
    exact ⟨by rw [HV0.out]; rfl, HBf.out⟩
  case pos =>
    obtain ⟨M, K, N, hfi⟩ := HFi.out hf
    have hor : ∀ {α : Type} (p q : α), Cel.or [a, b] (Mat.code za zb a.look b.look) p q = p := fun p q => by
      unfold Cel.or
      rw [if_pos hf]
    rw [hor, hfi.sh] at hdz
    rw [hor, hfi.kd] at hdu
    rw [hf] at hx
    obtain rfl : x = .nilIface := hx
    have hdzl : d.zs.length = 2 := by rw [hdz]; rfl
    have hri := hdi.shp
    rw [hdz] at hri
    rw [hdzl, hdu]
    obtain ⟨W2, hW2⟩ : ∃ W, W = ((w1.alloc (.cells #[.slice d.P 2 d.cap, .bool true] 24)).alloc (.cells #[.int .i64 za, .int .i64 zb] 3)).alloc (.cells ([a, b].flatMap Ten.vals).toArray 26) := ⟨_, rfl⟩
    have hb2 : Below w1.heap.size w1 W2 := by rw [hW2]; exact (((Below.refl _ _).alloc (Nat.le_refl _) _).alloc (by simp) _).alloc (by simp; omega) _
    have hI2 : Has W2 (w1.heap.size + 1) 3 (i64s [za, zb]) := by rw [hW2]; exact (box_at _ 3 [.int .i64 za, .int .i64 zb] _ (by simp)).alloc _
    have hT2 : Has W2 (w1.heap.size + 2) 26 ([a, b].flatMap Ten.vals) := by rw [hW2]; exact box_at _ _ _ _ (by simp)
    have hB2 := HB1.out.trans (hb2.mono HB1.out.size)
    obtain ⟨hpc, hpe⟩ := Mat.prod_two M N hfi.m1 hfi.m2 hfi.n1 hfi.n2 hfi.mn
    have hel : Mat.cell za zb a b i = if 0 ≤ i then (Mat.part a.ds b.ds za zb K N 0 (M * N)).getD i.toNat 0 else 0 := by
      unfold Mat.cell
      rw [if_pos hf, hfi.ds]
    have HO := hide (one_any [(M : Int), (N : Int)] d.P d.cap true 12 i (Mat.cell za zb a b i) (some ⟨w1.heap.size + 1, 0, none⟩) (some ⟨w1.heap.size + 2, 0, none⟩) 2 2 2 2 am ar W2 (hri.below hb2) (by show 2 ≤ 1000000; omega) (HE2.out _ hB2) HI.out.2 HI.out.1
      (fun h => by
        rw [hpe] at h
        rw [hel]
        by_cases h0 : 0 ≤ i
        · rw [if_pos h0, List.getD_eq_getElem?_getD, List.getElem?_eq_none (by rw [Mat.part_length]; omega)]
          rfl
        · rw [if_neg h0])
      (fun k W hk hlt hB => by
        rw [hpe] at hlt
        have h := mof_c za zb a b M K N hfi (some ⟨w1.heap.size + 1, 0, none⟩) (some ⟨w1.heap.size + 2, 0, none⟩) 2 2 k 1 W ((hI2.ri HQ.out).below hB) (hT2.row.below hB) ((HIa.out _ hB2).below hB) ((HIb.out _ hB2).below hB) (by omega)
        rw [Mat.part_one _ _ _ _ _ _ (M * N) k (by omega)] at h
        rw [hel, if_pos (by omega), hk, Int.toNat_natCast]
        exact h))
    have HB2 := hide hB2
    have HW2 := hide hW2
    unfold Ten.vals at HA HB HW2
    simp only [List.flatMap_cons, List.flatMap_nil, List.append_nil, List.cons_append, List.nil_append] at HW2
    have a0 := HA.out.cell 0
    have a1 := HA.out.cell 1
    have a2 := HA.out.cell 2
    have b0 := HB.out.cell 0
    have b1 := HB.out.cell 1
    have b2 := HB.out.cell 2
    have hal := HA.out.lt
    have hbl := HB.out.lt
    obtain ⟨v, hv⟩ : ∃ v, Hid (Mat.cell za zb a b i = v) := ⟨_, hide rfl⟩
    rw [hv.out] at HO
    clear hdi hdf hdz hf hfc hfi hri hW2 hb2 hI2 hT2 hB2 HFi HIa HIb HE2 HQ hor hdzl hdu HB1 HA HB hel hpc hpe
    go_wp2_with fail
    rw [← HW2.out]
    clear HW2 a0 a1 a2 b0 b1 b2
    refine HO.out.mono ?_
    rintro e w3 ⟨rfl, hb⟩
    have HBf := hide (HB2.out.trans (hb.mono HB2.out.size))
    clear HO hb
    go_wp2_with fail
    go_ret
    exact ⟨by rw [hv.out]; rfl, HBf.out⟩
/-- What is amiss with one turned: the error's number. -/
def Mat.tcode (d : Dsc) : Nat := if Shp.code d.zs ≠ 0 then Shp.code d.zs else if d.zs.length ≠ 2 then 101 else 0
theorem Mat.tcode_known (d : Dsc) : Cel.known (Mat.tcode d) := by
  unfold Mat.tcode
  split
  · exact Cel.known_shp _
  split
  · exact .inr (.inl rfl)
  · exact .inl rfl
def Mat.tzs (a : Ten) : List Int := [a.zs.getD 1 0, a.zs.getD 0 0]
def Mat.tds (a : Ten) : List Int := Mat.turn a.ds (a.zs.getD 0 0).toNat (a.zs.getD 1 0).toNat 0 ((a.zs.getD 1 0).toNat * (a.zs.getD 0 0).toNat)
structure Mat.TFine (a : Ten) (M N : Nat) : Prop where
  az : a.zs = [(M : Int), (N : Int)]
  m1 : 1 ≤ M
  m2 : M ≤ 256
  n1 : 1 ≤ N
  n2 : N ≤ 256
  al : a.ds.length = M * N
  mn : M * N ≤ 16384
  ft : ∀ z ∈ a.ds, Tens.fit a.u z = true
theorem Mat.tfine {a : Ten} (h : Cel.fault [a] (Mat.tcode a.look) = (0, none)) : ∃ M N : Nat, Mat.TFine a M N := by
  obtain ⟨h1, h2⟩ := Cel.fine h
  have hfa := Tens.whole (Tens.first_fine _ h1 a (by simp))
  have hwa := Shp.whole hfa.1
  unfold Mat.tcode at h2
  rw [if_neg (by rw [show Shp.code a.look.zs = 0 from hfa.1]; simp)] at h2
  have hal : a.zs.length = 2 := Classical.byContradiction fun e => by rw [if_pos (show a.look.zs.length ≠ 2 from e)] at h2; cases h2
  obtain ⟨x0, x1, hx⟩ : ∃ x y, a.zs = [x, y] := by
    match h : a.zs, hal with
    | [x, y], _ => exact ⟨x, y, rfl⟩
  rw [hx] at hfa hwa
  have d0 := hwa.2.1 x0 (by simp)
  have d1 := hwa.2.1 x1 (by simp)
  obtain ⟨M, rfl⟩ : ∃ n : Nat, x0 = n := ⟨x0.toNat, by omega⟩
  obtain ⟨N, rfl⟩ : ∃ n : Nat, x1 = n := ⟨x1.toNat, by omega⟩
  have e2 : Shp.prod [(M : Int), (N : Int)] = ((M * N : Nat) : Int) := by simp [Shp.prod]
  have hwp := hwa.2.2.2.2
  rw [e2] at hfa hwp
  exact ⟨M, N, hx, by omega, by omega, by omega, by omega, Int.ofNat.inj hfa.2.1, by omega, hfa.2.2⟩
theorem Mat.turn_wf (ds : List Int) (u : Bool) (m n f k : Nat) (h : ∀ z ∈ ds, Tens.fit u z = true) : ∀ z ∈ Mat.turn ds m n f k, (Lit.int .i64 z).wf = true := by
  intro z hz
  unfold Mat.turn at hz
  obtain ⟨i, -, rfl⟩ := List.mem_map.1 hz
  rw [List.getD_eq_getElem?_getD]
  cases e : ds[(f + i) % m * n + (f + i) / m]? with
  | none => exact wf_i64 _ (by decide)
  | some q => exact wf_i64 _ (by have := fit_any (h q (List.mem_of_getElem? e)); rw [Option.getD_some]; omega)
/-- cells.Of one turned. -/
theorem tof_turn (a : Ten) (M N : Nat) (hf : Mat.TFine a M N) (A B : Option Addr) (nq qcap bcap f n : Nat) (w : World) (hR : Row w B ([a].flatMap Ten.vals)) (ha : a.In w) (hn : f + n ≤ M * N) :
    Calls Tryd.prog 70 #[.int .i64 21, .slice A nq qcap, .int .i64 f, .int .i64 ((f + n : Nat) : Int), .slice B 1 bcap] w fun e w' => (∃ g, e = .returned (.slice (some ⟨g, 0, none⟩) n n) ∧ w.heap.size ≤ g ∧ Has w' g 3 (i64s (Mat.turn a.ds M N f n))) ∧ Below w.heap.size w w' := by
  have hmn := hf.mn
  refine of_any (Mat.turn a.ds M N f n) 21 A B nq qcap 1 bcap f n w (by omega) fun W g hB hg hG => ?_
  refine fill_turn _ a A B nq qcap bcap n f n (some ⟨g, 0, none⟩) W (hR.below hB) ?_
  have h := turn_c (List.replicate n 0) a M N n f g w W hf.az hf.al hf.m1 (by omega) ha hB hg hG (by rw [List.length_replicate]; exact hn)
  rw [List.length_replicate] at h
  exact h
theorem tall_c (a : Ten) (M N : Nat) (hf : Mat.TFine a M N) (P : Option Addr) (cap : Nat) (u : Bool) (A B : Option Addr) (nq qcap bcap : Nat) (am ar : Addr) (w : World) (hr : Ri w P [(N : Int), (M : Int)]) (hE : E2 w am ar) (hR : Row w B ([a].flatMap Ten.vals)) (ha : a.In w) :
    Calls Tryd.prog 43 #[.agg (dcells P 2 cap u), .int .i64 21, .slice A nq qcap, .slice B 1 bcap] w fun e w' => (∃ g, e = .returned (.agg (tcells P 2 cap u (some ⟨g, 0, none⟩) (N * M) (N * M))) ∧ w.heap.size < g ∧ Has w' g 3 (i64s (Mat.turn a.ds M N 0 (N * M)))) ∧ Below w.heap.size w w' := by
  have hmn := hf.mn
  rw [Nat.mul_comm] at hmn
  have hpe := (Mat.prod_two N M hf.n1 hf.n2 hf.m1 hf.m2 hmn).2
  have h := all_c [(N : Int), (M : Int)] (Mat.turn a.ds M N 0 (N * M)) P cap u 21 A B nq qcap 1 bcap am ar w hr (by show 2 ≤ 1000000; omega) hE (by rw [Mat.turn_length, hpe]) fun W hB => by
    have h := tof_turn a M N hf A B nq qcap bcap 0 (N * M) W (hR.below hB) (ha.below hB) (by rw [Nat.mul_comm N M]; omega)
    rw [Nat.zero_add] at h
    rw [Mat.turn_length]
    exact h
  rw [Mat.turn_length] at h
  exact h
set_option maxRecDepth 100000 in
set_option maxHeartbeats 8000000 in
theorem mturn_c (a : Ten) (ah am ar : Addr) (w : World) (ha : a.In w) (hE : E3 w ah am ar) :
    Calls Tryd.prog 19 #[.agg (tcells a.P a.zs.length a.cap a.u a.D a.ds.length a.dcap)] w (TenE w ah am ar (Cel.fault [a] (Mat.tcode a.look)) (Mat.tzs a) a.u (Mat.tds a)) := by
  obtain ⟨W0, hW0⟩ : ∃ W, W = ((w.alloc (.cells a.vals.toArray 26)).alloc (.cells #[.slice none 0 0, .bool false, .slice none 0 0] 26)) := ⟨_, rfl⟩
  have HA : Hid (Has W0 w.heap.size 26 a.vals) := hide (by rw [hW0]; exact (Has.new w 26 a.vals).alloc _)
  have HZ : Hid (Has W0 (w.heap.size + 1) 26 [.slice none 0 0, .bool false, .slice none 0 0]) := hide (by rw [hW0]; exact box_at _ _ _ _ (by simp))
  have HB0 : Hid (Below w.heap.size w W0) := hide (by rw [hW0]; exact ((Below.refl _ _).alloc (Nat.le_refl _) _).alloc (by simp) _)
  have HV := hide (tvalid_c a.zs a.ds a.P a.D a.cap a.dcap a.u ah am ar W0 (ha.below HB0.out).shp (ha.below HB0.out).dat (by have := ha.ls; omega) (by have := ha.ld; omega) (hE.below HB0.out))
  have HIa := hide (fun W (h : Below w.heap.size w W) => ha.below h)
  have HE2 := hide (fun W (h : Below w.heap.size w W) => hE.2.below h)
  have HEs := hide hE.1
  have HW := hide hW0
  have hfc := tfault_cases a.zs a.u a.ds
  unfold Ten.vals at HW HA
  clear ha hE hW0
  go_enter Tryd.func19, Tryd.ntmps19
  go_wp2_with fail
  rw [← HW.out]
  clear HW
  refine HV.out.mono ?_
  rintro e w1 ⟨⟨x, rfl, hx⟩, hb⟩
  replace HZ := hide (HZ.out.below hb HZ.out.lt)
  replace HA := hide (HA.out.below hb HA.out.lt)
  have HB1 := hide (HB0.out.trans (hb.mono HB0.out.size))
  clear hb HV HB0
  by_cases hf : Tens.fault a.zs a.u a.ds = (0, none)
  case neg =>
    have hE := hx.errv hfc hf
    have hF : Cel.fault [a] (Mat.tcode a.look) = Tens.fault a.zs a.u a.ds := Cel.one_bad hf
    obtain ⟨z0, z1, z2, zf0, zf1, zf2, HZf, HFf⟩ := elm_three HZ.out HB1.out (Nat.le_add_right _ 1) (.slice none 0 0) (.bool false) (.slice none 0 0)
    have HXX := hide (hx.fart3 HZ.out (by decide) (.slice none 0 0) (.bool false) (.slice none 0 0))
    have HF := hide hF
    have HN := hide hf
    have r1 := run_neqerr hE
    have r2 := run_neqguard hE
    clear hx hf hfc hE HIa HE2 HEs HA hF
    go_wp2_with fail
    refine bodyPost_ret (results_tn rfl _ _ (w.heap.size + 1) _ _ _ rfl HZf.out) rfl ?_
    rw [HF.out]
    exact TenE.bad rfl HN.out HXX.out HFf.out
  case pos =>
  have hF : Cel.fault [a] (Mat.tcode a.look) = (Mat.tcode a.look, none) := Cel.one_good hf
  have hcz : Shp.code a.zs = 0 := (fine_len hf).2
  rw [hf] at hx
  obtain rfl : x = .nilIface := hx
  have a0 : w1.cell? ⟨w.heap.size, 0, none⟩ = some (.slice a.P a.zs.length a.cap) := HA.out.cell 0
  have a1 : w1.cell? ⟨w.heap.size, 1, none⟩ = some (.bool a.u) := HA.out.cell 1
  by_cases hl : a.zs.length = 2
  case neg =>
    have hF2 : Cel.fault [a] (Mat.tcode a.look) = (101, none) := by
      rw [hF]
      unfold Mat.tcode
      rw [if_neg (by rw [show Shp.code a.look.zs = 0 from hcz]; simp), if_pos (by exact hl)]
    obtain ⟨n, hn⟩ : ∃ n, Hid (a.zs.length = n) := ⟨_, hide rfl⟩
    rw [hn.out] at a0 hl
    have hni : ((n : Int) != 2) = true := by simp; omega
    have HF := hide hF2
    obtain ⟨z0, z1, z2, zf0, zf1, zf2, HZf, HFf⟩ := elm_threed HZ.out HB1.out (Nat.le_add_right _ 1) (.slice none 0 0) (.bool false) (.slice none 0 0)
    have hs5 : w1.drew.cell? ⟨0, 0, none⟩ = some (errv ah) := (HEs.out.below HB1.out).1
    have hglt : 0 < w.heap.size := HEs.out.2.1
    have hS9 := hide (HEs.out.below HFf.out).1
    clear hf hfc hF hF2 hcz hl HIa HE2 HA
    go_wp2_with fail
    go_region_held3 (fun W => W.cell? ⟨0, 0, none⟩ = some (errv ah))
      (first | exact hs5 | assumption | exact hS9.out)
      (first | fail)
    go_wp2_with fail
    refine bodyPost_ret (results_tn rfl _ _ (w.heap.size + 1) _ _ _ rfl HZf.out) rfl ?_
    rw [HF.out]
    exact TenE.bad rfl (by simp) rfl HFf.out
  case pos =>
    have hF2 : Cel.fault [a] (Mat.tcode a.look) = (0, none) := by
      rw [hF]
      unfold Mat.tcode
      rw [if_neg (by rw [show Shp.code a.look.zs = 0 from hcz]; simp), if_neg (by exact fun h => h hl)]
    obtain ⟨M, N, hfi⟩ := Mat.tfine hF2
    have HTF := hide hfi
    have HN := hide hF2
    have hra := (HIa.out w1 HB1.out).shp
    rw [hfi.az] at hra
    obtain ⟨pa, hpa', p0, p1⟩ := ri_pair hra
    have hpal : pa.block < w1.heap.size := by obtain ⟨ad, h1, h2, -⟩ := hra.2 (by simp); rw [hpa'] at h1; rw [Option.some.inj h1]; exact h2
    have hpa := hide hpa'
    have hzl := hide hl
    have HWF : Hid (∀ q ∈ [(N : Int), (M : Int)], (Lit.int .i64 q).wf = true) := hide (by
      intro q hq
      simp at hq
      rcases hq with rfl | rfl
      · exact hra.1 _ (by simp)
      · exact hra.1 _ (by simp))
    rw [hpa', hl] at a0 HA
    have hbz : Below w1.heap.size w1 (w1.alloc (.cells #[.slice none 0 0, .bool false] 24)) := (Below.refl _ _).alloc (Nat.le_refl _) _
    have a0z : (w1.alloc (.cells #[.slice none 0 0, .bool false] 24)).cell? ⟨w.heap.size, 0, none⟩ = some (.slice (some pa) 2 a.cap) := (hbz.cell (p := ⟨w.heap.size, 0, none⟩) HA.out.lt).trans a0
    have a1z : (w1.alloc (.cells #[.slice none 0 0, .bool false] 24)).cell? ⟨w.heap.size, 1, none⟩ = some (.bool a.u) := (hbz.cell (p := ⟨w.heap.size, 1, none⟩) HA.out.lt).trans a1
    have p0z : (w1.alloc (.cells #[.slice none 0 0, .bool false] 24)).cell? pa = some (.int .i64 M) := (hbz.cell hpal).trans p0
    have p1z : (w1.alloc (.cells #[.slice none 0 0, .bool false] 24)).cell? ⟨pa.block, pa.off + 1, none⟩ = some (.int .i64 N) := (hbz.cell (p := ⟨pa.block, pa.off + 1, none⟩) hpal).trans p1
    have hby : Below w1.heap.size w1 (w1.alloc (.cells #[.int .i64 N, .int .i64 M] 3)) := (Below.refl _ _).alloc (Nat.le_refl _) _
    have hbw : Below w1.heap.size w1 ((w1.alloc (.cells #[.slice none 0 0, .bool false] 24)).alloc (.cells #[.int .i64 N, .int .i64 M] 3)) := hbz.alloc (by simp) _
    have a1y : (w1.alloc (.cells #[.int .i64 N, .int .i64 M] 3)).cell? ⟨w.heap.size, 1, none⟩ = some (.bool a.u) := (hby.cell (p := ⟨w.heap.size, 1, none⟩) HA.out.lt).trans a1
    have a1w : ((w1.alloc (.cells #[.slice none 0 0, .bool false] 24)).alloc (.cells #[.int .i64 N, .int .i64 M] 3)).cell? ⟨w.heap.size, 1, none⟩ = some (.bool a.u) := (hbw.cell (p := ⟨w.heap.size, 1, none⟩) HA.out.lt).trans a1
    have hbv : Below w1.heap.size w1 ((w1.alloc (.cells #[.int .i64 N, .int .i64 M] 3)).alloc (.cells #[.slice none 0 0, .bool false] 24)) := hby.alloc (by simp) _
    have a1v : ((w1.alloc (.cells #[.int .i64 N, .int .i64 M] 3)).alloc (.cells #[.slice none 0 0, .bool false] 24)).cell? ⟨w.heap.size, 1, none⟩ = some (.bool a.u) := (hbv.cell (p := ⟨w.heap.size, 1, none⟩) HA.out.lt).trans a1
    clear hbv hbz hby hbw hf hfc hF hF2 hcz hl hra hfi hpa' HEs
    go_wp2_with fail
    go_region
    · obtain ⟨W4, hW4⟩ : ∃ W, W = ((w1.alloc (.cells #[.int .i64 N, .int .i64 M] 3)).alloc (.cells #[.slice (some ⟨w1.heap.size, 0, none⟩) 2 2, .bool a.u] 24)).drew := ⟨_, rfl⟩
      have hb4 : Below w1.heap.size w1 W4 := by rw [hW4]; exact (((Below.refl _ _).alloc (Nat.le_refl _) _).alloc (by simp) _).drew
      have HD : Hid (Has W4 (w1.heap.size + 1) 24 [.slice (some ⟨w1.heap.size, 0, none⟩) 2 2, .bool a.u]) := hide (by rw [hW4]; exact Has.drewN (box_at _ 24 [.slice (some ⟨w1.heap.size, 0, none⟩) 2 2, .bool a.u] _ (by simp)) 1)
      have HI : Hid (Has W4 (w1.heap.size) 3 (i64s [(N : Int), (M : Int)])) := hide (by rw [hW4]; exact Has.drewN ((Has.new w1 3 [.int .i64 N, .int .i64 M]).alloc _) 1)
      have HFr : Hid (w.heap.size + 2 ≤ w1.heap.size) := hide (by have := HZ.out.lt; omega)
      have HWS : Hid (w1.heap.size < W4.heap.size) := hide HI.out.lt
      have HW1S : Hid (w.heap.size + 2 ≤ W4.heap.size) := hide (by have := HZ.out.lt; have := hb4.size; omega)
      replace HA := hide (HA.out.below hb4 HA.out.lt)
      replace HZ := hide (HZ.out.below hb4 HZ.out.lt)
      replace HB1 := hide (HB1.out.trans (hb4.mono HB1.out.size))
      rw [← hW4]
      have d0 : W4.cell? ⟨w1.heap.size + 1, 0, none⟩ = some (.slice (some ⟨w1.heap.size, 0, none⟩) 2 2) := HD.out.cell 0
      have d1 : W4.cell? ⟨w1.heap.size + 1, 1, none⟩ = some (.bool a.u) := HD.out.cell 1
      have e0 : W4.cell? ⟨w.heap.size, 0, none⟩ = some (.slice (some pa) 2 a.cap) := HA.out.cell 0
      have e1 : W4.cell? ⟨w.heap.size, 1, none⟩ = some (.bool a.u) := HA.out.cell 1
      have e2 : W4.cell? ⟨w.heap.size, 2, none⟩ = some (.slice a.D a.ds.length a.dcap) := HA.out.cell 2
      obtain ⟨W5, hW5⟩ : ∃ W, W = W4.alloc (.cells ([a].flatMap Ten.vals).toArray 26) := ⟨_, rfl⟩
      have hb5 : Below W4.heap.size W4 W5 := by rw [hW5]; exact (Below.refl _ _).alloc (Nat.le_refl _) _
      have hT5 : Has W5 W4.heap.size 26 ([a].flatMap Ten.vals) := by rw [hW5]; exact Has.new _ _ _
      have HB5 := hide (HB1.out.trans (hb5.mono HB1.out.size))
      have HI5 := hide (HI.out.below hb5 HI.out.lt)
      have HZ5 := hide (HZ.out.below hb5 HZ.out.lt)
      have HAl := hide (tall_c a M N HTF.out (some ⟨w1.heap.size, 0, none⟩) 2 a.u none (some ⟨W4.heap.size, 0, none⟩) 0 0 1 am ar W5 (HI5.out.ri HWF.out) (HE2.out _ HB5.out) hT5.row (HIa.out _ HB5.out))
      have HW5 := hide hW5
      have HW5S : Hid (W4.heap.size ≤ W5.heap.size) := hide hb5.size
      unfold Ten.vals at HW5
      simp only [List.flatMap_cons, List.flatMap_nil, List.append_nil] at HW5
      rw [hpa.out, hzl.out] at HW5
      clear hW4 hb4 hW5 hb5 hT5 HIa HE2 a0 a1 a0z a1z a1y a1w a1v p0 p1 p0z p1z hpal HA HB1 HZ HI HD
      go_wp2_with fail
      rw [← HW5.out]
      clear HW5 d0 d1 e0 e1 e2
      refine HAl.out.mono ?_
      rintro e w6 ⟨⟨g, rfl, hg, hG⟩, hb⟩
      have hZ6 := HZ5.out.below hb HZ5.out.lt
      have hB6 := HB5.out.trans (hb.mono HB5.out.size)
      have hI6 := HI5.out.below hb HI5.out.lt
      obtain ⟨z0, z1, z2, zf0, zf1, zf2, HZf, HFf⟩ := elm_three hZ6 hB6 (Nat.le_add_right _ 1) (.slice (some ⟨w1.heap.size, 0, none⟩) 2 2) (.bool a.u) (.slice (some ⟨g, 0, none⟩) (N * M) (N * M))
      have hfr := HFr.out
      have hws := HW5S.out
      have hw1s := HW1S.out
      have hmn := HTF.out.mn
      have ht : Ten.In w6 ⟨some ⟨w1.heap.size, 0, none⟩, [(N : Int), (M : Int)], 2, a.u, some ⟨g, 0, none⟩, Mat.turn a.ds M N 0 (N * M), N * M⟩ := ⟨hI6.ri HWF.out, hG.ri (Mat.turn_wf _ a.u _ _ _ _ HTF.out.ft), by show 2 ≤ 1000000; omega, by rw [Mat.turn_length, Nat.mul_comm]; omega⟩
      have htf : Ten.Fresh (w.heap.size + 1 + 1) ⟨some ⟨w1.heap.size, 0, none⟩, [(N : Int), (M : Int)], 2, a.u, some ⟨g, 0, none⟩, Mat.turn a.ds M N 0 (N * M), N * M⟩ := ⟨fun ad h => by cases h; exact hfr, fun ad h => by cases h; show w.heap.size + 1 + 1 ≤ g; omega⟩
      have HT := hide (ht.far3 htf (.slice (some ⟨w1.heap.size, 0, none⟩) 2 2) (.bool a.u) (.slice (some ⟨g, 0, none⟩) (N * M) (N * M)))
      have HTF' := hide (htf.le (m := w.heap.size + 1) (by omega))
      have HGf := hide (((hG.far (p := ⟨w.heap.size + 1, 0, none⟩) (by simp; omega) (.slice (some ⟨w1.heap.size, 0, none⟩) 2 2)).far (p := ⟨w.heap.size + 1, 1, none⟩) (by simp; omega) (.bool a.u)).far (p := ⟨w.heap.size + 1, 2, none⟩) (by simp; omega) (.slice (some ⟨g, 0, none⟩) (N * M) (N * M)))
      clear HAl hb hZ6 hB6 hI6 hG hfr hws hw1s hmn ht htf
      go_wp2_with fail
      refine bodyPost_ret (results_tn rfl _ _ (w.heap.size + 1) _ _ _ rfl HZf.out) rfl ?_
      refine ⟨⟨⟨some ⟨w1.heap.size, 0, none⟩, [(N : Int), (M : Int)], 2, a.u, some ⟨g, 0, none⟩, Mat.turn a.ds M N 0 (N * M), N * M⟩, .nilIface, ?_, HT.out, HTF'.out, ?_, ?_, ?_, ?_, fun _ => ⟨g, rfl, (Mat.turn_length _ _ _ _ _).symm, HGf.out⟩⟩, HFf.out⟩
      · rw [Mat.turn_length]
        rfl
      · rw [if_pos HN.out]
        unfold Mat.tzs
        rw [HTF.out.az]
        rfl
      · rw [if_pos HN.out]
      · rw [if_pos HN.out]
        unfold Mat.tds
        rw [HTF.out.az]
        rfl
      · rw [HN.out]
        rfl
    · obtain ⟨W4, hW4⟩ : ∃ W, W = ((w1.alloc (.cells #[.slice (some ⟨w1.heap.size + 1, 0, none⟩) 2 2, .bool a.u] 24)).alloc (.cells #[.int .i64 N, .int .i64 M] 3)).drew := ⟨_, rfl⟩
      have hb4 : Below w1.heap.size w1 W4 := by rw [hW4]; exact (((Below.refl _ _).alloc (Nat.le_refl _) _).alloc (by simp) _).drew
      have HD : Hid (Has W4 (w1.heap.size) 24 [.slice (some ⟨w1.heap.size + 1, 0, none⟩) 2 2, .bool a.u]) := hide (by rw [hW4]; exact Has.drewN ((Has.new w1 24 [.slice (some ⟨w1.heap.size + 1, 0, none⟩) 2 2, .bool a.u]).alloc _) 1)
      have HI : Hid (Has W4 (w1.heap.size + 1) 3 (i64s [(N : Int), (M : Int)])) := hide (by rw [hW4]; exact Has.drewN (box_at _ 3 [.int .i64 N, .int .i64 M] _ (by simp)) 1)
      have HFr : Hid (w.heap.size + 2 ≤ w1.heap.size + 1) := hide (by have := HZ.out.lt; omega)
      have HWS : Hid (w1.heap.size + 1 < W4.heap.size) := hide HI.out.lt
      have HW1S : Hid (w.heap.size + 2 ≤ W4.heap.size) := hide (by have := HZ.out.lt; have := hb4.size; omega)
      replace HA := hide (HA.out.below hb4 HA.out.lt)
      replace HZ := hide (HZ.out.below hb4 HZ.out.lt)
      replace HB1 := hide (HB1.out.trans (hb4.mono HB1.out.size))
      rw [← hW4]
      have d0 : W4.cell? ⟨w1.heap.size, 0, none⟩ = some (.slice (some ⟨w1.heap.size + 1, 0, none⟩) 2 2) := HD.out.cell 0
      have d1 : W4.cell? ⟨w1.heap.size, 1, none⟩ = some (.bool a.u) := HD.out.cell 1
      have e0 : W4.cell? ⟨w.heap.size, 0, none⟩ = some (.slice (some pa) 2 a.cap) := HA.out.cell 0
      have e1 : W4.cell? ⟨w.heap.size, 1, none⟩ = some (.bool a.u) := HA.out.cell 1
      have e2 : W4.cell? ⟨w.heap.size, 2, none⟩ = some (.slice a.D a.ds.length a.dcap) := HA.out.cell 2
      obtain ⟨W5, hW5⟩ : ∃ W, W = W4.alloc (.cells ([a].flatMap Ten.vals).toArray 26) := ⟨_, rfl⟩
      have hb5 : Below W4.heap.size W4 W5 := by rw [hW5]; exact (Below.refl _ _).alloc (Nat.le_refl _) _
      have hT5 : Has W5 W4.heap.size 26 ([a].flatMap Ten.vals) := by rw [hW5]; exact Has.new _ _ _
      have HB5 := hide (HB1.out.trans (hb5.mono HB1.out.size))
      have HI5 := hide (HI.out.below hb5 HI.out.lt)
      have HZ5 := hide (HZ.out.below hb5 HZ.out.lt)
      have HAl := hide (tall_c a M N HTF.out (some ⟨w1.heap.size + 1, 0, none⟩) 2 a.u none (some ⟨W4.heap.size, 0, none⟩) 0 0 1 am ar W5 (HI5.out.ri HWF.out) (HE2.out _ HB5.out) hT5.row (HIa.out _ HB5.out))
      have HW5 := hide hW5
      have HW5S : Hid (W4.heap.size ≤ W5.heap.size) := hide hb5.size
      unfold Ten.vals at HW5
      simp only [List.flatMap_cons, List.flatMap_nil, List.append_nil] at HW5
      rw [hpa.out, hzl.out] at HW5
      clear hW4 hb4 hW5 hb5 hT5 HIa HE2 a0 a1 a0z a1z a1y a1w a1v p0 p1 p0z p1z hpal HA HB1 HZ HI HD
      go_wp2_with fail
      rw [← HW5.out]
      clear HW5 d0 d1 e0 e1 e2
      refine HAl.out.mono ?_
      rintro e w6 ⟨⟨g, rfl, hg, hG⟩, hb⟩
      have hZ6 := HZ5.out.below hb HZ5.out.lt
      have hB6 := HB5.out.trans (hb.mono HB5.out.size)
      have hI6 := HI5.out.below hb HI5.out.lt
      obtain ⟨z0, z1, z2, zf0, zf1, zf2, HZf, HFf⟩ := elm_three hZ6 hB6 (Nat.le_add_right _ 1) (.slice (some ⟨w1.heap.size + 1, 0, none⟩) 2 2) (.bool a.u) (.slice (some ⟨g, 0, none⟩) (N * M) (N * M))
      have hfr := HFr.out
      have hws := HW5S.out
      have hw1s := HW1S.out
      have hmn := HTF.out.mn
      have ht : Ten.In w6 ⟨some ⟨w1.heap.size + 1, 0, none⟩, [(N : Int), (M : Int)], 2, a.u, some ⟨g, 0, none⟩, Mat.turn a.ds M N 0 (N * M), N * M⟩ := ⟨hI6.ri HWF.out, hG.ri (Mat.turn_wf _ a.u _ _ _ _ HTF.out.ft), by show 2 ≤ 1000000; omega, by rw [Mat.turn_length, Nat.mul_comm]; omega⟩
      have htf : Ten.Fresh (w.heap.size + 1 + 1) ⟨some ⟨w1.heap.size + 1, 0, none⟩, [(N : Int), (M : Int)], 2, a.u, some ⟨g, 0, none⟩, Mat.turn a.ds M N 0 (N * M), N * M⟩ := ⟨fun ad h => by cases h; exact hfr, fun ad h => by cases h; show w.heap.size + 1 + 1 ≤ g; omega⟩
      have HT := hide (ht.far3 htf (.slice (some ⟨w1.heap.size + 1, 0, none⟩) 2 2) (.bool a.u) (.slice (some ⟨g, 0, none⟩) (N * M) (N * M)))
      have HTF' := hide (htf.le (m := w.heap.size + 1) (by omega))
      have HGf := hide (((hG.far (p := ⟨w.heap.size + 1, 0, none⟩) (by simp; omega) (.slice (some ⟨w1.heap.size + 1, 0, none⟩) 2 2)).far (p := ⟨w.heap.size + 1, 1, none⟩) (by simp; omega) (.bool a.u)).far (p := ⟨w.heap.size + 1, 2, none⟩) (by simp; omega) (.slice (some ⟨g, 0, none⟩) (N * M) (N * M)))
      clear HAl hb hZ6 hB6 hI6 hG hfr hws hw1s hmn ht htf
      go_wp2_with fail
      refine bodyPost_ret (results_tn rfl _ _ (w.heap.size + 1) _ _ _ rfl HZf.out) rfl ?_
      refine ⟨⟨⟨some ⟨w1.heap.size + 1, 0, none⟩, [(N : Int), (M : Int)], 2, a.u, some ⟨g, 0, none⟩, Mat.turn a.ds M N 0 (N * M), N * M⟩, .nilIface, ?_, HT.out, HTF'.out, ?_, ?_, ?_, ?_, fun _ => ⟨g, rfl, (Mat.turn_length _ _ _ _ _).symm, HGf.out⟩⟩, HFf.out⟩
      · rw [Mat.turn_length]
        rfl
      · rw [if_pos HN.out]
        unfold Mat.tzs
        rw [HTF.out.az]
        rfl
      · rw [if_pos HN.out]
      · rw [if_pos HN.out]
        unfold Mat.tds
        rw [HTF.out.az]
        rfl
      · rw [HN.out]
        rfl
theorem tmod_emod (n : Int) (m : Nat) : n.tmod (m : Int) % (m : Int) = n % (m : Int) := by
  have h := Int.mul_tdiv_add_tmod n (m : Int)
  have h2 : ((m : Int) * n.tdiv m + n.tmod m) % (m : Int) = n.tmod m % (m : Int) := by rw [Int.add_comm, Int.add_mul_emod_self_left]
  rw [h] at h2
  exact h2.symm
set_option maxRecDepth 100000 in
theorem number_e (n : Int) (m : Nat) (h0 : 0 < m) (hm : m ≤ 4611686018427387904) (M : Int) (hM : M = (m : Int)) (w : World) :
    Calls Tryd.prog 27 #[.int .i64 n, .int .i64 M] w fun e w' => e = .returned (.int .i64 (n % M)) ∧ w' = w := by
  subst hM
  have e1 : n.tmod (m : Int) < m := Int.tmod_lt_of_pos n (by omega)
  have e2 : -(m : Int) < n.tmod (m : Int) := by
    have := Int.tmod_lt_of_pos (-n) (b := (m : Int)) (by omega)
    rw [Int.neg_tmod] at this
    omega
  have e9 : n % (m : Int) = (n.tmod (m : Int) + m) % (m : Int) := by rw [Int.add_emod_right, tmod_emod]
  obtain ⟨a, ha⟩ : ∃ a, Hid (n.tmod (m : Int) + m = a) := ⟨_, hide rfl⟩
  have ha0 : 0 < a := by have := ha.out; omega
  have ha1 : a ≤ 9223372036854775807 := by have := ha.out; omega
  have e3 : a.tmod (m : Int) = a % m := Int.tmod_eq_emod_of_nonneg (by omega)
  have e4 : 0 ≤ a % (m : Int) := Int.emod_nonneg _ (by omega)
  have e5 : a % (m : Int) < m := Int.emod_lt_of_pos _ (by omega)
  rw [e9, ha.out]
  clear e9
  obtain ⟨k, hk⟩ : ∃ k : Int, a % (m : Int) = k := ⟨_, rfl⟩
  rw [hk] at e3 e4 e5 ⊢
  have hx := ha.out
  have h0' : (m : Int) ≠ 0 := by omega
  clear hk
  go_enter Tryd.func27, Tryd.ntmps27
  go_wp2_with fail
  go_ret
  exact ⟨rfl, rfl⟩
/-- What is held in matrix's round. -/
abbrev MxS (b : Nat) (p : Addr) (x y : Value) (W : World) : Prop := W.cell? ⟨b, 2, none⟩ = some x ∧ W.cell? p = some y
/-- Of no numbers there are nothings alone. -/
def MatZ (n : Nat) (ds : List Int) (k : Nat) : Prop := n = 0 → ds = List.replicate k 0
/-- A matrix of some numbers: narrow ones; of none nothings. -/
def MatrixE (M N n : Nat) (w : World) (e : Ending) (w' : World) : Prop :=
  (∃ (gs g : Nat) (ds : List Int), e = .returned (.agg (tcells (some ⟨gs, 0, none⟩) 2 2 false (some ⟨g, 0, none⟩) (M * N) (M * N))) ∧ w.heap.size < gs ∧ w.heap.size < g ∧ gs ≠ g ∧ Has w' gs 3 (i64s [(M : Int), (N : Int)]) ∧ Has w' g 3 (i64s ds) ∧ ds.length = M * N ∧ Mat.small ds ∧ MatZ n ds (M * N)) ∧ Below w.heap.size w w'
set_option maxRecDepth 100000 in
set_option maxHeartbeats 8000000 in
theorem matrix_c (M N : Nat) (l : List Int) (A : Option Addr) (cap : Nat) (w : World) (hM : M ≤ 20) (hN : N ≤ 20) (hr : Ri w A l) :
    Calls Tryd.prog 26 #[.int .i64 M, .int .i64 N, .slice A l.length cap] w (MatrixE M N l.length w) := by
  have HN := hide (fun x W => number_e x 256 (by decide) (by decide) 256 rfl W)
  have HL := hide (fun W (hb : Below w.heap.size w W) => hr.below hb)
  obtain ⟨n, hn⟩ : ∃ n, Hid (l.length = n) := ⟨_, hide rfl⟩
  obtain ⟨T, hT⟩ : ∃ T, Hid (M * N = T) := ⟨_, hide rfl⟩
  have hTb : T ≤ 400 := by rw [← hT.out]; exact Nat.mul_le_mul hM hN
  have hw0 : IntKind.i64.wrap ((M : Int) * (N : Int)) = (T : Int) := by
    rw [show (M : Int) * (N : Int) = (T : Int) by rw [← hT.out, Int.natCast_mul], IntKind.wrap_i64]
    omega
  have hw1 : wrap64 ((M : Int) * (N : Int)) = (T : Int) := by
    rw [show (M : Int) * (N : Int) = (T : Int) by rw [← hT.out, Int.natCast_mul]]
    unfold wrap64
    omega
  obtain ⟨Z, hZ, hmk⟩ := made_ints T (by omega)
  obtain ⟨W0, hW0⟩ : ∃ W, W = (((w.alloc (.cells #[.slice none 0 0, .bool false, .slice none 0 0] 26)).alloc (.cells #[.int .i64 M, .int .i64 N] 3)).alloc (.cells Z 3)).alloc (.cells #[.slice (some ⟨w.heap.size + 1, 0, none⟩) 2 2, .bool false, .slice (some ⟨w.heap.size + 2, 0, none⟩) T T] 26) := ⟨_, rfl⟩
  have HR : Hid (Has W0 w.heap.size 26 [.slice none 0 0, .bool false, .slice none 0 0]) := hide (by rw [hW0]; exact (((Has.new w 26 _).alloc _).alloc _).alloc _)
  have HI : Hid (Has W0 (w.heap.size + 1) 3 [.int .i64 M, .int .i64 N]) := hide (by rw [hW0]; exact ((box_at _ 3 [.int .i64 M, .int .i64 N] _ (by simp)).alloc _).alloc _)
  have HD : Hid (Has W0 (w.heap.size + 2) 3 (i64s (List.replicate T 0))) := hide (by rw [hW0, hZ.out]; exact (box_at _ 3 (i64s (List.replicate T 0)) _ (by simp)).alloc _)
  have HX : Hid (Has W0 (w.heap.size + 3) 26 [.slice (some ⟨w.heap.size + 1, 0, none⟩) 2 2, .bool false, .slice (some ⟨w.heap.size + 2, 0, none⟩) T T]) := hide (by rw [hW0]; exact box_at _ _ _ _ (by simp))
  have HB : Hid (Below w.heap.size w W0) := hide (by rw [hW0]; exact ((((Below.refl _ _).alloc (Nat.le_refl _) _).alloc (by simp) _).alloc (by simp; omega) _).alloc (by simp; omega) _)
  have HW := hide hW0
  rw [hn.out]
  clear hr hW0 hZ hM hN
  go_enter Tryd.func26, Tryd.ntmps26
  go_wp2_with fail
  rw [← HW.out]
  clear HW hmk
  go_loopw [8] (fun k wr => ∃ (i : Nat) (ds : List Int), i ≤ T ∧ k = .int .i64 i ∧ Hid (ds.length = T) ∧ Hid (Mat.small ds) ∧ Hid (MatZ n ds T) ∧ Hid (Has wr w.heap.size 26 [.slice none 0 0, .bool false, .slice none 0 0]) ∧ Hid (Has wr (w.heap.size + 1) 3 [.int .i64 M, .int .i64 N]) ∧ Hid (Has wr (w.heap.size + 2) 3 (i64s ds)) ∧ Hid (Has wr (w.heap.size + 3) 26 [.slice (some ⟨w.heap.size + 1, 0, none⟩) 2 2, .bool false, .slice (some ⟨w.heap.size + 2, 0, none⟩) T T]) ∧ Hid (Below w.heap.size w wr)) (fun k _ => T - (intOf k).toNat)
  case atStart => exact ⟨0, List.replicate T 0, by omega, rfl, hide (by simp), hide (fun z hz => by rw [(List.mem_replicate.1 hz).2]; decide), hide (fun _ => rfl), HR, HI, HD, HX, HB⟩
  case round =>
    clear HR HI HD HX HB
    obtain ⟨i, ds, hi, rfl, HLn, HS, HNl, HR, HI, HD, HX, HB⟩ := hrel
    by_cases hgo : i < T ∧ 0 < n
    case neg =>
      have hdd : decide ((i : Int) < (T : Int)) = decide (i < T) := by simp
      obtain ⟨z0, z1, z2, zf0, zf1, zf2, HZf, HFf⟩ := elm_three HR.out HB.out (Nat.le_refl _) (.slice (some ⟨w.heap.size + 1, 0, none⟩) 2 2) (.bool false) (.slice (some ⟨w.heap.size + 2, 0, none⟩) T T)
      have HDf := hide (((HD.out.far (p := ⟨w.heap.size, 0, none⟩) (by simp) (.slice (some ⟨w.heap.size + 1, 0, none⟩) 2 2)).far (p := ⟨w.heap.size, 1, none⟩) (by simp) (.bool false)).far (p := ⟨w.heap.size, 2, none⟩) (by simp) (.slice (some ⟨w.heap.size + 2, 0, none⟩) T T))
      have HIf := hide (((HI.out.far (p := ⟨w.heap.size, 0, none⟩) (by simp) (.slice (some ⟨w.heap.size + 1, 0, none⟩) 2 2)).far (p := ⟨w.heap.size, 1, none⟩) (by simp) (.bool false)).far (p := ⟨w.heap.size, 2, none⟩) (by simp) (.slice (some ⟨w.heap.size + 2, 0, none⟩) T T))
      have x0 := HX.out.cell 0
      have x1 := HX.out.cell 1
      have x2 := HX.out.cell 2
      have hP : Hid (∃ (gs g : Nat) (ds : List Int), Ending.returned (.agg (tcells (some ⟨w.heap.size + 1, 0, none⟩) 2 2 false (some ⟨w.heap.size + 2, 0, none⟩) T T)) = .returned (.agg (tcells (some ⟨gs, 0, none⟩) 2 2 false (some ⟨g, 0, none⟩) (M * N) (M * N))) ∧ w.heap.size < gs ∧ w.heap.size < g ∧ gs ≠ g ∧ Has (((wr.setCell ⟨w.heap.size, 0, none⟩ (.slice (some ⟨w.heap.size + 1, 0, none⟩) 2 2)).setCell ⟨w.heap.size, 1, none⟩ (.bool false)).setCell ⟨w.heap.size, 2, none⟩ (.slice (some ⟨w.heap.size + 2, 0, none⟩) T T)) gs 3 (i64s [(M : Int), (N : Int)]) ∧ Has (((wr.setCell ⟨w.heap.size, 0, none⟩ (.slice (some ⟨w.heap.size + 1, 0, none⟩) 2 2)).setCell ⟨w.heap.size, 1, none⟩ (.bool false)).setCell ⟨w.heap.size, 2, none⟩ (.slice (some ⟨w.heap.size + 2, 0, none⟩) T T)) g 3 (i64s ds) ∧ ds.length = M * N ∧ Mat.small ds ∧ MatZ n ds (M * N)) := hide
        ⟨w.heap.size + 1, w.heap.size + 2, ds, by rw [hT.out], by omega, by omega, by omega, HIf.out, HDf.out, by rw [hT.out]; exact HLn.out, HS.out, by rw [hT.out]; exact HNl.out⟩
      by_cases hin : i < T
      · have hn0 : n = 0 := by omega
        subst hn0
        have hii : (i : Int) < (T : Int) := by omega
        clear hgo HIf HDf HS HLn HNl HL HN hdd
        go_wp2_with fail
        refine bodyPost_ret (results_cell_row rfl _ _ w.heap.size 26 (tcells (some ⟨w.heap.size + 1, 0, none⟩) 2 2 false (some ⟨w.heap.size + 2, 0, none⟩) T T) (0, 0) _ rfl HZf.out Tryd.underlying26 rfl (by kernel_rfl)) rfl ?_
        exact ⟨hP.out, HFf.out⟩
      · have hii : ¬ (i : Int) < (T : Int) := by omega
        have hid : decide ((i : Int) < (T : Int)) = false := decide_eq_false hii
        clear hgo HIf HDf HS HLn HNl HL HN hdd
        go_wp2_with fail
        refine bodyPost_ret (results_cell_row rfl _ _ w.heap.size 26 (tcells (some ⟨w.heap.size + 1, 0, none⟩) 2 2 false (some ⟨w.heap.size + 2, 0, none⟩) T T) (0, 0) _ rfl HZf.out Tryd.underlying26 rfl (by kernel_rfl)) rfl ?_
        exact ⟨hP.out, HFf.out⟩
    case pos =>
      obtain ⟨hlt, hn0⟩ := hgo
      have hii : (i : Int) < (T : Int) := by omega
      have hi0 : (0 : Int) ≤ (i : Int) := by omega
      have hnn : (0 : Int) < (n : Int) := by omega
      obtain ⟨q, hq⟩ : ∃ q, Hid (i % n = q) := ⟨_, hide rfl⟩
      have hqn : q < n := by rw [← hq.out]; exact Nat.mod_lt _ hn0
      have Hq1 : Hid ((i : Int) % (n : Int) = (q : Int)) := hide (by rw [← hq.out]; exact (Int.natCast_emod i n).symm)
      have Hq2 : Hid ((i : Int).tmod (n : Int) = (q : Int)) := hide (by rw [Int.tmod_eq_emod_of_nonneg (by omega)]; exact Hq1.out)
      obtain ⟨ad, x, hAD, ex, cx⟩ := ri_at (HL.out wr HB.out) q (by rw [hn.out]; exact hqn)
      subst hAD
      have hq0 : (0 : Int) ≤ (q : Int) := by omega
      have hq3 : (q : Int) < (n : Int) := by omega
      have hnz : ¬ n = 0 := by omega
      obtain ⟨s, hs⟩ : ∃ s : Int, Hid ((i : Int) * (i : Int) = s) := ⟨_, hide rfl⟩
      have Hs : Hid (IntKind.i64.wrap ((i : Int) * (i : Int)) = s) := hide (by
        have h1 : i * i ≤ 400 * 400 := Nat.mul_le_mul (by omega) (by omega)
        have h2 : ((i * i : Nat) : Int) = s := by rw [Int.natCast_mul]; exact hs.out
        rw [hs.out, IntKind.wrap_i64]
        omega)
      obtain ⟨y, hy⟩ : ∃ y : Int, Hid (IntKind.i64.wrap (x + s) = y) := ⟨_, hide rfl⟩
      obtain ⟨k, hk⟩ : ∃ k : Int, Hid (y % 256 = k) := ⟨_, hide rfl⟩
      have hkb : 0 ≤ k ∧ k < 256 := by have := hk.out; omega
      obtain ⟨v, hv⟩ : ∃ v : Int, Hid (k - 128 = v) := ⟨_, hide rfl⟩
      have Hv : Hid (IntKind.i64.wrap (k - 128) = v) := hide (by rw [IntKind.wrap_i64, ← hv.out]; omega)
      have hvb : -128 ≤ v ∧ v ≤ 127 := by have := hv.out; omega
      have HC := hide (HN.out y)
      rw [hk.out] at HC
      have x2 : wr.cell? ⟨w.heap.size + 3, 2, none⟩ = some (.slice (some ⟨w.heap.size + 2, 0, none⟩) T T) := HX.out.cell 2
      have g1 : wr.cell? ⟨w.heap.size + 2, i, none⟩ = some (.int .i64 (ds[i]'(by rw [HLn.out]; exact hlt))) := by
        rw [HD.out.cell]
        unfold i64s
        rw [List.getElem?_map, List.getElem?_eq_getElem (by rw [HLn.out]; exact hlt)]
        rfl
      have gf := HD.out.frozen i
      have hadb : ad.block ≠ w.heap.size + 2 := by
        obtain ⟨ad', h1, h2, -⟩ := (HL.out w (Below.refl _ _)).2 (by intro h; rw [h] at ex; have h := ex.out; simp at h)
        have h1 := Option.some.inj h1
        subst h1
        omega
      have hS0 : MxS (w.heap.size + 3) (ad.add q) (.slice (some ⟨w.heap.size + 2, 0, none⟩) T T) (.int .i64 x) wr.drew := ⟨x2, cx⟩
      have hS1 : ∀ k, MxS (w.heap.size + 3) (ad.add q) (.slice (some ⟨w.heap.size + 2, 0, none⟩) T T) (.int .i64 x) ((wr.drewN k).setCell ⟨w.heap.size + 2, i, none⟩ (.int .i64 v)) := fun k =>
        ⟨(World.cell?_setCell_far (wr.drewN k) _ _ _ (by simp)).trans x2, (World.cell?_setCell_far (wr.drewN k) _ _ _ (by rw [elm_block]; exact Ne.symm hadb)).trans cx⟩
      have hS2 : MxS (w.heap.size + 3) (ad.add q) (.slice (some ⟨w.heap.size + 2, 0, none⟩) T T) (.int .i64 x) (wr.drew.setCell ⟨w.heap.size + 2, i, none⟩ (.int .i64 v)) := hS1 1
      have HVB := hide hvb
      have HRd := hide ((HR.out.drewN 1).far (p := ⟨w.heap.size + 2, i, none⟩) (by simp) (.int .i64 v))
      have HId := hide ((HI.out.drewN 1).far (p := ⟨w.heap.size + 2, i, none⟩) (by simp) (.int .i64 v))
      have HXd := hide ((HX.out.drewN 1).far (p := ⟨w.heap.size + 2, i, none⟩) (by simp) (.int .i64 v))
      have HDd := hide ((HD.out.drewN 1).set_ i (.int .i64 v))
      have HBd := hide (HB.out.drew.setCell (p := ⟨w.heap.size + 2, i, none⟩) (by simp) (.int .i64 v))
      clear x2 cx hadb hvb hkb
      go_wp2_with fail
      have hq1 := Hq1.out
      have hq2 := Hq2.out
      have hss := Hs.out
      have hyy := hy.out
      have hvv := Hv.out
      go_region_held3 (fun W => W.cell? ⟨w.heap.size + 3, 2, none⟩ = some (.slice (some ⟨w.heap.size + 2, 0, none⟩) T T) ∧ W.cell? (ad.add q) = some (.int .i64 x))
        (first | exact hS0 | exact hS2 | exact hS1 _ | assumption)
        (first
          | (go_at_call 27; refine (HC.out _).mono ?_; rintro e W2 ⟨rfl, hw⟩; have hw := hw.symm; subst hw))
      clear hq1 hq2 hss hyy hvv
      go_wp2_with fail
      go_roundw
      case rel =>
        refine ⟨i + 1, ds.set i v, by omega, by go_num, hide (by rw [List.length_set]; exact HLn.out), hide (fun z hz => ?_), hide (fun h => by omega), HRd, HId, ?_, HXd, HBd⟩
        · rcases List.mem_or_eq_of_mem_set hz with h | h
          · exact HS.out z h
          · rw [h]
            exact HVB.out
        · have h := HDd.out
          unfold i64s at h ⊢
          rw [List.map_set]
          exact hide h
      case measure => simp [intOf]; omega
/-- A tensor of M rows and N columns. -/
structure Mat.Is (t : Ten) (M N : Nat) (u : Bool) : Prop where
  zs : t.zs = [(M : Int), (N : Int)]
  hu : t.u = u
  len : t.ds.length = M * N
  ft : ∀ z ∈ t.ds, Tens.fit u z = true
theorem Mat.Is.fault {t : Ten} {M N : Nat} {u : Bool} (h : Mat.Is t M N u) (h1 : 1 ≤ M) (h2 : M ≤ 100) (h3 : 1 ≤ N) (h4 : N ≤ 100) : t.fault = (0, none) := by
  have hmn : M * N ≤ 100 * 100 := Nat.mul_le_mul h2 h4
  obtain ⟨e1, e2⟩ := Mat.prod_two M N h1 (by omega) h3 (by omega) (by omega)
  show Tens.fault t.zs t.u t.ds = (0, none)
  rw [h.zs, h.hu]
  exact Tens.fault_none _ _ _ e1 (by rw [e2, h.len]) (fun j y hy => h.ft y (List.mem_of_getElem? hy))
theorem Mat.Is.small {t : Ten} {M N : Nat} (h : Mat.Is t M N false) : Mat.small t.ds := fun z hz => fit_narrow rfl (h.ft z hz)
theorem Mat.prod_ok {a b : Ten} {M K N : Nat} {za zb : Int} (ha : Mat.Is a M K false) (hb : Mat.Is b K N false) (h1 : 1 ≤ M ∧ M ≤ 100) (h2 : 1 ≤ K ∧ K ≤ 100) (h3 : 1 ≤ N ∧ N ≤ 100) (hza : -128 ≤ za ∧ za ≤ 127) (hzb : -128 ≤ zb ∧ zb ≤ 127) :
    Cel.fault [a, b] (Mat.code za zb a.look b.look) = (0, none) ∧ Mat.shape za zb a.look b.look = [(M : Int), (N : Int)] ∧ Mat.kind za zb a.look b.look = true ∧ Mat.ds za zb a b = Mat.part a.ds b.ds za zb K N 0 (M * N) := by
  have hmn : M * N ≤ 100 * 100 := Nat.mul_le_mul h1.2 h3.2
  have hmk : M * K ≤ 100 * 100 := Nat.mul_le_mul h1.2 h2.2
  have hkn : K * N ≤ 100 * 100 := Nat.mul_le_mul h2.2 h3.2
  have fa := ha.fault h1.1 h1.2 h2.1 h2.2
  have fb := hb.fault h2.1 h2.2 h3.1 h3.2
  have ca := (Mat.prod_two M K h1.1 (by omega) h2.1 (by omega) (by omega)).1
  have cb := (Mat.prod_two K N h2.1 (by omega) h3.1 (by omega) (by omega)).1
  have cc := (Mat.prod_two M N h1.1 (by omega) h3.1 (by omega) (by omega)).1
  have ea : a.look.zs = [(M : Int), (K : Int)] := ha.zs
  have eb : b.look.zs = [(K : Int), (N : Int)] := hb.zs
  have ua : a.look.u = false := ha.hu
  have ub : b.look.u = false := hb.hu
  have hfb : Shp.firstbad [a.look, b.look] = 0 := by
    unfold Shp.firstbad
    rw [if_pos (by rw [ea]; exact ca)]
    unfold Shp.firstbad
    rw [if_pos (by rw [eb]; exact cb)]
    rfl
  have n1 : Tens.narrow za = za := by unfold Tens.narrow; omega
  have n2 : Tens.narrow zb = zb := by unfold Tens.narrow; omega
  have hc : Mat.code za zb a.look b.look = 0 := by
    unfold Mat.code
    rw [if_neg (by rw [hfb]; simp), if_neg (by rw [ea, eb, ua, ub]; simp), if_neg (by rw [n1, n2]; simp), ea, eb]
    exact cc
  refine ⟨?_, ?_, ?_, ?_⟩
  · rw [Cel.fault_code (Tens.first_none _ (fun j t ht => by
      match j, ht with
      | 0, ht => cases ht; exact fa
      | 1, ht => cases ht; exact fb)), hc]
  · unfold Mat.shape
    rw [if_pos hc, ea, eb]
    rfl
  · unfold Mat.kind
    exact decide_eq_true hc
  · unfold Mat.ds
    rw [ha.zs, hb.zs]
    rfl
theorem Mat.part_is (t : Ten) {M N K : Nat} {xs ys : List Int} {za zb : Int} (h1 : t.zs = [(M : Int), (N : Int)]) (h2 : t.u = true) (h3 : t.ds = Mat.part xs ys za zb K N 0 (M * N)) : Mat.Is t M N true := by
  refine ⟨h1, h2, by rw [h3, Mat.part_length], fun z hz => ?_⟩
  rw [h3] at hz
  unfold Mat.part at hz
  obtain ⟨i, -, rfl⟩ := List.mem_map.1 hz
  unfold Tens.fit
  rw [if_pos rfl]
  exact decide_eq_true (by unfold Tens.wide; omega)
theorem Mat.turn_is (t : Ten) {M N : Nat} {a : Ten} {u : Bool} (ha : Mat.Is a M N u) (h1 : t.zs = [(N : Int), (M : Int)]) (h2 : t.u = u) (h3 : t.ds = Mat.turn a.ds M N 0 (N * M)) : Mat.Is t N M u := by
  refine ⟨h1, h2, by rw [h3, Mat.turn_length], fun z hz => ?_⟩
  rw [h3] at hz
  unfold Mat.turn at hz
  obtain ⟨i, -, rfl⟩ := List.mem_map.1 hz
  rw [List.getD_eq_getElem?_getD]
  cases e : a.ds[(0 + i) % M * N + (0 + i) / M]? with
  | none =>
    unfold Tens.fit
    cases u <;> decide
  | some q => exact ha.ft q (List.mem_of_getElem? e)
/-- mat.Mul of lawful ones. -/
theorem mul_good {a b : Ten} {M K N : Nat} {za zb : Int} (ha : Mat.Is a M K false) (hb : Mat.Is b K N false) (h1 : 1 ≤ M ∧ M ≤ 100) (h2 : 1 ≤ K ∧ K ≤ 100) (h3 : 1 ≤ N ∧ N ≤ 100) (hza : -128 ≤ za ∧ za ≤ 127) (hzb : -128 ≤ zb ∧ zb ≤ 127) (ah am ar : Addr) (w : World) (ia : a.In w) (ib : b.In w) (hE : E3 w ah am ar) :
    Calls Tryd.prog 15 #[.agg (tcells a.P a.zs.length a.cap a.u a.D a.ds.length a.dcap), .agg (tcells b.P b.zs.length b.cap b.u b.D b.ds.length b.dcap), .int .i64 za, .int .i64 zb] w fun e w' =>
      (∃ t : Ten, e = .returned (.tuple #[.agg (tcells t.P t.zs.length t.cap t.u t.D t.ds.length t.dcap), .nilIface]) ∧ t.In w' ∧ Mat.Is t M N true ∧ t.ds = Mat.part a.ds b.ds za zb K N 0 (M * N) ∧ OwnData w' t) ∧ Below w.heap.size w w' := by
  obtain ⟨e1, e2, e3, e4⟩ := Mat.prod_ok ha hb h1 h2 h3 hza hzb
  refine (mul_c a b za zb ah am ar w ia ib (fun q hq => by
    simp at hq
    rcases hq with rfl | rfl
    · exact wf_i64 _ (by omega)
    · exact wf_i64 _ (by omega)) hE).mono ?_
  rintro e w' ⟨⟨t, x, rfl, hIn, -, hz, hu, hd, hx, ho⟩, hB⟩
  rw [if_pos e1, e2] at hz
  rw [if_pos e1, e3] at hu
  rw [if_pos e1, e4] at hd
  rw [e1] at hx
  obtain rfl : x = .nilIface := hx
  exact ⟨⟨t, rfl, hIn, Mat.part_is t hz hu hd, hd, ho e1⟩, hB⟩
/-- mat.Turn of a lawful one. -/
theorem turn_good {a : Ten} {M N : Nat} {u : Bool} (ha : Mat.Is a M N u) (h1 : 1 ≤ M ∧ M ≤ 100) (h2 : 1 ≤ N ∧ N ≤ 100) (ah am ar : Addr) (w : World) (ia : a.In w) (hE : E3 w ah am ar) :
    Calls Tryd.prog 19 #[.agg (tcells a.P a.zs.length a.cap a.u a.D a.ds.length a.dcap)] w fun e w' =>
      (∃ t : Ten, e = .returned (.tuple #[.agg (tcells t.P t.zs.length t.cap t.u t.D t.ds.length t.dcap), .nilIface]) ∧ t.In w' ∧ Mat.Is t N M u ∧ t.ds = Mat.turn a.ds M N 0 (N * M)) ∧ Below w.heap.size w w' := by
  have fa := ha.fault h1.1 h1.2 h2.1 h2.2
  have hmn : M * N ≤ 100 * 100 := Nat.mul_le_mul h1.2 h2.2
  have hc := (Mat.prod_two M N h1.1 (by omega) h2.1 (by omega) (by omega)).1
  have hk : Mat.tcode a.look = 0 := by
    unfold Mat.tcode
    have e : a.look.zs = [(M : Int), (N : Int)] := ha.zs
    rw [e, if_neg (by rw [hc]; simp), if_neg (by simp)]
  have e1 : Cel.fault [a] (Mat.tcode a.look) = (0, none) := by rw [Cel.one_good (show Tens.fault a.zs a.u a.ds = (0, none) from fa), hk]
  refine (mturn_c a ah am ar w ia hE).mono ?_
  rintro e w' ⟨⟨t, x, rfl, hIn, -, hz, hu, hd, hx, -⟩, hB⟩
  rw [if_pos e1] at hz hu hd
  rw [e1] at hx
  obtain rfl : x = .nilIface := hx
  have hz' : t.zs = [(N : Int), (M : Int)] := by
    rw [hz]
    unfold Mat.tzs
    rw [ha.zs]
    rfl
  have hd' : t.ds = Mat.turn a.ds M N 0 (N * M) := by
    rw [hd]
    unfold Mat.tds
    rw [ha.zs]
    rfl
  exact ⟨⟨t, rfl, hIn, Mat.turn_is t ha hz' (hu.trans ha.hu) hd', hd'⟩, hB⟩
theorem same_good (s t : Ten) (w : World) (hs : s.In w) (ht : t.In w) (h1 : s.zs = t.zs) (h2 : s.u = t.u) (h3 : s.ds = t.ds) :
    Calls Tryd.prog 29 #[.agg (tcells s.P s.zs.length s.cap s.u s.D s.ds.length s.dcap), .agg (tcells t.P t.zs.length t.cap t.u t.D t.ds.length t.dcap)] w fun e w' => e = .returned (.bool true) ∧ Below w.heap.size w w' := by
  refine (tsame_c s.zs t.zs s.ds t.ds s.P t.P s.D t.D s.cap t.cap s.dcap t.dcap s.u t.u w hs.shp ht.shp hs.dat ht.dat hs.ls ht.ls hs.ld ht.ld).mono fun e w' h => ?_
  rw [decide_eq_true h1, decide_eq_true h3, h2] at h
  simpa using h
/-- What matrix gives, as a tensor. -/
theorem matrix_good (M N : Nat) (l : List Int) (A : Option Addr) (cap : Nat) (w : World) (hM : M ≤ 20) (hN : N ≤ 20) (hr : Ri w A l) :
    Calls Tryd.prog 26 #[.int .i64 M, .int .i64 N, .slice A l.length cap] w fun e w' =>
      (∃ t : Ten, e = .returned (.agg (tcells t.P t.zs.length t.cap t.u t.D t.ds.length t.dcap)) ∧ t.In w' ∧ Mat.Is t M N false) ∧ Below w.heap.size w w' := by
  refine (matrix_c M N l A cap w hM hN hr).mono ?_
  rintro e w' ⟨⟨gs, g, ds, rfl, -, -, -, hS, hD, hL, hs, -⟩, hB⟩
  have hmn : M * N ≤ 20 * 20 := Nat.mul_le_mul hM hN
  refine ⟨⟨⟨some ⟨gs, 0, none⟩, [(M : Int), (N : Int)], 2, false, some ⟨g, 0, none⟩, ds, M * N⟩, ?_, ⟨hS.ri ?_, hD.ri ?_, by show 2 ≤ 1000000; omega, by show ds.length ≤ 1000000; omega⟩, ⟨rfl, rfl, hL, fun z hz => ?_⟩⟩, hB⟩
  · rw [hL]
    rfl
  · intro q hq
    simp at hq
    rcases hq with rfl | rfl
    · exact wf_i64 _ (by omega)
    · exact wf_i64 _ (by omega)
  · intro q hq
    exact wf_i64 _ (by have := hs q hq; omega)
  · unfold Tens.fit
    rw [if_neg (by decide)]
    exact decide_eq_true (hs z hz)
set_option maxRecDepth 100000 in
set_option maxHeartbeats 4000000 in
theorem first8_c (ah am ar : Addr) (w : World) (hE : E3 w ah am ar) :
    Calls Tryd.prog 13 #[] w fun e w' => e = .returned (.bool true) ∧ Below w.heap.size w w' := by
  obtain ⟨W1, hW1⟩ : ∃ W, W = ((w.alloc (.cells #[.int .i64 1, .int .i64 2] 3)).alloc (.cells #[.int .i64 1, .int .i64 2] 3)).alloc (.cells #[.slice (some ⟨w.heap.size, 0, none⟩) 2 2, .bool false, .slice (some ⟨w.heap.size + 1, 0, none⟩) 2 2] 26) := ⟨_, rfl⟩
  have hB1 : Below w.heap.size w W1 := by rw [hW1]; exact (((Below.refl _ _).alloc (Nat.le_refl _) _).alloc (by simp) _).alloc (by simp; omega) _
  have s1 : Has W1 w.heap.size 3 (i64s [1, 2]) := by rw [hW1]; exact ((Has.new w 3 [.int .i64 1, .int .i64 2]).alloc _).alloc _
  have d1 : Has W1 (w.heap.size + 1) 3 (i64s [1, 2]) := by rw [hW1]; exact (box_at _ 3 [.int .i64 1, .int .i64 2] _ (by simp)).alloc _
  have x1 : Has W1 (w.heap.size + 1 + 1) 26 [.slice (some ⟨w.heap.size, 0, none⟩) 2 2, .bool false, .slice (some ⟨w.heap.size + 1, 0, none⟩) 2 2] := by rw [hW1]; exact box_at _ _ _ _ (by simp)
  have z1 : W1.heap.size = w.heap.size + 1 + 1 + 1 := by rw [hW1]; simp
  obtain ⟨W2, hW2⟩ : ∃ W, W = ((W1.alloc (.cells #[.int .i64 2, .int .i64 1] 3)).alloc (.cells #[.int .i64 3, .int .i64 4] 3)).alloc (.cells #[.slice (some ⟨w.heap.size + 1 + 1 + 1, 0, none⟩) 2 2, .bool false, .slice (some ⟨w.heap.size + 1 + 1 + 1 + 1, 0, none⟩) 2 2] 26) := ⟨_, rfl⟩
  have hb2 : Below W1.heap.size W1 W2 := by rw [hW2]; exact (((Below.refl _ _).alloc (Nat.le_refl _) _).alloc (by simp) _).alloc (by simp; omega) _
  have s2 : Has W2 (w.heap.size + 1 + 1 + 1) 3 (i64s [2, 1]) := by rw [hW2, ← z1]; exact ((Has.new W1 3 [.int .i64 2, .int .i64 1]).alloc _).alloc _
  have d2 : Has W2 (w.heap.size + 1 + 1 + 1 + 1) 3 (i64s [3, 4]) := by rw [hW2]; exact (box_at _ 3 [.int .i64 3, .int .i64 4] _ (by simp [z1])).alloc _
  have x2 : Has W2 (w.heap.size + 1 + 1 + 1 + 1 + 1) 26 [.slice (some ⟨w.heap.size + 1 + 1 + 1, 0, none⟩) 2 2, .bool false, .slice (some ⟨w.heap.size + 1 + 1 + 1 + 1, 0, none⟩) 2 2] := by rw [hW2]; exact box_at _ _ _ _ (by simp [z1])
  have x12 := x1.below hb2 x1.lt
  have hB2 := hB1.trans (hb2.mono hB1.size)
  have HM := hide (mul_good (a := ⟨some ⟨w.heap.size, 0, none⟩, [1, 2], 2, false, some ⟨w.heap.size + 1, 0, none⟩, [1, 2], 2⟩) (b := ⟨some ⟨w.heap.size + 1 + 1 + 1, 0, none⟩, [2, 1], 2, false, some ⟨w.heap.size + 1 + 1 + 1 + 1, 0, none⟩, [3, 4], 2⟩) (M := 1) (K := 2) (N := 1) (za := 0) (zb := 0)
    ⟨rfl, rfl, rfl, fun z hz => by simp at hz; rcases hz with rfl | rfl <;> decide⟩ ⟨rfl, rfl, rfl, fun z hz => by simp at hz; rcases hz with rfl | rfl <;> decide⟩ (by decide) (by decide) (by decide) (by decide) (by decide) ah am ar W2
    ⟨(s1.ri (by decide)).below hb2, (d1.ri (by decide)).below hb2, by simp, by simp⟩ ⟨s2.ri (by decide), d2.ri (by decide), by simp, by simp⟩ (hE.below hB2))
  have HB := hide hB2
  have HW1 := hide hW1
  have HW2 := hide hW2
  have hz1 : W1.heap.size = w.heap.size + 1 + 1 + 1 := z1
  have a0 := x12.cell 0
  have a1 := x12.cell 1
  have a2 := x12.cell 2
  have b0 := x2.cell 0
  have b1 := x2.cell 1
  have b2 := x2.cell 2
  clear hE hW1 hB1 s1 d1 x1 z1 hW2 hb2 s2 d2 x2 x12 hB2
  go_enter Tryd.func13, Tryd.ntmps13
  go_wp2_with fail
  rw [← HW1.out, ← HW2.out]
  refine HM.out.mono ?_
  rintro e w2 ⟨⟨t, rfl, hIn, hT, hd, -⟩, hb⟩
  have hds : t.ds = [11] := by rw [hd]; rfl
  have hB3 := HB.out.trans (hb.mono HB.out.size)
  have hD := hIn.dat
  rw [hds] at hD
  have hB4 := hB3.alloc hB3.size (.cells #[.slice t.P t.zs.length t.cap, .bool t.u, .slice t.D 1 t.dcap] 26)
  have hB5 := hB4.alloc hB4.size (.cells #[.int .i64 11] 3)
  have hD5 := (hD.below ((Below.refl _ w2).alloc (Nat.le_refl _) (.cells #[.slice t.P t.zs.length t.cap, .bool t.u, .slice t.D 1 t.dcap] 26))).below ((Below.refl _ _).alloc (Nat.le_refl _) (.cells #[.int .i64 11] 3))
  have HS := hide (sameints_c [11] [11] t.D (some ⟨w2.heap.size + 1, 0, none⟩) t.dcap 1 _ hD5 (by
    have h := new_ri (w2.alloc (.cells #[.slice t.P t.zs.length t.cap, .bool t.u, .slice t.D 1 t.dcap] 26)) 3 [11] (by decide)
    simpa using h) (by decide) (by decide))
  rw [decide_eq_true (rfl : ([11] : List Int) = [11])] at HS
  have HB5 := hide hB5
  rw [hds]
  clear hIn hT hd hds hb hB3 hD hB4 hB5 hD5 HM HB HW1 HW2 a0 a1 a2 b0 b1 b2
  go_wp2_with fail
  refine HS.out.mono ?_
  rintro e w3 ⟨rfl, hb⟩
  have HF := hide (HB5.out.trans (hb.mono HB5.out.size))
  clear hb HS HB5
  go_wp2_with fail
  go_ret
  exact ⟨rfl, HF.out⟩
theorem matrix_int (Mi Ni : Int) (M N : Nat) (h1 : Mi = M) (h2 : Ni = N) (l : List Int) (n : Nat) (hn : l.length = n) (A : Option Addr) (cap : Nat) (w : World) (hM : M ≤ 20) (hN : N ≤ 20) (hr : Ri w A l) :
    Calls Tryd.prog 26 #[.int .i64 Mi, .int .i64 Ni, .slice A n cap] w fun e w' =>
      (∃ t : Ten, e = .returned (.agg (tcells t.P t.zs.length t.cap t.u t.D t.ds.length t.dcap)) ∧ t.In w' ∧ Mat.Is t M N false) ∧ Below w.heap.size w w' := by
  subst h1
  subst h2
  subst hn
  exact matrix_good M N l A cap w hM hN hr
/-- Number's value, named. -/
theorem number_n (x : Int) (m : Nat) (h0 : 0 < m) (hm : m ≤ 4611686018427387904) (M : Int) (hM : M = (m : Int)) : ∃ k : Int, 0 ≤ k ∧ k < m ∧ Hid (∀ w, Calls Tryd.prog 27 #[.int .i64 x, .int .i64 M] w fun e w' => e = .returned (.int .i64 k) ∧ w' = w) :=
  ⟨x % M, by rw [hM]; exact Int.emod_nonneg _ (by omega), by rw [hM]; exact Int.emod_lt_of_pos _ (by omega), hide fun w => number_e x m h0 hm M hM w⟩
/-- matrix, with its blocks. -/
theorem matrix_own (Mi Ni : Int) (M N T : Nat) (h1 : Mi = M) (h2 : Ni = N) (hT : M * N = T) (l : List Int) (n : Nat) (hn : l.length = n) (A : Option Addr) (cap : Nat) (w : World) (hM : M ≤ 20) (hN : N ≤ 20) (hr : Ri w A l) :
    Calls Tryd.prog 26 #[.int .i64 Mi, .int .i64 Ni, .slice A n cap] w fun e w' =>
      (∃ (gs g : Nat) (ds : List Int), e = .returned (.agg (tcells (some ⟨gs, 0, none⟩) 2 2 false (some ⟨g, 0, none⟩) T T)) ∧ w.heap.size < gs ∧ w.heap.size < g ∧ gs ≠ g ∧ Has w' gs 3 (i64s [(M : Int), (N : Int)]) ∧ Has w' g 3 (i64s ds) ∧ ds.length = T ∧ Mat.small ds ∧ MatZ n ds T) ∧ Below w.heap.size w w' := by
  subst h1
  subst h2
  subst hT
  subst hn
  exact matrix_c M N l A cap w hM hN hr
theorem Mat.lit {w : World} {gs g T M N : Nat} {ds : List Int} (hS : Has w gs 3 (i64s [(M : Int), (N : Int)])) (hD : Has w g 3 (i64s ds)) (hL : ds.length = T) (hT : M * N = T) (hs : Mat.small ds) (h1 : M ≤ 100) (h2 : N ≤ 100) :
    Ten.In w ⟨some ⟨gs, 0, none⟩, [(M : Int), (N : Int)], 2, false, some ⟨g, 0, none⟩, ds, T⟩ ∧ Mat.Is ⟨some ⟨gs, 0, none⟩, [(M : Int), (N : Int)], 2, false, some ⟨g, 0, none⟩, ds, T⟩ M N false := by
  have hmn : M * N ≤ 100 * 100 := Nat.mul_le_mul h1 h2
  refine ⟨⟨hS.ri ?_, hD.ri ?_, by show 2 ≤ 1000000; omega, by show ds.length ≤ 1000000; omega⟩, ⟨rfl, rfl, by show ds.length = _; omega, fun z hz => ?_⟩⟩
  · intro q hq
    simp at hq
    rcases hq with rfl | rfl
    · exact wf_i64 _ (by omega)
    · exact wf_i64 _ (by omega)
  · intro q hq
    exact wf_i64 _ (by have := hs q hq; omega)
  · unfold Tens.fit
    rw [if_neg (by decide)]
    exact decide_eq_true (hs z hz)
/-- mat.Mul of one that lies in blocks known. -/
theorem mul_own (X : Nat) {gs g T M K N : Nat} {ds : List Int} {b : Ten} {za zb : Int} (ah am ar : Addr) (w : World) (hS : Has w gs 3 (i64s [(M : Int), (K : Int)])) (hD : Has w g 3 (i64s ds)) (hL : ds.length = T) (hT : M * K = T) (hs : Mat.small ds) (hb : Mat.Is b K N false) (h1 : 1 ≤ M ∧ M ≤ 100) (h2 : 1 ≤ K ∧ K ≤ 100) (h3 : 1 ≤ N ∧ N ≤ 100) (hza : -128 ≤ za ∧ za ≤ 127) (hzb : -128 ≤ zb ∧ zb ≤ 127) (ib : b.In w) (hE : E3 w ah am ar) (hX : M * N = X) :
    Calls Tryd.prog 15 #[.agg #[.slice (some ⟨gs, 0, none⟩) 2 2, .bool false, .slice (some ⟨g, 0, none⟩) T T], .agg #[.slice b.P b.zs.length b.cap, .bool b.u, .slice b.D b.ds.length b.dcap], .int .i64 za, .int .i64 zb] w fun e w' =>
      (∃ (t : Ten) (q : Nat), e = .returned (.tuple #[.agg (tcells t.P t.zs.length t.cap t.u (some ⟨q, 0, none⟩) X X), .nilIface]) ∧ t.In w' ∧ Has w' q 3 (i64s (Mat.part ds b.ds za zb K N 0 X))) ∧ Below w.heap.size w w' := by
  subst hX
  obtain ⟨i1, i2⟩ := Mat.lit hS hD hL hT hs h1.2 h2.2
  have h := mul_good i2 hb h1 h2 h3 hza hzb ah am ar w i1 ib hE
  have e : ([(M : Int), (K : Int)] : List Int).length = 2 := rfl
  rw [e, hL] at h
  refine h.mono ?_
  rintro e w' ⟨⟨t, rfl, hIn, hI, hd, q, hq, hc, hH⟩, hB⟩
  rw [hd] at hH
  refine ⟨⟨t, q, ?_, hIn, hH⟩, hB⟩
  rw [hq, hc, hd, Mat.part_length]
/-- A block's numbers from a place on; the first of them. -/
theorem Has.ri_from {w : World} {g : Nat} {t : TypeId} {zs : List Int} (h : Has w g t (i64s zs)) (k : Nat) (hb : ∀ z ∈ zs, (Lit.int .i64 z).wf = true) : Ri w (some ⟨g, k, none⟩) (zs.drop k) :=
  ⟨fun z hz => hb z (List.mem_of_mem_drop hz), fun _ => ⟨_, rfl, h.lt, fun i z hi => by
    rw [List.getElem?_drop] at hi
    rw [Addr.add_lit, h.cell]
    simp [hi]⟩⟩
theorem Has.ri_take {w : World} {g : Nat} {t : TypeId} {zs : List Int} (h : Has w g t (i64s zs)) (k : Nat) (hb : ∀ z ∈ zs, (Lit.int .i64 z).wf = true) : Ri w (some ⟨g, 0, none⟩) (zs.take k) :=
  ⟨fun z hz => hb z (List.mem_of_mem_take hz), fun _ => ⟨_, rfl, h.lt, fun i z hi => by
    rw [List.getElem?_take] at hi
    split at hi
    · rw [Addr.add_lit, h.cell, Nat.zero_add]
      simp [hi]
    · cases hi⟩⟩
/-- copy of ints into a block of the call's own. -/
theorem copy_run (w : World) (ty : TypeId) (g off dLen dCap : Nat) (ad : Addr) (sLen sCap : Nat) (cur cs : List Int) (hg : Has w g 3 (i64s cur)) (hn : cs.length = Nat.min sLen dLen) (hsrc : ∀ (j : Nat) (z : Int), cs[j]? = some z → w.cell? (ad.add j) = some (.int .i64 z)) (hfit : off + cs.length ≤ cur.length) :
    ∃ w', (Builtin.copy_ #[22, 22] ty #[.slice (some ⟨g, off, none⟩) dLen dCap, .slice (some ad) sLen sCap]).run Tryd.prog w = .ok (.int .i64 cs.length) w' ∧
      Has w' g 3 (i64s (cur.take off ++ (cs ++ cur.drop (off + cs.length)))) ∧ (∀ (b : Nat) (t : TypeId) (xs : List Value), b ≠ g → Has w b t xs → Has w' b t xs) ∧ (∀ (B : Nat) (w0 : World), B ≤ g → Below B w0 w → Below B w0 w') ∧ w'.heap.size = w.heap.size := by
  have hl : (i64s cs).length = cs.length := by simp
  have h := run_copy_row (P := Tryd.prog) w 22 22 ty 3 g off dLen dCap ad sLen sCap (i64s cur).toArray 3 (i64s cs) uis (by kernel_rfl) hg (by rw [hl]; exact hn) (fun j v hv => by
    unfold i64s at hv
    rw [List.getElem?_map, Option.map_eq_some_iff] at hv
    obtain ⟨z, hz, rfl⟩ := hv
    exact hsrc j z hz) (by simpa using hfit) (i64s_one cs)
  rw [hl] at h
  refine ⟨_, h, ?_, fun b t xs hb hx => ?_, fun B w0 hB hb => below_setRow hb hB _, by simp [World.setRow]⟩
  · have h2 := setRow_heap w g (i64s cur).toArray ((i64s cur).toArray.toList.take off ++ i64s cs ++ (i64s cur).toArray.toList.drop (off + cs.length)).toArray 3 (0, 0) hg
    unfold Has
    rw [h2]
    unfold i64s
    simp
  · unfold Has at hx ⊢
    rw [setRow_other _ _ _ _ hb]
    exact hx
end Go.Proofs.YtkehdgjdieemkaaDoor
