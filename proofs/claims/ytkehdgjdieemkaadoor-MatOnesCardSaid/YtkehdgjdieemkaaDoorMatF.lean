/-
  mat.Cell and mat.Turn, walked. By an AI agent. No person has read it.
-/
import Derived.Test.YtkehdgjdieemkaaDoorMatE
namespace Go.Proofs.YtkehdgjdieemkaaDoor
open Go.RowKit

/-- An element of a product; 0 of a place that is none, and where there is no product. -/
def Mat.cell (za zb : Int) (a b : Ten) (i : Int) : Int := if Cel.fault [a, b] (Mat.code za zb a.look b.look) = (0, none) then (if 0 ≤ i then (Mat.ds za zb a b).getD i.toNat 0 else 0) else 0
theorem Mat.part_one (xs ys : List Int) (za zb : Int) (inner n m k : Nat) (hk : k < m) : Mat.part xs ys za zb inner n k 1 = [(Mat.part xs ys za zb inner n 0 m).getD k 0] := by
  rw [List.getD_eq_getElem?_getD, Mat.part_at _ _ _ _ _ _ _ _ _ hk]
  simp [Mat.part]
theorem Mat.prod_two (M N : Nat) (h1 : 1 ≤ M) (h2 : M ≤ 256) (h3 : 1 ≤ N) (h4 : N ≤ 256) (h : M * N ≤ 16384) : Shp.code [(M : Int), (N : Int)] = 0 ∧ Shp.elems [(M : Int), (N : Int)] = ((M * N : Nat) : Int) := by
  have hc : Shp.code [(M : Int), (N : Int)] = 0 := by
    unfold Shp.code
    have e1 : Shp.prod [(M : Int), (N : Int)] = ((M * N : Nat) : Int) := by simp [Shp.prod]
    rw [if_neg (by show ¬ 4 < 2; omega), if_neg (by simp [Shp.okDim]; omega), if_neg (by rw [e1]; omega)]
  refine ⟨hc, ?_⟩
  rw [(Shp.whole hc).2.2.1]
  simp [Shp.prod]
set_option maxRecDepth 100000 in
set_option maxHeartbeats 8000000 in
theorem mcell_c (a b : Ten) (za zb i : Int) (ah am ar : Addr) (w : World) (ha : a.In w) (hb : b.In w) (hzz : ∀ q ∈ [za, zb], (Lit.int .i64 q).wf = true) (hi : -9223372036854775808 ≤ i ∧ i ≤ 9223372036854775807) (hE : E3 w ah am ar) :
    Calls Tryd.prog 24 #[.agg (tcells a.P a.zs.length a.cap a.u a.D a.ds.length a.dcap), .agg (tcells b.P b.zs.length b.cap b.u b.D b.ds.length b.dcap), .int .i64 za, .int .i64 zb, .int .i64 i] w fun e w' => e = .returned (.int .i64 (Mat.cell za zb a b i)) ∧ Below w.heap.size w w' := by
  obtain ⟨W0, hW0⟩ : ∃ W, W = ((w.alloc (.cells a.vals.toArray 26)).alloc (.cells b.vals.toArray 26)) := ⟨_, rfl⟩
  have HA : Hid (Has W0 w.heap.size 26 a.vals) := hide (by rw [hW0]; exact (Has.new w 26 a.vals).alloc _)
  have HB : Hid (Has W0 (w.heap.size + 1) 26 b.vals) := hide (by rw [hW0]; exact box_at _ _ _ _ (by simp))
  have HB0 : Hid (Below w.heap.size w W0) := hide (by rw [hW0]; exact ((Below.refl _ _).alloc (Nat.le_refl _) _).alloc (by simp) _)
  have HV := hide (mlook_c a b za zb ah am ar W0 (ha.below HB0.out) (hb.below HB0.out) (hE.below HB0.out))
  have HIa := hide (fun W (h : Below w.heap.size w W) => ha.below h)
  have HIb := hide (fun W (h : Below w.heap.size w W) => hb.below h)
  have HE2 := hide (fun W (h : Below w.heap.size w W) => hE.2.below h)
  have HFi := hide (fun h : Cel.fault [a, b] (Mat.code za zb a.look b.look) = (0, none) => Mat.fine h)
  have hfc := Cel.fault_cases (ts := [a, b]) (Mat.code_known za zb a.look b.look)
  have HW := hide hW0
  have HQ := hide hzz
  have HI := hide hi
  unfold Ten.vals at HW
  clear ha hb hE hW0 hzz hi
  go_enter Tryd.func24, Tryd.ntmps24
  go_wp2_with fail
  rw [← HW.out]
  clear HW
  refine HV.out.mono ?_
  rintro e w1 ⟨⟨d, x, rfl, hdi, hdf, hdz, hdu, hx⟩, hb⟩
  replace HA := hide (HA.out.below hb HA.out.lt)
  replace HB := hide (HB.out.below hb HB.out.lt)
  have HB1 := hide (HB0.out.trans (hb.mono HB0.out.size))
  clear hb HV HB0
  by_cases hf : Cel.fault [a, b] (Mat.code za zb a.look b.look) = (0, none)
  case neg =>
    have hE := hx.errv hfc hf
    have HBf := hide (HB1.out.alloc HB1.out.size (.cells #[.slice d.P d.zs.length d.cap, .bool d.u] 24))
    have HV0 : Hid (Mat.cell za zb a b i = 0) := hide (by unfold Mat.cell; rw [if_neg hf])
    have r1 := run_neqerr hE
    have r2 := run_neqguard hE
    clear hdi hdf hdz hdu hx hf hfc hE HFi HIa HIb HE2 HQ HA HB HI
    go_wp2_with fail
    go_ret
    exact ⟨by rw [HV0.out]; rfl, HBf.out⟩
  case pos =>
    obtain ⟨M, K, N, hfi⟩ := HFi.out hf
    have hor : ∀ {α : Type} (p q : α), Cel.or [a, b] (Mat.code za zb a.look b.look) p q = p := fun p q => by
      unfold Cel.or
      rw [if_pos hf]
    rw [hor, hfi.sh] at hdz
    rw [hor, hfi.kd] at hdu
    rw [hf] at hx
    obtain rfl : x = .nilIface := hx
    have hdzl : d.zs.length = 2 := by rw [hdz]; rfl
    have hri := hdi.shp
    rw [hdz] at hri
    rw [hdzl, hdu]
    obtain ⟨W2, hW2⟩ : ∃ W, W = ((w1.alloc (.cells #[.slice d.P 2 d.cap, .bool true] 24)).alloc (.cells #[.int .i64 za, .int .i64 zb] 3)).alloc (.cells ([a, b].flatMap Ten.vals).toArray 26) := ⟨_, rfl⟩
    have hb2 : Below w1.heap.size w1 W2 := by rw [hW2]; exact (((Below.refl _ _).alloc (Nat.le_refl _) _).alloc (by simp) _).alloc (by simp; omega) _
    have hI2 : Has W2 (w1.heap.size + 1) 3 (i64s [za, zb]) := by rw [hW2]; exact (box_at _ 3 [.int .i64 za, .int .i64 zb] _ (by simp)).alloc _
    have hT2 : Has W2 (w1.heap.size + 2) 26 ([a, b].flatMap Ten.vals) := by rw [hW2]; exact box_at _ _ _ _ (by simp)
    have hB2 := HB1.out.trans (hb2.mono HB1.out.size)
    obtain ⟨hpc, hpe⟩ := Mat.prod_two M N hfi.m1 hfi.m2 hfi.n1 hfi.n2 hfi.mn
    have hel : Mat.cell za zb a b i = if 0 ≤ i then (Mat.part a.ds b.ds za zb K N 0 (M * N)).getD i.toNat 0 else 0 := by
      unfold Mat.cell
      rw [if_pos hf, hfi.ds]
    have HO := hide (one_any [(M : Int), (N : Int)] d.P d.cap true 12 i (Mat.cell za zb a b i) (some ⟨w1.heap.size + 1, 0, none⟩) (some ⟨w1.heap.size + 2, 0, none⟩) 2 2 2 2 am ar W2 (hri.below hb2) (by show 2 ≤ 1000000; omega) (HE2.out _ hB2) HI.out.2 HI.out.1
      (fun h => by
        rw [hpe] at h
        rw [hel]
        by_cases h0 : 0 ≤ i
        · rw [if_pos h0, List.getD_eq_getElem?_getD, List.getElem?_eq_none (by rw [Mat.part_length]; omega)]
          rfl
        · rw [if_neg h0])
      (fun k W hk hlt hB => by
        rw [hpe] at hlt
        have h := mof_c za zb a b M K N hfi (some ⟨w1.heap.size + 1, 0, none⟩) (some ⟨w1.heap.size + 2, 0, none⟩) 2 2 k 1 W ((hI2.ri HQ.out).below hB) (hT2.row.below hB) ((HIa.out _ hB2).below hB) ((HIb.out _ hB2).below hB) (by omega)
        rw [Mat.part_one _ _ _ _ _ _ (M * N) k (by omega)] at h
        rw [hel, if_pos (by omega), hk, Int.toNat_natCast]
        exact h))
    have HB2 := hide hB2
    have HW2 := hide hW2
    unfold Ten.vals at HA HB HW2
    simp only [List.flatMap_cons, List.flatMap_nil, List.append_nil, List.cons_append, List.nil_append] at HW2
    have a0 := HA.out.cell 0
    have a1 := HA.out.cell 1
    have a2 := HA.out.cell 2
    have b0 := HB.out.cell 0
    have b1 := HB.out.cell 1
    have b2 := HB.out.cell 2
    have hal := HA.out.lt
    have hbl := HB.out.lt
    obtain ⟨v, hv⟩ : ∃ v, Hid (Mat.cell za zb a b i = v) := ⟨_, hide rfl⟩
    rw [hv.out] at HO
    clear hdi hdf hdz hf hfc hfi hri hW2 hb2 hI2 hT2 hB2 HFi HIa HIb HE2 HQ hor hdzl hdu HB1 HA HB hel hpc hpe
    go_wp2_with fail
    rw [← HW2.out]
    clear HW2 a0 a1 a2 b0 b1 b2
    refine HO.out.mono ?_
    rintro e w3 ⟨rfl, hb⟩
    have HBf := hide (HB2.out.trans (hb.mono HB2.out.size))
    clear HO hb
    go_wp2_with fail
    go_ret
    exact ⟨by rw [hv.out]; rfl, HBf.out⟩
/-- What is amiss with one turned: the error's number. -/
def Mat.tcode (d : Dsc) : Nat := if Shp.code d.zs ≠ 0 then Shp.code d.zs else if d.zs.length ≠ 2 then 101 else 0
theorem Mat.tcode_known (d : Dsc) : Cel.known (Mat.tcode d) := by
  unfold Mat.tcode
  split
  · exact Cel.known_shp _
  split
  · exact .inr (.inl rfl)
  · exact .inl rfl
def Mat.tzs (a : Ten) : List Int := [a.zs.getD 1 0, a.zs.getD 0 0]
def Mat.tds (a : Ten) : List Int := Mat.turn a.ds (a.zs.getD 0 0).toNat (a.zs.getD 1 0).toNat 0 ((a.zs.getD 1 0).toNat * (a.zs.getD 0 0).toNat)
structure Mat.TFine (a : Ten) (M N : Nat) : Prop where
  az : a.zs = [(M : Int), (N : Int)]
  m1 : 1 ≤ M
  m2 : M ≤ 256
  n1 : 1 ≤ N
  n2 : N ≤ 256
  al : a.ds.length = M * N
  mn : M * N ≤ 16384
  ft : ∀ z ∈ a.ds, Tens.fit a.u z = true
theorem Mat.tfine {a : Ten} (h : Cel.fault [a] (Mat.tcode a.look) = (0, none)) : ∃ M N : Nat, Mat.TFine a M N := by
  obtain ⟨h1, h2⟩ := Cel.fine h
  have hfa := Tens.whole (Tens.first_fine _ h1 a (by simp))
  have hwa := Shp.whole hfa.1
  unfold Mat.tcode at h2
  rw [if_neg (by rw [show Shp.code a.look.zs = 0 from hfa.1]; simp)] at h2
  have hal : a.zs.length = 2 := Classical.byContradiction fun e => by rw [if_pos (show a.look.zs.length ≠ 2 from e)] at h2; cases h2
  obtain ⟨x0, x1, hx⟩ : ∃ x y, a.zs = [x, y] := by
    match h : a.zs, hal with
    | [x, y], _ => exact ⟨x, y, rfl⟩
  rw [hx] at hfa hwa
  have d0 := hwa.2.1 x0 (by simp)
  have d1 := hwa.2.1 x1 (by simp)
  obtain ⟨M, rfl⟩ : ∃ n : Nat, x0 = n := ⟨x0.toNat, by omega⟩
  obtain ⟨N, rfl⟩ : ∃ n : Nat, x1 = n := ⟨x1.toNat, by omega⟩
  have e2 : Shp.prod [(M : Int), (N : Int)] = ((M * N : Nat) : Int) := by simp [Shp.prod]
  have hwp := hwa.2.2.2.2
  rw [e2] at hfa hwp
  exact ⟨M, N, hx, by omega, by omega, by omega, by omega, Int.ofNat.inj hfa.2.1, by omega, hfa.2.2⟩
theorem Mat.turn_wf (ds : List Int) (u : Bool) (m n f k : Nat) (h : ∀ z ∈ ds, Tens.fit u z = true) : ∀ z ∈ Mat.turn ds m n f k, (Lit.int .i64 z).wf = true := by
  intro z hz
  unfold Mat.turn at hz
  obtain ⟨i, -, rfl⟩ := List.mem_map.1 hz
  rw [List.getD_eq_getElem?_getD]
  cases e : ds[(f + i) % m * n + (f + i) / m]? with
  | none => exact wf_i64 _ (by decide)
  | some q => exact wf_i64 _ (by have := fit_any (h q (List.mem_of_getElem? e)); rw [Option.getD_some]; omega)
/-- cells.Of one turned. -/
theorem tof_turn (a : Ten) (M N : Nat) (hf : Mat.TFine a M N) (A B : Option Addr) (nq qcap bcap f n : Nat) (w : World) (hR : Row w B ([a].flatMap Ten.vals)) (ha : a.In w) (hn : f + n ≤ M * N) :
    Calls Tryd.prog 70 #[.int .i64 21, .slice A nq qcap, .int .i64 f, .int .i64 ((f + n : Nat) : Int), .slice B 1 bcap] w fun e w' => (∃ g, e = .returned (.slice (some ⟨g, 0, none⟩) n n) ∧ w.heap.size ≤ g ∧ Has w' g 3 (i64s (Mat.turn a.ds M N f n))) ∧ Below w.heap.size w w' := by
  have hmn := hf.mn
  refine of_any (Mat.turn a.ds M N f n) 21 A B nq qcap 1 bcap f n w (by omega) fun W g hB hg hG => ?_
  refine fill_turn _ a A B nq qcap bcap n f n (some ⟨g, 0, none⟩) W (hR.below hB) ?_
  have h := turn_c (List.replicate n 0) a M N n f g w W hf.az hf.al hf.m1 (by omega) ha hB hg hG (by rw [List.length_replicate]; exact hn)
  rw [List.length_replicate] at h
  exact h
theorem tall_c (a : Ten) (M N : Nat) (hf : Mat.TFine a M N) (P : Option Addr) (cap : Nat) (u : Bool) (A B : Option Addr) (nq qcap bcap : Nat) (am ar : Addr) (w : World) (hr : Ri w P [(N : Int), (M : Int)]) (hE : E2 w am ar) (hR : Row w B ([a].flatMap Ten.vals)) (ha : a.In w) :
    Calls Tryd.prog 43 #[.agg (dcells P 2 cap u), .int .i64 21, .slice A nq qcap, .slice B 1 bcap] w fun e w' => (∃ g, e = .returned (.agg (tcells P 2 cap u (some ⟨g, 0, none⟩) (N * M) (N * M))) ∧ w.heap.size < g ∧ Has w' g 3 (i64s (Mat.turn a.ds M N 0 (N * M)))) ∧ Below w.heap.size w w' := by
  have hmn := hf.mn
  rw [Nat.mul_comm] at hmn
  have hpe := (Mat.prod_two N M hf.n1 hf.n2 hf.m1 hf.m2 hmn).2
  have h := all_c [(N : Int), (M : Int)] (Mat.turn a.ds M N 0 (N * M)) P cap u 21 A B nq qcap 1 bcap am ar w hr (by show 2 ≤ 1000000; omega) hE (by rw [Mat.turn_length, hpe]) fun W hB => by
    have h := tof_turn a M N hf A B nq qcap bcap 0 (N * M) W (hR.below hB) (ha.below hB) (by rw [Nat.mul_comm N M]; omega)
    rw [Nat.zero_add] at h
    rw [Mat.turn_length]
    exact h
  rw [Mat.turn_length] at h
  exact h
set_option maxRecDepth 100000 in
set_option maxHeartbeats 8000000 in
theorem mturn_c (a : Ten) (ah am ar : Addr) (w : World) (ha : a.In w) (hE : E3 w ah am ar) :
    Calls Tryd.prog 19 #[.agg (tcells a.P a.zs.length a.cap a.u a.D a.ds.length a.dcap)] w (TenE w ah am ar (Cel.fault [a] (Mat.tcode a.look)) (Mat.tzs a) a.u (Mat.tds a)) := by
  obtain ⟨W0, hW0⟩ : ∃ W, W = ((w.alloc (.cells a.vals.toArray 26)).alloc (.cells #[.slice none 0 0, .bool false, .slice none 0 0] 26)) := ⟨_, rfl⟩
  have HA : Hid (Has W0 w.heap.size 26 a.vals) := hide (by rw [hW0]; exact (Has.new w 26 a.vals).alloc _)
  have HZ : Hid (Has W0 (w.heap.size + 1) 26 [.slice none 0 0, .bool false, .slice none 0 0]) := hide (by rw [hW0]; exact box_at _ _ _ _ (by simp))
  have HB0 : Hid (Below w.heap.size w W0) := hide (by rw [hW0]; exact ((Below.refl _ _).alloc (Nat.le_refl _) _).alloc (by simp) _)
  have HV := hide (tvalid_c a.zs a.ds a.P a.D a.cap a.dcap a.u ah am ar W0 (ha.below HB0.out).shp (ha.below HB0.out).dat (by have := ha.ls; omega) (by have := ha.ld; omega) (hE.below HB0.out))
  have HIa := hide (fun W (h : Below w.heap.size w W) => ha.below h)
  have HE2 := hide (fun W (h : Below w.heap.size w W) => hE.2.below h)
  have HEs := hide hE.1
  have HW := hide hW0
  have hfc := tfault_cases a.zs a.u a.ds
  unfold Ten.vals at HW HA
  clear ha hE hW0
  go_enter Tryd.func19, Tryd.ntmps19
  go_wp2_with fail
  rw [← HW.out]
  clear HW
  refine HV.out.mono ?_
  rintro e w1 ⟨⟨x, rfl, hx⟩, hb⟩
  replace HZ := hide (HZ.out.below hb HZ.out.lt)
  replace HA := hide (HA.out.below hb HA.out.lt)
  have HB1 := hide (HB0.out.trans (hb.mono HB0.out.size))
  clear hb HV HB0
  by_cases hf : Tens.fault a.zs a.u a.ds = (0, none)
  case neg =>
    have hE := hx.errv hfc hf
    have hF : Cel.fault [a] (Mat.tcode a.look) = Tens.fault a.zs a.u a.ds := Cel.one_bad hf
    obtain ⟨z0, z1, z2, zf0, zf1, zf2, HZf, HFf⟩ := elm_three HZ.out HB1.out (Nat.le_add_right _ 1) (.slice none 0 0) (.bool false) (.slice none 0 0)
    have HXX := hide (hx.fart3 HZ.out (by decide) (.slice none 0 0) (.bool false) (.slice none 0 0))
    have HF := hide hF
    have HN := hide hf
    have r1 := run_neqerr hE
    have r2 := run_neqguard hE
    clear hx hf hfc hE HIa HE2 HEs HA hF
    go_wp2_with fail
    refine bodyPost_ret (results_tn rfl _ _ (w.heap.size + 1) _ _ _ rfl HZf.out) rfl ?_
    rw [HF.out]
    exact TenE.bad rfl HN.out HXX.out HFf.out
  case pos =>
  have hF : Cel.fault [a] (Mat.tcode a.look) = (Mat.tcode a.look, none) := Cel.one_good hf
  have hcz : Shp.code a.zs = 0 := (fine_len hf).2
  rw [hf] at hx
  obtain rfl : x = .nilIface := hx
  have a0 : w1.cell? ⟨w.heap.size, 0, none⟩ = some (.slice a.P a.zs.length a.cap) := HA.out.cell 0
  have a1 : w1.cell? ⟨w.heap.size, 1, none⟩ = some (.bool a.u) := HA.out.cell 1
  by_cases hl : a.zs.length = 2
  case neg =>
    have hF2 : Cel.fault [a] (Mat.tcode a.look) = (101, none) := by
      rw [hF]
      unfold Mat.tcode
      rw [if_neg (by rw [show Shp.code a.look.zs = 0 from hcz]; simp), if_pos (by exact hl)]
    obtain ⟨n, hn⟩ : ∃ n, Hid (a.zs.length = n) := ⟨_, hide rfl⟩
    rw [hn.out] at a0 hl
    have hni : ((n : Int) != 2) = true := by simp; omega
    have HF := hide hF2
    obtain ⟨z0, z1, z2, zf0, zf1, zf2, HZf, HFf⟩ := elm_threed HZ.out HB1.out (Nat.le_add_right _ 1) (.slice none 0 0) (.bool false) (.slice none 0 0)
    have hs5 : w1.drew.cell? ⟨0, 0, none⟩ = some (errv ah) := (HEs.out.below HB1.out).1
    have hglt : 0 < w.heap.size := HEs.out.2.1
    have hS9 := hide (HEs.out.below HFf.out).1
    clear hf hfc hF hF2 hcz hl HIa HE2 HA
    go_wp2_with fail
    go_region_held3 (fun W => W.cell? ⟨0, 0, none⟩ = some (errv ah))
      (first | exact hs5 | assumption | exact hS9.out)
      (first | fail)
    go_wp2_with fail
    refine bodyPost_ret (results_tn rfl _ _ (w.heap.size + 1) _ _ _ rfl HZf.out) rfl ?_
    rw [HF.out]
    exact TenE.bad rfl (by simp) rfl HFf.out
  case pos =>
    have hF2 : Cel.fault [a] (Mat.tcode a.look) = (0, none) := by
      rw [hF]
      unfold Mat.tcode
      rw [if_neg (by rw [show Shp.code a.look.zs = 0 from hcz]; simp), if_neg (by exact fun h => h hl)]
    obtain ⟨M, N, hfi⟩ := Mat.tfine hF2
    have HTF := hide hfi
    have HN := hide hF2
    have hra := (HIa.out w1 HB1.out).shp
    rw [hfi.az] at hra
    obtain ⟨pa, hpa', p0, p1⟩ := ri_pair hra
    have hpal : pa.block < w1.heap.size := by obtain ⟨ad, h1, h2, -⟩ := hra.2 (by simp); rw [hpa'] at h1; rw [Option.some.inj h1]; exact h2
    have hpa := hide hpa'
    have hzl := hide hl
    have HWF : Hid (∀ q ∈ [(N : Int), (M : Int)], (Lit.int .i64 q).wf = true) := hide (by
      intro q hq
      simp at hq
      rcases hq with rfl | rfl
      · exact hra.1 _ (by simp)
      · exact hra.1 _ (by simp))
    rw [hpa', hl] at a0 HA
    have hbz : Below w1.heap.size w1 (w1.alloc (.cells #[.slice none 0 0, .bool false] 24)) := (Below.refl _ _).alloc (Nat.le_refl _) _
    have a0z : (w1.alloc (.cells #[.slice none 0 0, .bool false] 24)).cell? ⟨w.heap.size, 0, none⟩ = some (.slice (some pa) 2 a.cap) := (hbz.cell (p := ⟨w.heap.size, 0, none⟩) HA.out.lt).trans a0
    have a1z : (w1.alloc (.cells #[.slice none 0 0, .bool false] 24)).cell? ⟨w.heap.size, 1, none⟩ = some (.bool a.u) := (hbz.cell (p := ⟨w.heap.size, 1, none⟩) HA.out.lt).trans a1
    have p0z : (w1.alloc (.cells #[.slice none 0 0, .bool false] 24)).cell? pa = some (.int .i64 M) := (hbz.cell hpal).trans p0
    have p1z : (w1.alloc (.cells #[.slice none 0 0, .bool false] 24)).cell? ⟨pa.block, pa.off + 1, none⟩ = some (.int .i64 N) := (hbz.cell (p := ⟨pa.block, pa.off + 1, none⟩) hpal).trans p1
    have hby : Below w1.heap.size w1 (w1.alloc (.cells #[.int .i64 N, .int .i64 M] 3)) := (Below.refl _ _).alloc (Nat.le_refl _) _
    have hbw : Below w1.heap.size w1 ((w1.alloc (.cells #[.slice none 0 0, .bool false] 24)).alloc (.cells #[.int .i64 N, .int .i64 M] 3)) := hbz.alloc (by simp) _
    have a1y : (w1.alloc (.cells #[.int .i64 N, .int .i64 M] 3)).cell? ⟨w.heap.size, 1, none⟩ = some (.bool a.u) := (hby.cell (p := ⟨w.heap.size, 1, none⟩) HA.out.lt).trans a1
    have a1w : ((w1.alloc (.cells #[.slice none 0 0, .bool false] 24)).alloc (.cells #[.int .i64 N, .int .i64 M] 3)).cell? ⟨w.heap.size, 1, none⟩ = some (.bool a.u) := (hbw.cell (p := ⟨w.heap.size, 1, none⟩) HA.out.lt).trans a1
    have hbv : Below w1.heap.size w1 ((w1.alloc (.cells #[.int .i64 N, .int .i64 M] 3)).alloc (.cells #[.slice none 0 0, .bool false] 24)) := hby.alloc (by simp) _
    have a1v : ((w1.alloc (.cells #[.int .i64 N, .int .i64 M] 3)).alloc (.cells #[.slice none 0 0, .bool false] 24)).cell? ⟨w.heap.size, 1, none⟩ = some (.bool a.u) := (hbv.cell (p := ⟨w.heap.size, 1, none⟩) HA.out.lt).trans a1
    clear hbv hbz hby hbw hf hfc hF hF2 hcz hl hra hfi hpa' HEs
    go_wp2_with fail
    go_region
    · obtain ⟨W4, hW4⟩ : ∃ W, W = ((w1.alloc (.cells #[.int .i64 N, .int .i64 M] 3)).alloc (.cells #[.slice (some ⟨w1.heap.size, 0, none⟩) 2 2, .bool a.u] 24)).drew := ⟨_, rfl⟩
      have hb4 : Below w1.heap.size w1 W4 := by rw [hW4]; exact (((Below.refl _ _).alloc (Nat.le_refl _) _).alloc (by simp) _).drew
      have HD : Hid (Has W4 (w1.heap.size + 1) 24 [.slice (some ⟨w1.heap.size, 0, none⟩) 2 2, .bool a.u]) := hide (by rw [hW4]; exact Has.drewN (box_at _ 24 [.slice (some ⟨w1.heap.size, 0, none⟩) 2 2, .bool a.u] _ (by simp)) 1)
      have HI : Hid (Has W4 (w1.heap.size) 3 (i64s [(N : Int), (M : Int)])) := hide (by rw [hW4]; exact Has.drewN ((Has.new w1 3 [.int .i64 N, .int .i64 M]).alloc _) 1)
      have HFr : Hid (w.heap.size + 2 ≤ w1.heap.size) := hide (by have := HZ.out.lt; omega)
      have HWS : Hid (w1.heap.size < W4.heap.size) := hide HI.out.lt
      have HW1S : Hid (w.heap.size + 2 ≤ W4.heap.size) := hide (by have := HZ.out.lt; have := hb4.size; omega)
      replace HA := hide (HA.out.below hb4 HA.out.lt)
      replace HZ := hide (HZ.out.below hb4 HZ.out.lt)
      replace HB1 := hide (HB1.out.trans (hb4.mono HB1.out.size))
      rw [← hW4]
      have d0 : W4.cell? ⟨w1.heap.size + 1, 0, none⟩ = some (.slice (some ⟨w1.heap.size, 0, none⟩) 2 2) := HD.out.cell 0
      have d1 : W4.cell? ⟨w1.heap.size + 1, 1, none⟩ = some (.bool a.u) := HD.out.cell 1
      have e0 : W4.cell? ⟨w.heap.size, 0, none⟩ = some (.slice (some pa) 2 a.cap) := HA.out.cell 0
      have e1 : W4.cell? ⟨w.heap.size, 1, none⟩ = some (.bool a.u) := HA.out.cell 1
      have e2 : W4.cell? ⟨w.heap.size, 2, none⟩ = some (.slice a.D a.ds.length a.dcap) := HA.out.cell 2
      obtain ⟨W5, hW5⟩ : ∃ W, W = W4.alloc (.cells ([a].flatMap Ten.vals).toArray 26) := ⟨_, rfl⟩
      have hb5 : Below W4.heap.size W4 W5 := by rw [hW5]; exact (Below.refl _ _).alloc (Nat.le_refl _) _
      have hT5 : Has W5 W4.heap.size 26 ([a].flatMap Ten.vals) := by rw [hW5]; exact Has.new _ _ _
      have HB5 := hide (HB1.out.trans (hb5.mono HB1.out.size))
      have HI5 := hide (HI.out.below hb5 HI.out.lt)
      have HZ5 := hide (HZ.out.below hb5 HZ.out.lt)
      have HAl := hide (tall_c a M N HTF.out (some ⟨w1.heap.size, 0, none⟩) 2 a.u none (some ⟨W4.heap.size, 0, none⟩) 0 0 1 am ar W5 (HI5.out.ri HWF.out) (HE2.out _ HB5.out) hT5.row (HIa.out _ HB5.out))
      have HW5 := hide hW5
      have HW5S : Hid (W4.heap.size ≤ W5.heap.size) := hide hb5.size
      unfold Ten.vals at HW5
      simp only [List.flatMap_cons, List.flatMap_nil, List.append_nil] at HW5
      rw [hpa.out, hzl.out] at HW5
      clear hW4 hb4 hW5 hb5 hT5 HIa HE2 a0 a1 a0z a1z a1y a1w a1v p0 p1 p0z p1z hpal HA HB1 HZ HI HD
      go_wp2_with fail
      rw [← HW5.out]
      clear HW5 d0 d1 e0 e1 e2
      refine HAl.out.mono ?_
      rintro e w6 ⟨⟨g, rfl, hg, hG⟩, hb⟩
      have hZ6 := HZ5.out.below hb HZ5.out.lt
      have hB6 := HB5.out.trans (hb.mono HB5.out.size)
      have hI6 := HI5.out.below hb HI5.out.lt
      obtain ⟨z0, z1, z2, zf0, zf1, zf2, HZf, HFf⟩ := elm_three hZ6 hB6 (Nat.le_add_right _ 1) (.slice (some ⟨w1.heap.size, 0, none⟩) 2 2) (.bool a.u) (.slice (some ⟨g, 0, none⟩) (N * M) (N * M))
      have hfr := HFr.out
      have hws := HW5S.out
      have hw1s := HW1S.out
      have hmn := HTF.out.mn
      have ht : Ten.In w6 ⟨some ⟨w1.heap.size, 0, none⟩, [(N : Int), (M : Int)], 2, a.u, some ⟨g, 0, none⟩, Mat.turn a.ds M N 0 (N * M), N * M⟩ := ⟨hI6.ri HWF.out, hG.ri (Mat.turn_wf _ a.u _ _ _ _ HTF.out.ft), by show 2 ≤ 1000000; omega, by rw [Mat.turn_length, Nat.mul_comm]; omega⟩
      have htf : Ten.Fresh (w.heap.size + 1 + 1) ⟨some ⟨w1.heap.size, 0, none⟩, [(N : Int), (M : Int)], 2, a.u, some ⟨g, 0, none⟩, Mat.turn a.ds M N 0 (N * M), N * M⟩ := ⟨fun ad h => by cases h; exact hfr, fun ad h => by cases h; show w.heap.size + 1 + 1 ≤ g; omega⟩
      have HT := hide (ht.far3 htf (.slice (some ⟨w1.heap.size, 0, none⟩) 2 2) (.bool a.u) (.slice (some ⟨g, 0, none⟩) (N * M) (N * M)))
      have HTF' := hide (htf.le (m := w.heap.size + 1) (by omega))
      have HGf := hide (((hG.far (p := ⟨w.heap.size + 1, 0, none⟩) (by simp; omega) (.slice (some ⟨w1.heap.size, 0, none⟩) 2 2)).far (p := ⟨w.heap.size + 1, 1, none⟩) (by simp; omega) (.bool a.u)).far (p := ⟨w.heap.size + 1, 2, none⟩) (by simp; omega) (.slice (some ⟨g, 0, none⟩) (N * M) (N * M)))
      clear HAl hb hZ6 hB6 hI6 hG hfr hws hw1s hmn ht htf
      go_wp2_with fail
      refine bodyPost_ret (results_tn rfl _ _ (w.heap.size + 1) _ _ _ rfl HZf.out) rfl ?_
      refine ⟨⟨⟨some ⟨w1.heap.size, 0, none⟩, [(N : Int), (M : Int)], 2, a.u, some ⟨g, 0, none⟩, Mat.turn a.ds M N 0 (N * M), N * M⟩, .nilIface, ?_, HT.out, HTF'.out, ?_, ?_, ?_, ?_, fun _ => ⟨g, rfl, (Mat.turn_length _ _ _ _ _).symm, HGf.out⟩⟩, HFf.out⟩
      · rw [Mat.turn_length]
        rfl
      · rw [if_pos HN.out]
        unfold Mat.tzs
        rw [HTF.out.az]
        rfl
      · rw [if_pos HN.out]
      · rw [if_pos HN.out]
        unfold Mat.tds
        rw [HTF.out.az]
        rfl
      · rw [HN.out]
        rfl
    · obtain ⟨W4, hW4⟩ : ∃ W, W = ((w1.alloc (.cells #[.slice (some ⟨w1.heap.size + 1, 0, none⟩) 2 2, .bool a.u] 24)).alloc (.cells #[.int .i64 N, .int .i64 M] 3)).drew := ⟨_, rfl⟩
      have hb4 : Below w1.heap.size w1 W4 := by rw [hW4]; exact (((Below.refl _ _).alloc (Nat.le_refl _) _).alloc (by simp) _).drew
      have HD : Hid (Has W4 (w1.heap.size) 24 [.slice (some ⟨w1.heap.size + 1, 0, none⟩) 2 2, .bool a.u]) := hide (by rw [hW4]; exact Has.drewN ((Has.new w1 24 [.slice (some ⟨w1.heap.size + 1, 0, none⟩) 2 2, .bool a.u]).alloc _) 1)
      have HI : Hid (Has W4 (w1.heap.size + 1) 3 (i64s [(N : Int), (M : Int)])) := hide (by rw [hW4]; exact Has.drewN (box_at _ 3 [.int .i64 N, .int .i64 M] _ (by simp)) 1)
      have HFr : Hid (w.heap.size + 2 ≤ w1.heap.size + 1) := hide (by have := HZ.out.lt; omega)
      have HWS : Hid (w1.heap.size + 1 < W4.heap.size) := hide HI.out.lt
      have HW1S : Hid (w.heap.size + 2 ≤ W4.heap.size) := hide (by have := HZ.out.lt; have := hb4.size; omega)
      replace HA := hide (HA.out.below hb4 HA.out.lt)
      replace HZ := hide (HZ.out.below hb4 HZ.out.lt)
      replace HB1 := hide (HB1.out.trans (hb4.mono HB1.out.size))
      rw [← hW4]
      have d0 : W4.cell? ⟨w1.heap.size, 0, none⟩ = some (.slice (some ⟨w1.heap.size + 1, 0, none⟩) 2 2) := HD.out.cell 0
      have d1 : W4.cell? ⟨w1.heap.size, 1, none⟩ = some (.bool a.u) := HD.out.cell 1
      have e0 : W4.cell? ⟨w.heap.size, 0, none⟩ = some (.slice (some pa) 2 a.cap) := HA.out.cell 0
      have e1 : W4.cell? ⟨w.heap.size, 1, none⟩ = some (.bool a.u) := HA.out.cell 1
      have e2 : W4.cell? ⟨w.heap.size, 2, none⟩ = some (.slice a.D a.ds.length a.dcap) := HA.out.cell 2
      obtain ⟨W5, hW5⟩ : ∃ W, W = W4.alloc (.cells ([a].flatMap Ten.vals).toArray 26) := ⟨_, rfl⟩
      have hb5 : Below W4.heap.size W4 W5 := by rw [hW5]; exact (Below.refl _ _).alloc (Nat.le_refl _) _
      have hT5 : Has W5 W4.heap.size 26 ([a].flatMap Ten.vals) := by rw [hW5]; exact Has.new _ _ _
      have HB5 := hide (HB1.out.trans (hb5.mono HB1.out.size))
      have HI5 := hide (HI.out.below hb5 HI.out.lt)
      have HZ5 := hide (HZ.out.below hb5 HZ.out.lt)
      have HAl := hide (tall_c a M N HTF.out (some ⟨w1.heap.size + 1, 0, none⟩) 2 a.u none (some ⟨W4.heap.size, 0, none⟩) 0 0 1 am ar W5 (HI5.out.ri HWF.out) (HE2.out _ HB5.out) hT5.row (HIa.out _ HB5.out))
      have HW5 := hide hW5
      have HW5S : Hid (W4.heap.size ≤ W5.heap.size) := hide hb5.size
      unfold Ten.vals at HW5
      simp only [List.flatMap_cons, List.flatMap_nil, List.append_nil] at HW5
      rw [hpa.out, hzl.out] at HW5
      clear hW4 hb4 hW5 hb5 hT5 HIa HE2 a0 a1 a0z a1z a1y a1w a1v p0 p1 p0z p1z hpal HA HB1 HZ HI HD
      go_wp2_with fail
      rw [← HW5.out]
      clear HW5 d0 d1 e0 e1 e2
      refine HAl.out.mono ?_
      rintro e w6 ⟨⟨g, rfl, hg, hG⟩, hb⟩
      have hZ6 := HZ5.out.below hb HZ5.out.lt
      have hB6 := HB5.out.trans (hb.mono HB5.out.size)
      have hI6 := HI5.out.below hb HI5.out.lt
      obtain ⟨z0, z1, z2, zf0, zf1, zf2, HZf, HFf⟩ := elm_three hZ6 hB6 (Nat.le_add_right _ 1) (.slice (some ⟨w1.heap.size + 1, 0, none⟩) 2 2) (.bool a.u) (.slice (some ⟨g, 0, none⟩) (N * M) (N * M))
      have hfr := HFr.out
      have hws := HW5S.out
      have hw1s := HW1S.out
      have hmn := HTF.out.mn
      have ht : Ten.In w6 ⟨some ⟨w1.heap.size + 1, 0, none⟩, [(N : Int), (M : Int)], 2, a.u, some ⟨g, 0, none⟩, Mat.turn a.ds M N 0 (N * M), N * M⟩ := ⟨hI6.ri HWF.out, hG.ri (Mat.turn_wf _ a.u _ _ _ _ HTF.out.ft), by show 2 ≤ 1000000; omega, by rw [Mat.turn_length, Nat.mul_comm]; omega⟩
      have htf : Ten.Fresh (w.heap.size + 1 + 1) ⟨some ⟨w1.heap.size + 1, 0, none⟩, [(N : Int), (M : Int)], 2, a.u, some ⟨g, 0, none⟩, Mat.turn a.ds M N 0 (N * M), N * M⟩ := ⟨fun ad h => by cases h; exact hfr, fun ad h => by cases h; show w.heap.size + 1 + 1 ≤ g; omega⟩
      have HT := hide (ht.far3 htf (.slice (some ⟨w1.heap.size + 1, 0, none⟩) 2 2) (.bool a.u) (.slice (some ⟨g, 0, none⟩) (N * M) (N * M)))
      have HTF' := hide (htf.le (m := w.heap.size + 1) (by omega))
      have HGf := hide (((hG.far (p := ⟨w.heap.size + 1, 0, none⟩) (by simp; omega) (.slice (some ⟨w1.heap.size + 1, 0, none⟩) 2 2)).far (p := ⟨w.heap.size + 1, 1, none⟩) (by simp; omega) (.bool a.u)).far (p := ⟨w.heap.size + 1, 2, none⟩) (by simp; omega) (.slice (some ⟨g, 0, none⟩) (N * M) (N * M)))
      clear HAl hb hZ6 hB6 hI6 hG hfr hws hw1s hmn ht htf
      go_wp2_with fail
      refine bodyPost_ret (results_tn rfl _ _ (w.heap.size + 1) _ _ _ rfl HZf.out) rfl ?_
      refine ⟨⟨⟨some ⟨w1.heap.size + 1, 0, none⟩, [(N : Int), (M : Int)], 2, a.u, some ⟨g, 0, none⟩, Mat.turn a.ds M N 0 (N * M), N * M⟩, .nilIface, ?_, HT.out, HTF'.out, ?_, ?_, ?_, ?_, fun _ => ⟨g, rfl, (Mat.turn_length _ _ _ _ _).symm, HGf.out⟩⟩, HFf.out⟩
      · rw [Mat.turn_length]
        rfl
      · rw [if_pos HN.out]
        unfold Mat.tzs
        rw [HTF.out.az]
        rfl
      · rw [if_pos HN.out]
      · rw [if_pos HN.out]
        unfold Mat.tds
        rw [HTF.out.az]
        rfl
      · rw [HN.out]
        rfl
end Go.Proofs.YtkehdgjdieemkaaDoor
