/-
  cells.softmax, walked. By an AI agent. No person has read it.
-/
import Derived.Test.YtcgjnjchkachdaaDoorSftD
namespace Go.Proofs.YtcgjnjchkachdaaDoor
open Go.RowKit

theorem Pl.add_pos (f : Nat → Int) (k : Nat) (h : ∀ i, i < k → 0 ≤ f i) : 0 ≤ Pl.add f k := by
  induction k with
  | zero => exact Int.le_refl 0
  | succ k ih =>
    show 0 ≤ Pl.add f k + f k
    have := ih (fun i hi => h i (by omega))
    have := h k (by omega)
    omega
theorem Sf.wt_le {ts : List Int} (h : ∀ z ∈ ts, -2147483648 ≤ z ∧ z ≤ 2147483647) (k : Nat) : 0 ≤ Sf.wt ts k ∧ Sf.wt ts k ≤ 2147483647 := by
  unfold Sf.wt
  rw [List.getD_eq_getElem?_getD]
  cases e : ts[k]? with
  | none => exact ⟨by show (0 : Int) ≤ max 0 0; omega, by show max (0 : Int) 0 ≤ _; omega⟩
  | some q =>
    have := h q (List.mem_of_getElem? e)
    exact ⟨by show 0 ≤ max 0 q; omega, by show max 0 q ≤ _; omega⟩
/-- How far a row's number is below the greatest; what a row weighs in all; an element of Softmax. -/
def Sf.by_ (row : List Int) (n j : Nat) : Nat := (Pl.top (fun j => row.getD j 0) n - row.getD j 0).toNat
def Sf.all (row ts : List Int) (n k : Nat) : Int := Pl.add (fun j => Sf.wt ts (Sf.by_ row n j)) k
def Sf.of (s w : Int) : Int := if s = 0 then -128 else (255 * w + s / 2) / s - 128
def Sf.soft (xs ts : List Int) (n i : Nat) : Int := Sf.of (Sf.all (Sf.row xs n (i / n)) ts n n) (Sf.wt ts (Sf.by_ (Sf.row xs n (i / n)) n (i % n)))
theorem Sf.by_lt {row : List Int} {n j : Nat} (h : ∀ j, -128 ≤ row.getD j 0 ∧ row.getD j 0 ≤ 127) (hj : j < n) : Sf.by_ row n j < 256 ∧ Pl.top (fun j => row.getD j 0) n - row.getD j 0 = (Sf.by_ row n j : Int) := by
  have h1 := Pl.top_le (fun j => row.getD j 0) (-128) 127 n (h 0) (fun i _ => h i)
  have h2 := Pl.top_upper (fun j => row.getD j 0) n j hj
  have h2 : row.getD j 0 ≤ Pl.top (fun j => row.getD j 0) n := h2
  have h3 := h j
  unfold Sf.by_
  omega
theorem Sf.all_le {ts : List Int} (h : ∀ z ∈ ts, -2147483648 ≤ z ∧ z ≤ 2147483647) (row : List Int) (n k : Nat) (hk : k ≤ 256) : 0 ≤ Sf.all row ts n k ∧ Sf.all row ts n k ≤ 549755813888 := by
  have h1 := Pl.add_pos (fun j => Sf.wt ts (Sf.by_ row n j)) k (fun i _ => (Sf.wt_le h _).1)
  have h2 := Pl.add_le (fun j => Sf.wt ts (Sf.by_ row n j)) 2147483648 k (fun i _ => by have := Sf.wt_le h (Sf.by_ row n i); show -2147483648 ≤ Sf.wt ts (Sf.by_ row n i) ∧ _; omega)
  unfold Sf.all
  omega
set_option maxRecDepth 100000 in
set_option maxHeartbeats 4000000 in
theorem ssoft_c (os : List Int) (a b : Ten) (k m n ocap f g : Nat) (w0 w : World) (hR : Sf.Rows a k m n) (hsa : ∀ z ∈ a.ds, -128 ≤ z ∧ z ≤ 127) (ha : a.In w0) (hb : b.In w0) (hbl : b.ds.length = 256) (hsb : ∀ z ∈ b.ds, -2147483648 ≤ z ∧ z ≤ 2147483647) (hB : Below w0.heap.size w0 w) (hg0 : w0.heap.size ≤ g) (hG : Has w g 3 (i64s os)) (hf : f + os.length ≤ m * n) (hm : m * n ≤ 1000000) :
    Calls Tryd.prog 139 #[.slice (some ⟨g, 0, none⟩) os.length ocap, .int .i64 f, .agg (tcells a.P a.zs.length a.cap a.u a.D a.ds.length a.dcap), .agg (tcells b.P b.zs.length b.cap b.u b.D b.ds.length b.dcap)] w fun e w' => e = .returned (.tuple #[]) ∧ Has w' g 3 (i64s (Sf.part (Sf.soft a.ds b.ds n) f os.length)) ∧ Below w0.heap.size w0 w' := by
  obtain ⟨r, hrr⟩ : ∃ r, Hid (Sf.part (Sf.soft a.ds b.ds n) f os.length = r) := ⟨_, hide rfl⟩
  have hrl : Hid (r.length = os.length) := hide (by rw [← hrr.out]; exact Sf.part_length _ _ _)
  have hri : Hid (∀ i, i < os.length → r[i]? = some (Sf.soft a.ds b.ds n (f + i))) := hide (fun i hi => by
    rw [← hrr.out]
    exact Sf.part_at _ _ _ _ hi)
  rw [hrr.out]
  clear hrr
  have HRO := hide (fun (W : World) (hW : Below w0.heap.size w0 W) (i : Nat) (hi : i < m) => srow_d a k m n i hR hi W (ha.below hW))
  have HRI := hide (fun (W : World) (hW : Below w0.heap.size w0 W) (i : Nat) (hi : i < m) => srow_ri a k m n i hR hi W (ha.below hW))
  have HLE : Hid (∀ i, i < m → (Sf.row a.ds n i).length = n) := hide (fun i hi => Sf.row_length a.ds n i m hi hR.len)
  have HWT := hide (fun (W : World) (hW : Below w0.heap.size w0 W) (j : Nat) (hj : j < 256) => weight_c b j W (hb.below hW) (by rw [hbl]; exact hj))
  have HSA := hide hsa
  have HSB := hide hsb
  have HD1 := hide (And.intro hR.n1 hR.n2)
  have hnpos : 0 < n := HD1.out.1
  obtain ⟨q, hn⟩ : ∃ n, Hid (os.length = n) := ⟨_, hide rfl⟩
  have HF : Hid (f + q ≤ m * n) := hide (by rw [← hn.out]; exact hf)
  have HM := hide hm
  have hnbd : (q : Int) ≤ 1000000 := by have := HF.out; omega
  rw [hn.out]
  rw [hn.out] at hrl hri
  have HOL := hide hn.out
  have hk4 := hR.k4
  have hk1' := hR.k1
  obtain ⟨pa, z, hPA, ez, cz⟩ := ri_at (ha.shp.below hB) (k - 1) (by rw [hR.zl]; omega)
  have hz : z = n := by have h := ez.out; rw [hR.last] at h; exact (Option.some.inj h).symm
  subst hz
  have hza : a.zs.length = k := hR.zl
  obtain ⟨na, hna⟩ : ∃ n, Hid (a.ds.length = n) := ⟨_, hide rfl⟩
  obtain ⟨zb, hzb⟩ : ∃ n, Hid (b.zs.length = n) := ⟨_, hide rfl⟩
  unfold tcells at HRO HWT ⊢
  rw [hza, hna.out, hPA] at HRO ⊢
  rw [hbl, hzb.out] at HWT ⊢
  obtain ⟨W, hW⟩ : ∃ W, W = (w.alloc (.cells #[.slice (some pa) k a.cap, .bool a.u, .slice a.D na a.dcap] 26)).alloc (.cells #[.slice b.P zb b.cap, .bool b.u, .slice b.D 256 b.dcap] 26) := ⟨_, rfl⟩
  have HX : Hid (Has W w.heap.size 26 [.slice (some pa) k a.cap, .bool a.u, .slice a.D na a.dcap]) := hide (by rw [hW]; exact (Has.new w 26 [.slice (some pa) k a.cap, .bool a.u, .slice a.D na a.dcap]).alloc _)
  have HY : Hid (Has W (w.heap.size + 1) 26 [.slice b.P zb b.cap, .bool b.u, .slice b.D 256 b.dcap]) := hide (by rw [hW]; exact box_at _ 26 [.slice b.P zb b.cap, .bool b.u, .slice b.D 256 b.dcap] _ (by simp))
  have HG : Hid (Has W g 3 (i64s os)) := hide (by rw [hW]; exact (hG.alloc _).alloc _)
  have HBw : Below w.heap.size w W := by rw [hW]; exact ((Below.refl w.heap.size w).alloc (Nat.le_refl _) _).alloc (by simp) _
  have HB := hide (hB.trans (HBw.mono hB.size))
  have hgl := hG.lt
  have hsz := hB.size
  have hpl : pa.block < w.heap.size := by
    obtain ⟨ad', h1, h2, -⟩ := (ha.shp.below hB).2 (by intro h; rw [h] at hza; simp at hza; omega)
    rw [hPA] at h1
    rw [Option.some.inj h1]
    exact h2
  have cw0 : W.cell? (pa.add (k - 1)) = some (.int .i64 n) := (HBw.cell (by rw [elm_block]; exact hpl)).trans cz
  have hkk1 : ((k : Nat) : Int) - 1 = ((k - 1 : Nat) : Int) := by omega
  have Hkk : Hid (wrap64 ((k - 1 : Nat) : Int) = ((k - 1 : Nat) : Int)) := hide (by clear hkk1; unfold wrap64; omega)
  obtain ⟨k', hk'⟩ : ∃ x, Hid (k - 1 = x) := ⟨_, hide rfl⟩
  rw [hk'.out] at hkk1 Hkk cw0
  have hka : (0 : Int) ≤ (k' : Int) := by omega
  have hkb : (k' : Int) < (k : Int) := by omega
  have hkk := Hkk.out
  have x0 : W.cell? ⟨w.heap.size, 0, none⟩ = some (.slice (some pa) k a.cap) := HX.out.cell 0
  have HW := hide hW
  clear ha hb hB hG hf hW HBw hm hn hza hna hzb hR hPA ez cz hpl hbl hk4 hk1' hsa hsb
  go_enter Tryd.func139, Tryd.ntmps139
  go_wp2_with fail
  rw [← HW.out]
  clear HW
  go_step3
  go_wp2_with fail
  try (go_step3; go_wp2_with fail)
  clear cw0 x0 hkk1 hkk hka hkb
  go_loopg [27] q (fun gq kk wr => ∃ (i : Nat) (xs : List Int), gq + i = q ∧ kk = .int .i64 i ∧ Hid (xs.length = q) ∧ Hid (∀ j, j < i → xs[j]? = r[j]?) ∧ Hid (Has wr g 3 (i64s xs)) ∧ Hid (Has wr w.heap.size 26 [.slice (some pa) k a.cap, .bool a.u, .slice a.D na a.dcap]) ∧ Hid (Has wr (w.heap.size + 1) 26 [.slice b.P zb b.cap, .bool b.u, .slice b.D 256 b.dcap]) ∧ Hid (Below w0.heap.size w0 wr))
  case atStart => exact ⟨0, os, by omega, rfl, HOL, hide (fun j hj => by omega), HG, HX, HY, HB⟩
  case round =>
    clear HG HX HY HB
    obtain ⟨i, xs, hi, rfl, HXN, HI, HG, HX, HY, HB⟩ := hrel
    by_cases hlt : i < q
    · have him : (i : Int) < q := by omega
      have hi0 : (0 : Int) ≤ (i : Int) := by omega
      obtain ⟨s, hs⟩ : ∃ s, Hid (f + i = s) := ⟨_, hide rfl⟩
      have Hs2 : Hid (s < m * n ∧ s ≤ 1000000) := hide (by have := HM.out; have := HF.out; have := hs.out; omega)
      have H_hw1 : Hid (IntKind.i64.wrap ((f : Int) + (i : Int)) = (s : Int)) := hide (by have := Hs2.out; have := hs.out; rw [IntKind.wrap_i64]; omega)
      have H_hw1b : Hid (wrap64 ((f : Int) + (i : Int)) = (s : Int)) := hide (by have := Hs2.out; have := hs.out; unfold wrap64; omega)
      obtain ⟨R, hRr⟩ : ∃ x, Hid (s / n = x) := ⟨_, hide rfl⟩
      obtain ⟨O, hO⟩ : ∃ x, Hid (s % n = x) := ⟨_, hide rfl⟩
      have HRn : Hid (R < m) := hide (by rw [← hRr.out]; exact Nat.div_lt_of_lt_mul (by rw [Nat.mul_comm]; exact Hs2.out.1))
      have HOn : Hid (O < n) := hide (by rw [← hO.out]; exact Nat.mod_lt _ hnpos)
      have HRs : Hid (R ≤ s) := hide (by rw [← hRr.out]; exact Nat.div_le_self _ _)
      have hd0 : ¬ ((n : Int) = 0) := by omega
      have hd2 : ¬ n = 0 := by omega
      have Hq0 : Hid ((s : Int) / (n : Int) = (R : Int)) := hide (by rw [← hRr.out]; exact (Int.natCast_ediv s n).symm)
      have H_hq0b : Hid ((s : Int).tdiv (n : Int) = (R : Int)) := hide (by rw [Int.tdiv_eq_ediv_of_nonneg (by omega)]; exact Hq0.out)
      have H_hq1 : Hid (wrap64 (R : Int) = (R : Int)) := hide (by have := HRs.out; have := Hs2.out; unfold wrap64; omega)
      have H_hq1b : Hid (IntKind.i64.wrap (R : Int) = (R : Int)) := hide (by have := HRs.out; have := Hs2.out; rw [IntKind.wrap_i64]; omega)
      have HR1 : Hid ((s : Int) % (n : Int) = (O : Int)) := hide (by rw [← hO.out]; exact (Int.natCast_emod s n).symm)
      have hvi := hri.out i hlt
      rw [hs.out] at hvi
      unfold Sf.soft at hvi
      rw [hRr.out, hO.out] at hvi
      have HLs := hide (HLE.out R HRn.out)
      have HRL := hide (fun j => Sf.row_le (n := n) (i := R) HSA.out ⟨by decide, by decide⟩ j)
      have HC := hide (HRO.out wr.drew HB.out.drew R HRn.out)
      have HRW := hide (fun W (hW : Below w0.heap.size w0 W) => HRI.out W hW R HRn.out)
      obtain ⟨row, hrow⟩ : ∃ x, Hid (Sf.row a.ds n R = x) := ⟨_, hide rfl⟩
      rw [hrow.out] at HRW HLs hvi HRL
      obtain ⟨A, hA⟩ : ∃ x, Hid (a.D.map (·.add (R * n)) = x) := ⟨_, hide rfl⟩
      rw [hA.out] at HC HRW
      obtain ⟨mx, hmx⟩ : ∃ x, Hid (Pl.top (fun j => row.getD j 0) n = x) := ⟨_, hide rfl⟩
      obtain ⟨wv, hwv⟩ : ∃ x, Hid (Sf.wt b.ds (Sf.by_ row n O) = x) := ⟨_, hide rfl⟩
      obtain ⟨tot, htot⟩ : ∃ x, Hid (Sf.all row b.ds n n = x) := ⟨_, hide rfl⟩
      have HTB := hide (Sf.all_le HSB.out row n n HD1.out.2)
      have HWB := hide (Sf.wt_le HSB.out (Sf.by_ row n O))
      rw [htot.out] at HTB
      rw [hwv.out] at HWB
      rw [htot.out, hwv.out] at hvi
      have HBY : Hid (∀ j, j < n → Sf.by_ row n j < 256 ∧ mx - row.getD j 0 = (Sf.by_ row n j : Int)) := hide (fun j hj => by rw [← hmx.out]; exact Sf.by_lt HRL.out hj)
      have HVI := hide hvi
      have x0 := HX.out.cell 0
      have x1 := HX.out.cell 1
      have x2 := HX.out.cell 2
      clear hvi hrow hA
      have hq0 := Hq0.out
      have hw1 := H_hw1.out
      have hw1b := H_hw1b.out
      have hq0b := H_hq0b.out
      have hq1 := H_hq1.out
      have hq1b := H_hq1b.out
      go_wp2_with fail
      go_still_tail 6, (by kernel_rfl)
      change wpList _ _ _ _ _ wr.drew
      go_wp2_with fail
      clear x0 x1 x2 hw1 hw1b hq0 hq0b hq1 hq1b
      replace HG := hide (HG.out.drewN 1)
      replace HX := hide (HX.out.drewN 1)
      replace HY := hide (HY.out.drewN 1)
      replace HB := hide (below_drewN HB.out 1)
      refine (HC.out).mono ?_
      rintro e w2 ⟨⟨c, rfl⟩, hb⟩
      change Below wr.drew.heap.size wr.drew w2 at hb
      replace HG := hide (HG.out.below hb HG.out.lt)
      replace HX := hide (HX.out.below hb HX.out.lt)
      replace HY := hide (HY.out.below hb HY.out.lt)
      replace HB := hide (HB.out.trans (hb.mono HB.out.size))
      clear hb HC
      have HMX := hide (smax_c row A c w2 (HRW.out _ HB.out) (by rw [HLs.out]; exact hnpos) (by rw [HLs.out]; have := HD1.out.2; omega))
      rw [HLs.out, hmx.out] at HMX
      go_wp2_with fail
      refine (HMX.out).mono ?_
      rintro e wq ⟨rfl, hw⟩
      have hw := hw.symm
      subst hw
      obtain ⟨rd, v, hRD, ev, cv⟩ := ri_at (HRW.out _ HB.out) O (by rw [HLs.out]; exact HOn.out)
      subst hRD
      have hvv : row.getD O 0 = v := by rw [List.getD_eq_getElem?_getD, ev.out]; rfl
      obtain ⟨D, hD⟩ : ∃ x, Hid (Sf.by_ row n O = x) := ⟨_, hide rfl⟩
      have hby := HBY.out O HOn.out
      rw [hD.out, hvv] at hby
      have HDL := hide hby.1
      have HC := hide (HWT.out w2.drew HB.out.drew D HDL.out)
      rw [← hD.out, hwv.out, hD.out] at HC
      have H_hv1 : Hid (wrap64 (mx - v) = (D : Int)) := hide (by rw [hby.2]; have := HDL.out; unfold wrap64; omega)
      have H_hv1b : Hid (IntKind.i64.wrap (mx - v) = (D : Int)) := hide (by rw [hby.2, IntKind.wrap_i64]; have := HDL.out; omega)
      have H_hw1 : Hid (IntKind.i64.wrap ((f : Int) + (i : Int)) = (s : Int)) := hide (by have := Hs2.out; have := hs.out; rw [IntKind.wrap_i64]; omega)
      have H_hw1b : Hid (wrap64 ((f : Int) + (i : Int)) = (s : Int)) := hide (by have := Hs2.out; have := hs.out; unfold wrap64; omega)
      have hr1 := HR1.out
      have H_hr1b : Hid ((s : Int).tmod (n : Int) = (O : Int)) := hide (by rw [Int.tmod_eq_emod_of_nonneg (by omega)]; exact HR1.out)
      have hO0 : (0 : Int) ≤ (O : Int) := by omega
      have hOd : (O : Int) < (n : Int) := by have := HOn.out; omega
      have y0 := HY.out.cell 0
      have y1 := HY.out.cell 1
      have y2 := HY.out.cell 2
      clear hby ev hvv
      have hw1 := H_hw1.out
      have hw1b := H_hw1b.out
      have hr1b := H_hr1b.out
      have hv1 := H_hv1.out
      have hv1b := H_hv1b.out
      go_wp2_with fail
      go_still_tail 11, (by kernel_rfl)
      change wpList _ _ _ _ _ w2.drew
      go_wp2_with fail
      clear y0 y1 y2 hw1 hw1b hr1 hr1b hv1 hv1b cv hO0 hOd
      replace HG := hide (HG.out.drewN 1)
      replace HX := hide (HX.out.drewN 1)
      replace HY := hide (HY.out.drewN 1)
      replace HB := hide (below_drewN HB.out 1)
      refine (HC.out).mono ?_
      rintro e w3 ⟨rfl, hb⟩
      change Below w2.drew.heap.size w2.drew w3 at hb
      replace HG := hide (HG.out.below hb HG.out.lt)
      replace HX := hide (HX.out.below hb HX.out.lt)
      replace HY := hide (HY.out.below hb HY.out.lt)
      replace HB := hide (HB.out.trans (hb.mono HB.out.size))
      clear hb HC HMX
      go_wp2_with fail
      go_loopg [13, 14] n (fun gq sv kk wr => ∃ (j : Nat) (sm : Int), gq + j = n ∧ kk = .int .i64 j ∧ sv = .int .i64 sm ∧ Hid (Sf.all row b.ds n j = sm) ∧ Hid (Has wr g 3 (i64s xs)) ∧ Hid (Has wr w.heap.size 26 [.slice (some pa) k a.cap, .bool a.u, .slice a.D na a.dcap]) ∧ Hid (Has wr (w.heap.size + 1) 26 [.slice b.P zb b.cap, .bool b.u, .slice b.D 256 b.dcap]) ∧ Hid (Below w0.heap.size w0 wr))
      case atStart => exact ⟨0, 0, by omega, rfl, rfl, hide rfl, HG, HX, HY, HB⟩
      case round =>
        clear HG HX HY HB
        obtain ⟨j, sm, hj, rfl, rfl, HAd, HG, HX, HY, HB⟩ := hrel
        by_cases hjl : j < n
        · have hjn : (j : Int) < n := by omega
          have hj0 : (0 : Int) ≤ (j : Int) := by omega
          obtain ⟨rd', y, hRD, ey, cy⟩ := ri_at (HRW.out _ HB.out) j (by rw [HLs.out]; exact hjl)
          obtain rfl : rd = rd' := Option.some.inj hRD
          have hyv : row.getD j 0 = y := by rw [List.getD_eq_getElem?_getD, ey.out]; rfl
          have hby := HBY.out j hjl
          obtain ⟨E, hE⟩ : ∃ x, Hid (Sf.by_ row n j = x) := ⟨_, hide rfl⟩
          rw [hE.out, hyv] at hby
          have HEL := hide hby.1
          obtain ⟨u, hu⟩ : ∃ x, Hid (Sf.wt b.ds E = x) := ⟨_, hide rfl⟩
          have HC := hide (HWT.out wr.drew HB.out.drew E HEL.out)
          rw [hu.out] at HC
          have hub := Sf.wt_le HSB.out E
          rw [hu.out] at hub
          have hsl := Sf.all_le HSB.out row n j (by have := HD1.out.2; omega)
          rw [HAd.out] at hsl
          obtain ⟨s2, hs2⟩ : ∃ x_, Hid (sm + u = x_) := ⟨_, hide rfl⟩
          have Hws : Hid (wrap64 (sm + u) = s2) := hide (by rw [← hs2.out]; unfold wrap64; omega)
          have HAd2 : Hid (Sf.all row b.ds n (j + 1) = s2) := hide (by
            show Sf.all row b.ds n j + Sf.wt b.ds (Sf.by_ row n j) = s2
            rw [HAd.out, hE.out, hu.out, hs2.out])
          have H_hv1 : Hid (wrap64 (mx - y) = (E : Int)) := hide (by rw [hby.2]; have := HEL.out; unfold wrap64; omega)
          have H_hv1b : Hid (IntKind.i64.wrap (mx - y) = (E : Int)) := hide (by rw [hby.2, IntKind.wrap_i64]; have := HEL.out; omega)
          have hj2 : ((j : Nat) : Int) + 1 ≤ 1000001 := by have := HD1.out.2; omega
          have hS0 : SfC4 ⟨w.heap.size + 1, 0, none⟩ ⟨w.heap.size + 1, 1, none⟩ ⟨w.heap.size + 1, 2, none⟩ (rd.add j) (.slice b.P zb b.cap) (.bool b.u) (.slice b.D 256 b.dcap) (.int .i64 y) wr.drew := ⟨HY.out.cell 0, HY.out.cell 1, HY.out.cell 2, cy⟩
          have HL1 : Hid (w.heap.size + 1 < wr.drew.heap.size) := hide HY.out.lt
          have HL2 : Hid ((rd.add j).block < wr.drew.heap.size) := hide (by
            obtain ⟨ad', h1, h2, -⟩ := (HRW.out _ HB.out).2 (by intro h; have h3 := HLs.out; rw [h] at h3; simp at h3; omega)
            rw [elm_block, Option.some.inj h1]
            exact h2)
          clear hRD hyv hby hub hsl ey cy
          have hv1 := H_hv1.out
          have hv1b := H_hv1b.out
          go_wp2_with fail
          have HWS2 : Hid (IntKind.i64.wrap (sm + u) = s2) := hide (by rw [IntKind.wrap_i64]; have := Hws.out; unfold wrap64 at this; exact this)
          have hws2 := HWS2.out
          go_region_held3 (fun W => W.cell? ⟨w.heap.size + 1, 0, none⟩ = some (.slice b.P zb b.cap) ∧ W.cell? ⟨w.heap.size + 1, 1, none⟩ = some (.bool b.u) ∧ W.cell? ⟨w.heap.size + 1, 2, none⟩ = some (.slice b.D 256 b.dcap) ∧ W.cell? (rd.add j) = some (.int .i64 y))
            (first | with_reducible exact hS0 | with_reducible exact hS2 | with_reducible assumption)
            (first | (go_at_call 151; (with_reducible refine HC.out.mono ?_); rintro e w4 ⟨rfl, hb⟩; have hS2 := SfC4.keep hS0 HL1.out HL1.out HL1.out HL2.out hb; have HBB := hide hb))
          have hb : Below wr.drew.heap.size wr.drew w4 := HBB.out
          clear hv1 hv1b hws2
          replace HG := hide (HG.out.drewN 1)
          replace HX := hide (HX.out.drewN 1)
          replace HY := hide (HY.out.drewN 1)
          replace HB := hide (below_drewN HB.out 1)
          replace HG := hide (HG.out.below hb HG.out.lt)
          replace HX := hide (HX.out.below hb HX.out.lt)
          replace HY := hide (HY.out.below hb HY.out.lt)
          replace HB := hide (HB.out.trans (hb.mono HB.out.size))
          clear hb HC
          have hws := Hws.out
          go_wp2_with fail
          go_roundg (n - (j + 1))
          case measure => omega
          case rel => exact ⟨j + 1, s2, by omega, by go_num, by first | rfl | exact congrArg (Value.int .i64) hws, HAd2, HG, HX, HY, HB⟩
        · obtain rfl : j = n := by omega
          have hnn : ¬ (j : Int) < j := by omega
          obtain rfl : tot = sm := htot.out.symm.trans HAd.out
          have g1 : wr.cell? ⟨g, i, none⟩ = some (.int .i64 (xs[i]'(by rw [HXN.out]; exact hlt))) := by
            rw [HG.out.cell]
            unfold i64s
            rw [List.getElem?_map, List.getElem?_eq_getElem (by rw [HXN.out]; exact hlt)]
            rfl
          have gf := HG.out.frozen i
          have hvi := HVI.out
          unfold Sf.of at hvi
          by_cases ht : tot = 0
          · rw [if_pos ht] at hvi
            have HV := hide hvi
            have htb : (tot == 0) = true := by simp [ht]
            subst ht
            clear hvi
            go_wp2_with fail
            go_roundg (q - (i + 1))
            case measure => omega
            case rel =>
              refine ⟨i + 1, xs.set i (-128), by omega, by go_num, hide (by rw [List.length_set]; exact HXN.out), hide (fun j hj => ?_), ?_, hide (HX.out.far (p := ⟨g, i, none⟩) (by simp; omega) (.int .i64 (-128))), hide (HY.out.far (p := ⟨g, i, none⟩) (by simp; omega) (.int .i64 (-128))), hide (HB.out.setCell (p := ⟨g, i, none⟩) hg0 (.int .i64 (-128)))⟩
              · rw [List.getElem?_set]
                by_cases h : i = j
                · subst h
                  rw [if_pos rfl, if_pos (by rw [HXN.out]; exact hlt), HV.out]
                · rw [if_neg h]
                  exact HI.out j (by omega)
              · have h := HG.out.set_ i (.int .i64 (-128))
                unfold i64s at h ⊢
                rw [List.map_set]
                exact hide h
          · rw [if_neg ht] at hvi
            have htb : (tot == 0) = false := by simp [ht]
            have htp := HTB.out
            have hwb := HWB.out
            obtain ⟨hh, hhh⟩ : ∃ x, Hid (tot / 2 = x) := ⟨_, hide rfl⟩
            obtain ⟨pp, hpp⟩ : ∃ x, Hid (255 * wv = x) := ⟨_, hide rfl⟩
            obtain ⟨uu, huu⟩ : ∃ x, Hid (pp + hh = x) := ⟨_, hide rfl⟩
            rw [hpp.out, hhh.out, huu.out] at hvi
            have hhb : 0 ≤ hh ∧ hh ≤ 549755813888 := by rw [← hhh.out]; omega
            have hpb : 0 ≤ pp ∧ pp ≤ 547608330240 := by rw [← hpp.out]; omega
            have hub : 0 ≤ uu ∧ uu ≤ 1099511627776 := by rw [← huu.out]; omega
            have hqn : 0 ≤ uu / tot := Int.ediv_nonneg hub.1 htp.1
            have hql : uu / tot ≤ uu := Int.ediv_le_self _ hub.1
            obtain ⟨qq, hqq⟩ : ∃ x, Hid (uu / tot = x) := ⟨_, hide rfl⟩
            rw [hqq.out] at hvi hqn hql
            obtain ⟨vv, hvv⟩ : ∃ x, Hid (qq - 128 = x) := ⟨_, hide rfl⟩
            rw [hvv.out] at hvi
            have HV := hide hvi
            have e1 : tot.tdiv 2 = hh := by rw [Int.tdiv_eq_ediv_of_nonneg htp.1]; exact hhh.out
            have e2 : uu.tdiv tot = qq := by rw [Int.tdiv_eq_ediv_of_nonneg hub.1]; exact hqq.out
            have O1 : Hid (wrap64 (tot / 2) = hh) := hide (by rw [hhh.out]; unfold wrap64; omega)
            have O2 : Hid (wrap64 (tot.tdiv 2) = hh) := hide (by rw [e1]; unfold wrap64; omega)
            have O3 : Hid (wrap64 (255 * wv) = pp) := hide (by rw [hpp.out]; unfold wrap64; omega)
            have O4 : Hid (wrap64 (pp + hh) = uu) := hide (by rw [huu.out]; unfold wrap64; omega)
            have O5 : Hid (wrap64 (uu / tot) = qq) := hide (by rw [hqq.out]; unfold wrap64; omega)
            have O6 : Hid (wrap64 (uu.tdiv tot) = qq) := hide (by rw [e2]; unfold wrap64; omega)
            have O7 : Hid (wrap64 (qq + -128) = vv) := hide (by rw [← hvv.out]; unfold wrap64; omega)
            clear htp hwb hhb hpb hub hqn hql hvi e1 e2
            have o1 := O1.out
            have o2 := O2.out
            have o3 := O3.out
            have o4 := O4.out
            have o5 := O5.out
            have o6 := O6.out
            have o7 := O7.out
            go_wp2_with fail
            clear o1 o2 o3 o4 o5 o6 o7
            go_roundg (q - (i + 1))
            case measure => omega
            case rel =>
              refine ⟨i + 1, xs.set i (vv), by omega, by go_num, hide (by rw [List.length_set]; exact HXN.out), hide (fun j hj => ?_), ?_, hide (HX.out.far (p := ⟨g, i, none⟩) (by simp; omega) (.int .i64 (vv))), hide (HY.out.far (p := ⟨g, i, none⟩) (by simp; omega) (.int .i64 (vv))), hide (HB.out.setCell (p := ⟨g, i, none⟩) hg0 (.int .i64 (vv)))⟩
              · rw [List.getElem?_set]
                by_cases h : i = j
                · subst h
                  rw [if_pos rfl, if_pos (by rw [HXN.out]; exact hlt), HV.out]
                · rw [if_neg h]
                  exact HI.out j (by omega)
              · have h := HG.out.set_ i (.int .i64 (vv))
                unfold i64s at h ⊢
                rw [List.map_set]
                exact hide h
    · obtain rfl : i = q := by omega
      have hx : xs = r := List.ext_getElem? (fun j => by
        rcases Nat.lt_or_ge j i with h | h
        · exact HI.out j h
        · rw [List.getElem?_eq_none (by rw [HXN.out]; exact h), List.getElem?_eq_none (by rw [hrl.out]; exact h)])
      subst hx
      have hnn : ¬ (i : Int) < i := by omega
      go_wp2_with fail
      refine bodyPost_end (results_none rfl _ _ _) rfl ?_
      exact ⟨rfl, HG.out, HB.out⟩
end Go.Proofs.YtcgjnjchkachdaaDoor
