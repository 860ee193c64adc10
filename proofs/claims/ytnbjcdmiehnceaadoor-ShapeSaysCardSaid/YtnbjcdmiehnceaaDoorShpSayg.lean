/-
  The law ShapeSays, walked. By an AI agent. No person has read it.
-/
import Derived.Test.YtnbjcdmiehnceaaDoorShpE
import Derived.Test.YtnbjcdmiehnceaaDoorShpY
import Derived.Test.YtnbjcdmiehnceaaDoorShpTy
import Derived.Test.YtnbjcdmiehnceaaDoorShpCl
import Derived.Test.YtnbjcdmiehnceaaDoorShpSay0
namespace Go.Proofs.YtnbjcdmiehnceaaDoor
open Go.RowKit

set_option maxRecDepth 100000 in
set_option maxHeartbeats 4000000 in
theorem says_good (es : List Addr) (am ar : Addr) (ham : es[3]? = some am) (har : es[1]? = some ar) (zs ys : List Int) (P Q : Option Addr) (cap capq : Nat) (u v : Bool) (w : World) (hr : Ri w P zs) (hq : Ri w Q ys) (hz : Ez w es) (hE : E2 w am ar) (hP : Pz w) (hn : zs.length ≤ 8) (hm : ys.length ≤ 8) (hok : Shp.ok zs = true) :
    Calls Tryd.prog 3 #[.agg (dcells P zs.length cap u), .agg (dcells Q ys.length capq v)] w fun e w' => e = .returned (.bool true) ∧ Below w.heap.size w w' := by
  have hb0 := ((Below.refl _ w).alloc (Nat.le_refl _) (Obj.cells (dcells P zs.length cap u) 24)).alloc (by simp) (Obj.cells (dcells Q ys.length capq v) 24)
  have hd1 := (desc_row w P zs.length cap u).alloc (Obj.cells (dcells Q ys.length capq v) 24)
  have hd2 : Has ((w.alloc (Obj.cells (dcells P zs.length cap u) 24)).alloc (Obj.cells (dcells Q ys.length capq v) 24)) (w.heap.size + 1) 24 [.slice Q ys.length capq, .bool v] := by
    simpa using desc_row (w.alloc (Obj.cells (dcells P zs.length cap u) 24)) Q ys.length capq v
  obtain ⟨w0, hw0⟩ : ∃ w0, Hid ((w.alloc (Obj.cells (dcells P zs.length cap u) 24)).alloc (Obj.cells (dcells Q ys.length capq v) 24) = w0) := ⟨_, hide rfl⟩
  rw [hw0.out] at hb0 hd1 hd2
  have H0 := hide (first_c am ar w0 (hE.below hb0))
  have HB0 := hide hb0
  have HD1 := hide hd1
  have HD2 := hide hd2
  have HR := hide hr
  have HQ := hide hq
  have HZ := hide hz
  have HE := hide hE
  clear hb0 hd1 hd2
  obtain ⟨n, hn'⟩ : ∃ n, Hid (zs.length = n) := ⟨_, hide rfl⟩
  obtain ⟨m, hm'⟩ : ∃ m, Hid (ys.length = m) := ⟨_, hide rfl⟩
  have HCL := hide (fun w1 (hb : Below w.heap.size w w1) => clone_c zs P cap u w1 (hr.below hb) (by omega))
  have hwn : decide (n ≤ 8) = true := decide_eq_true (by rw [← hn'.out]; exact hn)
  have hwm : decide (m ≤ 8) = true := decide_eq_true (by rw [← hm'.out]; exact hm)
  have HW1 := hide (fun w1 => worlddesc_c P n cap u w1)
  have HW2 := hide (fun w1 => worlddesc_c Q m capq v w1)
  rw [hwn] at HW1
  rw [hwm] at HW2
  rw [hn'.out] at HCL hn hw0 HD1 ⊢
  rw [hm'.out] at hm hw0 HD2 ⊢
  clear hr hq hz hE hwn hwm
  go_enter Tryd.func3, Tryd.ntmps3
  go_wp2_with fail
  have hw0' := hw0.out
  rw [hw0']
  clear hw0 hw0'
  refine H0.out.mono ?_
  rintro e w1 ⟨rfl, hb1⟩
  have h1 := HD1.out.below hb1 HD1.out.lt
  have h2 := HD2.out.below hb1 HD2.out.lt
  have HB1 := hide (HB0.out.trans (hb1.mono HB0.out.size))
  have c1 : w1.cell? ⟨w.heap.size, 0, none⟩ = some (.slice P n cap) := by rw [h1.cell]; rfl
  have c2 : w1.cell? ⟨w.heap.size, 1, none⟩ = some (.bool u) := by rw [h1.cell]; rfl
  have e1 : w1.cell? ⟨w.heap.size + 1, 0, none⟩ = some (.slice Q m capq) := by rw [h2.cell]; rfl
  have e2 : w1.cell? ⟨w.heap.size + 1, 1, none⟩ = some (.bool v) := by rw [h2.cell]; rfl
  have H1 := hide h1
  have H2 := hide h2
  clear hb1 h1 h2 H0 HB0 HD1 HD2
  go_wp2_with fail
  refine (HW1.out w1).mono ?_
  rintro e w2 ⟨rfl, hb2⟩
  replace c1 := cell_kept c1 hb2
  replace c2 := cell_kept c2 hb2
  replace e1 := cell_kept e1 hb2
  replace e2 := cell_kept e2 hb2
  have HB2 := hide (HB1.out.trans (hb2.mono HB1.out.size))
  clear hb2
  go_wp2_with fail
  refine (HW2.out w2).mono ?_
  rintro e w3 ⟨rfl, hb3⟩
  replace c1 := cell_kept c1 hb3
  replace c2 := cell_kept c2 hb3
  replace e1 := cell_kept e1 hb3
  replace e2 := cell_kept e2 hb3
  have HB3 := hide (HB2.out.trans (hb3.mono HB2.out.size))
  clear hb3
  go_wp2_with fail
  refine (HCL.out w3 HB3.out).mono ?_
  rintro e w4 ⟨⟨g, c, rest, rfl, hc1, hc2, hrow⟩, hb4⟩
  replace c1 := cell_kept c1 hb4
  replace c2 := cell_kept c2 hb4
  replace e1 := cell_kept e1 hb4
  replace e2 := cell_kept e2 hb4
  have HROW := hide hrow
  clear hrow
  have HB4 := hide (HB3.out.trans (hb4.mono HB3.out.size))
  clear hb4
  go_wp2_with fail
  have hb5 : Below w4.heap.size w4 (w4.alloc (Obj.cells #[.slice (some ⟨g, 0, none⟩) n c, .bool u] 24)) := (Below.refl _ w4).alloc (Nat.le_refl _) _
  replace c1 := cell_kept c1 hb5
  replace c2 := cell_kept c2 hb5
  replace e1 := cell_kept e1 hb5
  replace e2 := cell_kept e2 hb5
  have hz3 := desc_row w4 (some ⟨g, 0, none⟩) n c u
  have z1 : (w4.alloc (Obj.cells #[.slice (some ⟨g, 0, none⟩) n c, .bool u] 24)).cell? ⟨w4.heap.size, 0, none⟩ = some (.slice (some ⟨g, 0, none⟩) n c) := by rw [hz3.cell]; rfl
  have z2 : (w4.alloc (Obj.cells #[.slice (some ⟨g, 0, none⟩) n c, .bool u] 24)).cell? ⟨w4.heap.size, 1, none⟩ = some (.bool u) := by rw [hz3.cell]; rfl
  have HB5 := hide (HB4.out.trans (hb5.mono HB4.out.size))
  have HR5 := HROW.out.below hb5 HROW.out.lt
  have HC5 : Hid (Ri (w4.alloc (Obj.cells #[.slice (some ⟨g, 0, none⟩) n c, .bool u] 24)) (some ⟨g, 0, none⟩) zs) := hide (HR5.ri_app HR.out.1)
  clear hb5 hz3 HR5 HROW
  generalize hG : w4.heap.size = G at *
  generalize hwr : w4.alloc (Obj.cells #[.slice (some ⟨g, 0, none⟩) n c, .bool u] 24) = wr at *
  clear hwr hG
  have HKB := hide (fun W (hb : Below wr.heap.size wr W) => HB5.out.trans (hb.mono HB5.out.size))
  have K1 := hide (fun W (hb : Below wr.heap.size wr W) => valid_c zs P cap u am ar W (HR.out.below (HKB.out W hb)) (by rw [hn'.out]; omega) (HE.out.below (HKB.out W hb)))
  have K2 := hide (fun W (hb : Below wr.heap.size wr W) => refvalid_c zs P cap u W (HR.out.below (HKB.out W hb)) (by rw [hn'.out]; omega))
  have K3 := hide (fun W (hb : Below wr.heap.size wr W) => is_shp ham har _ (Shp.code_is zs) W (HZ.out.below (HKB.out W hb)))
  have K4 := hide (fun W (hb : Below wr.heap.size wr W) => elems_c zs P cap am ar W (HR.out.below (HKB.out W hb)) (by rw [hn'.out]; omega) (HE.out.below (HKB.out W hb)))
  have K5 := hide (fun W (hb : Below wr.heap.size wr W) => refelems_c zs P cap W (HR.out.below (HKB.out W hb)) (by rw [hn'.out]; omega))
  have K6 := hide (fun W (hb : Below wr.heap.size wr W) => bytes_c zs P cap u am ar W (HR.out.below (HKB.out W hb)) (by rw [hn'.out]; omega) (HE.out.below (HKB.out W hb)))
  have K7 := hide (fun W (hb : Below wr.heap.size wr W) => size_c zs P cap u W (HR.out.below (HKB.out W hb)) (by rw [hn'.out]; omega))
  have K8 := hide (fun W (hb : Below wr.heap.size wr W) => steps_any zs P cap am ar W (HR.out.below (HKB.out W hb)) (by rw [hn'.out]; omega) (HE.out.below (HKB.out W hb)))
  have K9 := hide (fun W (hb : Below wr.heap.size wr W) => refsteps_any zs P cap W (HR.out.below (HKB.out W hb)) (by rw [hn'.out]; omega))
  have hsl : (Shp.steps' zs).length ≤ 1000000 := by
    rw [Shp.steps', if_pos hok, Shp.steps_length, hn'.out]
    omega
  have K10 := hide (fun W A B (ha : Ri W A (Shp.steps' zs)) (hb : Ri W B (Shp.steps' zs)) => sameints_c (Shp.steps' zs) (Shp.steps' zs) A B (Shp.steps' zs).length (Shp.steps' zs).length W ha hb hsl hsl)
  have K11 := hide (fun W (hb : Below wr.heap.size wr W) => same_c zs ys P Q cap capq u v W (HR.out.below (HKB.out W hb)) (HQ.out.below (HKB.out W hb)) (by rw [hn'.out]; omega) (by rw [hm'.out]; omega))
  have K12 := hide (fun W (hb : Below wr.heap.size wr W) => samedesc_c zs ys P Q cap capq u v W (HR.out.below (HKB.out W hb)) (HQ.out.below (HKB.out W hb)) (by rw [hn'.out]; omega) (by rw [hm'.out]; omega))
  have K13 := hide (fun W (hb : Below wr.heap.size wr W) => samedesc_c zs zs (some ⟨g, 0, none⟩) P c cap u u W (HC5.out.below hb) (HR.out.below (HKB.out W hb)) (by rw [hn'.out]; omega) (by rw [hn'.out]; omega))
  rw [decide_eq_true (rfl : Shp.steps' zs = Shp.steps' zs)] at K10
  rw [decide_eq_true (rfl : zs = zs), beq_self_eq_true, Bool.true_and] at K13
  have hk0 : ((Shp.code zs : Nat) : Int) = 0 := by
    unfold Shp.ok at hok
    rw [decide_eq_true_iff] at hok
    omega
  have HP := hide hP
  have hlt := hide hP.lt
  have K14 := hide (fun W (hb : Below wr.heap.size wr W) => text_k zs P cap u W (HR.out.below (HKB.out W hb)) (HP.out.below (HKB.out W hb) hlt.out) hok)
  have K15 := hide (fun W (hb : Below wr.heap.size wr W) => desctext_k zs P cap u W (HR.out.below (HKB.out W hb)) (HP.out.below (HKB.out W hb) hlt.out) hok)
  obtain ⟨T, hT⟩ : ∃ T, Hid ((⟨(Shp.text zs u).toArray⟩ : ByteArray) = T) := ⟨_, hide rfl⟩
  rw [hT.out] at K14 K15
  obtain ⟨E0, hE0⟩ : ∃ E0, Hid (Shp.err am ar (Shp.code zs) = E0) := ⟨_, hide rfl⟩
  rw [hE0.out] at K1 K3
  rw [hk0] at K2 K3
  obtain ⟨E1, hE1⟩ : ∃ E1, Hid (Shp.elems zs = E1) := ⟨_, hide rfl⟩
  rw [hE1.out] at K4 K5
  obtain ⟨E2', hE2⟩ : ∃ E1, Hid (Shp.size zs u = E1) := ⟨_, hide rfl⟩
  rw [hE2.out] at K6 K7
  obtain ⟨L, hL⟩ : ∃ L, Hid (Shp.steps' zs = L) := ⟨_, hide rfl⟩
  rw [hL.out] at K8 K9 K10
  obtain ⟨l, hl⟩ : ∃ l, Hid (L.length = l) := ⟨_, hide rfl⟩
  rw [hl.out] at K8 K9 K10
  obtain ⟨b, hb'⟩ : ∃ b, Hid ((decide (zs = ys) && (u == v)) = b) := ⟨_, hide rfl⟩
  rw [hb'.out] at K11 K12
  rw [hn'.out] at K1 K2 K4 K5 K6 K7 K8 K9 K11 K12 K13 K14 K15
  rw [hm'.out] at K11 K12
  clear hP hk0 hok hsl hE0 hT HP hlt hE1 hE2 hL hl hb' HR HQ HE HZ HC5 hn hm HCL HW1 HW2 H1 H2 HB1 HB2 HB3 HB4 hn' hm' ham har
  have hS0 : SaysS w.heap.size G wr (.slice P n cap) (.bool u) (.slice Q m capq) (.bool v) (.slice (some ⟨g, 0, none⟩) n c) (.bool u) wr.drew := ⟨c1, c2, e1, e2, z1, z2, hide (Below.refl _ wr).drew⟩
  go_region_held3 (fun W => W.cell? ⟨w.heap.size, 0, none⟩ = some (.slice P n cap) ∧ W.cell? ⟨w.heap.size, 1, none⟩ = some (.bool u) ∧ W.cell? ⟨w.heap.size + 1, 0, none⟩ = some (.slice Q m capq) ∧ W.cell? ⟨w.heap.size + 1, 1, none⟩ = some (.bool v) ∧ W.cell? ⟨G, 0, none⟩ = some (.slice (some ⟨g, 0, none⟩) n c) ∧ W.cell? ⟨G, 1, none⟩ = some (.bool u) ∧ Hid (Below wr.heap.size wr W))
    (first | exact hS0 | assumption | exact SaysS.keep (by assumption) hb)
    (first
      | (go_at_call 18; refine (K1.out _ (SaysS.low (by assumption))).mono ?_; rintro e W2 ⟨rfl, hb⟩)
      | (go_at_call 19; refine (K2.out _ (SaysS.low (by assumption))).mono ?_; rintro e W2 ⟨rfl, hb⟩)
      | (go_at_call 17; refine (K3.out _ (SaysS.low (by assumption))).mono ?_; rintro e W2 ⟨rfl, hb⟩)
      | (go_at_call 20; refine (K4.out _ (SaysS.low (by assumption))).mono ?_; rintro e W2 ⟨rfl, hb⟩)
      | (go_at_call 21; refine (K5.out _ (SaysS.low (by assumption))).mono ?_; rintro e W2 ⟨rfl, hb⟩)
      | (go_at_call 22; refine (K6.out _ (SaysS.low (by assumption))).mono ?_; rintro e W2 ⟨rfl, hb⟩)
      | (go_at_call 23; refine (K7.out _ (SaysS.low (by assumption))).mono ?_; rintro e W2 ⟨rfl, hb⟩)
      | (go_at_call 25; refine (K8.out _ (SaysS.low (by assumption))).mono ?_; rintro e W2 ⟨⟨A, rfl, hA⟩, hb⟩)
      | (go_at_call 26; refine (K9.out _ (SaysS.low (by assumption))).mono ?_; rintro e W2 ⟨⟨B, rfl, hB⟩, hb⟩)
      | (go_at_call 24; refine (K10.out _ _ _ (hA.below hb) hB).mono ?_; rintro e W2 ⟨rfl, hb⟩)
      | (go_at_call 29; refine (K14.out _ (SaysS.low (by assumption))).mono ?_; rintro e W2 ⟨rfl, hb⟩)
      | (go_at_call 30; refine (K15.out _ (SaysS.low (by assumption))).mono ?_; rintro e W2 ⟨rfl, hb⟩)
      | (go_at_call 27; refine (K11.out _ (SaysS.low (by assumption))).mono ?_; rintro e W2 ⟨rfl, hb⟩)
      | (go_at_call 28; with_reducible refine (K12.out _ (SaysS.low (by assumption))).mono ?_; rintro e W2 ⟨rfl, hb⟩)
      | (go_at_call 28; refine (K13.out _ (SaysS.low (by assumption))).mono ?_; rintro e W2 ⟨rfl, hb⟩))
  all_goals
    go_wp2_with fail
    go_ret
    refine ⟨rfl, ?_⟩
    exact HKB.out _ (SaysS.low (by assumption))
end Go.Proofs.YtnbjcdmiehnceaaDoor
