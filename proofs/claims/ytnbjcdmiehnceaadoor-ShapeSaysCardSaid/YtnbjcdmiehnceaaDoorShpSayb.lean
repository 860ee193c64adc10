/-
  The law ShapeSays, walked. By an AI agent. No person has read it.
-/
import Derived.Test.YtnbjcdmiehnceaaDoorShpE
import Derived.Test.YtnbjcdmiehnceaaDoorShpY
import Derived.Test.YtnbjcdmiehnceaaDoorShpTy
import Derived.Test.YtnbjcdmiehnceaaDoorShpCl
import Derived.Test.YtnbjcdmiehnceaaDoorShpSay0
namespace Go.Proofs.YtnbjcdmiehnceaaDoor
open Go.RowKit

set_option maxRecDepth 100000 in
set_option maxHeartbeats 4000000 in
theorem says_short (es : List Addr) (am ar : Addr) (ham : es[3]? = some am) (har : es[1]? = some ar) (zs ys : List Int) (P Q : Option Addr) (cap capq : Nat) (u v : Bool) (w : World) (hr : Ri w P zs) (hq : Ri w Q ys) (hz : Ez w es) (hE : E2 w am ar) (hn : zs.length ≤ 8) (hm : ys.length ≤ 8) (hok : Shp.ok zs = false) :
    Calls Tryd.prog 3 #[.agg (dcells P zs.length cap u), .agg (dcells Q ys.length capq v)] w fun e w' => e = .returned (.bool true) ∧ Below w.heap.size w w' := by
  have hb0 := ((Below.refl _ w).alloc (Nat.le_refl _) (Obj.cells (dcells P zs.length cap u) 24)).alloc (by simp) (Obj.cells (dcells Q ys.length capq v) 24)
  have hd1 := (desc_row w P zs.length cap u).alloc (Obj.cells (dcells Q ys.length capq v) 24)
  have hd2 : Has ((w.alloc (Obj.cells (dcells P zs.length cap u) 24)).alloc (Obj.cells (dcells Q ys.length capq v) 24)) (w.heap.size + 1) 24 [.slice Q ys.length capq, .bool v] := by
    simpa using desc_row (w.alloc (Obj.cells (dcells P zs.length cap u) 24)) Q ys.length capq v
  obtain ⟨w0, hw0⟩ : ∃ w0, Hid ((w.alloc (Obj.cells (dcells P zs.length cap u) 24)).alloc (Obj.cells (dcells Q ys.length capq v) 24) = w0) := ⟨_, hide rfl⟩
  rw [hw0.out] at hb0 hd1 hd2
  have H0 := hide (first_c am ar w0 (hE.below hb0))
  have HB0 := hide hb0
  have HD1 := hide hd1
  have HD2 := hide hd2
  have HR := hide hr
  have HQ := hide hq
  have HZ := hide hz
  have HE := hide hE
  clear hb0 hd1 hd2
  obtain ⟨n, hn'⟩ : ∃ n, Hid (zs.length = n) := ⟨_, hide rfl⟩
  obtain ⟨m, hm'⟩ : ∃ m, Hid (ys.length = m) := ⟨_, hide rfl⟩
  have HCL := hide (fun w1 (hb : Below w.heap.size w w1) => clone_c zs P cap u w1 (hr.below hb) (by omega))
  have hwn : decide (n ≤ 8) = true := decide_eq_true (by rw [← hn'.out]; exact hn)
  have hwm : decide (m ≤ 8) = true := decide_eq_true (by rw [← hm'.out]; exact hm)
  have HW1 := hide (fun w1 => worlddesc_c P n cap u w1)
  have HW2 := hide (fun w1 => worlddesc_c Q m capq v w1)
  rw [hwn] at HW1
  rw [hwm] at HW2
  rw [hn'.out] at HCL hn hw0 HD1 ⊢
  rw [hm'.out] at hm hw0 HD2 ⊢
  clear hr hq hz hE hwn hwm
  go_enter Tryd.func3, Tryd.ntmps3
  go_wp2_with fail
  have hw0' := hw0.out
  rw [hw0']
  clear hw0 hw0'
  refine H0.out.mono ?_
  rintro e w1 ⟨rfl, hb1⟩
  have h1 := HD1.out.below hb1 HD1.out.lt
  have h2 := HD2.out.below hb1 HD2.out.lt
  have HB1 := hide (HB0.out.trans (hb1.mono HB0.out.size))
  have c1 : w1.cell? ⟨w.heap.size, 0, none⟩ = some (.slice P n cap) := by rw [h1.cell]; rfl
  have c2 : w1.cell? ⟨w.heap.size, 1, none⟩ = some (.bool u) := by rw [h1.cell]; rfl
  have e1 : w1.cell? ⟨w.heap.size + 1, 0, none⟩ = some (.slice Q m capq) := by rw [h2.cell]; rfl
  have e2 : w1.cell? ⟨w.heap.size + 1, 1, none⟩ = some (.bool v) := by rw [h2.cell]; rfl
  have H1 := hide h1
  have H2 := hide h2
  clear hb1 h1 h2 H0 HB0 HD1 HD2
  go_wp2_with fail
  refine (HW1.out w1).mono ?_
  rintro e w2 ⟨rfl, hb2⟩
  replace c1 := cell_kept c1 hb2
  replace c2 := cell_kept c2 hb2
  replace e1 := cell_kept e1 hb2
  replace e2 := cell_kept e2 hb2
  have HB2 := hide (HB1.out.trans (hb2.mono HB1.out.size))
  clear hb2
  go_wp2_with fail
  refine (HW2.out w2).mono ?_
  rintro e w3 ⟨rfl, hb3⟩
  replace c1 := cell_kept c1 hb3
  replace c2 := cell_kept c2 hb3
  replace e1 := cell_kept e1 hb3
  replace e2 := cell_kept e2 hb3
  have HB3 := hide (HB2.out.trans (hb3.mono HB2.out.size))
  clear hb3
  go_wp2_with fail
  refine (HCL.out w3 HB3.out).mono ?_
  rintro e w4 ⟨⟨g, c, rest, rfl, hc1, hc2, hrow⟩, hb4⟩
  replace c1 := cell_kept c1 hb4
  replace c2 := cell_kept c2 hb4
  replace e1 := cell_kept e1 hb4
  replace e2 := cell_kept e2 hb4
  have HROW := hide hrow
  clear hrow
  have HB4 := hide (HB3.out.trans (hb4.mono HB3.out.size))
  clear hb4
  go_wp2_with fail
  have hb5 : Below w4.heap.size w4 (w4.alloc (Obj.cells #[.slice (some ⟨g, 0, none⟩) n c, .bool u] 24)) := (Below.refl _ w4).alloc (Nat.le_refl _) _
  replace c1 := cell_kept c1 hb5
  replace c2 := cell_kept c2 hb5
  replace e1 := cell_kept e1 hb5
  replace e2 := cell_kept e2 hb5
  have hz3 := desc_row w4 (some ⟨g, 0, none⟩) n c u
  have z1 : (w4.alloc (Obj.cells #[.slice (some ⟨g, 0, none⟩) n c, .bool u] 24)).cell? ⟨w4.heap.size, 0, none⟩ = some (.slice (some ⟨g, 0, none⟩) n c) := by rw [hz3.cell]; rfl
  have z2 : (w4.alloc (Obj.cells #[.slice (some ⟨g, 0, none⟩) n c, .bool u] 24)).cell? ⟨w4.heap.size, 1, none⟩ = some (.bool u) := by rw [hz3.cell]; rfl
  have HB5 := hide (HB4.out.trans (hb5.mono HB4.out.size))
  have HR5 := HROW.out.below hb5 HROW.out.lt
  have HC5 : Hid (Ri (w4.alloc (Obj.cells #[.slice (some ⟨g, 0, none⟩) n c, .bool u] 24)) (some ⟨g, 0, none⟩) zs) := hide (HR5.ri_app HR.out.1)
  clear hb5 hz3 HR5 HROW
  generalize hG : w4.heap.size = G at *
  generalize hwr : w4.alloc (Obj.cells #[.slice (some ⟨g, 0, none⟩) n c, .bool u] 24) = wr at *
  clear hwr hG
  have HKB := hide (fun W (hb : Below wr.heap.size wr W) => HB5.out.trans (hb.mono HB5.out.size))
  have K1 := hide (fun W (hb : Below wr.heap.size wr W) => valid_c zs P cap u am ar W (HR.out.below (HKB.out W hb)) (by rw [hn'.out]; omega) (HE.out.below (HKB.out W hb)))
  have K2 := hide (fun W (hb : Below wr.heap.size wr W) => refvalid_c zs P cap u W (HR.out.below (HKB.out W hb)) (by rw [hn'.out]; omega))
  have K3 := hide (fun W (hb : Below wr.heap.size wr W) => is_shp ham har _ (Shp.code_is zs) W (HZ.out.below (HKB.out W hb)))
  have K4 := hide (fun W (hb : Below wr.heap.size wr W) => elems_c zs P cap am ar W (HR.out.below (HKB.out W hb)) (by rw [hn'.out]; omega) (HE.out.below (HKB.out W hb)))
  have K5 := hide (fun W (hb : Below wr.heap.size wr W) => refelems_c zs P cap W (HR.out.below (HKB.out W hb)) (by rw [hn'.out]; omega))
  have K6 := hide (fun W (hb : Below wr.heap.size wr W) => bytes_c zs P cap u am ar W (HR.out.below (HKB.out W hb)) (by rw [hn'.out]; omega) (HE.out.below (HKB.out W hb)))
  have K7 := hide (fun W (hb : Below wr.heap.size wr W) => size_c zs P cap u W (HR.out.below (HKB.out W hb)) (by rw [hn'.out]; omega))
  have K8 := hide (fun W (hb : Below wr.heap.size wr W) => steps_any zs P cap am ar W (HR.out.below (HKB.out W hb)) (by rw [hn'.out]; omega) (HE.out.below (HKB.out W hb)))
  have K9 := hide (fun W (hb : Below wr.heap.size wr W) => refsteps_any zs P cap W (HR.out.below (HKB.out W hb)) (by rw [hn'.out]; omega))
  have hsl : (Shp.steps' zs).length ≤ 1000000 := by
    unfold Shp.steps'
    split
    · rw [Shp.steps_length, hn'.out]; omega
    · exact Nat.zero_le _
  have K10 := hide (fun W A B (ha : Ri W A (Shp.steps' zs)) (hb : Ri W B (Shp.steps' zs)) => sameints_c (Shp.steps' zs) (Shp.steps' zs) A B (Shp.steps' zs).length (Shp.steps' zs).length W ha hb hsl hsl)
  have K11 := hide (fun W (hb : Below wr.heap.size wr W) => same_c zs ys P Q cap capq u v W (HR.out.below (HKB.out W hb)) (HQ.out.below (HKB.out W hb)) (by rw [hn'.out]; omega) (by rw [hm'.out]; omega))
  have K12 := hide (fun W (hb : Below wr.heap.size wr W) => samedesc_c zs ys P Q cap capq u v W (HR.out.below (HKB.out W hb)) (HQ.out.below (HKB.out W hb)) (by rw [hn'.out]; omega) (by rw [hm'.out]; omega))
  have K13 := hide (fun W (hb : Below wr.heap.size wr W) => samedesc_c zs zs (some ⟨g, 0, none⟩) P c cap u u W (HC5.out.below hb) (HR.out.below (HKB.out W hb)) (by rw [hn'.out]; omega) (by rw [hn'.out]; omega))
  rw [decide_eq_true (rfl : Shp.steps' zs = Shp.steps' zs)] at K10
  rw [decide_eq_true (rfl : zs = zs), beq_self_eq_true, Bool.true_and] at K13
  have hk0 : ((Shp.code zs : Nat) : Int) ≠ 0 := by
    unfold Shp.ok at hok
    rw [decide_eq_false_iff_not] at hok
    omega
  obtain ⟨E0, hE0⟩ : ∃ E0, Hid (Shp.err am ar (Shp.code zs) = E0) := ⟨_, hide rfl⟩
  rw [hE0.out] at K1 K3
  obtain ⟨k, hk⟩ : ∃ k, Hid (((Shp.code zs : Nat) : Int) = k) := ⟨_, hide rfl⟩
  rw [hk.out] at K2 K3 hk0
  obtain ⟨E1, hE1⟩ : ∃ E1, Hid (Shp.elems zs = E1) := ⟨_, hide rfl⟩
  rw [hE1.out] at K4 K5
  obtain ⟨E2', hE2⟩ : ∃ E1, Hid (Shp.size zs u = E1) := ⟨_, hide rfl⟩
  rw [hE2.out] at K6 K7
  obtain ⟨L, hL⟩ : ∃ L, Hid (Shp.steps' zs = L) := ⟨_, hide rfl⟩
  rw [hL.out] at K8 K9 K10
  obtain ⟨l, hl⟩ : ∃ l, Hid (L.length = l) := ⟨_, hide rfl⟩
  rw [hl.out] at K8 K9 K10
  obtain ⟨b, hb'⟩ : ∃ b, Hid ((decide (zs = ys) && (u == v)) = b) := ⟨_, hide rfl⟩
  rw [hb'.out] at K11 K12
  rw [hn'.out] at K1 K2 K4 K5 K6 K7 K8 K9 K11 K12 K13
  rw [hm'.out] at K11 K12
  have hk0' : (k != 0) = true := by simpa using hk0
  clear hk0 hok hsl hE0 hk hE1 hE2 hL hl hb' HR HQ HE HZ HC5 hn hm HCL HW1 HW2 H1 H2 HB1 HB2 HB3 HB4 hn' hm' ham har
  have hS0 : SaysS w.heap.size G wr (.slice P n cap) (.bool u) (.slice Q m capq) (.bool v) (.slice (some ⟨g, 0, none⟩) n c) (.bool u) wr.drew := ⟨c1, c2, e1, e2, z1, z2, hide (Below.refl _ wr).drew⟩
  refine wp_region_held_drew (S := (fun W => W.cell? ⟨w.heap.size, 0, none⟩ = some (.slice P n cap) ∧ W.cell? ⟨w.heap.size, 1, none⟩ = some (.bool u) ∧ W.cell? ⟨w.heap.size + 1, 0, none⟩ = some (.slice Q m capq) ∧ W.cell? ⟨w.heap.size + 1, 1, none⟩ = some (.bool v) ∧ W.cell? ⟨G, 0, none⟩ = some (.slice (some ⟨g, 0, none⟩) n c) ∧ W.cell? ⟨G, 1, none⟩ = some (.bool u) ∧ Hid (Below wr.heap.size wr W))) (by kernel_rfl) hS0 (fun hH0 => ?_)
  clear hS0
  refine wpAnyH_take (i := 0) (oi := { dst := some 25, op := Op.load 24 (Operand.tmp 2), type := 24, pos := "law.go:29", after := #[], guard := none }) (v := ?v0) rfl (by kernel_rfl) (by kernel_rfl) (by kernel_rfl) (fun _ _ _ h => h) (Or.inl ⟨by rfl, ?hy0⟩) (by assumption) ?r0
  case hy0 =>
    intro w hSw
    (try dsimp only at hSw)
    go_simp
    all_goals with_reducible rfl
  (try simp only [Act.put, List.setIfInBounds_toArray, List.set_cons_zero, List.set_cons_succ])
  refine wpAnyH_take (i := 2) (oi := { dst := some 27, op := Op.load 24 (Operand.tmp 2), type := 24, pos := "law.go:29", after := #[], guard := none }) (v := ?v2) rfl (by kernel_rfl) (by kernel_rfl) (by kernel_rfl) (fun _ _ _ h => h) (Or.inl ⟨by rfl, ?hy2⟩) (by assumption) ?r2
  case hy2 =>
    intro w hSw
    (try dsimp only at hSw)
    go_simp
    all_goals with_reducible rfl
  (try simp only [Act.put, List.setIfInBounds_toArray, List.set_cons_zero, List.set_cons_succ])
  refine wpAnyH_ready (rs := [1]) (by kernel_rfl) (by simp) ?_
  refine AllReadyH.cons (o := { dst := some 26, op := Op.call { callee := Callee.value (Operand.func 18), args := #[Operand.tmp 25], argTypes := #[24] }, type := 30, pos := "law.go:29", after := #[{ on := 0, ground := Ground.data }], guard := none }) rfl (fun K hK => ?_) AllReadyH.nil
  go_simp
  refine (K1.out _ (SaysS.low (by assumption))).mono ?_
  rintro e W2 ⟨rfl, hb⟩
  go_wp2_with fail
  refine hK.out _ _ ?_ (fun hH1 => ?_)
  · exact SaysS.keep (by assumption) hb
  clear hK K hb hH0
  (try simp only [Act.put, List.setIfInBounds_toArray, List.set_cons_zero, List.set_cons_succ])
  refine wpAnyH_ready (rs := [3]) (by kernel_rfl) (by simp) ?_
  refine AllReadyH.cons (o := { dst := some 28, op := Op.call { callee := Callee.value (Operand.func 19), args := #[Operand.tmp 27], argTypes := #[24] }, type := 3, pos := "law.go:29", after := #[{ on := 2, ground := Ground.data }, { on := 1, ground := Ground.chain }], guard := none }) rfl (fun K hK => ?_) AllReadyH.nil
  go_simp
  refine (K2.out _ (SaysS.low (by assumption))).mono ?_
  rintro e W2 ⟨rfl, hb⟩
  go_wp2_with fail
  refine hK.out _ _ ?_ (fun hH2 => ?_)
  · exact SaysS.keep (by assumption) hb
  clear hK K hb hH1
  (try simp only [Act.put, List.setIfInBounds_toArray, List.set_cons_zero, List.set_cons_succ])
  refine wpAnyH_ready (rs := [4]) (by kernel_rfl) (by simp) ?_
  refine AllReadyH.cons (o := { dst := some 29, op := Op.call { callee := Callee.value (Operand.func 17), args := #[Operand.tmp 26, Operand.tmp 28], argTypes := #[30, 3] }, type := 4, pos := "law.go:29", after := #[{ on := 1, ground := Ground.data }, { on := 3, ground := Ground.data }, { on := 3, ground := Ground.chain }], guard := none }) rfl (fun K hK => ?_) AllReadyH.nil
  go_simp
  refine (K3.out _ (SaysS.low (by assumption))).mono ?_
  rintro e W2 ⟨rfl, hb⟩
  go_wp2_with fail
  refine hK.out _ _ ?_ (fun hH3 => ?_)
  · exact SaysS.keep (by assumption) hb
  clear hK K hb hH2
  (try simp only [Act.put, List.setIfInBounds_toArray, List.set_cons_zero, List.set_cons_succ])
  refine wpAnyH_take (i := 5) (oi := { dst := some 30, op := Op.move (Operand.tmp 29), type := 4, pos := "law.go:29", after := #[{ on := 4, ground := Ground.data }, { on := 4, ground := Ground.chain }], guard := none }) (v := ?v5) rfl (by kernel_rfl) (by kernel_rfl) (by kernel_rfl) (fun _ _ _ h => h) (Or.inl ⟨by rfl, ?hy5⟩) (by assumption) ?r5
  case hy5 =>
    intro w hSw
    (try dsimp only at hSw)
    go_simp
    all_goals with_reducible rfl
  (try simp only [Act.put, List.setIfInBounds_toArray, List.set_cons_zero, List.set_cons_succ])
  refine wpAnyH_take (i := 6) (oi := { dst := some 31, op := Op.fieldAddr 24 (Operand.tmp 2) 0, type := 0, pos := "law.go:29", after := #[{ on := 5, ground := Ground.guard }], guard := some (5, true) }) (v := ?v6) rfl (by kernel_rfl) (by kernel_rfl) (by kernel_rfl) (fun _ _ _ h => h) (Or.inl ⟨by rfl, ?hy6⟩) (by assumption) ?r6
  case hy6 =>
    intro w hSw
    (try dsimp only at hSw)
    go_simp
    all_goals with_reducible rfl
  (try simp only [Act.put, List.setIfInBounds_toArray, List.set_cons_zero, List.set_cons_succ])
  refine wpAnyH_take (i := 7) (oi := { dst := some 32, op := Op.load 22 (Operand.tmp 31), type := 22, pos := "law.go:29", after := #[{ on := 6, ground := Ground.data }, { on := 5, ground := Ground.guard }], guard := some (5, true) }) (v := ?v7) rfl (by kernel_rfl) (by kernel_rfl) (by kernel_rfl) (fun _ _ _ h => h) (Or.inl ⟨by rfl, ?hy7⟩) (by assumption) ?r7
  case hy7 =>
    intro w hSw
    (try dsimp only at hSw)
    go_simp
    all_goals with_reducible rfl
  (try simp only [Act.put, List.setIfInBounds_toArray, List.set_cons_zero, List.set_cons_succ])
  refine wpAnyH_take (i := 9) (oi := { dst := some 34, op := Op.fieldAddr 24 (Operand.tmp 2) 0, type := 0, pos := "law.go:29", after := #[{ on := 5, ground := Ground.guard }], guard := some (5, true) }) (v := ?v9) rfl (by kernel_rfl) (by kernel_rfl) (by kernel_rfl) (fun _ _ _ h => h) (Or.inl ⟨by rfl, ?hy9⟩) (by assumption) ?r9
  case hy9 =>
    intro w hSw
    (try dsimp only at hSw)
    go_simp
    all_goals with_reducible rfl
  (try simp only [Act.put, List.setIfInBounds_toArray, List.set_cons_zero, List.set_cons_succ])
  refine wpAnyH_take (i := 10) (oi := { dst := some 35, op := Op.load 22 (Operand.tmp 34), type := 22, pos := "law.go:29", after := #[{ on := 9, ground := Ground.data }, { on := 5, ground := Ground.guard }], guard := some (5, true) }) (v := ?v10) rfl (by kernel_rfl) (by kernel_rfl) (by kernel_rfl) (fun _ _ _ h => h) (Or.inl ⟨by rfl, ?hy10⟩) (by assumption) ?r10
  case hy10 =>
    intro w hSw
    (try dsimp only at hSw)
    go_simp
    all_goals with_reducible rfl
  (try simp only [Act.put, List.setIfInBounds_toArray, List.set_cons_zero, List.set_cons_succ])
  refine wpAnyH_ready (rs := [8]) (by kernel_rfl) (by simp) ?_
  refine AllReadyH.cons (o := { dst := some 33, op := Op.call { callee := Callee.value (Operand.func 20), args := #[Operand.tmp 32], argTypes := #[22] }, type := 3, pos := "law.go:29", after := #[{ on := 7, ground := Ground.data }, { on := 5, ground := Ground.chain }, { on := 5, ground := Ground.guard }], guard := some (5, true) }) rfl (fun K hK => ?_) AllReadyH.nil
  go_simp
  refine (K4.out _ (SaysS.low (by assumption))).mono ?_
  rintro e W2 ⟨rfl, hb⟩
  go_wp2_with fail
  refine hK.out _ _ ?_ (fun hH4 => ?_)
  · exact SaysS.keep (by assumption) hb
  clear hK K hb hH3
  (try simp only [Act.put, List.setIfInBounds_toArray, List.set_cons_zero, List.set_cons_succ])
  refine wpAnyH_ready (rs := [11]) (by kernel_rfl) (by simp) ?_
  refine AllReadyH.cons (o := { dst := some 36, op := Op.call { callee := Callee.value (Operand.func 21), args := #[Operand.tmp 35], argTypes := #[22] }, type := 3, pos := "law.go:29", after := #[{ on := 10, ground := Ground.data }, { on := 8, ground := Ground.chain }, { on := 5, ground := Ground.guard }], guard := some (5, true) }) rfl (fun K hK => ?_) AllReadyH.nil
  go_simp
  refine (K5.out _ (SaysS.low (by assumption))).mono ?_
  rintro e W2 ⟨rfl, hb⟩
  go_wp2_with fail
  refine hK.out _ _ ?_ (fun hH5 => ?_)
  · exact SaysS.keep (by assumption) hb
  clear hK K hb hH4
  (try simp only [Act.put, List.setIfInBounds_toArray, List.set_cons_zero, List.set_cons_succ])
  refine wpAnyH_take (i := 12) (oi := { dst := some 37, op := Op.binOp BinOp.eql 3 (Operand.tmp 33) (Operand.tmp 36) 3, type := 4, pos := "law.go:29", after := #[{ on := 8, ground := Ground.data }, { on := 11, ground := Ground.data }, { on := 5, ground := Ground.guard }], guard := some (5, true) }) (v := ?v12) rfl (by kernel_rfl) (by kernel_rfl) (by kernel_rfl) (fun _ _ _ h => h) (Or.inl ⟨by rfl, ?hy12⟩) (by assumption) ?r12
  case hy12 =>
    intro w hSw
    (try dsimp only at hSw)
    go_simp
    all_goals with_reducible rfl
  (try simp only [Act.put, List.setIfInBounds_toArray, List.set_cons_zero, List.set_cons_succ])
  refine wpAnyH_take (i := 13) (oi := { dst := some 38, op := Op.pick (Operand.tmp 30) (Operand.tmp 37) (Operand.const (Value.bool false)), type := 4, pos := "law.go:29", after := #[{ on := 5, ground := Ground.data }, { on := 12, ground := Ground.data }], guard := none }) (v := ?v13) rfl (by kernel_rfl) (by kernel_rfl) (by kernel_rfl) (fun _ _ _ h => h) (Or.inl ⟨by rfl, ?hy13⟩) (by assumption) ?r13
  case hy13 =>
    intro w hSw
    (try dsimp only at hSw)
    go_simp
    all_goals with_reducible rfl
  (try simp only [Act.put, List.setIfInBounds_toArray, List.set_cons_zero, List.set_cons_succ])
  refine wpAnyH_take (i := 14) (oi := { dst := some 39, op := Op.move (Operand.tmp 38), type := 4, pos := "law.go:29", after := #[{ on := 13, ground := Ground.data }, { on := 11, ground := Ground.chain }], guard := none }) (v := ?v14) rfl (by kernel_rfl) (by kernel_rfl) (by kernel_rfl) (fun _ _ _ h => h) (Or.inl ⟨by rfl, ?hy14⟩) (by assumption) ?r14
  case hy14 =>
    intro w hSw
    (try dsimp only at hSw)
    go_simp
    all_goals with_reducible rfl
  (try simp only [Act.put, List.setIfInBounds_toArray, List.set_cons_zero, List.set_cons_succ])
  refine wpAnyH_take (i := 15) (oi := { dst := some 40, op := Op.load 24 (Operand.tmp 2), type := 24, pos := "law.go:29", after := #[{ on := 14, ground := Ground.guard }], guard := some (14, true) }) (v := ?v15) rfl (by kernel_rfl) (by kernel_rfl) (by kernel_rfl) (fun _ _ _ h => h) (Or.inl ⟨by rfl, ?hy15⟩) (by assumption) ?r15
  case hy15 =>
    intro w hSw
    (try dsimp only at hSw)
    go_simp
    all_goals with_reducible rfl
  (try simp only [Act.put, List.setIfInBounds_toArray, List.set_cons_zero, List.set_cons_succ])
  refine wpAnyH_take (i := 17) (oi := { dst := some 42, op := Op.load 24 (Operand.tmp 2), type := 24, pos := "law.go:29", after := #[{ on := 14, ground := Ground.guard }], guard := some (14, true) }) (v := ?v17) rfl (by kernel_rfl) (by kernel_rfl) (by kernel_rfl) (fun _ _ _ h => h) (Or.inl ⟨by rfl, ?hy17⟩) (by assumption) ?r17
  case hy17 =>
    intro w hSw
    (try dsimp only at hSw)
    go_simp
    all_goals with_reducible rfl
  (try simp only [Act.put, List.setIfInBounds_toArray, List.set_cons_zero, List.set_cons_succ])
  refine wpAnyH_ready (rs := [16]) (by kernel_rfl) (by simp) ?_
  refine AllReadyH.cons (o := { dst := some 41, op := Op.call { callee := Callee.value (Operand.func 22), args := #[Operand.tmp 40], argTypes := #[24] }, type := 3, pos := "law.go:29", after := #[{ on := 15, ground := Ground.data }, { on := 14, ground := Ground.chain }, { on := 14, ground := Ground.guard }], guard := some (14, true) }) rfl (fun K hK => ?_) AllReadyH.nil
  go_simp
  refine (K6.out _ (SaysS.low (by assumption))).mono ?_
  rintro e W2 ⟨rfl, hb⟩
  go_wp2_with fail
  refine hK.out _ _ ?_ (fun hH6 => ?_)
  · exact SaysS.keep (by assumption) hb
  clear hK K hb hH5
  (try simp only [Act.put, List.setIfInBounds_toArray, List.set_cons_zero, List.set_cons_succ])
  refine wpAnyH_ready (rs := [18]) (by kernel_rfl) (by simp) ?_
  refine AllReadyH.cons (o := { dst := some 43, op := Op.call { callee := Callee.value (Operand.func 23), args := #[Operand.tmp 42], argTypes := #[24] }, type := 3, pos := "law.go:29", after := #[{ on := 17, ground := Ground.data }, { on := 16, ground := Ground.chain }, { on := 14, ground := Ground.guard }], guard := some (14, true) }) rfl (fun K hK => ?_) AllReadyH.nil
  go_simp
  refine (K7.out _ (SaysS.low (by assumption))).mono ?_
  rintro e W2 ⟨rfl, hb⟩
  go_wp2_with fail
  refine hK.out _ _ ?_ (fun hH7 => ?_)
  · exact SaysS.keep (by assumption) hb
  clear hK K hb hH6
  (try simp only [Act.put, List.setIfInBounds_toArray, List.set_cons_zero, List.set_cons_succ])
  refine wpAnyH_take (i := 19) (oi := { dst := some 44, op := Op.binOp BinOp.eql 3 (Operand.tmp 41) (Operand.tmp 43) 3, type := 4, pos := "law.go:29", after := #[{ on := 16, ground := Ground.data }, { on := 18, ground := Ground.data }, { on := 14, ground := Ground.guard }], guard := some (14, true) }) (v := ?v19) rfl (by kernel_rfl) (by kernel_rfl) (by kernel_rfl) (fun _ _ _ h => h) (Or.inl ⟨by rfl, ?hy19⟩) (by assumption) ?r19
  case hy19 =>
    intro w hSw
    (try dsimp only at hSw)
    go_simp
    all_goals with_reducible rfl
  (try simp only [Act.put, List.setIfInBounds_toArray, List.set_cons_zero, List.set_cons_succ])
  refine wpAnyH_take (i := 20) (oi := { dst := some 45, op := Op.pick (Operand.tmp 39) (Operand.tmp 44) (Operand.const (Value.bool false)), type := 4, pos := "law.go:29", after := #[{ on := 14, ground := Ground.data }, { on := 19, ground := Ground.data }], guard := none }) (v := ?v20) rfl (by kernel_rfl) (by kernel_rfl) (by kernel_rfl) (fun _ _ _ h => h) (Or.inl ⟨by rfl, ?hy20⟩) (by assumption) ?r20
  case hy20 =>
    intro w hSw
    (try dsimp only at hSw)
    go_simp
    all_goals with_reducible rfl
  (try simp only [Act.put, List.setIfInBounds_toArray, List.set_cons_zero, List.set_cons_succ])
  refine wpAnyH_take (i := 21) (oi := { dst := some 46, op := Op.move (Operand.tmp 45), type := 4, pos := "law.go:29", after := #[{ on := 20, ground := Ground.data }, { on := 18, ground := Ground.chain }], guard := none }) (v := ?v21) rfl (by kernel_rfl) (by kernel_rfl) (by kernel_rfl) (fun _ _ _ h => h) (Or.inl ⟨by rfl, ?hy21⟩) (by assumption) ?r21
  case hy21 =>
    intro w hSw
    (try dsimp only at hSw)
    go_simp
    all_goals with_reducible rfl
  (try simp only [Act.put, List.setIfInBounds_toArray, List.set_cons_zero, List.set_cons_succ])
  refine wpAnyH_take (i := 22) (oi := { dst := some 47, op := Op.fieldAddr 24 (Operand.tmp 2) 0, type := 0, pos := "law.go:29", after := #[{ on := 21, ground := Ground.guard }], guard := some (21, true) }) (v := ?v22) rfl (by kernel_rfl) (by kernel_rfl) (by kernel_rfl) (fun _ _ _ h => h) (Or.inl ⟨by rfl, ?hy22⟩) (by assumption) ?r22
  case hy22 =>
    intro w hSw
    (try dsimp only at hSw)
    go_simp
    all_goals with_reducible rfl
  (try simp only [Act.put, List.setIfInBounds_toArray, List.set_cons_zero, List.set_cons_succ])
  refine wpAnyH_take (i := 23) (oi := { dst := some 48, op := Op.load 22 (Operand.tmp 47), type := 22, pos := "law.go:29", after := #[{ on := 22, ground := Ground.data }, { on := 21, ground := Ground.guard }], guard := some (21, true) }) (v := ?v23) rfl (by kernel_rfl) (by kernel_rfl) (by kernel_rfl) (fun _ _ _ h => h) (Or.inl ⟨by rfl, ?hy23⟩) (by assumption) ?r23
  case hy23 =>
    intro w hSw
    (try dsimp only at hSw)
    go_simp
    all_goals with_reducible rfl
  (try simp only [Act.put, List.setIfInBounds_toArray, List.set_cons_zero, List.set_cons_succ])
  refine wpAnyH_take (i := 25) (oi := { dst := some 50, op := Op.fieldAddr 24 (Operand.tmp 2) 0, type := 0, pos := "law.go:29", after := #[{ on := 21, ground := Ground.guard }], guard := some (21, true) }) (v := ?v25) rfl (by kernel_rfl) (by kernel_rfl) (by kernel_rfl) (fun _ _ _ h => h) (Or.inl ⟨by rfl, ?hy25⟩) (by assumption) ?r25
  case hy25 =>
    intro w hSw
    (try dsimp only at hSw)
    go_simp
    all_goals with_reducible rfl
  (try simp only [Act.put, List.setIfInBounds_toArray, List.set_cons_zero, List.set_cons_succ])
  refine wpAnyH_take (i := 26) (oi := { dst := some 51, op := Op.load 22 (Operand.tmp 50), type := 22, pos := "law.go:29", after := #[{ on := 25, ground := Ground.data }, { on := 21, ground := Ground.guard }], guard := some (21, true) }) (v := ?v26) rfl (by kernel_rfl) (by kernel_rfl) (by kernel_rfl) (fun _ _ _ h => h) (Or.inl ⟨by rfl, ?hy26⟩) (by assumption) ?r26
  case hy26 =>
    intro w hSw
    (try dsimp only at hSw)
    go_simp
    all_goals with_reducible rfl
  (try simp only [Act.put, List.setIfInBounds_toArray, List.set_cons_zero, List.set_cons_succ])
  refine wpAnyH_ready (rs := [24]) (by kernel_rfl) (by simp) ?_
  refine AllReadyH.cons (o := { dst := some 49, op := Op.call { callee := Callee.value (Operand.func 25), args := #[Operand.tmp 48], argTypes := #[22] }, type := 22, pos := "law.go:29", after := #[{ on := 23, ground := Ground.data }, { on := 21, ground := Ground.chain }, { on := 21, ground := Ground.guard }], guard := some (21, true) }) rfl (fun K hK => ?_) AllReadyH.nil
  go_simp
  refine (K8.out _ (SaysS.low (by assumption))).mono ?_
  rintro e W2 ⟨⟨A, rfl, hA⟩, hb⟩
  go_wp2_with fail
  refine hK.out _ _ ?_ (fun hH8 => ?_)
  · exact SaysS.keep (by assumption) hb
  clear hK K hb hH7
  (try simp only [Act.put, List.setIfInBounds_toArray, List.set_cons_zero, List.set_cons_succ])
  refine wpAnyH_ready (rs := [27]) (by kernel_rfl) (by simp) ?_
  refine AllReadyH.cons (o := { dst := some 52, op := Op.call { callee := Callee.value (Operand.func 26), args := #[Operand.tmp 51], argTypes := #[22] }, type := 22, pos := "law.go:29", after := #[{ on := 26, ground := Ground.data }, { on := 24, ground := Ground.chain }, { on := 21, ground := Ground.guard }], guard := some (21, true) }) rfl (fun K hK => ?_) AllReadyH.nil
  go_simp
  refine (K9.out _ (SaysS.low (by assumption))).mono ?_
  rintro e W2 ⟨⟨B, rfl, hB⟩, hb⟩
  replace hA := hA.below hb
  go_wp2_with fail
  refine hK.out _ _ ?_ (fun hH9 => ?_)
  · exact SaysS.keep (by assumption) hb
  clear hK K hb hH8
  (try simp only [Act.put, List.setIfInBounds_toArray, List.set_cons_zero, List.set_cons_succ])
  refine wpAnyH_ready (rs := [28]) (by kernel_rfl) (by simp) ?_
  refine AllReadyH.cons (o := { dst := some 53, op := Op.call { callee := Callee.value (Operand.func 24), args := #[Operand.tmp 49, Operand.tmp 52], argTypes := #[22, 22] }, type := 4, pos := "law.go:29", after := #[{ on := 24, ground := Ground.data }, { on := 27, ground := Ground.data }, { on := 27, ground := Ground.chain }, { on := 21, ground := Ground.guard }], guard := some (21, true) }) rfl (fun K hK => ?_) AllReadyH.nil
  go_simp
  refine (K10.out _ _ _ hA hB).mono ?_
  clear hA hB
  rintro e W2 ⟨rfl, hb⟩
  go_wp2_with fail
  refine hK.out _ _ ?_ (fun hH10 => ?_)
  · exact SaysS.keep (by assumption) hb
  clear hK K hb hH9
  (try simp only [Act.put, List.setIfInBounds_toArray, List.set_cons_zero, List.set_cons_succ])
  refine wpAnyH_take (i := 29) (oi := { dst := some 54, op := Op.pick (Operand.tmp 46) (Operand.tmp 53) (Operand.const (Value.bool false)), type := 4, pos := "law.go:29", after := #[{ on := 21, ground := Ground.data }, { on := 28, ground := Ground.data }], guard := none }) (v := ?v29) rfl (by kernel_rfl) (by kernel_rfl) (by kernel_rfl) (fun _ _ _ h => h) (Or.inl ⟨by rfl, ?hy29⟩) (by assumption) ?r29
  case hy29 =>
    intro w hSw
    (try dsimp only at hSw)
    go_simp
    all_goals with_reducible rfl
  (try simp only [Act.put, List.setIfInBounds_toArray, List.set_cons_zero, List.set_cons_succ])
  refine wpAnyH_take (i := 30) (oi := { dst := some 55, op := Op.move (Operand.tmp 54), type := 4, pos := "law.go:29", after := #[{ on := 29, ground := Ground.data }, { on := 28, ground := Ground.chain }], guard := none }) (v := ?v30) rfl (by kernel_rfl) (by kernel_rfl) (by kernel_rfl) (fun _ _ _ h => h) (Or.inl ⟨by rfl, ?hy30⟩) (by assumption) ?r30
  case hy30 =>
    intro w hSw
    (try dsimp only at hSw)
    go_simp
    all_goals with_reducible rfl
  (try simp only [Act.put, List.setIfInBounds_toArray, List.set_cons_zero, List.set_cons_succ])
  refine wpAnyH_take (i := 31) (oi := { dst := some 56, op := Op.load 24 (Operand.tmp 2), type := 24, pos := "law.go:29", after := #[{ on := 30, ground := Ground.guard }], guard := some (30, true) }) (v := ?v31) rfl (by kernel_rfl) (by kernel_rfl) (by kernel_rfl) (fun _ _ _ h => h) (Or.inl ⟨by rfl, ?hy31⟩) (by assumption) ?r31
  case hy31 =>
    intro w hSw
    (try dsimp only at hSw)
    go_simp
    all_goals with_reducible rfl
  (try simp only [Act.put, List.setIfInBounds_toArray, List.set_cons_zero, List.set_cons_succ])
  refine wpAnyH_take (i := 32) (oi := { dst := some 57, op := Op.load 24 (Operand.tmp 3), type := 24, pos := "law.go:29", after := #[{ on := 30, ground := Ground.guard }], guard := some (30, true) }) (v := ?v32) rfl (by kernel_rfl) (by kernel_rfl) (by kernel_rfl) (fun _ _ _ h => h) (Or.inl ⟨by rfl, ?hy32⟩) (by assumption) ?r32
  case hy32 =>
    intro w hSw
    (try dsimp only at hSw)
    go_simp
    all_goals with_reducible rfl
  (try simp only [Act.put, List.setIfInBounds_toArray, List.set_cons_zero, List.set_cons_succ])
  refine wpAnyH_take (i := 34) (oi := { dst := some 59, op := Op.load 24 (Operand.tmp 2), type := 24, pos := "law.go:29", after := #[{ on := 30, ground := Ground.guard }], guard := some (30, true) }) (v := ?v34) rfl (by kernel_rfl) (by kernel_rfl) (by kernel_rfl) (fun _ _ _ h => h) (Or.inl ⟨by rfl, ?hy34⟩) (by assumption) ?r34
  case hy34 =>
    intro w hSw
    (try dsimp only at hSw)
    go_simp
    all_goals with_reducible rfl
  (try simp only [Act.put, List.setIfInBounds_toArray, List.set_cons_zero, List.set_cons_succ])
  refine wpAnyH_take (i := 35) (oi := { dst := some 60, op := Op.load 24 (Operand.tmp 3), type := 24, pos := "law.go:29", after := #[{ on := 30, ground := Ground.guard }], guard := some (30, true) }) (v := ?v35) rfl (by kernel_rfl) (by kernel_rfl) (by kernel_rfl) (fun _ _ _ h => h) (Or.inl ⟨by rfl, ?hy35⟩) (by assumption) ?r35
  case hy35 =>
    intro w hSw
    (try dsimp only at hSw)
    go_simp
    all_goals with_reducible rfl
  (try simp only [Act.put, List.setIfInBounds_toArray, List.set_cons_zero, List.set_cons_succ])
  refine wpAnyH_ready (rs := [33]) (by kernel_rfl) (by simp) ?_
  refine AllReadyH.cons (o := { dst := some 58, op := Op.call { callee := Callee.value (Operand.func 27), args := #[Operand.tmp 56, Operand.tmp 57], argTypes := #[24, 24] }, type := 4, pos := "law.go:29", after := #[{ on := 31, ground := Ground.data }, { on := 32, ground := Ground.data }, { on := 30, ground := Ground.chain }, { on := 30, ground := Ground.guard }], guard := some (30, true) }) rfl (fun K hK => ?_) AllReadyH.nil
  go_simp
  refine (K11.out _ (SaysS.low (by assumption))).mono ?_
  rintro e W2 ⟨rfl, hb⟩
  go_wp2_with fail
  refine hK.out _ _ ?_ (fun hH11 => ?_)
  · exact SaysS.keep (by assumption) hb
  clear hK K hb hH10
  (try simp only [Act.put, List.setIfInBounds_toArray, List.set_cons_zero, List.set_cons_succ])
  refine wpAnyH_ready (rs := [36]) (by kernel_rfl) (by simp) ?_
  refine AllReadyH.cons (o := { dst := some 61, op := Op.call { callee := Callee.value (Operand.func 28), args := #[Operand.tmp 59, Operand.tmp 60], argTypes := #[24, 24] }, type := 4, pos := "law.go:29", after := #[{ on := 34, ground := Ground.data }, { on := 35, ground := Ground.data }, { on := 33, ground := Ground.chain }, { on := 30, ground := Ground.guard }], guard := some (30, true) }) rfl (fun K hK => ?_) AllReadyH.nil
  go_simp
  refine (K12.out _ (SaysS.low (by assumption))).mono ?_
  rintro e W2 ⟨rfl, hb⟩
  go_wp2_with fail
  refine hK.out _ _ ?_ (fun hH12 => ?_)
  · exact SaysS.keep (by assumption) hb
  clear hK K hb hH11
  (try simp only [Act.put, List.setIfInBounds_toArray, List.set_cons_zero, List.set_cons_succ])
  refine wpAnyH_take (i := 37) (oi := { dst := some 62, op := Op.binOp BinOp.eql 4 (Operand.tmp 58) (Operand.tmp 61) 4, type := 4, pos := "law.go:29", after := #[{ on := 33, ground := Ground.data }, { on := 36, ground := Ground.data }, { on := 30, ground := Ground.guard }], guard := some (30, true) }) (v := ?v37) rfl (by kernel_rfl) (by kernel_rfl) (by kernel_rfl) (fun _ _ _ h => h) (Or.inl ⟨by rfl, ?hy37⟩) (by assumption) ?r37
  case hy37 =>
    intro w hSw
    (try dsimp only at hSw)
    go_simp
    all_goals with_reducible rfl
  (try simp only [Act.put, List.setIfInBounds_toArray, List.set_cons_zero, List.set_cons_succ])
  refine wpAnyH_take (i := 38) (oi := { dst := some 63, op := Op.pick (Operand.tmp 55) (Operand.tmp 62) (Operand.const (Value.bool false)), type := 4, pos := "law.go:29", after := #[{ on := 30, ground := Ground.data }, { on := 37, ground := Ground.data }], guard := none }) (v := ?v38) rfl (by kernel_rfl) (by kernel_rfl) (by kernel_rfl) (fun _ _ _ h => h) (Or.inl ⟨by rfl, ?hy38⟩) (by assumption) ?r38
  case hy38 =>
    intro w hSw
    (try dsimp only at hSw)
    go_simp
    all_goals with_reducible rfl
  (try simp only [Act.put, List.setIfInBounds_toArray, List.set_cons_zero, List.set_cons_succ])
  refine wpAnyH_take (i := 39) (oi := { dst := some 64, op := Op.move (Operand.tmp 63), type := 4, pos := "law.go:29", after := #[{ on := 38, ground := Ground.data }, { on := 36, ground := Ground.chain }], guard := none }) (v := ?v39) rfl (by kernel_rfl) (by kernel_rfl) (by kernel_rfl) (fun _ _ _ h => h) (Or.inl ⟨by rfl, ?hy39⟩) (by assumption) ?r39
  case hy39 =>
    intro w hSw
    (try dsimp only at hSw)
    go_simp
    all_goals with_reducible rfl
  (try simp only [Act.put, List.setIfInBounds_toArray, List.set_cons_zero, List.set_cons_succ])
  refine wpAnyH_take (i := 40) (oi := { dst := some 65, op := Op.load 24 (Operand.tmp 6), type := 24, pos := "law.go:29", after := #[{ on := 39, ground := Ground.guard }], guard := some (39, true) }) (v := ?v40) rfl (by kernel_rfl) (by kernel_rfl) (by kernel_rfl) (fun _ _ _ h => h) (Or.inl ⟨by rfl, ?hy40⟩) (by assumption) ?r40
  case hy40 =>
    intro w hSw
    (try dsimp only at hSw)
    go_simp
    all_goals with_reducible rfl
  (try simp only [Act.put, List.setIfInBounds_toArray, List.set_cons_zero, List.set_cons_succ])
  refine wpAnyH_take (i := 41) (oi := { dst := some 66, op := Op.load 24 (Operand.tmp 2), type := 24, pos := "law.go:29", after := #[{ on := 39, ground := Ground.guard }], guard := some (39, true) }) (v := ?v41) rfl (by kernel_rfl) (by kernel_rfl) (by kernel_rfl) (fun _ _ _ h => h) (Or.inl ⟨by rfl, ?hy41⟩) (by assumption) ?r41
  case hy41 =>
    intro w hSw
    (try dsimp only at hSw)
    go_simp
    all_goals with_reducible rfl
  (try simp only [Act.put, List.setIfInBounds_toArray, List.set_cons_zero, List.set_cons_succ])
  refine wpAnyH_ready (rs := [42]) (by kernel_rfl) (by simp) ?_
  refine AllReadyH.cons (o := { dst := some 67, op := Op.call { callee := Callee.value (Operand.func 28), args := #[Operand.tmp 65, Operand.tmp 66], argTypes := #[24, 24] }, type := 4, pos := "law.go:29", after := #[{ on := 40, ground := Ground.data }, { on := 41, ground := Ground.data }, { on := 39, ground := Ground.chain }, { on := 39, ground := Ground.guard }], guard := some (39, true) }) rfl (fun K hK => ?_) AllReadyH.nil
  go_simp
  refine (K13.out _ (SaysS.low (by assumption))).mono ?_
  rintro e W2 ⟨rfl, hb⟩
  go_wp2_with fail
  refine hK.out _ _ ?_ (fun hH13 => ?_)
  · exact SaysS.keep (by assumption) hb
  clear hK K hb hH12
  (try simp only [Act.put, List.setIfInBounds_toArray, List.set_cons_zero, List.set_cons_succ])
  refine wpAnyH_take (i := 43) (oi := { dst := some 68, op := Op.pick (Operand.tmp 64) (Operand.tmp 67) (Operand.const (Value.bool false)), type := 4, pos := "law.go:29", after := #[{ on := 39, ground := Ground.data }, { on := 42, ground := Ground.data }], guard := none }) (v := ?v43) rfl (by kernel_rfl) (by kernel_rfl) (by kernel_rfl) (fun _ _ _ h => h) (Or.inl ⟨by rfl, ?hy43⟩) (by assumption) ?r43
  case hy43 =>
    intro w hSw
    (try dsimp only at hSw)
    go_simp
    all_goals with_reducible rfl
  (try simp only [Act.put, List.setIfInBounds_toArray, List.set_cons_zero, List.set_cons_succ])
  refine wpAnyH_take (i := 44) (oi := { dst := some 69, op := Op.move (Operand.tmp 68), type := 4, pos := "law.go:29", after := #[{ on := 43, ground := Ground.data }, { on := 42, ground := Ground.chain }], guard := none }) (v := ?v44) rfl (by kernel_rfl) (by kernel_rfl) (by kernel_rfl) (fun _ _ _ h => h) (Or.inl ⟨by rfl, ?hy44⟩) (by assumption) ?r44
  case hy44 =>
    intro w hSw
    (try dsimp only at hSw)
    go_simp
    all_goals with_reducible rfl
  (try simp only [Act.put, List.setIfInBounds_toArray, List.set_cons_zero, List.set_cons_succ])
  refine wpAnyH_take (i := 45) (oi := { dst := some 70, op := Op.load 24 (Operand.tmp 2), type := 24, pos := "law.go:29", after := #[{ on := 44, ground := Ground.guard }], guard := some (44, true) }) (v := ?v45) rfl (by kernel_rfl) (by kernel_rfl) (by kernel_rfl) (fun _ _ _ h => h) (Or.inl ⟨by rfl, ?hy45⟩) (by assumption) ?r45
  case hy45 =>
    intro w hSw
    (try dsimp only at hSw)
    go_simp
    all_goals with_reducible rfl
  (try simp only [Act.put, List.setIfInBounds_toArray, List.set_cons_zero, List.set_cons_succ])
  refine wpAnyH_ready (rs := [46]) (by kernel_rfl) (by simp) ?_
  refine AllReadyH.cons (o := { dst := some 71, op := Op.call { callee := Callee.value (Operand.func 19), args := #[Operand.tmp 70], argTypes := #[24] }, type := 3, pos := "law.go:29", after := #[{ on := 45, ground := Ground.data }, { on := 44, ground := Ground.chain }, { on := 44, ground := Ground.guard }], guard := some (44, true) }) rfl (fun K hK => ?_) AllReadyH.nil
  go_simp
  refine (K2.out _ (SaysS.low (by assumption))).mono ?_
  rintro e W2 ⟨rfl, hb⟩
  go_wp2_with fail
  refine hK.out _ _ ?_ (fun hH14 => ?_)
  · exact SaysS.keep (by assumption) hb
  clear hK K hb hH13
  (try simp only [Act.put, List.setIfInBounds_toArray, List.set_cons_zero, List.set_cons_succ])
  refine wpAnyH_take (i := 47) (oi := { dst := some 72, op := Op.binOp BinOp.neq 3 (Operand.tmp 71) (Operand.const (Value.int IntKind.i64 0)) 3, type := 4, pos := "law.go:29", after := #[{ on := 46, ground := Ground.data }, { on := 44, ground := Ground.guard }], guard := some (44, true) }) (v := ?v47) rfl (by kernel_rfl) (by kernel_rfl) (by kernel_rfl) (fun _ _ _ h => h) (Or.inl ⟨by rfl, ?hy47⟩) (by assumption) ?r47
  case hy47 =>
    intro w hSw
    (try dsimp only at hSw)
    go_simp
    all_goals with_reducible rfl
  (try simp only [Act.put, List.setIfInBounds_toArray, List.set_cons_zero, List.set_cons_succ])
  refine wpAnyH_take (i := 48) (oi := { dst := some 73, op := Op.move (Operand.tmp 72), type := 4, pos := "law.go:29", after := #[{ on := 47, ground := Ground.data }, { on := 46, ground := Ground.chain }, { on := 44, ground := Ground.guard }], guard := some (44, true) }) (v := ?v48) rfl (by kernel_rfl) (by kernel_rfl) (by kernel_rfl) (fun _ _ _ h => h) (Or.inl ⟨by rfl, ?hy48⟩) (by assumption) ?r48
  case hy48 =>
    intro w hSw
    (try dsimp only at hSw)
    go_simp
    all_goals with_reducible rfl
  (try simp only [Act.put, List.setIfInBounds_toArray, List.set_cons_zero, List.set_cons_succ])
  refine wpAnyH_take (i := 49) (oi := { dst := some 74, op := Op.load 24 (Operand.tmp 2), type := 24, pos := "law.go:29", after := #[{ on := 48, ground := Ground.guard }], guard := some (48, false) }) (v := undef) rfl (by kernel_rfl) (by kernel_rfl) (by kernel_rfl) (fun _ _ _ h => h) (Or.inr ⟨by rfl, rfl⟩) (by assumption) ?_
  (try simp only [Act.put, List.setIfInBounds_toArray, List.set_cons_zero, List.set_cons_succ])
  refine wpAnyH_take (i := 51) (oi := { dst := some 76, op := Op.load 24 (Operand.tmp 2), type := 24, pos := "law.go:29", after := #[{ on := 48, ground := Ground.guard }], guard := some (48, false) }) (v := undef) rfl (by kernel_rfl) (by kernel_rfl) (by kernel_rfl) (fun _ _ _ h => h) (Or.inr ⟨by rfl, rfl⟩) (by assumption) ?_
  (try simp only [Act.put, List.setIfInBounds_toArray, List.set_cons_zero, List.set_cons_succ])
  refine wpAnyH_take (i := 50) (oi := { dst := some 75, op := Op.call { callee := Callee.value (Operand.func 29), args := #[Operand.tmp 74], argTypes := #[24] }, type := 9, pos := "law.go:29", after := #[{ on := 49, ground := Ground.data }, { on := 48, ground := Ground.chain }, { on := 48, ground := Ground.guard }], guard := some (48, false) }) (v := undef) rfl (by kernel_rfl) (by kernel_rfl) (by kernel_rfl) (fun _ _ _ h => h) (Or.inr ⟨by rfl, rfl⟩) (by assumption) ?_
  (try simp only [Act.put, List.setIfInBounds_toArray, List.set_cons_zero, List.set_cons_succ])
  refine wpAnyH_take (i := 52) (oi := { dst := some 77, op := Op.call { callee := Callee.value (Operand.func 30), args := #[Operand.tmp 76], argTypes := #[24] }, type := 9, pos := "law.go:29", after := #[{ on := 51, ground := Ground.data }, { on := 50, ground := Ground.chain }, { on := 48, ground := Ground.guard }], guard := some (48, false) }) (v := undef) rfl (by kernel_rfl) (by kernel_rfl) (by kernel_rfl) (fun _ _ _ h => h) (Or.inr ⟨by rfl, rfl⟩) (by assumption) ?_
  (try simp only [Act.put, List.setIfInBounds_toArray, List.set_cons_zero, List.set_cons_succ])
  refine wpAnyH_take (i := 53) (oi := { dst := some 78, op := Op.binOp BinOp.eql 9 (Operand.tmp 75) (Operand.tmp 77) 9, type := 4, pos := "law.go:29", after := #[{ on := 50, ground := Ground.data }, { on := 52, ground := Ground.data }, { on := 48, ground := Ground.guard }], guard := some (48, false) }) (v := undef) rfl (by kernel_rfl) (by kernel_rfl) (by kernel_rfl) (fun _ _ _ h => h) (Or.inr ⟨by rfl, rfl⟩) (by assumption) ?_
  (try simp only [Act.put, List.setIfInBounds_toArray, List.set_cons_zero, List.set_cons_succ])
  refine wpAnyH_take (i := 54) (oi := { dst := some 79, op := Op.pick (Operand.tmp 73) (Operand.const (Value.bool true)) (Operand.tmp 78), type := 4, pos := "law.go:29", after := #[{ on := 48, ground := Ground.data }, { on := 53, ground := Ground.data }, { on := 44, ground := Ground.guard }], guard := some (44, true) }) (v := ?v54) rfl (by kernel_rfl) (by kernel_rfl) (by kernel_rfl) (fun _ _ _ h => h) (Or.inl ⟨by rfl, ?hy54⟩) (by assumption) ?r54
  case hy54 =>
    intro w hSw
    (try dsimp only at hSw)
    go_simp
    all_goals with_reducible rfl
  (try simp only [Act.put, List.setIfInBounds_toArray, List.set_cons_zero, List.set_cons_succ])
  refine wpAnyH_take (i := 55) (oi := { dst := some 80, op := Op.pick (Operand.tmp 69) (Operand.tmp 79) (Operand.const (Value.bool false)), type := 4, pos := "law.go:29", after := #[{ on := 44, ground := Ground.data }, { on := 54, ground := Ground.data }], guard := none }) (v := ?v55) rfl (by kernel_rfl) (by kernel_rfl) (by kernel_rfl) (fun _ _ _ h => h) (Or.inl ⟨by rfl, ?hy55⟩) (by assumption) ?r55
  case hy55 =>
    intro w hSw
    (try dsimp only at hSw)
    go_simp
    all_goals with_reducible rfl
  (try simp only [Act.put, List.setIfInBounds_toArray, List.set_cons_zero, List.set_cons_succ])
  refine wpAnyH_take (i := 56) (oi := { dst := some 4, op := Op.assign (Operand.tmp 80), type := 4, pos := "law.go:29", after := #[{ on := 55, ground := Ground.data }, { on := 52, ground := Ground.chain }, { on := 0, ground := Ground.phase }, { on := 1, ground := Ground.phase }, { on := 2, ground := Ground.phase }, { on := 3, ground := Ground.phase }, { on := 4, ground := Ground.phase }, { on := 5, ground := Ground.phase }, { on := 6, ground := Ground.phase }, { on := 7, ground := Ground.phase }, { on := 8, ground := Ground.phase }, { on := 9, ground := Ground.phase }, { on := 10, ground := Ground.phase }, { on := 11, ground := Ground.phase }, { on := 12, ground := Ground.phase }, { on := 13, ground := Ground.phase }, { on := 14, ground := Ground.phase }, { on := 15, ground := Ground.phase }, { on := 16, ground := Ground.phase }, { on := 17, ground := Ground.phase }, { on := 18, ground := Ground.phase }, { on := 19, ground := Ground.phase }, { on := 20, ground := Ground.phase }, { on := 21, ground := Ground.phase }, { on := 22, ground := Ground.phase }, { on := 23, ground := Ground.phase }, { on := 24, ground := Ground.phase }, { on := 25, ground := Ground.phase }, { on := 26, ground := Ground.phase }, { on := 27, ground := Ground.phase }, { on := 28, ground := Ground.phase }, { on := 29, ground := Ground.phase }, { on := 30, ground := Ground.phase }, { on := 31, ground := Ground.phase }, { on := 32, ground := Ground.phase }, { on := 33, ground := Ground.phase }, { on := 34, ground := Ground.phase }, { on := 35, ground := Ground.phase }, { on := 36, ground := Ground.phase }, { on := 37, ground := Ground.phase }, { on := 38, ground := Ground.phase }, { on := 39, ground := Ground.phase }, { on := 40, ground := Ground.phase }, { on := 41, ground := Ground.phase }, { on := 42, ground := Ground.phase }, { on := 43, ground := Ground.phase }, { on := 44, ground := Ground.phase }, { on := 45, ground := Ground.phase }, { on := 46, ground := Ground.phase }, { on := 47, ground := Ground.phase }, { on := 48, ground := Ground.phase }, { on := 49, ground := Ground.phase }, { on := 50, ground := Ground.phase }, { on := 51, ground := Ground.phase }, { on := 52, ground := Ground.phase }, { on := 53, ground := Ground.phase }, { on := 54, ground := Ground.phase }, { on := 55, ground := Ground.phase }], guard := none }) (v := ?v56) rfl (by kernel_rfl) (by kernel_rfl) (by kernel_rfl) (fun _ _ _ h => h) (Or.inl ⟨by rfl, ?hy56⟩) (by assumption) ?r56
  case hy56 =>
    intro w hSw
    (try dsimp only at hSw)
    go_simp
    all_goals with_reducible rfl
  (try simp only [Act.put, List.setIfInBounds_toArray, List.set_cons_zero, List.set_cons_succ])
  refine wpAnyH_done (by kernel_rfl) ?_ _
  all_goals
    go_wp2_with fail
    go_ret
    refine ⟨rfl, ?_⟩
    exact HKB.out _ (SaysS.low (by assumption))
end Go.Proofs.YtnbjcdmiehnceaaDoor
