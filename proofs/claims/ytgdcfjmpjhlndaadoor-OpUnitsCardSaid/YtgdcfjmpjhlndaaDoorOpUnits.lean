/-
  The law OpUnits, walked. By an AI agent. No person has read it.
-/
import Derived.Test.YtgdcfjmpjhlndaaDoorOpF
namespace Go.Proofs.YtgdcfjmpjhlndaaDoor
open Go.RowKit

theorem number_u (x : Int) (m : Nat) (h0 : 0 < m) (hm : m ≤ 4611686018427387904) (M : Int) (hM : M = (m : Int)) : ∃ k : Int, 0 ≤ k ∧ k < m ∧ Hid (∀ w, Calls Tryd.prog 36 #[.int .i64 x, .int .i64 M] w fun e w' => e = .returned (.int .i64 k) ∧ w' = w) :=
  ⟨x % M, by rw [hM]; exact Int.emod_nonneg _ (by omega), by rw [hM]; exact Int.emod_lt_of_pos _ (by omega), hide fun w => number_e x m h0 hm M hM w⟩
theorem Dsc.all_one {p : Dsc → Prop} {a : Dsc} (h : p a) : ∀ d ∈ [a], p d := fun d hd => by rw [List.mem_singleton.1 hd]; exact h
theorem Dsc.all_two {p : Dsc → Prop} {a b : Dsc} (h : p a) (h2 : p b) : ∀ d ∈ [a, b], p d := fun d hd => by
  simp only [List.mem_cons, List.not_mem_nil, or_false] at hd
  rcases hd with rfl | rfl
  · exact h
  · exact h2
set_option maxRecDepth 100000 in
set_option maxHeartbeats 16000000 in
theorem opunits_c (m0 k0 n0 : Int) (ah am ar ak : Addr) (w : World) (hE : E4 w ah am ar ak) (hKz : Kz w) :
    Calls Tryd.prog 7 #[.int .i64 m0, .int .i64 k0, .int .i64 n0] w fun e w' => e = .returned (.bool true) ∧ Below w.heap.size w w' := by
  have HF := hide (first12_c ah am ar ak w hE hKz)
  have HE := hide (fun W (hb : Below w.heap.size w W) => hE.below hb)
  have HK := hide (fun W (hb : Below w.heap.size w W) => hKz.below hb)
  obtain ⟨km, hkm0, hkm1, NM⟩ := number_u m0 20 (by decide) (by decide) 20 rfl
  obtain ⟨M, hM⟩ : ∃ x, Hid (km.toNat + 1 = x) := ⟨_, hide rfl⟩
  have EM : Hid (wrap64 (km + 1) = (M : Int)) := hide (by rw [← hM.out]; unfold wrap64; omega)
  have BM : Hid (1 ≤ M ∧ M ≤ 20) := hide (by rw [← hM.out]; omega)
  obtain ⟨kk, hkk0, hkk1, NK⟩ := number_u k0 20 (by decide) (by decide) 20 rfl
  obtain ⟨K, hK⟩ : ∃ x, Hid (kk.toNat + 1 = x) := ⟨_, hide rfl⟩
  have EK : Hid (wrap64 (kk + 1) = (K : Int)) := hide (by rw [← hK.out]; unfold wrap64; omega)
  have BK : Hid (1 ≤ K ∧ K ≤ 20) := hide (by rw [← hK.out]; omega)
  obtain ⟨kn, hkn0, hkn1, NN⟩ := number_u n0 20 (by decide) (by decide) 20 rfl
  obtain ⟨N, hN⟩ : ∃ x, Hid (kn.toNat + 1 = x) := ⟨_, hide rfl⟩
  have EN : Hid (wrap64 (kn + 1) = (N : Int)) := hide (by rw [← hN.out]; unfold wrap64; omega)
  have BN : Hid (1 ≤ N ∧ N ≤ 20) := hide (by rw [← hN.out]; omega)
  obtain ⟨P, hP⟩ : ∃ x, Hid (min M 9 = x) := ⟨_, hide rfl⟩
  obtain ⟨Q, hQ⟩ : ∃ x, Hid (min K 9 = x) := ⟨_, hide rfl⟩
  obtain ⟨S, hS⟩ : ∃ x, Hid (min M 16 = x) := ⟨_, hide rfl⟩
  have BP : Hid (1 ≤ P ∧ P ≤ 9) := hide (by have := hP.out; have := BM.out; omega)
  have BQ : Hid (1 ≤ Q ∧ Q ≤ 9) := hide (by have := hQ.out; have := BK.out; omega)
  have BS : Hid (1 ≤ S ∧ S ≤ 16) := hide (by have := hS.out; have := BM.out; omega)
  obtain ⟨pq, hpq⟩ : ∃ x, Hid (P * Q = x) := ⟨_, hide rfl⟩
  obtain ⟨pn, hpn⟩ : ∃ x, Hid (P * Q * N = x) := ⟨_, hide rfl⟩
  obtain ⟨ss, hss⟩ : ∃ x, Hid (S * S = x) := ⟨_, hide rfl⟩
  clear hE hKz hkm0 hkm1 hkk0 hkk1 hkn0 hkn1
  go_enter Tryd.func7, Tryd.ntmps7
  go_wp2_with fail
  refine HF.out.mono ?_
  rintro e w1 ⟨rfl, hb⟩
  have HB := hide hb
  clear hb HF
  go_wp2_with fail
  refine (NM.out _).mono ?_
  rintro e wq ⟨rfl, hw⟩
  have hw := hw.symm
  subst hw
  have oM := EM.out
  go_wp2_with fail
  rw [oM]
  clear oM
  refine (NK.out _).mono ?_
  rintro e wq ⟨rfl, hw⟩
  have hw := hw.symm
  subst hw
  have oK := EK.out
  go_wp2_with fail
  rw [oK]
  clear oK
  refine (NN.out _).mono ?_
  rintro e wq ⟨rfl, hw⟩
  have hw := hw.symm
  subst hw
  have oN := EN.out
  obtain ⟨w2, hw2⟩ : ∃ W, W = w1.alloc (.cells #[.int .i64 M, .int .i64 K] 3) := ⟨_, rfl⟩
  have hbA : Below w1.heap.size w1 w2 := by rw [hw2]; exact (Below.refl _ _).alloc (Nat.le_refl _) _
  have XA : Hid (Has w2 w1.heap.size 3 [.int .i64 M, .int .i64 K]) := hide (by rw [hw2]; exact Has.new _ _ _)
  replace HB := hide (HB.out.trans (hbA.mono HB.out.size))
  have Hw2 := hide hw2
  clear hw2 hbA
  obtain ⟨w3, hw3⟩ : ∃ W, W = w2.alloc (.cells #[.slice (some ⟨w1.heap.size, 0, none⟩) 2 2, .bool false] 24) := ⟨_, rfl⟩
  have hbA : Below w2.heap.size w2 w3 := by rw [hw3]; exact (Below.refl _ _).alloc (Nat.le_refl _) _
  have DA : Hid (Has w3 (w1.heap.size + 1) 24 [.slice (some ⟨w1.heap.size, 0, none⟩) 2 2, .bool false]) := hide (by rw [hw3]; exact box_at _ _ _ _ (by rw [Hw2.out]; simp))
  replace HB := hide (HB.out.trans (hbA.mono HB.out.size))
  replace XA := hide (XA.out.below hbA XA.out.lt)
  have Hw3 := hide hw3
  clear hw3 hbA
  obtain ⟨w4, hw4⟩ : ∃ W, W = w3.alloc (.cells #[.int .i64 K, .int .i64 N] 3) := ⟨_, rfl⟩
  have hbA : Below w3.heap.size w3 w4 := by rw [hw4]; exact (Below.refl _ _).alloc (Nat.le_refl _) _
  have XB : Hid (Has w4 (w1.heap.size + 2) 3 [.int .i64 K, .int .i64 N]) := hide (by rw [hw4]; exact box_at _ _ _ _ (by rw [Hw3.out, Hw2.out]; simp))
  replace HB := hide (HB.out.trans (hbA.mono HB.out.size))
  replace XA := hide (XA.out.below hbA XA.out.lt)
  replace DA := hide (DA.out.below hbA DA.out.lt)
  have Hw4 := hide hw4
  clear hw4 hbA
  obtain ⟨w5, hw5⟩ : ∃ W, W = w4.alloc (.cells #[.slice (some ⟨w1.heap.size + 2, 0, none⟩) 2 2, .bool false] 24) := ⟨_, rfl⟩
  have hbA : Below w4.heap.size w4 w5 := by rw [hw5]; exact (Below.refl _ _).alloc (Nat.le_refl _) _
  have DB : Hid (Has w5 (w1.heap.size + 3) 24 [.slice (some ⟨w1.heap.size + 2, 0, none⟩) 2 2, .bool false]) := hide (by rw [hw5]; exact box_at _ _ _ _ (by rw [Hw4.out, Hw3.out, Hw2.out]; simp))
  replace HB := hide (HB.out.trans (hbA.mono HB.out.size))
  replace XA := hide (XA.out.below hbA XA.out.lt)
  replace DA := hide (DA.out.below hbA DA.out.lt)
  replace XB := hide (XB.out.below hbA XB.out.lt)
  have Hw5 := hide hw5
  clear hw5 hbA
  obtain ⟨w6, hw6⟩ : ∃ W, W = w5.alloc (.cells #[.int .i64 0, .int .i64 0] 3) := ⟨_, rfl⟩
  have hbA : Below w5.heap.size w5 w6 := by rw [hw6]; exact (Below.refl _ _).alloc (Nat.le_refl _) _
  have XQ : Hid (Has w6 (w1.heap.size + 4) 3 [.int .i64 0, .int .i64 0]) := hide (by rw [hw6]; exact box_at _ _ _ _ (by rw [Hw5.out, Hw4.out, Hw3.out, Hw2.out]; simp))
  replace HB := hide (HB.out.trans (hbA.mono HB.out.size))
  replace XA := hide (XA.out.below hbA XA.out.lt)
  replace DA := hide (DA.out.below hbA DA.out.lt)
  replace XB := hide (XB.out.below hbA XB.out.lt)
  replace DB := hide (DB.out.below hbA DB.out.lt)
  have Hw6 := hide hw6
  clear hw6 hbA
  obtain ⟨w7, hw7⟩ : ∃ W, W = w6.alloc (.cells #[.slice (some ⟨w1.heap.size, 0, none⟩) 2 2, .bool false, .slice (some ⟨w1.heap.size + 2, 0, none⟩) 2 2, .bool false] 24) := ⟨_, rfl⟩
  have hbA : Below w6.heap.size w6 w7 := by rw [hw7]; exact (Below.refl _ _).alloc (Nat.le_refl _) _
  have XR : Hid (Has w7 (w1.heap.size + 5) 24 [.slice (some ⟨w1.heap.size, 0, none⟩) 2 2, .bool false, .slice (some ⟨w1.heap.size + 2, 0, none⟩) 2 2, .bool false]) := hide (by rw [hw7]; exact box_at _ _ _ _ (by rw [Hw6.out, Hw5.out, Hw4.out, Hw3.out, Hw2.out]; simp))
  replace HB := hide (HB.out.trans (hbA.mono HB.out.size))
  replace XA := hide (XA.out.below hbA XA.out.lt)
  replace DA := hide (DA.out.below hbA DA.out.lt)
  replace XB := hide (XB.out.below hbA XB.out.lt)
  replace DB := hide (DB.out.below hbA DB.out.lt)
  replace XQ := hide (XQ.out.below hbA XQ.out.lt)
  have Hw7 := hide hw7
  clear hw7 hbA
  go_wp2_with fail
  rw [oN]
  clear oN
  rw [← Hw2.out]
  rw [← Hw3.out]
  rw [← Hw4.out]
  rw [← Hw5.out]
  rw [← Hw6.out]
  rw [← Hw7.out]
  clear Hw2 Hw3 Hw4 Hw5 Hw6 Hw7
  refine (opunit_good 12 [0, 0] [⟨some ⟨w1.heap.size, 0, none⟩, [(M : Int), (K : Int)], 2, false⟩, ⟨some ⟨w1.heap.size + 2, 0, none⟩, [(K : Int), (N : Int)], 2, false⟩] (some ⟨w1.heap.size + 4, 0, none⟩) (some ⟨w1.heap.size + 5, 0, none⟩) 2 2 2 2 (K : Int) ah am ar ak w7 (XQ.out.ri (zs := [0, 0]) (by decide)) (by simp) XR.out.row (Dsc.all_two ⟨XA.out.ri (zs := [(M : Int), (K : Int)]) (by intro q hq; have hM := BM.out; have hK := BK.out; simp only [List.mem_cons, List.not_mem_nil, or_false] at hq; rcases hq with rfl | rfl <;> exact wf_i64 _ (by omega)), by simp⟩ ⟨XB.out.ri (zs := [(K : Int), (N : Int)]) (by intro q hq; have hK := BK.out; have hN := BN.out; simp only [List.mem_cons, List.not_mem_nil, or_false] at hq; rcases hq with rfl | rfl <;> exact wf_i64 _ (by omega)), by simp⟩) (by simp) (HE.out _ HB.out) (HK.out _ HB.out) (Dsc.all_two (p := fun d => d.zs.length ≤ d.cap) (Nat.le_refl _) (Nat.le_refl _)) (Op.mat_ok _ _ M K N BM.out BK.out BN.out).1 (Op.mat_ok _ _ M K N BM.out BK.out BN.out).2 rfl rfl).mono ?_
  rintro e w8 ⟨rfl, hb⟩
  replace HB := hide (HB.out.trans (hb.mono HB.out.size))
  replace XA := hide (XA.out.below hb XA.out.lt)
  replace DA := hide (DA.out.below hb DA.out.lt)
  replace XB := hide (XB.out.below hb XB.out.lt)
  replace DB := hide (DB.out.below hb DB.out.lt)
  replace XQ := hide (XQ.out.below hb XQ.out.lt)
  replace XR := hide (XR.out.below hb XR.out.lt)
  clear hb
  clear XB DB XQ XR
  have mp1 : (if (M : Int) < 9 then (M : Int) else 9) = (P : Int) := by have := hP.out; split <;> omega
  have mp2 : (if (9 : Int) < (M : Int) then 9 else (M : Int)) = (P : Int) := by have := hP.out; split <;> omega
  have mq1 : (if (K : Int) < 9 then (K : Int) else 9) = (Q : Int) := by have := hQ.out; split <;> omega
  have mq2 : (if (9 : Int) < (K : Int) then 9 else (K : Int)) = (Q : Int) := by have := hQ.out; split <;> omega
  obtain ⟨w9, hw9⟩ : ∃ W, W = w8.alloc (.cells #[.int .i64 20, .int .i64 20, .int .i64 N] 3) := ⟨_, rfl⟩
  have hbA : Below w8.heap.size w8 w9 := by rw [hw9]; exact (Below.refl _ _).alloc (Nat.le_refl _) _
  have XC : Hid (Has w9 w8.heap.size 3 [.int .i64 20, .int .i64 20, .int .i64 N]) := hide (by rw [hw9]; exact Has.new _ _ _)
  replace HB := hide (HB.out.trans (hbA.mono HB.out.size))
  replace XA := hide (XA.out.below hbA XA.out.lt)
  replace DA := hide (DA.out.below hbA DA.out.lt)
  have Hw9 := hide hw9
  clear hw9 hbA
  obtain ⟨w10, hw10⟩ : ∃ W, W = w9.alloc (.cells #[.slice (some ⟨w8.heap.size, 0, none⟩) 3 3, .bool false] 24) := ⟨_, rfl⟩
  have hbA : Below w9.heap.size w9 w10 := by rw [hw10]; exact (Below.refl _ _).alloc (Nat.le_refl _) _
  have DC : Hid (Has w10 (w8.heap.size + 1) 24 [.slice (some ⟨w8.heap.size, 0, none⟩) 3 3, .bool false]) := hide (by rw [hw10]; exact box_at _ _ _ _ (by rw [Hw9.out]; simp))
  replace HB := hide (HB.out.trans (hbA.mono HB.out.size))
  replace XA := hide (XA.out.below hbA XA.out.lt)
  replace DA := hide (DA.out.below hbA DA.out.lt)
  replace XC := hide (XC.out.below hbA XC.out.lt)
  have Hw10 := hide hw10
  clear hw10 hbA
  obtain ⟨w11, hw11⟩ : ∃ W, W = w10.alloc (.cells #[.int .i64 P, .int .i64 Q, .int .i64 N, .int .i64 1] 3) := ⟨_, rfl⟩
  have hbA : Below w10.heap.size w10 w11 := by rw [hw11]; exact (Below.refl _ _).alloc (Nat.le_refl _) _
  have XD : Hid (Has w11 (w8.heap.size + 2) 3 [.int .i64 P, .int .i64 Q, .int .i64 N, .int .i64 1]) := hide (by rw [hw11]; exact box_at _ _ _ _ (by rw [Hw10.out, Hw9.out]; simp))
  replace HB := hide (HB.out.trans (hbA.mono HB.out.size))
  replace XA := hide (XA.out.below hbA XA.out.lt)
  replace DA := hide (DA.out.below hbA DA.out.lt)
  replace XC := hide (XC.out.below hbA XC.out.lt)
  replace DC := hide (DC.out.below hbA DC.out.lt)
  have Hw11 := hide hw11
  clear hw11 hbA
  obtain ⟨w12, hw12⟩ : ∃ W, W = w11.alloc (.cells #[.slice (some ⟨w8.heap.size + 2, 0, none⟩) 4 4, .bool false] 24) := ⟨_, rfl⟩
  have hbA : Below w11.heap.size w11 w12 := by rw [hw12]; exact (Below.refl _ _).alloc (Nat.le_refl _) _
  have DD : Hid (Has w12 (w8.heap.size + 3) 24 [.slice (some ⟨w8.heap.size + 2, 0, none⟩) 4 4, .bool false]) := hide (by rw [hw12]; exact box_at _ _ _ _ (by rw [Hw11.out, Hw10.out, Hw9.out]; simp))
  replace HB := hide (HB.out.trans (hbA.mono HB.out.size))
  replace XA := hide (XA.out.below hbA XA.out.lt)
  replace DA := hide (DA.out.below hbA DA.out.lt)
  replace XC := hide (XC.out.below hbA XC.out.lt)
  replace DC := hide (DC.out.below hbA DC.out.lt)
  replace XD := hide (XD.out.below hbA XD.out.lt)
  have Hw12 := hide hw12
  clear hw12 hbA
  obtain ⟨w13, hw13⟩ : ∃ W, W = w12.alloc (.cells #[.int .i64 1, .int .i64 0, .int .i64 0] 3) := ⟨_, rfl⟩
  have hbA : Below w12.heap.size w12 w13 := by rw [hw13]; exact (Below.refl _ _).alloc (Nat.le_refl _) _
  have XQ : Hid (Has w13 (w8.heap.size + 4) 3 [.int .i64 1, .int .i64 0, .int .i64 0]) := hide (by rw [hw13]; exact box_at _ _ _ _ (by rw [Hw12.out, Hw11.out, Hw10.out, Hw9.out]; simp))
  replace HB := hide (HB.out.trans (hbA.mono HB.out.size))
  replace XA := hide (XA.out.below hbA XA.out.lt)
  replace DA := hide (DA.out.below hbA DA.out.lt)
  replace XC := hide (XC.out.below hbA XC.out.lt)
  replace DC := hide (DC.out.below hbA DC.out.lt)
  replace XD := hide (XD.out.below hbA XD.out.lt)
  replace DD := hide (DD.out.below hbA DD.out.lt)
  have Hw13 := hide hw13
  clear hw13 hbA
  obtain ⟨w14, hw14⟩ : ∃ W, W = w13.alloc (.cells #[.slice (some ⟨w8.heap.size, 0, none⟩) 3 3, .bool false, .slice (some ⟨w8.heap.size + 2, 0, none⟩) 4 4, .bool false] 24) := ⟨_, rfl⟩
  have hbA : Below w13.heap.size w13 w14 := by rw [hw14]; exact (Below.refl _ _).alloc (Nat.le_refl _) _
  have XR : Hid (Has w14 (w8.heap.size + 5) 24 [.slice (some ⟨w8.heap.size, 0, none⟩) 3 3, .bool false, .slice (some ⟨w8.heap.size + 2, 0, none⟩) 4 4, .bool false]) := hide (by rw [hw14]; exact box_at _ _ _ _ (by rw [Hw13.out, Hw12.out, Hw11.out, Hw10.out, Hw9.out]; simp))
  replace HB := hide (HB.out.trans (hbA.mono HB.out.size))
  replace XA := hide (XA.out.below hbA XA.out.lt)
  replace DA := hide (DA.out.below hbA DA.out.lt)
  replace XC := hide (XC.out.below hbA XC.out.lt)
  replace DC := hide (DC.out.below hbA DC.out.lt)
  replace XD := hide (XD.out.below hbA XD.out.lt)
  replace DD := hide (DD.out.below hbA DD.out.lt)
  replace XQ := hide (XQ.out.below hbA XQ.out.lt)
  have Hw14 := hide hw14
  clear hw14 hbA
  go_wp2_with fail
  rw [← Hw9.out]
  rw [← Hw10.out]
  rw [← Hw11.out]
  rw [← Hw12.out]
  rw [← Hw13.out]
  rw [← Hw14.out]
  clear Hw9 Hw10 Hw11 Hw12 Hw13 Hw14
  clear mp1 mp2 mq1 mq2
  refine (opunit_good 13 [1, 0, 0] [⟨some ⟨w8.heap.size, 0, none⟩, [20, 20, (N : Int)], 3, false⟩, ⟨some ⟨w8.heap.size + 2, 0, none⟩, [(P : Int), (Q : Int), (N : Int), 1], 4, false⟩] (some ⟨w8.heap.size + 4, 0, none⟩) (some ⟨w8.heap.size + 5, 0, none⟩) 3 2 3 2 (pn : Int) ah am ar ak w14 (XQ.out.ri (zs := [1, 0, 0]) (by decide)) (by simp) XR.out.row (Dsc.all_two ⟨XC.out.ri (zs := [20, 20, (N : Int)]) (by intro q hq; have hN := BN.out; simp only [List.mem_cons, List.not_mem_nil, or_false] at hq; rcases hq with rfl | rfl | rfl <;> exact wf_i64 _ (by omega)), by simp⟩ ⟨XD.out.ri (zs := [(P : Int), (Q : Int), (N : Int), 1]) (by intro q hq; have hP := BP.out; have hQ := BQ.out; have hN := BN.out; simp only [List.mem_cons, List.not_mem_nil, or_false] at hq; rcases hq with rfl | rfl | rfl | rfl <;> exact wf_i64 _ (by omega)), by simp⟩) (by simp) (HE.out _ HB.out) (HK.out _ HB.out) (Dsc.all_two (p := fun d => d.zs.length ≤ d.cap) (Nat.le_refl _) (Nat.le_refl _)) (Op.conv_ok _ _ P Q N BP.out BQ.out BN.out).1 ((Op.conv_ok _ _ P Q N BP.out BQ.out BN.out).2.trans (congrArg (fun x : Nat => (x : Int)) hpn.out)) rfl rfl).mono ?_
  rintro e w15 ⟨rfl, hb⟩
  replace HB := hide (HB.out.trans (hb.mono HB.out.size))
  replace XA := hide (XA.out.below hb XA.out.lt)
  replace DA := hide (DA.out.below hb DA.out.lt)
  replace XC := hide (XC.out.below hb XC.out.lt)
  replace DC := hide (DC.out.below hb DC.out.lt)
  replace XD := hide (XD.out.below hb XD.out.lt)
  replace DD := hide (DD.out.below hb DD.out.lt)
  replace XQ := hide (XQ.out.below hb XQ.out.lt)
  replace XR := hide (XR.out.below hb XR.out.lt)
  clear hb
  clear XD DD XQ XR
  have ms1 : (if (M : Int) < 16 then (M : Int) else 16) = (S : Int) := by have := hS.out; split <;> omega
  have ms2 : (if (16 : Int) < (M : Int) then 16 else (M : Int)) = (S : Int) := by have := hS.out; split <;> omega
  have c_DC0 := DC.out.cell 0
  have c_DC1 := DC.out.cell 1
  have l_DC := DC.out.lt
  obtain ⟨w16, hw16⟩ : ∃ W, W = w15.alloc (.cells #[.int .i64 S, .int .i64 1] 3) := ⟨_, rfl⟩
  have hbA : Below w15.heap.size w15 w16 := by rw [hw16]; exact (Below.refl _ _).alloc (Nat.le_refl _) _
  have XQ : Hid (Has w16 w15.heap.size 3 [.int .i64 S, .int .i64 1]) := hide (by rw [hw16]; exact Has.new _ _ _)
  replace HB := hide (HB.out.trans (hbA.mono HB.out.size))
  replace XA := hide (XA.out.below hbA XA.out.lt)
  replace DA := hide (DA.out.below hbA DA.out.lt)
  replace XC := hide (XC.out.below hbA XC.out.lt)
  replace DC := hide (DC.out.below hbA DC.out.lt)
  have Hw16 := hide hw16
  clear hw16 hbA
  obtain ⟨w17, hw17⟩ : ∃ W, W = w16.alloc (.cells #[.slice (some ⟨w8.heap.size, 0, none⟩) 3 3, .bool false] 24) := ⟨_, rfl⟩
  have hbA : Below w16.heap.size w16 w17 := by rw [hw17]; exact (Below.refl _ _).alloc (Nat.le_refl _) _
  have XR : Hid (Has w17 (w15.heap.size + 1) 24 [.slice (some ⟨w8.heap.size, 0, none⟩) 3 3, .bool false]) := hide (by rw [hw17]; exact box_at _ _ _ _ (by rw [Hw16.out]; simp))
  replace HB := hide (HB.out.trans (hbA.mono HB.out.size))
  replace XA := hide (XA.out.below hbA XA.out.lt)
  replace DA := hide (DA.out.below hbA DA.out.lt)
  replace XC := hide (XC.out.below hbA XC.out.lt)
  replace DC := hide (DC.out.below hbA DC.out.lt)
  replace XQ := hide (XQ.out.below hbA XQ.out.lt)
  have Hw17 := hide hw17
  clear hw17 hbA
  go_wp2_with fail
  rw [← Hw16.out]
  rw [← Hw17.out]
  clear Hw16 Hw17 c_DC0 c_DC1 l_DC
  clear ms1 ms2
  refine (opunit_good 14 [(S : Int), 1] [⟨some ⟨w8.heap.size, 0, none⟩, [20, 20, (N : Int)], 3, false⟩] (some ⟨w15.heap.size, 0, none⟩) (some ⟨w15.heap.size + 1, 0, none⟩) 2 1 2 1 (ss : Int) ah am ar ak w17 (XQ.out.ri (zs := [(S : Int), 1]) (by intro q hq; have hS := BS.out; simp only [List.mem_cons, List.not_mem_nil, or_false] at hq; rcases hq with rfl | rfl <;> exact wf_i64 _ (by omega))) (by simp) XR.out.row (Dsc.all_one ⟨XC.out.ri (zs := [20, 20, (N : Int)]) (by intro q hq; have hN := BN.out; simp only [List.mem_cons, List.not_mem_nil, or_false] at hq; rcases hq with rfl | rfl | rfl <;> exact wf_i64 _ (by omega)), by simp⟩) (by simp) (HE.out _ HB.out) (HK.out _ HB.out) (Dsc.all_one (p := fun d => d.zs.length ≤ d.cap) (Nat.le_refl _)) (Op.pool_ok _ S N BS.out BN.out).1 ((Op.pool_ok _ S N BS.out BN.out).2.trans (congrArg (fun x : Nat => (x : Int)) hss.out)) rfl rfl).mono ?_
  rintro e w18 ⟨rfl, hb⟩
  replace HB := hide (HB.out.trans (hb.mono HB.out.size))
  replace XA := hide (XA.out.below hb XA.out.lt)
  replace DA := hide (DA.out.below hb DA.out.lt)
  replace XC := hide (XC.out.below hb XC.out.lt)
  replace DC := hide (DC.out.below hb DC.out.lt)
  replace XQ := hide (XQ.out.below hb XQ.out.lt)
  replace XR := hide (XR.out.below hb XR.out.lt)
  clear hb
  clear XC DC XQ XR
  have c_DA0 := DA.out.cell 0
  have c_DA1 := DA.out.cell 1
  have l_DA := DA.out.lt
  obtain ⟨w19, hw19⟩ : ∃ W, W = w18.alloc (.cells #[.slice (some ⟨w1.heap.size, 0, none⟩) 2 2, .bool false] 24) := ⟨_, rfl⟩
  have hbA : Below w18.heap.size w18 w19 := by rw [hw19]; exact (Below.refl _ _).alloc (Nat.le_refl _) _
  have XR : Hid (Has w19 w18.heap.size 24 [.slice (some ⟨w1.heap.size, 0, none⟩) 2 2, .bool false]) := hide (by rw [hw19]; exact Has.new _ _ _)
  replace HB := hide (HB.out.trans (hbA.mono HB.out.size))
  replace XA := hide (XA.out.below hbA XA.out.lt)
  replace DA := hide (DA.out.below hbA DA.out.lt)
  have Hw19 := hide hw19
  clear hw19 hbA
  go_wp2_with fail
  rw [← Hw19.out]
  clear Hw19 c_DA0 c_DA1 l_DA
  refine (opunit_good 20 [] [⟨some ⟨w1.heap.size, 0, none⟩, [(M : Int), (K : Int)], 2, false⟩] none (some ⟨w18.heap.size, 0, none⟩) 0 1 0 1 (K : Int) ah am ar ak w19 (Ri.nil _ _) (by simp) XR.out.row (Dsc.all_one ⟨XA.out.ri (zs := [(M : Int), (K : Int)]) (by intro q hq; have hM := BM.out; have hK := BK.out; simp only [List.mem_cons, List.not_mem_nil, or_false] at hq; rcases hq with rfl | rfl <;> exact wf_i64 _ (by omega)), by simp⟩) (by simp) (HE.out _ HB.out) (HK.out _ HB.out) (Dsc.all_one (p := fun d => d.zs.length ≤ d.cap) (Nat.le_refl _)) (Op.sum_ok _ M K BM.out BK.out).1 (Op.sum_ok _ M K BM.out BK.out).2 rfl rfl).mono ?_
  rintro e w20 ⟨rfl, hb⟩
  replace HB := hide (HB.out.trans (hb.mono HB.out.size))
  replace XA := hide (XA.out.below hb XA.out.lt)
  replace DA := hide (DA.out.below hb DA.out.lt)
  replace XR := hide (XR.out.below hb XR.out.lt)
  clear hb
  clear XR
  have c_DA0 := DA.out.cell 0
  have c_DA1 := DA.out.cell 1
  have l_DA := DA.out.lt
  obtain ⟨w21, hw21⟩ : ∃ W, W = w20.alloc (.cells #[.slice (some ⟨w1.heap.size, 0, none⟩) 2 2, .bool false, .slice (some ⟨w1.heap.size, 0, none⟩) 2 2, .bool false] 24) := ⟨_, rfl⟩
  have hbA : Below w20.heap.size w20 w21 := by rw [hw21]; exact (Below.refl _ _).alloc (Nat.le_refl _) _
  have XR : Hid (Has w21 w20.heap.size 24 [.slice (some ⟨w1.heap.size, 0, none⟩) 2 2, .bool false, .slice (some ⟨w1.heap.size, 0, none⟩) 2 2, .bool false]) := hide (by rw [hw21]; exact Has.new _ _ _)
  replace HB := hide (HB.out.trans (hbA.mono HB.out.size))
  replace XA := hide (XA.out.below hbA XA.out.lt)
  replace DA := hide (DA.out.below hbA DA.out.lt)
  have Hw21 := hide hw21
  clear hw21 hbA
  go_wp2_with fail
  rw [← Hw21.out]
  clear Hw21 c_DA0 c_DA1 l_DA
  refine (opunit_good 4 [] [⟨some ⟨w1.heap.size, 0, none⟩, [(M : Int), (K : Int)], 2, false⟩, ⟨some ⟨w1.heap.size, 0, none⟩, [(M : Int), (K : Int)], 2, false⟩] none (some ⟨w20.heap.size, 0, none⟩) 0 2 0 2 1 ah am ar ak w21 (Ri.nil _ _) (by simp) XR.out.row (Dsc.all_two ⟨XA.out.ri (zs := [(M : Int), (K : Int)]) (by intro q hq; have hM := BM.out; have hK := BK.out; simp only [List.mem_cons, List.not_mem_nil, or_false] at hq; rcases hq with rfl | rfl <;> exact wf_i64 _ (by omega)), by simp⟩ ⟨XA.out.ri (zs := [(M : Int), (K : Int)]) (by intro q hq; have hM := BM.out; have hK := BK.out; simp only [List.mem_cons, List.not_mem_nil, or_false] at hq; rcases hq with rfl | rfl <;> exact wf_i64 _ (by omega)), by simp⟩) (by simp) (HE.out _ HB.out) (HK.out _ HB.out) (Dsc.all_two (p := fun d => d.zs.length ≤ d.cap) (Nat.le_refl _) (Nat.le_refl _)) (Op.add_ok _ M K BM.out BK.out).1 (Op.add_ok _ M K BM.out BK.out).2 rfl rfl).mono ?_
  rintro e w22 ⟨rfl, hb⟩
  replace HB := hide (HB.out.trans (hb.mono HB.out.size))
  replace XA := hide (XA.out.below hb XA.out.lt)
  replace DA := hide (DA.out.below hb DA.out.lt)
  replace XR := hide (XR.out.below hb XR.out.lt)
  clear hb
  clear XR XA DA
  obtain ⟨w23, hw23⟩ : ∃ W, W = w22.alloc (.cells #[.int .i64 1, .int .i64 1, .int .i64 1] 3) := ⟨_, rfl⟩
  have hbA : Below w22.heap.size w22 w23 := by rw [hw23]; exact (Below.refl _ _).alloc (Nat.le_refl _) _
  have XQ : Hid (Has w23 w22.heap.size 3 [.int .i64 1, .int .i64 1, .int .i64 1]) := hide (by rw [hw23]; exact Has.new _ _ _)
  replace HB := hide (HB.out.trans (hbA.mono HB.out.size))
  have Hw23 := hide hw23
  clear hw23 hbA
  obtain ⟨w24, hw24⟩ : ∃ W, W = w23.alloc (.cells #[.int .i64 M] 3) := ⟨_, rfl⟩
  have hbA : Below w23.heap.size w23 w24 := by rw [hw24]; exact (Below.refl _ _).alloc (Nat.le_refl _) _
  have XE : Hid (Has w24 (w22.heap.size + 1) 3 [.int .i64 M]) := hide (by rw [hw24]; exact box_at _ _ _ _ (by rw [Hw23.out]; simp))
  replace HB := hide (HB.out.trans (hbA.mono HB.out.size))
  replace XQ := hide (XQ.out.below hbA XQ.out.lt)
  have Hw24 := hide hw24
  clear hw24 hbA
  obtain ⟨w25, hw25⟩ : ∃ W, W = w24.alloc (.cells #[.slice (some ⟨w22.heap.size + 1, 0, none⟩) 1 1, .bool true] 24) := ⟨_, rfl⟩
  have hbA : Below w24.heap.size w24 w25 := by rw [hw25]; exact (Below.refl _ _).alloc (Nat.le_refl _) _
  have XR : Hid (Has w25 (w22.heap.size + 2) 24 [.slice (some ⟨w22.heap.size + 1, 0, none⟩) 1 1, .bool true]) := hide (by rw [hw25]; exact box_at _ _ _ _ (by rw [Hw24.out, Hw23.out]; simp))
  replace HB := hide (HB.out.trans (hbA.mono HB.out.size))
  replace XQ := hide (XQ.out.below hbA XQ.out.lt)
  replace XE := hide (XE.out.below hbA XE.out.lt)
  have Hw25 := hide hw25
  clear hw25 hbA
  go_wp2_with fail
  rw [← Hw23.out]
  rw [← Hw24.out]
  rw [← Hw25.out]
  clear Hw23 Hw24 Hw25
  refine (opunit_good 10 [1, 1, 1] [⟨some ⟨w22.heap.size + 1, 0, none⟩, [(M : Int)], 1, true⟩] (some ⟨w22.heap.size, 0, none⟩) (some ⟨w22.heap.size + 2, 0, none⟩) 3 1 3 1 2 ah am ar ak w25 (XQ.out.ri (zs := [1, 1, 1]) (by decide)) (by simp) XR.out.row (Dsc.all_one ⟨XE.out.ri (zs := [(M : Int)]) (by intro q hq; have hM := BM.out; simp only [List.mem_cons, List.not_mem_nil, or_false] at hq; subst hq; exact wf_i64 _ (by omega)), by simp⟩) (by simp) (HE.out _ HB.out) (HK.out _ HB.out) (Dsc.all_one (p := fun d => d.zs.length ≤ d.cap) (Nat.le_refl _)) (Op.requant_ok _ M BM.out).1 (Op.requant_ok _ M BM.out).2 rfl rfl).mono ?_
  rintro e w26 ⟨rfl, hb⟩
  replace HB := hide (HB.out.trans (hb.mono HB.out.size))
  replace XQ := hide (XQ.out.below hb XQ.out.lt)
  replace XE := hide (XE.out.below hb XE.out.lt)
  replace XR := hide (XR.out.below hb XR.out.lt)
  clear hb
  clear XR XE XQ
  have H1 : Hid (wrap64 ((P : Int) * (Q : Int)) = (pq : Int)) := hide (by rw [← Int.natCast_mul, hpq.out]; have h1 := BP.out; have h2 := BQ.out; have h3 := Nat.mul_le_mul h1.2 h2.2; have := hpq.out; unfold wrap64; omega)
  have H2 : Hid (wrap64 ((pq : Int) * (N : Int)) = (pn : Int)) := hide (by rw [← Int.natCast_mul, ← hpq.out, hpn.out]; have h1 := BP.out; have h2 := BQ.out; have h4 := BN.out; have h3 := Nat.mul_le_mul (Nat.mul_le_mul h1.2 h2.2) h4.2; have := hpn.out; unfold wrap64; omega)
  have H3 : Hid (wrap64 ((S : Int) * (S : Int)) = (ss : Int)) := hide (by rw [← Int.natCast_mul, hss.out]; have h1 := BS.out; have h3 := Nat.mul_le_mul h1.2 h1.2; have := hss.out; unfold wrap64; omega)
  have mp1 : (if (M : Int) < 9 then (M : Int) else 9) = (P : Int) := by have := hP.out; split <;> omega
  have mp2 : (if (9 : Int) < (M : Int) then 9 else (M : Int)) = (P : Int) := by have := hP.out; split <;> omega
  have mq1 : (if (K : Int) < 9 then (K : Int) else 9) = (Q : Int) := by have := hQ.out; split <;> omega
  have mq2 : (if (9 : Int) < (K : Int) then 9 else (K : Int)) = (Q : Int) := by have := hQ.out; split <;> omega
  have o1 := H1.out
  have o2 := H2.out
  have o3 := H3.out
  have e1 : ((K : Int) == (K : Int)) = true := by simp
  have e2 : ((pn : Int) == (pn : Int)) = true := by simp
  have e3 : ((ss : Int) == (ss : Int)) = true := by simp
  go_wp2_with fail
  go_ret
  exact ⟨rfl, HB.out⟩
end Go.Proofs.YtgdcfjmpjhlndaaDoor
