/-
  The law PoolGreatest, walked. By an AI agent. No person has read it.
-/
import Derived.Test.YtcgjnjchkachdaaDoorPolT
import Derived.Test.YtcgjnjchkachdaaDoorCelO
namespace Go.Proofs.YtcgjnjchkachdaaDoor
open Go.RowKit

set_option maxRecDepth 100000 in
set_option maxHeartbeats 4000000 in

theorem poolgreatest_c (n x : Int) (l : List Int) (A : Option Addr) (cap : Nat) (ah am ar : Addr) (w : World) (hr : Ri w A l) (hE : E3 w ah am ar) :
    Calls Tryd.prog 6 #[.int .i64 n, .slice A l.length cap, .int .i64 x] w fun e w' => e = .returned (.bool true) ∧ Below w.heap.size w w' := by
  have HF := hide (first10_c ah am ar w hE)
  have HE := hide (fun W (hb : Below w.heap.size w W) => hE.below hb)
  have HL := hide (fun W (hb : Below w.heap.size w W) => hr.below hb)
  obtain ⟨ln, hln⟩ : ∃ n, Hid (l.length = n) := ⟨_, hide rfl⟩
  rw [hln.out]
  clear hr hE
  by_cases hbig : 64 < ln
  case pos =>
    have hb2 : (64 : Int) < ln := by omega
    clear hbig

    go_enter Tryd.func6, Tryd.ntmps6
    go_wp2_with fail
    refine (HF.out).mono ?_
    rintro e w1 ⟨rfl, hb⟩
    have HB := hide hb
    clear hb HF
    go_wp2_with fail
    go_ret
    exact ⟨rfl, HB.out⟩

  case neg =>
  have hb2 : ¬ (64 : Int) < ln := by omega
  by_cases hz : ln = 0
  case pos =>
    have hz0 : ((ln : Int) == 0) = true := by simp; omega
    clear hbig hz
    go_enter Tryd.func6, Tryd.ntmps6
    go_wp2_with fail
    refine (HF.out).mono ?_
    rintro e w1 ⟨rfl, hb⟩
    have HB := hide hb
    clear hb HF
    go_wp2_with fail
    go_ret
    exact ⟨rfl, HB.out⟩
  case neg =>
  have hz0 : ((ln : Int) == 0) = false := by simp; omega
  have Bl : Hid (1 ≤ ln ∧ ln ≤ 64) := hide (by omega)
  clear hbig hz
  obtain ⟨k1, hk0, hk1, NN⟩ := number_n n 8 (by decide) (by decide) 8 rfl
  obtain ⟨k2, hj0, hj1, NX⟩ := number_n x 200 (by decide) (by decide) 200 rfl
  obtain ⟨N, hN⟩ : ∃ M, Hid (k1.toNat + 1 = M) := ⟨_, hide rfl⟩
  have EN : Hid (k1 + 1 = (N : Int)) := hide (by rw [← hN.out]; omega)
  have BN : Hid (1 ≤ N ∧ N ≤ 8) := hide (by rw [← hN.out]; omega)
  obtain ⟨x1, ex1⟩ : ∃ M, Hid (k2 - 100 = M) := ⟨_, hide rfl⟩
  have BX1 : Hid (-100 ≤ x1 ∧ x1 ≤ 99) := hide (by rw [← ex1.out]; omega)
  have HWX : Hid (wrap64 (k2 - 100) = x1) := hide (by rw [← ex1.out]; unfold wrap64; omega)
  clear hj0 hj1 ex1
  obtain ⟨NN2, hNN⟩ : ∃ M, Hid (N * N = M) := ⟨_, hide rfl⟩
  have BNN : Hid (1 ≤ NN2 ∧ NN2 ≤ 64) := hide (by
    have h := BN.out
    rw [← hNN.out]
    exact ⟨Nat.mul_pos h.1 h.1, Nat.mul_le_mul h.2 h.2⟩)
  have Hww : Hid (wrap64 ((N : Int) * (N : Int)) = (NN2 : Int)) := hide (by rw [← Int.natCast_mul, hNN.out]; have := BNN.out; unfold wrap64; omega)
  go_enter Tryd.func6, Tryd.ntmps6
  go_wp2_with fail
  refine (HF.out).mono ?_
  rintro e w1 ⟨rfl, hb⟩
  have HB := hide hb
  clear hb HF
  go_wp2_with fail
  refine (NN.out _).mono ?_
  rintro e wq ⟨rfl, hw⟩
  have hw := hw.symm
  subst hw
  obtain ⟨W, hW⟩ : ∃ W, W = (w1.alloc (.cells #[.int .i64 (k1 + 1), .int .i64 (k1 + 1), .int .i64 1] 3)).alloc (.cells #[.slice (some ⟨w1.heap.size, 0, none⟩) 3 3, .bool false, .slice none 0 0] 26) := ⟨_, rfl⟩
  have hBW : Below w1.heap.size w1 W := by rw [hW]; exact ((Below.refl _ _).alloc (Nat.le_refl _) _).alloc (by simp) _
  have SH : Hid (Has W w1.heap.size 3 (i64s [(N : Int), (N : Int), ((1 : Nat) : Int)])) := hide (by rw [hW, EN.out]; exact (Has.new w1 3 [.int .i64 N, .int .i64 N, .int .i64 1]).alloc _)
  have BX : Hid (Has W (w1.heap.size + 1) 26 [.slice (some ⟨w1.heap.size, 0, none⟩) 3 3, .bool false, .slice none 0 0]) := hide (by rw [hW]; exact box_at _ _ _ _ (by simp))
  have hWs : W.heap.size = w1.heap.size + 2 := by rw [hW]; simp
  have HWS := hide hWs
  have HW1 := hide HB.out.size
  replace HB := hide (HB.out.trans (hBW.mono HB.out.size))
  have HW := hide hW
  clear hW hBW hWs
  go_wp2_with fail
  rw [← HW.out, EN.out]
  clear HW
  go_loopg [9, 10, 11] NN2 (fun gq b k _ wr => ∃ (i : Nat) (ds : List Int) (v : Value) (B : Int), gq + i = NN2 ∧ k = .int .i64 i ∧ b = .int .i64 B ∧ Hid (∀ d ∈ ds, -128 ≤ d ∧ d ≤ 127) ∧ Hid (∀ d ∈ ds, d ≤ B) ∧ Hid (B = -128 ∨ B ∈ ds) ∧ Hid (Has wr (w1.heap.size + 1) 26 [.slice (some ⟨w1.heap.size, 0, none⟩) 3 3, .bool false, v]) ∧ Hid (Has wr w1.heap.size 3 (i64s [(N : Int), (N : Int), ((1 : Nat) : Int)])) ∧ Hid (wr.ownsRow (w1.heap.size + 2) 3 1 v i (i64s ds)) ∧ Hid (Below w.heap.size w wr) ∧ Hid (w1.heap.size + 2 ≤ wr.heap.size))
  case atStart => exact ⟨0, [], _, -128, by omega, rfl, rfl, hide (by simp), hide (by simp), hide (.inl rfl), BX, SH, hide ⟨rfl, .inl ⟨rfl, rfl⟩⟩, HB, hide (by rw [HWS.out]; exact Nat.le_refl _)⟩
  case round =>
    clear BX SH HB HWS
    obtain ⟨i, ds, v, B, hi9, rfl, rfl, HD, HU, HM, BX, SH, HO, HB, HSZ⟩ := hrel
    have hw0 := Hww.out
    by_cases hlt : i < NN2
    case pos =>
      have hii : (i : Int) < (NN2 : Int) := by omega
      have hi0 : (0 : Int) ≤ (i : Int) := by omega
      have hi64 : (i : Int) + 1 ≤ 65 := by have := BNN.out; omega
      obtain ⟨q, hq⟩ : ∃ m, Hid (i % ln = m) := ⟨_, hide rfl⟩
      have hlp : 0 < ln := Bl.out.1
      have hql : q < ln := by rw [← hq.out]; exact Nat.mod_lt _ hlp
      have hln0 : ¬ ((ln : Int) = 0) := by omega
      have Hq1 : Hid ((i : Int) % (ln : Int) = (q : Int)) := hide (by rw [← hq.out]; exact (Int.natCast_emod i ln).symm)
      have hq1 := Hq1.out
      have hq0 : (0 : Int) ≤ (q : Int) := by omega
      have hqn : (q : Int) < (ln : Int) := by omega
      obtain ⟨ad, y, hAD, ey, cy⟩ := ri_at (HL.out _ HB.out) q (by rw [hln.out]; exact hql)
      subst hAD
      obtain ⟨z, hz⟩ : ∃ z, Hid (wrap64 (y + (i : Int)) = z) := ⟨_, hide rfl⟩
      have hz1 := hz.out
      obtain ⟨k, hk0, hk1, NK⟩ := number_n z 256 (by decide) (by decide) 256 rfl
      have HKK := hide (And.intro hk0 hk1)
      clear hk0 hk1
      have c2 : wr.cell? ⟨w1.heap.size + 1, 2, none⟩ = some v := BX.out.cell 2
      clear ey
      go_wp2_with fail
      clear hq1 hz1 cy
      refine (NK.out _).mono ?_
      rintro e wq ⟨rfl, hw⟩
      have hw := hw.symm
      subst hw
      obtain ⟨v1, hv1⟩ : ∃ z, Hid (k - 128 = z) := ⟨_, hide rfl⟩
      have HVB : Hid (-128 ≤ v1 ∧ v1 ≤ 127) := hide (by have := HKK.out; rw [← hv1.out]; omega)
      have hwv : wrap64 (k - 128) = v1 := by have := HKK.out; rw [← hv1.out]; unfold wrap64; omega
      obtain ⟨B2, hB2⟩ : ∃ z, Hid (max B v1 = z) := ⟨_, hide rfl⟩
      have m1 : (if B < v1 then v1 else B) = B2 := by have := hB2.out; split <;> omega
      have m2 : (if v1 < B then B else v1) = B2 := by have := hB2.out; split <;> omega
      have hsl := HSZ.out
      have hown2 := hide (HO.out.alloc (.cells #[.int .i64 v1] 3))
      have hr3 := hide (new_ri wr 3 [v1] (by intro q hq; simp at hq; have := HVB.out; omega))
      have hs3 := hide (show w1.heap.size + 2 ≤ (wr.alloc (.cells #[.int .i64 v1] 3)).heap.size by simp; omega)
      have hn3 := hide (show i + 1 ≤ 1000000000000 by have := BNN.out; omega)
      have xl : w1.heap.size + 1 < wr.heap.size := by omega
      go_wp2_with (at_builtin; refine wpList_append_is rfl (.tmp 69) (.tmp 71) rfl (w1.heap.size + 2) v i (i64s ds) rfl hown2.out (some ⟨wr.heap.size, 0, none⟩) 1 1 [v1] rfl (hide rfl) hr3.out hn3.out hs3.out ?_)
      intro v4 w4 o1 o2 o3
      obtain ⟨Pn, cn, hvn⟩ := own_slice o1
      subst hvn
      have hbx := (BX.out.alloc (.cells #[.int .i64 v1] 3)).grown o2 (own_apart HO.out (by omega))
      have hsh := (SH.out.alloc (.cells #[.int .i64 v1] 3)).grown o2 (own_apart HO.out (by omega))
      have hhb := elm_grown (HB.out.alloc HB.out.size (.cells #[.int .i64 v1] 3)) (own_le hown2.out (by have := HW1.out; omega)) (HB.out.alloc HB.out.size (.cells #[.int .i64 v1] 3)).size o2
      have d2 : w4.cell? ⟨w1.heap.size + 1, 2, none⟩ = some v := hbx.cell 2
      have f2 := hbx.frozen 2
      have H1 := hide o1
      have HBX := hide hbx
      have HSH := hide hsh
      have HHB := hide hhb
      clear o1 o2 o3 hbx hsh hhb m1 m2 hwv c2
      go_wp2_with fail
      go_roundg (NN2 - (i + 1))
      case measure => omega
      case rel =>
        have hbs := HBX.out.set_ 2 (.slice Pn (i + 1) cn)
        refine ⟨i + 1, ds ++ [v1], .slice Pn (i + 1) cn, B2, by omega, by go_num, rfl, hide ?_, hide ?_, hide ?_, hide hbs, hide (HSH.out.far (by simp) _), hide (own_set (by rw [show i64s (ds ++ [v1]) = i64s ds ++ i64s [v1] from List.map_append]; exact H1.out) (by simp) _), hide (HHB.out.setCell (by simp; have := HW1.out; omega) _), hide ?_⟩
        · intro d hd
          rcases List.mem_append.1 hd with hd | hd
          · exact HD.out d hd
          · rw [List.mem_singleton.1 hd]; exact HVB.out
        · intro d hd
          have hm := hB2.out
          rcases List.mem_append.1 hd with hd | hd
          · have := HU.out d hd; omega
          · rw [List.mem_singleton.1 hd]; omega
        · have hm := hB2.out
          rcases HM.out with h | h
          · by_cases g : B ≤ v1
            · exact .inr (List.mem_append.2 (.inr (by simp; omega)))
            · exact .inl (by omega)
          · by_cases g : B ≤ v1
            · exact .inr (List.mem_append.2 (.inr (by simp; omega)))
            · exact .inr (List.mem_append.2 (.inl (by rw [show B2 = B by omega]; exact h)))
        · have := hbs.lt
          omega
    case neg =>
      obtain rfl : NN2 = i := by omega
      have hii : ¬ (NN2 : Int) < (NN2 : Int) := by omega
      obtain ⟨D, dc, rfl, hRD, hlen⟩ := own_ri HO.out (fun d hd => wf_i64 d (by have := HD.out d hd; omega))
      obtain ⟨a, ea⟩ : ∃ a : Ten, Hid (a = ⟨some ⟨w1.heap.size, 0, none⟩, [(N : Int), (N : Int), ((1 : Nat) : Int)], 3, false, D, ds, dc⟩) := ⟨_, hide rfl⟩
      have Ta : Hid (a.In wr) := hide (by rw [ea.out]; exact ⟨SH.out.ri (by intro q hq; have := BN.out; simp at hq; rcases hq with rfl | rfl <;> exact wf_i64 _ (by omega)), hRD, by show 3 ≤ 1000000; omega, by show ds.length ≤ 1000000; have := BNN.out; omega⟩)
      have Ba : Hid (Has wr (w1.heap.size + 1) 26 [.slice a.P a.zs.length a.cap, .bool a.u, .slice a.D a.ds.length a.dcap]) := hide (by have h := BX.out; rw [ea.out]; show Has wr (w1.heap.size + 1) 26 [.slice (some ⟨w1.heap.size, 0, none⟩) 3 3, .bool false, .slice D ds.length dc]; rw [hlen]; exact h)
      have Za : Hid (a.zs = [(N : Int), (N : Int), ((1 : Nat) : Int)]) := hide (by rw [ea.out])
      have Ua : Hid (a.u = false) := hide (by rw [ea.out])
      have Sa : Hid (∀ d ∈ a.ds, -128 ≤ d ∧ d ≤ 127) := hide (by rw [ea.out]; exact HD.out)
      have Fa : Hid (a.fault = (0, none)) := hide (Pl.lit_fine a N N 1 Za.out Ua.out ⟨BN.out.1, by have := BN.out; omega⟩ ⟨BN.out.1, by have := BN.out; omega⟩ (by omega) (by rw [Nat.mul_one, hNN.out]; have := BNN.out; omega) (by rw [ea.out]; show ds.length = N * N * 1; rw [hlen, Nat.mul_one, hNN.out]) Sa.out)
      have HALL : Hid ((Pl.mk N N 1 N 1).part false a.ds 0 1 = [B]) := hide (by rw [ea.out]; exact Pl.all_at N ds B BN.out.1 (by rw [hlen, hNN.out]) (fun d hd => ⟨(HD.out d hd).1, HU.out d hd⟩) HM.out)
      have HaD : Hid (Value.slice D NN2 dc = Value.slice a.D a.ds.length a.dcap) := hide (by rw [ea.out]; show _ = Value.slice D ds.length dc; rw [hlen])
      have e2 := BX.out.cell 2
      clear ea hRD hlen BX SH HO HSZ HD HU HM
      have c_Ba0 := Ba.out.cell 0
      have c_Ba1 := Ba.out.cell 1
      have l_Ba := Ba.out.lt
      obtain ⟨w5q, hw5q⟩ : ∃ W, W = wr.alloc (.cells #[.int .i64 N, .int .i64 1] 3) := ⟨_, rfl⟩
      have hbA : Below wr.heap.size wr w5q := by rw [hw5q]; exact (Below.refl _ _).alloc (Nat.le_refl _) _
      have SQ : Hid (Has w5q wr.heap.size 3 [.int .i64 N, .int .i64 1]) := hide (by rw [hw5q]; exact Has.new _ _ _)
      replace HB := hide (HB.out.trans (hbA.mono HB.out.size))
      replace Ta := hide (Ta.out.below hbA)
      replace Ba := hide (Ba.out.below hbA Ba.out.lt)
      have Hw5q := hide hw5q
      clear hw5q hbA
      go_wp2_with fail
      rw [← Hw5q.out]
      clear Hw5q c_Ba0 c_Ba1 l_Ba
      clear e2 hii hw0
      rw [HaD.out]
      have HGt := hide (Pl.good (a := a) (c := ⟨N, N, 1, N, 1⟩) Za.out Fa.out (by have := BN.out; show 1 ≤ N ∧ N ≤ 16; omega) (by show 1 ≤ 1 ∧ 1 ≤ 16; omega) (Nat.le_refl N) (Nat.le_refl N))
      refine (plmax_c [(N : Int), (((1 : Nat) : Int))] (some ⟨wr.heap.size, 0, none⟩) 2 a ah am ar _ (SQ.out.ri (zs := [(N : Int), (((1 : Nat) : Int))]) (by intro q hq; have := BN.out; simp at hq; rcases hq with rfl | rfl <;> exact wf_i64 _ (by omega))) (by simp) Ta.out (HE.out _ HB.out)).mono ?_
      intro e w5 hTE
      obtain ⟨⟨t, rfl, gt, gtz, gtu, gtd, -⟩, hb⟩ := pl_good false [(N : Int), (((1 : Nat) : Int))] a ah am ar _ HGt.out.1 hTE
      replace HB := hide (HB.out.trans (hb.mono HB.out.size))
      replace Ta := hide (Ta.out.below hb)
      replace Ba := hide (Ba.out.below hb Ba.out.lt)
      replace SQ := hide (SQ.out.below hb SQ.out.lt)
      rw [HGt.out.2.sh] at gtz
      rw [HGt.out.2.ds] at gtd
      have Zt := hide gtz
      have Ut := hide gtu
      have Dt := hide gtd
      have Tt := hide gt
      clear gtz gtu gtd gt hb hTE SQ
      have Dt2 : Hid (t.ds = [B]) := hide (by
        have h := Dt.out
        have e1 : (Pl.mk N N 1 N 1).oh = 1 := by show (N - N) / 1 + 1 = 1; rw [Nat.sub_self]
        have e2 : (Pl.mk N N 1 N 1).ow = 1 := by show (N - N) / 1 + 1 = 1; rw [Nat.sub_self]
        rw [e1, e2] at h
        rw [h]
        exact HALL.out)
      have hl1 : t.ds.length = 1 := by rw [Dt2.out]; rfl
      rw [hl1]
      have HBi : Hid (-9223372036854775808 ≤ B ∧ B ≤ 9223372036854775807) := hide (by have h := Tt.out.dat.1 B (by rw [Dt2.out]; simp); exact i64_wf h)
      obtain ⟨w6, hw6⟩ : ∃ W, W = w5.alloc (.cells #[.slice t.P t.zs.length t.cap, .bool t.u, .slice t.D 1 t.dcap] 26) := ⟨_, rfl⟩
      have hbA : Below w5.heap.size w5 w6 := by rw [hw6]; exact (Below.refl _ _).alloc (Nat.le_refl _) _
      have Bt : Hid (Has w6 w5.heap.size 26 [.slice t.P t.zs.length t.cap, .bool t.u, .slice t.D 1 t.dcap]) := hide (by rw [hw6]; exact Has.new _ _ _)
      replace HB := hide (HB.out.trans (hbA.mono HB.out.size))
      replace Ta := hide (Ta.out.below hbA)
      replace Ba := hide (Ba.out.below hbA Ba.out.lt)
      replace Tt := hide (Tt.out.below hbA)
      have Hw6 := hide hw6
      clear hw6 hbA
      obtain ⟨w7, hw7⟩ : ∃ W, W = w6.alloc (.cells #[.int .i64 B] 3) := ⟨_, rfl⟩
      have hbA : Below w6.heap.size w6 w7 := by rw [hw7]; exact (Below.refl _ _).alloc (Nat.le_refl _) _
      have SB : Hid (Has w7 (w5.heap.size + 1) 3 [.int .i64 B]) := hide (by rw [hw7]; exact box_at _ _ _ _ (by rw [Hw6.out]; simp))
      replace HB := hide (HB.out.trans (hbA.mono HB.out.size))
      replace Ta := hide (Ta.out.below hbA)
      replace Ba := hide (Ba.out.below hbA Ba.out.lt)
      replace Tt := hide (Tt.out.below hbA)
      replace Bt := hide (Bt.out.below hbA Bt.out.lt)
      have Hw7 := hide hw7
      clear hw7 hbA
      go_wp2_with fail
      rw [← Hw6.out]
      rw [← Hw7.out]
      clear Hw6 Hw7
      have hdt := Tt.out.dat
      rw [Dt2.out] at hdt
      have HSI := hide (sameints_c [B] [B] t.D (some ⟨(w5.heap.size + 1), 0, none⟩) t.dcap 1 _ hdt (SB.out.ri (zs := [B]) (by intro q hq; simp at hq; rw [hq]; exact wf_i64 _ HBi.out)) (by simp) (by simp))
      rw [decide_eq_true (rfl : ([B] : List Int) = [B])] at HSI
      clear hdt hl1
      refine (HSI.out).mono ?_
      rintro e w8 ⟨rfl, hb⟩
      replace HB := hide (HB.out.trans (hb.mono HB.out.size))
      replace Ta := hide (Ta.out.below hb)
      replace Ba := hide (Ba.out.below hb Ba.out.lt)
      replace Tt := hide (Tt.out.below hb)
      replace Bt := hide (Bt.out.below hb Bt.out.lt)
      replace SB := hide (SB.out.below hb SB.out.lt)
      clear hb
      clear HSI Tt Bt SB Zt Ut Dt Dt2 HGt HBi
      by_cases h4 : N % 4 = 0
      case neg =>
        have h41 : (N : Int) % 4 = ((N % 4 : Nat) : Int) := by omega
        have h42 : (((N % 4 : Nat) : Int) == 0) = false := by simp; omega
        have h43 : ((N : Int) % 4 == 0) = false := by rw [h41]; exact h42
        clear h41 h42 h4
        go_wp2_with fail
        refine (NX.out _).mono ?_
        rintro e wq ⟨rfl, hw⟩
        have hw := hw.symm
        subst hw
        have hwx := HWX.out
        obtain ⟨u1, hu1⟩ : ∃ W, W = (((w8.alloc (.cells #[.int .i64 2, .int .i64 2, .int .i64 1] 3)).alloc (.cells #[.int .i64 x1, .int .i64 x1, .int .i64 (x1 + 1), .int .i64 (x1 + 1)] 3)).alloc (.cells #[.slice (some ⟨w8.heap.size, 0, none⟩) 3 3, .bool false, .slice (some ⟨w8.heap.size + 1, 0, none⟩) 4 4] 26)).alloc (.cells #[.int .i64 2, .int .i64 2] 3) := ⟨_, rfl⟩
        have hb1 : Below w8.heap.size w8 u1 := by rw [hu1]; exact ((((Below.refl _ _).alloc (Nat.le_refl _) _).alloc (by simp) _).alloc (by simp; omega) _).alloc (by simp; omega) _
        have s1 : Has u1 w8.heap.size 3 (i64s [((2 : Nat) : Int), ((2 : Nat) : Int), ((1 : Nat) : Int)]) := by rw [hu1]; exact (((Has.new w8 3 [.int .i64 2, .int .i64 2, .int .i64 1]).alloc _).alloc _).alloc _
        have d1 : Has u1 (w8.heap.size + 1) 3 (i64s [x1, x1, x1 + 1, x1 + 1]) := by rw [hu1]; exact ((box_at _ 3 [.int .i64 x1, .int .i64 x1, .int .i64 (x1 + 1), .int .i64 (x1 + 1)] _ (by simp)).alloc _).alloc _
        have q1 : Has u1 (w8.heap.size + 1 + 1 + 1) 3 (i64s [((2 : Nat) : Int), ((2 : Nat) : Int)]) := by rw [hu1]; exact box_at _ 3 [.int .i64 2, .int .i64 2] _ (by simp)
        have HB2 := hide (HB.out.trans (hb1.mono HB.out.size))
        have bx := BX1.out
        obtain ⟨h, eh⟩ : ∃ h : Ten, Hid (h = ⟨some ⟨w8.heap.size, 0, none⟩, [((2 : Nat) : Int), ((2 : Nat) : Int), ((1 : Nat) : Int)], 3, false, some ⟨w8.heap.size + 1, 0, none⟩, [x1, x1, x1 + 1, x1 + 1], 4⟩) := ⟨_, hide rfl⟩
        have Th : h.In u1 := by rw [eh.out]; exact ⟨s1.ri (by decide), d1.ri (by intro q hq; simp at hq; rcases hq with rfl | rfl <;> exact wf_i64 _ (by omega)), by show 3 ≤ 1000000; omega, by show 4 ≤ 1000000; omega⟩
        have Fh : h.fault = (0, none) := Pl.lit_fine h 2 2 1 (by rw [eh.out]) (by rw [eh.out]) (by omega) (by omega) (by omega) (by omega) (by rw [eh.out]; rfl) (by rw [eh.out]; intro d hd; simp at hd; rcases hd with rfl | rfl <;> omega)
        have HGh := hide (Pl.good (a := h) (c := ⟨2, 2, 1, 2, 2⟩) (by rw [eh.out]) Fh (by show 1 ≤ 2 ∧ 2 ≤ 16; omega) (by show 1 ≤ 2 ∧ 2 ≤ 16; omega) (Nat.le_refl 2) (Nat.le_refl 2))
        have HAV := hide (plavg_c [((2 : Nat) : Int), ((2 : Nat) : Int)] (some ⟨w8.heap.size + 1 + 1 + 1, 0, none⟩) 2 h ah am ar u1 (q1.ri (by decide)) (by simp) Th (HE.out _ HB2.out))
        have hdh : h.ds = [x1, x1, x1 + 1, x1 + 1] := by rw [eh.out]
        have HDh := hide hdh
        rw [eh.out] at HAV
        have hu2 := hide hu1
        clear hb1 s1 d1 q1 Th Fh hdh hu1
        have hwx2 : wrap64 (x1 + 1) = x1 + 1 := by unfold wrap64; omega
        clear bx
        go_wp2_with fail
        rw [← hu2.out]
        clear hu2
        refine HAV.out.mono ?_
        intro e u2 hTE
        rw [← eh.out] at hTE
        obtain ⟨⟨m, rfl, hm, -, -, hmd, -⟩, hb⟩ := pl_good true _ h ah am ar _ HGh.out.1 hTE
        have HB3 := hide (HB2.out.trans (hb.mono HB2.out.size))
        rw [HGh.out.2.ds, HDh.out] at hmd
        have hmd2 : m.ds = [x1 + 1] := hmd.trans (Pl.half_at x1)
        have hl1 : m.ds.length = 1 := by rw [hmd2]; rfl
        rw [hl1]
        obtain ⟨md, mv, mdD, mde, mdc⟩ := ri_at hm.dat 0 (by rw [hl1]; omega)
        have hmv : mv = x1 + 1 := by have h1 := mde.out; rw [hmd2] at h1; exact (Option.some.inj h1).symm
        subst hmv
        rw [Addr.add_zero'] at mdc
        rw [mdD]
        have mdl : md.block < u2.heap.size := by obtain ⟨ad, h1, h2, -⟩ := hm.dat.2 (by rw [hmd2]; simp); rw [mdD] at h1; rw [Option.some.inj h1]; exact h2
        have bx := BX1.out
        have HB4 := hide (HB3.out.alloc HB3.out.size (.cells #[.slice m.P m.zs.length m.cap, .bool m.u, .slice (some md) 1 m.dcap] 26))
        clear hmd hmd2 hl1 mde mdD hm hb hTE HAV HGh HDh eh
        go_wp2_with fail
        go_ret
        exact ⟨rfl, HB4.out⟩
      case pos =>
      have h43 : ((N : Int) % 4 == 0) = true := by simp; omega
      obtain ⟨M, hM⟩ : ∃ m, Hid (N / 2 = m) := ⟨_, hide rfl⟩
      obtain ⟨P, hP⟩ : ∃ m, Hid (N / 4 = m) := ⟨_, hide rfl⟩
      have HC : Hid ((N = 4 ∧ M = 2 ∧ P = 1) ∨ (N = 8 ∧ M = 4 ∧ P = 2)) := hide (by have h1 := hM.out; have h2 := hP.out; have := BN.out; omega)
      have O1 : Hid ((Pl.mk N N 1 2 2).oh = M ∧ (Pl.mk N N 1 2 2).ow = M ∧ (Pl.mk M M 1 2 2).oh = P ∧ (Pl.mk M M 1 2 2).ow = P ∧ (Pl.mk N N 1 4 4).oh = P ∧ (Pl.mk N N 1 4 4).ow = P) := hide (by rcases HC.out with ⟨rfl, rfl, rfl⟩ | ⟨rfl, rfl, rfl⟩ <;> decide)
      have HTW : Hid (∀ xs, (Pl.mk M M 1 2 2).part false ((Pl.mk N N 1 2 2).part false xs 0 (M * M * 1)) 0 (P * P * 1) = (Pl.mk N N 1 4 4).part false xs 0 (P * P * 1)) := hide (fun xs => by
        rcases HC.out with ⟨rfl, rfl, rfl⟩ | ⟨rfl, rfl, rfl⟩
        · exact Pl.twice4 xs
        · exact Pl.twice8 xs)
      clear h4 hM hP
      have c_Ba0 := Ba.out.cell 0
      have c_Ba1 := Ba.out.cell 1
      have c_Ba2 := Ba.out.cell 2
      have l_Ba := Ba.out.lt
      obtain ⟨w9q, hw9q⟩ : ∃ W, W = w8.alloc (.cells #[.int .i64 2, .int .i64 2] 3) := ⟨_, rfl⟩
      have hbA : Below w8.heap.size w8 w9q := by rw [hw9q]; exact (Below.refl _ _).alloc (Nat.le_refl _) _
      have SQ : Hid (Has w9q w8.heap.size 3 [.int .i64 2, .int .i64 2]) := hide (by rw [hw9q]; exact Has.new _ _ _)
      replace HB := hide (HB.out.trans (hbA.mono HB.out.size))
      replace Ta := hide (Ta.out.below hbA)
      replace Ba := hide (Ba.out.below hbA Ba.out.lt)
      have Hw9q := hide hw9q
      clear hw9q hbA
      go_wp2_with fail
      rw [← Hw9q.out]
      clear Hw9q c_Ba0 c_Ba1 c_Ba2 l_Ba
      have HGb := hide (Pl.good (a := a) (c := ⟨N, N, 1, 2, 2⟩) Za.out Fa.out (by show 1 ≤ 2 ∧ 2 ≤ 16; omega) (by show 1 ≤ 2 ∧ 2 ≤ 16; omega) (by show 2 ≤ N; have := HC.out; omega) (by show 2 ≤ N; have := HC.out; omega))
      refine (plmax_c [(((2 : Nat) : Int)), (((2 : Nat) : Int))] (some ⟨w8.heap.size, 0, none⟩) 2 a ah am ar _ (SQ.out.ri (zs := [(((2 : Nat) : Int)), (((2 : Nat) : Int))]) (by decide)) (by simp) Ta.out (HE.out _ HB.out)).mono ?_
      intro e w9 hTE
      obtain ⟨⟨b, rfl, gb, gbz, gbu, gbd, -⟩, hb⟩ := pl_good false [(((2 : Nat) : Int)), (((2 : Nat) : Int))] a ah am ar _ HGb.out.1 hTE
      replace HB := hide (HB.out.trans (hb.mono HB.out.size))
      replace Ta := hide (Ta.out.below hb)
      replace Ba := hide (Ba.out.below hb Ba.out.lt)
      replace SQ := hide (SQ.out.below hb SQ.out.lt)
      rw [HGb.out.2.sh] at gbz
      rw [HGb.out.2.ds] at gbd
      have Zb := hide gbz
      have Ub := hide gbu
      have Db := hide gbd
      have Tb := hide gb
      clear gbz gbu gbd gb hb hTE SQ
      rw [O1.out.1, O1.out.2.1] at Zb Db
      have Fb : Hid (b.fault = (0, none)) := hide (Pl.lit_fine b M M 1 Zb.out (Ub.out.trans Ua.out) (by have := HC.out; omega) (by have := HC.out; omega) (by omega) (by rcases HC.out with ⟨rfl, rfl, rfl⟩ | ⟨rfl, rfl, rfl⟩ <;> omega) (by rw [Db.out, Pl.part_length]) (by rw [Db.out]; exact Pl.part_small HGb.out.2.ok a.ds _ (by show M * M * 1 ≤ (Pl.mk N N 1 2 2).oh * (Pl.mk N N 1 2 2).ow * 1; rw [O1.out.1, O1.out.2.1]; exact Nat.le_refl _) HGb.out.2.al Sa.out))
      obtain ⟨w10, hw10⟩ : ∃ W, W = w9.alloc (.cells #[.slice b.P b.zs.length b.cap, .bool b.u, .slice b.D b.ds.length b.dcap] 26) := ⟨_, rfl⟩
      have hbA : Below w9.heap.size w9 w10 := by rw [hw10]; exact (Below.refl _ _).alloc (Nat.le_refl _) _
      have Bb : Hid (Has w10 w9.heap.size 26 [.slice b.P b.zs.length b.cap, .bool b.u, .slice b.D b.ds.length b.dcap]) := hide (by rw [hw10]; exact Has.new _ _ _)
      replace HB := hide (HB.out.trans (hbA.mono HB.out.size))
      replace Ta := hide (Ta.out.below hbA)
      replace Ba := hide (Ba.out.below hbA Ba.out.lt)
      replace Tb := hide (Tb.out.below hbA)
      have Hw10 := hide hw10
      clear hw10 hbA
      obtain ⟨w11q, hw11q⟩ : ∃ W, W = w10.alloc (.cells #[.int .i64 2, .int .i64 2] 3) := ⟨_, rfl⟩
      have hbA : Below w10.heap.size w10 w11q := by rw [hw11q]; exact (Below.refl _ _).alloc (Nat.le_refl _) _
      have SQ : Hid (Has w11q (w9.heap.size + 1) 3 [.int .i64 2, .int .i64 2]) := hide (by rw [hw11q]; exact box_at _ _ _ _ (by rw [Hw10.out]; simp))
      replace HB := hide (HB.out.trans (hbA.mono HB.out.size))
      replace Ta := hide (Ta.out.below hbA)
      replace Ba := hide (Ba.out.below hbA Ba.out.lt)
      replace Tb := hide (Tb.out.below hbA)
      replace Bb := hide (Bb.out.below hbA Bb.out.lt)
      have Hw11q := hide hw11q
      clear hw11q hbA
      go_wp2_with fail
      rw [← Hw10.out]
      rw [← Hw11q.out]
      clear Hw10 Hw11q
      have HGc := hide (Pl.good (a := b) (c := ⟨M, M, 1, 2, 2⟩) Zb.out Fb.out (by show 1 ≤ 2 ∧ 2 ≤ 16; omega) (by show 1 ≤ 2 ∧ 2 ≤ 16; omega) (by show 2 ≤ M; have := HC.out; omega) (by show 2 ≤ M; have := HC.out; omega))
      refine (plmax_c [(((2 : Nat) : Int)), (((2 : Nat) : Int))] (some ⟨(w9.heap.size + 1), 0, none⟩) 2 b ah am ar _ (SQ.out.ri (zs := [(((2 : Nat) : Int)), (((2 : Nat) : Int))]) (by decide)) (by simp) Tb.out (HE.out _ HB.out)).mono ?_
      intro e w11 hTE
      obtain ⟨⟨c, rfl, gc, gcz, gcu, gcd, -⟩, hb⟩ := pl_good false [(((2 : Nat) : Int)), (((2 : Nat) : Int))] b ah am ar _ HGc.out.1 hTE
      replace HB := hide (HB.out.trans (hb.mono HB.out.size))
      replace Ta := hide (Ta.out.below hb)
      replace Ba := hide (Ba.out.below hb Ba.out.lt)
      replace Tb := hide (Tb.out.below hb)
      replace Bb := hide (Bb.out.below hb Bb.out.lt)
      replace SQ := hide (SQ.out.below hb SQ.out.lt)
      rw [HGc.out.2.sh] at gcz
      rw [HGc.out.2.ds] at gcd
      have Zc := hide gcz
      have Uc := hide gcu
      have Dc := hide gcd
      have Tc := hide gc
      clear gcz gcu gcd gc hb hTE SQ
      have c_Ba0 := Ba.out.cell 0
      have c_Ba1 := Ba.out.cell 1
      have c_Ba2 := Ba.out.cell 2
      have l_Ba := Ba.out.lt
      obtain ⟨w12, hw12⟩ : ∃ W, W = w11.alloc (.cells #[.slice c.P c.zs.length c.cap, .bool c.u, .slice c.D c.ds.length c.dcap] 26) := ⟨_, rfl⟩
      have hbA : Below w11.heap.size w11 w12 := by rw [hw12]; exact (Below.refl _ _).alloc (Nat.le_refl _) _
      have Bc : Hid (Has w12 w11.heap.size 26 [.slice c.P c.zs.length c.cap, .bool c.u, .slice c.D c.ds.length c.dcap]) := hide (by rw [hw12]; exact Has.new _ _ _)
      replace HB := hide (HB.out.trans (hbA.mono HB.out.size))
      replace Ta := hide (Ta.out.below hbA)
      replace Ba := hide (Ba.out.below hbA Ba.out.lt)
      replace Tb := hide (Tb.out.below hbA)
      replace Bb := hide (Bb.out.below hbA Bb.out.lt)
      replace Tc := hide (Tc.out.below hbA)
      have Hw12 := hide hw12
      clear hw12 hbA
      obtain ⟨w13q, hw13q⟩ : ∃ W, W = w12.alloc (.cells #[.int .i64 4, .int .i64 4] 3) := ⟨_, rfl⟩
      have hbA : Below w12.heap.size w12 w13q := by rw [hw13q]; exact (Below.refl _ _).alloc (Nat.le_refl _) _
      have SQ : Hid (Has w13q (w11.heap.size + 1) 3 [.int .i64 4, .int .i64 4]) := hide (by rw [hw13q]; exact box_at _ _ _ _ (by rw [Hw12.out]; simp))
      replace HB := hide (HB.out.trans (hbA.mono HB.out.size))
      replace Ta := hide (Ta.out.below hbA)
      replace Ba := hide (Ba.out.below hbA Ba.out.lt)
      replace Tb := hide (Tb.out.below hbA)
      replace Bb := hide (Bb.out.below hbA Bb.out.lt)
      replace Tc := hide (Tc.out.below hbA)
      replace Bc := hide (Bc.out.below hbA Bc.out.lt)
      have Hw13q := hide hw13q
      clear hw13q hbA
      go_wp2_with fail
      rw [← Hw12.out]
      rw [← Hw13q.out]
      clear Hw12 Hw13q c_Ba0 c_Ba1 c_Ba2 l_Ba
      have HGd := hide (Pl.good (a := a) (c := ⟨N, N, 1, 4, 4⟩) Za.out Fa.out (by show 1 ≤ 4 ∧ 4 ≤ 16; omega) (by show 1 ≤ 4 ∧ 4 ≤ 16; omega) (by show 4 ≤ N; have := HC.out; omega) (by show 4 ≤ N; have := HC.out; omega))
      refine (plmax_c [(((4 : Nat) : Int)), (((4 : Nat) : Int))] (some ⟨(w11.heap.size + 1), 0, none⟩) 2 a ah am ar _ (SQ.out.ri (zs := [(((4 : Nat) : Int)), (((4 : Nat) : Int))]) (by decide)) (by simp) Ta.out (HE.out _ HB.out)).mono ?_
      intro e w13 hTE
      obtain ⟨⟨d, rfl, gd, gdz, gdu, gdd, -⟩, hb⟩ := pl_good false [(((4 : Nat) : Int)), (((4 : Nat) : Int))] a ah am ar _ HGd.out.1 hTE
      replace HB := hide (HB.out.trans (hb.mono HB.out.size))
      replace Ta := hide (Ta.out.below hb)
      replace Ba := hide (Ba.out.below hb Ba.out.lt)
      replace Tb := hide (Tb.out.below hb)
      replace Bb := hide (Bb.out.below hb Bb.out.lt)
      replace Tc := hide (Tc.out.below hb)
      replace Bc := hide (Bc.out.below hb Bc.out.lt)
      replace SQ := hide (SQ.out.below hb SQ.out.lt)
      rw [HGd.out.2.sh] at gdz
      rw [HGd.out.2.ds] at gdd
      have Zd := hide gdz
      have Ud := hide gdu
      have Dd := hide gdd
      have Td := hide gd
      clear gdz gdu gdd gd hb hTE SQ
      rw [O1.out.2.2.1, O1.out.2.2.2.1, Db.out] at Dc
      rw [O1.out.2.2.2.2.1, O1.out.2.2.2.2.2] at Dd
      have hcd : c.ds = d.ds := by rw [Dc.out, Dd.out]; exact HTW.out a.ds
      have HCD := hide hcd
      clear hcd
      have c_Bc2 := Bc.out.cell 2
      have l_Bc := Bc.out.lt
      obtain ⟨w14, hw14⟩ : ∃ W, W = w13.alloc (.cells #[.slice d.P d.zs.length d.cap, .bool d.u, .slice d.D d.ds.length d.dcap] 26) := ⟨_, rfl⟩
      have hbA : Below w13.heap.size w13 w14 := by rw [hw14]; exact (Below.refl _ _).alloc (Nat.le_refl _) _
      have Bd : Hid (Has w14 w13.heap.size 26 [.slice d.P d.zs.length d.cap, .bool d.u, .slice d.D d.ds.length d.dcap]) := hide (by rw [hw14]; exact Has.new _ _ _)
      replace HB := hide (HB.out.trans (hbA.mono HB.out.size))
      replace Ta := hide (Ta.out.below hbA)
      replace Ba := hide (Ba.out.below hbA Ba.out.lt)
      replace Tb := hide (Tb.out.below hbA)
      replace Bb := hide (Bb.out.below hbA Bb.out.lt)
      replace Tc := hide (Tc.out.below hbA)
      replace Bc := hide (Bc.out.below hbA Bc.out.lt)
      replace Td := hide (Td.out.below hbA)
      have Hw14 := hide hw14
      clear hw14 hbA
      go_wp2_with fail
      rw [← Hw14.out]
      clear Hw14 c_Bc2 l_Bc
      have HSI := hide (sameints_c c.ds d.ds c.D d.D c.dcap d.dcap _ Tc.out.dat Td.out.dat (by have := Tc.out.ld; omega) (by have := Td.out.ld; omega))
      rw [decide_eq_true HCD.out] at HSI
      refine (HSI.out).mono ?_
      rintro e w15 ⟨rfl, hb⟩
      replace HB := hide (HB.out.trans (hb.mono HB.out.size))
      replace Ta := hide (Ta.out.below hb)
      replace Ba := hide (Ba.out.below hb Ba.out.lt)
      replace Tb := hide (Tb.out.below hb)
      replace Bb := hide (Bb.out.below hb Bb.out.lt)
      replace Tc := hide (Tc.out.below hb)
      replace Bc := hide (Bc.out.below hb Bc.out.lt)
      replace Td := hide (Td.out.below hb)
      replace Bd := hide (Bd.out.below hb Bd.out.lt)
      clear hb
      clear HSI
      clear Tb Tc Td Bb Bc Bd
      go_wp2_with fail
      refine (NX.out _).mono ?_
      rintro e wq ⟨rfl, hw⟩
      have hw := hw.symm
      subst hw
      have hwx := HWX.out
      obtain ⟨v1, hv1⟩ : ∃ W, W = (((w15.alloc (.cells #[.int .i64 2, .int .i64 2, .int .i64 1] 3)).alloc (.cells #[.int .i64 x1, .int .i64 x1, .int .i64 (x1 + 1), .int .i64 (x1 + 1)] 3)).alloc (.cells #[.slice (some ⟨w15.heap.size, 0, none⟩) 3 3, .bool false, .slice (some ⟨w15.heap.size + 1, 0, none⟩) 4 4] 26)).alloc (.cells #[.int .i64 2, .int .i64 2] 3) := ⟨_, rfl⟩
      have hb1 : Below w15.heap.size w15 v1 := by rw [hv1]; exact ((((Below.refl _ _).alloc (Nat.le_refl _) _).alloc (by simp) _).alloc (by simp; omega) _).alloc (by simp; omega) _
      have s1 : Has v1 w15.heap.size 3 (i64s [((2 : Nat) : Int), ((2 : Nat) : Int), ((1 : Nat) : Int)]) := by rw [hv1]; exact (((Has.new w15 3 [.int .i64 2, .int .i64 2, .int .i64 1]).alloc _).alloc _).alloc _
      have d1 : Has v1 (w15.heap.size + 1) 3 (i64s [x1, x1, x1 + 1, x1 + 1]) := by rw [hv1]; exact ((box_at _ 3 [.int .i64 x1, .int .i64 x1, .int .i64 (x1 + 1), .int .i64 (x1 + 1)] _ (by simp)).alloc _).alloc _
      have q1 : Has v1 (w15.heap.size + 1 + 1 + 1) 3 (i64s [((2 : Nat) : Int), ((2 : Nat) : Int)]) := by rw [hv1]; exact box_at _ 3 [.int .i64 2, .int .i64 2] _ (by simp)
      have HB2 := hide (HB.out.trans (hb1.mono HB.out.size))
      have bx := BX1.out
      obtain ⟨h, eh⟩ : ∃ h : Ten, Hid (h = ⟨some ⟨w15.heap.size, 0, none⟩, [((2 : Nat) : Int), ((2 : Nat) : Int), ((1 : Nat) : Int)], 3, false, some ⟨w15.heap.size + 1, 0, none⟩, [x1, x1, x1 + 1, x1 + 1], 4⟩) := ⟨_, hide rfl⟩
      have Th : h.In v1 := by rw [eh.out]; exact ⟨s1.ri (by decide), d1.ri (by intro q hq; simp at hq; rcases hq with rfl | rfl <;> exact wf_i64 _ (by omega)), by show 3 ≤ 1000000; omega, by show 4 ≤ 1000000; omega⟩
      have Fh : h.fault = (0, none) := Pl.lit_fine h 2 2 1 (by rw [eh.out]) (by rw [eh.out]) (by omega) (by omega) (by omega) (by omega) (by rw [eh.out]; rfl) (by rw [eh.out]; intro d hd; simp at hd; rcases hd with rfl | rfl <;> omega)
      have HGh := hide (Pl.good (a := h) (c := ⟨2, 2, 1, 2, 2⟩) (by rw [eh.out]) Fh (by show 1 ≤ 2 ∧ 2 ≤ 16; omega) (by show 1 ≤ 2 ∧ 2 ≤ 16; omega) (Nat.le_refl 2) (Nat.le_refl 2))
      have HAV := hide (plavg_c [((2 : Nat) : Int), ((2 : Nat) : Int)] (some ⟨w15.heap.size + 1 + 1 + 1, 0, none⟩) 2 h ah am ar v1 (q1.ri (by decide)) (by simp) Th (HE.out _ HB2.out))
      have hdh : h.ds = [x1, x1, x1 + 1, x1 + 1] := by rw [eh.out]
      have HDh := hide hdh
      rw [eh.out] at HAV
      have hv2 := hide hv1
      clear hb1 s1 d1 q1 Th Fh hdh hv1
      have hwx2 : wrap64 (x1 + 1) = x1 + 1 := by unfold wrap64; omega
      clear bx
      go_wp2_with fail
      rw [← hv2.out]
      clear hv2
      refine HAV.out.mono ?_
      intro e v2 hTE
      rw [← eh.out] at hTE
      obtain ⟨⟨m, rfl, hm, -, -, hmd, -⟩, hb⟩ := pl_good true _ h ah am ar _ HGh.out.1 hTE
      have HB3 := hide (HB2.out.trans (hb.mono HB2.out.size))
      rw [HGh.out.2.ds, HDh.out] at hmd
      have hmd2 : m.ds = [x1 + 1] := hmd.trans (Pl.half_at x1)
      have hl1 : m.ds.length = 1 := by rw [hmd2]; rfl
      rw [hl1]
      obtain ⟨md, mv, mdD, mde, mdc⟩ := ri_at hm.dat 0 (by rw [hl1]; omega)
      have hmv : mv = x1 + 1 := by have h1 := mde.out; rw [hmd2] at h1; exact (Option.some.inj h1).symm
      subst hmv
      rw [Addr.add_zero'] at mdc
      rw [mdD]
      have mdl : md.block < v2.heap.size := by obtain ⟨ad, h1, h2, -⟩ := hm.dat.2 (by rw [hmd2]; simp); rw [mdD] at h1; rw [Option.some.inj h1]; exact h2
      have bx := BX1.out
      have HB4 := hide (HB3.out.alloc HB3.out.size (.cells #[.slice m.P m.zs.length m.cap, .bool m.u, .slice (some md) 1 m.dcap] 26))
      clear hmd hmd2 hl1 mde mdD hm hb hTE HAV HGh HDh eh
      go_wp2_with fail
      go_ret
      exact ⟨rfl, HB4.out⟩
end Go.Proofs.YtcgjnjchkachdaaDoor
