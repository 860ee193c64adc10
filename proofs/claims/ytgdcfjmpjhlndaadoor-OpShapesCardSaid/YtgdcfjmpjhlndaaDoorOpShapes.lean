/-
  The law OpShapes, walked. By an AI agent. No person has read it.
-/
import Derived.Test.YtgdcfjmpjhlndaaDoorOpE
import Derived.Test.YtgdcfjmpjhlndaaDoorOpL
import Derived.Test.YtgdcfjmpjhlndaaDoorCelO
import Derived.Test.YtgdcfjmpjhlndaaDoorTenH
namespace Go.Proofs.YtgdcfjmpjhlndaaDoor
open Go.RowKit

theorem number_s (x : Int) (m : Nat) (h0 : 0 < m) (hm : m ≤ 4611686018427387904) (M : Int) (hM : M = (m : Int)) : ∃ k : Int, 0 ≤ k ∧ k < m ∧ Hid (∀ w, Calls Tryd.prog 36 #[.int .i64 x, .int .i64 M] w fun e w' => e = .returned (.int .i64 k) ∧ w' = w) :=
  ⟨x % M, by rw [hM]; exact Int.emod_nonneg _ (by omega), by rw [hM]; exact Int.emod_lt_of_pos _ (by omega), hide fun w => number_e x m h0 hm M hM w⟩
theorem own_caps {w : World} {base n c s : Nat} {e : TypeId} {A : Option Addr} {xs : List Value} (h : w.ownsRow base e s (.slice A n c) n xs) : n ≤ c := by
  rcases h.2 with ⟨h1, h2⟩ | ⟨g, c', cur, h1, -, -, h4, -⟩
  · omega
  · injection h1 with _ _ h5
    omega
theorem ri_drews {w : World} {P : Option Addr} {zs : List Int} (h : Ri w P zs) (n : Nat) : Ri (w.drewN n) P zs := h
theorem rsame_good (s t : Ten) (w : World) (hs : s.In w) (ht : t.In w) (h1 : s.zs = t.zs) (h2 : s.u = t.u) (h3 : s.ds = t.ds) :
    Calls Tryd.prog 18 #[.agg (tcells s.P s.zs.length s.cap s.u s.D s.ds.length s.dcap), .agg (tcells t.P t.zs.length t.cap t.u t.D t.ds.length t.dcap)] w fun e w' => e = .returned (.bool true) ∧ Below w.heap.size w w' := by
  refine (sametensor_c s.zs t.zs s.ds t.ds s.P t.P s.D t.D s.cap t.cap s.dcap t.dcap s.u t.u w hs.shp ht.shp hs.dat ht.dat hs.ls ht.ls hs.ld ht.ld).mono fun e w' h => ?_
  rw [decide_eq_true h1, decide_eq_true h3, h2] at h
  simpa using h
theorem rints_good (a b : List Int) (A B : Option Addr) (n m ca cb : Nat) (w : World) (ha : Ri w A a) (hb : Ri w B b) (hl : a.length ≤ 1000000) (h : a = b) (hn : a.length = n) (hm : b.length = m) :
    Calls Tryd.prog 37 #[.slice A n ca, .slice B m cb] w fun e w' => e = .returned (.bool true) ∧ Below w.heap.size w w' := by
  subst hn hm
  refine (sameints_c a b A B ca cb w ha hb hl (by rw [← h]; exact hl)).mono fun e w' h2 => ?_
  rw [decide_eq_true h] at h2
  exact h2
theorem Tens.fit_wide {k : Int} (h : 0 ≤ k ∧ k ≤ 1000000) : Tens.fit true k = true := by
  unfold Tens.fit
  simp
  omega
set_option maxRecDepth 100000 in
set_option maxHeartbeats 16000000 in
theorem opshapes_c (m0 n0 : Int) (l : List Int) (A : Option Addr) (cap : Nat) (ah am ar ak : Addr) (w : World) (hr : Ri w A l) (hE : E4 w ah am ar ak) (hKz : Kz w) :
    Calls Tryd.prog 8 #[.int .i64 m0, .int .i64 n0, .slice A l.length cap] w fun e w' => e = .returned (.bool true) ∧ Below w.heap.size w w' := by
  have HF := hide (first12_c ah am ar ak w hE hKz)
  have HE := hide (fun W (hb : Below w.heap.size w W) => hE.below hb)
  have HK := hide (fun W (hb : Below w.heap.size w W) => hKz.below hb)
  have HL := hide (fun W (hb : Below w.heap.size w W) => hr.below hb)
  have HN := hide (fun x W => number_c x 1000000 (by decide) (by decide) 1000000 rfl W)
  obtain ⟨k1, hk0, hk1, NM⟩ := number_s m0 10 (by decide) (by decide) 10 rfl
  obtain ⟨k2, hj0, hj1, NN⟩ := number_s n0 10 (by decide) (by decide) 10 rfl
  obtain ⟨M, hM⟩ : ∃ M, Hid (k1.toNat + 1 = M) := ⟨_, hide rfl⟩
  have EM : Hid (wrap64 (k1 + 1) = (M : Int)) := hide (by rw [← hM.out]; unfold wrap64; omega)
  have BM : Hid (1 ≤ M ∧ M ≤ 10) := hide (by rw [← hM.out]; omega)
  obtain ⟨N, hN⟩ : ∃ M, Hid (k2.toNat + 1 = M) := ⟨_, hide rfl⟩
  have EN : Hid (wrap64 (k2 + 1) = (N : Int)) := hide (by rw [← hN.out]; unfold wrap64; omega)
  have BN : Hid (1 ≤ N ∧ N ≤ 10) := hide (by rw [← hN.out]; omega)
  obtain ⟨S, hS⟩ : ∃ M', Hid (M * N = M') := ⟨_, hide rfl⟩
  have BS : Hid (1 ≤ S ∧ S ≤ 100) := hide (by
    have h1 := BM.out
    have h2 := BN.out
    rw [← hS.out]
    exact ⟨Nat.mul_pos h1.1 h2.1, Nat.mul_le_mul h1.2 h2.2⟩)
  have Hww : Hid (wrap64 ((M : Int) * (N : Int)) = (S : Int)) := hide (by rw [← Int.natCast_mul, hS.out]; have := BS.out; unfold wrap64; omega)
  have Hwv : Hid (wrap64 ((N : Int) * (M : Int)) = (S : Int)) := hide (by rw [Int.mul_comm]; exact Hww.out)
  obtain ⟨n, hn⟩ : ∃ n, Hid (l.length = n) := ⟨_, hide rfl⟩
  rw [hn.out]
  clear hr hE hKz hk0 hk1 hj0 hj1
  by_cases hbig : 50 < n
  case pos =>
    have hb2 : (50 : Int) < n := by omega
    clear hbig
    go_enter Tryd.func8, Tryd.ntmps8
    go_wp2_with fail
    refine HF.out.mono ?_
    rintro e w1 ⟨rfl, hb⟩
    have HB := hide hb
    have HWS1 := hide hb.size
    clear hb HF
    go_wp2_with fail
    refine (NM.out _).mono ?_
    rintro e wq ⟨rfl, hw⟩
    have hw := hw.symm
    subst hw
    have oM := EM.out
    go_wp2_with fail
    rw [oM]
    clear oM
    refine (NN.out _).mono ?_
    rintro e wq ⟨rfl, hw⟩
    have hw := hw.symm
    subst hw
    go_wp2_with fail
    go_ret
    exact ⟨rfl, HB.out⟩
  case neg =>
  have hn50 : (n : Int) ≤ 50 := by omega
  clear hbig
  go_enter Tryd.func8, Tryd.ntmps8
  go_wp2_with fail
  refine HF.out.mono ?_
  rintro e w1 ⟨rfl, hb⟩
  have HB := hide hb
  have HWS1 := hide hb.size
  clear hb HF
  go_wp2_with fail
  refine (NM.out _).mono ?_
  rintro e wq ⟨rfl, hw⟩
  have hw := hw.symm
  subst hw
  have oM := EM.out
  go_wp2_with fail
  rw [oM]
  clear oM
  refine (NN.out _).mono ?_
  rintro e wq ⟨rfl, hw⟩
  have hw := hw.symm
  subst hw
  obtain ⟨W, hW⟩ : ∃ W, W = (w1.alloc (.cells #[.int .i64 M, .int .i64 N] 3)).alloc (.cells #[.slice (some ⟨w1.heap.size, 0, none⟩) 2 2, .bool true, .slice none 0 0] 26) := ⟨_, rfl⟩
  have hBW : Below w1.heap.size w1 W := by rw [hW]; exact ((Below.refl _ _).alloc (Nat.le_refl _) _).alloc (by simp) _
  have SH : Hid (Has W w1.heap.size 3 (i64s [(M : Int), (N : Int)])) := hide (by rw [hW]; exact (Has.new w1 3 [.int .i64 M, .int .i64 N]).alloc _)
  have BX : Hid (Has W (w1.heap.size + 1) 26 [.slice (some ⟨w1.heap.size, 0, none⟩) 2 2, .bool true, .slice none 0 0]) := hide (by rw [hW]; exact box_at _ _ _ _ (by simp))
  have hWs : W.heap.size = w1.heap.size + 2 := by rw [hW]; simp
  have HWS := hide hWs
  replace HB := hide (HB.out.trans (hBW.mono HB.out.size))
  have HW := hide hW
  clear hW hBW hWs
  have oN := EN.out
  go_wp2_with fail
  rw [← HW.out]
  clear HW oN
  go_loopg [9] S (fun gq k wr => ∃ (i : Nat) (ds : List Int) (v : Value), gq + i = S ∧ k = .int .i64 i ∧ Hid (∀ d ∈ ds, 0 ≤ d ∧ d ≤ 1000000) ∧ Hid (Has wr (w1.heap.size + 1) 26 [.slice (some ⟨w1.heap.size, 0, none⟩) 2 2, .bool true, v]) ∧ Hid (Has wr w1.heap.size 3 (i64s [(M : Int), (N : Int)])) ∧ Hid (wr.ownsRow (w1.heap.size + 2) 3 1 v i (i64s ds)) ∧ Hid (Below w.heap.size w wr) ∧ Hid (w1.heap.size + 2 ≤ wr.heap.size))
  case atStart => exact ⟨0, [], _, by omega, rfl, hide (by simp), BX, SH, hide ⟨rfl, .inl ⟨rfl, rfl⟩⟩, HB, hide (by rw [HWS.out]; exact Nat.le_refl _)⟩
  case round =>
    clear BX SH HB HWS
    obtain ⟨i, ds, v, hi9, rfl, HD, BX, SH, HO, HB, HSZ⟩ := hrel
    have hw0 := Hww.out
    by_cases hlt : i < S
    · have hii : (i : Int) < (S : Int) := by omega
      have hi0 : (0 : Int) ≤ (i : Int) := by omega
      have Hi100 : Hid (i < 100) := hide (by have := BS.out; omega)
      have hi64 : (i : Int) + 1 ≤ 101 := by have := Hi100.out; omega
      have c2 : wr.cell? ⟨w1.heap.size + 1, 2, none⟩ = some v := BX.out.cell 2
      have xl : w1.heap.size + 1 < wr.heap.size := by have := HSZ.out; omega
      by_cases hz : n = 0
      case pos =>
        subst hz
        have hsl := HSZ.out
        have HX := hide (fun W => HN.out (i) W)
        have HBI := hide (show i + 1 ≤ 1000000000000 by have := BS.out; omega)
        have HBS := hide (fun k : Nat => show w1.heap.size + 2 ≤ ((wr.alloc (.cells #[.int .i64 (k : Int)] 3)).drew).heap.size by have := HSZ.out; simp [World.drew]; omega)
        have HOW := hide (fun k : Nat => (HO.out.alloc (.cells #[.int .i64 (k : Int)] 3)).drew)
        have HRI := hide (fun (k : Nat) (h : k < 1000000) => show Ri ((wr.alloc (.cells #[.int .i64 (k : Int)] 3)).drew) (some ⟨wr.heap.size, 0, none⟩) [(k : Int)] from ri_drews (new_ri wr 3 [(k : Int)] (by intro q hq; simp at hq; omega)) 1)
        have HGX := hide (fun (k : Nat) (w' : World) (h2 : ((wr.alloc (.cells #[.int .i64 (k : Int)] 3)).drew).grownBy w' v.ownBlock) => (show Has ((wr.alloc (.cells #[.int .i64 (k : Int)] 3)).drew) (w1.heap.size + 1) 26 [.slice (some ⟨w1.heap.size, 0, none⟩) 2 2, .bool true, v] from (BX.out.alloc (.cells #[.int .i64 (k : Int)] 3)).drewN 1).grown h2 (own_apart HO.out (by omega)))
        have HGS := hide (fun (k : Nat) (w' : World) (h2 : ((wr.alloc (.cells #[.int .i64 (k : Int)] 3)).drew).grownBy w' v.ownBlock) => (show Has ((wr.alloc (.cells #[.int .i64 (k : Int)] 3)).drew) w1.heap.size 3 (i64s [(M : Int), (N : Int)]) from (SH.out.alloc (.cells #[.int .i64 (k : Int)] 3)).drewN 1).grown h2 (own_apart HO.out (by omega)))
        have HGB := hide (fun (k : Nat) (w' : World) (h2 : ((wr.alloc (.cells #[.int .i64 (k : Int)] 3)).drew).grownBy w' v.ownBlock) => elm_grown ((HB.out.alloc HB.out.size (.cells #[.int .i64 (k : Int)] 3)).drew) (own_le (HOW.out k) (by have := HWS1.out; omega)) ((HB.out.alloc HB.out.size (.cells #[.int .i64 (k : Int)] 3)).drew).size h2)
        go_wp2_with fail
        go_region_law (first
          | (go_simp; go_at_call 36; refine (HX.out _).mono ?_; rintro e wq ⟨⟨k, hk, rfl⟩, hw⟩; have hw := hw.symm; subst hw; have hk0 : (0 : Int) ≤ (k : Int) := (by omega); have hk1 : (k : Int) < 1000000 := (by omega); have HKK := hide hk; have dal : (wr.alloc (.cells #[.int .i64 (k : Int)] 3)).cell? ⟨w1.heap.size + 1, 2, none⟩ = some v := (BX.out.alloc (.cells #[.int .i64 (k : Int)] 3)).cell 2)
          | (refine step_append_is rfl (.tmp 60) (.tmp 63) rfl (w1.heap.size + 2) v i (i64s ds) (by first | rfl | simp [Act.eval]) (HOW.out k) (some ⟨wr.heap.size, 0, none⟩) 1 1 [(k : Int)] (by first | rfl | simp [Act.eval]) (hide rfl) (HRI.out _ HKK.out) HBI.out (HBS.out _) (fun v' w' h1 h2 h3 => ?_); obtain ⟨Pn, cn, hvn⟩ := own_slice h1; subst hvn; have H1 := hide h1; have H2 := hide h2; have hbx := HGX.out _ _ h2; have d2 : w'.cell? ⟨w1.heap.size + 1, 2, none⟩ = some v := hbx.cell 2; have f2 := hbx.frozen 2; clear h1 h2 h3 hbx))
        all_goals go_ways
        all_goals
          go_wp2_with fail
          go_roundg (S - (i + 1))
          case measure => omega
          case rel =>
            have hbx := HGX.out _ _ H2.out
            have hsh := HGS.out _ _ H2.out
            have hhb := HGB.out _ _ H2.out
            have hbs := hbx.set_ 2 (.slice Pn (i + 1) cn)
            refine ⟨i + 1, ds ++ [(k : Int)], .slice Pn (i + 1) cn, by omega, by go_num, hide ?_, hide hbs, hide (hsh.far (by simp) _), hide (own_set (by rw [show i64s (ds ++ [(k : Int)]) = i64s ds ++ i64s [(k : Int)] from List.map_append]; exact H1.out) (by simp) _), hide (hhb.setCell (by simp; have := HWS1.out; omega) _), hide ?_⟩
            · intro d hd
              rcases List.mem_append.1 hd with hd | hd
              · exact HD.out d hd
              · rw [List.mem_singleton.1 hd]
                have := HKK.out
                exact ⟨by omega, by omega⟩
            · have := hbs.lt
              omega
      case neg =>
        have hnp : (0 : Int) < (n : Int) := by omega
        obtain ⟨j, hj⟩ : ∃ j, Hid (i % n = j) := ⟨_, hide rfl⟩
        have hjn : j < n := by rw [← hj.out]; exact Nat.mod_lt _ (by omega)
        obtain ⟨ad, x, hAD, ex, cx⟩ := ri_at (HL.out _ HB.out) j (by rw [hn.out]; exact hjn)
        subst hAD
        have adl : ad.block < wr.heap.size := by
          obtain ⟨ad', h1, h2, -⟩ := (HL.out _ HB.out).2 (by intro h; rw [h] at ex; have h := ex.out; simp at h)
          rw [Option.some.inj h1]
          exact h2
        have hrm1 : (i : Int) % (n : Int) = (j : Int) := by rw [← hj.out]; exact (Int.natCast_emod i n).symm
        have hrm2 : (i : Int).tmod (n : Int) = (j : Int) := by rw [Int.tmod_eq_emod_of_nonneg (by omega)]; exact hrm1
        have hj0 : (0 : Int) ≤ (j : Int) := by omega
        have hjl : (j : Int) < (n : Int) := by omega
        have hnz : ¬ (n : Int) = 0 := by omega
        clear ex
        have hsl := HSZ.out
        have HX := hide (fun W => HN.out (x) W)
        have HBI := hide (show i + 1 ≤ 1000000000000 by have := BS.out; omega)
        have HBS := hide (fun k : Nat => show w1.heap.size + 2 ≤ ((wr.alloc (.cells #[.int .i64 (k : Int)] 3)).drew).heap.size by have := HSZ.out; simp [World.drew]; omega)
        have HOW := hide (fun k : Nat => (HO.out.alloc (.cells #[.int .i64 (k : Int)] 3)).drew)
        have HRI := hide (fun (k : Nat) (h : k < 1000000) => show Ri ((wr.alloc (.cells #[.int .i64 (k : Int)] 3)).drew) (some ⟨wr.heap.size, 0, none⟩) [(k : Int)] from ri_drews (new_ri wr 3 [(k : Int)] (by intro q hq; simp at hq; omega)) 1)
        have HGX := hide (fun (k : Nat) (w' : World) (h2 : ((wr.alloc (.cells #[.int .i64 (k : Int)] 3)).drew).grownBy w' v.ownBlock) => (show Has ((wr.alloc (.cells #[.int .i64 (k : Int)] 3)).drew) (w1.heap.size + 1) 26 [.slice (some ⟨w1.heap.size, 0, none⟩) 2 2, .bool true, v] from (BX.out.alloc (.cells #[.int .i64 (k : Int)] 3)).drewN 1).grown h2 (own_apart HO.out (by omega)))
        have HGS := hide (fun (k : Nat) (w' : World) (h2 : ((wr.alloc (.cells #[.int .i64 (k : Int)] 3)).drew).grownBy w' v.ownBlock) => (show Has ((wr.alloc (.cells #[.int .i64 (k : Int)] 3)).drew) w1.heap.size 3 (i64s [(M : Int), (N : Int)]) from (SH.out.alloc (.cells #[.int .i64 (k : Int)] 3)).drewN 1).grown h2 (own_apart HO.out (by omega)))
        have HGB := hide (fun (k : Nat) (w' : World) (h2 : ((wr.alloc (.cells #[.int .i64 (k : Int)] 3)).drew).grownBy w' v.ownBlock) => elm_grown ((HB.out.alloc HB.out.size (.cells #[.int .i64 (k : Int)] 3)).drew) (own_le (HOW.out k) (by have := HWS1.out; omega)) ((HB.out.alloc HB.out.size (.cells #[.int .i64 (k : Int)] 3)).drew).size h2)
        go_wp2_with fail
        go_region_law (first
          | (go_simp; go_at_call 36; refine (HX.out _).mono ?_; rintro e wq ⟨⟨k, hk, rfl⟩, hw⟩; have hw := hw.symm; subst hw; have hk0 : (0 : Int) ≤ (k : Int) := (by omega); have hk1 : (k : Int) < 1000000 := (by omega); have HKK := hide hk; have dal : (wr.alloc (.cells #[.int .i64 (k : Int)] 3)).cell? ⟨w1.heap.size + 1, 2, none⟩ = some v := (BX.out.alloc (.cells #[.int .i64 (k : Int)] 3)).cell 2)
          | (refine step_append_is rfl (.tmp 60) (.tmp 63) rfl (w1.heap.size + 2) v i (i64s ds) (by first | rfl | simp [Act.eval]) (HOW.out k) (some ⟨wr.heap.size, 0, none⟩) 1 1 [(k : Int)] (by first | rfl | simp [Act.eval]) (hide rfl) (HRI.out _ HKK.out) HBI.out (HBS.out _) (fun v' w' h1 h2 h3 => ?_); obtain ⟨Pn, cn, hvn⟩ := own_slice h1; subst hvn; have H1 := hide h1; have H2 := hide h2; have hbx := HGX.out _ _ h2; have d2 : w'.cell? ⟨w1.heap.size + 1, 2, none⟩ = some v := hbx.cell 2; have f2 := hbx.frozen 2; clear h1 h2 h3 hbx))
        all_goals go_ways
        all_goals
          go_wp2_with fail
          go_roundg (S - (i + 1))
          case measure => omega
          case rel =>
            have hbx := HGX.out _ _ H2.out
            have hsh := HGS.out _ _ H2.out
            have hhb := HGB.out _ _ H2.out
            have hbs := hbx.set_ 2 (.slice Pn (i + 1) cn)
            refine ⟨i + 1, ds ++ [(k : Int)], .slice Pn (i + 1) cn, by omega, by go_num, hide ?_, hide hbs, hide (hsh.far (by simp) _), hide (own_set (by rw [show i64s (ds ++ [(k : Int)]) = i64s ds ++ i64s [(k : Int)] from List.map_append]; exact H1.out) (by simp) _), hide (hhb.setCell (by simp; have := HWS1.out; omega) _), hide ?_⟩
            · intro d hd
              rcases List.mem_append.1 hd with hd | hd
              · exact HD.out d hd
              · rw [List.mem_singleton.1 hd]
                have := HKK.out
                exact ⟨by omega, by omega⟩
            · have := hbs.lt
              omega
    · obtain rfl : S = i := by omega
      have hii : ¬ (S : Int) < (S : Int) := by omega
      obtain ⟨DD, dc, rfl, hRD, hlen⟩ := own_ri HO.out (fun d hd => wf_i64 d (by have := HD.out d hd; omega))
      have hcap := own_caps HO.out
      obtain ⟨a, ea⟩ : ∃ a : Ten, Hid (a = ⟨some ⟨w1.heap.size, 0, none⟩, [(M : Int), (N : Int)], 2, true, DD, ds, dc⟩) := ⟨_, hide rfl⟩
      obtain ⟨wc, hwc⟩ : ∃ W, W = wr := ⟨_, rfl⟩
      subst hwc
      have TA : Hid (a.In wc) := hide (by rw [ea.out]; exact ⟨SH.out.ri (by intro q hq; have := BM.out; have := BN.out; simp at hq; rcases hq with rfl | rfl <;> exact wf_i64 _ (by omega)), hRD, by show 2 ≤ 1000000; omega, by show ds.length ≤ 1000000; have := BS.out; omega⟩)
      have BA : Hid (Has wc (w1.heap.size + 1) 26 [.slice a.P a.zs.length a.cap, .bool a.u, .slice a.D a.ds.length a.dcap]) := hide (by have h := BX.out; rw [ea.out]; show Has wc (w1.heap.size + 1) 26 [.slice (some ⟨w1.heap.size, 0, none⟩) 2 2, .bool true, .slice DD ds.length dc]; rw [hlen]; exact h)
      have IA : Hid (Mat.Is a M N true) := hide ⟨by rw [ea.out], by rw [ea.out], by rw [ea.out, hS.out]; exact hlen, fun z hz => by rw [ea.out] at hz; exact Tens.fit_wide (HD.out z hz)⟩
      have CA : Hid (a.ds.length ≤ a.dcap) := hide (by rw [ea.out]; show ds.length ≤ dc; rw [hlen]; exact hcap)
      clear ea BX SH hRD hlen hcap HD HO HSZ
      have c_BA0 := BA.out.cell 0
      have c_BA1 := BA.out.cell 1
      have c_BA2 := BA.out.cell 2
      have l_BA := BA.out.lt
      obtain ⟨d1, hd1⟩ : ∃ W, W = wc.alloc (.cells #[.slice a.P a.zs.length a.cap, .bool a.u, .slice a.D a.ds.length a.dcap] 26) := ⟨_, rfl⟩
      have hbA : Below wc.heap.size wc d1 := by rw [hd1]; exact (Below.refl _ _).alloc (Nat.le_refl _) _
      have RA : Hid (Has d1 wc.heap.size 26 [.slice a.P a.zs.length a.cap, .bool a.u, .slice a.D a.ds.length a.dcap]) := hide (by rw [hd1]; exact Has.new _ _ _)
      replace HB := hide (HB.out.trans (hbA.mono HB.out.size))
      replace TA := hide (TA.out.below hbA)
      replace BA := hide (BA.out.below hbA BA.out.lt)
      have Hd1 := hide hd1
      clear hd1 hbA
      go_wp2_with fail
      rw [← Hd1.out]
      clear Hd1 c_BA0 c_BA1 c_BA2 l_BA
      refine (opapply_turn IA.out ⟨BM.out.1, by have := BM.out; omega⟩ ⟨BN.out.1, by have := BN.out; omega⟩ _ 1 ah am ar ak _ RA.out.row TA.out (HE.out _ HB.out) (HK.out _ HB.out)).mono ?_
      rintro e d2 ⟨⟨t, rfl, ht, htz, htu, htd, htc⟩, hb⟩
      replace HB := hide (HB.out.trans (hb.mono HB.out.size))
      replace TA := hide (TA.out.below hb)
      replace BA := hide (BA.out.below hb BA.out.lt)
      replace RA := hide (RA.out.below hb RA.out.lt)
      clear hb
      have TT := hide ht
      have ZT := hide htz
      have UT := hide htu
      have DT := hide htd
      have CT := hide htc
      clear ht htz htu htd htc
      clear RA
      have IT : Hid (Mat.Is t N M true) := hide (Mat.turn_is t IA.out ZT.out UT.out DT.out)
      obtain ⟨d3, hd3⟩ : ∃ W, W = d2.alloc (.cells #[.slice t.P t.zs.length t.cap, .bool t.u, .slice t.D t.ds.length t.dcap] 26) := ⟨_, rfl⟩
      have hbA : Below d2.heap.size d2 d3 := by rw [hd3]; exact (Below.refl _ _).alloc (Nat.le_refl _) _
      have BT : Hid (Has d3 d2.heap.size 26 [.slice t.P t.zs.length t.cap, .bool t.u, .slice t.D t.ds.length t.dcap]) := hide (by rw [hd3]; exact Has.new _ _ _)
      replace HB := hide (HB.out.trans (hbA.mono HB.out.size))
      replace TA := hide (TA.out.below hbA)
      replace BA := hide (BA.out.below hbA BA.out.lt)
      replace TT := hide (TT.out.below hbA)
      have Hd3 := hide hd3
      clear hd3 hbA
      obtain ⟨d4, hd4⟩ : ∃ W, W = d3.alloc (.cells #[.slice t.P t.zs.length t.cap, .bool t.u, .slice t.D t.ds.length t.dcap] 26) := ⟨_, rfl⟩
      have hbA : Below d3.heap.size d3 d4 := by rw [hd4]; exact (Below.refl _ _).alloc (Nat.le_refl _) _
      have RT : Hid (Has d4 (d2.heap.size + 1) 26 [.slice t.P t.zs.length t.cap, .bool t.u, .slice t.D t.ds.length t.dcap]) := hide (by rw [hd4]; exact box_at _ _ _ _ (by rw [Hd3.out]; simp))
      replace HB := hide (HB.out.trans (hbA.mono HB.out.size))
      replace TA := hide (TA.out.below hbA)
      replace BA := hide (BA.out.below hbA BA.out.lt)
      replace TT := hide (TT.out.below hbA)
      replace BT := hide (BT.out.below hbA BT.out.lt)
      have Hd4 := hide hd4
      clear hd4 hbA
      go_wp2_with fail
      rw [← Hd3.out]
      rw [← Hd4.out]
      clear Hd3 Hd4
      refine (opapply_turn IT.out ⟨BN.out.1, by have := BN.out; omega⟩ ⟨BM.out.1, by have := BM.out; omega⟩ _ 1 ah am ar ak _ RT.out.row TT.out (HE.out _ HB.out) (HK.out _ HB.out)).mono ?_
      rintro e d5 ⟨⟨tt, rfl, htt, httz, httu, httd, httc⟩, hb⟩
      replace HB := hide (HB.out.trans (hb.mono HB.out.size))
      replace TA := hide (TA.out.below hb)
      replace BA := hide (BA.out.below hb BA.out.lt)
      replace TT := hide (TT.out.below hb)
      replace BT := hide (BT.out.below hb BT.out.lt)
      replace RT := hide (RT.out.below hb RT.out.lt)
      clear hb
      have TQ := hide htt
      have ZQ := hide httz
      have UQ := hide httu
      have DQ := hide httd
      have CQ := hide httc
      clear htt httz httu httd httc
      clear RT
      have EQ : Hid (a.ds = tt.ds) := hide (by rw [DQ.out, DT.out]; exact (Mat.turn_back a.ds M N IA.out.len).symm)
      have hwv := Hwv.out
      have x0 : ((d5.alloc (.cells #[.slice tt.P tt.zs.length tt.cap, .bool tt.u, .slice tt.D tt.ds.length tt.dcap] 26)).alloc (.cells #[.int .i64 S] 3)).cell? ⟨w1.heap.size + 1, 0, none⟩ = some (.slice a.P a.zs.length a.cap) := ((BA.out.alloc _).alloc _).cell 0
      have x1 : ((d5.alloc (.cells #[.slice tt.P tt.zs.length tt.cap, .bool tt.u, .slice tt.D tt.ds.length tt.dcap] 26)).alloc (.cells #[.int .i64 S] 3)).cell? ⟨w1.heap.size + 1, 1, none⟩ = some (.bool a.u) := ((BA.out.alloc _).alloc _).cell 1
      have x2 : ((d5.alloc (.cells #[.slice tt.P tt.zs.length tt.cap, .bool tt.u, .slice tt.D tt.ds.length tt.dcap] 26)).alloc (.cells #[.int .i64 S] 3)).cell? ⟨w1.heap.size + 1, 2, none⟩ = some (.slice a.D a.ds.length a.dcap) := ((BA.out.alloc _).alloc _).cell 2
      obtain ⟨d6, hd6⟩ : ∃ W, W = d5.alloc (.cells #[.slice tt.P tt.zs.length tt.cap, .bool tt.u, .slice tt.D tt.ds.length tt.dcap] 26) := ⟨_, rfl⟩
      have hbA : Below d5.heap.size d5 d6 := by rw [hd6]; exact (Below.refl _ _).alloc (Nat.le_refl _) _
      have BQ : Hid (Has d6 d5.heap.size 26 [.slice tt.P tt.zs.length tt.cap, .bool tt.u, .slice tt.D tt.ds.length tt.dcap]) := hide (by rw [hd6]; exact Has.new _ _ _)
      replace HB := hide (HB.out.trans (hbA.mono HB.out.size))
      replace TA := hide (TA.out.below hbA)
      replace BA := hide (BA.out.below hbA BA.out.lt)
      replace TT := hide (TT.out.below hbA)
      replace BT := hide (BT.out.below hbA BT.out.lt)
      replace TQ := hide (TQ.out.below hbA)
      have Hd6 := hide hd6
      clear hd6 hbA
      obtain ⟨d7, hd7⟩ : ∃ W, W = d6.alloc (.cells #[.int .i64 S] 3) := ⟨_, rfl⟩
      have hbA : Below d6.heap.size d6 d7 := by rw [hd7]; exact (Below.refl _ _).alloc (Nat.le_refl _) _
      have XS : Hid (Has d7 (d5.heap.size + 1) 3 [.int .i64 S]) := hide (by rw [hd7]; exact box_at _ _ _ _ (by rw [Hd6.out]; simp))
      replace HB := hide (HB.out.trans (hbA.mono HB.out.size))
      replace TA := hide (TA.out.below hbA)
      replace BA := hide (BA.out.below hbA BA.out.lt)
      replace TT := hide (TT.out.below hbA)
      replace BT := hide (BT.out.below hbA BT.out.lt)
      replace TQ := hide (TQ.out.below hbA)
      replace BQ := hide (BQ.out.below hbA BQ.out.lt)
      have Hd7 := hide hd7
      clear hd7 hbA
      obtain ⟨d8, hd8⟩ : ∃ W, W = d7.alloc (.cells #[.slice a.P a.zs.length a.cap, .bool a.u, .slice a.D a.ds.length a.dcap] 26) := ⟨_, rfl⟩
      have hbA : Below d7.heap.size d7 d8 := by rw [hd8]; exact (Below.refl _ _).alloc (Nat.le_refl _) _
      have RA : Hid (Has d8 (d5.heap.size + 2) 26 [.slice a.P a.zs.length a.cap, .bool a.u, .slice a.D a.ds.length a.dcap]) := hide (by rw [hd8]; exact box_at _ _ _ _ (by rw [Hd7.out, Hd6.out]; simp))
      replace HB := hide (HB.out.trans (hbA.mono HB.out.size))
      replace TA := hide (TA.out.below hbA)
      replace BA := hide (BA.out.below hbA BA.out.lt)
      replace TT := hide (TT.out.below hbA)
      replace BT := hide (BT.out.below hbA BT.out.lt)
      replace TQ := hide (TQ.out.below hbA)
      replace BQ := hide (BQ.out.below hbA BQ.out.lt)
      replace XS := hide (XS.out.below hbA XS.out.lt)
      have Hd8 := hide hd8
      clear hd8 hbA
      go_wp2_with fail
      rw [← Hd6.out]
      rw [← Hd7.out]
      rw [← Hd8.out]
      clear Hd6 Hd7 Hd8
      clear hwv x0 x1 x2
      have FA : Hid (a.fault = (0, none)) := hide (IA.out.fault BM.out.1 (by have := BM.out; omega) BN.out.1 (by have := BN.out; omega))
      have LA : Hid (a.ds.length = S) := hide (IA.out.len.trans hS.out)
      have hcs : Shp.code [(S : Int)] = 0 ∧ (S : Int) = Shp.elems [(S : Int)] := by
        have h := BS.out
        have hp : Shp.prod [(S : Int)] = (S : Int) := by simp [Shp.prod]
        have hk : Shp.code [(S : Int)] = 0 := by
          unfold Shp.code
          rw [if_neg (by show ¬ 4 < 1; omega), if_neg (by simp [Shp.okDim]; omega), if_neg (by rw [hp]; omega)]
        exact ⟨hk, by rw [(Shp.whole hk).2.2.1, hp]⟩
      have HCS := hide hcs
      have hms := Mat.prod_two M N BM.out.1 (by have := BM.out; omega) BN.out.1 (by have := BN.out; omega) (by rw [hS.out]; have := BS.out; omega)
      rw [hS.out] at hms
      have HMS := hide hms
      clear hcs hms
      refine (opapply_shape (zs := [(S : Int)]) FA.out HCS.out.1 (by rw [LA.out]; exact HCS.out.2) (by rw [LA.out]; exact BS.out.1) CA.out _ _ 1 1 1 rfl ah am ar ak _ (XS.out.ri (zs := [(S : Int)]) (by intro q hq; rw [List.mem_singleton.1 hq]; have := BS.out; exact wf_i64 _ (by omega))) RA.out.row TA.out (HE.out _ HB.out) (HK.out _ HB.out)).mono ?_
      rintro e d9 ⟨⟨f, rfl, hf, hfz, hfu, hfd, hfc⟩, hb⟩
      replace HB := hide (HB.out.trans (hb.mono HB.out.size))
      replace TA := hide (TA.out.below hb)
      replace BA := hide (BA.out.below hb BA.out.lt)
      replace TT := hide (TT.out.below hb)
      replace BT := hide (BT.out.below hb BT.out.lt)
      replace TQ := hide (TQ.out.below hb)
      replace BQ := hide (BQ.out.below hb BQ.out.lt)
      replace XS := hide (XS.out.below hb XS.out.lt)
      replace RA := hide (RA.out.below hb RA.out.lt)
      clear hb
      have TF := hide hf
      have ZF := hide hfz
      have UF := hide hfu
      have DF := hide hfd
      have CF := hide hfc
      clear hf hfz hfu hfd hfc
      clear RA XS
      have FF : Hid (f.fault = (0, none)) := hide (by
        have h : f.ds.length = S := by rw [DF.out]; exact LA.out
        show Tens.fault f.zs f.u f.ds = (0, none)
        rw [ZF.out, UF.out, DF.out]
        have hk := HCS.out
        have hf := (Tens.whole FA.out).2.2
        exact Tens.fault_none _ _ _ hk.1 (by rw [LA.out]; exact hk.2) (fun j y hy => hf y (List.mem_of_getElem? hy)))
      have LF : Hid (f.ds.length = S) := hide (by rw [DF.out]; exact LA.out)
      have x0 : ((d9.alloc (.cells #[.slice f.P f.zs.length f.cap, .bool f.u, .slice f.D f.ds.length f.dcap] 26)).alloc (.cells #[.int .i64 M, .int .i64 N] 3)).cell? ⟨d9.heap.size, 0, none⟩ = some (.slice f.P f.zs.length f.cap) := ((Has.new d9 26 [.slice f.P f.zs.length f.cap, .bool f.u, .slice f.D f.ds.length f.dcap]).alloc _).cell 0
      have x1 : ((d9.alloc (.cells #[.slice f.P f.zs.length f.cap, .bool f.u, .slice f.D f.ds.length f.dcap] 26)).alloc (.cells #[.int .i64 M, .int .i64 N] 3)).cell? ⟨d9.heap.size, 1, none⟩ = some (.bool f.u) := ((Has.new d9 26 [.slice f.P f.zs.length f.cap, .bool f.u, .slice f.D f.ds.length f.dcap]).alloc _).cell 1
      have x2 : ((d9.alloc (.cells #[.slice f.P f.zs.length f.cap, .bool f.u, .slice f.D f.ds.length f.dcap] 26)).alloc (.cells #[.int .i64 M, .int .i64 N] 3)).cell? ⟨d9.heap.size, 2, none⟩ = some (.slice f.D f.ds.length f.dcap) := ((Has.new d9 26 [.slice f.P f.zs.length f.cap, .bool f.u, .slice f.D f.ds.length f.dcap]).alloc _).cell 2
      obtain ⟨d10, hd10⟩ : ∃ W, W = d9.alloc (.cells #[.slice f.P f.zs.length f.cap, .bool f.u, .slice f.D f.ds.length f.dcap] 26) := ⟨_, rfl⟩
      have hbA : Below d9.heap.size d9 d10 := by rw [hd10]; exact (Below.refl _ _).alloc (Nat.le_refl _) _
      have BF : Hid (Has d10 d9.heap.size 26 [.slice f.P f.zs.length f.cap, .bool f.u, .slice f.D f.ds.length f.dcap]) := hide (by rw [hd10]; exact Has.new _ _ _)
      replace HB := hide (HB.out.trans (hbA.mono HB.out.size))
      replace TA := hide (TA.out.below hbA)
      replace BA := hide (BA.out.below hbA BA.out.lt)
      replace TT := hide (TT.out.below hbA)
      replace BT := hide (BT.out.below hbA BT.out.lt)
      replace TQ := hide (TQ.out.below hbA)
      replace BQ := hide (BQ.out.below hbA BQ.out.lt)
      replace TF := hide (TF.out.below hbA)
      have Hd10 := hide hd10
      clear hd10 hbA
      obtain ⟨d11, hd11⟩ : ∃ W, W = d10.alloc (.cells #[.int .i64 M, .int .i64 N] 3) := ⟨_, rfl⟩
      have hbA : Below d10.heap.size d10 d11 := by rw [hd11]; exact (Below.refl _ _).alloc (Nat.le_refl _) _
      have XM : Hid (Has d11 (d9.heap.size + 1) 3 [.int .i64 M, .int .i64 N]) := hide (by rw [hd11]; exact box_at _ _ _ _ (by rw [Hd10.out]; simp))
      replace HB := hide (HB.out.trans (hbA.mono HB.out.size))
      replace TA := hide (TA.out.below hbA)
      replace BA := hide (BA.out.below hbA BA.out.lt)
      replace TT := hide (TT.out.below hbA)
      replace BT := hide (BT.out.below hbA BT.out.lt)
      replace TQ := hide (TQ.out.below hbA)
      replace BQ := hide (BQ.out.below hbA BQ.out.lt)
      replace TF := hide (TF.out.below hbA)
      replace BF := hide (BF.out.below hbA BF.out.lt)
      have Hd11 := hide hd11
      clear hd11 hbA
      obtain ⟨d12, hd12⟩ : ∃ W, W = d11.alloc (.cells #[.slice f.P f.zs.length f.cap, .bool f.u, .slice f.D f.ds.length f.dcap] 26) := ⟨_, rfl⟩
      have hbA : Below d11.heap.size d11 d12 := by rw [hd12]; exact (Below.refl _ _).alloc (Nat.le_refl _) _
      have RF : Hid (Has d12 (d9.heap.size + 2) 26 [.slice f.P f.zs.length f.cap, .bool f.u, .slice f.D f.ds.length f.dcap]) := hide (by rw [hd12]; exact box_at _ _ _ _ (by rw [Hd11.out, Hd10.out]; simp))
      replace HB := hide (HB.out.trans (hbA.mono HB.out.size))
      replace TA := hide (TA.out.below hbA)
      replace BA := hide (BA.out.below hbA BA.out.lt)
      replace TT := hide (TT.out.below hbA)
      replace BT := hide (BT.out.below hbA BT.out.lt)
      replace TQ := hide (TQ.out.below hbA)
      replace BQ := hide (BQ.out.below hbA BQ.out.lt)
      replace TF := hide (TF.out.below hbA)
      replace BF := hide (BF.out.below hbA BF.out.lt)
      replace XM := hide (XM.out.below hbA XM.out.lt)
      have Hd12 := hide hd12
      clear hd12 hbA
      go_wp2_with fail
      rw [← Hd10.out]
      rw [← Hd11.out]
      rw [← Hd12.out]
      clear Hd10 Hd11 Hd12
      clear x0 x1 x2
      refine (opapply_shape (zs := [(M : Int), (N : Int)]) FF.out HMS.out.1 (by rw [LF.out]; exact HMS.out.2.symm) (by rw [LF.out]; exact BS.out.1) CF.out _ _ 2 2 1 rfl ah am ar ak _ (XM.out.ri (zs := [(M : Int), (N : Int)]) (by intro q hq; have := BM.out; have := BN.out; simp at hq; rcases hq with rfl | rfl <;> exact wf_i64 _ (by omega))) RF.out.row TF.out (HE.out _ HB.out) (HK.out _ HB.out)).mono ?_
      rintro e d13 ⟨⟨rs, rfl, hrs, hrsz, hrsu, hrsd, hrsc⟩, hb⟩
      replace HB := hide (HB.out.trans (hb.mono HB.out.size))
      replace TA := hide (TA.out.below hb)
      replace BA := hide (BA.out.below hb BA.out.lt)
      replace TT := hide (TT.out.below hb)
      replace BT := hide (BT.out.below hb BT.out.lt)
      replace TQ := hide (TQ.out.below hb)
      replace BQ := hide (BQ.out.below hb BQ.out.lt)
      replace TF := hide (TF.out.below hb)
      replace BF := hide (BF.out.below hb BF.out.lt)
      replace XM := hide (XM.out.below hb XM.out.lt)
      replace RF := hide (RF.out.below hb RF.out.lt)
      clear hb
      have TB := hide hrs
      have ZB := hide hrsz
      have UB := hide hrsu
      have DB := hide hrsd
      have CB := hide hrsc
      clear hrs hrsz hrsu hrsd hrsc
      clear RF XM
      have c_BA0 := BA.out.cell 0
      have c_BA1 := BA.out.cell 1
      have c_BA2 := BA.out.cell 2
      have l_BA := BA.out.lt
      have c_BQ0 := BQ.out.cell 0
      have c_BQ1 := BQ.out.cell 1
      have c_BQ2 := BQ.out.cell 2
      have l_BQ := BQ.out.lt
      obtain ⟨d14, hd14⟩ : ∃ W, W = d13.alloc (.cells #[.slice rs.P rs.zs.length rs.cap, .bool rs.u, .slice rs.D rs.ds.length rs.dcap] 26) := ⟨_, rfl⟩
      have hbA : Below d13.heap.size d13 d14 := by rw [hd14]; exact (Below.refl _ _).alloc (Nat.le_refl _) _
      have BB : Hid (Has d14 d13.heap.size 26 [.slice rs.P rs.zs.length rs.cap, .bool rs.u, .slice rs.D rs.ds.length rs.dcap]) := hide (by rw [hd14]; exact Has.new _ _ _)
      replace HB := hide (HB.out.trans (hbA.mono HB.out.size))
      replace TA := hide (TA.out.below hbA)
      replace BA := hide (BA.out.below hbA BA.out.lt)
      replace TT := hide (TT.out.below hbA)
      replace BT := hide (BT.out.below hbA BT.out.lt)
      replace TQ := hide (TQ.out.below hbA)
      replace BQ := hide (BQ.out.below hbA BQ.out.lt)
      replace TF := hide (TF.out.below hbA)
      replace BF := hide (BF.out.below hbA BF.out.lt)
      replace TB := hide (TB.out.below hbA)
      have Hd14 := hide hd14
      clear hd14 hbA
      go_wp2_with fail
      rw [← Hd14.out]
      clear Hd14 c_BA0 c_BA1 c_BA2 l_BA c_BQ0 c_BQ1 c_BQ2 l_BQ
      refine (rsame_good a tt _ TA.out TQ.out (IA.out.zs.trans ZQ.out.symm) (IA.out.hu.trans UQ.out.symm) EQ.out).mono ?_
      rintro e d15 ⟨rfl, hb⟩
      replace HB := hide (HB.out.trans (hb.mono HB.out.size))
      replace TA := hide (TA.out.below hb)
      replace BA := hide (BA.out.below hb BA.out.lt)
      replace TT := hide (TT.out.below hb)
      replace BT := hide (BT.out.below hb BT.out.lt)
      replace TQ := hide (TQ.out.below hb)
      replace BQ := hide (BQ.out.below hb BQ.out.lt)
      replace TF := hide (TF.out.below hb)
      replace BF := hide (BF.out.below hb BF.out.lt)
      replace TB := hide (TB.out.below hb)
      replace BB := hide (BB.out.below hb BB.out.lt)
      clear hb
      have c_BA0 := BA.out.cell 0
      have c_BA1 := BA.out.cell 1
      have c_BA2 := BA.out.cell 2
      have c_BB0 := BB.out.cell 0
      have c_BB1 := BB.out.cell 1
      have c_BB2 := BB.out.cell 2
      go_wp2_with fail
      clear c_BA0 c_BA1 c_BA2 c_BB0 c_BB1 c_BB2
      refine (rsame_good a rs _ TA.out TB.out (IA.out.zs.trans ZB.out.symm) (by rw [UB.out, UF.out]) (by rw [DB.out, DF.out])).mono ?_
      rintro e d16 ⟨rfl, hb⟩
      replace HB := hide (HB.out.trans (hb.mono HB.out.size))
      replace TA := hide (TA.out.below hb)
      replace BA := hide (BA.out.below hb BA.out.lt)
      replace TT := hide (TT.out.below hb)
      replace BT := hide (BT.out.below hb BT.out.lt)
      replace TQ := hide (TQ.out.below hb)
      replace BQ := hide (BQ.out.below hb BQ.out.lt)
      replace TF := hide (TF.out.below hb)
      replace BF := hide (BF.out.below hb BF.out.lt)
      replace TB := hide (TB.out.below hb)
      replace BB := hide (BB.out.below hb BB.out.lt)
      clear hb
      have c_BT0 := BT.out.cell 0
      have l_BT := BT.out.lt
      obtain ⟨d17, hd17⟩ : ∃ W, W = d16.alloc (.cells #[.int .i64 N, .int .i64 M] 3) := ⟨_, rfl⟩
      have hbA : Below d16.heap.size d16 d17 := by rw [hd17]; exact (Below.refl _ _).alloc (Nat.le_refl _) _
      have XN : Hid (Has d17 d16.heap.size 3 [.int .i64 N, .int .i64 M]) := hide (by rw [hd17]; exact Has.new _ _ _)
      replace HB := hide (HB.out.trans (hbA.mono HB.out.size))
      replace TA := hide (TA.out.below hbA)
      replace BA := hide (BA.out.below hbA BA.out.lt)
      replace TT := hide (TT.out.below hbA)
      replace BT := hide (BT.out.below hbA BT.out.lt)
      replace TQ := hide (TQ.out.below hbA)
      replace BQ := hide (BQ.out.below hbA BQ.out.lt)
      replace TF := hide (TF.out.below hbA)
      replace BF := hide (BF.out.below hbA BF.out.lt)
      replace TB := hide (TB.out.below hbA)
      replace BB := hide (BB.out.below hbA BB.out.lt)
      have Hd17 := hide hd17
      clear hd17 hbA
      go_wp2_with fail
      rw [← Hd17.out]
      clear Hd17 c_BT0 l_BT
      refine (rints_good t.zs [(N : Int), (M : Int)] _ _ _ 2 _ 2 _ TT.out.shp (XN.out.ri (zs := [(N : Int), (M : Int)]) (by intro q hq; have := BM.out; have := BN.out; simp at hq; rcases hq with rfl | rfl <;> exact wf_i64 _ (by omega))) TT.out.ls ZT.out rfl rfl).mono ?_
      rintro e d18 ⟨rfl, hb⟩
      replace HB := hide (HB.out.trans (hb.mono HB.out.size))
      replace TA := hide (TA.out.below hb)
      replace BA := hide (BA.out.below hb BA.out.lt)
      replace TT := hide (TT.out.below hb)
      replace BT := hide (BT.out.below hb BT.out.lt)
      replace TQ := hide (TQ.out.below hb)
      replace BQ := hide (BQ.out.below hb BQ.out.lt)
      replace TF := hide (TF.out.below hb)
      replace BF := hide (BF.out.below hb BF.out.lt)
      replace TB := hide (TB.out.below hb)
      replace BB := hide (BB.out.below hb BB.out.lt)
      replace XN := hide (XN.out.below hb XN.out.lt)
      clear hb
      have c_BF2 := BF.out.cell 2
      have c_BA2 := BA.out.cell 2
      go_wp2_with fail
      clear c_BF2 c_BA2
      refine (rints_good f.ds a.ds _ _ _ _ _ _ _ TF.out.dat TA.out.dat TF.out.ld DF.out rfl rfl).mono ?_
      rintro e d19 ⟨rfl, hb⟩
      replace HB := hide (HB.out.trans (hb.mono HB.out.size))
      replace TA := hide (TA.out.below hb)
      replace BA := hide (BA.out.below hb BA.out.lt)
      replace TT := hide (TT.out.below hb)
      replace BT := hide (BT.out.below hb BT.out.lt)
      replace TQ := hide (TQ.out.below hb)
      replace BQ := hide (BQ.out.below hb BQ.out.lt)
      replace TF := hide (TF.out.below hb)
      replace BF := hide (BF.out.below hb BF.out.lt)
      replace TB := hide (TB.out.below hb)
      replace BB := hide (BB.out.below hb BB.out.lt)
      replace XN := hide (XN.out.below hb XN.out.lt)
      clear hb
      go_wp2_with fail
      go_ret
      exact ⟨rfl, HB.out⟩
end Go.Proofs.YtgdcfjmpjhlndaaDoor
