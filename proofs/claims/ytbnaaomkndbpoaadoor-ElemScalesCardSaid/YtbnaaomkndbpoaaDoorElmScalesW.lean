/-
  The law ElemScales, walked. By an AI agent. No person has read it.
-/
import Derived.Test.YtbnaaomkndbpoaaDoorElmScales
import Derived.Deep.RegionLaw
namespace Go.Proofs.YtbnaaomkndbpoaaDoor
open Go.RowKit

set_option maxRecDepth 100000 in
set_option maxHeartbeats 8000000 in
theorem scaleslaw_c (l : List Int) (A : Option Addr) (cap : Nat) (z0 m0 s0 : Int) (ah am ar ak : Addr) (w : World) (hr : Ri w A l) (hE : E4 w ah am ar ak) :
    Calls Tryd.prog 8 #[.slice A l.length cap, .int .i64 z0, .int .i64 m0, .int .i64 s0] w fun e w' => e = .returned (.bool true) ∧ Below w.heap.size w w' := by
  have HF := hide (first7_c ah am ar ak w hE)
  have HE := hide (fun W (hb : Below w.heap.size w W) => hE.below hb)
  have HL := hide (fun W (hb : Below w.heap.size w W) => hr.below hb)
  have HN := hide (fun x W => number_c x 256 (by decide) (by decide) 256 rfl W)
  have HM := hide (fun W => number_c m0 2147483648 (by decide) (by decide) 2147483648 rfl W)
  have HS := hide (fun W => number_c s0 63 (by decide) (by decide) 63 rfl W)
  obtain ⟨n, hn⟩ : ∃ n, Hid (l.length = n) := ⟨_, hide rfl⟩
  rw [hn.out]
  clear hr hE
  by_cases hbig : 100 < n
  case pos =>
    have hb2 : (100 : Int) < n := by omega
    clear hbig
    go_enter Tryd.func8, Tryd.ntmps8
    go_wp2_with fail
    refine HF.out.mono ?_
    rintro e w1 ⟨rfl, hb⟩
    have HB := hide hb
    have HWS1 := hide hb.size
    clear hb HF
    go_wp2_with fail
    go_ret
    exact ⟨rfl, HB.out⟩
  case neg =>
  have hn100 : (n : Int) ≤ 100 := by omega
  by_cases hz : n = 0
  case pos =>
    subst hz
    go_enter Tryd.func8, Tryd.ntmps8
    go_wp2_with fail
    refine HF.out.mono ?_
    rintro e w1 ⟨rfl, hb⟩
    have HB := hide hb
    have HWS1 := hide hb.size
    clear hb HF
    go_wp2_with fail
    go_ret
    exact ⟨rfl, HB.out⟩
  case neg =>
  have hn0 : ((n : Int) == 0) = false := by simp; omega
  have hnN : n ≤ 100 := by omega
  have hnP : 1 ≤ n := by omega
  clear hbig hz
  go_enter Tryd.func8, Tryd.ntmps8
  go_wp2_with fail
  refine HF.out.mono ?_
  rintro e w1 ⟨rfl, hb⟩
  have HB := hide hb
  have HWS1 := hide hb.size
  clear hb HF
  go_wp2_with fail
  refine (HN.out _ _).mono ?_
  rintro e wq ⟨⟨kz, hkz, rfl⟩, hw⟩
  have hw := hw.symm
  subst hw
  obtain ⟨Kz, hKz⟩ : ∃ K : Int, (kz : Int) = K := ⟨_, rfl⟩
  have h0z : 0 ≤ Kz := by omega
  have h1z : Kz < 256 := by omega
  rw [hKz]
  clear hKz hkz
  have b0z : -128 ≤ Kz - 128 := by omega
  have b1z : Kz - 128 ≤ 127 := by omega
  go_wp2_with fail
  clear h0z h1z
  generalize Kz - 128 = z at *
  refine (HM.out _).mono ?_
  rintro e wq ⟨⟨km, hkm, rfl⟩, hw⟩
  have hw := hw.symm
  subst hw
  obtain ⟨Km, hKm⟩ : ∃ K : Int, (km : Int) = K := ⟨_, rfl⟩
  have h0m : 0 ≤ Km := by omega
  have h1m : Km < 2147483648 := by omega
  rw [hKm]
  clear hKm hkm
  go_wp2_with fail
  refine (HS.out _).mono ?_
  rintro e wq ⟨⟨ks, hks, rfl⟩, hw⟩
  have hw := hw.symm
  subst hw
  obtain ⟨Ks, hKs⟩ : ∃ K : Int, (ks : Int) = K := ⟨_, rfl⟩
  have h0s : 0 ≤ Ks := by omega
  have h1s : Ks < 63 := by omega
  rw [hKs]
  clear hKs hks
  have HZB := hide (And.intro b0z b1z)
  have HMB := hide (And.intro h0m h1m)
  have HSB := hide (And.intro h0s h1s)
  clear b0z b1z h0m h1m h0s h1s HM HS
  obtain ⟨W, hW⟩ : ∃ W, W = (w1.alloc (.cells #[.int .i64 n] 3)).alloc (.cells #[.slice (some ⟨w1.heap.size, 0, none⟩) 1 1, .bool false, .slice none 0 0] 38) := ⟨_, rfl⟩
  have hBW : Below w1.heap.size w1 W := by rw [hW]; exact ((Below.refl _ _).alloc (Nat.le_refl _) _).alloc (by simp) _
  have SH : Hid (Has W w1.heap.size 3 [.int .i64 n]) := hide (by rw [hW]; exact (Has.new w1 3 [.int .i64 n]).alloc _)
  have BX : Hid (Has W (w1.heap.size + 1) 38 [.slice (some ⟨w1.heap.size, 0, none⟩) 1 1, .bool false, .slice none 0 0]) := hide (by rw [hW]; exact box_at _ _ _ _ (by simp))
  have hWs : W.heap.size = w1.heap.size + 2 := by rw [hW]; simp
  have HWS := hide hWs
  replace HB := hide (HB.out.trans (hBW.mono HB.out.size))
  have HW := hide hW
  have HW1 := hide hBW.size
  clear hW hBW hWs
  go_wp2_with fail
  rw [← HW.out]
  clear HW
  go_loopw [11] (fun k wr => ∃ i : Nat, i ≤ n ∧ k = .int .i64 i ∧ ∃ (ds : List Int) (v : Value), Hid (∀ d ∈ ds, -128 ≤ d ∧ d ≤ 127) ∧ Hid (Has wr (w1.heap.size + 1) 38 [.slice (some ⟨w1.heap.size, 0, none⟩) 1 1, .bool false, v]) ∧ Hid (Has wr w1.heap.size 3 [.int .i64 n]) ∧ Hid (wr.ownsRow (w1.heap.size + 2) 3 1 v i (i64s ds)) ∧ Hid (Below w.heap.size w wr) ∧ Hid (w1.heap.size + 2 ≤ wr.heap.size)) (fun k _ => n - (intOf k).toNat)
  case atStart => exact ⟨0, by omega, rfl, [], _, hide (by simp), BX, SH, hide ⟨rfl, .inl ⟨rfl, rfl⟩⟩, HB, hide (by rw [HWS.out]; exact Nat.le_refl _)⟩
  case round =>
    clear BX SH HB HWS HW1
    obtain ⟨i, hi, rfl, ds, v, HD, BX, SH, HO, HB, HSZ⟩ := hrel
    by_cases hlt : i < n
    · obtain ⟨ad, x, hAD, ex, cx⟩ := ri_at (HL.out _ HB.out) i (by rw [hn.out]; exact hlt)
      subst hAD
      have him : (i : Int) < n := by omega
      have hi0 : (0 : Int) ≤ (i : Int) := by omega
      have c2 : wr.cell? ⟨w1.heap.size + 1, 2, none⟩ = some v := BX.out.cell 2
      have adl : ad.block < wr.heap.size := by
        obtain ⟨ad', h1, h2, -⟩ := (HL.out _ HB.out).2 (by intro h; rw [h] at ex; have h := ex.out; simp at h)
        rw [Option.some.inj h1]
        exact h2
      have hsl := HSZ.out
      have HI := hide hi
      have HX := hide (fun W => HN.out x W)
      have HBI := hide (show i + 1 ≤ 1000000000000 by omega)
      have HBS := hide (fun k : Int => show w1.heap.size + 2 ≤ ((wr.alloc (.cells #[.int .i64 k] 3)).drew).heap.size by have := HSZ.out; simp [World.drew]; omega)
      have HOW := hide (fun k : Int => (HO.out.alloc (.cells #[.int .i64 k] 3)).drew)
      have HRI := hide (fun (k : Int) (h : -128 ≤ k ∧ k ≤ 127) => show Ri ((wr.alloc (.cells #[.int .i64 k] 3)).drew) (some ⟨wr.heap.size, 0, none⟩) [k] from ri_drew (new_ri wr 3 [k] (by intro q hq; simp at hq; omega)) 1)
      have HGX := hide (fun (k : Int) (w' : World) (h2 : ((wr.alloc (.cells #[.int .i64 k] 3)).drew).grownBy w' v.ownBlock) => (show Has ((wr.alloc (.cells #[.int .i64 k] 3)).drew) (w1.heap.size + 1) 38 [.slice (some ⟨w1.heap.size, 0, none⟩) 1 1, .bool false, v] from (BX.out.alloc (.cells #[.int .i64 k] 3)).drewN 1).grown h2 (own_apart HO.out (by omega)))
      have HGS := hide (fun (k : Int) (w' : World) (h2 : ((wr.alloc (.cells #[.int .i64 k] 3)).drew).grownBy w' v.ownBlock) => (show Has ((wr.alloc (.cells #[.int .i64 k] 3)).drew) w1.heap.size 3 [.int .i64 n] from (SH.out.alloc (.cells #[.int .i64 k] 3)).drewN 1).grown h2 (own_apart HO.out (by omega)))
      have HGB := hide (fun (k : Int) (w' : World) (h2 : ((wr.alloc (.cells #[.int .i64 k] 3)).drew).grownBy w' v.ownBlock) => elm_grown ((HB.out.alloc HB.out.size (.cells #[.int .i64 k] 3)).drew) (own_le (HOW.out k) (by have := HWS1.out; omega)) ((HB.out.alloc HB.out.size (.cells #[.int .i64 k] 3)).drew).size h2)
      clear hi ex
      go_wp2_with fail
      go_region_law (first
        | (go_simp; go_at_call 23; refine (HX.out _).mono ?_; rintro e wq ⟨⟨k, hk, rfl⟩, hw⟩; have hw := hw.symm; subst hw; have hk0 : (0 : Int) ≤ k := (by omega); have hk1 : (k : Int) < 256 := (by omega); have HKK := hide (show -128 ≤ IntKind.i64.wrap ((k : Int) - 128) ∧ IntKind.i64.wrap ((k : Int) - 128) ≤ 127 from (by rw [IntKind.wrap_i64]; omega)); have dal : (wr.alloc (.cells #[.int .i64 (IntKind.i64.wrap ((k : Int) - 128))] 3)).cell? ⟨w1.heap.size + 1, 2, none⟩ = some v := (BX.out.alloc (.cells #[.int .i64 (IntKind.i64.wrap ((k : Int) - 128))] 3)).cell 2)
        | (refine step_append_is rfl (.tmp 54) (.tmp 61) rfl (w1.heap.size + 2) v i (i64s ds) (by first | rfl | simp [Act.eval]) (HOW.out (IntKind.i64.wrap ((k : Int) - 128))) (some ⟨wr.heap.size, 0, none⟩) 1 1 [IntKind.i64.wrap ((k : Int) - 128)] (by first | rfl | simp [Act.eval]) (hide rfl) (HRI.out _ HKK.out) HBI.out (HBS.out _) (fun v' w' h1 h2 h3 => ?_); obtain ⟨Pn, cn, hvn⟩ := own_slice h1; subst hvn; have H1 := hide h1; have H2 := hide h2; have hbx := HGX.out _ _ h2; have d2 : w'.cell? ⟨w1.heap.size + 1, 2, none⟩ = some v := hbx.cell 2; have f2 := hbx.frozen 2; clear h1 h2 h3 hbx))
      all_goals go_ways
      all_goals
        go_wp2_with fail
        go_roundw
        case rel =>
          have hbx := HGX.out _ _ H2.out
          have hsh := HGS.out _ _ H2.out
          have hhb := HGB.out _ _ H2.out
          have hsz := HSZ.out
          have hws := HWS1.out
          have hbs := hbx.set_ 2 (.slice Pn (i + 1) cn)
          refine ⟨i + 1, by omega, by go_num, ds ++ [IntKind.i64.wrap ((k : Int) - 128)], .slice Pn (i + 1) cn, hide ?_, hide hbs, hide (hsh.far (by simp) _), hide (own_set (by rw [show i64s (ds ++ [IntKind.i64.wrap ((k : Int) - 128)]) = i64s ds ++ i64s [IntKind.i64.wrap ((k : Int) - 128)] from List.map_append]; exact H1.out) (by simp) _), hide (hhb.setCell (by simp; omega) _), hide ?_⟩
          · intro d hd
            rcases List.mem_append.1 hd with hd | hd
            · exact HD.out d hd
            · rw [List.mem_singleton.1 hd]; exact HKK.out
          · have := hbs.lt
            omega
        case measure => simp [intOf]; omega
    · obtain rfl : i = n := by omega
      have nlt : ¬ ((i : Int) < i) := by omega
      obtain ⟨D, dc, rfl, hRD, hlen⟩ := own_ri HO.out (fun d hd => wf_i64 d (by have := HD.out d hd; omega))
      have HRD := hide hRD
      clear HO hi hlt hRD
      obtain ⟨a, ea⟩ : ∃ a : Ten, Hid (a = ⟨some ⟨w1.heap.size, 0, none⟩, [(i : Int)], 1, false, D, ds, dc⟩) := ⟨_, hide rfl⟩
      have TA : Hid (a.In wr) := hide (by rw [ea.out]; exact ⟨(show Has wr w1.heap.size 3 (i64s [(i : Int)]) from SH.out).ri (by intro q hq; rw [List.mem_singleton.1 hq]; exact wf_i64 _ (by omega)), HRD.out, by simp, by show ds.length ≤ 1000000; omega⟩)
      have A : Hid (Has wr (w1.heap.size + 1) 38 [.slice a.P a.zs.length a.cap, .bool a.u, .slice a.D a.ds.length a.dcap]) := hide (by rw [ea.out]; show Has wr (w1.heap.size + 1) 38 [.slice (some ⟨w1.heap.size, 0, none⟩) 1 1, .bool false, .slice D ds.length dc]; rw [hlen]; exact BX.out)
      have FA : Hid (a.fault = (0, none)) := hide (by rw [ea.out]; show Tens.fault [(i : Int)] false ds = (0, none); rw [← hlen]; exact row_fine ds false (by omega) (by omega) (fun d hd => decide_eq_true (HD.out d hd)))
      have AU : Hid (a.u = false) := hide (by rw [ea.out])
      have AD : Hid (a.ds = ds) := hide (by rw [ea.out])
      have HLEN := hide hlen
      clear ea BX SH HRD hlen
      have c_A0 := A.out.cell 0
      have c_A1 := A.out.cell 1
      have c_A2 := A.out.cell 2
      have l_A := A.out.lt
      obtain ⟨wa1, hwa1⟩ : ∃ W, W = wr.alloc (.cells #[.int .i64 z] 3) := ⟨_, rfl⟩
      have hbA : Below wr.heap.size wr wa1 := by rw [hwa1]; exact (Below.refl _ _).alloc (Nat.le_refl _) _
      have QA : Hid (Has wa1 wr.heap.size 3 [.int .i64 z]) := hide (by rw [hwa1]; exact Has.new _ _ _)
      replace A := hide (A.out.below hbA A.out.lt)
      replace HB := hide (HB.out.trans (hbA.mono HB.out.size))
      replace TA := hide (TA.out.below hbA)
      have Hwa1 := hide hwa1
      clear hwa1 hbA
      go_wp2_with fail
      rw [← Hwa1.out]
      clear Hwa1 c_A0 c_A1 c_A2 l_A
      refine (one_gen_c 11 (by decide) [z] FA.out rfl (by rw [AU.out]; exact decide_eq_true HZB.out) (fun h => absurd h (by decide)) (fun _ => AU.out) _ 1 ah am ar ak wa1 TA.out (show Ri _ _ [z] from (show Has _ _ 3 (i64s [z]) from QA.out).ri (by intro q hq; simp at hq; exact wf_i64 _ (by have := HZB.out; have := HMB.out; have := HSB.out; omega))) (HE.out _ HB.out)).mono ?_
      rintro e wa2 ⟨⟨s, rfl, hs, s1, s2, s3⟩, hb⟩
      replace A := hide (A.out.below hb A.out.lt)
      replace HB := hide (HB.out.trans (hb.mono HB.out.size))
      replace TA := hide (TA.out.below hb)
      replace QA := hide (QA.out.below hb QA.out.lt)
      clear hb
      have Ts := hide hs
      have S1 := hide s1
      have S2 : Hid (s.u = true) := hide (s2.trans (by rw [AU.out]; rfl))
      have S3 := hide s3
      clear hs s1 s2 s3
      have FS : Hid (s.fault = (0, none)) := hide (by
        show Tens.fault s.zs s.u s.ds = (0, none)
        rw [S1.out, S2.out, S3.out, AU.out, AD.out]
        exact fault_to (show Tens.fault a.zs a.u a.ds = (0, none) from FA.out) (by rw [Elm.part_length, AD.out]) (Elm.widen_fit ds z HZB.out HD.out))
      obtain ⟨wa3, hwa3⟩ : ∃ W, W = wa2.alloc (.cells #[.slice s.P s.zs.length s.cap, .bool s.u, .slice s.D s.ds.length s.dcap] 38) := ⟨_, rfl⟩
      have hbA : Below wa2.heap.size wa2 wa3 := by rw [hwa3]; exact (Below.refl _ _).alloc (Nat.le_refl _) _
      have Bs : Hid (Has wa3 wa2.heap.size 38 [.slice s.P s.zs.length s.cap, .bool s.u, .slice s.D s.ds.length s.dcap]) := hide (by rw [hwa3]; exact Has.new _ _ _)
      replace A := hide (A.out.below hbA A.out.lt)
      replace HB := hide (HB.out.trans (hbA.mono HB.out.size))
      replace TA := hide (TA.out.below hbA)
      replace QA := hide (QA.out.below hbA QA.out.lt)
      replace Ts := hide (Ts.out.below hbA)
      have Hwa3 := hide hwa3
      clear hwa3 hbA
      obtain ⟨wb1, hwb1⟩ : ∃ W, W = wa3.alloc (.cells #[.int .i64 1073741824, .int .i64 30, .int .i64 z] 3) := ⟨_, rfl⟩
      have hbA : Below wa3.heap.size wa3 wb1 := by rw [hwb1]; exact (Below.refl _ _).alloc (Nat.le_refl _) _
      have QB : Hid (Has wb1 (wa2.heap.size + 1) 3 [.int .i64 1073741824, .int .i64 30, .int .i64 z]) := hide (by rw [hwb1]; exact box_at _ _ _ _ (by rw [Hwa3.out]; simp))
      replace A := hide (A.out.below hbA A.out.lt)
      replace HB := hide (HB.out.trans (hbA.mono HB.out.size))
      replace TA := hide (TA.out.below hbA)
      replace QA := hide (QA.out.below hbA QA.out.lt)
      replace Ts := hide (Ts.out.below hbA)
      replace Bs := hide (Bs.out.below hbA Bs.out.lt)
      have Hwb1 := hide hwb1
      clear hwb1 hbA
      go_wp2_with fail
      rw [← Hwa3.out]
      rw [← Hwb1.out]
      clear Hwa3 Hwb1
      refine (one_gen_c 10 (by decide) [1073741824, 30, z] FS.out rfl (by rw [S2.out]; exact may_req _ _ _ (by decide) (by decide) HZB.out) (fun _ => S2.out) (fun h => absurd h (by decide)) _ 3 ah am ar ak wb1 Ts.out (show Ri _ _ [1073741824, 30, z] from (show Has _ _ 3 (i64s [1073741824, 30, z]) from QB.out).ri (by intro q hq; simp at hq; exact wf_i64 _ (by have := HZB.out; have := HMB.out; have := HSB.out; omega))) (HE.out _ HB.out)).mono ?_
      rintro e wb2 ⟨⟨t, rfl, ht, t1, t2, t3⟩, hb⟩
      replace A := hide (A.out.below hb A.out.lt)
      replace HB := hide (HB.out.trans (hb.mono HB.out.size))
      replace TA := hide (TA.out.below hb)
      replace QA := hide (QA.out.below hb QA.out.lt)
      replace Ts := hide (Ts.out.below hb)
      replace Bs := hide (Bs.out.below hb Bs.out.lt)
      replace QB := hide (QB.out.below hb QB.out.lt)
      clear hb
      have Tt := hide ht
      have T1 := hide t1
      have T2 : Hid (t.u = false) := hide (t2.trans (by rw [S2.out]; rfl))
      have T3 := hide t3
      clear ht t1 t2 t3
      have c_Bs0 := Bs.out.cell 0
      have c_Bs1 := Bs.out.cell 1
      have c_Bs2 := Bs.out.cell 2
      have l_Bs := Bs.out.lt
      obtain ⟨wb3, hwb3⟩ : ∃ W, W = wb2.alloc (.cells #[.slice t.P t.zs.length t.cap, .bool t.u, .slice t.D t.ds.length t.dcap] 38) := ⟨_, rfl⟩
      have hbA : Below wb2.heap.size wb2 wb3 := by rw [hwb3]; exact (Below.refl _ _).alloc (Nat.le_refl _) _
      have Bt : Hid (Has wb3 wb2.heap.size 38 [.slice t.P t.zs.length t.cap, .bool t.u, .slice t.D t.ds.length t.dcap]) := hide (by rw [hwb3]; exact Has.new _ _ _)
      replace A := hide (A.out.below hbA A.out.lt)
      replace HB := hide (HB.out.trans (hbA.mono HB.out.size))
      replace TA := hide (TA.out.below hbA)
      replace QA := hide (QA.out.below hbA QA.out.lt)
      replace Ts := hide (Ts.out.below hbA)
      replace Bs := hide (Bs.out.below hbA Bs.out.lt)
      replace QB := hide (QB.out.below hbA QB.out.lt)
      replace Tt := hide (Tt.out.below hbA)
      have Hwb3 := hide hwb3
      clear hwb3 hbA
      obtain ⟨wc1, hwc1⟩ : ∃ W, W = wb3.alloc (.cells #[.int .i64 Km, .int .i64 Ks, .int .i64 z] 3) := ⟨_, rfl⟩
      have hbA : Below wb3.heap.size wb3 wc1 := by rw [hwc1]; exact (Below.refl _ _).alloc (Nat.le_refl _) _
      have QC : Hid (Has wc1 (wb2.heap.size + 1) 3 [.int .i64 Km, .int .i64 Ks, .int .i64 z]) := hide (by rw [hwc1]; exact box_at _ _ _ _ (by rw [Hwb3.out]; simp))
      replace A := hide (A.out.below hbA A.out.lt)
      replace HB := hide (HB.out.trans (hbA.mono HB.out.size))
      replace TA := hide (TA.out.below hbA)
      replace QA := hide (QA.out.below hbA QA.out.lt)
      replace Ts := hide (Ts.out.below hbA)
      replace Bs := hide (Bs.out.below hbA Bs.out.lt)
      replace QB := hide (QB.out.below hbA QB.out.lt)
      replace Tt := hide (Tt.out.below hbA)
      replace Bt := hide (Bt.out.below hbA Bt.out.lt)
      have Hwc1 := hide hwc1
      clear hwc1 hbA
      go_wp2_with fail
      rw [← Hwb3.out]
      rw [← Hwc1.out]
      clear Hwb3 Hwc1 c_Bs0 c_Bs1 c_Bs2 l_Bs
      refine (one_gen_c 10 (by decide) [Km, Ks, z] FS.out rfl (by rw [S2.out]; exact may_req _ _ _ (by have := HMB.out; omega) (by have := HSB.out; omega) HZB.out) (fun _ => S2.out) (fun h => absurd h (by decide)) _ 3 ah am ar ak wc1 Ts.out (show Ri _ _ [Km, Ks, z] from (show Has _ _ 3 (i64s [Km, Ks, z]) from QC.out).ri (by intro q hq; simp at hq; exact wf_i64 _ (by have := HZB.out; have := HMB.out; have := HSB.out; omega))) (HE.out _ HB.out)).mono ?_
      rintro e wc2 ⟨⟨r, rfl, hr, r1, r2, r3⟩, hb⟩
      replace A := hide (A.out.below hb A.out.lt)
      replace HB := hide (HB.out.trans (hb.mono HB.out.size))
      replace TA := hide (TA.out.below hb)
      replace QA := hide (QA.out.below hb QA.out.lt)
      replace Ts := hide (Ts.out.below hb)
      replace Bs := hide (Bs.out.below hb Bs.out.lt)
      replace QB := hide (QB.out.below hb QB.out.lt)
      replace Tt := hide (Tt.out.below hb)
      replace Bt := hide (Bt.out.below hb Bt.out.lt)
      replace QC := hide (QC.out.below hb QC.out.lt)
      clear hb
      have Tr := hide hr
      have R1 := hide r1
      have R2 : Hid (r.u = false) := hide (r2.trans (by rw [S2.out]; rfl))
      have R3 := hide r3
      clear hr r1 r2 r3
      have c_Bs1 := Bs.out.cell 1
      simp only [List.getElem?_cons_succ, List.getElem?_cons_zero] at c_Bs1
      rw [S2.out] at c_Bs1
      have c_Bt1 := Bt.out.cell 1
      simp only [List.getElem?_cons_succ, List.getElem?_cons_zero] at c_Bt1
      rw [T2.out] at c_Bt1
      have c_A0 := A.out.cell 0
      have c_A1 := A.out.cell 1
      have c_A2 := A.out.cell 2
      have l_A := A.out.lt
      have l_Bs := Bs.out.lt
      have c_Bt0 := Bt.out.cell 0
      have c_Bt2 := Bt.out.cell 2
      have l_Bt := Bt.out.lt
      obtain ⟨wc3, hwc3⟩ : ∃ W, W = wc2.alloc (.cells #[.slice r.P r.zs.length r.cap, .bool r.u, .slice r.D r.ds.length r.dcap] 38) := ⟨_, rfl⟩
      have hbA : Below wc2.heap.size wc2 wc3 := by rw [hwc3]; exact (Below.refl _ _).alloc (Nat.le_refl _) _
      have Br : Hid (Has wc3 wc2.heap.size 38 [.slice r.P r.zs.length r.cap, .bool r.u, .slice r.D r.ds.length r.dcap]) := hide (by rw [hwc3]; exact Has.new _ _ _)
      replace A := hide (A.out.below hbA A.out.lt)
      replace HB := hide (HB.out.trans (hbA.mono HB.out.size))
      replace TA := hide (TA.out.below hbA)
      replace QA := hide (QA.out.below hbA QA.out.lt)
      replace Ts := hide (Ts.out.below hbA)
      replace Bs := hide (Bs.out.below hbA Bs.out.lt)
      replace QB := hide (QB.out.below hbA QB.out.lt)
      replace Tt := hide (Tt.out.below hbA)
      replace Bt := hide (Bt.out.below hbA Bt.out.lt)
      replace QC := hide (QC.out.below hbA QC.out.lt)
      replace Tr := hide (Tr.out.below hbA)
      have Hwc3 := hide hwc3
      clear hwc3 hbA
      go_wp2_with fail
      rw [← Hwc3.out]
      clear Hwc3 c_Bs1 c_Bt1 c_A0 c_A1 c_A2 l_A l_Bs c_Bt0 c_Bt2 l_Bt
      have hta : t.ds = a.ds := by rw [T3.out, S3.out, AU.out, AD.out]; exact Elm.requant_back ds z HZB.out HD.out
      have HST := hide (fun W (h1 : a.In W) (h2 : t.In W) => sametensor_c a.zs t.zs a.ds t.ds a.P t.P a.D t.D a.cap t.cap a.dcap t.dcap a.u false W h1.shp h2.shp h1.dat h2.dat h1.ls h2.ls h1.ld h2.ld)
      rw [show (decide (a.zs = t.zs) && (a.u == false) && decide (a.ds = t.ds)) = true by rw [decide_eq_true (T1.out.trans S1.out).symm, AU.out, decide_eq_true hta.symm]; rfl] at HST
      refine (HST.out _ TA.out Tt.out).mono ?_
      rintro e wd ⟨rfl, hb⟩
      replace A := hide (A.out.below hb A.out.lt)
      replace HB := hide (HB.out.trans (hb.mono HB.out.size))
      replace TA := hide (TA.out.below hb)
      replace QA := hide (QA.out.below hb QA.out.lt)
      replace Ts := hide (Ts.out.below hb)
      replace Bs := hide (Bs.out.below hb Bs.out.lt)
      replace QB := hide (QB.out.below hb QB.out.lt)
      replace Tt := hide (Tt.out.below hb)
      replace Bt := hide (Bt.out.below hb Bt.out.lt)
      replace QC := hide (QC.out.below hb QC.out.lt)
      replace Tr := hide (Tr.out.below hb)
      replace Br := hide (Br.out.below hb Br.out.lt)
      clear hb
      clear Bs Bt Ts Tt
      have RD : Hid (∀ (j : Nat) (x : Int), ds[j]? = some x → r.ds[j]? = some (Qua.req (x - z) Km Ks z)) := hide (fun j x hx => by rw [R3.out, S3.out, AU.out, AD.out]; exact Elm.requant_at ds z Km Ks HZB.out HD.out j x hx)
      have RL : Hid (r.ds.length = i) := hide (by rw [R3.out, Elm.part_length, S3.out, Elm.part_length, AD.out]; exact HLEN.out)
      have AL : Hid (a.ds.length = i) := hide (by rw [AD.out]; exact HLEN.out)
      have HRQ := hide (fun (x : Int) (q n : Nat) => (requant_c x Km Ks z (wd.drewN (q + n))).mono (fun e w2 (h : e = .returned (.int .i64 (Qua.req x Km Ks z)) ∧ w2 = (wd.drewN (q + n)).drew) => (show e = .returned (.int .i64 (Qua.req x Km Ks z)) ∧ ∃ m, w2 = wd.drewN (q + m) from ⟨h.1, n + 1, h.2.trans (World.drewN_drewN wd (q + n) 1)⟩)))
      clear HST hta S1 S2 S3 T1 T2 T3 R1 R2 R3 FA FS HMB HSB nlt
      go_wp2_with fail
      go_loopw [18] (fun k wr => ∃ j q : Nat, j ≤ i ∧ k = .int .i64 j ∧ wr = wd.drewN q) (fun k _ => i - (intOf k).toNat)
      case atStart => exact ⟨0, 0, by omega, rfl, rfl⟩
      case round =>
        obtain ⟨j, q, hj, rfl, rfl⟩ := hrel
        by_cases hlt : j < i
        · obtain ⟨rd, y, hRDa, ey, cy⟩ := ri_at Tr.out.dat j (by rw [RL.out]; exact hlt)
          obtain ⟨ad2, x, hADa, ex, cx⟩ := ri_at TA.out.dat j (by rw [AL.out]; exact hlt)
          have hx := ex.out
          rw [AD.out] at hx
          have hxb := HD.out x (List.mem_of_getElem? hx)
          have hy : y = Qua.req (x - z) Km Ks z := Option.some.inj (ey.out.symm.trans (RD.out j x hx))
          subst hy
          have hzb := HZB.out
          have hx0 : -255 ≤ x - z := by omega
          have hx1 : x - z ≤ 255 := by omega
          have him : (j : Int) < i := by omega
          have hi0 : (0 : Int) ≤ (j : Int) := by omega
          have cA := A.out.cell 2
          have cR := Br.out.cell 2
          simp only [List.getElem?_cons_succ, List.getElem?_cons_zero] at cA cR
          rw [hADa, AL.out] at cA
          rw [hRDa, RL.out] at cR
          clear hADa hRDa hx ex ey
          go_wp2_with fail
          go_quiet ((go_at_call 31; exact HRQ.out _ _ _))
          go_wp2_with fail
          go_roundw
          case rel => exact ⟨j + 1, q + nq, by omega, by go_num, by first | rfl | exact World.drewN_drewN | exact World.drewN_drewN.symm | (simp only [World.drewN_drewN]; done)⟩
          case measure => simp [intOf]; omega
        · obtain rfl : j = i := by omega
          have nlt : ¬ ((j : Int) < j) := by omega
          have hd : Below wd.heap.size wd (wd.drewN q) := below_drewN (Below.refl _ _) q
          replace HB := hide (HB.out.trans (hd.mono HB.out.size))
          clear hd
          go_wp2_with fail
          go_ret
          exact ⟨rfl, HB.out⟩
end Go.Proofs.YtbnaaomkndbpoaaDoor
