/-
  The law SoftRows, walked. By an AI agent. No person has read it.
-/
import Derived.Test.YtcgjnjchkachdaaDoorSftO
namespace Go.Proofs.YtcgjnjchkachdaaDoor
open Go.RowKit

theorem Sf.ds_row (op : Int) (hop : op = 19 ∨ op = 20) (a : Ten) (m n : Nat) (hz : a.zs = [(m : Int), (n : Int)]) (hl : Sf.size op [a] = m) (i : Nat) (hi : i < m) : (Sf.ds op [a])[i]? = some (if op = 19 then Sf.amax a.ds n i else Sf.sum a.ds n i) := by
  have hla : Sf.last a = n := by unfold Sf.last; rw [hz]; rfl
  unfold Sf.ds
  rw [hl, Sf.part_at _ _ _ _ hi, Nat.zero_add]
  rcases hop with rfl | rfl
  · rw [if_pos rfl]
    show some (if (19 : Int) = 19 then Sf.amax a.ds (Sf.last a) i else Sf.sum a.ds (Sf.last a) i) = _
    rw [hla, if_pos rfl]
  · rw [if_neg (by decide)]
    show some (if (20 : Int) = 19 then Sf.amax a.ds (Sf.last a) i else Sf.sum a.ds (Sf.last a) i) = _
    rw [hla, if_neg (by decide)]
theorem Sf.size_rows (op : Int) (hop : op = 19 ∨ op = 20) (a : Ten) (m n : Nat) (hz : a.zs = [(m : Int), (n : Int)]) (hd : a.ds.length ≤ a.dcap) (h : Cel.fault [a] (Sf.code op ([a].map Ten.look)) = (0, none)) : Sf.size op [a] = m ∧ Sf.shape op ([a].map Ten.look) = [(m : Int)] ∧ Sf.kind op ([a].map Ten.look) = true := by
  obtain ⟨-, -, h3, h4, h5⟩ := Sf.fine_row op hop a hd h
  refine ⟨?_, ?_, h4⟩
  · rw [h5, hz]
    simp [Shp.prod]
  · rw [h3, hz]
    rfl

set_option maxRecDepth 100000 in
set_option maxHeartbeats 8000000 in
theorem softrows_c (n0 d0 : Int) (l : List Int) (A : Option Addr) (cap : Nat) (ah am ar : Addr) (w : World) (hr : Ri w A l) (hE : E3 w ah am ar) :
    Calls Tryd.prog 10 #[.int .i64 n0, .int .i64 d0, .slice A l.length cap] w fun e w' => e = .returned (.bool true) ∧ Below w.heap.size w w' := by
  have HF := hide (first11_c ah am ar w hE)
  have HE := hide (fun W (hb : Below w.heap.size w W) => hE.below hb)
  have HL := hide (fun W (hb : Below w.heap.size w W) => hr.below hb)
  have HN := hide (fun x W => number_c x 256 (by decide) (by decide) 256 rfl W)
  obtain ⟨k1, hk0, hk1, NN⟩ := number_n n0 10 (by decide) (by decide) 10 rfl
  obtain ⟨k2, hj0, hj1, ND⟩ := number_n d0 10 (by decide) (by decide) 10 rfl
  obtain ⟨N, hN⟩ : ∃ M, Hid (k1.toNat + 1 = M) := ⟨_, hide rfl⟩
  have EN : Hid (k1 + 1 = (N : Int)) := hide (by rw [← hN.out]; omega)
  have BN : Hid (1 ≤ N ∧ N ≤ 10) := hide (by rw [← hN.out]; omega)
  obtain ⟨d, hD⟩ : ∃ M, Hid (k2.toNat + 1 = M) := ⟨_, hide rfl⟩
  have ED : Hid (k2 + 1 = (d : Int)) := hide (by rw [← hD.out]; omega)
  have BD : Hid (1 ≤ d ∧ d ≤ 10) := hide (by rw [← hD.out]; omega)
  obtain ⟨S, hS⟩ : ∃ M, Hid (N * d = M) := ⟨_, hide rfl⟩
  have BS : Hid (1 ≤ S ∧ S ≤ 100) := hide (by
    have h1 := BN.out
    have h2 := BD.out
    rw [← hS.out]
    exact ⟨Nat.mul_pos h1.1 h2.1, Nat.mul_le_mul h1.2 h2.2⟩)
  have Hww : Hid (wrap64 ((N : Int) * (d : Int)) = (S : Int)) := hide (by rw [← Int.natCast_mul, hS.out]; have := BS.out; unfold wrap64; omega)
  obtain ⟨n, hn⟩ : ∃ n, Hid (l.length = n) := ⟨_, hide rfl⟩
  rw [hn.out]
  clear hr hE
  by_cases hbig : 40 < n
  case pos =>
    have hb2 : (40 : Int) < n := by omega
    clear hbig
    go_enter Tryd.func10, Tryd.ntmps10
    go_wp2_with fail
    refine HF.out.mono ?_
    rintro e w1 ⟨rfl, hb⟩
    have HB := hide hb
    clear hb HF
    go_wp2_with fail
    go_ret
    exact ⟨rfl, HB.out⟩
  case neg =>
  have hn40 : (n : Int) ≤ 40 := by omega
  have HN40 := hide hn40
  clear hbig
  go_enter Tryd.func10, Tryd.ntmps10
  go_wp2_with fail
  refine HF.out.mono ?_
  rintro e w1 ⟨rfl, hb⟩
  have HB := hide hb
  have HWS1 := hide hb.size
  clear hb HF
  go_wp2_with fail
  clear hn40
  refine (NN.out _).mono ?_
  rintro e wq ⟨rfl, hw⟩
  have hw := hw.symm
  subst hw
  go_wp2_with fail
  refine (ND.out _).mono ?_
  rintro e wq ⟨rfl, hw⟩
  have hw := hw.symm
  subst hw
  obtain ⟨W, hW⟩ : ∃ W, W = (w1.alloc (.cells #[.int .i64 N, .int .i64 d] 3)).alloc (.cells #[.slice (some ⟨w1.heap.size, 0, none⟩) 2 2, .bool false, .slice none 0 0] 26) := ⟨_, rfl⟩
  have hBW : Below w1.heap.size w1 W := by rw [hW]; exact ((Below.refl _ _).alloc (Nat.le_refl _) _).alloc (by simp) _
  have SH : Hid (Has W w1.heap.size 3 (i64s [(N : Int), (d : Int)])) := hide (by rw [hW]; exact (Has.new w1 3 [.int .i64 N, .int .i64 d]).alloc _)
  have BX : Hid (Has W (w1.heap.size + 1) 26 [.slice (some ⟨w1.heap.size, 0, none⟩) 2 2, .bool false, .slice none 0 0]) := hide (by rw [hW]; exact box_at _ _ _ _ (by simp))
  have hWs : W.heap.size = w1.heap.size + 2 := by rw [hW]; simp
  have HWS := hide hWs
  replace HB := hide (HB.out.trans (hBW.mono HB.out.size))
  have HW := hide hW
  clear hW hBW hWs
  go_wp2_with fail
  rw [EN.out, ED.out, ← HW.out]
  clear HW hk0 hk1 hj0 hj1
  go_loopg [9, 10] S (fun gq k _ wr => ∃ (i : Nat) (ds : List Int) (v : Value), gq + i = S ∧ k = .int .i64 i ∧ Hid (∀ d ∈ ds, -128 ≤ d ∧ d ≤ 127) ∧ Hid (Has wr (w1.heap.size + 1) 26 [.slice (some ⟨w1.heap.size, 0, none⟩) 2 2, .bool false, v]) ∧ Hid (Has wr w1.heap.size 3 (i64s [(N : Int), (d : Int)])) ∧ Hid (wr.ownsRow (w1.heap.size + 2) 3 1 v i (i64s ds)) ∧ Hid (Below w.heap.size w wr) ∧ Hid (w1.heap.size + 2 ≤ wr.heap.size))
  case atStart => exact ⟨0, [], _, by omega, rfl, hide (by simp), BX, SH, hide ⟨rfl, .inl ⟨rfl, rfl⟩⟩, HB, hide (by rw [HWS.out]; exact Nat.le_refl _)⟩
  case round =>
    clear BX SH HB HWS
    obtain ⟨i, ds, v, hi9, rfl, HD, BX, SH, HO, HB, HSZ⟩ := hrel
    have hw0 := Hww.out
    by_cases hlt : i < S
    · have hii : (i : Int) < (S : Int) := by omega
      have hi0 : (0 : Int) ≤ (i : Int) := by omega
      have Hi100 : Hid (i < 100) := hide (by have := BS.out; omega)
      have hi64 : (i : Int) + 1 ≤ 101 := by have := Hi100.out; omega
      have HBI := hide (show i + 1 ≤ 1000000000000 by have := Hi100.out; omega)
      have HBS := hide (fun k : Int => show w1.heap.size + 2 ≤ ((wr.alloc (.cells #[.int .i64 k] 3)).drew).heap.size by have := HSZ.out; simp [World.drew]; omega)
      have HOW := hide (fun k : Int => (HO.out.alloc (.cells #[.int .i64 k] 3)).drew)
      have HRI := hide (fun (k : Int) (h : -128 ≤ k ∧ k ≤ 127) => show Ri ((wr.alloc (.cells #[.int .i64 k] 3)).drew) (some ⟨wr.heap.size, 0, none⟩) [k] from ri_drew (new_ri wr 3 [k] (by intro q hq; simp at hq; omega)) 1)
      have HGX := hide (fun (k : Int) (w' : World) (h2 : ((wr.alloc (.cells #[.int .i64 k] 3)).drew).grownBy w' v.ownBlock) => (show Has ((wr.alloc (.cells #[.int .i64 k] 3)).drew) (w1.heap.size + 1) 26 [.slice (some ⟨w1.heap.size, 0, none⟩) 2 2, .bool false, v] from (BX.out.alloc (.cells #[.int .i64 k] 3)).drewN 1).grown h2 (own_apart HO.out (by omega)))
      have HGS := hide (fun (k : Int) (w' : World) (h2 : ((wr.alloc (.cells #[.int .i64 k] 3)).drew).grownBy w' v.ownBlock) => (show Has ((wr.alloc (.cells #[.int .i64 k] 3)).drew) w1.heap.size 3 (i64s [(N : Int), (d : Int)]) from (SH.out.alloc (.cells #[.int .i64 k] 3)).drewN 1).grown h2 (own_apart HO.out (by omega)))
      have HGB := hide (fun (k : Int) (w' : World) (h2 : ((wr.alloc (.cells #[.int .i64 k] 3)).drew).grownBy w' v.ownBlock) => elm_grown ((HB.out.alloc HB.out.size (.cells #[.int .i64 k] 3)).drew) (own_le (HOW.out k) (by have := HWS1.out; omega)) ((HB.out.alloc HB.out.size (.cells #[.int .i64 k] 3)).drew).size h2)
      by_cases hz : n = 0
      · subst hz
        have hnn : ¬ (((0 : Nat) : Int) > 0) := by omega
        have c2 : wr.cell? ⟨w1.heap.size + 1, 2, none⟩ = some v := BX.out.cell 2
        have hsl := HSZ.out
        go_wp2_with fail
        go_region_law (first
          | (go_simp; go_at_call 33; refine (HN.out _ _).mono ?_; rintro e wq ⟨⟨k, hk, rfl⟩, hw⟩; have hw := hw.symm; subst hw; have hk0 : (0 : Int) ≤ k := (by omega); have hk1 : (k : Int) < 256 := (by omega); have HKK := hide (show -128 ≤ IntKind.i64.wrap ((k : Int) - 128) ∧ IntKind.i64.wrap ((k : Int) - 128) ≤ 127 from (by rw [IntKind.wrap_i64]; omega)); have dal : (wr.alloc (.cells #[.int .i64 (IntKind.i64.wrap ((k : Int) - 128))] 3)).cell? ⟨w1.heap.size + 1, 2, none⟩ = some v := (BX.out.alloc (.cells #[.int .i64 (IntKind.i64.wrap ((k : Int) - 128))] 3)).cell 2)
          | (refine step_append_is rfl (.tmp 67) (.tmp 71) rfl (w1.heap.size + 2) v i (i64s ds) (by first | rfl | simp [Act.eval]) (HOW.out (IntKind.i64.wrap ((k : Int) - 128))) (some ⟨wr.heap.size, 0, none⟩) 1 1 [IntKind.i64.wrap ((k : Int) - 128)] (by first | rfl | simp [Act.eval]) (hide rfl) (HRI.out _ HKK.out) HBI.out (HBS.out _) (fun v' w' h1 h2 h3 => ?_); obtain ⟨Pn, cn, hvn⟩ := own_slice h1; subst hvn; have H1 := hide h1; have H2 := hide h2; have hbx := HGX.out _ _ h2; have d2 : w'.cell? ⟨w1.heap.size + 1, 2, none⟩ = some v := hbx.cell 2; have f2 := hbx.frozen 2; clear h1 h2 h3 hbx))
        all_goals go_ways
        all_goals
          go_wp2_with fail
          go_roundg (S - (i + 1))
          case measure => omega
          case rel =>
            have hbx := HGX.out _ _ H2.out
            have hsh := HGS.out _ _ H2.out
            have hhb := HGB.out _ _ H2.out
            have hsz := HSZ.out
            have hws := HWS1.out
            have hbs := hbx.set_ 2 (.slice Pn (i + 1) cn)
            refine ⟨i + 1, ds ++ [IntKind.i64.wrap ((k : Int) - 128)], .slice Pn (i + 1) cn, by omega, by go_num, hide ?_, hide hbs, hide (hsh.far (by simp) _), hide (own_set (by rw [show i64s (ds ++ [IntKind.i64.wrap ((k : Int) - 128)]) = i64s ds ++ i64s [IntKind.i64.wrap ((k : Int) - 128)] from List.map_append]; exact H1.out) (by simp) _), hide (hhb.setCell (by simp; omega) _), hide ?_⟩
            · intro d hd
              rcases List.mem_append.1 hd with hd | hd
              · exact HD.out d hd
              · rw [List.mem_singleton.1 hd]; exact HKK.out
            · have := hbs.lt
              omega
      · have hnn : (0 : Int) < (n : Int) := by omega
        obtain ⟨O, hO⟩ : ∃ x, Hid (i % n = x) := ⟨_, hide rfl⟩
        have HOn : Hid (O < n) := hide (by rw [← hO.out]; exact Nat.mod_lt _ (by omega))
        obtain ⟨ad, x, hAD, ex, cx⟩ := ri_at (HL.out _ HB.out) O (by rw [hn.out]; exact HOn.out)
        subst hAD
        have hO0 : (0 : Int) ≤ (O : Int) := by omega
        have hOn : (O : Int) < (n : Int) := by have := HOn.out; omega
        have r1 : (i : Int) % (n : Int) = (O : Int) := by rw [← hO.out]; exact (Int.natCast_emod i n).symm
        have r2 : (i : Int).tmod (n : Int) = (O : Int) := by rw [Int.tmod_eq_emod_of_nonneg (by omega)]; exact r1
        have hz2 : ¬ ((n : Int) = 0) := by omega
        have adl : ad.block < wr.heap.size := by
          obtain ⟨ad', h1, h2, -⟩ := (HL.out _ HB.out).2 (by intro h; rw [h] at ex; have h := ex.out; simp at h)
          rw [Option.some.inj h1]
          exact h2
        clear ex
        have c2 : wr.cell? ⟨w1.heap.size + 1, 2, none⟩ = some v := BX.out.cell 2
        have hsl := HSZ.out
        go_wp2_with fail
        go_region_law (first
          | (go_simp; go_at_call 33; refine (HN.out _ _).mono ?_; rintro e wq ⟨⟨k, hk, rfl⟩, hw⟩; have hw := hw.symm; subst hw; have hk0 : (0 : Int) ≤ k := (by omega); have hk1 : (k : Int) < 256 := (by omega); have HKK := hide (show -128 ≤ IntKind.i64.wrap ((k : Int) - 128) ∧ IntKind.i64.wrap ((k : Int) - 128) ≤ 127 from (by rw [IntKind.wrap_i64]; omega)); have dal : (wr.alloc (.cells #[.int .i64 (IntKind.i64.wrap ((k : Int) - 128))] 3)).cell? ⟨w1.heap.size + 1, 2, none⟩ = some v := (BX.out.alloc (.cells #[.int .i64 (IntKind.i64.wrap ((k : Int) - 128))] 3)).cell 2)
          | (refine step_append_is rfl (.tmp 67) (.tmp 71) rfl (w1.heap.size + 2) v i (i64s ds) (by first | rfl | simp [Act.eval]) (HOW.out (IntKind.i64.wrap ((k : Int) - 128))) (some ⟨wr.heap.size, 0, none⟩) 1 1 [IntKind.i64.wrap ((k : Int) - 128)] (by first | rfl | simp [Act.eval]) (hide rfl) (HRI.out _ HKK.out) HBI.out (HBS.out _) (fun v' w' h1 h2 h3 => ?_); obtain ⟨Pn, cn, hvn⟩ := own_slice h1; subst hvn; have H1 := hide h1; have H2 := hide h2; have hbx := HGX.out _ _ h2; have d2 : w'.cell? ⟨w1.heap.size + 1, 2, none⟩ = some v := hbx.cell 2; have f2 := hbx.frozen 2; clear h1 h2 h3 hbx))
        all_goals go_ways
        all_goals
          go_wp2_with fail
          go_roundg (S - (i + 1))
          case measure => omega
          case rel =>
            have hbx := HGX.out _ _ H2.out
            have hsh := HGS.out _ _ H2.out
            have hhb := HGB.out _ _ H2.out
            have hsz := HSZ.out
            have hws := HWS1.out
            have hbs := hbx.set_ 2 (.slice Pn (i + 1) cn)
            refine ⟨i + 1, ds ++ [IntKind.i64.wrap ((k : Int) - 128)], .slice Pn (i + 1) cn, by omega, by go_num, hide ?_, hide hbs, hide (hsh.far (by simp) _), hide (own_set (by rw [show i64s (ds ++ [IntKind.i64.wrap ((k : Int) - 128)]) = i64s ds ++ i64s [IntKind.i64.wrap ((k : Int) - 128)] from List.map_append]; exact H1.out) (by simp) _), hide (hhb.setCell (by simp; omega) _), hide ?_⟩
            · intro d hd
              rcases List.mem_append.1 hd with hd | hd
              · exact HD.out d hd
              · rw [List.mem_singleton.1 hd]; exact HKK.out
            · have := hbs.lt
              omega
    · obtain rfl : S = i := by omega
      have hii : ¬ (S : Int) < (S : Int) := by omega
      obtain ⟨DD, dc, rfl, hRD, hlen⟩ := own_ri HO.out (fun d hd => wf_i64 d (by have := HD.out d hd; omega))
      have hcap := own_cap HO.out
      obtain ⟨a, ea⟩ : ∃ a : Ten, Hid (a = ⟨some ⟨w1.heap.size, 0, none⟩, [(N : Int), (d : Int)], 2, false, DD, ds, dc⟩) := ⟨_, hide rfl⟩
      obtain ⟨wb, hwb⟩ : ∃ W, W = wr := ⟨_, rfl⟩
      subst hwb
      have TA : Hid (a.In wb) := hide (by rw [ea.out]; exact ⟨SH.out.ri (by intro q hq; have := BN.out; have := BD.out; simp at hq; rcases hq with rfl | rfl <;> exact wf_i64 _ (by omega)), hRD, by show 2 ≤ 1000000; omega, by show ds.length ≤ 1000000; have := BS.out; omega⟩)
      have AA : Hid (Has wb (w1.heap.size + 1) 26 [.slice a.P a.zs.length a.cap, .bool a.u, .slice a.D a.ds.length a.dcap]) := hide (by have h := BX.out; rw [ea.out]; show Has wb (w1.heap.size + 1) 26 [.slice (some ⟨w1.heap.size, 0, none⟩) 2 2, .bool false, .slice DD ds.length dc]; rw [hlen]; exact h)
      have AZ : Hid (a.zs = [(N : Int), (d : Int)]) := hide (by rw [ea.out])
      have AU : Hid (a.u = false) := hide (by rw [ea.out])
      have AL : Hid (a.ds.length = N * d) := hide (by rw [ea.out, hS.out]; exact hlen)
      have AC : Hid (a.ds.length ≤ a.dcap) := hide (by rw [ea.out]; show ds.length ≤ dc; rw [hlen]; exact hcap)
      have AN : Hid (∀ z ∈ a.ds, -128 ≤ z ∧ z ≤ 127) := hide (by rw [ea.out]; exact HD.out)
      have FA : Hid (a.fault = (0, none)) := hide (Sf.fine_block a N d AZ.out (by have := BN.out; omega) (by have := BD.out; omega) (by have := BS.out; have := hS.out; omega) AL.out (fun z hz => by rw [AU.out]; exact Sf.fitn (AN.out z hz)))
      have MA : Hid (Mat.Is a N d false) := hide ⟨AZ.out, AU.out, AL.out, fun z hz => Sf.fitn (AN.out z hz)⟩
      have BD64 : (d : Int) ≤ 1000000 := by have := BD.out; omega
      obtain ⟨Z, hZZ, hmk⟩ := made_ints d (by have := BD.out; omega)
      obtain ⟨W2, hW2⟩ : ∃ W, W = (wb.alloc (.cells #[.int .i64 d, .int .i64 1] 3)).alloc (.cells Z 3) := ⟨_, rfl⟩
      have hmk1 : (Instr.makeSlice 22 (.int .i64 d) (.int .i64 d)).run Tryd.prog (wb.alloc (.cells #[.int .i64 d, .int .i64 1] 3)) = .ok (.slice (some ⟨wb.heap.size + 1, 0, none⟩) d d) W2 := by
        have h := hmk (wb.alloc (.cells #[.int .i64 d, .int .i64 1] 3))
        rw [← hW2] at h
        have hs : (wb.alloc (.cells #[.int .i64 d, .int .i64 1] 3)).heap.size = wb.heap.size + 1 := by simp
        rw [hs] at h
        exact h
      have hb2 : Below wb.heap.size wb W2 := by rw [hW2]; exact ((Below.refl _ _).alloc (Nat.le_refl _) _).alloc (by simp) _
      obtain ⟨W3, hW3⟩ : ∃ W, W = W2.alloc (.cells #[.slice (some ⟨wb.heap.size, 0, none⟩) 2 2, .bool false, .slice (some ⟨wb.heap.size + 1, 0, none⟩) d d] 26) := ⟨_, rfl⟩
      have hb3 : Below W2.heap.size W2 W3 := by rw [hW3]; exact (Below.refl _ _).alloc (Nat.le_refl _) _
      have TS : Hid (Has W3 wb.heap.size 3 (i64s [(d : Int), 1])) := hide (by rw [hW3, hW2]; exact ((Has.new wb 3 [.int .i64 d, .int .i64 1]).alloc _).alloc _)
      have TD : Hid (Has W3 (wb.heap.size + 1) 3 (i64s (List.replicate d 0))) := hide (by rw [hW3, hW2, hZZ.out]; exact (box_at _ 3 (i64s (List.replicate d 0)) _ (by simp)).alloc _)
      have BT : Hid (Has W3 W2.heap.size 26 [.slice (some ⟨wb.heap.size, 0, none⟩) 2 2, .bool false, .slice (some ⟨wb.heap.size + 1, 0, none⟩) d d]) := hide (by rw [hW3]; exact Has.new _ _ _)
      have hw2s : wb.heap.size + 2 = W2.heap.size := by rw [hW2]; simp
      have hbw := hb2.trans (hb3.mono hb2.size)
      have HB0 := HB
      have HBW3 := hide hbw
      have Hw2s := hide hw2s
      have HW3 := hide hW3
      clear hZZ hmk hW2 hb2 hb3 hbw hW3 HB hw2s ea BX SH hRD hlen hcap HD HO HSZ
      go_wp2_with fail
      rw [← HW3.out]
      clear HW3 hmk1 BD64
      have HRR : Hid (Below wb.heap.size wb W3) := HBW3
      go_loopg [12] d (fun gq kk wx => ∃ (p : Nat) (xs : List Int), gq + p = d ∧ kk = .int .i64 p ∧ Hid (xs.length = d) ∧ Hid (∀ j, j < p → xs[j]? = some 1) ∧ Hid (Has wx (wb.heap.size + 1) 3 (i64s xs)) ∧ Hid (Has wx wb.heap.size 3 (i64s [(d : Int), 1])) ∧ Hid (Has wx W2.heap.size 26 [.slice (some ⟨wb.heap.size, 0, none⟩) 2 2, .bool false, .slice (some ⟨wb.heap.size + 1, 0, none⟩) d d]) ∧ Hid (Below wb.heap.size wb wx))
      case atStart => exact ⟨0, List.replicate d 0, by omega, rfl, hide (by simp), hide (fun j hj => by omega), TD, TS, BT, HRR⟩
      case round =>
        clear TD TS BT HRR
        obtain ⟨p, xs, hp9, rfl, HXN, HI, TD, TS, BT, HRR⟩ := hrel
        by_cases hlt : p < d
        · have hii : (p : Int) < (d : Int) := by omega
          have hi0 : (0 : Int) ≤ (p : Int) := by omega
          have hp64 : (p : Int) + 1 ≤ 101 := by have := BD.out; omega
          have x2 := BT.out.cell 2
          have gf := TD.out.frozen p
          have gc1 : wr.cell? ⟨wb.heap.size + 1, p, none⟩ = some (.int .i64 (xs[p]'(by rw [HXN.out]; exact hlt))) := by
            rw [TD.out.cell]
            unfold i64s
            rw [List.getElem?_map, List.getElem?_eq_getElem (by rw [HXN.out]; exact hlt)]
            rfl
          have hw2s := Hw2s.out
          go_wp2_with fail
          go_roundg (d - (p + 1))
          case measure => omega
          case rel =>
            refine ⟨p + 1, xs.set p 1, by omega, by go_num, hide (by rw [List.length_set]; exact HXN.out), hide (fun j hj => ?_), ?_, hide (TS.out.far (p := ⟨wb.heap.size + 1, p, none⟩) (by simp) (.int .i64 1)), hide (BT.out.far (p := ⟨wb.heap.size + 1, p, none⟩) (by simp; omega) (.int .i64 1)), hide (HRR.out.setCell (p := ⟨wb.heap.size + 1, p, none⟩) (by simp) (.int .i64 1))⟩
            · rw [List.getElem?_set]
              by_cases h : p = j
              · subst h
                rw [if_pos rfl, if_pos (by rw [HXN.out]; exact hlt)]
              · rw [if_neg h]
                exact HI.out j (by omega)
            · have h := TD.out.set_ p (.int .i64 1)
              unfold i64s at h ⊢
              rw [List.map_set]
              exact hide h
        · obtain rfl : p = d := by omega
          have hii : ¬ (p : Int) < (p : Int) := by omega
          obtain ⟨d, hdp⟩ : ∃ x, x = p := ⟨_, rfl⟩
          subst hdp
          have hxs : xs = List.replicate d 1 := List.ext_getElem? (fun j => by
            rcases Nat.lt_or_ge j d with h | h
            · rw [HI.out j h, List.getElem?_replicate, if_pos h]
            · rw [List.getElem?_eq_none (by rw [HXN.out]; exact h), List.getElem?_eq_none (by rw [List.length_replicate]; exact h)])
          subst hxs
          have HB4 : Hid (Below w.heap.size w wr) := hide (HB0.out.trans (HRR.out.mono HB0.out.size))
          have A4 : Hid (Has wr (w1.heap.size + 1) 26 [.slice a.P a.zs.length a.cap, .bool a.u, .slice a.D a.ds.length a.dcap]) := hide (AA.out.below HRR.out AA.out.lt)
          have TA4 : Hid (a.In wr) := hide (TA.out.below HRR.out)
          obtain ⟨b, hbv⟩ : ∃ b : Ten, Hid (b = ⟨some ⟨wb.heap.size, 0, none⟩, [(d : Int), 1], 2, false, some ⟨wb.heap.size + 1, 0, none⟩, List.replicate d 1, d⟩) := ⟨_, hide rfl⟩
          have TB : Hid (b.In wr) := hide (by rw [hbv.out]; exact ⟨TS.out.ri (by intro q hq; have := BD.out; simp at hq; rcases hq with rfl | rfl <;> exact wf_i64 _ (by omega)), TD.out.ri (fun q hq => by rw [(List.mem_replicate.1 hq).2]; exact wf_i64 _ (by omega)), by show 2 ≤ 1000000; omega, by show (List.replicate d 1).length ≤ 1000000; rw [List.length_replicate]; have := BD.out; omega⟩)
          have B4 : Hid (Has wr W2.heap.size 26 [.slice b.P b.zs.length b.cap, .bool b.u, .slice b.D b.ds.length b.dcap]) := hide (by rw [hbv.out]; show Has wr W2.heap.size 26 [.slice (some ⟨wb.heap.size, 0, none⟩) 2 2, .bool false, .slice (some ⟨wb.heap.size + 1, 0, none⟩) (List.replicate d (1 : Int)).length d]; rw [List.length_replicate]; exact BT.out)
          have MB : Hid (Mat.Is b d 1 false) := hide (by rw [hbv.out]; exact ⟨rfl, rfl, by show (List.replicate d (1 : Int)).length = d * 1; rw [List.length_replicate, Nat.mul_one], fun z hz => by rw [(List.mem_replicate.1 hz).2]; exact Sf.fitn (by decide)⟩)
          have BO : Hid (∀ j, j < d → b.ds.getD j 0 = 1) := hide (fun j hj => by rw [hbv.out]; show (List.replicate d (1 : Int)).getD j 0 = 1; rw [List.getD_eq_getElem?_getD, List.getElem?_replicate, if_pos hj]; rfl)
          have h2z : 0 < a.zs.length := by rw [AZ.out]; exact (by decide : 0 < 2)
          have HF20 : Hid (Cel.fault [a] (Sf.code 20 ([a].map Ten.look)) = (0, none)) := hide (Sf.good_row (.inr rfl) FA.out h2z AC.out)
          have HF19 : Hid (Cel.fault [a] (Sf.code 19 ([a].map Ten.look)) = (0, none)) := hide (Sf.good_row (.inl rfl) FA.out h2z AC.out)
          have HS20 := hide (Sf.size_rows 20 (.inr rfl) a N d AZ.out AC.out HF20.out)
          have HS19 := hide (Sf.size_rows 19 (.inl rfl) a N d AZ.out AC.out HF19.out)
          have HSUM : Hid (Sf.ds 20 [a] = Mat.part a.ds b.ds 0 0 d 1 0 N) := hide (by
            rw [Sf.part_ones a.ds b.ds d N BO.out]
            unfold Sf.ds
            rw [HS20.out.1]
            show (List.range N).map _ = (List.range N).map _
            refine List.map_congr_left (fun i _ => ?_)
            show (if (20 : Int) = 19 then Sf.amax a.ds (Sf.last a) (0 + i) else Sf.sum a.ds (Sf.last a) (0 + i)) = Sf.sum a.ds d (0 + i)
            rw [if_neg (by decide), show Sf.last a = d by unfold Sf.last; rw [AZ.out]; rfl])
          clear TD TS BT HRR hbv HXN HI hlt h2z
          have c_A0 := A4.out.cell 0
          have c_A1 := A4.out.cell 1
          have c_A2 := A4.out.cell 2
          go_wp2_with fail
          clear c_A0 c_A1 c_A2
          refine (sfsum_c a ah am ar wr TA4.out (by
            intro x hx
            rw [List.mem_singleton.1 hx]
            exact AC.out) (HE.out _ HB4.out)).mono ?_
          intro e w5 hT
          obtain ⟨⟨x, rfl, hIn, hxz, hxu, hd, -⟩, hb⟩ := sf_good 20 (.inr (.inr (.inr rfl))) _ ah am ar _ HF20.out hT
          rw [HS20.out.2.1] at hxz
          rw [HS20.out.2.2] at hxu
          rw [HSUM.out] at hd
          have a5 := A4.out.below hb A4.out.lt
          have b5 := B4.out.below hb B4.out.lt
          have c_A0 := a5.cell 0
          have c_A1 := a5.cell 1
          have c_A2 := a5.cell 2
          have c_B0 := b5.cell 0
          have c_B1 := b5.cell 1
          have c_B2 := b5.cell 2
          have l_A := a5.lt
          have l_B := b5.lt
          clear a5 b5
          obtain ⟨W6, hW6⟩ : ∃ W, W = w5.alloc (.cells #[.slice x.P x.zs.length x.cap, .bool x.u, .slice x.D x.ds.length x.dcap] 26) := ⟨_, rfl⟩
          have hbA : Below w5.heap.size w5 W6 := by rw [hW6]; exact (Below.refl _ _).alloc (Nat.le_refl _) _
          have X6 : Hid (Has W6 w5.heap.size 26 [.slice x.P x.zs.length x.cap, .bool x.u, .slice x.D x.ds.length x.dcap]) := hide (by rw [hW6]; exact Has.new _ _ _)
          have XI := hide (hIn.below hbA)
          have HXZ := hide hxz
          have HXU := hide hxu
          have HXD := hide hd
          have hb56 := hb.trans (hbA.mono hb.size)
          have HB6 := hide (HB4.out.trans (hb56.mono HB4.out.size))
          replace A4 := hide (A4.out.below hb56 A4.out.lt)
          replace B4 := hide (B4.out.below hb56 B4.out.lt)
          replace TA4 := hide (TA4.out.below hb56)
          replace TB := hide (TB.out.below hb56)
          have HW6 := hide hW6
          clear hT hIn hd hb hxz hxu hW6 hbA hb56 HB4 HB0
          go_wp2_with fail
          rw [← HW6.out]
          clear HW6 c_A0 c_A1 c_A2 c_B0 c_B1 c_B2 l_A l_B
          refine (mul_good MA.out MB.out (by have := BN.out; omega) (by have := BD.out; omega) ⟨Nat.le_refl 1, by omega⟩ (show -128 ≤ (0 : Int) ∧ (0 : Int) ≤ 127 by decide) (show -128 ≤ (0 : Int) ∧ (0 : Int) ≤ 127 by decide) ah am ar W6 TA4.out TB.out (HE.out _ HB6.out)).mono ?_
          rintro e w7 ⟨⟨y, rfl, hIn, -, hd, -⟩, hb⟩
          have a5 := A4.out.below hb A4.out.lt
          have c_A0 := a5.cell 0
          have c_A1 := a5.cell 1
          have c_A2 := a5.cell 2
          have l_A := a5.lt
          clear a5
          obtain ⟨W8, hW8⟩ : ∃ W, W = w7.alloc (.cells #[.slice y.P y.zs.length y.cap, .bool y.u, .slice y.D y.ds.length y.dcap] 26) := ⟨_, rfl⟩
          have hbA : Below w7.heap.size w7 W8 := by rw [hW8]; exact (Below.refl _ _).alloc (Nat.le_refl _) _
          have Y8 : Hid (Has W8 w7.heap.size 26 [.slice y.P y.zs.length y.cap, .bool y.u, .slice y.D y.ds.length y.dcap]) := hide (by rw [hW8]; exact Has.new _ _ _)
          have YI := hide (hIn.below hbA)
          have HYD : Hid (y.ds = x.ds) := hide (by rw [hd, HXD.out, Nat.mul_one])
          have hb56 := hb.trans (hbA.mono hb.size)
          replace HB6 := hide (HB6.out.trans (hb56.mono HB6.out.size))
          replace A4 := hide (A4.out.below hb56 A4.out.lt)
          replace X6 := hide (X6.out.below hb56 X6.out.lt)
          replace TA4 := hide (TA4.out.below hb56)
          replace XI := hide (XI.out.below hb56)
          have HW8 := hide hW8
          clear hIn hd hb hW8 hbA hb56 TB B4
          go_wp2_with fail
          rw [← HW8.out]
          clear HW8 c_A0 c_A1 c_A2 l_A
          refine (sfargmax_c a ah am ar W8 TA4.out (by
            intro x hx
            rw [List.mem_singleton.1 hx]
            exact AC.out) (HE.out _ HB6.out)).mono ?_
          intro e w9 hT
          obtain ⟨⟨g, rfl, hIn, -, -, hd, -⟩, hb⟩ := sf_good 19 (.inr (.inr (.inl rfl))) _ ah am ar _ HF19.out hT
          have x5 := X6.out.below hb X6.out.lt
          have y5 := Y8.out.below hb Y8.out.lt
          have c_X0 := x5.cell 0
          have c_X1 := x5.cell 1
          have c_X2 := x5.cell 2
          have c_Y2 := y5.cell 2
          have l_X := x5.lt
          have l_Y := y5.lt
          clear x5 y5
          have HGV : Hid (∀ i, i < N → g.ds[i]? = some (Sf.amax a.ds d i)) := hide (fun i hi => by
            rw [hd, Sf.ds_row 19 (.inl rfl) a N d AZ.out HS19.out.1 i hi, if_pos rfl])
          have HGL : Hid (g.ds.length = N) := hide (by rw [hd, Sf.ds_length, HS19.out.1])
          obtain ⟨W10, hW10⟩ : ∃ W, W = w9.alloc (.cells #[.slice g.P g.zs.length g.cap, .bool g.u, .slice g.D g.ds.length g.dcap] 26) := ⟨_, rfl⟩
          have hbA : Below w9.heap.size w9 W10 := by rw [hW10]; exact (Below.refl _ _).alloc (Nat.le_refl _) _
          have G10 : Hid (Has W10 w9.heap.size 26 [.slice g.P g.zs.length g.cap, .bool g.u, .slice g.D g.ds.length g.dcap]) := hide (by rw [hW10]; exact Has.new _ _ _)
          have GI := hide (hIn.below hbA)
          have hb56 := hb.trans (hbA.mono hb.size)
          replace HB6 := hide (HB6.out.trans (hb56.mono HB6.out.size))
          replace A4 := hide (A4.out.below hb56 A4.out.lt)
          replace X6 := hide (X6.out.below hb56 X6.out.lt)
          replace Y8 := hide (Y8.out.below hb56 Y8.out.lt)
          replace TA4 := hide (TA4.out.below hb56)
          replace XI := hide (XI.out.below hb56)
          replace YI := hide (YI.out.below hb56)
          have HW10 := hide hW10
          clear hT hIn hd hb hW10 hbA hb56
          go_wp2_with fail
          rw [← HW10.out]
          clear HW10 c_X0 c_X1 c_X2 c_Y2 l_X l_Y
          have hSD := sameints_c x.ds y.ds x.D y.D x.dcap y.dcap W10 XI.out.dat YI.out.dat XI.out.ld YI.out.ld
          rw [decide_eq_true HYD.out.symm] at hSD
          refine hSD.mono ?_
          rintro e w11 ⟨rfl, hb⟩
          obtain ⟨W12, hW12⟩ : ∃ W, W = w11.alloc (.cells #[.int .i64 N] 3) := ⟨_, rfl⟩
          have hbA : Below w11.heap.size w11 W12 := by rw [hW12]; exact (Below.refl _ _).alloc (Nat.le_refl _) _
          have hN12 : Ri W12 (some ⟨w11.heap.size, 0, none⟩) [(N : Int)] := by rw [hW12]; exact new_ri w11 3 [(N : Int)] (by intro q hq; have := BN.out; simp at hq; omega)
          have hb56 := hb.trans (hbA.mono hb.size)
          replace HB6 := hide (HB6.out.trans (hb56.mono HB6.out.size))
          replace A4 := hide (A4.out.below hb56 A4.out.lt)
          replace G10 := hide (G10.out.below hb56 G10.out.lt)
          replace TA4 := hide (TA4.out.below hb56)
          replace GI := hide (GI.out.below hb56)
          have hxs := (XI.out.below hb56).shp
          have X11 := hide (X6.out.below hb X6.out.lt)
          have X12 := hide (X6.out.below hb56 X6.out.lt)
          have HSZ2 := hide (sameints_c x.zs [(N : Int)] x.P (some ⟨w11.heap.size, 0, none⟩) x.cap 1 W12 hxs hN12 XI.out.ls (by show 1 ≤ 1000000; omega))
          rw [decide_eq_true HXZ.out] at HSZ2
          have c_X0 := X11.out.cell 0
          have l_X := X11.out.lt
          have HW12 := hide hW12
          clear hSD hb hW12 hbA hb56 hN12 hxs
          go_wp2_with fail
          rw [← HW12.out]
          clear HW12 c_X0 l_X
          refine HSZ2.out.mono ?_
          rintro e w13 ⟨rfl, hb⟩
          replace HB6 := hide (HB6.out.trans (hb.mono HB6.out.size))
          replace A4 := hide (A4.out.below hb A4.out.lt)
          replace G10 := hide (G10.out.below hb G10.out.lt)
          replace TA4 := hide (TA4.out.below hb)
          replace GI := hide (GI.out.below hb)
          replace X12 := hide (X12.out.below hb X12.out.lt)
          have c_X1 := X12.out.cell 1
          rw [HXU.out] at c_X1
          clear hb HSZ2
          go_wp2_with fail
          clear c_X1
          obtain ⟨pa, hpa⟩ : ∃ pa, a.D = some pa := by
            obtain ⟨ad', h1, -, -⟩ := TA4.out.dat.2 (by intro h; have h2 := AL.out; have h3 := BS.out; have h4 := hS.out; rw [h] at h2; simp at h2; omega)
            exact ⟨ad', h1⟩
          have HPA := hide hpa
          clear hpa
          go_loopg [19, 20, 21] N (fun gq kk _ _ wy => ∃ p nq : Nat, gq + p = N ∧ kk = .int .i64 p ∧ wy = w13.drewN nq)
          case atStart => exact ⟨0, 0, by omega, rfl, rfl⟩
          case round =>
            obtain ⟨p, nq, hp9, rfl, rfl⟩ := hrel
            by_cases hlt : p < N
            · have hii : (p : Int) < (N : Int) := by omega
              have hi0 : (0 : Int) ≤ (p : Int) := by omega
              have hp64 : (p : Int) + 1 ≤ 101 := by have := BN.out; omega
              obtain ⟨gd, kv, hGD, ek, ck⟩ := ri_at GI.out.dat p (by rw [HGL.out]; exact hlt)
              obtain ⟨kb, hkb⟩ : ∃ kb, Hid (Sf.best (fun j => (Sf.row a.ds d p).getD j 0) d = kb) := ⟨_, hide rfl⟩
              have hkv : kv = (kb : Int) := by
                have h := Option.some.inj (ek.out.symm.trans (HGV.out p hlt))
                rw [h]
                show ((Sf.best (fun j => (Sf.row a.ds d p).getD j 0) d : Nat) : Int) = _
                rw [hkb.out]
              subst hkv
              have HBI := hide (Sf.best_is (fun j => (Sf.row a.ds d p).getD j 0) d)
              have HKD : Hid (kb < d) := hide (by rw [← hkb.out]; exact Sf.best_lt _ d BD.out.1)
              rw [hkb.out] at HBI
              rw [hGD] at G10
              have g2 := G10.out.cell 2
              have HGN : Hid ((p : Int) < (g.ds.length : Int)) := hide (by rw [HGL.out]; omega)
              have gn := HGN.out
              clear ek hGD
              go_wp2_with fail
              clear g2 ck gn
              go_loopg [21] d (fun gq2 kk2 wz => ∃ q nq : Nat, gq2 + q = d ∧ kk2 = .int .i64 q ∧ wz = w13.drewN nq)
              case atStart => exact ⟨0, _, by omega, rfl, rfl⟩
              case round =>
                obtain ⟨q, nq, hq9, rfl, rfl⟩ := hrel
                by_cases hlq : q < d
                · have hqq : (q : Int) < (d : Int) := by omega
                  have hq0 : (0 : Int) ≤ (q : Int) := by omega
                  have hq64 : (q : Int) + 1 ≤ 101 := by have := BD.out; omega
                  obtain ⟨pd, hpd⟩ : ∃ x, Hid (p * d = x) := ⟨_, hide rfl⟩
                  have Hpd : Hid (pd + d ≤ a.ds.length) := hide (by
                    rw [AL.out, ← hpd.out]
                    have h1 := Nat.mul_le_mul_right d (Nat.succ_le_of_lt hlt)
                    rw [Nat.succ_mul] at h1
                    exact h1)
                  have Hal : Hid (a.ds.length ≤ 100) := hide (by rw [AL.out, hS.out]; exact BS.out.2)
                  have e1 : wrap64 ((p : Int) * (d : Int)) = (pd : Int) := by rw [← Int.natCast_mul, hpd.out]; have := Hpd.out; have := Hal.out; unfold wrap64; omega
                  have e1b : IntKind.i64.wrap ((p : Int) * (d : Int)) = (pd : Int) := by rw [IntKind.wrap_i64, ← Int.natCast_mul, hpd.out]; have := Hpd.out; have := Hal.out; omega
                  obtain ⟨qi, hqi⟩ : ∃ x, Hid (pd + q = x) := ⟨_, hide rfl⟩
                  obtain ⟨qk, hqk⟩ : ∃ x, Hid (pd + kb = x) := ⟨_, hide rfl⟩
                  have Hqi : Hid (qi < a.ds.length) := hide (by have := hqi.out; have := Hpd.out; omega)
                  have Hqk : Hid (qk < a.ds.length) := hide (by have := hqk.out; have := Hpd.out; have := HKD.out; omega)
                  have E2 : Hid (wrap64 ((pd : Int) + (q : Int)) = (qi : Int)) := hide (by have := hqi.out; have := Hqi.out; have := Hal.out; unfold wrap64; omega)
                  have E3' : Hid (wrap64 ((pd : Int) + (kb : Int)) = (qk : Int)) := hide (by have := hqk.out; have := Hqk.out; have := Hal.out; unfold wrap64; omega)
                  have E2b : Hid (IntKind.i64.wrap ((pd : Int) + (q : Int)) = (qi : Int)) := hide (by rw [IntKind.wrap_i64]; have := hqi.out; have := Hqi.out; have := Hal.out; omega)
                  have E3b : Hid (IntKind.i64.wrap ((pd : Int) + (kb : Int)) = (qk : Int)) := hide (by rw [IntKind.wrap_i64]; have := hqk.out; have := Hqk.out; have := Hal.out; omega)
                  obtain ⟨p1, u, hP1, eu, cu⟩ := ri_at TA4.out.dat qi Hqi.out
                  obtain ⟨p2, v, hP2, ev, cv⟩ := ri_at TA4.out.dat qk Hqk.out
                  obtain rfl : p1 = pa := Option.some.inj (hP1.symm.trans HPA.out)
                  obtain rfl : p2 = p1 := Option.some.inj (hP2.symm.trans HPA.out)
                  have HU : Hid ((Sf.row a.ds d p).getD q 0 = u) := hide (by rw [List.getD_eq_getElem?_getD, Sf.row_at _ _ _ _ hlq, hpd.out, hqi.out, eu.out]; rfl)
                  have HV : Hid ((Sf.row a.ds d p).getD kb 0 = v) := hide (by rw [List.getD_eq_getElem?_getD, Sf.row_at _ _ _ _ HKD.out, hpd.out, hqk.out, ev.out]; rfl)
                  have hle : u ≤ v := by
                    have h := HBI.out.1 q hlq
                    rw [HU.out, HV.out] at h
                    exact h
                  have hlk : q < kb → u < v := fun h => by
                    have h := HBI.out.2.1 q h
                    rw [HU.out, HV.out] at h
                    exact h
                  have hng : ¬ v < u := by omega
                  have A5 := A4
                  rw [HPA.out] at A5
                  have a2 := A5.out.cell 2
                  have hq1 : (0 : Int) ≤ (qi : Int) := by omega
                  have hq2 : (0 : Int) ≤ (qk : Int) := by omega
                  have hq3 : (qi : Int) < (a.ds.length : Int) := by have := Hqi.out; omega
                  have hq4 : (qk : Int) < (a.ds.length : Int) := by have := Hqk.out; omega
                  clear eu ev hP1 hP2
                  by_cases hjk : q < kb
                  · have hjj : (q : Int) < (kb : Int) := by omega
                    have hne : ¬ u = v := by have := hlk hjk; omega
                    have hnb : (u == v) = false := by simp; exact hne
                    clear hlk hle hjk
                    have o2 := E2.out
                    have o3 := E3'.out
                    have o2b := E2b.out
                    have o3b := E3b.out
                    go_wp2_with fail
                    go_quiet (fail)
                    clear o2 o3 o2b o3b e1 e1b a2 cu cv
                    go_wp2_with fail
                    go_roundg (d - (q + 1))
                    case measure => omega
                    case rel => exact ⟨q + 1, _, by omega, by go_num, rfl⟩
                  · have Hjj : Hid (¬ (q : Int) < (kb : Int)) := hide (by omega)
                    have hng2 := hide hng
                    clear hlk hle hjk hng
                    have o2 := E2.out
                    have o3 := E3'.out
                    have o2b := E2b.out
                    have o3b := E3b.out
                    go_wp2_with fail
                    have hjj : ¬ (q : Int) < (kb : Int) := by have := Hjj.out; omega
                    have hng : ¬ v < u := by have := hng2.out; omega
                    have hd1 := decide_eq_false hjj
                    have hd2 := decide_eq_false hng
                    go_quiet (fail)
                    clear o2 o3 o2b o3b e1 e1b a2 cu cv hd1 hd2 hjj hng
                    go_wp2_with fail
                    go_roundg (d - (q + 1))
                    case measure => omega
                    case rel => exact ⟨q + 1, _, by omega, by go_num, rfl⟩
                · obtain rfl : q = d := by omega
                  have hqq : ¬ (q : Int) < (q : Int) := by omega
                  go_wp2_with fail
                  go_roundg (N - (p + 1))
                  case measure => omega
                  case rel => exact ⟨p + 1, _, by omega, by go_num, rfl⟩
            · obtain rfl : p = N := by omega
              have hii : ¬ (p : Int) < (p : Int) := by omega
              go_wp2_with fail
              go_ret
              exact ⟨rfl, below_drewN HB6.out _⟩
end Go.Proofs.YtcgjnjchkachdaaDoor
