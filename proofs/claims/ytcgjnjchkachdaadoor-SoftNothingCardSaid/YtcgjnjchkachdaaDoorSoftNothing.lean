/-
  The law SoftNothing, walked. By an AI agent. No person has read it.
-/
import Derived.Test.YtcgjnjchkachdaaDoorSftV
namespace Go.Proofs.YtcgjnjchkachdaaDoor
open Go.RowKit

set_option maxRecDepth 100000 in
set_option maxHeartbeats 8000000 in
theorem softnothing_c (l : List Int) (A : Option Addr) (cap : Nat) (v0 : Int) (ah am ar : Addr) (w : World) (hr : Ri w A l) (hE : E3 w ah am ar) :
    Calls Tryd.prog 11 #[.slice A l.length cap, .int .i64 v0] w fun e w' => e = .returned (.bool true) ∧ Below w.heap.size w w' := by
  have HF := hide (first11_c ah am ar w hE)
  have HE := hide (fun W (hb : Below w.heap.size w W) => hE.below hb)
  have HL := hide (fun W (hb : Below w.heap.size w W) => hr.below hb)
  have HN := hide (fun x W => number_c x 256 (by decide) (by decide) 256 rfl W)
  obtain ⟨k2, hj0, hj1, NV⟩ := number_n v0 2147483648 (by decide) (by decide) 2147483648 rfl
  obtain ⟨v1, ev1⟩ : ∃ M, Hid (k2 - 1073741824 = M) := ⟨_, hide rfl⟩
  have BV : Hid (-1073741824 ≤ v1 ∧ v1 ≤ 1073741823) := hide (by rw [← ev1.out]; omega)
  have HWV : Hid (wrap64 (k2 - 1073741824) = v1) := hide (by rw [← ev1.out]; unfold wrap64; omega)
  clear hj0 hj1 ev1
  obtain ⟨n, hn⟩ : ∃ n, Hid (l.length = n) := ⟨_, hide rfl⟩
  rw [hn.out]
  clear hr hE
  by_cases hbig : 40 < n
  case pos =>
    have hb2 : (40 : Int) < n := by omega
    clear hbig
    go_enter Tryd.func11, Tryd.ntmps11
    go_wp2_with fail
    refine HF.out.mono ?_
    rintro e w1 ⟨rfl, hb⟩
    have HB := hide hb
    clear hb HF
    go_wp2_with fail
    go_ret
    exact ⟨rfl, HB.out⟩
  case neg =>
  have hn40 : (n : Int) ≤ 40 := by omega
  by_cases hz : n = 0
  case pos =>
    subst hz
    go_enter Tryd.func11, Tryd.ntmps11
    go_wp2_with fail
    refine HF.out.mono ?_
    rintro e w1 ⟨rfl, hb⟩
    have HB := hide hb
    clear hb HF
    go_wp2_with fail
    go_ret
    exact ⟨rfl, HB.out⟩
  case neg =>
  have hn0 : ((n : Int) == 0) = false := by simp; omega
  have hnP : 1 ≤ n := by omega
  clear hbig hz
  go_enter Tryd.func11, Tryd.ntmps11
  go_wp2_with fail
  refine HF.out.mono ?_
  rintro e w1 ⟨rfl, hb⟩
  have HB := hide hb
  have HWS1 := hide hb.size
  clear hb HF
  obtain ⟨W, hW⟩ : ∃ W, W = (w1.alloc (.cells #[.int .i64 n] 3)).alloc (.cells #[.slice (some ⟨w1.heap.size, 0, none⟩) 1 1, .bool false, .slice none 0 0] 26) := ⟨_, rfl⟩
  have hBW : Below w1.heap.size w1 W := by rw [hW]; exact ((Below.refl _ _).alloc (Nat.le_refl _) _).alloc (by simp) _
  have SH : Hid (Has W w1.heap.size 3 [.int .i64 n]) := hide (by rw [hW]; exact (Has.new w1 3 [.int .i64 n]).alloc _)
  have BX : Hid (Has W (w1.heap.size + 1) 26 [.slice (some ⟨w1.heap.size, 0, none⟩) 1 1, .bool false, .slice none 0 0]) := hide (by rw [hW]; exact box_at _ _ _ _ (by simp))
  have hWs : W.heap.size = w1.heap.size + 2 := by rw [hW]; simp
  have HWS := hide hWs
  replace HB := hide (HB.out.trans (hBW.mono HB.out.size))
  have HW := hide hW
  have HW1 := hide hBW.size
  clear hW hBW hWs
  go_wp2_with fail
  rw [← HW.out]
  clear HW
  go_loopw [7] (fun k wr => ∃ i : Nat, i ≤ n ∧ k = .int .i64 i ∧ ∃ (ds : List Int) (v : Value), Hid (∀ d ∈ ds, -128 ≤ d ∧ d ≤ 127) ∧ Hid (Has wr (w1.heap.size + 1) 26 [.slice (some ⟨w1.heap.size, 0, none⟩) 1 1, .bool false, v]) ∧ Hid (Has wr w1.heap.size 3 [.int .i64 n]) ∧ Hid (wr.ownsRow (w1.heap.size + 2) 3 1 v i (i64s ds)) ∧ Hid (Below w.heap.size w wr) ∧ Hid (w1.heap.size + 2 ≤ wr.heap.size)) (fun k _ => n - (intOf k).toNat)
  case atStart => exact ⟨0, by omega, rfl, [], _, hide (by simp), BX, SH, hide ⟨rfl, .inl ⟨rfl, rfl⟩⟩, HB, hide (by rw [HWS.out]; exact Nat.le_refl _)⟩
  case round =>
    clear BX SH HB HWS HW1
    obtain ⟨i, hi, rfl, ds, v, HD, BX, SH, HO, HB, HSZ⟩ := hrel
    by_cases hlt : i < n
    · obtain ⟨ad, x, hAD, ex, cx⟩ := ri_at (HL.out _ HB.out) i (by rw [hn.out]; exact hlt)
      subst hAD
      have him : (i : Int) < n := by omega
      have hi0 : (0 : Int) ≤ (i : Int) := by omega
      have c2 : wr.cell? ⟨w1.heap.size + 1, 2, none⟩ = some v := BX.out.cell 2
      have adl : ad.block < wr.heap.size := by
        obtain ⟨ad', h1, h2, -⟩ := (HL.out _ HB.out).2 (by intro h; rw [h] at ex; have h := ex.out; simp at h)
        rw [Option.some.inj h1]
        exact h2
      have hsl := HSZ.out
      have HX := hide (fun W => HN.out x W)
      have HBI := hide (show i + 1 ≤ 1000000000000 by omega)
      have HBS := hide (fun k : Int => show w1.heap.size + 2 ≤ ((wr.alloc (.cells #[.int .i64 k] 3)).drew).heap.size by have := HSZ.out; simp [World.drew]; omega)
      have HOW := hide (fun k : Int => (HO.out.alloc (.cells #[.int .i64 k] 3)).drew)
      have HRI := hide (fun (k : Int) (h : -128 ≤ k ∧ k ≤ 127) => show Ri ((wr.alloc (.cells #[.int .i64 k] 3)).drew) (some ⟨wr.heap.size, 0, none⟩) [k] from ri_drew (new_ri wr 3 [k] (by intro q hq; simp at hq; omega)) 1)
      have HGX := hide (fun (k : Int) (w' : World) (h2 : ((wr.alloc (.cells #[.int .i64 k] 3)).drew).grownBy w' v.ownBlock) => (show Has ((wr.alloc (.cells #[.int .i64 k] 3)).drew) (w1.heap.size + 1) 26 [.slice (some ⟨w1.heap.size, 0, none⟩) 1 1, .bool false, v] from (BX.out.alloc (.cells #[.int .i64 k] 3)).drewN 1).grown h2 (own_apart HO.out (by omega)))
      have HGS := hide (fun (k : Int) (w' : World) (h2 : ((wr.alloc (.cells #[.int .i64 k] 3)).drew).grownBy w' v.ownBlock) => (show Has ((wr.alloc (.cells #[.int .i64 k] 3)).drew) w1.heap.size 3 [.int .i64 n] from (SH.out.alloc (.cells #[.int .i64 k] 3)).drewN 1).grown h2 (own_apart HO.out (by omega)))
      have HGB := hide (fun (k : Int) (w' : World) (h2 : ((wr.alloc (.cells #[.int .i64 k] 3)).drew).grownBy w' v.ownBlock) => elm_grown ((HB.out.alloc HB.out.size (.cells #[.int .i64 k] 3)).drew) (own_le (HOW.out k) (by have := HWS1.out; omega)) ((HB.out.alloc HB.out.size (.cells #[.int .i64 k] 3)).drew).size h2)
      clear hi ex
      go_wp2_with fail
      go_region_law (first
        | (go_simp; go_at_call 33; refine (HX.out _).mono ?_; rintro e wq ⟨⟨k, hk, rfl⟩, hw⟩; have hw := hw.symm; subst hw; have hk0 : (0 : Int) ≤ k := (by omega); have hk1 : (k : Int) < 256 := (by omega); have HKK := hide (show -128 ≤ IntKind.i64.wrap ((k : Int) - 128) ∧ IntKind.i64.wrap ((k : Int) - 128) ≤ 127 from (by rw [IntKind.wrap_i64]; omega)); have dal : (wr.alloc (.cells #[.int .i64 (IntKind.i64.wrap ((k : Int) - 128))] 3)).cell? ⟨w1.heap.size + 1, 2, none⟩ = some v := (BX.out.alloc (.cells #[.int .i64 (IntKind.i64.wrap ((k : Int) - 128))] 3)).cell 2)
        | (refine step_append_is rfl (.tmp 43) (.tmp 50) rfl (w1.heap.size + 2) v i (i64s ds) (by first | rfl | simp [Act.eval]) (HOW.out (IntKind.i64.wrap ((k : Int) - 128))) (some ⟨wr.heap.size, 0, none⟩) 1 1 [IntKind.i64.wrap ((k : Int) - 128)] (by first | rfl | simp [Act.eval]) (hide rfl) (HRI.out _ HKK.out) HBI.out (HBS.out _) (fun v' w' h1 h2 h3 => ?_); obtain ⟨Pn, cn, hvn⟩ := own_slice h1; subst hvn; have H1 := hide h1; have H2 := hide h2; have hbx := HGX.out _ _ h2; have d2 : w'.cell? ⟨w1.heap.size + 1, 2, none⟩ = some v := hbx.cell 2; have f2 := hbx.frozen 2; clear h1 h2 h3 hbx))
      all_goals go_ways
      all_goals
        go_wp2_with fail
        go_roundw
        case rel =>
          have hbx := HGX.out _ _ H2.out
          have hsh := HGS.out _ _ H2.out
          have hhb := HGB.out _ _ H2.out
          have hsz := HSZ.out
          have hws := HWS1.out
          have hbs := hbx.set_ 2 (.slice Pn (i + 1) cn)
          refine ⟨i + 1, by omega, by go_num, ds ++ [IntKind.i64.wrap ((k : Int) - 128)], .slice Pn (i + 1) cn, hide ?_, hide hbs, hide (hsh.far (by simp) _), hide (own_set (by rw [show i64s (ds ++ [IntKind.i64.wrap ((k : Int) - 128)]) = i64s ds ++ i64s [IntKind.i64.wrap ((k : Int) - 128)] from List.map_append]; exact H1.out) (by simp) _), hide (hhb.setCell (by simp; omega) _), hide ?_⟩
          · intro d hd
            rcases List.mem_append.1 hd with hd | hd
            · exact HD.out d hd
            · rw [List.mem_singleton.1 hd]; exact HKK.out
          · have := hbs.lt
            omega
        case measure => simp [intOf]; omega
    · obtain rfl : i = n := by omega
      have nlt : ¬ ((i : Int) < i) := by omega
      obtain ⟨D, dc, rfl, hRD, hlen⟩ := own_ri HO.out (fun d hd => wf_i64 d (by have := HD.out d hd; omega))
      have hcap := own_cap HO.out
      have HRD := hide hRD
      clear HO hi hlt hRD
      obtain ⟨a, ea⟩ : ∃ a : Ten, Hid (a = ⟨some ⟨w1.heap.size, 0, none⟩, [(i : Int)], 1, false, D, ds, dc⟩) := ⟨_, hide rfl⟩
      have TA : Hid (a.In wr) := hide (by rw [ea.out]; exact ⟨(show Has wr w1.heap.size 3 (i64s [(i : Int)]) from SH.out).ri (by intro q hq; rw [List.mem_singleton.1 hq]; exact wf_i64 _ (by omega)), HRD.out, by simp, by show ds.length ≤ 1000000; omega⟩)
      have A : Hid (Has wr (w1.heap.size + 1) 26 [.slice a.P a.zs.length a.cap, .bool a.u, .slice a.D a.ds.length a.dcap]) := hide (by rw [ea.out]; show Has wr (w1.heap.size + 1) 26 [.slice (some ⟨w1.heap.size, 0, none⟩) 1 1, .bool false, .slice D ds.length dc]; rw [hlen]; exact BX.out)
      have AZ : Hid (a.zs = [(i : Int)]) := hide (by rw [ea.out])
      have AU : Hid (a.u = false) := hide (by rw [ea.out])
      have AL : Hid (a.ds.length = i) := hide (by rw [ea.out]; exact hlen)
      have AC : Hid (a.ds.length ≤ a.dcap) := hide (by rw [ea.out]; show ds.length ≤ dc; rw [hlen]; exact hcap)
      have AN : Hid (∀ z ∈ a.ds, -128 ≤ z ∧ z ≤ 127) := hide (by rw [ea.out]; exact HD.out)
      have FA : Hid (a.fault = (0, none)) := hide (Sf.fine_line a i AZ.out (by omega) AL.out (fun z hz => by rw [AU.out]; have := AN.out z hz; exact Sf.fitn (by omega)))
      clear ea BX SH HRD hlen hcap HD
      obtain ⟨wb, hwb⟩ : ∃ W, W = wr := ⟨_, rfl⟩
      subst hwb
      obtain ⟨Z, hZZ, hmk⟩ := made_ints 256 (by decide)
      obtain ⟨W2, hW2⟩ : ∃ W, W = (wb.alloc (.cells #[.int .i64 256] 3)).alloc (.cells Z 3) := ⟨_, rfl⟩
      have hmk1 : (Instr.makeSlice 22 (.int .i64 256) (.int .i64 256)).run Tryd.prog (wb.alloc (.cells #[.int .i64 256] 3)) = .ok (.slice (some ⟨wb.heap.size + 1, 0, none⟩) 256 256) W2 := by
        have h := hmk (wb.alloc (.cells #[.int .i64 256] 3))
        rw [← hW2] at h
        have hs : (wb.alloc (.cells #[.int .i64 256] 3)).heap.size = wb.heap.size + 1 := by simp
        rw [hs] at h
        exact h
      have hb2 : Below wb.heap.size wb W2 := by rw [hW2]; exact ((Below.refl _ _).alloc (Nat.le_refl _) _).alloc (by simp) _
      obtain ⟨W3, hW3⟩ : ∃ W, W = W2.alloc (.cells #[.slice (some ⟨wb.heap.size, 0, none⟩) 1 1, .bool true, .slice (some ⟨wb.heap.size + 1, 0, none⟩) 256 256] 26) := ⟨_, rfl⟩
      have hb3 : Below W2.heap.size W2 W3 := by rw [hW3]; exact (Below.refl _ _).alloc (Nat.le_refl _) _
      have TS : Hid (Has W3 wb.heap.size 3 (i64s [((256 : Nat) : Int)])) := hide (by rw [hW3, hW2]; exact ((Has.new wb 3 [.int .i64 256]).alloc _).alloc _)
      have TD : Hid (Has W3 (wb.heap.size + 1) 3 (i64s (List.replicate 256 0))) := hide (by rw [hW3, hW2, hZZ.out]; exact (box_at _ 3 (i64s (List.replicate 256 0)) _ (by simp)).alloc _)
      have BT : Hid (Has W3 W2.heap.size 26 [.slice (some ⟨wb.heap.size, 0, none⟩) 1 1, .bool true, .slice (some ⟨wb.heap.size + 1, 0, none⟩) 256 256]) := hide (by rw [hW3]; exact Has.new _ _ _)
      have hw2s : wb.heap.size + 2 = W2.heap.size := by rw [hW2]; simp
      have hbw := hb2.trans (hb3.mono hb2.size)
      have AA := A
      have TAA := TA
      have HB0 := HB
      have HB3 := hide (HB.out.trans (hbw.mono HB.out.size))
      have HWR := hide HB.out.size
      have HBW3 := hide hbw
      have HBR := hide (Below.refl W3.heap.size W3)
      have Hw2s := hide hw2s
      have HW3 := hide hW3
      clear hZZ hmk hW2 hb2 hb3 hbw hW3 HB hw2s
      go_wp2_with fail
      rw [← HW3.out]
      clear HW3 hmk1
      refine (NV.out _).mono ?_
      rintro e wq ⟨rfl, hw⟩
      have hw := hw.symm
      subst hw
      have hwv := HWV.out
      go_wp2_with fail
      rw [hwv]
      clear hwv
      have HRR : Hid (Below wb.heap.size wb W3) := HBW3
      go_loopg [9] 256 (fun gq kk wr => ∃ (p : Nat) (xs : List Int), gq + p = 256 ∧ kk = .int .i64 p ∧ Hid (xs.length = 256) ∧ Hid (∀ j, j < p → xs[j]? = some v1) ∧ Hid (Has wr (wb.heap.size + 1) 3 (i64s xs)) ∧ Hid (Has wr wb.heap.size 3 (i64s [((256 : Nat) : Int)])) ∧ Hid (Has wr W2.heap.size 26 [.slice (some ⟨wb.heap.size, 0, none⟩) 1 1, .bool true, .slice (some ⟨wb.heap.size + 1, 0, none⟩) 256 256]) ∧ Hid (Below wb.heap.size wb wr))
      case atStart => exact ⟨0, List.replicate 256 0, by omega, rfl, hide (by simp), hide (fun j hj => by omega), TD, TS, BT, HRR⟩
      case round =>
        clear TD TS BT HRR
        obtain ⟨p, xs, hp9, rfl, HXN, HI, TD, TS, BT, HRR⟩ := hrel
        by_cases hlt : p < 256
        · have hii : (p : Int) < 256 := by omega
          have hi0 : (0 : Int) ≤ (p : Int) := by omega
          have x2 := BT.out.cell 2
          have gf := TD.out.frozen p
          have gc1 : wr.cell? ⟨wb.heap.size + 1, p, none⟩ = some (.int .i64 (xs[p]'(by rw [HXN.out]; exact hlt))) := by
            rw [TD.out.cell]
            unfold i64s
            rw [List.getElem?_map, List.getElem?_eq_getElem (by rw [HXN.out]; exact hlt)]
            rfl
          have hw2s := Hw2s.out
          go_wp2_with fail
          go_roundg (256 - (p + 1))
          case measure => omega
          case rel =>
            refine ⟨p + 1, xs.set p v1, by omega, by go_num, hide (by rw [List.length_set]; exact HXN.out), hide (fun j hj => ?_), ?_, hide (TS.out.far (p := ⟨wb.heap.size + 1, p, none⟩) (by simp) (.int .i64 v1)), hide (BT.out.far (p := ⟨wb.heap.size + 1, p, none⟩) (by simp; omega) (.int .i64 v1)), hide (HRR.out.setCell (p := ⟨wb.heap.size + 1, p, none⟩) (by simp) (.int .i64 v1))⟩
            · rw [List.getElem?_set]
              by_cases h : p = j
              · subst h
                rw [if_pos rfl, if_pos (by rw [HXN.out]; exact hlt)]
              · rw [if_neg h]
                exact HI.out j (by omega)
            · have h := TD.out.set_ p (.int .i64 v1)
              unfold i64s at h ⊢
              rw [List.map_set]
              exact hide h
        · obtain rfl : p = 256 := by omega
          have hii : ¬ ((256 : Nat) : Int) < 256 := by omega
          have hxs : xs = List.replicate 256 v1 := List.ext_getElem? (fun j => by
            rcases Nat.lt_or_ge j 256 with h | h
            · rw [HI.out j h, List.getElem?_replicate, if_pos h]
            · rw [List.getElem?_eq_none (by rw [HXN.out]; exact h), List.getElem?_eq_none (by rw [List.length_replicate]; exact h)])
          subst hxs
          have HB4 : Hid (Below w.heap.size w wr) := hide (HB0.out.trans (HRR.out.mono HB0.out.size))
          have A4 : Hid (Has wr (w1.heap.size + 1) 26 [.slice a.P a.zs.length a.cap, .bool a.u, .slice a.D a.ds.length a.dcap]) := hide (AA.out.below HRR.out AA.out.lt)
          have TA4 : Hid (a.In wr) := hide (TAA.out.below HRR.out)
          obtain ⟨b, hbv⟩ : ∃ b : Ten, Hid (b = ⟨some ⟨wb.heap.size, 0, none⟩, [((256 : Nat) : Int)], 1, true, some ⟨wb.heap.size + 1, 0, none⟩, List.replicate 256 v1, 256⟩) := ⟨_, hide rfl⟩
          have TB : Hid (b.In wr) := hide (by rw [hbv.out]; exact ⟨TS.out.ri (by decide), TD.out.ri (fun q hq => by rw [(List.mem_replicate.1 hq).2]; exact wf_i64 _ (by have := BV.out; omega)), by show 1 ≤ 1000000; omega, by show (List.replicate 256 v1).length ≤ 1000000; rw [List.length_replicate]; omega⟩)
          have B4 : Hid (Has wr W2.heap.size 26 [.slice b.P b.zs.length b.cap, .bool b.u, .slice b.D b.ds.length b.dcap]) := hide (by rw [hbv.out]; show Has wr W2.heap.size 26 [.slice (some ⟨wb.heap.size, 0, none⟩) 1 1, .bool true, .slice (some ⟨wb.heap.size + 1, 0, none⟩) (List.replicate 256 v1).length 256]; rw [List.length_replicate]; exact BT.out)
          have BZ : Hid (b.zs = [((256 : Nat) : Int)]) := hide (by rw [hbv.out])
          have BU : Hid (b.u = true) := hide (by rw [hbv.out])
          have BD : Hid (b.ds = List.replicate 256 v1) := hide (by rw [hbv.out])
          have BC : Hid (b.ds.length ≤ b.dcap) := hide (by rw [hbv.out]; show (List.replicate 256 v1).length ≤ 256; rw [List.length_replicate]; exact Nat.le_refl _)
          have FB : Hid (b.fault = (0, none)) := hide (Sf.fine_line b 256 BZ.out (by decide) (by rw [BD.out, List.length_replicate]) (fun z hz => by rw [BU.out]; rw [BD.out] at hz; rw [(List.mem_replicate.1 hz).2]; have := BV.out; exact Sf.fitw (by omega)))
          have HFS : Hid (Cel.fault [a, b] (Sf.code 16 ([a, b].map Ten.look)) = (0, none)) := hide (Sf.good_soft FA.out FB.out AU.out (by rw [AZ.out]; exact Nat.one_pos) BZ.out BU.out)
          have HSF := hide (Sf.fine_soft a b AC.out HFS.out)
          obtain ⟨g, hg⟩ : ∃ g, Hid (max 0 v1 = g) := ⟨_, hide rfl⟩
          obtain ⟨q, hq⟩ : ∃ q, Hid (Sf.of ((i : Int) * g) g = q) := ⟨_, hide rfl⟩
          have HDS : Hid (∀ x : Ten, x.ds = Sf.ds 16 [a, b] → x.ds.length = i ∧ ∀ j, j < i → x.ds[j]? = some q) := hide (fun x hx => by
            have hsz : Sf.size 16 [a, b] = i := HSF.out.2.2.2.2.2.2.2.trans AL.out
            refine ⟨by rw [hx, Sf.ds_length, hsz], fun j hj => ?_⟩
            rw [hx]
            unfold Sf.ds
            rw [hsz, Sf.part_at _ _ _ _ hj, Nat.zero_add, Sf.soft_line i AZ.out AL.out j hj, Sf.same_of AN.out BD.out j hj, hg.out, hq.out])
          have c_A0 := A4.out.cell 0
          have c_A1 := A4.out.cell 1
          have c_A2 := A4.out.cell 2
          have c_B0 := B4.out.cell 0
          have c_B1 := B4.out.cell 1
          have c_B2 := B4.out.cell 2
          clear TD TS BT HRR hbv HXN HI hlt
          go_wp2_with fail
          clear c_A0 c_A1 c_A2 c_B0 c_B1 c_B2
          refine (sfsoftmax_c a b ah am ar wr TA4.out TB.out (by
            intro x hx
            simp only [List.mem_cons, List.not_mem_nil, or_false] at hx
            rcases hx with rfl | rfl
            · exact AC.out
            · exact BC.out) (HE.out _ HB4.out)).mono ?_
          intro e w5 hT
          obtain ⟨⟨x, rfl, hIn, -, -, hd, -⟩, hb⟩ := sf_good 16 (.inl rfl) _ ah am ar _ HFS.out hT
          obtain ⟨hxl, hxv⟩ := HDS.out x hd
          have HXV := hide hxv
          have HXL := hide hxl
          rw [hxl]
          obtain ⟨W6, hW6⟩ : ∃ W, W = w5.alloc (.cells #[.slice x.P x.zs.length x.cap, .bool x.u, .slice x.D i x.dcap] 26) := ⟨_, rfl⟩
          have hbA : Below w5.heap.size w5 W6 := by rw [hW6]; exact (Below.refl _ _).alloc (Nat.le_refl _) _
          have X6 : Hid (Has W6 w5.heap.size 26 [.slice x.P x.zs.length x.cap, .bool x.u, .slice x.D i x.dcap]) := hide (by rw [hW6]; exact Has.new _ _ _)
          have XI := hide (hIn.below hbA)
          have HB6 := hide ((HB4.out.trans (hb.mono HB4.out.size)).trans (hbA.mono (HB4.out.trans (hb.mono HB4.out.size)).size))
          have HW6 := hide hW6
          clear hT hIn hd hb hxl hxv hW6 hbA HDS
          by_cases hv : 0 < v1
          · have hg1 : v1 = g := by rw [← hg.out]; omega
            subst hg1
            have bv := BV.out
            have hnz : 0 < (i : Int) * v1 := Int.mul_pos (by omega) hv
            have hnl : (i : Int) * v1 ≤ 40 * v1 := Int.mul_le_mul_of_nonneg_right (by omega) (by omega)
            have hqq := hq.out
            unfold Sf.of at hqq
            rw [if_neg (by omega)] at hqq
            obtain ⟨p1, hp1⟩ : ∃ x, Hid (255 * v1 = x) := ⟨_, hide rfl⟩
            obtain ⟨p2, hp2⟩ : ∃ x, Hid ((i : Int) * v1 = x) := ⟨_, hide rfl⟩
            rw [hp1.out, hp2.out] at hqq
            rw [hp2.out] at hnz hnl
            obtain ⟨p3, hp3⟩ : ∃ x, Hid (p2 / 2 = x) := ⟨_, hide rfl⟩
            obtain ⟨p4, hp4⟩ : ∃ x, Hid (p1 + p3 = x) := ⟨_, hide rfl⟩
            obtain ⟨p5, hp5⟩ : ∃ x, Hid (p4 / p2 = x) := ⟨_, hide rfl⟩
            rw [hp3.out, hp4.out, hp5.out] at hqq
            have b1 : 0 ≤ p1 ∧ p1 ≤ 273804165120 := by rw [← hp1.out]; omega
            have b3 : 0 ≤ p3 ∧ p3 ≤ 42949672960 := by rw [← hp3.out]; omega
            have b4 : 0 ≤ p4 ∧ p4 ≤ 1099511627776 := by rw [← hp4.out]; omega
            have b5 : 0 ≤ p5 := by rw [← hp5.out]; exact Int.ediv_nonneg b4.1 (by omega)
            have b6 : p5 ≤ p4 := by rw [← hp5.out]; exact Int.ediv_le_self _ b4.1
            have e3 : p2.tdiv 2 = p3 := by rw [Int.tdiv_eq_ediv_of_nonneg (by omega)]; exact hp3.out
            have e5 : p4.tdiv p2 = p5 := by rw [Int.tdiv_eq_ediv_of_nonneg b4.1]; exact hp5.out
            have O1 : Hid (wrap64 (255 * v1) = p1) := hide (by rw [hp1.out]; unfold wrap64; omega)
            have O2 : Hid (wrap64 ((i : Int) * v1) = p2) := hide (by rw [hp2.out]; unfold wrap64; omega)
            have O3 : Hid (wrap64 (p2 / 2) = p3) := hide (by rw [hp3.out]; unfold wrap64; omega)
            have O3b : Hid (wrap64 (p2.tdiv 2) = p3) := hide (by rw [e3]; unfold wrap64; omega)
            have O4 : Hid (wrap64 (p1 + p3) = p4) := hide (by rw [hp4.out]; unfold wrap64; omega)
            have O5 : Hid (wrap64 (p4 / p2) = p5) := hide (by rw [hp5.out]; unfold wrap64; omega)
            have O5b : Hid (wrap64 (p4.tdiv p2) = p5) := hide (by rw [e5]; unfold wrap64; omega)
            have O6 : Hid (wrap64 (p5 - 128) = q) := hide (by rw [hqq]; unfold wrap64; omega)
            have h20 : ¬ p2 = 0 := by omega
            clear bv hnz hnl hqq b1 b3 b4 b5 b6 e3 e5
            have o1 := O1.out
            have o2 := O2.out
            have o3 := O3.out
            have o3b := O3b.out
            have o4 := O4.out
            have o5 := O5.out
            have o5b := O5b.out
            have o6 := O6.out
            go_wp2_with fail
            rw [← HW6.out, o6]
            clear HW6 o1 o2 o3 o3b o4 o5 o5b o6
            go_loopg [14] i (fun gq kk wy => ∃ p : Nat, gq + p = i ∧ kk = .int .i64 p ∧ W6 = wy)
            case atStart => exact ⟨0, by omega, rfl, rfl⟩
            case round =>
              obtain ⟨p, hp9, rfl, hwr⟩ := hrel
              subst hwr
              by_cases hlt : p < i
              · have hii : (p : Int) < (i : Int) := by omega
                have hi0 : (0 : Int) ≤ (p : Int) := by omega
                have hi2 : ((p : Nat) : Int) + 1 ≤ 1000001 := by omega
                obtain ⟨xd, y, hXD, ey, cy⟩ := ri_at XI.out.dat p (by rw [HXL.out]; exact hlt)
                have hyq : y = q := Option.some.inj (ey.out.symm.trans (HXV.out p hlt))
                subst hyq
                rw [hXD] at X6
                have x2 := X6.out.cell 2
                have hbb : (y != y) = false := by simp
                clear hXD ey
                go_wp2_with fail
                go_roundg (i - (p + 1))
                case measure => omega
                case rel => exact ⟨p + 1, by omega, by go_num, rfl⟩
              · obtain rfl : p = i := by omega
                have hnn : ¬ (p : Int) < p := by omega
                go_wp2_with fail
                go_ret
                exact ⟨rfl, HB6.out⟩
          · have hg0 : g = 0 := by rw [← hg.out]; omega
            have hq0 : q = -128 := by
              rw [← hq.out, hg0, Int.mul_zero]
              rfl
            subst hq0
            go_wp2_with fail
            rw [← HW6.out]
            clear HW6
            go_loopg [14] i (fun gq kk wy => ∃ p : Nat, gq + p = i ∧ kk = .int .i64 p ∧ W6 = wy)
            case atStart => exact ⟨0, by omega, rfl, rfl⟩
            case round =>
              obtain ⟨p, hp9, rfl, hwr⟩ := hrel
              subst hwr
              by_cases hlt : p < i
              · have hii : (p : Int) < (i : Int) := by omega
                have hi0 : (0 : Int) ≤ (p : Int) := by omega
                have hi2 : ((p : Nat) : Int) + 1 ≤ 1000001 := by omega
                obtain ⟨xd, y, hXD, ey, cy⟩ := ri_at XI.out.dat p (by rw [HXL.out]; exact hlt)
                have hyq : y = (-128) := Option.some.inj (ey.out.symm.trans (HXV.out p hlt))
                subst hyq
                rw [hXD] at X6
                have x2 := X6.out.cell 2
                have hbb : ((-128 : Int) != (-128 : Int)) = false := by simp
                clear hXD ey
                go_wp2_with fail
                go_roundg (i - (p + 1))
                case measure => omega
                case rel => exact ⟨p + 1, by omega, by go_num, rfl⟩
              · obtain rfl : p = i := by omega
                have hnn : ¬ (p : Int) < p := by omega
                go_wp2_with fail
                go_ret
                exact ⟨rfl, HB6.out⟩
end Go.Proofs.YtcgjnjchkachdaaDoor
