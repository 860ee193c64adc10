/-
  The law SoftGathers, walked. By an AI agent. No person has read it.
-/
import Derived.Test.YtcgjnjchkachdaaDoorSftV
namespace Go.Proofs.YtcgjnjchkachdaaDoor
open Go.RowKit

/-- What is held in a region: 9 cells. -/
abbrev SfC9 (p0 p1 p2 p3 p4 p5 p6 p7 p8 : Addr) (v0 v1 v2 v3 v4 v5 v6 v7 v8 : Value) (W : World) : Prop := W.cell? p0 = some v0 ∧ W.cell? p1 = some v1 ∧ W.cell? p2 = some v2 ∧ W.cell? p3 = some v3 ∧ W.cell? p4 = some v4 ∧ W.cell? p5 = some v5 ∧ W.cell? p6 = some v6 ∧ W.cell? p7 = some v7 ∧ W.cell? p8 = some v8
theorem SfC9.keep {p0 p1 p2 p3 p4 p5 p6 p7 p8 : Addr} {v0 v1 v2 v3 v4 v5 v6 v7 v8 : Value} {W W' : World} (h : SfC9 p0 p1 p2 p3 p4 p5 p6 p7 p8 v0 v1 v2 v3 v4 v5 v6 v7 v8 W) (l0 : p0.block < W.heap.size) (l1 : p1.block < W.heap.size) (l2 : p2.block < W.heap.size) (l3 : p3.block < W.heap.size) (l4 : p4.block < W.heap.size) (l5 : p5.block < W.heap.size) (l6 : p6.block < W.heap.size) (l7 : p7.block < W.heap.size) (l8 : p8.block < W.heap.size) (hB : Below W.heap.size W W') : SfC9 p0 p1 p2 p3 p4 p5 p6 p7 p8 v0 v1 v2 v3 v4 v5 v6 v7 v8 W' := by
  obtain ⟨h0, h1, h2, h3, h4, h5, h6, h7, h8⟩ := h
  exact ⟨(hB.cell l0).trans h0, (hB.cell l1).trans h1, (hB.cell l2).trans h2, (hB.cell l3).trans h3, (hB.cell l4).trans h4, (hB.cell l5).trans h5, (hB.cell l6).trans h6, (hB.cell l7).trans h7, (hB.cell l8).trans h8⟩
theorem SfC9.far {p0 p1 p2 p3 p4 p5 p6 p7 p8 : Addr} {v0 v1 v2 v3 v4 v5 v6 v7 v8 : Value} {W : World} (h : SfC9 p0 p1 p2 p3 p4 p5 p6 p7 p8 v0 v1 v2 v3 v4 v5 v6 v7 v8 W) {b : Nat} (l0 : b ≠ p0.block) (l1 : b ≠ p1.block) (l2 : b ≠ p2.block) (l3 : b ≠ p3.block) (l4 : b ≠ p4.block) (l5 : b ≠ p5.block) (l6 : b ≠ p6.block) (l7 : b ≠ p7.block) (l8 : b ≠ p8.block) (j : Nat) (x : Value) : SfC9 p0 p1 p2 p3 p4 p5 p6 p7 p8 v0 v1 v2 v3 v4 v5 v6 v7 v8 (W.setCell ⟨b, j, none⟩ x) := by
  obtain ⟨h0, h1, h2, h3, h4, h5, h6, h7, h8⟩ := h
  have f : ∀ (p : Addr) (v : Value), b ≠ p.block → W.cell? p = some v → (W.setCell ⟨b, j, none⟩ x).cell? p = some v := fun p v hn hc => by
    rw [World.cell?_setCell_far _ _ _ _ (by exact hn)]
    exact hc
  exact ⟨f _ _ l0 h0, f _ _ l1 h1, f _ _ l2 h2, f _ _ l3 h3, f _ _ l4 h4, f _ _ l5 h5, f _ _ l6 h6, f _ _ l7 h7, f _ _ l8 h8⟩
theorem SfC9.drew {p0 p1 p2 p3 p4 p5 p6 p7 p8 : Addr} {v0 v1 v2 v3 v4 v5 v6 v7 v8 : Value} {W : World} (h : SfC9 p0 p1 p2 p3 p4 p5 p6 p7 p8 v0 v1 v2 v3 v4 v5 v6 v7 v8 W) : SfC9 p0 p1 p2 p3 p4 p5 p6 p7 p8 v0 v1 v2 v3 v4 v5 v6 v7 v8 W.drew := h
set_option maxRecDepth 100000 in
set_option maxHeartbeats 8000000 in
theorem softgathers_c (n0 d0 : Int) (l : List Int) (A : Option Addr) (cap : Nat) (ah am ar : Addr) (w : World) (hr : Ri w A l) (hE : E3 w ah am ar) :
    Calls Tryd.prog 9 #[.int .i64 n0, .int .i64 d0, .slice A l.length cap] w fun e w' => e = .returned (.bool true) ∧ Below w.heap.size w w' := by
  have HF := hide (first11_c ah am ar w hE)
  have HE := hide (fun W (hb : Below w.heap.size w W) => hE.below hb)
  have HL := hide (fun W (hb : Below w.heap.size w W) => hr.below hb)
  have HN := hide (fun x W => number_c x 40 (by decide) (by decide) 40 rfl W)
  obtain ⟨k1, hk0, hk1, NN⟩ := number_n n0 10 (by decide) (by decide) 10 rfl
  obtain ⟨k2, hj0, hj1, ND⟩ := number_n d0 10 (by decide) (by decide) 10 rfl
  obtain ⟨N, hN⟩ : ∃ M, Hid (k1.toNat + 1 = M) := ⟨_, hide rfl⟩
  have EN : Hid (k1 + 1 = (N : Int)) := hide (by rw [← hN.out]; omega)
  have BN : Hid (1 ≤ N ∧ N ≤ 10) := hide (by rw [← hN.out]; omega)
  obtain ⟨d, hD⟩ : ∃ M, Hid (k2.toNat + 1 = M) := ⟨_, hide rfl⟩
  have ED : Hid (k2 + 1 = (d : Int)) := hide (by rw [← hD.out]; omega)
  have BD : Hid (1 ≤ d ∧ d ≤ 10) := hide (by rw [← hD.out]; omega)
  obtain ⟨S, hS⟩ : ∃ M, Hid (N * d = M) := ⟨_, hide rfl⟩
  have BS : Hid (1 ≤ S ∧ S ≤ 100) := hide (by
    have h1 := BN.out
    have h2 := BD.out
    rw [← hS.out]
    exact ⟨Nat.mul_pos h1.1 h2.1, Nat.mul_le_mul h1.2 h2.2⟩)
  have Hww : Hid (wrap64 ((N : Int) * (d : Int)) = (S : Int)) := hide (by rw [← Int.natCast_mul, hS.out]; have := BS.out; unfold wrap64; omega)
  obtain ⟨n, hn⟩ : ∃ n, Hid (l.length = n) := ⟨_, hide rfl⟩
  rw [hn.out]
  clear hr hE
  by_cases hbig : 20 < n
  case pos =>
    have hb2 : (20 : Int) < n := by omega
    clear hbig
    go_enter Tryd.func9, Tryd.ntmps9
    go_wp2_with fail
    refine HF.out.mono ?_
    rintro e w1 ⟨rfl, hb⟩
    have HB := hide hb
    clear hb HF
    go_wp2_with fail
    go_ret
    exact ⟨rfl, HB.out⟩
  case neg =>
  have hn40 : (n : Int) ≤ 20 := by omega
  by_cases hz : n = 0
  case pos =>
    subst hz
    go_enter Tryd.func9, Tryd.ntmps9
    go_wp2_with fail
    refine HF.out.mono ?_
    rintro e w1 ⟨rfl, hb⟩
    have HB := hide hb
    clear hb HF
    go_wp2_with fail
    go_ret
    exact ⟨rfl, HB.out⟩
  case neg =>
  have hn0 : ((n : Int) == 0) = false := by simp; omega
  have hnP : 1 ≤ n := by omega
  clear hbig hz
  go_enter Tryd.func9, Tryd.ntmps9
  go_wp2_with fail
  refine HF.out.mono ?_
  rintro e w1 ⟨rfl, hb⟩
  have HB := hide hb
  have HWS1 := hide hb.size
  clear hb HF
  go_wp2_with fail
  refine (NN.out _).mono ?_
  rintro e wq ⟨rfl, hw⟩
  have hw := hw.symm
  subst hw
  go_wp2_with fail
  refine (ND.out _).mono ?_
  rintro e wq ⟨rfl, hw⟩
  have hw := hw.symm
  subst hw
  obtain ⟨W, hW⟩ : ∃ W, W = (w1.alloc (.cells #[.int .i64 N, .int .i64 d] 3)).alloc (.cells #[.slice (some ⟨w1.heap.size, 0, none⟩) 2 2, .bool false, .slice none 0 0] 26) := ⟨_, rfl⟩
  have hBW : Below w1.heap.size w1 W := by rw [hW]; exact ((Below.refl _ _).alloc (Nat.le_refl _) _).alloc (by simp) _
  have SH : Hid (Has W w1.heap.size 3 (i64s [(N : Int), (d : Int)])) := hide (by rw [hW]; exact (Has.new w1 3 [.int .i64 N, .int .i64 d]).alloc _)
  have BX : Hid (Has W (w1.heap.size + 1) 26 [.slice (some ⟨w1.heap.size, 0, none⟩) 2 2, .bool false, .slice none 0 0]) := hide (by rw [hW]; exact box_at _ _ _ _ (by simp))
  have hWs : W.heap.size = w1.heap.size + 2 := by rw [hW]; simp
  have HWS := hide hWs
  replace HB := hide (HB.out.trans (hBW.mono HB.out.size))
  have HW := hide hW
  clear hW hBW hWs
  go_wp2_with fail
  rw [EN.out, ED.out, ← HW.out]
  clear HW hk0 hk1 hj0 hj1
  go_loopg [9] S (fun gq k wr => ∃ (i : Nat) (ds : List Int) (v : Value), gq + i = S ∧ k = .int .i64 i ∧ Hid (∀ d ∈ ds, -128 ≤ d ∧ d ≤ 127) ∧ Hid (Has wr (w1.heap.size + 1) 26 [.slice (some ⟨w1.heap.size, 0, none⟩) 2 2, .bool false, v]) ∧ Hid (Has wr w1.heap.size 3 (i64s [(N : Int), (d : Int)])) ∧ Hid (wr.ownsRow (w1.heap.size + 2) 3 1 v i (i64s ds)) ∧ Hid (Below w.heap.size w wr) ∧ Hid (w1.heap.size + 2 ≤ wr.heap.size))
  case atStart => exact ⟨0, [], _, by omega, rfl, hide (by simp), BX, SH, hide ⟨rfl, .inl ⟨rfl, rfl⟩⟩, HB, hide (by rw [HWS.out]; exact Nat.le_refl _)⟩
  case round =>
    clear BX SH HB HWS
    obtain ⟨i, ds, v, hi9, rfl, HD, BX, SH, HO, HB, HSZ⟩ := hrel
    have hw0 := Hww.out
    by_cases hlt : i < S
    · have hii : (i : Int) < (S : Int) := by omega
      have hi0 : (0 : Int) ≤ (i : Int) := by omega
      have Hi100 : Hid (i < 100) := hide (by have := BS.out; omega)
      have HVB : Hid (-128 ≤ ((i : Int) - 128) ∧ ((i : Int) - 128) ≤ 127) := hide (by have := Hi100.out; omega)
      have HR1 : Hid ((i : Int) % 256 = (i : Int)) := hide (by have := Hi100.out; omega)
      have HR2 : Hid ((i : Int).tmod 256 = (i : Int)) := hide (by rw [Int.tmod_eq_emod_of_nonneg (by omega)]; exact HR1.out)
      have hi64 : (i : Int) + 1 ≤ 101 := by have := Hi100.out; omega
      have c2 : wr.cell? ⟨w1.heap.size + 1, 2, none⟩ = some v := BX.out.cell 2
      have hsl := HSZ.out
      have hown2 := hide (HO.out.alloc (.cells #[.int .i64 ((i : Int) - 128)] 3))
      have hr3 := hide (new_ri wr 3 [((i : Int) - 128)] (by intro q hq; simp at hq; have := HVB.out; omega))
      have hs3 := hide (show w1.heap.size + 2 ≤ (wr.alloc (.cells #[.int .i64 ((i : Int) - 128)] 3)).heap.size by simp; omega)
      have hn3 := hide (show i + 1 ≤ 1000000000000 by have := Hi100.out; omega)
      have xl : w1.heap.size + 1 < wr.heap.size := by omega
      have r1 := HR1.out
      have r2 := HR2.out
      go_wp2_with (at_builtin; refine wpList_append_is rfl (.tmp 51) (.tmp 55) rfl (w1.heap.size + 2) v i (i64s ds) rfl hown2.out (some ⟨wr.heap.size, 0, none⟩) 1 1 [((i : Int) - 128)] rfl (hide rfl) hr3.out hn3.out hs3.out ?_)
      intro v4 w4 o1 o2 o3
      obtain ⟨Pn, cn, hvn⟩ := own_slice o1
      subst hvn
      have hbx := (BX.out.alloc (.cells #[.int .i64 ((i : Int) - 128)] 3)).grown o2 (own_apart HO.out (by omega))
      have hsh := (SH.out.alloc (.cells #[.int .i64 ((i : Int) - 128)] 3)).grown o2 (own_apart HO.out (by omega))
      have hhb := elm_grown (HB.out.alloc HB.out.size (.cells #[.int .i64 ((i : Int) - 128)] 3)) (own_le hown2.out (by have := HWS1.out; omega)) (HB.out.alloc HB.out.size (.cells #[.int .i64 ((i : Int) - 128)] 3)).size o2
      have d2 : w4.cell? ⟨w1.heap.size + 1, 2, none⟩ = some v := hbx.cell 2
      have f2 := hbx.frozen 2
      have H1 := hide o1
      have HBX := hide hbx
      have HSH := hide hsh
      have HHB := hide hhb
      clear o1 o2 o3 hbx hsh hhb c2 r1 r2
      go_wp2_with fail
      go_roundg (S - (i + 1))
      case measure => omega
      case rel =>
        have hbs := HBX.out.set_ 2 (.slice Pn (i + 1) cn)
        refine ⟨i + 1, ds ++ [((i : Int) - 128)], .slice Pn (i + 1) cn, by omega, by go_num, hide ?_, hide hbs, hide (HSH.out.far (by simp) _), hide (own_set (by rw [show i64s (ds ++ [((i : Int) - 128)]) = i64s ds ++ i64s [((i : Int) - 128)] from List.map_append]; exact H1.out) (by simp) _), hide (HHB.out.setCell (by simp; have := HWS1.out; omega) _), hide ?_⟩
        · intro d hd
          rcases List.mem_append.1 hd with hd | hd
          · exact HD.out d hd
          · rw [List.mem_singleton.1 hd]; exact HVB.out
        · have := hbs.lt
          omega
    · obtain rfl : S = i := by omega
      have hii : ¬ (S : Int) < (S : Int) := by omega
      obtain ⟨DD, dc, rfl, hRD, hlen⟩ := own_ri HO.out (fun d hd => wf_i64 d (by have := HD.out d hd; omega))
      have hcap := own_cap HO.out
      obtain ⟨a, ea⟩ : ∃ a : Ten, Hid (a = ⟨some ⟨w1.heap.size, 0, none⟩, [(N : Int), (d : Int)], 2, false, DD, ds, dc⟩) := ⟨_, hide rfl⟩
      obtain ⟨wc, hwc⟩ : ∃ W, W = wr := ⟨_, rfl⟩
      subst hwc
      have TA : Hid (a.In wc) := hide (by rw [ea.out]; exact ⟨SH.out.ri (by intro q hq; have := BN.out; have := BD.out; simp at hq; rcases hq with rfl | rfl <;> exact wf_i64 _ (by omega)), hRD, by show 2 ≤ 1000000; omega, by show ds.length ≤ 1000000; have := BS.out; omega⟩)
      have AA : Hid (Has wc (w1.heap.size + 1) 26 [.slice a.P a.zs.length a.cap, .bool a.u, .slice a.D a.ds.length a.dcap]) := hide (by have h := BX.out; rw [ea.out]; show Has wc (w1.heap.size + 1) 26 [.slice (some ⟨w1.heap.size, 0, none⟩) 2 2, .bool false, .slice DD ds.length dc]; rw [hlen]; exact h)
      have AZ : Hid (a.zs = [(N : Int), (d : Int)]) := hide (by rw [ea.out])
      have AU : Hid (a.u = false) := hide (by rw [ea.out])
      have AL : Hid (a.ds.length = N * d) := hide (by rw [ea.out, hS.out]; exact hlen)
      have AC : Hid (a.ds.length ≤ a.dcap) := hide (by rw [ea.out]; show ds.length ≤ dc; rw [hlen]; exact hcap)
      have AN : Hid (∀ z ∈ a.ds, -128 ≤ z ∧ z ≤ 127) := hide (by rw [ea.out]; exact HD.out)
      have FA : Hid (a.fault = (0, none)) := hide (Sf.fine_block a N d AZ.out (by have := BN.out; omega) (by have := BD.out; omega) (by have := BS.out; have := hS.out; omega) AL.out (fun z hz => by rw [AU.out]; exact Sf.fitn (AN.out z hz)))
      have HBw := HB
      have HWSc : Hid (wc.heap.size ≤ wc.heap.size) := hide (Nat.le_refl _)
      have HL2 := hide (fun W (hb : Below wc.heap.size wc W) => (HL.out _ HBw.out).below hb)
      have HC : Hid (Below wc.heap.size wc wc) := hide (Below.refl _ _)
      clear ea BX SH hRD hlen hcap HD HO HSZ HB
      obtain ⟨W, hW⟩ : ∃ W, W = (wc.alloc (.cells #[.int .i64 n] 3)).alloc (.cells #[.slice (some ⟨wc.heap.size, 0, none⟩) 1 1, .bool true, .slice none 0 0] 26) := ⟨_, rfl⟩
      have hBW : Below wc.heap.size wc W := by rw [hW]; exact ((Below.refl _ _).alloc (Nat.le_refl _) _).alloc (by simp) _
      have SH : Hid (Has W wc.heap.size 3 [.int .i64 n]) := hide (by rw [hW]; exact (Has.new wc 3 [.int .i64 n]).alloc _)
      have BX : Hid (Has W (wc.heap.size + 1) 26 [.slice (some ⟨wc.heap.size, 0, none⟩) 1 1, .bool true, .slice none 0 0]) := hide (by rw [hW]; exact box_at _ _ _ _ (by simp))
      have hWs : W.heap.size = wc.heap.size + 2 := by rw [hW]; simp
      have HWS := hide hWs
      replace HC := hide (HC.out.trans (hBW.mono HC.out.size))
      have HW := hide hW
      have HWc1 := hide hBW.size
      clear hW hBW hWs
      go_wp2_with fail
      rw [← HW.out]
      clear HW
      go_loopw [11] (fun k wr => ∃ i : Nat, i ≤ n ∧ k = .int .i64 i ∧ ∃ (ds : List Int) (v : Value), Hid (∀ d ∈ ds, -10 ≤ d ∧ d ≤ 29) ∧ Hid (Has wr (wc.heap.size + 1) 26 [.slice (some ⟨wc.heap.size, 0, none⟩) 1 1, .bool true, v]) ∧ Hid (Has wr wc.heap.size 3 [.int .i64 n]) ∧ Hid (wr.ownsRow (wc.heap.size + 2) 3 1 v i (i64s ds)) ∧ Hid (Below wc.heap.size wc wr) ∧ Hid (wc.heap.size + 2 ≤ wr.heap.size)) (fun k _ => n - (intOf k).toNat)
      case atStart => exact ⟨0, by omega, rfl, [], _, hide (by simp), BX, SH, hide ⟨rfl, .inl ⟨rfl, rfl⟩⟩, HC, hide (by rw [HWS.out]; exact Nat.le_refl _)⟩
      case round =>
        clear BX SH HC HWS HWc1
        obtain ⟨i, hi, rfl, ds, v, HD, BX, SH, HO, HC, HSZ⟩ := hrel
        by_cases hlt : i < n
        · obtain ⟨ad, x, hAD, ex, cx⟩ := ri_at (HL2.out _ HC.out) i (by rw [hn.out]; exact hlt)
          subst hAD
          have him : (i : Int) < n := by omega
          have hi0 : (0 : Int) ≤ (i : Int) := by omega
          have c2 : wr.cell? ⟨wc.heap.size + 1, 2, none⟩ = some v := BX.out.cell 2
          have adl : ad.block < wr.heap.size := by
            obtain ⟨ad', h1, h2, -⟩ := (HL2.out _ HC.out).2 (by intro h; rw [h] at ex; have h := ex.out; simp at h)
            rw [Option.some.inj h1]
            exact h2
          have hsl := HSZ.out
          have HX := hide (fun W => HN.out x W)
          have HBI := hide (show i + 1 ≤ 1000000000000 by omega)
          have HBS := hide (fun k : Int => show wc.heap.size + 2 ≤ ((wr.alloc (.cells #[.int .i64 k] 3)).drew).heap.size by have := HSZ.out; simp [World.drew]; omega)
          have HOW := hide (fun k : Int => (HO.out.alloc (.cells #[.int .i64 k] 3)).drew)
          have HRI := hide (fun (k : Int) (h : -10 ≤ k ∧ k ≤ 29) => show Ri ((wr.alloc (.cells #[.int .i64 k] 3)).drew) (some ⟨wr.heap.size, 0, none⟩) [k] from ri_drew (new_ri wr 3 [k] (by intro q hq; simp at hq; omega)) 1)
          have HGX := hide (fun (k : Int) (w' : World) (h2 : ((wr.alloc (.cells #[.int .i64 k] 3)).drew).grownBy w' v.ownBlock) => (show Has ((wr.alloc (.cells #[.int .i64 k] 3)).drew) (wc.heap.size + 1) 26 [.slice (some ⟨wc.heap.size, 0, none⟩) 1 1, .bool true, v] from (BX.out.alloc (.cells #[.int .i64 k] 3)).drewN 1).grown h2 (own_apart HO.out (by omega)))
          have HGS := hide (fun (k : Int) (w' : World) (h2 : ((wr.alloc (.cells #[.int .i64 k] 3)).drew).grownBy w' v.ownBlock) => (show Has ((wr.alloc (.cells #[.int .i64 k] 3)).drew) wc.heap.size 3 [.int .i64 n] from (SH.out.alloc (.cells #[.int .i64 k] 3)).drewN 1).grown h2 (own_apart HO.out (by omega)))
          have HGB := hide (fun (k : Int) (w' : World) (h2 : ((wr.alloc (.cells #[.int .i64 k] 3)).drew).grownBy w' v.ownBlock) => elm_grown ((HC.out.alloc HC.out.size (.cells #[.int .i64 k] 3)).drew) (own_le (HOW.out k) (by have := HWSc.out; omega)) ((HC.out.alloc HC.out.size (.cells #[.int .i64 k] 3)).drew).size h2)
          clear hi ex
          go_wp2_with fail
          go_region_law (first
            | (go_simp; go_at_call 33; refine (HX.out _).mono ?_; rintro e wq ⟨⟨k, hk, rfl⟩, hw⟩; have hw := hw.symm; subst hw; have hk0 : (0 : Int) ≤ k := (by omega); have hk1 : (k : Int) < 40 := (by omega); have HKK := hide (show -10 ≤ IntKind.i64.wrap ((k : Int) - 10) ∧ IntKind.i64.wrap ((k : Int) - 10) ≤ 29 from (by rw [IntKind.wrap_i64]; omega)); have dal : (wr.alloc (.cells #[.int .i64 (IntKind.i64.wrap ((k : Int) - 10))] 3)).cell? ⟨wc.heap.size + 1, 2, none⟩ = some v := (BX.out.alloc (.cells #[.int .i64 (IntKind.i64.wrap ((k : Int) - 10))] 3)).cell 2)
            | (refine step_append_is rfl (.tmp 70) (.tmp 77) rfl (wc.heap.size + 2) v i (i64s ds) (by first | rfl | simp [Act.eval]) (HOW.out (IntKind.i64.wrap ((k : Int) - 10))) (some ⟨wr.heap.size, 0, none⟩) 1 1 [IntKind.i64.wrap ((k : Int) - 10)] (by first | rfl | simp [Act.eval]) (hide rfl) (HRI.out _ HKK.out) HBI.out (HBS.out _) (fun v' w' h1 h2 h3 => ?_); obtain ⟨Pn, cn, hvn⟩ := own_slice h1; subst hvn; have H1 := hide h1; have H2 := hide h2; have hbx := HGX.out _ _ h2; have d2 : w'.cell? ⟨wc.heap.size + 1, 2, none⟩ = some v := hbx.cell 2; have f2 := hbx.frozen 2; clear h1 h2 h3 hbx))
          all_goals go_ways
          all_goals
            go_wp2_with fail
            go_roundw
            case rel =>
              have hbx := HGX.out _ _ H2.out
              have hsh := HGS.out _ _ H2.out
              have hhb := HGB.out _ _ H2.out
              have hsz := HSZ.out
              have hws := HWSc.out
              have hbs := hbx.set_ 2 (.slice Pn (i + 1) cn)
              refine ⟨i + 1, by omega, by go_num, ds ++ [IntKind.i64.wrap ((k : Int) - 10)], .slice Pn (i + 1) cn, hide ?_, hide hbs, hide (hsh.far (by simp) _), hide (own_set (by rw [show i64s (ds ++ [IntKind.i64.wrap ((k : Int) - 10)]) = i64s ds ++ i64s [IntKind.i64.wrap ((k : Int) - 10)] from List.map_append]; exact H1.out) (by simp) _), hide (hhb.setCell (by simp <;> omega) _), hide ?_⟩
              · intro d hd
                rcases List.mem_append.1 hd with hd | hd
                · exact HD.out d hd
                · rw [List.mem_singleton.1 hd]; exact HKK.out
              · have := hbs.lt
                omega
            case measure => simp [intOf]; omega
        · obtain rfl : i = n := by omega
          have nlt : ¬ ((i : Int) < i) := by omega
          obtain ⟨D, dc, rfl, hRD, hlen⟩ := own_ri HO.out (fun d hd => wf_i64 d (by have := HD.out d hd; omega))
          have hcap := own_cap HO.out
          have HRD := hide hRD
          clear HO hi hlt hRD
          obtain ⟨b, eb⟩ : ∃ b : Ten, Hid (b = ⟨some ⟨wc.heap.size, 0, none⟩, [(i : Int)], 1, true, D, ds, dc⟩) := ⟨_, hide rfl⟩
          have TB : Hid (b.In wr) := hide (by rw [eb.out]; exact ⟨(show Has wr wc.heap.size 3 (i64s [(i : Int)]) from SH.out).ri (by intro q hq; rw [List.mem_singleton.1 hq]; exact wf_i64 _ (by omega)), HRD.out, by simp, by show ds.length ≤ 1000000; omega⟩)
          have BB : Hid (Has wr (wc.heap.size + 1) 26 [.slice b.P b.zs.length b.cap, .bool b.u, .slice b.D b.ds.length b.dcap]) := hide (by rw [eb.out]; show Has wr (wc.heap.size + 1) 26 [.slice (some ⟨wc.heap.size, 0, none⟩) 1 1, .bool true, .slice D ds.length dc]; rw [hlen]; exact BX.out)
          have BZ : Hid (b.zs = [(i : Int)]) := hide (by rw [eb.out])
          have BU : Hid (b.u = true) := hide (by rw [eb.out])
          have BL : Hid (b.ds.length = i) := hide (by rw [eb.out]; exact hlen)
          have BC : Hid (b.ds.length ≤ b.dcap) := hide (by rw [eb.out]; show ds.length ≤ dc; rw [hlen]; exact hcap)
          have BNN : Hid (∀ z ∈ b.ds, -10 ≤ z ∧ z ≤ 29) := hide (by rw [eb.out]; exact HD.out)
          have FB : Hid (b.fault = (0, none)) := hide (Sf.fine_line b i BZ.out (by omega) BL.out (fun z hz => by rw [BU.out]; have := BNN.out z hz; exact Sf.fitw ⟨by have := this.1; omega, by have := this.2; omega⟩))
          clear eb BX SH HRD hlen hcap HD
          obtain ⟨L, hL⟩ : ∃ M, Hid (i * d = M) := ⟨_, hide rfl⟩
          have BLm : Hid (1 ≤ L ∧ L ≤ 200) := hide (by
            have h2 := BD.out
            rw [← hL.out]
            exact ⟨Nat.mul_pos hnP h2.1, Nat.mul_le_mul (show i ≤ 20 by omega) h2.2⟩)
          have HwL : Hid (wrap64 ((i : Int) * (d : Int)) = (L : Int)) := hide (by rw [← Int.natCast_mul, hL.out]; have := BLm.out; unfold wrap64; omega)
          have hAL : a.zs.length = 2 := by rw [AZ.out]; rfl
          have HFS : Hid (Cel.fault [a, b] (Sf.code 17 ([a, b].map Ten.look)) = (0, none)) := hide (Sf.good_gath FA.out FB.out hAL BU.out (by rw [BZ.out]; rfl) (by
            rw [BZ.out, AZ.out]
            exact Sf.dim2_ok i d (by omega) (by have := BD.out; omega) (by have := BLm.out; have := hL.out; omega)))
          have HSF := hide (Sf.fine_gath a b AC.out HFS.out)
          clear hAL
          have Hlast : Hid (Sf.last a = d) := hide (by unfold Sf.last; rw [AZ.out]; rfl)
          have Hdim : Hid (Sf.dim0 a = N) := hide (by unfold Sf.dim0; rw [AZ.out]; rfl)
          have HSZ : Hid (Sf.size 17 [a, b] = L) := hide (by rw [HSF.out.2.2.2.2.2.2, BL.out, Hlast.out, hL.out])
          have HEL : Hid (∀ j, Sf.el 17 [a, b] j = (Sf.row a.ds d (Sf.cut (b.ds.getD (j / d) 0) N)).getD (j % d) 0) := hide (fun j => by
            show Sf.gath a.ds b.ds (Sf.dim0 a) (Sf.last a) j = _
            rw [Hlast.out, Hdim.out]
            rfl)
          have HDS : Hid (∀ x : Ten, x.ds = Sf.ds 17 [a, b] → x.ds.length = L ∧ ∀ j, j < L → x.ds[j]? = some (Sf.el 17 [a, b] j)) := hide (fun x hx => by
            refine ⟨by rw [hx, Sf.ds_length, HSZ.out], fun j hj => ?_⟩
            rw [hx]
            unfold Sf.ds
            rw [HSZ.out, Sf.part_at _ _ _ _ hj, Nat.zero_add])
          have HB4 : Hid (Below w.heap.size w wr) := hide (HBw.out.trans (HC.out.mono HBw.out.size))
          have A4 : Hid (Has wr (w1.heap.size + 1) 26 [.slice a.P a.zs.length a.cap, .bool a.u, .slice a.D a.ds.length a.dcap]) := hide (AA.out.below HC.out AA.out.lt)
          have TA4 : Hid (a.In wr) := hide (TA.out.below HC.out)
          have c_A0 := A4.out.cell 0
          have c_A1 := A4.out.cell 1
          have c_A2 := A4.out.cell 2
          have c_B0 := BB.out.cell 0
          have c_B1 := BB.out.cell 1
          have c_B2 := BB.out.cell 2
          go_wp2_with fail
          clear c_A0 c_A1 c_A2 c_B0 c_B1 c_B2
          refine (sfgather_c a b ah am ar wr TA4.out TB.out (by
            intro x hx
            simp only [List.mem_cons, List.not_mem_nil, or_false] at hx
            rcases hx with rfl | rfl
            · exact AC.out
            · exact BC.out) (HE.out _ HB4.out)).mono ?_
          intro e w5 hT
          obtain ⟨⟨x, rfl, hIn, -, -, hd, -⟩, hb⟩ := sf_good 17 (.inr (.inl rfl)) _ ah am ar _ HFS.out hT
          obtain ⟨hxl, hxv⟩ := HDS.out x hd
          have HXV := hide hxv
          have HXL := hide hxl
          have HXD := hide hd
          rw [hxl]
          obtain ⟨W6, hW6⟩ : ∃ W, W = w5.alloc (.cells #[.slice x.P x.zs.length x.cap, .bool x.u, .slice x.D L x.dcap] 26) := ⟨_, rfl⟩
          have hbA : Below w5.heap.size w5 W6 := by rw [hW6]; exact (Below.refl _ _).alloc (Nat.le_refl _) _
          have X6 : Hid (Has W6 w5.heap.size 26 [.slice x.P x.zs.length x.cap, .bool x.u, .slice x.D L x.dcap]) := hide (by rw [hW6]; exact Has.new _ _ _)
          have hbb := hb.trans (hbA.mono hb.size)
          have A6 := hide (A4.out.below hbb A4.out.lt)
          have B6 := hide (BB.out.below hbb BB.out.lt)
          have TA6 := hide (TA4.out.below hbb)
          have TB6 := hide (TB.out.below hbb)
          have XI6 := hide (hIn.below hbA)
          have HB6 := hide (HB4.out.trans (hbb.mono HB4.out.size))
          have HW6 := hide hW6
          clear hT hIn hd hb hxl hxv hW6 hbA HDS hbb
          have hwl := HwL.out
          have hne0 : ((L : Int) != (L : Int)) = false := by simp
          go_wp2_with fail
          rw [← HW6.out]
          clear HW6 hwl hne0
          go_loopg [14] L (fun gq kk wy => ∃ p : Nat, gq + p = L ∧ kk = .int .i64 p ∧ Hid (Has wy w5.heap.size 26 [.slice x.P x.zs.length x.cap, .bool x.u, .slice x.D L x.dcap]) ∧ Hid (Has wy (w1.heap.size + 1) 26 [.slice a.P a.zs.length a.cap, .bool a.u, .slice a.D a.ds.length a.dcap]) ∧ Hid (Has wy (wc.heap.size + 1) 26 [.slice b.P b.zs.length b.cap, .bool b.u, .slice b.D b.ds.length b.dcap]) ∧ Hid (Below W6.heap.size W6 wy))
          case atStart => exact ⟨0, by omega, rfl, X6, A6, B6, hide (Below.refl _ _)⟩
          case round =>
            clear X6 A6 B6
            obtain ⟨p, hp9, rfl, X6, A6, B6, HBy⟩ := hrel
            by_cases hlt : p < L
            · have hii : (p : Int) < (L : Int) := by omega
              have hp1 : ((p : Nat) : Int) + 1 ≤ 1000001 := by have := BLm.out; omega
              have hi0 : (0 : Int) ≤ (p : Int) := by omega
              obtain ⟨R, hRr⟩ : ∃ x, Hid (p / d = x) := ⟨_, hide rfl⟩
              obtain ⟨O, hO⟩ : ∃ x, Hid (p % d = x) := ⟨_, hide rfl⟩
              have hdpos : 0 < d := BD.out.1
              have HRn : Hid (R < i) := hide (by rw [← hRr.out]; exact Nat.div_lt_of_lt_mul (by rw [Nat.mul_comm, hL.out]; exact hlt))
              have HOn : Hid (O < d) := hide (by rw [← hO.out]; exact Nat.mod_lt _ hdpos)
              have hd0 : ¬ ((d : Int) = 0) := by omega
              have hd2 : ¬ d = 0 := by omega
              have Hq1 : Hid ((p : Int) / (d : Int) = (R : Int)) := hide (by rw [← hRr.out]; exact (Int.natCast_ediv p d).symm)
              have Hq2 : Hid ((p : Int).tdiv (d : Int) = (R : Int)) := hide (by rw [Int.tdiv_eq_ediv_of_nonneg (by omega)]; exact Hq1.out)
              have Hq3 : Hid (wrap64 (R : Int) = (R : Int)) := hide (by have := HRn.out; unfold wrap64; omega)
              have Hq4 : Hid (IntKind.i64.wrap (R : Int) = (R : Int)) := hide (by have := HRn.out; rw [IntKind.wrap_i64]; omega)
              have HR1 : Hid ((p : Int) % (d : Int) = (O : Int)) := hide (by rw [← hO.out]; exact (Int.natCast_emod p d).symm)
              have HR2 : Hid ((p : Int).tmod (d : Int) = (O : Int)) := hide (by rw [Int.tmod_eq_emod_of_nonneg (by omega)]; exact HR1.out)
              have HR3 : Hid (IntKind.i64.wrap (O : Int) = (O : Int)) := hide (by have h1 := HOn.out; have h2 := BD.out; rw [IntKind.wrap_i64]; omega)
              obtain ⟨bd, y, hBD, ey, cy⟩ := ri_at (TB6.out.dat.below HBy.out) R (by rw [BL.out]; exact HRn.out)
              have HYv : Hid (b.ds.getD R 0 = y) := hide (by rw [List.getD_eq_getElem?_getD, ey.out]; rfl)
              obtain ⟨k, hk⟩ : ∃ x, Hid (Sf.cut y N = x) := ⟨_, hide rfl⟩
              have HKN : Hid (k < N) := hide (by rw [← hk.out]; exact Sf.cut_lt y N BN.out.1)
              obtain ⟨c1, hc1⟩ : ∃ x, Hid (max y 0 = x) := ⟨_, hide rfl⟩
              have HC1 : Hid (min c1 ((N : Int) - 1) = (k : Int)) := hide (by have h := Sf.cut_is y N BN.out.1; rw [hk.out] at h; have := hc1.out; have := BN.out; omega)
              have m1 : (if y < 0 then 0 else y) = c1 := by have := hc1.out; split <;> omega
              have m2 : (if 0 < y then y else 0) = c1 := by have := hc1.out; split <;> omega
              have m3 : (if c1 < (N : Int) - 1 then c1 else (N : Int) - 1) = (k : Int) := by have := HC1.out; split <;> omega
              have m4 : (if (N : Int) - 1 < c1 then (N : Int) - 1 else c1) = (k : Int) := by have := HC1.out; split <;> omega
              have hNa : (1 : Int) ≤ (N : Int) := by have := BN.out; omega
              have hNb : (N : Int) ≤ 10 := by have := BN.out; omega
              have hR0 : (0 : Int) ≤ (R : Int) := by omega
              have hRb : (R : Int) < (i : Int) := by have := HRn.out; omega
              have B7 : Hid (Has wr (wc.heap.size + 1) 26 [.slice b.P b.zs.length b.cap, .bool b.u, .slice (some bd) i b.dcap]) := hide (by have h := B6.out; rw [hBD, BL.out] at h; exact h)
              have y2 := B7.out.cell 2
              have x2 := X6.out.cell 2
              have q1 := Hq1.out
              have q2 := Hq2.out
              have q3 := Hq3.out
              have q4 := Hq4.out
              go_wp2_with fail
              go_quiet (fail)
              clear q1 q2 q3 q4 m1 m2 m3 m4 y2 x2 cy hR0 hRb B7
              replace X6 := hide (X6.out.drewN nq)
              replace A6 := hide (A6.out.drewN nq)
              replace B6 := hide (B6.out.drewN nq)
              replace HBy := hide (below_drewN HBy.out nq)
              generalize wr.drewN nq = W7 at *
              obtain ⟨xd, v, hXD, ev, cv⟩ := ri_at (XI6.out.dat.below HBy.out) p (by rw [HXL.out]; exact hlt)
              have hve : v = Sf.el 17 [a, b] p := Option.some.inj (ev.out.symm.trans (HXV.out p hlt))
              obtain ⟨qa, hqa⟩ : ∃ x, Hid (k * d + O = x) := ⟨_, hide rfl⟩
              have Hqa : Hid (qa < a.ds.length) := hide (by
                rw [AL.out, ← hqa.out]
                have h1 := Nat.mul_le_mul_right d (Nat.succ_le_of_lt HKN.out)
                rw [Nat.succ_mul] at h1
                have := HOn.out
                omega)
              obtain ⟨pa, va, hPA, ea, ca⟩ := ri_at (TA6.out.dat.below HBy.out) qa Hqa.out
              have hva : va = v := by
                rw [hve, HEL.out, hRr.out, hO.out, HYv.out, hk.out, List.getD_eq_getElem?_getD, Sf.row_at _ _ _ _ HOn.out, hqa.out, ea.out]
                rfl
              subst hva
              have HCV : Hid (Sf.cell 17 [a, b] (p : Int) = va) := hide (by
                unfold Sf.cell
                rw [if_pos HFS.out, if_pos (by omega), Int.toNat_natCast, ← HXD.out, List.getD_eq_getElem?_getD, ev.out]
                rfl)
              have hxdl : xd.block < W7.heap.size := by
                obtain ⟨ad', h1, h2, -⟩ := (XI6.out.dat.below HBy.out).2 (by intro h; have h3 := HXL.out; rw [h] at h3; simp at h3; omega)
                rw [hXD] at h1
                rw [Option.some.inj h1]
                exact h2
              have hpal : pa.block < W7.heap.size := by
                obtain ⟨ad', h1, h2, -⟩ := (TA6.out.dat.below HBy.out).2 (by intro h; have h3 := Hqa.out; rw [h] at h3; simp at h3)
                rw [hPA] at h1
                rw [Option.some.inj h1]
                exact h2
              obtain ⟨W8, hW8⟩ : ∃ W, W = (W7.alloc (.cells #[.slice a.P a.zs.length a.cap, .bool a.u, .slice a.D a.ds.length a.dcap, .slice b.P b.zs.length b.cap, .bool b.u, .slice b.D b.ds.length b.dcap] 26)).drew := ⟨_, rfl⟩
              have hb8 : Below W7.heap.size W7 W8 := by rw [hW8]; exact ((Below.refl _ _).alloc (Nat.le_refl _) _).drew
              have HB7 := hide (HB6.out.trans (HBy.out.mono HB6.out.size))
              have hR8 : Row W8 (some ⟨W7.heap.size, 0, none⟩) ([a, b].flatMap Ten.vals) := by
                rw [hW8]
                exact ((Has.new W7 26 [.slice a.P a.zs.length a.cap, .bool a.u, .slice a.D a.ds.length a.dcap, .slice b.P b.zs.length b.cap, .bool b.u, .slice b.D b.ds.length b.dcap]).drewN 1).row
              have HC8 := hide (show Calls Tryd.prog 42 #[.int .i64 17, .int .i64 (p : Int), .slice (some ⟨W7.heap.size, 0, none⟩) 2 2] W8 (fun e w' => e = .returned (.int .i64 (Sf.cell 17 [a, b] (p : Int))) ∧ Below W8.heap.size W8 w') from scell_c 17 (.inr (.inl rfl)) [a, b] p (some ⟨W7.heap.size, 0, none⟩) 2 ah am ar W8 hR8 (fun t ht => by
                simp only [List.mem_cons, List.not_mem_nil, or_false] at ht
                rcases ht with rfl | rfl
                · exact (TA6.out.below HBy.out).below hb8
                · exact (TB6.out.below HBy.out).below hb8) (fun t ht => by
                simp only [List.mem_cons, List.not_mem_nil, or_false] at ht
                rcases ht with rfl | rfl
                · exact AC.out
                · exact BC.out) (by show 2 ≤ 1000000; omega) (by have := BLm.out; omega) (HE.out _ (HB7.out.trans (hb8.mono HB7.out.size))))
              rw [HCV.out] at HC8
              have X7 := X6
              have A7 := A6
              rw [hXD] at X7
              rw [hPA] at A7
              have HS00 : SfC9 ⟨w5.heap.size, 2, none⟩ (xd.add p) ⟨w1.heap.size + 1, 0, none⟩ ⟨w1.heap.size + 1, 1, none⟩ ⟨w1.heap.size + 1, 2, none⟩ (pa.add qa) ⟨wc.heap.size + 1, 0, none⟩ ⟨wc.heap.size + 1, 1, none⟩ ⟨wc.heap.size + 1, 2, none⟩ (.slice (some xd) L x.dcap) (.int .i64 va) (.slice a.P a.zs.length a.cap) (.bool a.u) (.slice (some pa) a.ds.length a.dcap) (.int .i64 va) (.slice b.P b.zs.length b.cap) (.bool b.u) (.slice b.D b.ds.length b.dcap) W7 := ⟨X7.out.cell 2, cv, A7.out.cell 0, A7.out.cell 1, A7.out.cell 2, ca, B6.out.cell 0, B6.out.cell 1, B6.out.cell 2⟩
              have hS0 : SfC9 ⟨w5.heap.size, 2, none⟩ (xd.add p) ⟨w1.heap.size + 1, 0, none⟩ ⟨w1.heap.size + 1, 1, none⟩ ⟨w1.heap.size + 1, 2, none⟩ (pa.add qa) ⟨wc.heap.size + 1, 0, none⟩ ⟨wc.heap.size + 1, 1, none⟩ ⟨wc.heap.size + 1, 2, none⟩ (.slice (some xd) L x.dcap) (.int .i64 va) (.slice a.P a.zs.length a.cap) (.bool a.u) (.slice (some pa) a.ds.length a.dcap) (.int .i64 va) (.slice b.P b.zs.length b.cap) (.bool b.u) (.slice b.D b.ds.length b.dcap) W7.drew := HS00
              have lx := X7.out.lt
              have la := A7.out.lt
              have lb := B6.out.lt
              have hS1 : SfC9 ⟨w5.heap.size, 2, none⟩ (xd.add p) ⟨w1.heap.size + 1, 0, none⟩ ⟨w1.heap.size + 1, 1, none⟩ ⟨w1.heap.size + 1, 2, none⟩ (pa.add qa) ⟨wc.heap.size + 1, 0, none⟩ ⟨wc.heap.size + 1, 1, none⟩ ⟨wc.heap.size + 1, 2, none⟩ (.slice (some xd) L x.dcap) (.int .i64 va) (.slice a.P a.zs.length a.cap) (.bool a.u) (.slice (some pa) a.ds.length a.dcap) (.int .i64 va) (.slice b.P b.zs.length b.cap) (.bool b.u) (.slice b.D b.ds.length b.dcap) W8 := SfC9.keep HS00 lx (by rw [elm_block]; exact hxdl) la la la (by rw [elm_block]; exact hpal) lb lb lb hb8
              have l8 : W7.heap.size ≤ W8.heap.size := hb8.size
              have HL1 : Hid (w5.heap.size < W8.heap.size ∧ (xd.add p).block < W8.heap.size ∧ w1.heap.size + 1 < W8.heap.size ∧ (pa.add qa).block < W8.heap.size ∧ wc.heap.size + 1 < W8.heap.size) := hide ⟨by omega, by rw [elm_block]; omega, by omega, by rw [elm_block]; omega, by omega⟩
              have HB8 := hide hb8
              rw [hW8] at HC8 hS1
              rw [hPA] at HC8 hS1 hW8
              have HW8 := hide hW8
              have Hk1 : Hid (k * d ≤ 100) := hide (by have h1 := hqa.out; have h2 := Hqa.out; have h3 := AL.out; have h4 := hS.out; have h5 := BS.out; omega)
              obtain ⟨qk, hqk⟩ : ∃ x, Hid (k * d = x) := ⟨_, hide rfl⟩
              have O1 : Hid (IntKind.i64.wrap ((k : Int) * (d : Int)) = (qk : Int)) := hide (by rw [← Int.natCast_mul, hqk.out, IntKind.wrap_i64]; have := Hk1.out; have := hqk.out; omega)
              have O2 : Hid (IntKind.i64.wrap ((qk : Int) + (O : Int)) = (qa : Int)) := hide (by rw [IntKind.wrap_i64]; have := hqk.out; have := hqa.out; have := Hk1.out; have := HOn.out; have := BD.out; omega)
              have hq0 : (0 : Int) ≤ (qa : Int) := by omega
              have hqn : (qa : Int) < (a.ds.length : Int) := by have := Hqa.out; omega
              have hvv : (va != va) = false := by simp
              clear hW8 hb8 hR8 ev ea cv ca hve HS00 hXD hPA l8 lx la lb hxdl hpal ey hBD
              go_wp2_with fail
              have r1 := HR1.out
              have r2 := HR2.out
              have r3 := HR3.out
              have o1 := O1.out
              have o2 := O2.out
              go_region_held3 (fun W => W.cell? ⟨w5.heap.size, 2, none⟩ = some (.slice (some xd) L x.dcap) ∧ W.cell? (xd.add p) = some (.int .i64 va) ∧ W.cell? ⟨w1.heap.size + 1, 0, none⟩ = some (.slice a.P a.zs.length a.cap) ∧ W.cell? ⟨w1.heap.size + 1, 1, none⟩ = some (.bool a.u) ∧ W.cell? ⟨w1.heap.size + 1, 2, none⟩ = some (.slice (some pa) a.ds.length a.dcap) ∧ W.cell? (pa.add qa) = some (.int .i64 va) ∧ W.cell? ⟨wc.heap.size + 1, 0, none⟩ = some (.slice b.P b.zs.length b.cap) ∧ W.cell? ⟨wc.heap.size + 1, 1, none⟩ = some (.bool b.u) ∧ W.cell? ⟨wc.heap.size + 1, 2, none⟩ = some (.slice b.D b.ds.length b.dcap))
                (first | with_reducible exact hS0 | with_reducible exact hS1 | with_reducible exact hS2 | with_reducible assumption)
                (first | (go_at_call 42; (with_reducible refine HC8.out.mono ?_); rintro e w9 ⟨rfl, hb⟩; have hb9 : Below W8.heap.size W8 w9 := (by rw [HW8.out]; exact hb); have hS1' : SfC9 ⟨w5.heap.size, 2, none⟩ (xd.add p) ⟨w1.heap.size + 1, 0, none⟩ ⟨w1.heap.size + 1, 1, none⟩ ⟨w1.heap.size + 1, 2, none⟩ (pa.add qa) ⟨wc.heap.size + 1, 0, none⟩ ⟨wc.heap.size + 1, 1, none⟩ ⟨wc.heap.size + 1, 2, none⟩ (.slice (some xd) L x.dcap) (.int .i64 va) (.slice a.P a.zs.length a.cap) (.bool a.u) (.slice (some pa) a.ds.length a.dcap) (.int .i64 va) (.slice b.P b.zs.length b.cap) (.bool b.u) (.slice b.D b.ds.length b.dcap) W8 := (by rw [HW8.out]; exact hS1); have hS2 := SfC9.keep hS1' HL1.out.1 HL1.out.2.1 HL1.out.2.2.1 HL1.out.2.2.1 HL1.out.2.2.1 HL1.out.2.2.2.1 HL1.out.2.2.2.2 HL1.out.2.2.2.2 HL1.out.2.2.2.2 hb9; have HB9 := hide hb9))
              clear r1 r2 r3 o1 o2
              go_wp2_with fail
              go_roundg (L - (p + 1))
              case measure => omega
              case rel =>
                have hb79 := HB8.out.trans (HB9.out.mono HB8.out.size)
                exact ⟨p + 1, by omega, by go_num, hide (X6.out.below hb79 X6.out.lt), hide (A6.out.below hb79 A6.out.lt), hide (B6.out.below hb79 B6.out.lt), hide (HBy.out.trans (hb79.mono HBy.out.size))⟩
            · obtain rfl : p = L := by omega
              have hnn : ¬ (p : Int) < p := by omega
              have x2 := X6.out.cell 2
              go_wp2_with fail
              go_ret
              exact ⟨rfl, (HB6.out.trans (HBy.out.mono HB6.out.size))⟩
end Go.Proofs.YtcgjnjchkachdaaDoor
