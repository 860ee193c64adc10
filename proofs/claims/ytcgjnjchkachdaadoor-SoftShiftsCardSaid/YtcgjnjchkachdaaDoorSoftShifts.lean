/-
  The law SoftShifts, walked. By an AI agent. No person has read it.
-/
import Derived.Test.YtcgjnjchkachdaaDoorSftX
namespace Go.Proofs.YtcgjnjchkachdaaDoor
open Go.RowKit
open Ieee F64

set_option maxRecDepth 100000 in
set_option maxHeartbeats 4000000 in
theorem rcopy_m (t : Ten) (w : World) (ht : t.In w) :
    Calls Tryd.prog 34 #[.agg (tcells t.P t.zs.length t.cap t.u t.D t.ds.length t.dcap)] w fun e w' => (∃ g c rest gd cd rd, e = .returned (.agg (tcells (some ⟨g, 0, none⟩) t.zs.length c t.u (some ⟨gd, 0, none⟩) t.ds.length cd)) ∧ Has w' g 3 (i64s t.zs ++ rest) ∧ Has w' gd 3 (i64s t.ds ++ rd) ∧ w.heap.size ≤ g ∧ w.heap.size ≤ gd ∧ g ≠ gd ∧ t.ds.length ≤ cd) ∧ Below w.heap.size w w' := by
  obtain ⟨hb1, hT, hZ⟩ := box_two w 26 26 [.slice t.P t.zs.length t.cap, .bool t.u, .slice t.D t.ds.length t.dcap] [.slice none 0 0, .bool false, .slice none 0 0]
  have HI := hide (fun W (hb : Below w.heap.size w W) => rdesc_c t.zs t.P t.cap t.u W (ht.shp.below hb) ht.ls)
  have HJ := hide (fun W (hb : Below w.heap.size w W) => refints_c t.ds t.D t.dcap W (ht.dat.below hb) ht.ld)
  obtain ⟨n, hn⟩ : ∃ n, Hid (t.zs.length = n) := ⟨_, hide rfl⟩
  obtain ⟨m, hm⟩ : ∃ m, Hid (t.ds.length = m) := ⟨_, hide rfl⟩
  rw [hn.out] at HI hb1 hT hZ ⊢
  rw [hm.out] at HJ hb1 hT hZ ⊢
  have HMM := hm
  clear ht hn hm
  have HB1 := hide hb1
  have HT1 := hide hT
  have HZ1 := hide hZ
  have hS0 := ten_of2 hT hb1
  clear hb1 hT hZ
  go_enter Tryd.func34, Tryd.ntmps34
  go_wp2_with fail
  go_region_held3 (fun W => W.cell? ⟨w.heap.size, 0, none⟩ = some (.slice t.P n t.cap) ∧ W.cell? ⟨w.heap.size, 1, none⟩ = some (.bool t.u) ∧ W.cell? ⟨w.heap.size, 2, none⟩ = some (.slice t.D m t.dcap) ∧ Hid (Below w.heap.size w W))
    (first | exact hS0 | assumption | exact hS9.out | exact TenS.keep (by assumption) hb)
    (first
      | (go_at_call 70; refine (HI.out _ HB1.out).mono ?_; rintro e W2 ⟨⟨g, c, rest, rfl, hg, hC⟩, hb⟩; have hz2 := HZ1.out.below hb HZ1.out.lt; have ht2 := HT1.out.below hb HT1.out.lt; have hB2 := HB1.out.trans (hb.mono HB1.out.size); have hlt := HZ1.out.lt; have hgn : g ≠ w.heap.size + 1 := (by omega); have hsz := hb.size; have hgl := hC.lt; have hgw : w.heap.size ≤ g := (by omega))
      | (go_at_call 71; refine (HJ.out _ hB2).mono ?_; rintro e W3 ⟨⟨gd, cd, rd, rfl, hgd, hc1, hc2, hD⟩, hb⟩; have hz := hz2.below hb hz2.lt; have ht := ht2.below hb ht2.lt; have hC3 := hC.below hb hC.lt; have hB := hB2.trans (hb.mono hB2.size); have d0 : W3.cell? ⟨w.heap.size + 1, 0, none⟩ = some (.slice none 0 0) := (by rw [hz.cell]; rfl); have d1 : W3.cell? ⟨w.heap.size + 1, 1, none⟩ = some (.bool false) := (by rw [hz.cell]; rfl); have d2 : W3.cell? ⟨w.heap.size + 1, 2, none⟩ = some (.slice none 0 0) := (by rw [hz.cell]; rfl); have f0 := hz.frozen 0; have f1 := hz.frozen 1; have f2 := hz.frozen 2; have HO := hide (tstore (.slice (some ⟨g, 0, none⟩) n c) (.bool t.u) (.slice (some ⟨gd, 0, none⟩) m cd) hz ht hC3 hD hB hgn (by omega)); have hS9 := hide (ten_of2 HO.out.2.1 HO.out.2.2.2.2); have hgdw : w.heap.size ≤ gd := (by omega); have hne : g ≠ gd := (by omega)))
  go_wp2_with fail
  refine bodyPost_ret (results_cell_row rfl _ _ (w.heap.size + 1) 26 (tcells (some ⟨g, 0, none⟩) n c t.u (some ⟨gd, 0, none⟩) m cd) (0, 0) _ rfl HO.out.1 Tryd.underlying26 rfl (by kernel_rfl)) rfl ?_
  exact ⟨⟨g, c, rest, gd, cd, rd, rfl, HO.out.2.2.1, HO.out.2.2.2.1, hgw, hgdw, hne, hc1⟩, HO.out.2.2.2.2⟩
/-- Hundredths. -/
def Sf.cent (k : Nat) : Nat := (double.div (double.nearest false (k + 1) 0) 4636737291354636288).getD 0
theorem Sf.cents : ∀ k, k < 98 → double.div (double.nearest false (k + 1) 0) 4636737291354636288 = some (Sf.cent k) ∧ Sf.cent k < 9218868437227405312 ∧ FloatKind.f64.format.order (Sf.cent k) 0 = some .gt ∧ FloatKind.f64.format.order (Sf.cent k) 4607182418800017408 = some .lt := by decide +kernel
theorem Sf.getD_at {l : List Int} {j : Nat} {z : Int} (h : l[j]? = some z) : l.getD j 0 = z := by rw [List.getD_eq_getElem?_getD, h]; rfl
theorem Sf.tab_getD (b : Nat) (j : Nat) : 0 ≤ (Sf.table b).getD j 0 ∧ (Sf.table b).getD j 0 ≤ 1048576 := by
  rw [List.getD_eq_getElem?_getD]
  cases e : (Sf.table b)[j]? with
  | none => exact ⟨by decide, by decide⟩
  | some z => exact Sf.table_le b z (List.mem_of_getElem? e)
theorem Sf.getD_le {p : List Int} {A B : Int} (h : ∀ z ∈ p, A ≤ z ∧ z ≤ B) (h0 : A ≤ 0 ∧ 0 ≤ B) (j : Nat) : A ≤ p.getD j 0 ∧ p.getD j 0 ≤ B := by
  rw [List.getD_eq_getElem?_getD]
  cases e : p[j]? with
  | none => exact h0
  | some z => exact h z (List.mem_of_getElem? e)

set_option maxRecDepth 100000 in
set_option maxHeartbeats 8000000 in
theorem softshifts_c (l : List Int) (A : Option Addr) (cap : Nat) (by0 n0 : Int) (ah am ar : Addr) (w : World) (hr : Ri w A l) (hE : E3 w ah am ar) :
    Calls Tryd.prog 8 #[.slice A l.length cap, .int .i64 by0, .int .i64 n0] w fun e w' => e = .returned (.bool true) ∧ Below w.heap.size w w' := by
  have HF := hide (first11_c ah am ar w hE)
  have HE := hide (fun W (hb : Below w.heap.size w W) => hE.below hb)
  have HL := hide (fun W (hb : Below w.heap.size w W) => hr.below hb)
  have HN := hide (fun x W => number_c x 100 (by decide) (by decide) 100 rfl W)
  obtain ⟨k2, hj0, hj1, NV⟩ := number_n n0 120 (by decide) (by decide) 120 rfl
  obtain ⟨v1, ev1⟩ : ∃ M, Hid (k2 - 60 = M) := ⟨_, hide rfl⟩
  have BV : Hid (-60 ≤ v1 ∧ v1 ≤ 59) := hide (by rw [← ev1.out]; omega)
  have HWV : Hid (wrap64 (k2 - 60) = v1) := hide (by rw [← ev1.out]; unfold wrap64; omega)
  obtain ⟨k3, hc0, hc1, NB⟩ := number_n by0 98 (by decide) (by decide) 98 rfl
  obtain ⟨hx1, hx2, hx3, hx4⟩ := Sf.cents k3.toNat (by omega)
  obtain ⟨cb, hcb⟩ : ∃ x, Sf.cent k3.toNat = x := ⟨_, rfl⟩
  rw [hcb] at hx1 hx2 hx3 hx4
  have HFL : Hid (floatOfInt .f64 (k3 + 1) = double.nearest false (k3.toNat + 1) 0) := hide (by
    rw [float_of_any]
    unfold F64.Flt.mk
    rw [if_neg (by omega), decide_eq_false (by omega), show (k3 + 1).natAbs = k3.toNat + 1 by omega])
  obtain ⟨fl, hfl⟩ : ∃ x, double.nearest false (k3.toNat + 1) 0 = x := ⟨_, rfl⟩
  rw [hfl] at HFL hx1
  have HQ : Hid (∀ W : World, (binOp .quo 60 (.float .f64 fl) (.float .f64 4636737291354636288)).run Tryd.prog W = .ok (.float .f64 cb) W) := hide (fun W => run_float_arith (P := Tryd.prog) W .quo 60 .f64 _ _ _ hx1)
  have HTB := hide (fun W => stable_c cb (by omega) (by omega) hx3 hx4 W)
  have HK1 : Hid (wrap64 (k3 + 1) = k3 + 1) := hide (by unfold wrap64; omega)
  clear hj0 hj1 ev1 hc0 hc1 hx1 hx2 hx3 hx4 hcb hfl
  obtain ⟨n, hn⟩ : ∃ n, Hid (l.length = n) := ⟨_, hide rfl⟩
  rw [hn.out]
  clear hr hE
  by_cases hbig : 60 < n
  case pos =>
    have hb2 : (60 : Int) < n := by omega
    clear hbig
    go_enter Tryd.func8, Tryd.ntmps8
    go_wp2_with fail
    refine HF.out.mono ?_
    rintro e w1 ⟨rfl, hb⟩
    have HB := hide hb
    clear hb HF
    go_wp2_with fail
    go_ret
    exact ⟨rfl, HB.out⟩
  case neg =>
  have hn40 : (n : Int) ≤ 60 := by omega
  by_cases hz : n = 0
  case pos =>
    subst hz
    go_enter Tryd.func8, Tryd.ntmps8
    go_wp2_with fail
    refine HF.out.mono ?_
    rintro e w1 ⟨rfl, hb⟩
    have HB := hide hb
    clear hb HF
    go_wp2_with fail
    go_ret
    exact ⟨rfl, HB.out⟩
  case neg =>
  have hn0 : ((n : Int) == 0) = false := by simp; omega
  have hnP : 1 ≤ n := by omega
  clear hbig hz
  go_enter Tryd.func8, Tryd.ntmps8
  go_wp2_with fail
  refine HF.out.mono ?_
  rintro e w1 ⟨rfl, hb⟩
  have HB := hide hb
  have HWS1 := hide hb.size
  clear hb HF
  obtain ⟨W, hW⟩ : ∃ W, W = (w1.alloc (.cells #[.int .i64 n] 3)).alloc (.cells #[.slice (some ⟨w1.heap.size, 0, none⟩) 1 1, .bool false, .slice none 0 0] 26) := ⟨_, rfl⟩
  have hBW : Below w1.heap.size w1 W := by rw [hW]; exact ((Below.refl _ _).alloc (Nat.le_refl _) _).alloc (by simp) _
  have SH : Hid (Has W w1.heap.size 3 [.int .i64 n]) := hide (by rw [hW]; exact (Has.new w1 3 [.int .i64 n]).alloc _)
  have BX : Hid (Has W (w1.heap.size + 1) 26 [.slice (some ⟨w1.heap.size, 0, none⟩) 1 1, .bool false, .slice none 0 0]) := hide (by rw [hW]; exact box_at _ _ _ _ (by simp))
  have hWs : W.heap.size = w1.heap.size + 2 := by rw [hW]; simp
  have HWS := hide hWs
  replace HB := hide (HB.out.trans (hBW.mono HB.out.size))
  have HW := hide hW
  have HW1 := hide hBW.size
  clear hW hBW hWs
  go_wp2_with fail
  rw [← HW.out]
  clear HW
  go_loopw [9] (fun k wr => ∃ i : Nat, i ≤ n ∧ k = .int .i64 i ∧ ∃ (ds : List Int) (v : Value), Hid (∀ d ∈ ds, -50 ≤ d ∧ d ≤ 49) ∧ Hid (Has wr (w1.heap.size + 1) 26 [.slice (some ⟨w1.heap.size, 0, none⟩) 1 1, .bool false, v]) ∧ Hid (Has wr w1.heap.size 3 [.int .i64 n]) ∧ Hid (wr.ownsRow (w1.heap.size + 2) 3 1 v i (i64s ds)) ∧ Hid (Below w.heap.size w wr) ∧ Hid (w1.heap.size + 2 ≤ wr.heap.size)) (fun k _ => n - (intOf k).toNat)
  case atStart => exact ⟨0, by omega, rfl, [], _, hide (by simp), BX, SH, hide ⟨rfl, .inl ⟨rfl, rfl⟩⟩, HB, hide (by rw [HWS.out]; exact Nat.le_refl _)⟩
  case round =>
    clear BX SH HB HWS HW1
    obtain ⟨i, hi, rfl, ds, v, HD, BX, SH, HO, HB, HSZ⟩ := hrel
    by_cases hlt : i < n
    · obtain ⟨ad, x, hAD, ex, cx⟩ := ri_at (HL.out _ HB.out) i (by rw [hn.out]; exact hlt)
      subst hAD
      have him : (i : Int) < n := by omega
      have hi0 : (0 : Int) ≤ (i : Int) := by omega
      have c2 : wr.cell? ⟨w1.heap.size + 1, 2, none⟩ = some v := BX.out.cell 2
      have adl : ad.block < wr.heap.size := by
        obtain ⟨ad', h1, h2, -⟩ := (HL.out _ HB.out).2 (by intro h; rw [h] at ex; have h := ex.out; simp at h)
        rw [Option.some.inj h1]
        exact h2
      have hsl := HSZ.out
      have HX := hide (fun W => HN.out x W)
      have HBI := hide (show i + 1 ≤ 1000000000000 by omega)
      have HBS := hide (fun k : Int => show w1.heap.size + 2 ≤ ((wr.alloc (.cells #[.int .i64 k] 3)).drew).heap.size by have := HSZ.out; simp [World.drew]; omega)
      have HOW := hide (fun k : Int => (HO.out.alloc (.cells #[.int .i64 k] 3)).drew)
      have HRI := hide (fun (k : Int) (h : -50 ≤ k ∧ k ≤ 49) => show Ri ((wr.alloc (.cells #[.int .i64 k] 3)).drew) (some ⟨wr.heap.size, 0, none⟩) [k] from ri_drew (new_ri wr 3 [k] (by intro q hq; simp at hq; omega)) 1)
      have HGX := hide (fun (k : Int) (w' : World) (h2 : ((wr.alloc (.cells #[.int .i64 k] 3)).drew).grownBy w' v.ownBlock) => (show Has ((wr.alloc (.cells #[.int .i64 k] 3)).drew) (w1.heap.size + 1) 26 [.slice (some ⟨w1.heap.size, 0, none⟩) 1 1, .bool false, v] from (BX.out.alloc (.cells #[.int .i64 k] 3)).drewN 1).grown h2 (own_apart HO.out (by omega)))
      have HGS := hide (fun (k : Int) (w' : World) (h2 : ((wr.alloc (.cells #[.int .i64 k] 3)).drew).grownBy w' v.ownBlock) => (show Has ((wr.alloc (.cells #[.int .i64 k] 3)).drew) w1.heap.size 3 [.int .i64 n] from (SH.out.alloc (.cells #[.int .i64 k] 3)).drewN 1).grown h2 (own_apart HO.out (by omega)))
      have HGB := hide (fun (k : Int) (w' : World) (h2 : ((wr.alloc (.cells #[.int .i64 k] 3)).drew).grownBy w' v.ownBlock) => elm_grown ((HB.out.alloc HB.out.size (.cells #[.int .i64 k] 3)).drew) (own_le (HOW.out k) (by have := HWS1.out; omega)) ((HB.out.alloc HB.out.size (.cells #[.int .i64 k] 3)).drew).size h2)
      clear hi ex
      go_wp2_with fail
      go_region_law (first
        | (go_simp; go_at_call 33; refine (HX.out _).mono ?_; rintro e wq ⟨⟨k, hk, rfl⟩, hw⟩; have hw := hw.symm; subst hw; have hk0 : (0 : Int) ≤ k := (by omega); have hk1 : (k : Int) < 100 := (by omega); have HKK := hide (show -50 ≤ IntKind.i64.wrap ((k : Int) - 50) ∧ IntKind.i64.wrap ((k : Int) - 50) ≤ 49 from (by rw [IntKind.wrap_i64]; omega)); have dal : (wr.alloc (.cells #[.int .i64 (IntKind.i64.wrap ((k : Int) - 50))] 3)).cell? ⟨w1.heap.size + 1, 2, none⟩ = some v := (BX.out.alloc (.cells #[.int .i64 (IntKind.i64.wrap ((k : Int) - 50))] 3)).cell 2)
        | (refine step_append_is rfl (.tmp 50) (.tmp 57) rfl (w1.heap.size + 2) v i (i64s ds) (by first | rfl | simp [Act.eval]) (HOW.out (IntKind.i64.wrap ((k : Int) - 50))) (some ⟨wr.heap.size, 0, none⟩) 1 1 [IntKind.i64.wrap ((k : Int) - 50)] (by first | rfl | simp [Act.eval]) (hide rfl) (HRI.out _ HKK.out) HBI.out (HBS.out _) (fun v' w' h1 h2 h3 => ?_); obtain ⟨Pn, cn, hvn⟩ := own_slice h1; subst hvn; have H1 := hide h1; have H2 := hide h2; have hbx := HGX.out _ _ h2; have d2 : w'.cell? ⟨w1.heap.size + 1, 2, none⟩ = some v := hbx.cell 2; have f2 := hbx.frozen 2; clear h1 h2 h3 hbx))
      all_goals go_ways
      all_goals
        go_wp2_with fail
        go_roundw
        case rel =>
          have hbx := HGX.out _ _ H2.out
          have hsh := HGS.out _ _ H2.out
          have hhb := HGB.out _ _ H2.out
          have hsz := HSZ.out
          have hws := HWS1.out
          have hbs := hbx.set_ 2 (.slice Pn (i + 1) cn)
          refine ⟨i + 1, by omega, by go_num, ds ++ [IntKind.i64.wrap ((k : Int) - 50)], .slice Pn (i + 1) cn, hide ?_, hide hbs, hide (hsh.far (by simp) _), hide (own_set (by rw [show i64s (ds ++ [IntKind.i64.wrap ((k : Int) - 50)]) = i64s ds ++ i64s [IntKind.i64.wrap ((k : Int) - 50)] from List.map_append]; exact H1.out) (by simp) _), hide (hhb.setCell (by simp; omega) _), hide ?_⟩
          · intro d hd
            rcases List.mem_append.1 hd with hd | hd
            · exact HD.out d hd
            · rw [List.mem_singleton.1 hd]; exact HKK.out
          · have := hbs.lt
            omega
        case measure => simp [intOf]; omega
    · obtain rfl : i = n := by omega
      have nlt : ¬ ((i : Int) < i) := by omega
      obtain ⟨D, dc, rfl, hRD, hlen⟩ := own_ri HO.out (fun d hd => wf_i64 d (by have := HD.out d hd; omega))
      have hcap := own_cap HO.out
      have HRD := hide hRD
      clear HO hi hlt hRD
      obtain ⟨a, ea⟩ : ∃ a : Ten, Hid (a = ⟨some ⟨w1.heap.size, 0, none⟩, [(i : Int)], 1, false, D, ds, dc⟩) := ⟨_, hide rfl⟩
      have TA : Hid (a.In wr) := hide (by rw [ea.out]; exact ⟨(show Has wr w1.heap.size 3 (i64s [(i : Int)]) from SH.out).ri (by intro q hq; rw [List.mem_singleton.1 hq]; exact wf_i64 _ (by omega)), HRD.out, by simp, by show ds.length ≤ 1000000; omega⟩)
      have A : Hid (Has wr (w1.heap.size + 1) 26 [.slice a.P a.zs.length a.cap, .bool a.u, .slice a.D a.ds.length a.dcap]) := hide (by rw [ea.out]; show Has wr (w1.heap.size + 1) 26 [.slice (some ⟨w1.heap.size, 0, none⟩) 1 1, .bool false, .slice D ds.length dc]; rw [hlen]; exact BX.out)
      have AZ : Hid (a.zs = [(i : Int)]) := hide (by rw [ea.out])
      have AU : Hid (a.u = false) := hide (by rw [ea.out])
      have AL : Hid (a.ds.length = i) := hide (by rw [ea.out]; exact hlen)
      have AC : Hid (a.ds.length ≤ a.dcap) := hide (by rw [ea.out]; show ds.length ≤ dc; rw [hlen]; exact hcap)
      have AN : Hid (∀ z ∈ a.ds, -50 ≤ z ∧ z ≤ 49) := hide (by rw [ea.out]; exact HD.out)
      have FA : Hid (a.fault = (0, none)) := hide (Sf.fine_line a i AZ.out (by omega) AL.out (fun z hz => by rw [AU.out]; have := AN.out z hz; exact Sf.fitn (by omega)))
      clear ea BX SH HRD hlen hcap HD
      obtain ⟨wb, hwb⟩ : ∃ W, W = wr := ⟨_, rfl⟩
      subst hwb
      have Hin : Hid ((i : Int) ≤ 60 ∧ 1 ≤ i) := hide ⟨hn40, hnP⟩
      have HZ1 : Hid (a.zs.length = 1) := hide (by rw [AZ.out]; rfl)
      have hRC := rcopy_m a wb TA.out
      rw [AU.out, AL.out, HZ1.out] at hRC
      have HRC := hide hRC
      have A9 : Hid (Has wb (w1.heap.size + 1) 26 [.slice a.P 1 a.cap, .bool false, .slice a.D i a.dcap]) := hide (by have h := A.out; rw [AU.out, AL.out, HZ1.out] at h; exact h)
      have c_A0 := A9.out.cell 0
      have c_A1 := A9.out.cell 1
      have c_A2 := A9.out.cell 2
      clear hRC hn40 hnP A
      go_wp2_with fail
      clear c_A0 c_A1 c_A2
      refine HRC.out.mono ?_
      rintro e w5 ⟨⟨g, gc, rest, gd, cd, rd, rfl, hG, hD, hg, hgd, hne, hcd⟩, hb⟩
      obtain ⟨W6, hW6⟩ : ∃ W, W = w5.alloc (.cells #[.slice (some ⟨g, 0, none⟩) 1 gc, .bool false, .slice (some ⟨gd, 0, none⟩) i cd] 26) := ⟨_, rfl⟩
      have hbA : Below w5.heap.size w5 W6 := by rw [hW6]; exact (Below.refl _ _).alloc (Nat.le_refl _) _
      have BT : Hid (Has W6 w5.heap.size 26 [.slice (some ⟨g, 0, none⟩) 1 gc, .bool false, .slice (some ⟨gd, 0, none⟩) i cd]) := hide (by rw [hW6]; exact Has.new _ _ _)
      have G := hide (hG.below hbA hG.lt)
      have D := hide (hD.below hbA hD.lt)
      have HG := hide hg
      have HGD := hide hgd
      have HNE := hide hne
      have HCD := hide hcd
      have Hw5 := hide hb.size
      have Hgl := hide hG.lt
      have Hgdl := hide hD.lt
      have HWB := hide (hb.trans (hbA.mono hb.size))
      have HW6 := hide hW6
      clear hG hD hg hgd hne hcd hb hbA hW6 HRC
      go_wp2_with fail
      rw [← HW6.out]
      clear HW6
      refine (NV.out _).mono ?_
      rintro e wq ⟨rfl, hw⟩
      have hw := hw.symm
      subst hw
      have hwv := HWV.out
      go_wp2_with fail
      rw [hwv]
      clear hwv
      go_loopg [11] i (fun gq kk wx => ∃ (p : Nat) (xs : List Int), gq + p = i ∧ kk = .int .i64 p ∧ Hid (xs.length = i) ∧ Hid (∀ j, j < p → xs[j]? = (a.ds[j]?).map (· + v1)) ∧ Hid (∀ j, p ≤ j → xs[j]? = a.ds[j]?) ∧ Hid (Has wx gd 3 (i64s xs ++ rd)) ∧ Hid (Has wx g 3 (i64s a.zs ++ rest)) ∧ Hid (Has wx w5.heap.size 26 [.slice (some ⟨g, 0, none⟩) 1 gc, .bool false, .slice (some ⟨gd, 0, none⟩) i cd]) ∧ Hid (Below wb.heap.size wb wx))
      case atStart => exact ⟨0, a.ds, by omega, rfl, AL, hide (fun j hj => by omega), hide (fun j hj => rfl), D, G, BT, HWB⟩
      case round =>
        clear D G BT HWB
        obtain ⟨p, xs, hp9, rfl, HXN, HI, HJ, D, G, BT, HWB⟩ := hrel
        by_cases hlt : p < i
        · have hii : (p : Int) < (i : Int) := by omega
          have hi0 : (0 : Int) ≤ (p : Int) := by omega
          have hp64 : (p : Int) + 1 ≤ 61 := by have := Hin.out; omega
          have x2 := BT.out.cell 2
          have gf := D.out.frozen p
          obtain ⟨z, hz⟩ : ∃ z, a.ds[p]? = some z := ⟨_, List.getElem?_eq_getElem (by rw [AL.out]; exact hlt)⟩
          have HZ := hide hz
          have HZB := hide (AN.out z (List.mem_of_getElem? hz))
          have HZX : Hid (xs[p]? = some z) := hide (by rw [HJ.out p (Nat.le_refl _)]; exact hz)
          have gc1 : wr.cell? ⟨gd, p, none⟩ = some (.int .i64 z) := by
            rw [D.out.cell, List.getElem?_append_left (by unfold i64s; rw [List.length_map, HXN.out]; exact hlt)]
            unfold i64s
            rw [List.getElem?_map, HZX.out]
            rfl
          have e1 : IntKind.i64.wrap (z + v1) = z + v1 := by rw [IntKind.wrap_i64]; have := HZB.out; have := BV.out; omega
          have hw5g : ¬ gd = w5.heap.size := by have := Hgdl.out; omega
          have hw5h : ¬ w5.heap.size = gd := by have := Hgdl.out; omega
          clear hz
          go_wp2_with fail
          go_region
          obtain ⟨wy, hwy⟩ : ∃ W, Hid (W = (wr.setCell ⟨gd, p, none⟩ (.int .i64 (z + v1))).drew) := ⟨_, hide rfl⟩
          rw [← hwy.out]
          have GY : Hid (Has wy gd 3 (i64s (xs.set p (z + v1)) ++ rd)) := hide (by
            rw [hwy.out]
            have h := (D.out.set_ p (.int .i64 (z + v1))).drewN 1
            rw [List.set_append, if_pos (by unfold i64s; rw [List.length_map, HXN.out]; exact hlt)] at h
            unfold i64s at h ⊢
            rw [List.map_set]
            exact h)
          have G2 : Hid (Has wy g 3 (i64s a.zs ++ rest)) := hide (by rw [hwy.out]; exact (G.out.far (p := ⟨gd, p, none⟩) HNE.out _).drewN 1)
          have B2 : Hid (Has wy w5.heap.size 26 [.slice (some ⟨g, 0, none⟩) 1 gc, .bool false, .slice (some ⟨gd, 0, none⟩) i cd]) := hide (by rw [hwy.out]; exact (BT.out.far (p := ⟨gd, p, none⟩) (by show w5.heap.size ≠ gd; exact hw5h) _).drewN 1)
          have HY : Hid (Below wb.heap.size wb wy) := hide (by rw [hwy.out]; exact (HWB.out.setCell (p := ⟨gd, p, none⟩) HGD.out _).drew)
          clear hwy e1 x2 gf gc1
          go_wp2_with fail
          go_roundg (i - (p + 1))
          case measure => omega
          case rel =>
            refine ⟨p + 1, xs.set p (z + v1), by omega, by go_num, hide (by rw [List.length_set]; exact HXN.out), hide (fun j hj => ?_), hide (fun j hj => ?_), GY, G2, B2, HY⟩
            · rw [List.getElem?_set]
              by_cases h : p = j
              · subst h
                rw [if_pos rfl, if_pos (by rw [HXN.out]; exact hlt), HZ.out]
                rfl
              · rw [if_neg h]
                exact HI.out j (by omega)
            · rw [List.getElem?_set, if_neg (by omega)]
              exact HJ.out j (by omega)
        · obtain rfl : i = p := by omega
          have hii : ¬ (i : Int) < (i : Int) := by omega
          have HB4 : Hid (Below w.heap.size w wr) := hide (HB.out.trans (HWB.out.mono HB.out.size))
          have A4 : Hid (Has wr (w1.heap.size + 1) 26 [.slice a.P a.zs.length a.cap, .bool a.u, .slice a.D a.ds.length a.dcap]) := hide (by rw [AU.out, AL.out, HZ1.out]; exact A9.out.below HWB.out A9.out.lt)
          have TA4 : Hid (a.In wr) := hide (TA.out.below HWB.out)
          have HXV : Hid (∀ j, j < i → xs[j]? = (a.ds[j]?).map (· + v1)) := HI
          have HXB : Hid (∀ z ∈ xs, -128 ≤ z ∧ z ≤ 127) := hide (fun z hz => by
            obtain ⟨j, hj⟩ := List.mem_iff_getElem?.1 hz
            have hjl : j < i := by rw [← HXN.out]; exact (List.getElem?_eq_some_iff.1 hj).1
            rw [HXV.out j hjl, Option.map_eq_some_iff] at hj
            obtain ⟨y, hy, rfl⟩ := hj
            have h1 := AN.out y (List.mem_of_getElem? hy)
            have h2 := BV.out
            omega)
          obtain ⟨b, hbv⟩ : ∃ b : Ten, Hid (b = ⟨some ⟨g, 0, none⟩, a.zs, gc, false, some ⟨gd, 0, none⟩, xs, cd⟩) := ⟨_, hide rfl⟩
          have TB : Hid (b.In wr) := hide (by rw [hbv.out]; exact ⟨G.out.ri_app TA4.out.shp.1, D.out.ri_app (fun q hq => wf_i64 _ (by have := HXB.out q hq; omega)), TA4.out.ls, by show xs.length ≤ 1000000; rw [HXN.out]; have := Hin.out; omega⟩)
          have B4 : Hid (Has wr w5.heap.size 26 [.slice b.P b.zs.length b.cap, .bool b.u, .slice b.D b.ds.length b.dcap]) := hide (by rw [hbv.out]; show Has wr w5.heap.size 26 [.slice (some ⟨g, 0, none⟩) a.zs.length gc, .bool false, .slice (some ⟨gd, 0, none⟩) xs.length cd]; rw [HXN.out, HZ1.out]; exact BT.out)
          have BZ : Hid (b.zs = [(i : Int)]) := hide (by rw [hbv.out]; exact AZ.out)
          have BU : Hid (b.u = false) := hide (by rw [hbv.out])
          have BDS : Hid (b.ds = xs) := hide (by rw [hbv.out])
          have BL : Hid (b.ds.length = i) := hide (by rw [BDS.out]; exact HXN.out)
          have BCc : Hid (b.ds.length ≤ b.dcap) := hide (by rw [hbv.out]; show xs.length ≤ cd; rw [HXN.out]; exact HCD.out)
          have FB : Hid (b.fault = (0, none)) := hide (Sf.fine_line b i BZ.out (by have := Hin.out; omega) BL.out (fun z hz => by rw [BU.out]; rw [BDS.out] at hz; exact Sf.fitn (HXB.out z hz)))
          have HSH : Hid (∀ j, j < i → b.ds.getD j 0 = a.ds.getD j 0 + v1) := hide (fun j hj => by
            obtain ⟨z, hz⟩ : ∃ z, a.ds[j]? = some z := ⟨_, List.getElem?_eq_getElem (by rw [AL.out]; exact hj)⟩
            have h := HXV.out j hj
            rw [hz] at h
            rw [BDS.out, Sf.getD_at h, Sf.getD_at hz])
          have x2 := BT.out.cell 2
          clear D G HWB HXN HI HJ hbv hlt
          go_wp2_with fail
          clear x2 hii
          refine (NB.out _).mono ?_
          rintro e wq ⟨rfl, hw⟩
          have hw := hw.symm
          subst hw
          have hk1 := HK1.out
          have hq := HQ.out
          have hfl := HFL.out
          go_wp2_with fail
          clear hk1 hq hfl
          refine (HTB.out _).mono ?_
          rintro e w7 ⟨⟨t, rfl, hti, -, htz, htu, htd, htc⟩, hb⟩
          have a5 := A4.out.below hb A4.out.lt
          have c_A0 := a5.cell 0
          have c_A1 := a5.cell 1
          have c_A2 := a5.cell 2
          have l_A := a5.lt
          clear a5
          obtain ⟨W8, hW8⟩ : ∃ W, W = w7.alloc (.cells #[.slice t.P t.zs.length t.cap, .bool t.u, .slice t.D t.ds.length t.dcap] 26) := ⟨_, rfl⟩
          have hbA : Below w7.heap.size w7 W8 := by rw [hW8]; exact (Below.refl _ _).alloc (Nat.le_refl _) _
          have T8 : Hid (Has W8 w7.heap.size 26 [.slice t.P t.zs.length t.cap, .bool t.u, .slice t.D t.ds.length t.dcap]) := hide (by rw [hW8]; exact Has.new _ _ _)
          have TT := hide (hti.below hbA)
          have HTZ := hide htz
          have HTU := hide htu
          have HTD := hide htd
          have HTC : Hid (t.ds.length ≤ t.dcap) := hide (by rw [htc, htd, Sf.table_length]; decide)
          have FT : Hid (t.fault = (0, none)) := hide (Sf.fine_line t 256 htz (by decide) (by rw [htd, Sf.table_length]) (fun z hz => by rw [htu]; rw [htd] at hz; have := Sf.table_le _ z hz; exact Sf.fitw (by omega)))
          have hb56 := hb.trans (hbA.mono hb.size)
          replace HB4 := hide (HB4.out.trans (hb56.mono HB4.out.size))
          replace A4 := hide (A4.out.below hb56 A4.out.lt)
          replace B4 := hide (B4.out.below hb56 B4.out.lt)
          replace TA4 := hide (TA4.out.below hb56)
          replace TB := hide (TB.out.below hb56)
          have HFX : Hid (Cel.fault [a, t] (Sf.code 16 ([a, t].map Ten.look)) = (0, none)) := hide (Sf.good_soft FA.out FT.out AU.out (by rw [AZ.out]; exact Nat.one_pos) HTZ.out HTU.out)
          have HFY : Hid (Cel.fault [b, t] (Sf.code 16 ([b, t].map Ten.look)) = (0, none)) := hide (Sf.good_soft FB.out FT.out BU.out (by rw [BZ.out]; exact Nat.one_pos) HTZ.out HTU.out)
          have HFM : Hid (Cel.fault [a] (Sf.code 19 ([a].map Ten.look)) = (0, none)) := hide (Sf.good_row (.inl rfl) FA.out (by rw [AZ.out]; exact Nat.one_pos) AC.out)
          have HSX := hide (Sf.fine_soft a t AC.out HFX.out)
          have HSY := hide (Sf.fine_soft b t BCc.out HFY.out)
          obtain ⟨ts, hts⟩ : ∃ ts, Hid (t.ds = ts) := ⟨_, hide rfl⟩
          have HE1 : Hid (∀ j, j < i → Sf.el 16 [a, t] j = Sf.of (Sf.all a.ds ts i i) (Sf.wt ts (Sf.by_ a.ds i j))) := hide (fun j hj => by rw [Sf.soft_line i AZ.out AL.out j hj, hts.out])
          have HE2 : Hid (∀ j, j < i → Sf.el 16 [b, t] j = Sf.of (Sf.all a.ds ts i i) (Sf.wt ts (Sf.by_ a.ds i j))) := hide (fun j hj => by rw [Sf.soft_line i BZ.out BL.out j hj, hts.out, Sf.all_shift ts v1 i Hin.out.2 HSH.out, Sf.by_shift v1 i Hin.out.2 HSH.out j hj])
          have HFACT := hide (Sf.shift_facts a.ds ts i Hin.out.2 (by rw [← hts.out, HTD.out]; exact Sf.tab_getD _) (by rw [← hts.out, HTD.out, Sf.getD_at (Sf.table_at _ 0 (by decide))]; rfl))
          obtain ⟨E, hE⟩ : ∃ E : Nat → Int, Hid (∀ j, Sf.of (Sf.all a.ds ts i i) (Sf.wt ts (Sf.by_ a.ds i j)) = E j) := ⟨_, hide (fun j => rfl)⟩
          obtain ⟨k, hk1, hk2, hk3, hk4, hk5, hk6, hk7, hk8⟩ := HFACT.out
          rw [funext (fun j => congrArg (· + 128) (hE.out j))] at hk7 hk8
          simp only [hE.out] at hk5 hk6
          have HE1' : Hid (∀ j, j < i → Sf.el 16 [a, t] j = E j) := hide (fun j hj => by rw [HE1.out j hj, hE.out])
          have HE2' : Hid (∀ j, j < i → Sf.el 16 [b, t] j = E j) := hide (fun j hj => by rw [HE2.out j hj, hE.out])
          have HK1' := hide hk1
          have HK2 := hide hk2
          have HK3 := hide hk3
          have HK4 := hide hk4
          have HK5 := hide hk5
          have HK6 := hide hk6
          have HK7 : Hid (255 - (i : Int) ≤ Pl.add (fun j => E j + 128) i ∧ Pl.add (fun j => E j + 128) i ≤ 255 + (i : Int)) := hide ⟨hk7, hk8⟩
          have HW8 := hide hW8
          clear hti htz htu htd htc hb hbA hW8 hb56 HFACT HE1 HE2 hE hk1 hk2 hk3 hk4 hk5 hk6 hk7 hk8
          go_wp2_with fail
          rw [← HW8.out]
          clear HW8 c_A0 c_A1 c_A2 l_A
          refine (sfsoftmax_c a t ah am ar W8 TA4.out TT.out (by
            intro x hx
            simp only [List.mem_cons, List.not_mem_nil, or_false] at hx
            rcases hx with rfl | rfl
            · exact AC.out
            · exact HTC.out) (HE.out _ HB4.out)).mono ?_
          intro e w9 hT
          obtain ⟨⟨x, rfl, hIn, hxz, hxu, hd, -⟩, hb⟩ := sf_good 16 (.inl rfl) _ ah am ar _ HFX.out hT
          have z5 := B4.out.below hb B4.out.lt
          have c_B0 := z5.cell 0
          have c_B1 := z5.cell 1
          have c_B2 := z5.cell 2
          have l_B := z5.lt
          clear z5
          have z5 := T8.out.below hb T8.out.lt
          have c_T0 := z5.cell 0
          have c_T1 := z5.cell 1
          have c_T2 := z5.cell 2
          have l_T := z5.lt
          clear z5
          rw [HSX.out.2.2.2.2.2.1] at hxz
          rw [HSX.out.2.2.2.2.2.2.1] at hxu
          have HxL : Hid (x.ds.length = i) := hide (by rw [hd, Sf.ds_length, HSX.out.2.2.2.2.2.2.2, AL.out])
          have HxV : Hid (∀ j, j < i → x.ds[j]? = some (E j)) := hide (fun j hj => by
            rw [hd]
            unfold Sf.ds
            rw [HSX.out.2.2.2.2.2.2.2, AL.out, Sf.part_at _ _ _ _ hj, Nat.zero_add, HE1'.out j hj])
          have HxZ := hide hxz
          have HxU := hide hxu
          obtain ⟨W10, hW10⟩ : ∃ W, W = w9.alloc (.cells #[.slice x.P x.zs.length x.cap, .bool x.u, .slice x.D x.ds.length x.dcap] 26) := ⟨_, rfl⟩
          have hbA : Below w9.heap.size w9 W10 := by rw [hW10]; exact (Below.refl _ _).alloc (Nat.le_refl _) _
          have Bx : Hid (Has W10 w9.heap.size 26 [.slice x.P x.zs.length x.cap, .bool x.u, .slice x.D x.ds.length x.dcap]) := hide (by rw [hW10]; exact Has.new _ _ _)
          have Tx := hide (hIn.below hbA)
          have hb56 := hb.trans (hbA.mono hb.size)
          replace HB4 := hide (HB4.out.trans (hb56.mono HB4.out.size))
          replace A4 := hide (A4.out.below hb56 A4.out.lt)
          replace B4 := hide (B4.out.below hb56 B4.out.lt)
          replace T8 := hide (T8.out.below hb56 T8.out.lt)
          replace TA4 := hide (TA4.out.below hb56)
          replace TB := hide (TB.out.below hb56)
          replace TT := hide (TT.out.below hb56)
          have HW10 := hide hW10
          clear hT hIn hxz hxu hd hb hbA hb56 hW10
          go_wp2_with fail
          rw [← HW10.out]
          clear HW10 c_B0 c_B1 c_B2 c_T0 c_T1 c_T2 l_B l_T
          refine (sfsoftmax_c b t ah am ar W10 TB.out TT.out (by
            intro x hx
            simp only [List.mem_cons, List.not_mem_nil, or_false] at hx
            rcases hx with rfl | rfl
            · exact BCc.out
            · exact HTC.out) (HE.out _ HB4.out)).mono ?_
          intro e w11 hT
          obtain ⟨⟨y, rfl, hIn, hxz, hxu, hd, -⟩, hb⟩ := sf_good 16 (.inl rfl) _ ah am ar _ HFY.out hT
          have z5 := A4.out.below hb A4.out.lt
          have c_A0 := z5.cell 0
          have c_A1 := z5.cell 1
          have c_A2 := z5.cell 2
          have l_A := z5.lt
          clear z5
          rw [HSY.out.2.2.2.2.2.1] at hxz
          rw [HSY.out.2.2.2.2.2.2.1] at hxu
          have HyL : Hid (y.ds.length = i) := hide (by rw [hd, Sf.ds_length, HSY.out.2.2.2.2.2.2.2, BL.out])
          have HyV : Hid (∀ j, j < i → y.ds[j]? = some (E j)) := hide (fun j hj => by
            rw [hd]
            unfold Sf.ds
            rw [HSY.out.2.2.2.2.2.2.2, BL.out, Sf.part_at _ _ _ _ hj, Nat.zero_add, HE2'.out j hj])
          have HyZ := hide hxz
          have HyU := hide hxu
          obtain ⟨W12, hW12⟩ : ∃ W, W = w11.alloc (.cells #[.slice y.P y.zs.length y.cap, .bool y.u, .slice y.D y.ds.length y.dcap] 26) := ⟨_, rfl⟩
          have hbA : Below w11.heap.size w11 W12 := by rw [hW12]; exact (Below.refl _ _).alloc (Nat.le_refl _) _
          have By : Hid (Has W12 w11.heap.size 26 [.slice y.P y.zs.length y.cap, .bool y.u, .slice y.D y.ds.length y.dcap]) := hide (by rw [hW12]; exact Has.new _ _ _)
          have Ty := hide (hIn.below hbA)
          have hb56 := hb.trans (hbA.mono hb.size)
          replace HB4 := hide (HB4.out.trans (hb56.mono HB4.out.size))
          replace A4 := hide (A4.out.below hb56 A4.out.lt)
          replace Bx := hide (Bx.out.below hb56 Bx.out.lt)
          replace TA4 := hide (TA4.out.below hb56)
          replace Tx := hide (Tx.out.below hb56)
          have HW12 := hide hW12
          clear hT hIn hxz hxu hd hb hbA hb56 hW12 B4 T8 TB TT
          go_wp2_with fail
          rw [← HW12.out]
          clear HW12 c_A0 c_A1 c_A2 l_A
          refine (sfargmax_c a ah am ar W12 TA4.out (by
            intro x hx
            rw [List.mem_singleton.1 hx]
            exact AC.out) (HE.out _ HB4.out)).mono ?_
          intro e w13 hT
          obtain ⟨⟨m, rfl, hIn, -, -, hd, -⟩, hb⟩ := sf_good 19 (.inr (.inr (.inl rfl))) _ ah am ar _ HFM.out hT
          have z5 := Bx.out.below hb Bx.out.lt
          have c_x0 := z5.cell 0
          have c_x1 := z5.cell 1
          have c_x2 := z5.cell 2
          have l_x := z5.lt
          clear z5
          have z5 := By.out.below hb By.out.lt
          have c_y0 := z5.cell 0
          have c_y1 := z5.cell 1
          have c_y2 := z5.cell 2
          have l_y := z5.lt
          clear z5
          have hm1 : Sf.size 19 [a] = 1 := by rw [(Sf.fine_row 19 (.inl rfl) a AC.out HFM.out).2.2.2.2, AZ.out]; rfl
          have HmL : Hid (m.ds.length = 1) := hide (by rw [hd, Sf.ds_length, hm1])
          have HmV : Hid (m.ds[0]? = some (k : Int)) := hide (by
            rw [hd]
            unfold Sf.ds
            rw [hm1, Sf.part_at _ _ _ _ (by decide)]
            show some (if (19 : Int) = 19 then Sf.amax a.ds (Sf.last a) (0 + 0) else Sf.sum a.ds (Sf.last a) (0 + 0)) = _
            rw [if_pos rfl, Sf.last_line AZ.out]
            show some (((Sf.best (fun j => (Sf.row a.ds i (0 + 0)).getD j 0) i : Nat)) : Int) = _
            rw [Nat.add_zero, Sf.row_all _ _ AL.out, HK1'.out])
          obtain ⟨W14, hW14⟩ : ∃ W, W = w13.alloc (.cells #[.slice m.P m.zs.length m.cap, .bool m.u, .slice m.D m.ds.length m.dcap] 26) := ⟨_, rfl⟩
          have hbA : Below w13.heap.size w13 W14 := by rw [hW14]; exact (Below.refl _ _).alloc (Nat.le_refl _) _
          have Bm : Hid (Has W14 w13.heap.size 26 [.slice m.P m.zs.length m.cap, .bool m.u, .slice m.D m.ds.length m.dcap]) := hide (by rw [hW14]; exact Has.new _ _ _)
          have Tm := hide (hIn.below hbA)
          have hb56 := hb.trans (hbA.mono hb.size)
          replace HB4 := hide (HB4.out.trans (hb56.mono HB4.out.size))
          replace A4 := hide (A4.out.below hb56 A4.out.lt)
          replace Bx := hide (Bx.out.below hb56 Bx.out.lt)
          replace By := hide (By.out.below hb56 By.out.lt)
          replace TA4 := hide (TA4.out.below hb56)
          replace Tx := hide (Tx.out.below hb56)
          replace Ty := hide (Ty.out.below hb56)
          have HW14 := hide hW14
          clear hT hIn hd hb hbA hb56 hW14 hm1
          go_wp2_with fail
          rw [← HW14.out]
          clear HW14 c_x0 c_x1 c_x2 c_y0 c_y1 c_y2 l_x l_y
          have HST := sametensor_c x.zs y.zs x.ds y.ds x.P y.P x.D y.D x.cap y.cap x.dcap y.dcap x.u y.u W14 Tx.out.shp Ty.out.shp Tx.out.dat Ty.out.dat Tx.out.ls Ty.out.ls Tx.out.ld Ty.out.ld
          have hxy : x.ds = y.ds := List.ext_getElem? (fun j => by
            rcases Nat.lt_or_ge j i with h | h
            · rw [HxV.out j h, HyV.out j h]
            · rw [List.getElem?_eq_none (by rw [HxL.out]; exact h), List.getElem?_eq_none (by rw [HyL.out]; exact h)])
          rw [decide_eq_true (show x.zs = y.zs by rw [HxZ.out, HyZ.out, AZ.out, BZ.out]), decide_eq_true hxy, show (x.u == y.u) = true by rw [HxU.out, HyU.out]; rfl] at HST
          refine HST.mono ?_
          rintro e w15 ⟨rfl, hb⟩
          replace HB4 := hide (HB4.out.trans (hb.mono HB4.out.size))
          replace A4 := hide (A4.out.below hb A4.out.lt)
          replace Bx := hide (Bx.out.below hb Bx.out.lt)
          replace Bm := hide (Bm.out.below hb Bm.out.lt)
          replace TA4 := hide (TA4.out.below hb)
          replace Tx := hide (Tx.out.below hb)
          replace Tm := hide (Tm.out.below hb)
          clear hb HST hxy By Ty
          obtain ⟨pa, hpa⟩ : ∃ pa, a.D = some pa := by
            obtain ⟨ad', h1, -, -⟩ := TA4.out.dat.2 (by intro h; have h2 := AL.out; have h3 := Hin.out; rw [h] at h2; simp at h2; omega)
            exact ⟨ad', h1⟩
          obtain ⟨px, hpx⟩ : ∃ px, x.D = some px := by
            obtain ⟨ad', h1, -, -⟩ := Tx.out.dat.2 (by intro h; have h2 := HxL.out; have h3 := Hin.out; rw [h] at h2; simp at h2; omega)
            exact ⟨ad', h1⟩
          obtain ⟨p0, km, hP0, ekm, ck⟩ := ri_at Tm.out.dat 0 (by rw [HmL.out]; decide)
          obtain rfl : km = (k : Int) := Option.some.inj (ekm.out.symm.trans HmV.out)
          have ck0 : w15.cell? p0 = some (.int .i64 (k : Int)) := by simpa [Addr.add] using ck
          have HCK := hide ck0
          clear ck ck0
          rw [hpa, AL.out] at A4
          rw [hpx, HxL.out] at Bx
          rw [hP0, HmL.out] at Bm
          have HPA := hide hpa
          have HPX := hide hpx
          clear ekm hpa hpx hP0
          go_wp2_with fail
          go_loopg [20, 21] i (fun gq sv kk wy => ∃ (p q : Nat), gq + p = i ∧ kk = .int .i64 p ∧ sv = .int .i64 (Pl.add (fun j => E j + 128) p) ∧ wy = w15.drewN q)
          case atStart => exact ⟨0, 0, by omega, rfl, rfl, rfl⟩
          case round =>
            obtain ⟨p, q, hp9, rfl, rfl, rfl⟩ := hrel
            obtain ⟨sp, hsp⟩ : ∃ x, Hid (Pl.add (fun j => E j + 128) p = x) := ⟨_, hide rfl⟩
            rw [hsp.out]
            by_cases hlt : p < i
            · have hii : (p : Int) < (i : Int) := by omega
              have hi0 : (0 : Int) ≤ (p : Int) := by omega
              have hp64 : (p : Int) + 1 ≤ 61 := by have := Hin.out; omega
              have hk0 : (0 : Int) ≤ (k : Int) := by omega
              have hki : (k : Int) < (i : Int) := by have := HK2.out; omega
              obtain ⟨q1, u, hQ1, eu, cu⟩ := ri_at TA4.out.dat p (by rw [AL.out]; exact hlt)
              obtain ⟨q2, v, hQ2, ev, cv⟩ := ri_at TA4.out.dat k (by rw [AL.out]; exact HK2.out)
              obtain ⟨q3, y, hQ3, ey, cy⟩ := ri_at Tx.out.dat p (by rw [HxL.out]; exact hlt)
              obtain ⟨q4, z, hQ4, ez, cz⟩ := ri_at Tx.out.dat k (by rw [HxL.out]; exact HK2.out)
              obtain rfl : q1 = pa := Option.some.inj (hQ1.symm.trans HPA.out)
              obtain rfl : q2 = q1 := Option.some.inj (hQ2.symm.trans HPA.out)
              obtain rfl : q3 = px := Option.some.inj (hQ3.symm.trans HPX.out)
              obtain rfl : q4 = q3 := Option.some.inj (hQ4.symm.trans HPX.out)
              have hy : y = E p := Option.some.inj (ey.out.symm.trans (HxV.out p hlt))
              have hz : z = E k := Option.some.inj (ez.out.symm.trans (HxV.out k HK2.out))
              have hyz : ¬ z < y := by rw [hy, hz]; have := HK5.out p hlt; omega
              have hu : a.ds.getD p 0 = u := Sf.getD_at eu.out
              have hv : a.ds.getD k 0 = v := Sf.getD_at ev.out
              have huv : ¬ v < u := by rw [← hu, ← hv]; have := HK3.out p hlt; omega
              have HUK : Hid (p < k → u < v) := hide (fun h => by rw [← hu, ← hv]; exact HK4.out p h)
              have hyb := HK6.out p hlt
              rw [← hy] at hyb
              have hsb : 0 ≤ sp ∧ sp ≤ 15300 := by
                have h := Pl.add_le (fun j => E j + 128) 255 p (fun j hj => by have := HK6.out j (by omega); omega)
                have h0 := Pl.add_pos (fun j => E j + 128) p (fun j hj => by have := HK6.out j (by omega); omega)
                rw [hsp.out] at h h0
                omega
              have Hs1 : Hid (wrap64 (sp + y) = sp + y) := hide (by unfold wrap64; omega)
              have Hs2 : Hid (wrap64 (sp + y + 128) = sp + y + 128) := hide (by unfold wrap64; omega)
              have HS3 : Hid (Pl.add (fun j => E j + 128) (p + 1) = sp + y + 128) := hide (by
                show Pl.add (fun j => E j + 128) p + (E p + 128) = _
                rw [hsp.out, hy]
                omega)
              have a2 := A4.out.cell 2
              have x2 := Bx.out.cell 2
              have m2 := Bm.out.cell 2
              have ck := HCK.out
              have Hyz := hide hyz
              have Huv := hide huv
              clear eu ev ey ez hQ1 hQ2 hQ3 hQ4 hy hz hu hv hyb hsb hyz huv
              by_cases huv2 : u = v
              · have hbe : (u == v) = true := by simp; exact huv2
                have Hpk : Hid (¬ (p : Int) < (k : Int)) := hide (fun h => by have := HUK.out (by omega); omega)
                clear huv2
                go_wp2_with fail
                have hyz : ¬ z < y := by have := Hyz.out; omega
                have huv : ¬ v < u := by have := Huv.out; omega
                have hpk : ¬ (p : Int) < (k : Int) := by have := Hpk.out; omega
                have hd1 := decide_eq_false hyz
                have hd2 := decide_eq_false huv
                have hd3 := decide_eq_false hpk
                go_quiet (fail)
                clear hbe hpk hyz huv hd1 hd2 hd3
                have s1 := Hs1.out
                have s2 := Hs2.out
                go_wp2_with fail
                rw [s2]
                clear s1 s2
                go_roundg (i - (p + 1))
                case measure => omega
                case rel => exact ⟨p + 1, _, by omega, by go_num, by rw [HS3.out], rfl⟩
              · have hbe : (u == v) = false := by simp; exact huv2
                clear huv2
                go_wp2_with fail
                have hyz : ¬ z < y := by have := Hyz.out; omega
                have huv : ¬ v < u := by have := Huv.out; omega
                have hd1 := decide_eq_false hyz
                have hd2 := decide_eq_false huv
                go_quiet (fail)
                clear hbe hyz huv hd1 hd2
                have s1 := Hs1.out
                have s2 := Hs2.out
                go_wp2_with fail
                rw [s2]
                clear s1 s2
                go_roundg (i - (p + 1))
                case measure => omega
                case rel => exact ⟨p + 1, _, by omega, by go_num, by rw [HS3.out], rfl⟩
            · obtain rfl : i = p := by omega
              have hii : ¬ (i : Int) < (i : Int) := by omega
              have h7 := HK7.out
              rw [hsp.out] at h7
              have Hw1 : Hid (wrap64 (255 - (i : Int)) = 255 - (i : Int)) := hide (by have := Hin.out; unfold wrap64; omega)
              have Hw2 : Hid (wrap64 (255 + (i : Int)) = 255 + (i : Int)) := hide (by have := Hin.out; unfold wrap64; omega)
              have g1 : 255 - (i : Int) ≤ sp := h7.1
              have g2 : sp ≤ 255 + (i : Int) := h7.2
              clear h7
              have ww1 := Hw1.out
              have ww2 := Hw2.out
              have G1 := hide g1
              have G2 := hide g2
              go_wp2_with fail
              go_ret
              exact ⟨rfl, below_drewN HB4.out _⟩
end Go.Proofs.YtcgjnjchkachdaaDoor
