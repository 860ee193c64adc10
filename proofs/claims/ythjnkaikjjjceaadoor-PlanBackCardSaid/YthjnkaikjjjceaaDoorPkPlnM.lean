/-
  plan.writable, walked. By an AI agent. No person has read it.
-/
import Derived.Test.YthjnkaikjjjceaaDoorPkPlnL
import Derived.Test.YthjnkaikjjjceaaDoorPkErrD
namespace Go.Proofs.YthjnkaikjjjceaaDoor
open Go.RowKit
/-- A tensor's fault as an error. -/
def Pl.re : Nat × Option Nat → RE
  | (0, none) => none
  | (k, none) => some (none, k - 101)
  | (_, some i) => some (some i, 1)
/-- Why a plan can't be written. -/
def Pl.fault (p : Pn) : RE := if Pl.over p = true then some (none, 3) else if Pl.broad p = true then some (none, 1) else Pl.re (Tens.first p.cs)
theorem terr_ev {w : World} {es : List Addr} {ah am ar ae ak : Addr} (hes : TErrs es ah am ar ae ak) {v : Value} {R : Nat × Option Nat} (hc : R = (0, none) ∨ R = (101, none) ∨ R = (102, none) ∨ R = (104, none) ∨ ∃ i, R = (102, some i)) (h : TErr w ah am ar v R) : EV w.heap.size w es (Pl.re R) v := by
  rcases hc with rfl | rfl | rfl | rfl | ⟨i, rfl⟩
  · exact h
  · exact ⟨ah, hes.1, h⟩
  · exact ⟨ar, hes.2.2.1, h⟩
  · exact ⟨am, hes.2.1, h⟩
  · obtain ⟨g, h1, h2⟩ := h
    exact ⟨ar, g, hes.2.2.1, h1, h2.lt, h2⟩
set_option maxRecDepth 100000 in
set_option maxHeartbeats 4000000 in
theorem writable_c (es : List Addr) (ah am ar ae ak : Addr) (hes : TErrs es ah am ar ae ak) (p : Pn) (w : World) (hP : p.In w) (hZ : E3 w ah am ar) :
    Calls Tryd.prog 26 #[.agg #[.int .i64 p.size, .slice p.V p.vs.length p.vc, .slice p.C p.cs.length p.cc, .slice p.L p.ls.length p.lc, .slice p.K p.is.length p.kc, .int .i64 p.inp, .int .i64 p.out]] w fun e w' => (∃ v, e = .returned v ∧ EV w'.heap.size w' es (Pl.fault p) v) ∧ Below w.heap.size w w' := by
  have hb0 := (Below.refl w.heap.size w).alloc (Nat.le_refl _) (.cells #[.int .i64 p.size, .slice p.V p.vs.length p.vc, .slice p.C p.cs.length p.cc, .slice p.L p.ls.length p.lc, .slice p.K p.is.length p.kc, .int .i64 p.inp, .int .i64 p.out] 27)
  have hrow := plan_box p w
  have HT := hide (fun (W : World) (hb : Below w.heap.size w W) => toomany_c p W (hP.below hb))
  have HI := hide (fun (W : World) (hb : Below w.heap.size w W) => inrange_c p W (hP.below hb))
  have HEZ := hide (fun (W : World) (hb : Below w.heap.size w W) => hZ.below hb)
  have HTV := hide (fun (t : Ten) (ht : t ∈ p.cs) (W : World) (hb : Below w.heap.size w W) => tvalid_c t.zs t.ds t.P t.D t.cap t.dcap t.u ah am ar W ((hP.cs t ht).shp.below hb) ((hP.cs t ht).dat.below hb) (Nat.le_trans (hP.cs t ht).ls (by omega)) (Nat.le_trans (hP.cs t ht).ld (by omega)) (hZ.below hb))
  have HC := hide (fun (W : World) (hb : Below w.heap.size w W) => hP.C.below hb)
  have HLC := hide hP.lc
  obtain ⟨nv, hnv⟩ : ∃ y, Hid (p.vs.length = y) := ⟨_, hide rfl⟩
  obtain ⟨nc, hnc⟩ : ∃ y, Hid (p.cs.length = y) := ⟨_, hide rfl⟩
  obtain ⟨nl, hnl⟩ : ∃ y, Hid (p.ls.length = y) := ⟨_, hide rfl⟩
  obtain ⟨ni, hni⟩ : ∃ y, Hid (p.is.length = y) := ⟨_, hide rfl⟩
  obtain ⟨b1, hb1⟩ : ∃ y, Hid (Pl.over p = y) := ⟨_, hide rfl⟩
  obtain ⟨b2, hb2⟩ : ∃ y, Hid (Pl.broad p = y) := ⟨_, hide rfl⟩
  have hF : Pl.fault p = if b1 = true then some (none, 3) else if b2 = true then some (none, 1) else Pl.re (Tens.first p.cs) := by unfold Pl.fault; rw [hb1.out, hb2.out]
  obtain ⟨F, hFF⟩ : ∃ y, Hid (Pl.fault p = y) := ⟨_, hide rfl⟩
  rw [hFF.out] at hF ⊢
  have HF := hide hF
  rw [hnv.out, hnc.out, hnl.out, hni.out] at hb0 hrow ⊢
  rw [hnv.out, hnc.out, hnl.out, hni.out, hb1.out] at HT
  rw [hnv.out, hnc.out, hnl.out, hni.out, hb2.out] at HI
  rw [hnc.out] at HLC
  have HB0 := hide hb0
  have HRW := hide hrow
  have HT1 := hide (HT.out _ hb0)
  clear hP hb0 hrow hZ HT hF hFF
  go_enter Tryd.func26, Tryd.ntmps26
  go_wp2_with fail
  refine HT1.out.mono ?_
  rintro e w2 ⟨rfl, hw2⟩
  have hr2 := HRW.out.below hw2 HRW.out.lt
  have hb2' := HB0.out.trans (hw2.mono HB0.out.size)
  have HB2 := hide hb2'
  have HR2 := hide hr2
  have c0 : w2.cell? ⟨w.heap.size, 0, none⟩ = some (.int .i64 p.size) := hr2.cell 0
  have c1 : w2.cell? ⟨w.heap.size, 1, none⟩ = some (.slice p.V nv p.vc) := hr2.cell 1
  have c2 : w2.cell? ⟨w.heap.size, 2, none⟩ = some (.slice p.C nc p.cc) := hr2.cell 2
  have c3 : w2.cell? ⟨w.heap.size, 3, none⟩ = some (.slice p.L nl p.lc) := hr2.cell 3
  have c4 : w2.cell? ⟨w.heap.size, 4, none⟩ = some (.slice p.K ni p.kc) := hr2.cell 4
  have c5 : w2.cell? ⟨w.heap.size, 5, none⟩ = some (.int .i64 p.inp) := hr2.cell 5
  have c6 : w2.cell? ⟨w.heap.size, 6, none⟩ = some (.int .i64 p.out) := hr2.cell 6
  have em : w2.cell? ⟨1, 0, none⟩ = some (errv am) := (HEZ.out w2 hb2').2.1.1
  have HI2 := hide (HI.out w2 hb2')
  clear HT1 hw2 hr2 hb2' HRW HB0 HI
  cases b1
  case true =>
    rw [if_pos rfl] at HF
    go_wp2_with fail
    go_ret
    exact ⟨⟨_, rfl, by rw [HF.out]; exact ⟨am, hes.2.1, rfl⟩⟩, HB2.out⟩
  case false =>
  rw [if_neg (by decide)] at HF
  clear em
  go_wp2_with fail
  refine HI2.out.mono ?_
  rintro e w3 ⟨rfl, hw3⟩
  have hr3 := HR2.out.below hw3 HR2.out.lt
  have hb3' := HB2.out.trans (hw3.mono HB2.out.size)
  have HB3 := hide hb3'
  have HR3 := hide hr3
  have er : w3.cell? ⟨2, 0, none⟩ = some (errv ar) := (HEZ.out w3 hb3').2.2.1
  clear c0 c1 c2 c3 c4 c5 c6 HI2 hw3 HB2 HR2 hb3'
  have c2 : w3.cell? ⟨w.heap.size, 2, none⟩ = some (.slice p.C nc p.cc) := hr3.cell 2
  clear hr3
  cases b2
  case true =>
    rw [if_pos rfl] at HF
    go_wp2_with fail
    go_ret
    exact ⟨⟨_, rfl, by rw [HF.out]; exact ⟨ar, hes.2.2.1, rfl⟩⟩, HB3.out⟩
  case false =>
  rw [if_neg (by decide)] at HF
  clear er
  go_wp2_with fail
  go_loopw [16] (fun k wr => ∃ i : Nat, i ≤ nc ∧ k = .int .i64 i ∧ Hid (Below w.heap.size w wr) ∧ Hid (∀ (j : Nat) x, j < i → p.cs[j]? = some x → x.fault = (0, none))) (fun k _ => nc - (intOf k).toNat)
  case atStart => exact ⟨0, by omega, rfl, HB3, hide (fun j x hj => by omega)⟩
  case round =>
    clear HB3 HR3 c2
    obtain ⟨i, hi, rfl, HB, HK⟩ := hrel
    by_cases hlt : i < nc
    · have hii : (i : Int) < (nc : Int) := by omega
      have hnb : nc ≤ 1000000 := HLC.out
      obtain ⟨ad, t, hBad, had, hd, c0, c1, c2⟩ := row_ten (HC.out wr HB.out) i (by rw [hnc.out]; exact hlt)
      rw [hBad]
      have hb1 := HB.out.alloc HB.out.size (.cells #[.slice t.P t.zs.length t.cap, .bool t.u, .slice t.D t.ds.length t.dcap] 70)
      have HB1 := hide hb1
      have HV := hide (HTV.out t (List.mem_of_getElem? hd.out) _ hb1)
      clear hb1 had HB
      go_wp2_with fail
      refine HV.out.mono ?_
      rintro e w4 ⟨⟨v, rfl, hv⟩, hw4⟩
      have HB4 := hide (HB1.out.trans (hw4.mono HB1.out.size))
      have hev := terr_ev hes (Tens.fault_cases t.zs t.u t.ds) hv
      have HEV := hide hev
      clear HV hv hw4 HB1 c0 c1 c2 hev
      by_cases hf : t.fault = (0, none)
      · have h0 := HEV.out
        rw [show Tens.fault t.zs t.u t.ds = (0, none) from hf] at h0
        obtain rfl : v = .nilIface := h0
        have HKK : Hid (∀ (j : Nat) x, j < i + 1 → p.cs[j]? = some x → x.fault = (0, none)) := hide (fun j x hj hx => by
          rcases Nat.lt_or_ge j i with h | h
          · exact HK.out j x h hx
          · obtain rfl : j = i := by omega
            rw [hd.out] at hx
            rw [← Option.some.inj hx]
            exact hf)
        clear hf HEV HK
        go_wp2_with fail
        go_roundw
        case rel => exact ⟨i + 1, by omega, by go_num, HB4, HKK⟩
        case measure => simp [intOf]; omega
      · have hfst : Tens.first p.cs = t.fault := Tens.first_at p.cs i t hd.out HK.out hf
        rw [hfst] at HF
        have HEF : Hid (EV w4.heap.size w4 es F v) := hide (by rw [HF.out]; exact HEV.out)
        have hne : ∃ x, F = some x := by
          rw [HF.out]
          have hcs := Tens.fault_cases t.zs t.u t.ds
          have hf' : Tens.fault t.zs t.u t.ds ≠ (0, none) := hf
          show ∃ x, Pl.re (Tens.fault t.zs t.u t.ds) = some x
          rcases hcs with h | h | h | h | ⟨k, h⟩
          · exact absurd h hf'
          all_goals
            rw [h]
            exact ⟨_, rfl⟩
        obtain ⟨x, hx⟩ := hne
        have hie : IsErr v := EV.is (by rw [← hx]; exact HEF.out)
        clear hfst hf hx HK HEV HF
        rcases hie with ⟨a, rfl⟩ | ⟨g, rfl⟩
        all_goals
          go_wp2_with fail
          go_ret
          exact ⟨⟨_, rfl, HEF.out⟩, HB4.out⟩
    · obtain rfl : i = nc := by omega
      have hfst : Tens.first p.cs = (0, none) := Tens.first_none p.cs fun j x hx => HK.out j x (by have := (List.getElem?_eq_some_iff.1 hx).1; rw [hnc.out] at this; exact this) hx
      rw [hfst] at HF
      clear hfst HK
      go_wp2_with fail
      go_ret
      exact ⟨⟨_, rfl, by rw [HF.out]; rfl⟩, HB.out⟩
end Go.Proofs.YthjnkaikjjjceaaDoor
