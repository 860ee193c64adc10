/-
  The law PlanAgain, walked. By an AI agent. No person has read it.
-/
import Derived.Test.YthjnkaikjjjceaaDoorPaPlnQ
namespace Go.Proofs.YthjnkaikjjjceaaDoor
open Go.RowKit
theorem terrs_five {es : List Addr} (h : es.length = 5) : ∃ ah am ar ae ak, TErrs es ah am ar ae ak := by
  match es, h with
  | [a0, a1, a2, a3, a4], _ => exact ⟨a0, a3, a1, a4, a2, rfl, rfl, rfl, rfl, rfl⟩
/-- The plan's box and the rows behind an alloc of it. -/
theorem again_box {W X : World} {es : List Addr} {p : Pn} {x : RE} {ev : Value} (hpw : Pw W.heap.size 0 X p) (hev : EV X.heap.size X es x ev) :
    Pw W.heap.size 0 (X.alloc (.cells #[.int .i64 p.size, .slice p.V p.vs.length p.vc, .slice p.C p.cs.length p.cc, .slice p.L p.ls.length p.lc, .slice p.K p.is.length p.kc, .int .i64 p.inp, .int .i64 p.out] 27)) p ∧
    Has (X.alloc (.cells #[.int .i64 p.size, .slice p.V p.vs.length p.vc, .slice p.C p.cs.length p.cc, .slice p.L p.ls.length p.lc, .slice p.K p.is.length p.kc, .int .i64 p.inp, .int .i64 p.out] 27)) X.heap.size 27 [.int .i64 p.size, .slice p.V p.vs.length p.vc, .slice p.C p.cs.length p.cc, .slice p.L p.ls.length p.lc, .slice p.K p.is.length p.kc, .int .i64 p.inp, .int .i64 p.out] ∧
    (∀ y, x = some y → IsErr ev) := by
  refine ⟨hpw.grown (World.grownBy_alloc X _ none) (NotP.none _), Has.new X _ _, ?_⟩
  rintro y rfl
  exact hev.is
theorem ReadIs.open_ {W w' : World} {es : List Addr} {bs : List Nat} {e : Ending} (h : ReadIs W w' es bs e) : ∃ (y : RE) (p : Pn) (ev : Value), Hid ((Pl.p12 bs).e = y) ∧ e = .returned (.tuple #[.agg #[.int .i64 p.size, .slice p.V p.vs.length p.vc, .slice p.C p.cs.length p.cc, .slice p.L p.ls.length p.lc, .slice p.K p.is.length p.kc, .int .i64 p.inp, .int .i64 p.out], ev]) ∧ Hid (p.pl = Pl.read bs) ∧ Pw W.heap.size 0 w' p ∧ EV w'.heap.size w' es y ev := by
  unfold ReadIs at h
  obtain ⟨y, hy⟩ : ∃ y, Hid ((Pl.p12 bs).e = y) := ⟨_, hide rfl⟩
  rw [hy.out] at h
  obtain ⟨p, ev, h1, h2, h3, h4⟩ := h
  exact ⟨y, p, ev, hy, h1, hide h2, h3, h4⟩
set_option maxRecDepth 100000 in
set_option maxHeartbeats 8000000 in
theorem planagain_c (bs : List Nat) (A : Option Addr) (cap : Nat) (es : List Addr) (w : World) (hR : Rb w A bs) (hc : bs.length ≤ cap) (h5 : es.length = 5) (hZ : Ey w es) :
    Calls Tryd.prog 4 #[.slice A bs.length cap] w fun e w' => e = .returned (.bool true) ∧ Below w.heap.size w w' := by
  obtain ⟨ah, am, ar, ae, ak, hes⟩ := terrs_five h5
  have HF := hide (first14_c es ah am ar ae ak hes w (hes.e3y hZ))
  have HR := hide hR
  have HZ := hide hZ
  have HES := hide hes
  have HC := hide hc
  clear hR hZ hes hc
  rcases Nat.lt_or_ge 2000 bs.length with hbig | hsm
  · obtain ⟨n, hn⟩ : ∃ n, Hid (bs.length = n) := ⟨_, hide rfl⟩
    rw [hn.out] at hbig ⊢
    have hb2 : (2000 : Int) < (n : Int) := by omega
    clear hbig HC
    go_enter Tryd.func4, Tryd.ntmps4
    go_wp2_with fail
    refine HF.out.mono ?_
    rintro e w1 ⟨rfl, hb⟩
    have HB := hide hb
    clear hb HF
    go_wp2_with fail
    go_ret
    exact ⟨rfl, HB.out⟩
  · have HSM := hide hsm
    have HRD := hide (fun (W : World) (hb : Below w.heap.size w W) => read_m (W := W) (A := A) (bs := bs) (cap := cap) (es := es) (ae := ae) (am := am) (ak := ak) ⟨HR.out.below hb, HZ.out.below hb, HC.out, by have := HSM.out; omega, HES.out.2.2.2.1, HES.out.2.1, HES.out.2.2.2.2⟩ ah ar HES.out)
    obtain ⟨n, hn⟩ : ∃ n, Hid (bs.length = n) := ⟨_, hide rfl⟩
    rw [hn.out] at hsm HRD ⊢
    have hb2 : ¬ (2000 : Int) < (n : Int) := by omega
    clear hsm
    go_enter Tryd.func4, Tryd.ntmps4
    go_wp2_with fail
    refine HF.out.mono ?_
    rintro e w1 ⟨rfl, hb⟩
    have HR1 := hide (HRD.out w1 hb)
    have HB := hide hb
    clear hb HF HRD
    go_wp2_with fail
    refine HR1.out.mono ?_
    rintro e w2 ⟨hri, hb2'⟩
    obtain ⟨y12, p, ev, hy12, rfl, HPL, hpw, hev⟩ := ReadIs.open_ hri
    have HB2 := hide (HB.out.trans (hb2'.mono HB.out.size))
    obtain ⟨hpw3, hbx, hie⟩ := again_box hpw hev
    have HB3 := hide (HB2.out.alloc HB2.out.size (.cells #[.int .i64 p.size, .slice p.V p.vs.length p.vc, .slice p.C p.cs.length p.cc, .slice p.L p.ls.length p.lc, .slice p.K p.is.length p.kc, .int .i64 p.inp, .int .i64 p.out] 27))
    have HIE := hide hie
    have HEV := hide hev
    cases y12 with
    | some x =>
      have hz : p.vs.length = 0 ∧ p.is.length = 0 := by
        have h := HPL.out
        unfold Pl.read at h
        rw [if_neg (by rw [hy12.out]; simp)] at h
        have h1 : p.vs.map Vw.pl = [] := congrArg PlP.vs h
        have h2 : p.is.map Ins.pl = [] := congrArg PlP.is h
        exact ⟨by rw [← List.length_map (f := Vw.pl), h1]; rfl, by rw [← List.length_map (f := Ins.pl), h2]; rfl⟩
      rw [hz.1, hz.2] at HB3 ⊢
      have hi := HIE.out x rfl
      clear HR1 hri hpw hev hb2' hpw3 hbx hie HIE HEV HPL hz HB2
      rcases hi with ⟨a, rfl⟩ | ⟨g, rfl⟩
      all_goals
        go_wp2_with fail
        go_ret
        exact ⟨rfl, HB3.out⟩
    | none =>
      obtain rfl : ev = .nilIface := HEV.out
      obtain ⟨hf, hby⟩ := Pl.again bs HR.out.1 hy12.out p HPL.out
      have houts : Pl.outs p = bs := by unfold Pl.outs; rw [if_pos hf, hby]
      have HBY : Hid (Calls Tryd.prog 10 #[.agg #[.int .i64 p.size, .slice p.V p.vs.length p.vc, .slice p.C p.cs.length p.cc, .slice p.L p.ls.length p.lc, .slice p.K p.is.length p.kc, .int .i64 p.inp, .int .i64 p.out]] (w2.alloc (.cells #[.int .i64 p.size, .slice p.V p.vs.length p.vc, .slice p.C p.cs.length p.cc, .slice p.L p.ls.length p.lc, .slice p.K p.is.length p.kc, .int .i64 p.inp, .int .i64 p.out] 27)) fun e w' => (∃ (B : Option Addr) (c : Nat), e = .returned (.tuple #[.slice B n c, .nilIface]) ∧ Hid (Calls Tryd.prog 21 #[.slice A n cap, .slice B n c] w' fun e w'' => e = .returned (.bool true) ∧ Below w'.heap.size w' w'')) ∧ Hid (Below w.heap.size w w')) := hide (by
        refine (pbytes_c es ah am ar ae ak HES.out p _ (Pl.read_in hpw3 HPL.out) (HES.out.e3y (HZ.out.below HB3.out))).mono ?_
        rintro e w' ⟨⟨b, ev, rfl, hev2, ho⟩, hb4⟩
        rw [hf] at hev2
        obtain rfl : ev = .nilIface := hev2
        rw [houts] at ho
        obtain ⟨B, c, rfl, -, -, -, hrb⟩ := own_rb ho HR.out.1
        have hB4 := HB3.out.trans (hb4.mono HB3.out.size)
        refine ⟨⟨B, c, by rw [hn.out], hide ?_⟩, hide hB4⟩
        have hl : bs.length ≤ 1000000 := by have := HSM.out; omega
        have h := samebytes_c bs bs A B cap c w' (HR.out.below hB4) hrb hl hl
        rw [decide_eq_true rfl, hn.out] at h
        exact h)
      clear HR1 hri hpw hev hb2' hpw3 hbx hie HIE HEV HPL HB2 hf hby houts
      go_wp2_with fail
      refine HBY.out.mono ?_
      rintro e w4 ⟨⟨B, c, rfl, hsb⟩, hb4⟩
      clear HBY
      go_wp2_with fail
      refine hsb.out.mono ?_
      rintro e w5 ⟨rfl, hb5⟩
      have HB5 := hide (hb4.out.trans (hb5.mono hb4.out.size))
      clear hsb hb4 hb5
      go_wp2_with fail
      go_ret
      exact ⟨rfl, HB5.out⟩
end Go.Proofs.YthjnkaikjjjceaaDoor
