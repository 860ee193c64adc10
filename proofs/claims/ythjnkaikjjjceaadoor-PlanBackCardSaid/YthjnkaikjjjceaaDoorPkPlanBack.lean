/-
  The law PlanBack, walked. By an AI agent. No person has read it.
-/
import Derived.Test.YthjnkaikjjjceaaDoorPkPlnWg
import Derived.Test.YthjnkaikjjjceaaDoorPkPlnWd
import Derived.Test.YthjnkaikjjjceaaDoorPkPlnWa
import Derived.Test.YthjnkaikjjjceaaDoorPkPlnQ
import Derived.Test.YthjnkaikjjjceaaDoorPkErrD
import Derived.Test.YthjnkaikjjjceaaDoorPkTenJ
import Derived.Test.YthjnkaikjjjceaaDoorPkTenBack0
namespace Go.Proofs.YthjnkaikjjjceaaDoor
open Go.RowKit
theorem Pn.Lies.under {w w' : World} {p : Pn} (h : p.Lies w) (hb : Below w.heap.size w w') : p.Lies w' :=
  ⟨h.V.below hb, fun v hv => (h.vs v hv).below hb, h.C.below hb, fun v hv => ⟨(h.cs v hv).1.below hb, (h.cs v hv).2.below hb⟩, h.L.below hb, fun v hv => (h.ls v hv).below hb, h.K.below hb, fun v hv => ⟨(h.is v hv).1.below hb, (h.is v hv).2.below hb⟩⟩
theorem Rb.tail {w : World} {A : Option Addr} {bs : List Nat} (h : Rb w A bs) (cap lo : Nat) (hc : bs.length ≤ cap) {A2 : Option Addr} (hA2 : (if cap = lo then A else A.map (·.add (lo * 1))) = A2) : Rb w A2 (bs.drop lo) := by
  by_cases hl : lo < bs.length
  · rw [if_neg (by omega)] at hA2
    refine ⟨fun b hb => h.1 b (List.mem_of_mem_drop hb), fun _ => ?_⟩
    obtain ⟨ad, rfl, h1, h2⟩ := h.2 (by rintro rfl; simp at hl)
    rw [← hA2]
    refine ⟨ad.add (lo * 1), rfl, by rw [ad_block]; exact h1, fun i b hi => ?_⟩
    rw [List.getElem?_drop] at hi
    rw [Addr.add_add, Nat.mul_one]
    exact h2 _ b hi
  · rw [List.drop_eq_nil_of_le (by omega)]
    exact Rb.nil _ _
theorem Pl.bytes_span (p : Pn) (hf : p.few) : 22 ≤ (Pl.bytes p.pl).length ∧ (Pl.bytes p.pl).length ≤ 900000 := by
  have h1 := flat_bound Pl.vbytes 21 (p.vs.map Vw.pl) (fun x hx => by
    obtain ⟨v, hv, rfl⟩ := List.mem_map.1 hx
    have := hf.vs v hv
    unfold Pl.vbytes
    rw [List.length_append, Pk.le_length, Pk.desc_length]
    show 4 + (1 + v.d.zs.length * 2) ≤ 21
    omega)
  have h2 := flat_bound Pl.tbytes 1217 (p.cs.map Ten.pl) (fun x hx => by
    obtain ⟨t, ht, rfl⟩ := List.mem_map.1 hx
    have h := hf.cs t ht
    have hz := h.1
    have hd := h.2
    show (Tens.bytes t.zs t.u t.ds).length ≤ 1217
    unfold Tens.bytes
    split
    · rw [List.length_append, Pk.desc_length, Pk.all_length]
      have h6 : Tens.each t.u ≤ 4 := by unfold Tens.each; split <;> omega
      have h7 : t.ds.length * Tens.each t.u ≤ t.ds.length * 4 := Nat.mul_le_mul_left _ h6
      omega
    · exact Nat.zero_le _)
  have h3 := flat_bound Pl.dbytes 17 (p.ls.map Dsc.pl) (fun x hx => by
    obtain ⟨d, hd, rfl⟩ := List.mem_map.1 hx
    have := hf.ls d hd
    unfold Pl.dbytes
    rw [Pk.desc_length]
    show 1 + d.zs.length * 2 ≤ 17
    omega)
  have h4 := flat_bound InP.bytes 95 (p.is.map Ins.pl) (fun x hx => by
    obtain ⟨n, hn, rfl⟩ := List.mem_map.1 hx
    have h := hf.is n hn
    have h5 := h.1
    have h6 := h.2
    rw [InP.bytes_len]
    show 15 + n.is.length * 4 + n.gs.length * 4 ≤ 95
    omega)
  rw [List.length_map] at h1 h2 h3 h4
  have a1 := hf.lv
  have a2 := hf.lc
  have a3 := hf.ll
  have a4 := hf.li
  have he : (Pl.bytes p.pl).length = 22 + ((p.vs.map Vw.pl).flatMap Pl.vbytes).length + ((p.cs.map Ten.pl).flatMap Pl.tbytes).length + ((p.ls.map Dsc.pl).flatMap Pl.dbytes).length + ((p.is.map Ins.pl).flatMap InP.bytes).length := by
    unfold Pl.bytes Pl.body Pn.pl Pl.code
    simp only [List.length_append, Pk.le_length, List.length_cons, List.length_nil]
    omega
  rw [he]
  omega
theorem bk_held {W W' : World} {S0 S2 m4 kc i na nb H : Nat} {ad : Addr} {n t : Ins} {ps : List Value} (hb : Below W.heap.size W W') (had : ad.block < H) (hH : H ≤ W.heap.size) (hn : Has W S2 48 [.int .i64 n.op, .int .i64 n.dst, .slice n.I na n.ic, .slice n.G nb n.gc, .int .i64 n.fr, .int .i64 n.to]) (hp : Has W S0 27 ps)
    (h : W.cell? ⟨S2, 0, none⟩ = some (.int .i64 n.op) ∧ W.cell? ⟨S2, 1, none⟩ = some (.int .i64 n.dst) ∧ W.cell? ⟨S2, 2, none⟩ = some (.slice n.I na n.ic) ∧ W.cell? ⟨S2, 3, none⟩ = some (.slice n.G nb n.gc) ∧ W.cell? ⟨S2, 4, none⟩ = some (.int .i64 n.fr) ∧ W.cell? ⟨S2, 5, none⟩ = some (.int .i64 n.to) ∧ W.cell? ⟨S0, 4, none⟩ = some (.slice (some ad) m4 kc) ∧ W.cell? (ad.add (i * 6)) = some (.int .i64 t.op) ∧ W.cell? ⟨(ad.add (i * 6)).block, (ad.add (i * 6)).off + 1, none⟩ = some (.int .i64 t.dst) ∧ W.cell? ⟨(ad.add (i * 6)).block, (ad.add (i * 6)).off + 2, none⟩ = some (.slice t.I na t.ic) ∧ W.cell? ⟨(ad.add (i * 6)).block, (ad.add (i * 6)).off + 3, none⟩ = some (.slice t.G nb t.gc) ∧ W.cell? ⟨(ad.add (i * 6)).block, (ad.add (i * 6)).off + 4, none⟩ = some (.int .i64 t.fr) ∧ W.cell? ⟨(ad.add (i * 6)).block, (ad.add (i * 6)).off + 5, none⟩ = some (.int .i64 t.to)) : W'.cell? ⟨S2, 0, none⟩ = some (.int .i64 n.op) ∧ W'.cell? ⟨S2, 1, none⟩ = some (.int .i64 n.dst) ∧ W'.cell? ⟨S2, 2, none⟩ = some (.slice n.I na n.ic) ∧ W'.cell? ⟨S2, 3, none⟩ = some (.slice n.G nb n.gc) ∧ W'.cell? ⟨S2, 4, none⟩ = some (.int .i64 n.fr) ∧ W'.cell? ⟨S2, 5, none⟩ = some (.int .i64 n.to) ∧ W'.cell? ⟨S0, 4, none⟩ = some (.slice (some ad) m4 kc) ∧ W'.cell? (ad.add (i * 6)) = some (.int .i64 t.op) ∧ W'.cell? ⟨(ad.add (i * 6)).block, (ad.add (i * 6)).off + 1, none⟩ = some (.int .i64 t.dst) ∧ W'.cell? ⟨(ad.add (i * 6)).block, (ad.add (i * 6)).off + 2, none⟩ = some (.slice t.I na t.ic) ∧ W'.cell? ⟨(ad.add (i * 6)).block, (ad.add (i * 6)).off + 3, none⟩ = some (.slice t.G nb t.gc) ∧ W'.cell? ⟨(ad.add (i * 6)).block, (ad.add (i * 6)).off + 4, none⟩ = some (.int .i64 t.fr) ∧ W'.cell? ⟨(ad.add (i * 6)).block, (ad.add (i * 6)).off + 5, none⟩ = some (.int .i64 t.to) := by
  obtain ⟨-, -, -, -, -, -, h4, b0, b1, b2, b3, b4, b5⟩ := h
  obtain ⟨a0, a1, a2, a3, a4, a5⟩ := six_held (hn.below hb hn.lt)
  have hl : ∀ j, (⟨(ad.add (i * 6)).block, j, none⟩ : Addr).block < W.heap.size := fun j => by show (ad.add (i * 6)).block < _; rw [ad_block]; exact Nat.lt_of_lt_of_le had hH
  have hl0 : (ad.add (i * 6)).block < W.heap.size := by rw [ad_block]; exact Nat.lt_of_lt_of_le had hH
  have hl4 : (⟨S0, 4, none⟩ : Addr).block < W.heap.size := hp.lt
  exact ⟨a0, a1, a2, a3, a4, a5, (hb.cell hl4).trans h4, (hb.cell hl0).trans b0, (hb.cell (hl _)).trans b1, (hb.cell (hl _)).trans b2, (hb.cell (hl _)).trans b3, (hb.cell (hl _)).trans b4, (hb.cell (hl _)).trans b5⟩
/-- What Read answers. -/
def BackQ (es : List Addr) (x : RE) (p : Option Pn) (W w' : World) (e : Ending) : Prop := ∃ (q : Pn) (ev : Value), e = .returned (.tuple #[.agg #[.int .i64 q.size, .slice q.V q.vs.length q.vc, .slice q.C q.cs.length q.cc, .slice q.L q.ls.length q.lc, .slice q.K q.is.length q.kc, .int .i64 q.inp, .int .i64 q.out], ev]) ∧ Hid (EV w'.heap.size w' es x ev) ∧ Hid (∀ r, p = some r → q.pl = r.pl ∧ Pw W.heap.size 0 w' q) ∧ Hid (Below W.heap.size W w')
theorem back_read (es : List Addr) (ah am ar ae ak : Addr) (hes : TErrs es ah am ar ae ak) (bs : List Nat) (A : Option Addr) (cap : Nat) (W : World) (hr : Rb W A bs) (hz : Ey W es) (hc : bs.length ≤ cap) (hl : bs.length ≤ 1000000) (x : RE) (hx : (Pl.p12 bs).e = x) (r : Option Pn) (hp : ∀ s, r = some s → Pl.read bs = s.pl) :
    Calls Tryd.prog 11 #[.slice A bs.length cap] W fun e w' => BackQ es x r W w' e := by
  refine (read_m (W := W) (A := A) (bs := bs) (cap := cap) (es := es) (ae := ae) (am := am) (ak := ak) ⟨hr, hz, hc, hl, hes.2.2.2.1, hes.2.1, hes.2.2.2.2⟩ ah ar hes).mono ?_
  rintro e w' ⟨hri, hb⟩
  obtain ⟨y, q, ev, hy, rfl, HPL, hpw, hev⟩ := ReadIs.open_ hri
  obtain rfl : x = y := hx.symm.trans hy.out
  exact ⟨q, ev, rfl, hide hev, hide fun s hs => ⟨HPL.out.trans (hp s hs), hpw⟩, hide hb⟩
set_option maxRecDepth 100000 in
set_option maxHeartbeats 16000000 in
theorem planback_c (p : Pn) (cut : Int) (es : List Addr) (w : World) (hp : p.Lies w) (hE : Ez w es) :
    Calls Tryd.prog 3 #[.agg #[.int .i64 p.size, .slice p.V p.vs.length p.vc, .slice p.C p.cs.length p.cc, .slice p.L p.ls.length p.lc, .slice p.K p.is.length p.kc, .int .i64 p.inp, .int .i64 p.out], .int .i64 cut] w fun e w' => e = .returned (.bool true) ∧ Below w.heap.size w w' := by
  obtain ⟨ah, am, ar, ae, ak, hes⟩ := terrs_of hE
  have HES := hide hes
  have HZ := hide hE
  have HF := hide (fun (W : World) (hb : Below w.heap.size w W) => first14_c es ah am ar ae ak hes W (hes.e3y (hE.below hb).ey))
  have HW := hide (fun (W : World) (hb : Below w.heap.size w W) => worldplan_c p W (hp.under hb))
  have HIN := hide (fun (hf : p.few) (W : World) (hb : Below w.heap.size w W) => (hp.in_ hf).below hb)
  have HBY := hide (fun (hf : p.few) (W : World) (hb : Below w.heap.size w W) => pbytes_c es ah am ar ae ak hes p W ((hp.in_ hf).below hb) (hes.e3y (hE.below hb).ey))
  have HCO := hide (fun (hf : p.few) (hft : Pl.fault p = none) (W : World) (hb : Below w.heap.size w W) => pcode_c es ah am ar ae ak hes p W ((hp.in_ hf).below hb) (hes.e3y (hE.below hb).ey) hft)
  have HSM := hide (fun (hf : p.few) (q : Pn) (W : World) (hb : Below w.heap.size w W) (hq : q.In W) => psame_c p q W ((hp.in_ hf).below hb) hq)
  obtain ⟨m1, hm1⟩ : ∃ n, Hid (p.vs.length = n) := ⟨_, hide rfl⟩
  obtain ⟨m2, hm2⟩ : ∃ n, Hid (p.cs.length = n) := ⟨_, hide rfl⟩
  obtain ⟨m3, hm3⟩ : ∃ n, Hid (p.ls.length = n) := ⟨_, hide rfl⟩
  obtain ⟨m4, hm4⟩ : ∃ n, Hid (p.is.length = n) := ⟨_, hide rfl⟩
  rw [hm1.out, hm2.out, hm3.out, hm4.out] at HW HBY HSM ⊢
  rw [hm4.out] at HCO
  obtain ⟨X0, hX0⟩ : ∃ X, Hid (w.alloc (.cells #[.int .i64 p.size, .slice p.V m1 p.vc, .slice p.C m2 p.cc, .slice p.L m3 p.lc, .slice p.K m4 p.kc, .int .i64 p.inp, .int .i64 p.out] 27) = X) := ⟨_, hide rfl⟩
  have HB0 : Hid (Below w.heap.size w X0) := hide (by rw [← hX0.out]; exact (Below.refl _ w).alloc (Nat.le_refl _) _)
  have HP0 : Hid (Has X0 w.heap.size 27 [.int .i64 p.size, .slice p.V m1 p.vc, .slice p.C m2 p.cc, .slice p.L m3 p.lc, .slice p.K m4 p.kc, .int .i64 p.inp, .int .i64 p.out]) := hide (by rw [← hX0.out]; exact Has.new w 27 [.int .i64 p.size, .slice p.V m1 p.vc, .slice p.C m2 p.cc, .slice p.L m3 p.lc, .slice p.K m4 p.kc, .int .i64 p.inp, .int .i64 p.out])
  have HF0 := hide (HF.out X0 HB0.out)
  clear hp hE hes HF
  go_enter Tryd.func3, Tryd.ntmps3
  go_wp2_with fail
  rw [hX0.out]
  refine HF0.out.mono ?_
  rintro e w1 ⟨rfl, hb⟩
  have HB1 := hide (HB0.out.trans (hb.mono HB0.out.size))
  have HP1 := hide (HP0.out.below hb HP0.out.lt)
  have HW1 := hide (HW.out w1 HB1.out)
  have y0 : w1.cell? ⟨w.heap.size, 0, none⟩ = some (.int .i64 p.size) := HP1.out.cell 0
  have y1 : w1.cell? ⟨w.heap.size, 1, none⟩ = some (.slice p.V m1 p.vc) := HP1.out.cell 1
  have y2 : w1.cell? ⟨w.heap.size, 2, none⟩ = some (.slice p.C m2 p.cc) := HP1.out.cell 2
  have y3 : w1.cell? ⟨w.heap.size, 3, none⟩ = some (.slice p.L m3 p.lc) := HP1.out.cell 3
  have y4 : w1.cell? ⟨w.heap.size, 4, none⟩ = some (.slice p.K m4 p.kc) := HP1.out.cell 4
  have y5 : w1.cell? ⟨w.heap.size, 5, none⟩ = some (.int .i64 p.inp) := HP1.out.cell 5
  have y6 : w1.cell? ⟨w.heap.size, 6, none⟩ = some (.int .i64 p.out) := HP1.out.cell 6
  clear HF0 HB0 HP0 hb HW hX0
  go_wp2_with fail
  refine HW1.out.mono ?_
  clear y0 y1 y2 y3 y4 y5 y6
  rintro e w2 ⟨⟨bf, rfl, hfew⟩, hb⟩
  have HFEW := hide hfew
  have HB2 := hide (HB1.out.trans (hb.mono HB1.out.size))
  have HP2 := hide (HP1.out.below hb HP1.out.lt)
  clear hb hfew HB1 HP1 HW1
  cases bf
  · go_wp2_with fail
    go_ret
    exact ⟨rfl, HB2.out⟩
  have HFW := hide (HFEW.out rfl)
  have HBY2 := hide (HBY.out HFW.out w2 HB2.out)
  have y0 : w2.cell? ⟨w.heap.size, 0, none⟩ = some (.int .i64 p.size) := HP2.out.cell 0
  have y1 : w2.cell? ⟨w.heap.size, 1, none⟩ = some (.slice p.V m1 p.vc) := HP2.out.cell 1
  have y2 : w2.cell? ⟨w.heap.size, 2, none⟩ = some (.slice p.C m2 p.cc) := HP2.out.cell 2
  have y3 : w2.cell? ⟨w.heap.size, 3, none⟩ = some (.slice p.L m3 p.lc) := HP2.out.cell 3
  have y4 : w2.cell? ⟨w.heap.size, 4, none⟩ = some (.slice p.K m4 p.kc) := HP2.out.cell 4
  have y5 : w2.cell? ⟨w.heap.size, 5, none⟩ = some (.int .i64 p.inp) := HP2.out.cell 5
  have y6 : w2.cell? ⟨w.heap.size, 6, none⟩ = some (.int .i64 p.out) := HP2.out.cell 6
  clear HFEW HBY
  go_wp2_with fail
  refine HBY2.out.mono ?_
  clear y0 y1 y2 y3 y4 y5 y6 HBY2
  rintro e w3 ⟨⟨bv, ev, rfl, hev, ho⟩, hb⟩
  have HB3 := hide (HB2.out.trans (hb.mono HB2.out.size))
  have HP3 := hide (HP2.out.below hb HP2.out.lt)
  clear HB2 HP2 hb
  by_cases hft : Pl.fault p = none
  case neg =>
    obtain ⟨x, hx⟩ : ∃ x, Pl.fault p = some x := Option.ne_none_iff_exists'.1 hft
    have houts : Pl.outs p = [] := by unfold Pl.outs; rw [if_neg hft]
    rw [houts] at ho
    rw [hx] at hev
    have hi := hev.is
    obtain ⟨B, c, rfl, -⟩ := own_row ho
    clear HCO HSM HIN HFW HP3 hev ho hx hft houts
    rcases hi with ⟨a, rfl⟩ | ⟨g, rfl⟩
    all_goals
      go_wp2_with fail
      go_ret
      exact ⟨rfl, HB3.out⟩
  have HFT := hide hft
  rw [hft] at hev
  obtain rfl : ev = .nilIface := hev
  have houts : Pl.outs p = Pl.bytes p.pl := by unfold Pl.outs; rw [if_pos hft]
  rw [houts] at ho
  obtain ⟨B, cb, rfl, -, hcc, -, hrb⟩ := own_rb ho (Pl.bytes_less _)
  have HCB := hide hcc
  have HR := hide hrb
  have HM2 : Hid (22 ≤ (Pl.bytes p.pl).length ∧ (Pl.bytes p.pl).length ≤ 900000) := hide (Pl.bytes_span p HFW.out)
  have HRD1 := hide (fun (W : World) (hb : Below w3.heap.size w3 W) => back_read es ah am ar ae ak HES.out (Pl.bytes p.pl) B cb W (hrb.below hb) ((HZ.out.below HB3.out).below hb).ey hcc (by have := HM2.out.2; omega) none (Pl.back p hft).1 (some p) (fun s hs => by rw [← Option.some.inj hs]; exact (Pl.back p hft).2))
  have HRD2 := hide (fun (W : World) (A : Option Addr) (c : Nat) (hb : Below w3.heap.size w3 W) (hr : Rb W A (Pl.bytes p.pl ++ [0])) (hc : (Pl.bytes p.pl ++ [0]).length ≤ c) => back_read es ah am ar ae ak HES.out (Pl.bytes p.pl ++ [0]) A c W hr ((HZ.out.below HB3.out).below hb).ey hc (by rw [List.length_append, List.length_singleton]; have := HM2.out.2; omega) (some (some (Pl.bytes p.pl).length, 3)) (Pl.back_more p hft 0 []) none (fun s hs => by cases hs))
  have HRD3 : Hid (∀ (k : Nat) (W : World), k < (Pl.bytes p.pl).length → Below w3.heap.size w3 W → Calls Tryd.prog 11 #[.slice B k cb] W fun e w' => BackQ es (some (none, 4)) none W w' e) := hide (fun k W hk hb => by
    have hlk : ((Pl.bytes p.pl).take k).length = k := by rw [List.length_take]; omega
    have h := back_read es ah am ar ae ak HES.out ((Pl.bytes p.pl).take k) B cb W ((hrb.below hb).take k) ((HZ.out.below HB3.out).below hb).ey (by omega) (by rw [hlk]; have := HM2.out.2; omega) (some (none, 4)) (Pl.cut p hft k hk) none (fun s hs => by cases hs)
    rw [hlk] at h
    exact h)
  have HLT0 : Hid (∀ b ∈ Pl.bytes p.pl ++ [0], b < 256) := hide (fun b hb => by
    rcases List.mem_append.1 hb with hb | hb
    · exact Pl.bytes_less _ b hb
    · rw [List.mem_singleton.1 hb]; omega)
  have HRF := hide (fun (W : World) (hb : Below w3.heap.size w3 W) => rbytes_c (Pl.bytes p.pl) B cb W (hrb.below hb) (by have := HM2.out.2; omega))
  obtain ⟨BS, hBS⟩ : ∃ BS, Hid (Pl.bytes p.pl = BS) := ⟨_, hide rfl⟩
  rw [List.length_append, List.length_singleton, hBS.out] at HRD2
  rw [hBS.out] at HLT0 HR HM2 HRD1 HRD3 HRF hcc
  rw [hBS.out]
  have HLT := HLT0
  obtain ⟨m, hm⟩ : ∃ m, Hid (BS.length = m) := ⟨_, hide rfl⟩
  rw [hm.out] at HM2 HRD1 HRD2 HRD3 HRF hcc ⊢
  have HCB2 := hide hcc
  have HR1 := hide (HRD1.out w3 (Below.refl _ _))
  clear ho hft houts hrb hcc HCB
  go_wp2_with fail
  refine HR1.out.mono ?_
  rintro e w4 ⟨q, ev, rfl, hev, hpl, hb⟩
  obtain rfl : ev = .nilIface := hev.out
  obtain ⟨hq1, hq2⟩ := hpl.out p rfl
  have HQ := hide hq1
  have e1 : q.vs.length = p.vs.length := len_of_map (congrArg PlP.vs hq1)
  have e2 : q.cs.length = p.cs.length := len_of_map (congrArg PlP.cs hq1)
  have e3 : q.ls.length = p.ls.length := len_of_map (congrArg PlP.ls hq1)
  have e4 : q.is.length = p.is.length := len_of_map (congrArg PlP.is hq1)
  have hqin : q.In w4 := hq2.in_ (by have := HFW.out.lv; omega) (by have := HFW.out.lc; omega) (by have := HFW.out.ll; omega) (by have := HFW.out.li; omega)
  obtain ⟨S1, hS1⟩ : ∃ S, Hid (w4.heap.size = S) := ⟨_, hide rfl⟩
  have hal := (Below.refl w4.heap.size w4).alloc (Nat.le_refl _) (.cells #[.int .i64 q.size, .slice q.V q.vs.length q.vc, .slice q.C q.cs.length q.cc, .slice q.L q.ls.length q.lc, .slice q.K q.is.length q.kc, .int .i64 q.inp, .int .i64 q.out] 27)
  have HQ1 := Has.new w4 27 [.int .i64 q.size, .slice q.V q.vs.length q.vc, .slice q.C q.cs.length q.cc, .slice q.L q.ls.length q.lc, .slice q.K q.is.length q.kc, .int .i64 q.inp, .int .i64 q.out]
  rw [hS1.out] at HQ1
  obtain ⟨X4, hX4⟩ : ∃ X, Hid (w4.alloc (.cells #[.int .i64 q.size, .slice q.V q.vs.length q.vc, .slice q.C q.cs.length q.cc, .slice q.L q.ls.length q.lc, .slice q.K q.is.length q.kc, .int .i64 q.inp, .int .i64 q.out] 27) = X) := ⟨_, hide rfl⟩
  rw [hX4.out] at hal HQ1
  have HQI := hide (hqin.below hal)
  have HB4 := hide ((HB3.out.trans (hb.out.mono HB3.out.size)).trans (hal.mono (HB3.out.trans (hb.out.mono HB3.out.size)).size))
  have HC4 : Hid (Below w3.heap.size w3 X4) := hide (hb.out.trans (hal.mono hb.out.size))
  have HP4 := hide ((HP3.out.below hb.out HP3.out.lt).below hal (HP3.out.below hb.out HP3.out.lt).lt)
  have HQ4 := hide HQ1
  have HRF4 := hide (HRF.out X4 HC4.out)
  have hltp : w.heap.size < w3.heap.size := HP3.out.lt
  clear HR1 HRD1 HRF hq1 hq2 e1 e2 e3 e4 hqin hal HQ1 hev hpl hb HP3
  go_wp2_with fail
  rw [hS1.out, hX4.out]
  refine HRF4.out.mono ?_
  clear hS1 hX4
  rintro e w5 ⟨⟨v5, rfl, ho5, hn5⟩, hb⟩
  have HXA := hide (hb.alloc hb.size (.cells #[.int .u8 0] 5))
  have hx4 : X4.heap.size ≤ w5.heap.size := hb.size
  have HOA := hide (ho5.alloc (.cells #[.int .u8 0] 5))
  have HNR : Hid (Rb (w5.alloc (.cells #[.int .u8 0] 5)) (some ⟨w5.heap.size, 0, none⟩) [0]) := hide ((Has.new w5 5 (u8s [0])).rb (by simp))
  have hna := hide (show m + 1 ≤ 1000000000000 by have := HM2.out.2; omega)
  have hsA : Hid (X4.heap.size ≤ (w5.alloc (.cells #[.int .u8 0] 5)).heap.size) := hide (by simp; omega)
  clear HRF4 hb ho5 hn5 hltp hx4
  go_wp2_with (at_builtin; refine wpList_append_bs rfl (.tmp 49) (.tmp 50) rfl X4.heap.size _ m (u8s BS) rfl HOA.out (some ⟨w5.heap.size, 0, none⟩) 1 1 [0] rfl (hide rfl) HNR.out hna.out hsA.out ?_)
  intro v6 w6 i1 i2 i3
  have i1' : w6.ownsRow X4.heap.size 5 1 v6 (m + 1) (u8s (BS ++ [0])) := by simpa [u8s] using i1
  have hb6 : Below X4.heap.size X4 w6 := elm_grown HXA.out HOA.out HXA.out.size i2
  obtain ⟨A6, c6, rfl, -, hc6, -, hr6⟩ := own_rb i1' HLT.out
  have HB6 := hide (HB4.out.trans (hb6.mono HB4.out.size))
  have HC6 := hide (HC4.out.trans (hb6.mono HC4.out.size))
  have HP6 := hide (HP4.out.below hb6 HP4.out.lt)
  have HQ6 := hide (HQ4.out.below hb6 HQ4.out.lt)
  have HQI6 := hide (HQI.out.below hb6)
  have HR2 := hide (HRD2.out w6 A6 c6 HC6.out hr6 hc6)
  clear i1 i1' i2 i3 hb6 hr6 hc6 HXA HOA HNR hna hsA HB4 HC4 HP4 HQ4 HQI HRD2 HLT
  go_wp2_with fail
  refine HR2.out.mono ?_
  rintro e w7 ⟨q2, ev2, rfl, hev, hpl, hb⟩
  have hal := (Below.refl w7.heap.size w7).alloc (Nat.le_refl _) (.cells #[.int .i64 q2.size, .slice q2.V q2.vs.length q2.vc, .slice q2.C q2.cs.length q2.cc, .slice q2.L q2.ls.length q2.lc, .slice q2.K q2.is.length q2.kc, .int .i64 q2.inp, .int .i64 q2.out] 27)
  have hb7 : Below w6.heap.size w6 (w7.alloc (.cells #[.int .i64 q2.size, .slice q2.V q2.vs.length q2.vc, .slice q2.C q2.cs.length q2.cc, .slice q2.L q2.ls.length q2.lc, .slice q2.K q2.is.length q2.kc, .int .i64 q2.inp, .int .i64 q2.out] 27)) := hb.out.trans (hal.mono hb.out.size)
  obtain ⟨a2, g2, ha2, rfl, hg2, hH2⟩ : ∃ a g, es[3]? = some a ∧ ev2 = .iface 119 (.pointer (some ⟨g, 0, none⟩)) ∧ g < w7.heap.size ∧ Has w7 g 122 [.int .i64 (m : Nat), errv a] := hev.out
  have HHA := hide (hH2.below hal hH2.lt)
  have HA2 := hide ha2
  obtain ⟨X7, hX7⟩ : ∃ X, Hid (w7.alloc (.cells #[.int .i64 q2.size, .slice q2.V q2.vs.length q2.vc, .slice q2.C q2.cs.length q2.cc, .slice q2.L q2.ls.length q2.lc, .slice q2.K q2.is.length q2.kc, .int .i64 q2.inp, .int .i64 q2.out] 27) = X) := ⟨_, hide rfl⟩
  rw [hX7.out] at hb7 HHA
  have HB7 := hide (HB6.out.trans (hb7.mono HB6.out.size))
  have HC7 := hide (HC6.out.trans (hb7.mono HC6.out.size))
  have HP7 := hide (HP6.out.below hb7 HP6.out.lt)
  have HQ7 := hide (HQ6.out.below hb7 HQ6.out.lt)
  have HQI7 := hide (HQI6.out.below hb7)
  have hmpos : 0 < m := by have := HM2.out.1; omega
  have HNN := hide (fun W : World => number_v cut m hmpos (by have := HM2.out.2; omega) m rfl W)
  have hkl := numv_lt cut m hmpos
  obtain ⟨k, hk⟩ : ∃ k, Hid (numv cut m = k) := ⟨_, hide rfl⟩
  rw [hk.out] at HNN hkl
  have HKL := hide hkl
  clear hal hb hb7 hev hpl hg2 hH2 ha2 hk hkl hmpos HR2 HB6 HC6 HP6 HQ6 HQI6
  go_wp2_with fail
  rw [hX7.out]
  refine (HNN.out X7).mono ?_
  rintro e w8 ⟨rfl, hw8⟩
  obtain rfl : X7 = w8 := hw8.symm
  have HR3 := hide (HRD3.out k X7 HKL.out HC7.out)
  have hcut := head_run B m cb k (by have h1 := HKL.out; have h2 := HCB2.out; omega)
  have hk1 : (k : Int) ≤ cb := by have h1 := HKL.out; have h2 := HCB2.out; omega
  clear HNN hX7 HRD3
  go_wp2_with fail
  refine HR3.out.mono ?_
  clear hcut hk1
  rintro e w9 ⟨q3, ev3, rfl, hev, hpl, hb⟩
  obtain ⟨a3, ha3, rfl⟩ : ∃ a, es[4]? = some a ∧ ev3 = errv a := hev.out
  have HA3 := hide ha3
  have hal := (Below.refl w9.heap.size w9).alloc (Nat.le_refl _) (.cells #[.int .i64 q3.size, .slice q3.V q3.vs.length q3.vc, .slice q3.C q3.cs.length q3.cc, .slice q3.L q3.ls.length q3.lc, .slice q3.K q3.is.length q3.kc, .int .i64 q3.inp, .int .i64 q3.out] 27)
  have hb9 : Below X7.heap.size X7 (w9.alloc (.cells #[.int .i64 q3.size, .slice q3.V q3.vs.length q3.vc, .slice q3.C q3.cs.length q3.cc, .slice q3.L q3.ls.length q3.lc, .slice q3.K q3.is.length q3.kc, .int .i64 q3.inp, .int .i64 q3.out] 27)) := hb.out.trans (hal.mono hb.out.size)
  obtain ⟨X9, hX9⟩ : ∃ X, Hid (w9.alloc (.cells #[.int .i64 q3.size, .slice q3.V q3.vs.length q3.vc, .slice q3.C q3.cs.length q3.cc, .slice q3.L q3.ls.length q3.lc, .slice q3.K q3.is.length q3.kc, .int .i64 q3.inp, .int .i64 q3.out] 27) = X) := ⟨_, hide rfl⟩
  rw [hX9.out] at hb9
  have HB9 := hide (HB7.out.trans (hb9.mono HB7.out.size))
  have HP9 := hide (HP7.out.below hb9 HP7.out.lt)
  have HQ9 := hide (HQ7.out.below hb9 HQ7.out.lt)
  have HHA9 := hide (HHA.out.below hb9 HHA.out.lt)
  have hs9 := HSM.out HFW.out q X9 HB9.out (HQI7.out.below hb9)
  rw [decide_eq_true HQ.out.symm] at hs9
  obtain ⟨n1, hn1⟩ : ∃ n, Hid (q.vs.length = n) := ⟨_, hide rfl⟩
  obtain ⟨n2, hn2⟩ : ∃ n, Hid (q.cs.length = n) := ⟨_, hide rfl⟩
  obtain ⟨n3, hn3⟩ : ∃ n, Hid (q.ls.length = n) := ⟨_, hide rfl⟩
  obtain ⟨n4, hn4⟩ : ∃ n, Hid (q.is.length = n) := ⟨_, hide rfl⟩
  rw [hn1.out, hn2.out, hn3.out, hn4.out] at HQ7 HQ9 hs9 ⊢
  have HS9 := hide hs9
  have y0 : w9.cell? ⟨w.heap.size, 0, none⟩ = some (.int .i64 p.size) := (Has.below HP7.out hb.out HP7.out.lt).cell 0
  have y1 : w9.cell? ⟨w.heap.size, 1, none⟩ = some (.slice p.V m1 p.vc) := (Has.below HP7.out hb.out HP7.out.lt).cell 1
  have y2 : w9.cell? ⟨w.heap.size, 2, none⟩ = some (.slice p.C m2 p.cc) := (Has.below HP7.out hb.out HP7.out.lt).cell 2
  have y3 : w9.cell? ⟨w.heap.size, 3, none⟩ = some (.slice p.L m3 p.lc) := (Has.below HP7.out hb.out HP7.out.lt).cell 3
  have y4 : w9.cell? ⟨w.heap.size, 4, none⟩ = some (.slice p.K m4 p.kc) := (Has.below HP7.out hb.out HP7.out.lt).cell 4
  have y5 : w9.cell? ⟨w.heap.size, 5, none⟩ = some (.int .i64 p.inp) := (Has.below HP7.out hb.out HP7.out.lt).cell 5
  have y6 : w9.cell? ⟨w.heap.size, 6, none⟩ = some (.int .i64 p.out) := (Has.below HP7.out hb.out HP7.out.lt).cell 6
  have z0 : w9.cell? ⟨S1, 0, none⟩ = some (.int .i64 q.size) := (Has.below HQ7.out hb.out HQ7.out.lt).cell 0
  have z1 : w9.cell? ⟨S1, 1, none⟩ = some (.slice q.V n1 q.vc) := (Has.below HQ7.out hb.out HQ7.out.lt).cell 1
  have z2 : w9.cell? ⟨S1, 2, none⟩ = some (.slice q.C n2 q.cc) := (Has.below HQ7.out hb.out HQ7.out.lt).cell 2
  have z3 : w9.cell? ⟨S1, 3, none⟩ = some (.slice q.L n3 q.lc) := (Has.below HQ7.out hb.out HQ7.out.lt).cell 3
  have z4 : w9.cell? ⟨S1, 4, none⟩ = some (.slice q.K n4 q.kc) := (Has.below HQ7.out hb.out HQ7.out.lt).cell 4
  have z5 : w9.cell? ⟨S1, 5, none⟩ = some (.int .i64 q.inp) := (Has.below HQ7.out hb.out HQ7.out.lt).cell 5
  have z6 : w9.cell? ⟨S1, 6, none⟩ = some (.int .i64 q.out) := (Has.below HQ7.out hb.out HQ7.out.lt).cell 6
  have hl1 := (HP7.out.below hb.out HP7.out.lt).lt
  have hl2 : S1 < w9.heap.size := Has.lt (Has.below HQ7.out hb.out HQ7.out.lt)
  have HPL9 := hide (fun W : World => placed_c 104 (m : Int) (by decide) W)
  clear hal hb hb9 hev hpl ha3 HR3 HB7 HC7 HP7 HQ7 HQI7 HHA hs9 HSM
  go_wp2_with fail
  rw [hX9.out]
  refine HS9.out.mono ?_
  clear y0 y1 y2 y3 y4 y5 y6 z0 z1 z2 z3 z4 z5 z6 hl1 hl2 hX9 HS9
  rintro e wa ⟨rfl, hb⟩
  have HBa := hide (HB9.out.trans (hb.mono HB9.out.size))
  have HPa := hide (HP9.out.below hb HP9.out.lt)
  have HHa := hide (HHA9.out.below hb HHA9.out.lt)
  have HPLa := hide (HPL9.out wa)
  clear hb HB9 HP9 HQ9 HHA9 HPL9
  go_wp2_with fail
  refine HPLa.out.mono ?_
  rintro e wb ⟨rfl, hb⟩
  have HBb := hide (HBa.out.trans (hb.mono HBa.out.size))
  have HPb := hide (HPa.out.below hb HPa.out.lt)
  have HHb := hide (HHa.out.below hb HHa.out.lt)
  have hsg := same_g (.iface 119 (.pointer (some ⟨g2, 0, none⟩))) 104 (m : Int) true wb (fun w' hw' => fault_at es 3 a2 HA2.out g2 (m : Int) w' ((HZ.out.below HBb.out).below hw') (HHb.out.below hw' HHb.out.lt))
  have HSGb := hide hsg
  clear hb HBa HPa HHa HPLa hsg HHb
  go_wp2_with fail
  refine HSGb.out.mono ?_
  rintro e wc ⟨rfl, hb⟩
  have HBc := hide (HBb.out.trans (hb.mono HBb.out.size))
  have HPc := hide (HPb.out.below hb HPb.out.lt)
  have his := is_c es 4 a3 HA3.out 105 wc (HZ.out.below HBc.out)
  have HISc := hide his
  clear hb HBb HPb HSGb his
  go_wp2_with fail
  refine HISc.out.mono ?_
  rintro e wd ⟨rfl, hb⟩
  have HBd := hide (HBc.out.trans (hb.mono HBc.out.size))
  have HPd := hide (HPc.out.below hb HPc.out.lt)
  have HCOd := hide (HCO.out HFW.out HFT.out wd HBd.out)
  have y4 : wd.cell? ⟨w.heap.size, 4, none⟩ = some (.slice p.K m4 p.kc) := HPd.out.cell 4
  clear hb HBc HPc HISc HCO HA2 HA3
  go_wp2_with fail
  refine HCOd.out.mono ?_
  clear y4
  rintro e we ⟨⟨bv2, rfl, ho⟩, hb⟩
  have hF := Pl.fine_of HFT.out
  have hok := Pl.ins_ok hF
  have HOK := hide hok
  have hcl : (Pl.code (p.is.map Ins.pl)).length ≤ 200000 := by
    have h1 := Pl.code_len (p.is.map Ins.pl) (fun x hx => ⟨(hok x hx).li, (hok x hx).lg⟩)
    have h2 := hF.is
    rw [List.length_map] at h1
    omega
  have hcb : ∀ b ∈ Pl.code (p.is.map Ins.pl), b < 256 := flat_less _ _ (fun x _ => InP.bytes_less x)
  obtain ⟨C0, c0, rfl, -, hc0, -, hr0⟩ := own_rb ho hcb
  obtain ⟨L, hL⟩ : ∃ L, Hid (p.is.map Ins.pl = L) := ⟨_, hide rfl⟩
  rw [hL.out] at hcl hc0 hr0 HOK ⊢
  have HLL : Hid (L.length = m4) := hide (by rw [← hL.out, List.length_map]; exact hm4.out)
  have HCL := hide hcl
  have HR0 : Hid (Rb we C0 (Pl.code (L.drop 0))) := hide hr0
  have HN0 : Hid ((Pl.code L).length = (Pl.code (L.drop 0)).length) := hide rfl
  have HC0 := hide hc0
  have HBe := hide (HBd.out.trans (hb.mono HBd.out.size))
  have HPe := hide (HPd.out.below hb HPd.out.lt)
  obtain ⟨ln0, hln0⟩ : ∃ l, Hid ((Pl.code L).length = l) := ⟨_, hide rfl⟩
  rw [hln0.out] at HN0 HC0 ⊢
  have HM4 : Hid (m4 ≤ 300) := hide (by rw [← hm4.out]; exact HFW.out.li)
  have hm43 : (m4 : Int) ≤ 300 := by have := HM4.out; omega
  clear hF hok hcl hcb ho hb hc0 hr0 HCOd HBd HPd hln0
  go_wp2_with fail
  go_loopw [15, 17] (fun v k wr => ∃ (i : Nat) (C : Option Addr) (c ln : Nat), i ≤ m4 ∧ v = .slice C ln c ∧ k = .int .i64 i ∧ Hid (ln = (Pl.code (L.drop i)).length) ∧ Hid (ln ≤ c) ∧ Hid (ln ≤ 200000) ∧ Hid (Rb wr C (Pl.code (L.drop i))) ∧ Hid (Below w.heap.size w wr) ∧ Hid (Has wr w.heap.size 27 [.int .i64 p.size, .slice p.V m1 p.vc, .slice p.C m2 p.cc, .slice p.L m3 p.lc, .slice p.K m4 p.kc, .int .i64 p.inp, .int .i64 p.out])) (fun _ k _ => m4 - (intOf k).toNat)
  case atStart => exact ⟨0, C0, c0, ln0, by omega, rfl, rfl, HN0, HC0, hide (by rw [HN0.out]; exact HCL.out), HR0, HBe, HPe⟩
  case round =>
    clear HN0 HC0 HR0 HBe HPe
    obtain ⟨i, C, c, ln, hi, rfl, rfl, HN, HC, HLN, HR, HB, HP⟩ := hrel
    have y4 := HP.out.cell 4
    simp only [List.getElem?_cons_zero, List.getElem?_cons_succ] at y4
    by_cases hlt : i < m4
    · have hin := HIN.out HFW.out wr HB.out
      obtain ⟨ad, t, hadd, had, ht, t0, t1, t2, t3, t4, t5⟩ := row_ins hin.K i (by rw [hm4.out]; exact hlt)
      have htm := List.mem_of_getElem? ht.out
      have htin := hin.is t htm
      have hLi : L[i]? = some t.pl := by rw [← hL.out, List.getElem?_map, ht.out]; rfl
      have hok := HOK.out t.pl (List.mem_of_getElem? hLi)
      have hsplit : Pl.code (L.drop i) = t.pl.bytes ++ Pl.code (L.drop (i + 1)) := by
        have h1 := (List.getElem?_eq_some_iff.1 hLi)
        rw [List.drop_eq_getElem_cons h1.1, h1.2]
        rfl
      have hpi := pinstr_c es ae am ak C c t.pl hok (Pl.code (L.drop (i + 1))) (Pl.code (L.drop i)) hsplit wr ⟨HR.out, (HZ.out.below HB.out).ey, by rw [← HN.out]; exact HC.out, by rw [← HN.out]; have := HLN.out; omega, HES.out.2.2.2.1, HES.out.2.1, HES.out.2.2.2.2⟩
      rw [← HN.out] at hpi
      have HSP := hide hsplit
      have hkx : 15 ≤ t.pl.bytes.length := by rw [InP.bytes_len]; omega
      have hlen := congrArg List.length hsplit
      rw [List.length_append, ← HN.out] at hlen
      obtain ⟨kx, hkx2⟩ : ∃ k, Hid (t.pl.bytes.length = k) := ⟨_, hide rfl⟩
      rw [hkx2.out] at hpi hkx hlen
      have HPI := hide hpi
      have HLE := hide hlen
      have HKX := hide hkx
      have HTI := hide htin
      have HAD := hide had
      have HADD := hide hadd
      have HTC := hide (show wr.cell? (ad.add (i * 6)) = some (.int .i64 t.op) ∧ wr.cell? ⟨(ad.add (i * 6)).block, (ad.add (i * 6)).off + 1, none⟩ = some (.int .i64 t.dst) ∧ wr.cell? ⟨(ad.add (i * 6)).block, (ad.add (i * 6)).off + 2, none⟩ = some (.slice t.I t.is.length t.ic) ∧ wr.cell? ⟨(ad.add (i * 6)).block, (ad.add (i * 6)).off + 3, none⟩ = some (.slice t.G t.gs.length t.gc) ∧ wr.cell? ⟨(ad.add (i * 6)).block, (ad.add (i * 6)).off + 4, none⟩ = some (.int .i64 t.fr) ∧ wr.cell? ⟨(ad.add (i * 6)).block, (ad.add (i * 6)).off + 5, none⟩ = some (.int .i64 t.to) from ⟨t0, t1, t2, t3, t4, t5⟩)
      have hii : (i : Int) < m4 := by omega
      clear hin htm htin hLi hok hsplit hpi hlen hkx t0 t1 t2 t3 t4 t5 hadd had
      go_wp2_with fail
      refine HPI.out.mono ?_
      clear y4
      rintro e w2x ⟨⟨n, rfl, hnp, hni⟩, hb⟩
      have e3 : t.is = n.is := (congrArg InP.is hnp).symm
      have e4 : t.gs = n.gs := (congrArg InP.gs hnp).symm
      have hal := (Below.refl w2x.heap.size w2x).alloc (Nat.le_refl _) (.cells #[.int .i64 n.op, .int .i64 n.dst, .slice n.I n.is.length n.ic, .slice n.G n.gs.length n.gc, .int .i64 n.fr, .int .i64 n.to] 48)
      have hbx : Below wr.heap.size wr (w2x.alloc (.cells #[.int .i64 n.op, .int .i64 n.dst, .slice n.I n.is.length n.ic, .slice n.G n.gs.length n.gc, .int .i64 n.fr, .int .i64 n.to] 48)) := hb.trans (hal.mono hb.size)
      have hnx := Has.new w2x 48 [.int .i64 n.op, .int .i64 n.dst, .slice n.I n.is.length n.ic, .slice n.G n.gs.length n.gc, .int .i64 n.fr, .int .i64 n.to]
      have hnin := hni.below hal
      obtain ⟨S2, hS2⟩ : ∃ S, Hid (w2x.heap.size = S) := ⟨_, hide rfl⟩
      rw [hS2.out] at hnx
      have hsi := fun (W : World) (hW : Below (w2x.alloc (.cells #[.int .i64 n.op, .int .i64 n.dst, .slice n.I n.is.length n.ic, .slice n.G n.gs.length n.gc, .int .i64 n.fr, .int .i64 n.to] 48)).heap.size (w2x.alloc (.cells #[.int .i64 n.op, .int .i64 n.dst, .slice n.I n.is.length n.ic, .slice n.G n.gs.length n.gc, .int .i64 n.fr, .int .i64 n.to] 48)) W) => rsameins_c n t W (hnin.below hW) (HTI.out.below (hbx.trans (hW.mono hbx.size))) hnp.symm
      obtain ⟨na, hna⟩ : ∃ l, Hid (n.is.length = l) := ⟨_, hide rfl⟩
      obtain ⟨nb, hnb⟩ : ∃ l, Hid (n.gs.length = l) := ⟨_, hide rfl⟩
      have hTC := HTC.out
      rw [e3, e4, hna.out, hnb.out] at hTC
      rw [e3, e4] at hsi
      rw [hna.out, hnb.out] at hsi hnx hbx ⊢
      obtain ⟨X2, hX2⟩ : ∃ X, Hid (w2x.alloc (.cells #[.int .i64 n.op, .int .i64 n.dst, .slice n.I na n.ic, .slice n.G nb n.gc, .int .i64 n.fr, .int .i64 n.to] 48) = X) := ⟨_, hide rfl⟩
      rw [hX2.out] at hsi hnx hbx
      have HBX := hide (HB.out.trans (hbx.mono HB.out.size))
      have HPX := hide (HP.out.below hbx HP.out.lt)
      have HRX := hide (HR.out.below hbx)
      have hy4 := HPX.out.cell 4
      simp only [List.getElem?_cons_zero, List.getElem?_cons_succ] at hy4
      rw [HADD.out] at hy4
      have hadl : ∀ j, (⟨(ad.add (i * 6)).block, j, none⟩ : Addr).block < wr.heap.size := fun j => by show (ad.add (i * 6)).block < _; rw [ad_block]; exact HAD.out
      have hadl0 : (ad.add (i * 6)).block < wr.heap.size := by rw [ad_block]; exact HAD.out
      have HTX := hide (show X2.cell? (ad.add (i * 6)) = some (.int .i64 t.op) ∧ X2.cell? ⟨(ad.add (i * 6)).block, (ad.add (i * 6)).off + 1, none⟩ = some (.int .i64 t.dst) ∧ X2.cell? ⟨(ad.add (i * 6)).block, (ad.add (i * 6)).off + 2, none⟩ = some (.slice t.I na t.ic) ∧ X2.cell? ⟨(ad.add (i * 6)).block, (ad.add (i * 6)).off + 3, none⟩ = some (.slice t.G nb t.gc) ∧ X2.cell? ⟨(ad.add (i * 6)).block, (ad.add (i * 6)).off + 4, none⟩ = some (.int .i64 t.fr) ∧ X2.cell? ⟨(ad.add (i * 6)).block, (ad.add (i * 6)).off + 5, none⟩ = some (.int .i64 t.to) from
        ⟨(hbx.cell hadl0).trans hTC.1, (hbx.cell (hadl _)).trans hTC.2.1, (hbx.cell (hadl _)).trans hTC.2.2.1, (hbx.cell (hadl _)).trans hTC.2.2.2.1, (hbx.cell (hadl _)).trans hTC.2.2.2.2.1, (hbx.cell (hadl _)).trans hTC.2.2.2.2.2⟩)
      have hS0 : X2.drew.cell? ⟨S2, 0, none⟩ = some (.int .i64 n.op) ∧ X2.drew.cell? ⟨S2, 1, none⟩ = some (.int .i64 n.dst) ∧ X2.drew.cell? ⟨S2, 2, none⟩ = some (.slice n.I na n.ic) ∧ X2.drew.cell? ⟨S2, 3, none⟩ = some (.slice n.G nb n.gc) ∧ X2.drew.cell? ⟨S2, 4, none⟩ = some (.int .i64 n.fr) ∧ X2.drew.cell? ⟨S2, 5, none⟩ = some (.int .i64 n.to) ∧ X2.drew.cell? ⟨w.heap.size, 4, none⟩ = some (.slice (some ad) m4 p.kc) ∧ X2.drew.cell? (ad.add (i * 6)) = some (.int .i64 t.op) ∧ X2.drew.cell? ⟨(ad.add (i * 6)).block, (ad.add (i * 6)).off + 1, none⟩ = some (.int .i64 t.dst) ∧ X2.drew.cell? ⟨(ad.add (i * 6)).block, (ad.add (i * 6)).off + 2, none⟩ = some (.slice t.I na t.ic) ∧ X2.drew.cell? ⟨(ad.add (i * 6)).block, (ad.add (i * 6)).off + 3, none⟩ = some (.slice t.G nb t.gc) ∧ X2.drew.cell? ⟨(ad.add (i * 6)).block, (ad.add (i * 6)).off + 4, none⟩ = some (.int .i64 t.fr) ∧ X2.drew.cell? ⟨(ad.add (i * 6)).block, (ad.add (i * 6)).off + 5, none⟩ = some (.int .i64 t.to) := by
        obtain ⟨a0, a1, a2, a3, a4, a5⟩ := six_held (hnx.drewN 1)
        obtain ⟨b0, b1, b2, b3, b4, b5⟩ := HTX.out
        exact ⟨a0, a1, a2, a3, a4, a5, hy4, b0, b1, b2, b3, b4, b5⟩
      have HSI := hide (hsi X2.drew ((Below.refl X2.heap.size X2).drew))
      have HNX := hide (hnx.drewN 1)
      have hblX : wr.heap.size ≤ X2.heap.size := hbx.size
      have HBL := hide hblX
      have hk1 : ¬ (kx : Int) < 1 := by have := HKX.out; omega
      have hk2 : ¬ (ln : Int) < (kx : Int) := by have := HLE.out; omega
      obtain ⟨C2, hC2⟩ : ∃ C2, Hid ((if c = kx then C else C.map (·.add (kx * 1))) = C2) := ⟨_, hide rfl⟩
      have hcut := fun W => tail_run C C2 ln c kx hC2 (by have := HLE.out; omega) W
      have hmw : X2.drew.heap.size = X2.heap.size := rfl
      have hk1d : decide ((kx : Int) < 1) = false := decide_eq_false hk1
      have hk2n : ¬ ln < kx := by omega
      have hk2e : decide (ln < kx) = false := decide_eq_false hk2n
      have hk2l : kx ≤ ln := by omega
      have hk2f : decide (kx ≤ ln) = true := decide_eq_true hk2l
      have hk2d : decide ((ln : Int) < (kx : Int)) = false := decide_eq_false hk2
      clear hal hbx hnin hsi hTC hadl hadl0 hb hnp hni e3 e4 hnx HPI HTC HTI HB HP HR hblX
      go_wp2_with fail
      rw [hS2.out, hX2.out]
      go_region_held3 (fun W => W.cell? ⟨S2, 0, none⟩ = some (.int .i64 n.op) ∧ W.cell? ⟨S2, 1, none⟩ = some (.int .i64 n.dst) ∧ W.cell? ⟨S2, 2, none⟩ = some (.slice n.I na n.ic) ∧ W.cell? ⟨S2, 3, none⟩ = some (.slice n.G nb n.gc) ∧ W.cell? ⟨S2, 4, none⟩ = some (.int .i64 n.fr) ∧ W.cell? ⟨S2, 5, none⟩ = some (.int .i64 n.to) ∧ W.cell? ⟨w.heap.size, 4, none⟩ = some (.slice (some ad) m4 p.kc) ∧ W.cell? (ad.add (i * 6)) = some (.int .i64 t.op) ∧ W.cell? ⟨(ad.add (i * 6)).block, (ad.add (i * 6)).off + 1, none⟩ = some (.int .i64 t.dst) ∧ W.cell? ⟨(ad.add (i * 6)).block, (ad.add (i * 6)).off + 2, none⟩ = some (.slice t.I na t.ic) ∧ W.cell? ⟨(ad.add (i * 6)).block, (ad.add (i * 6)).off + 3, none⟩ = some (.slice t.G nb t.gc) ∧ W.cell? ⟨(ad.add (i * 6)).block, (ad.add (i * 6)).off + 4, none⟩ = some (.int .i64 t.fr) ∧ W.cell? ⟨(ad.add (i * 6)).block, (ad.add (i * 6)).off + 5, none⟩ = some (.int .i64 t.to))
        (first | with_reducible exact hS0 | with_reducible exact hS3)
        (first | (go_at_call 20; (with_reducible refine HSI.out.mono ?_); rintro e w3x ⟨rfl, hb⟩; have hS3 := bk_held hb (HAD.out) (by rw [hmw]; exact HBL.out) (HNX.out) (HPX.out.drewN 1) hS0; have HB3 := hide ((HBX.out.drew).trans (hb.mono (HBX.out.drew).size)); have HP3 := hide ((HPX.out.drewN 1).below hb (HPX.out.drewN 1).lt); have HR3 := hide ((HRX.out.below ((Below.refl X2.heap.size X2).drew)).below hb); clear hb))
      have HN2 : Hid (ln - kx = (Pl.code (L.drop (i + 1))).length) := hide (by have := HLE.out; omega)
      have HC3 : Hid (ln - kx ≤ c - kx) := hide (by have := HC.out; omega)
      have HLN2 : Hid (ln - kx ≤ 200000) := hide (by have := HLN.out; omega)
      have HR4 : Hid (Rb w3x C2 (Pl.code (L.drop (i + 1)))) := hide (by
        have h := HR3.out.tail c kx (by rw [← HN.out]; exact HC.out) hC2.out
        rw [HSP.out, ← hkx2.out, List.drop_left] at h
        exact h)
      clear HR3 HN HC HLN HSP HLE HKX HSI HNX HBX HPX HRX HTX hS0 hS3 hk1 hk2 hk1d hk2d hk2n hk2e hk2f hmw hy4 hkx2 HAD HADD HBL hX2 hS2
      go_wp2_with fail
      go_roundw
      case rel => exact ⟨i + 1, C2, c - kx, ln - kx, by omega, rfl, by go_num, HN2, HC3, HLN2, HR4, HB3, HP3⟩
      case measure => simp [intOf]; omega
    · obtain rfl : m4 = i := by omega
      have hln : ln = 0 := by
        rw [HN.out, List.drop_of_length_le (Nat.le_of_eq HLL.out)]
        rfl
      subst hln
      clear HN HC HLN HR HOK HLL
      go_wp2_with fail
      go_ret
      exact ⟨rfl, HB.out⟩
end Go.Proofs.YthjnkaikjjjceaaDoor
