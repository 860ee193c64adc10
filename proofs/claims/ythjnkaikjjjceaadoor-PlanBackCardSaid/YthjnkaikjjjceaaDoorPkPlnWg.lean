/-
  plan.Code of what can be written, plan.Instr of an instruction's bytes, walked. By an AI agent. No person has read it.
-/
import Derived.Test.YthjnkaikjjjceaaDoorPkPlnZ
import Derived.Test.YthjnkaikjjjceaaDoorPkPlnQ
namespace Go.Proofs.YthjnkaikjjjceaaDoor
open Go.RowKit
/-- A plan of code alone. -/
def Pn.ofcode (K : Option Addr) (is : List Ins) (kc : Nat) : Pn := ⟨0, none, [], 0, none, [], 0, none, [], 0, K, is, kc, 0, 0⟩
theorem Pn.ofcode_in {w : World} {K : Option Addr} {is : List Ins} (kc : Nat) (hK : Row w K (is.flatMap Ins.vals)) (hI : ∀ x ∈ is, x.In w) (hl : is.length ≤ 1000000) : (Pn.ofcode K is kc).In w :=
  ⟨Row.nil _ _, fun v hv => by simp [Pn.ofcode] at hv, Row.nil _ _, fun v hv => by simp [Pn.ofcode] at hv, Row.nil _ _, fun v hv => by simp [Pn.ofcode] at hv, hK, hI, Nat.zero_le _, Nat.zero_le _, Nat.zero_le _, hl⟩
theorem Pl.code_fault (p : Pn) (h : Pl.fault p = none) : Pl.fault (Pn.ofcode p.K p.is p.kc) = none := by
  have hF := Pl.fine_of h
  have hb := hF.nb
  unfold Pl.broad at hb
  simp only [Bool.or_eq_false_iff] at hb
  have h1 : Pl.over (Pn.ofcode p.K p.is p.kc) = false := by
    unfold Pl.fault at h
    by_cases ho : Pl.over p = true
    · rw [if_pos ho] at h
      cases h
    · rw [Bool.not_eq_true] at ho
      unfold Pl.over Pl.lots at ho
      simp only [Bool.or_eq_false_iff] at ho
      show ((false || (false || (false || decide (2048 < p.is.length)))) || (p.is.any Pl.many || false)) = false
      rw [ho.1.2.2.2, ho.2.1]
      rfl
  have h2 : Pl.broad (Pn.ofcode p.K p.is p.kc) = false := by
    show ([0, 0, 0].any Pl.far || (false || (false || p.is.any Pl.wrong))) = false
    rw [hb.2.2.2]
    decide
  unfold Pl.fault
  rw [h1, h2]
  rfl
set_option maxRecDepth 100000 in
set_option maxHeartbeats 4000000 in
theorem pcode_c (es : List Addr) (ah am ar ae ak : Addr) (hes : TErrs es ah am ar ae ak) (p : Pn) (w : World) (hp : p.In w) (hZ : E3 w ah am ar) (hf : Pl.fault p = none) :
    Calls Tryd.prog 18 #[.slice p.K p.is.length p.kc] w fun e w' => (∃ b, e = .returned (.tuple #[b, .nilIface]) ∧ w'.ownsRow w.heap.size 5 1 b (Pl.code (p.is.map Ins.pl)).length (u8s (Pl.code (p.is.map Ins.pl)))) ∧ Below w.heap.size w w' := by
  have hF := Pl.fine_of hf
  have hin := Pn.ofcode_in p.kc hp.K hp.is hp.li
  have HW := hide (fun (W : World) (hb : Below w.heap.size w W) => (show Calls Tryd.prog 26 #[.agg #[.int .i64 0, .slice none 0 0, .slice none 0 0, .slice none 0 0, .slice p.K p.is.length p.kc, .int .i64 0, .int .i64 0]] W _ from writable_c es ah am ar ae ak hes (Pn.ofcode p.K p.is p.kc) W (hin.below hb) (hZ.below hb)).mono (R' := fun e w' => e = .returned .nilIface ∧ Below W.heap.size W w') (by
    rintro e w' ⟨⟨v, rfl, hev⟩, hb⟩
    rw [Pl.code_fault p hf] at hev
    obtain rfl : v = .nilIface := hev
    exact ⟨rfl, hb⟩))
  have HA := hide (fun (W : World) (hb : Below w.heap.size w W) => appendcode_c w.heap.size (.slice none 0 0) 0 [] p.is p.K p.kc w W hb (Nat.le_refl _) hb.size (World.ownsRow_nil _ _ _ _) hp.K hp.is hF.n8 hF.is (Nat.zero_le _))
  have HOW := hide (fun (W W' : World) (b : Value) (h : Pk.Ap w.heap.size W (.slice none 0 0) 0 [] (Pl.code (p.is.map Ins.pl)) W' b) => h.own)
  obtain ⟨n, hn⟩ : ∃ n, Hid (p.is.length = n) := ⟨_, hide rfl⟩
  obtain ⟨K, hK⟩ : ∃ n, Hid (p.K = n) := ⟨_, hide rfl⟩
  obtain ⟨kc, hkc⟩ : ∃ n, Hid (p.kc = n) := ⟨_, hide rfl⟩
  obtain ⟨C, hC⟩ : ∃ n, Hid (Pl.code (p.is.map Ins.pl) = n) := ⟨_, hide rfl⟩
  rw [hn.out, hK.out, hkc.out] at HW HA
  rw [hn.out, hK.out, hkc.out, hC.out]
  rw [hC.out] at HA HOW
  have HB0 := hide ((Below.refl w.heap.size w).alloc (Nat.le_refl _) (.cells #[.int .i64 0, .slice none 0 0, .slice none 0 0, .slice none 0 0, .slice K n kc, .int .i64 0, .int .i64 0] 27))
  have HW0 := hide (HW.out _ HB0.out)
  clear HW hF hin hp hZ hf hes
  go_enter Tryd.func18, Tryd.ntmps18
  go_wp2_with fail
  refine HW0.out.mono ?_
  rintro e w1 ⟨rfl, hb⟩
  have HB1 := hide (HB0.out.trans (hb.mono HB0.out.size))
  have HA1 := hide (HA.out w1 HB1.out)
  clear HW0 HB0 HA hb
  go_wp2_with fail
  refine HA1.out.mono ?_
  rintro e w2 ⟨b, rfl, hap, hg⟩
  have ho := HOW.out _ _ _ hap
  rw [Nat.zero_add, List.nil_append] at ho
  have HO := hide ho
  have HB2 := hide (HB1.out.grown hg HB1.out.size (fun k e => by cases e))
  obtain ⟨BB, BC, rfl, -⟩ := own_row ho
  clear HA1 HOW hap hg ho HB1
  go_wp2_with fail
  go_ret2
  exact ⟨⟨_, rfl, HO.out⟩, HB2.out⟩
theorem results_ins3 {fn : Func} {p u x : Tmp} (h : fn.results = #[.cell p 48, .tmp u, .tmp x]) (tmps : Array Value) (w : World) (g : Nat) (a b c d e f : Value)
    (hp : tmps.getD p undef = .pointer (some ⟨g, 0, none⟩)) (hg : Has w g 48 [a, b, c, d, e, f]) : (results fn tmps).run Tryd.prog w = .ok (.tuple #[.agg #[a, b, c, d, e, f], tmps.getD u undef, tmps.getD x undef]) w := by
  simp only [results, h]
  have h1 := run_loadVar_row (P := Tryd.prog) w g 48 48 #[a, b, c, d, e, f] (0, 0) _ hg Tryd.underlying48 rfl (by kernel_rfl)
  rw [Array.getD_eq_getD_getElem?] at hp
  simp [Result.andThen, hp, asAddr, h1]
theorem six_held {W : World} {g : Nat} {t : TypeId} {a b c d e f : Value} (H : Has W g t [a, b, c, d, e, f]) : W.cell? ⟨g, 0, none⟩ = some a ∧ W.cell? ⟨g, 1, none⟩ = some b ∧ W.cell? ⟨g, 2, none⟩ = some c ∧ W.cell? ⟨g, 3, none⟩ = some d ∧ W.cell? ⟨g, 4, none⟩ = some e ∧ W.cell? ⟨g, 5, none⟩ = some f := ⟨H.cell 0, H.cell 1, H.cell 2, H.cell 3, H.cell 4, H.cell 5⟩
set_option maxRecDepth 100000 in
set_option maxHeartbeats 4000000 in
theorem pinstr_c (es : List Addr) (ae am ak : Addr) (A : Option Addr) (cap : Nat) (x : InP) (hx : x.Ok) (rest bs : List Nat) (hbs : bs = x.bytes ++ rest) (w : World) (hX : Rx w A bs cap es ae am ak) :
    Calls Tryd.prog 19 #[.slice A bs.length cap] w fun e w' => (∃ n : Ins, e = .returned (.tuple #[.agg #[.int .i64 n.op, .int .i64 n.dst, .slice n.I n.is.length n.ic, .slice n.G n.gs.length n.gc, .int .i64 n.fr, .int .i64 n.to], .int .i64 x.bytes.length, .nilIface]) ∧ n.pl = x ∧ n.In w') ∧ Below w.heap.size w w' := by
  have hfw : Rs.instr bs ⟨0, none⟩ = (x, ⟨0 + x.bytes.length, none⟩) := Rs.instr_fw bs x hx 0 0 rest (by rw [List.drop_zero, hbs]) (Nat.zero_le _)
  rw [Nat.zero_add] at hfw
  obtain ⟨k, hk⟩ : ∃ k, Hid (x.bytes.length = k) := ⟨_, hide rfl⟩
  rw [hk.out] at hfw ⊢
  obtain ⟨W1, hW1⟩ : ∃ W1, Hid ((w.alloc (.cells #[.int .i64 0, .int .i64 0, .slice none 0 0, .slice none 0 0, .int .i64 0, .int .i64 0] 48)).alloc (.cells #[.slice A bs.length cap, .int .i64 0, .nilIface] 118) = W1) := ⟨_, hide rfl⟩
  have hb1 : Below w.heap.size w W1 := by
    rw [← hW1.out]
    exact ((Below.refl w.heap.size w).alloc (Nat.le_refl _) _).alloc (by simp) _
  have hT1 : Has W1 w.heap.size 48 [.int .i64 0, .int .i64 0, .slice none 0 0, .slice none 0 0, .int .i64 0, .int .i64 0] := by
    rw [← hW1.out]
    exact (Has.new w 48 [.int .i64 0, .int .i64 0, .slice none 0 0, .slice none 0 0, .int .i64 0, .int .i64 0]).alloc _
  have hR1 : Has W1 (w.heap.size + 1) 118 [.slice A bs.length cap, .int .i64 0, .nilIface] := by
    rw [← hW1.out]
    have h := Has.new (w.alloc (.cells #[.int .i64 0, .int .i64 0, .slice none 0 0, .slice none 0 0, .int .i64 0, .int .i64 0] 48)) 118 [.slice A bs.length cap, .int .i64 0, .nilIface]
    simpa using h
  have hrd : RdB W1.heap.size W1 (w.heap.size + 1) A bs cap es ⟨0, none⟩ := ⟨Nat.zero_le _, .nilIface, hR1, rfl⟩
  have HIN := hide (instr_m hX (w.heap.size + 1) ⟨0, none⟩ W1 (Nat.le_add_right _ 1) hb1 hrd)
  rw [hfw] at HIN
  have HT1 := hide hT1
  have HB1 := hide hb1
  have HRC := hide (fun (W : World) => read_c A bs.length cap W)
  obtain ⟨nb, hnb⟩ : ∃ k, Hid (bs.length = k) := ⟨_, hide rfl⟩
  have HRD : Hid (∀ W, RdB W.heap.size W (w.heap.size + 1) A bs cap es ⟨k, none⟩ → Has W (w.heap.size + 1) 118 [.slice A nb cap, .int .i64 k, .nilIface]) := hide (fun W h => by
    obtain ⟨-, v, h1, h2⟩ := h
    obtain rfl : v = .nilIface := h2
    rw [hnb.out] at h1
    exact h1)
  rw [hnb.out] at HRC hW1 ⊢
  clear hb1 hT1 hR1 hrd hfw hX hbs
  go_enter Tryd.func19, Tryd.ntmps19
  go_wp2_with fail
  refine (HRC.out _).mono ?_
  rintro e w0 ⟨rfl, rfl⟩
  clear HRC
  have hsz : (w.alloc (.cells #[.int .i64 0, .int .i64 0, .slice none 0 0, .slice none 0 0, .int .i64 0, .int .i64 0] 48)).heap.size = w.heap.size + 1 := by simp
  rw [hsz, hW1.out]
  clear hsz hW1
  go_wp2_with fail
  refine HIN.out.mono ?_
  rintro e w2 ⟨⟨m, rfl, hpl, hio⟩, hrd, hg⟩
  obtain ⟨z0, z1, P2, is, c2, P3, gs, c3, z4, z5⟩ := m
  have HPL : Hid ((Ins.mk z0 z1 P2 is c2 P3 gs c3 z4 z5).pl = x) := hide hpl
  have hT2 := HT1.out.grown hg (by intro e; injection e; omega)
  have hR2 := HRD.out w2 hrd
  have hB2 := HB1.out.grown hg HB1.out.size (fun k e => by cases e; exact Nat.le_add_right _ 1)
  have hal : w2.grownBy (w2.alloc (.cells #[.int .i64 z0, .int .i64 z1, .slice P2 is.length c2, .slice P3 gs.length c3, .int .i64 z4, .int .i64 z5] 48)) none := World.grownBy_alloc w2 _ none
  have HIO := hide (hio.grown hal (NotT.none _ _))
  have HFIN : Hid (∀ W, (Ins.mk z0 z1 P2 is c2 P3 gs c3 z4 z5).Io W1.heap.size W → ∃ n : Ins, (#[.int .i64 z0, .int .i64 z1, .slice P2 is.length c2, .slice P3 gs.length c3, .int .i64 z4, .int .i64 z5] : Array Value) = #[.int .i64 n.op, .int .i64 n.dst, .slice n.I n.is.length n.ic, .slice n.G n.gs.length n.gc, .int .i64 n.fr, .int .i64 n.to] ∧ n.pl = x ∧ n.In W) := hide (fun W h => ⟨_, rfl, hpl, h.in_⟩)
  have hT3 := hT2.alloc (.cells #[.int .i64 z0, .int .i64 z1, .slice P2 is.length c2, .slice P3 gs.length c3, .int .i64 z4, .int .i64 z5] 48)
  have hR3 := hR2.alloc (.cells #[.int .i64 z0, .int .i64 z1, .slice P2 is.length c2, .slice P3 gs.length c3, .int .i64 z4, .int .i64 z5] 48)
  have hB3 := hB2.alloc hB2.size (.cells #[.int .i64 z0, .int .i64 z1, .slice P2 is.length c2, .slice P3 gs.length c3, .int .i64 z4, .int .i64 z5] 48)
  have hX3 := Has.new w2 48 [.int .i64 z0, .int .i64 z1, .slice P2 is.length c2, .slice P3 gs.length c3, .int .i64 z4, .int .i64 z5]
  obtain ⟨n2, hn2⟩ : ∃ n, Hid (is.length = n) := ⟨_, hide rfl⟩
  obtain ⟨n3, hn3⟩ : ∃ n, Hid (gs.length = n) := ⟨_, hide rfl⟩
  obtain ⟨S6, hS6⟩ : ∃ S, Hid (w2.heap.size = S) := ⟨_, hide rfl⟩
  rw [hn2.out, hn3.out] at HIO HFIN hT3 hR3 hB3 hX3
  rw [hS6.out] at hX3
  obtain ⟨W9, hW9⟩ : ∃ W9, Hid (w2.alloc (.cells #[.int .i64 z0, .int .i64 z1, .slice P2 n2 c2, .slice P3 n3 c3, .int .i64 z4, .int .i64 z5] 48) = W9) := ⟨_, hide rfl⟩
  rw [hW9.out] at HIO hT3 hR3 hB3 hX3
  have HT3 := hide hT3
  have HR3 := hide hR3
  have HB3 := hide hB3
  have HX3 := hide hX3
  have hne : w.heap.size ≠ S6 := by rw [← hS6.out]; have := hT2.lt; omega
  have HNE := hide hne
  have HER := hide (rerr_c _ _ _ _ _ hR3)
  have hlt2 := hT2.lt
  clear HT1 HB1 HRD HIN hpl hio hrd hg hT2 hR2 hB2 hal hT3 hR3 hB3 hX3 hne
  rw [show (Ins.mk z0 z1 P2 is c2 P3 gs c3 z4 z5).vals.toArray = #[.int .i64 z0, .int .i64 z1, .slice P2 is.length c2, .slice P3 gs.length c3, .int .i64 z4, .int .i64 z5] from rfl, hn2.out, hn3.out]
  go_wp2_with fail
  rw [hS6.out, hW9.out]
  refine HER.out.mono ?_
  rintro e w3 ⟨rfl, hw3⟩
  obtain rfl : W9 = w3 := hw3.symm
  have hT9 : Has W9.drew w.heap.size 48 [.int .i64 0, .int .i64 0, .slice none 0 0, .slice none 0 0, .int .i64 0, .int .i64 0] := HT3.out.drewN 1
  have hB9 := HB3.out
  have hX9 : Has W9.drew S6 48 [.int .i64 z0, .int .i64 z1, .slice P2 n2 c2, .slice P3 n3 c3, .int .i64 z4, .int .i64 z5] := HX3.out.drewN 1
  have hRd : Has W9.drew (w.heap.size + 1) 118 _ := HR3.out.drewN 1
  have hS0 := six_held hX9
  have hgr : World.grownBy W9 (World.setCell (World.setCell (World.setCell (World.setCell (World.setCell (World.setCell W9 ⟨w.heap.size, 0, none⟩ (.int .i64 z0)) ⟨w.heap.size, 1, none⟩ (.int .i64 z1)) ⟨w.heap.size, 2, none⟩ (.slice P2 n2 c2)) ⟨w.heap.size, 3, none⟩ (.slice P3 n3 c3)) ⟨w.heap.size, 4, none⟩ (.int .i64 z4)) ⟨w.heap.size, 5, none⟩ (.int .i64 z5)) (some w.heap.size) := ((((((grown_cell _ ⟨w.heap.size, 0, none⟩ (.int .i64 z0)).trans (grown_cell _ ⟨w.heap.size, 1, none⟩ (.int .i64 z1))).trans (grown_cell _ ⟨w.heap.size, 2, none⟩ (.slice P2 n2 c2))).trans (grown_cell _ ⟨w.heap.size, 3, none⟩ (.slice P3 n3 c3))).trans (grown_cell _ ⟨w.heap.size, 4, none⟩ (.int .i64 z4))).trans (grown_cell _ ⟨w.heap.size, 5, none⟩ (.int .i64 z5)))
  have hS9 : Hid ((World.drew (World.setCell (World.setCell (World.setCell (World.setCell (World.setCell (World.setCell W9 ⟨w.heap.size, 0, none⟩ (.int .i64 z0)) ⟨w.heap.size, 1, none⟩ (.int .i64 z1)) ⟨w.heap.size, 2, none⟩ (.slice P2 n2 c2)) ⟨w.heap.size, 3, none⟩ (.slice P3 n3 c3)) ⟨w.heap.size, 4, none⟩ (.int .i64 z4)) ⟨w.heap.size, 5, none⟩ (.int .i64 z5))).cell? ⟨S6, 0, none⟩ = some (.int .i64 z0) ∧ (World.drew (World.setCell (World.setCell (World.setCell (World.setCell (World.setCell (World.setCell W9 ⟨w.heap.size, 0, none⟩ (.int .i64 z0)) ⟨w.heap.size, 1, none⟩ (.int .i64 z1)) ⟨w.heap.size, 2, none⟩ (.slice P2 n2 c2)) ⟨w.heap.size, 3, none⟩ (.slice P3 n3 c3)) ⟨w.heap.size, 4, none⟩ (.int .i64 z4)) ⟨w.heap.size, 5, none⟩ (.int .i64 z5))).cell? ⟨S6, 1, none⟩ = some (.int .i64 z1) ∧ (World.drew (World.setCell (World.setCell (World.setCell (World.setCell (World.setCell (World.setCell W9 ⟨w.heap.size, 0, none⟩ (.int .i64 z0)) ⟨w.heap.size, 1, none⟩ (.int .i64 z1)) ⟨w.heap.size, 2, none⟩ (.slice P2 n2 c2)) ⟨w.heap.size, 3, none⟩ (.slice P3 n3 c3)) ⟨w.heap.size, 4, none⟩ (.int .i64 z4)) ⟨w.heap.size, 5, none⟩ (.int .i64 z5))).cell? ⟨S6, 2, none⟩ = some (.slice P2 n2 c2) ∧ (World.drew (World.setCell (World.setCell (World.setCell (World.setCell (World.setCell (World.setCell W9 ⟨w.heap.size, 0, none⟩ (.int .i64 z0)) ⟨w.heap.size, 1, none⟩ (.int .i64 z1)) ⟨w.heap.size, 2, none⟩ (.slice P2 n2 c2)) ⟨w.heap.size, 3, none⟩ (.slice P3 n3 c3)) ⟨w.heap.size, 4, none⟩ (.int .i64 z4)) ⟨w.heap.size, 5, none⟩ (.int .i64 z5))).cell? ⟨S6, 3, none⟩ = some (.slice P3 n3 c3) ∧ (World.drew (World.setCell (World.setCell (World.setCell (World.setCell (World.setCell (World.setCell W9 ⟨w.heap.size, 0, none⟩ (.int .i64 z0)) ⟨w.heap.size, 1, none⟩ (.int .i64 z1)) ⟨w.heap.size, 2, none⟩ (.slice P2 n2 c2)) ⟨w.heap.size, 3, none⟩ (.slice P3 n3 c3)) ⟨w.heap.size, 4, none⟩ (.int .i64 z4)) ⟨w.heap.size, 5, none⟩ (.int .i64 z5))).cell? ⟨S6, 4, none⟩ = some (.int .i64 z4) ∧ (World.drew (World.setCell (World.setCell (World.setCell (World.setCell (World.setCell (World.setCell W9 ⟨w.heap.size, 0, none⟩ (.int .i64 z0)) ⟨w.heap.size, 1, none⟩ (.int .i64 z1)) ⟨w.heap.size, 2, none⟩ (.slice P2 n2 c2)) ⟨w.heap.size, 3, none⟩ (.slice P3 n3 c3)) ⟨w.heap.size, 4, none⟩ (.int .i64 z4)) ⟨w.heap.size, 5, none⟩ (.int .i64 z5))).cell? ⟨S6, 5, none⟩ = some (.int .i64 z5)) := hide (six_held ((HX3.out.grown hgr (by intro e; exact HNE.out (Option.some.inj e).symm)).drewN 1))
  have HZ : Hid (Has (World.drew (World.setCell (World.setCell (World.setCell (World.setCell (World.setCell (World.setCell W9 ⟨w.heap.size, 0, none⟩ (.int .i64 z0)) ⟨w.heap.size, 1, none⟩ (.int .i64 z1)) ⟨w.heap.size, 2, none⟩ (.slice P2 n2 c2)) ⟨w.heap.size, 3, none⟩ (.slice P3 n3 c3)) ⟨w.heap.size, 4, none⟩ (.int .i64 z4)) ⟨w.heap.size, 5, none⟩ (.int .i64 z5))) w.heap.size 48 [.int .i64 z0, .int .i64 z1, .slice P2 n2 c2, .slice P3 n3 c3, .int .i64 z4, .int .i64 z5]) := hide (Has.drewN ((((((HT3.out.set_ 0 (.int .i64 z0)).set_ 1 (.int .i64 z1)).set_ 2 (.slice P2 n2 c2)).set_ 3 (.slice P3 n3 c3)).set_ 4 (.int .i64 z4)).set_ 5 (.int .i64 z5)) 1)
  have HBZ : Hid (Below w.heap.size w (World.drew (World.setCell (World.setCell (World.setCell (World.setCell (World.setCell (World.setCell W9 ⟨w.heap.size, 0, none⟩ (.int .i64 z0)) ⟨w.heap.size, 1, none⟩ (.int .i64 z1)) ⟨w.heap.size, 2, none⟩ (.slice P2 n2 c2)) ⟨w.heap.size, 3, none⟩ (.slice P3 n3 c3)) ⟨w.heap.size, 4, none⟩ (.int .i64 z4)) ⟨w.heap.size, 5, none⟩ (.int .i64 z5)))) := hide (Below.drew ((((((hB9.setCell (p := ⟨w.heap.size, 0, none⟩) (Nat.le_refl _) (.int .i64 z0)).setCell (p := ⟨w.heap.size, 1, none⟩) (Nat.le_refl _) (.int .i64 z1)).setCell (p := ⟨w.heap.size, 2, none⟩) (Nat.le_refl _) (.slice P2 n2 c2)).setCell (p := ⟨w.heap.size, 3, none⟩) (Nat.le_refl _) (.slice P3 n3 c3)).setCell (p := ⟨w.heap.size, 4, none⟩) (Nat.le_refl _) (.int .i64 z4)).setCell (p := ⟨w.heap.size, 5, none⟩) (Nat.le_refl _) (.int .i64 z5)))
  have HQ := hide (HFIN.out (World.drew (World.setCell (World.setCell (World.setCell (World.setCell (World.setCell (World.setCell W9 ⟨w.heap.size, 0, none⟩ (.int .i64 z0)) ⟨w.heap.size, 1, none⟩ (.int .i64 z1)) ⟨w.heap.size, 2, none⟩ (.slice P2 n2 c2)) ⟨w.heap.size, 3, none⟩ (.slice P3 n3 c3)) ⟨w.heap.size, 4, none⟩ (.int .i64 z4)) ⟨w.heap.size, 5, none⟩ (.int .i64 z5))) ((HIO.out.grown hgr (NotT.has HT3.out (by decide))).grown (below_grown ((Below.refl _ (World.setCell (World.setCell (World.setCell (World.setCell (World.setCell (World.setCell W9 ⟨w.heap.size, 0, none⟩ (.int .i64 z0)) ⟨w.heap.size, 1, none⟩ (.int .i64 z1)) ⟨w.heap.size, 2, none⟩ (.slice P2 n2 c2)) ⟨w.heap.size, 3, none⟩ (.slice P3 n3 c3)) ⟨w.heap.size, 4, none⟩ (.int .i64 z4)) ⟨w.heap.size, 5, none⟩ (.int .i64 z5))).drew)) (NotT.none _ _)))
  have hT9' := HT3.out
  have HAT := hide (rat_c _ _ _ _ _ hRd)
  have HAZ := hide (rat_c _ _ _ _ _ ((HR3.out.grown hgr (by intro e; injection e; omega)).drewN 1))
  have d0 : W9.cell? ⟨w.heap.size, 0, none⟩ = some (.int .i64 0) := HT3.out.cell 0
  have d1 : W9.cell? ⟨w.heap.size, 1, none⟩ = some (.int .i64 0) := HT3.out.cell 1
  have d2 : W9.cell? ⟨w.heap.size, 2, none⟩ = some (.slice none 0 0) := HT3.out.cell 2
  have d3 : W9.cell? ⟨w.heap.size, 3, none⟩ = some (.slice none 0 0) := HT3.out.cell 3
  have d4 : W9.cell? ⟨w.heap.size, 4, none⟩ = some (.int .i64 0) := HT3.out.cell 4
  have d5 : W9.cell? ⟨w.heap.size, 5, none⟩ = some (.int .i64 0) := HT3.out.cell 5
  have f0 := HT3.out.frozen 0
  have f1 := HT3.out.frozen 1
  have f2 := HT3.out.frozen 2
  have f3 := HT3.out.frozen 3
  have f4 := HT3.out.frozen 4
  have f5 := HT3.out.frozen 5
  clear hRd HER hW9 HIO HFIN HT3 HR3 HB3 HX3 hgr hT9 hB9 hX9 hT9' hlt2
  go_wp2_with fail
  go_region_held3 (fun W => W.cell? ⟨S6, 0, none⟩ = some (.int .i64 z0) ∧ W.cell? ⟨S6, 1, none⟩ = some (.int .i64 z1) ∧ W.cell? ⟨S6, 2, none⟩ = some (.slice P2 n2 c2) ∧ W.cell? ⟨S6, 3, none⟩ = some (.slice P3 n3 c3) ∧ W.cell? ⟨S6, 4, none⟩ = some (.int .i64 z4) ∧ W.cell? ⟨S6, 5, none⟩ = some (.int .i64 z5))
    (first | with_reducible exact hS0 | with_reducible exact hS9.out)
    (first | (go_at_call 56; (with_reducible refine HAT.out.mono ?_); rintro e W5 ⟨rfl, rfl⟩) | (go_at_call 56; (with_reducible refine HAZ.out.mono ?_); rintro e W5 ⟨rfl, rfl⟩))
  go_wp2_with fail
  refine bodyPost_ret (results_ins3 rfl _ _ w.heap.size _ _ _ _ _ _ rfl HZ.out) rfl ?_
  obtain ⟨n, e, h1, h2⟩ := HQ.out
  exact ⟨⟨n, by rw [e]; rfl, h1, h2⟩, HBZ.out⟩
end Go.Proofs.YthjnkaikjjjceaaDoor
