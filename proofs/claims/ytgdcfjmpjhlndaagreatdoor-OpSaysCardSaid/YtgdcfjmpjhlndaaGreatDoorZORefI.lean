/-
  lodgeref3.Apply of any operation, given what Result and element of it answer. lodgeref3.Element of any operation, given what Result and element of it answer. lodgesee.Same of faults with a place, of what functions of tensors tell (texts of ten K, O for a seat of another layer); lodgesee.Is of what they tell. lodgeref3.Apply and Element of MatMul, Apply of Turn. By an AI agent. No person has read it.
-/
import Derived.Test.YtgdcfjmpjhlndaaGreatDoorZORefR
import Derived.Test.YtgdcfjmpjhlndaaGreatDoorZORefE
import Derived.Test.YtgdcfjmpjhlndaaGreatDoorZOElmS
import Derived.Test.YtgdcfjmpjhlndaaGreatDoorZOErrB
import Derived.Test.YtgdcfjmpjhlndaaGreatDoorZOCelC
import Derived.RegionTactic
namespace Go.Proofs.YtgdcfjmpjhlndaaGreatDoor
open Go.RowKit
theorem Has.drew1 {w : World} {g : Nat} {t : TypeId} {cs : List Value} (h : Has w g t cs) : Has w.drew g t cs := h
theorem results_tf {fn : Func} {p q : Tmp} (h : fn.results = #[.cell p 26, .cell q 36]) (tmps : Array Value) (w : World) (g g2 : Nat) (x y z a b c : Value)
  (hp : tmps.getD p undef = .pointer (some ⟨g, 0, none⟩)) (hq : tmps.getD q undef = .pointer (some ⟨g2, 0, none⟩)) (hg : Has w g 26 [x, y, z]) (hg2 : Has w g2 36 [a, b, c]) : (results fn tmps).run Tryz.prog w = .ok (.tuple #[.agg #[x, y, z], .agg #[a, b, c]]) w := by
 have h1 := run_loadVar_row (P := Tryz.prog) w g 26 26 #[x, y, z] (0, 0) _ hg Tryz.underlying26 rfl (by kernel_rfl)
 have h2 := run_loadVar_row (P := Tryz.prog) w g2 36 36 #[a, b, c] (0, 0) _ hg2 Tryz.underlying36 rfl (by kernel_rfl)
 have e : (results fn tmps).run Tryz.prog w = ((asAddr (tmps.getD p undef)).run Tryz.prog w).andThen fun a w₁ => ((loadVar 26 a).run Tryz.prog w₁).andThen fun v w₂ => ((asAddr (tmps.getD q undef)).run Tryz.prog w₂).andThen fun a2 w₃ => ((loadVar 36 a2).run Tryz.prog w₃).andThen fun v2 w₄ => .ok (.tuple #[v, v2]) w₄ := by
  simp only [results, h]
  simp [Sem.run_bind, Result.andThen]
 rw [e, hp, hq]
 simp [asAddr, h1, h2, Result.andThen]
theorem fval_is (R : Nat × Option Nat) : ∃ p i, Tens.fval R = gcells (R.1 : Int) p i := by
 obtain ⟨k, o⟩ := R
 cases o with
 | none => exact ⟨false, 0, rfl⟩
 | some i => exact ⟨true, i, rfl⟩
def RefD (w : World) (zs : List Int) (u : Bool) (k : Nat) (e : Ending) (w' : World) : Prop :=
 (∃ d : Dsc, e = .returned (.tuple #[.agg (dcells d.P d.zs.length d.cap d.u), .int .i64 (k : Nat)]) ∧ d.In w' ∧ d.zs = zs ∧ d.u = u) ∧ Below w.heap.size w w'
theorem RefE.d {w w' : World} {zs : List Int} {u : Bool} {k : Nat} {e : Ending} (h : RefE w zs u k e w') : RefD w zs u k e w' := by
 obtain ⟨⟨d, h1, h2, -, h3, h4⟩, hb⟩ := h
 exact ⟨⟨d, h1, h2, h3, h4⟩, hb⟩
set_option maxRecDepth 100000 in
set_option maxHeartbeats 4000000 in
theorem rapply_d (op : Int) (ts : List Ten) (A B : Option Addr) (nq qcap cap : Nat) (zs : List Int) (u : Bool) (k : Nat) (out : List Int) (w : World)
  (hR : Row w B (ts.flatMap Ten.vals)) (hI : ∀ t ∈ ts, t.In w) (hl : ts.length ≤ 1000000)
  (HRes : ∀ W B' cap', Below w.heap.size w W → Row W B' (ts.flatMap fun t => t.look.vals) → Calls Tryz.prog 38 #[.int .i64 op, .slice A nq qcap, .slice B' ts.length cap'] W (RefD W zs u k))
  (hout : Cel.fault ts k = (0, none) → out.length = (Shp.elems zs).toNat ∧ (∀ z ∈ out, (Lit.int .i64 z).wf = true) ∧ out.length ≤ 1000000)
  (HEl : Cel.fault ts k = (0, none) → ∀ (i : Nat) (v : Int) (W : World) (d : Dsc), out[i]? = some v → Below w.heap.size w W → d.In W → d.zs = zs → d.u = u → Calls Tryz.prog 42 #[.int .i64 op, .slice A nq qcap, .int .i64 i, .slice B ts.length cap, .agg (dcells d.P d.zs.length d.cap d.u)] W fun e w' => e = .returned (.int .i64 v) ∧ Below W.heap.size W w') :
  Calls Tryz.prog 11 #[.int .i64 op, .slice A nq qcap, .slice B ts.length cap] w (RTenE w (Cel.fault ts k) (Cel.or ts k zs []) (Cel.or ts k u false) (Cel.or ts k out [])) := by
 obtain ⟨W0, hW0⟩ : ∃ W, W = (w.alloc (.cells #[.slice none 0 0, .bool false, .slice none 0 0] 26)).alloc (.cells #[.int .i64 0, .bool false, .int .i64 0] 36) := ⟨_, rfl⟩
 have HZ : Hid (Has W0 w.heap.size 26 [.slice none 0 0, .bool false, .slice none 0 0]) := hide (by rw [hW0]; exact (Has.new w 26 _).alloc _)
 have HY : Hid (Has W0 (w.heap.size + 1) 36 [.int .i64 0, .bool false, .int .i64 0]) := hide (by rw [hW0]; exact box_at _ _ _ _ (by simp))
 have HB : Hid (Below w.heap.size w W0) := hide (by rw [hW0]; exact ((Below.refl _ _).alloc (Nat.le_refl _) _).alloc (by simp) _)
 have V : Hid (∀ (i : Nat) (t : Ten), ts[i]? = some t → ∀ W, Below w.heap.size w W → Calls Tryz.prog 37 #[.agg (tcells t.P t.zs.length t.cap t.u t.D t.ds.length t.dcap)] W fun e w' => e = .returned (.agg (Tens.fval t.fault)) ∧ Below W.heap.size W w') := hide fun i t ht W hb => by
  have h := (hI t (List.mem_of_getElem? ht)).below hb
  exact rvalid_c t.zs t.ds t.P t.D t.cap t.dcap t.u W h.shp h.dat h.ls h.ld
 have HR := hide hR
 have HDO := hide (fun W (hb : Below w.heap.size w W) => descsof_c ts B cap W (hR.below hb) hl)
 have HRE := hide HRes
 have HOU := hide hout
 have HEL := hide HEl
 have HW := hide hW0
 obtain ⟨n, hn⟩ : ∃ n, Hid (ts.length = n) := ⟨_, hide rfl⟩
 rw [hn.out] at hl HDO HRE HEL ⊢
 clear hR hI HRes hout HEl hW0
 go_enter Tryz.func11, Tryz.ntmps11
 go_wp2_with fail
 rw [← HW.out]
 clear HW
 go_loopw [8, 9] (fun k9 _ wr => ∃ i : Nat, i ≤ n ∧ k9 = .int .i64 i ∧ Hid (Has wr w.heap.size 26 [.slice none 0 0, .bool false, .slice none 0 0]) ∧ Hid (Has wr (w.heap.size + 1) 36 [.int .i64 0, .bool false, .int .i64 0]) ∧ Hid (Below w.heap.size w wr) ∧ Hid (∀ (j : Nat) x, j < i → ts[j]? = some x → x.fault = (0, none))) (fun k9 _ _ => n - (intOf k9).toNat)
 case atStart => exact ⟨0, by omega, rfl, HZ, HY, HB, hide (fun j x hj => by omega)⟩
 case round =>
  clear HZ HY HB
  obtain ⟨i, hi, rfl, HZ, HY, HB, HF⟩ := hrel
  by_cases hlt : i < n
  case pos =>
   obtain ⟨ad, t, rfl, had, ht, c0, c1, c2⟩ := row_ten (HR.out.below HB.out) i (by rw [hn.out]; exact hlt)
   have HV := hide (V.out i t ht.out _ HB.out)
   obtain ⟨pp, pi, hfv⟩ := fval_is t.fault
   rw [hfv] at HV
   have HFV := hide hfv
   have hcs := tfault_cases t.zs t.u t.ds
   have hek : Ten.fault t = Tens.fault t.zs t.u t.ds := rfl
   rw [← hek] at hcs
   have HF1 : Hid (t.fault.1 = 0 → t.fault = (0, none)) := hide (fun h => by
    rcases hcs with e | e | e | e | ⟨j, e⟩
    ·exact e
    ·rw [e] at h; cases h
    ·rw [e] at h; cases h
    ·rw [e] at h; cases h
    ·rw [e] at h; cases h)
   obtain ⟨kc, hkc⟩ : ∃ q_, Hid (t.fault.1 = q_) := ⟨_, hide rfl⟩
   rw [hkc.out] at HV HF1
   clear hcs hek hfv had
   go_wp2_with fail
   clear c0 c1 c2
   refine HV.out.mono ?_
   rintro e w1 ⟨rfl, hb⟩
   replace HZ := hide (HZ.out.below hb HZ.out.lt)
   replace HY := hide (HY.out.below hb HY.out.lt)
   replace HB := hide (HB.out.trans (hb.mono HB.out.size))
   clear hb HV
   obtain ⟨w2, hw2⟩ : ∃ W, W = w1.alloc (.cells #[.int .i64 kc, .bool pp, .int .i64 pi] 36) := ⟨_, rfl⟩
   have hb2 : Below w1.heap.size w1 w2 := by rw [hw2]; exact (Below.refl _ _).alloc (Nat.le_refl _) _
   have HT9 : Hid (Has w2 w1.heap.size 36 [.int .i64 kc, .bool pp, .int .i64 pi]) := hide (by rw [hw2]; exact Has.new _ _ _)
   have HW1Z := hide HZ.out.lt
   have HW1Y := hide HY.out.lt
   replace HZ := hide (HZ.out.below hb2 HZ.out.lt)
   replace HY := hide (HY.out.below hb2 HY.out.lt)
   replace HB := hide (HB.out.trans (hb2.mono HB.out.size))
   have HW2 := hide hw2
   clear hb2 hw2
   by_cases h0 : kc = 0
   case neg =>
    have h1 : ((kc : Int) == 0) = false := by simp; omega
    have h2 : ((kc : Int) != 0) = true := by simp; omega
    have HNF : Hid (t.fault ≠ (0, none)) := hide (fun h => h0 (by rw [← hkc.out, h]))
    have HFI := hide (Tens.first_at ts i t ht.out HF.out HNF.out)
    have HCF : Hid (Cel.fault ts k = t.fault) := hide (by rw [Cel.fault_first (by rw [HFI.out]; exact HNF.out), HFI.out])
    obtain ⟨z0, z1, z2, zf0, zf1, zf2, HZf, HFf⟩ := elm_three (b := w.heap.size) HZ.out HB.out (Nat.le_refl _) (.slice none 0 0) (.bool false) (.slice none 0 0)
    obtain ⟨y0, y1, y2, yf0, yf1, yf2, HYf, HGf⟩ := elm_three (b := w.heap.size + 1) (((HY.out.far (p := ⟨w.heap.size, 0, none⟩) (by simp) (.slice none 0 0)).far (p := ⟨w.heap.size, 1, none⟩) (by simp) (.bool false)).far (p := ⟨w.heap.size, 2, none⟩) (by simp) (.slice none 0 0)) HFf.out (Nat.le_add_right _ 1) (.int .i64 kc) (.bool pp) (.int .i64 pi)
    have hS00 : CS3 ⟨w1.heap.size, 0, none⟩ ⟨w1.heap.size, 1, none⟩ ⟨w1.heap.size, 2, none⟩ (.int .i64 kc) (.bool pp) (.int .i64 pi) w2 := ⟨HT9.out.cell 0, HT9.out.cell 1, HT9.out.cell 2⟩
    have hS0 : CS3 ⟨w1.heap.size, 0, none⟩ ⟨w1.heap.size, 1, none⟩ ⟨w1.heap.size, 2, none⟩ (.int .i64 kc) (.bool pp) (.int .i64 pi) w2.drew := hS00
    have n1 : w.heap.size ≠ w1.heap.size := Nat.ne_of_lt HW1Z.out
    have n2 : w.heap.size + 1 ≠ w1.heap.size := Nat.ne_of_lt HW1Y.out
    have hS1 := hide (CS3.far (CS3.far (CS3.far hS00 n1 n1 n1 0 (.slice none 0 0)) n1 n1 n1 1 (.bool false)) n1 n1 n1 2 (.slice none 0 0))
    have hS2 := hide (CS3.far (CS3.far (CS3.far hS1.out n2 n2 n2 0 (.int .i64 kc)) n2 n2 n2 1 (.bool pp)) n2 n2 n2 2 (.int .i64 pi))
    have HZf2 := hide (((HZf.out.far (p := ⟨w.heap.size + 1, 0, none⟩) (by simp) (.int .i64 kc)).far (p := ⟨w.heap.size + 1, 1, none⟩) (by simp) (.bool pp)).far (p := ⟨w.heap.size + 1, 2, none⟩) (by simp) (.int .i64 pi))
    have hS3 := hide (CS3.drew hS1.out)
    have hS4 := hide (CS3.drew hS2.out)
    clear hS00 h0 n1 n2 hS1 hS2
    go_wp2_with fail
    rw [← HW2.out]
    clear HW2
    go_region_held3 (fun W => W.cell? ⟨w1.heap.size, 0, none⟩ = some (.int .i64 kc) ∧ W.cell? ⟨w1.heap.size, 1, none⟩ = some (.bool pp) ∧ W.cell? ⟨w1.heap.size, 2, none⟩ = some (.int .i64 pi))
     (first | with_reducible exact hS0 | with_reducible exact hS3.out | with_reducible exact hS4.out | with_reducible assumption)
     (first | fail)
    have HZf3 := hide HZf2.out.drew1
    have HYf3 := hide HYf.out.drew1
    go_wp2_with fail
    refine bodyPost_ret (results_tf rfl _ _ w.heap.size (w.heap.size + 1) _ _ _ _ _ _ rfl rfl HZf3.out HYf3.out) rfl ?_
    rw [HCF.out]
    have hor : ∀ {α : Type} (p q : α), Cel.or ts k p q = q := fun p q => by
     unfold Cel.or
     rw [if_neg (by rw [HCF.out]; exact HNF.out)]
    rw [hor, hor, hor]
    exact RTenE.bad (by rw [HFV.out, hkc.out]) HGf.out.drew
   case pos =>
    subst h0
    have HFt : Hid (t.fault = (0, none)) := hide (HF1.out rfl)
    have HW3 : Hid (w2 = w1.alloc (.cells #[.int .i64 0, .bool pp, .int .i64 pi] 36)) := hide HW2.out
    go_wp2_with fail
    rw [← HW3.out]
    clear HW2 HW3
    go_roundw
    case rel =>
     refine ⟨i + 1, by omega, by go_num, HZ, HY, HB, hide (fun j x hj hx => ?_)⟩
     rcases Nat.lt_or_ge j i with h | h
     ·exact HF.out j x h hx
     ·obtain rfl : j = i := by omega
      rw [ht.out] at hx
      obtain rfl := Option.some.inj hx
      exact HFt.out
    case measure => simp [intOf]; omega
  case neg =>
  obtain rfl : i = n := by omega
  have HFN := hide (Tens.first_none ts fun j x hx => HF.out j x (by have := (List.getElem?_eq_some_iff.1 hx).1; rw [hn.out] at this; exact this) hx)
  have HCF := hide (Cel.fault_code (k := k) HFN.out)
  clear HF V
  go_wp2_with fail
  refine (HDO.out _ HB.out).mono ?_
  rintro e w1 ⟨⟨v, rfl, hown⟩, hb⟩
  replace HZ := hide (HZ.out.below hb HZ.out.lt)
  replace HY := hide (HY.out.below hb HY.out.lt)
  replace HB := hide (HB.out.trans (hb.mono HB.out.size))
  obtain ⟨B', c', rfl, hrow, -⟩ := own_row2 hown
  have HRC := hide (HRE.out w1 B' c' HB.out hrow)
  clear hb hown hrow HDO HRE
  go_wp2_with fail
  refine HRC.out.mono ?_
  rintro e w2 ⟨⟨d, rfl, hdi, hdz, hdu⟩, hb⟩
  replace HZ := hide (HZ.out.below hb HZ.out.lt)
  replace HY := hide (HY.out.below hb HY.out.lt)
  replace HB := hide (HB.out.trans (hb.mono HB.out.size))
  have HDZ := hide hdz
  have HDU := hide hdu
  clear hb HRC hdz hdu
  obtain ⟨w3, hw3⟩ : ∃ W, W = w2.alloc (.cells #[.slice d.P d.zs.length d.cap, .bool d.u] 24) := ⟨_, rfl⟩
  have hb3 : Below w2.heap.size w2 w3 := by rw [hw3]; exact (Below.refl _ _).alloc (Nat.le_refl _) _
  have HT10 : Hid (Has w3 w2.heap.size 24 [.slice d.P d.zs.length d.cap, .bool d.u]) := hide (by rw [hw3]; exact Has.new _ _ _)
  replace HZ := hide (HZ.out.below hb3 HZ.out.lt)
  replace HY := hide (HY.out.below hb3 HY.out.lt)
  replace HB := hide (HB.out.trans (hb3.mono HB.out.size))
  have HDI := hide (hdi.below hb3)
  have HW3 := hide hw3
  clear hb3 hw3 hdi
  by_cases h0 : k = 0
  case neg =>
   have h1 : ((k : Int) == 0) = false := by simp; omega
   have h2 : ((k : Int) != 0) = true := by simp; omega
   have HNF : Hid (Cel.fault ts k ≠ (0, none)) := hide (by rw [HCF.out]; intro h; exact h0 (Prod.mk.inj h).1)
   clear h0
   go_wp2_with fail
   rw [← HW3.out]
   clear HW3
   refine (bare_c (k : Int) w3).mono ?_
   rintro e w4 ⟨rfl, hb⟩
   replace HZ := hide (HZ.out.below hb HZ.out.lt)
   replace HY := hide (HY.out.below hb HY.out.lt)
   replace HB := hide (HB.out.trans (hb.mono HB.out.size))
   clear hb
   obtain ⟨z0, z1, z2, zf0, zf1, zf2, HZf, HFf⟩ := elm_three (b := w.heap.size) HZ.out HB.out (Nat.le_refl _) (.slice none 0 0) (.bool false) (.slice none 0 0)
   obtain ⟨y0, y1, y2, yf0, yf1, yf2, HYf, HGf⟩ := elm_three (b := w.heap.size + 1) (((HY.out.far (p := ⟨w.heap.size, 0, none⟩) (by simp) (.slice none 0 0)).far (p := ⟨w.heap.size, 1, none⟩) (by simp) (.bool false)).far (p := ⟨w.heap.size, 2, none⟩) (by simp) (.slice none 0 0)) HFf.out (Nat.le_add_right _ 1) (.int .i64 (k : Int)) (.bool false) (.int .i64 0)
   have HZf2 := hide (((HZf.out.far (p := ⟨w.heap.size + 1, 0, none⟩) (by simp) (.int .i64 (k : Int))).far (p := ⟨w.heap.size + 1, 1, none⟩) (by simp) (.bool false)).far (p := ⟨w.heap.size + 1, 2, none⟩) (by simp) (.int .i64 0))
   go_wp2_with fail
   refine bodyPost_ret (results_tf rfl _ _ w.heap.size (w.heap.size + 1) _ _ _ _ _ _ rfl rfl HZf2.out HYf.out) rfl ?_
   have hor : ∀ {α : Type} (p q : α), Cel.or ts k p q = q := fun p q => by
    unfold Cel.or
    rw [if_neg HNF.out]
   rw [hor, hor, hor, HCF.out]
   exact RTenE.bad rfl HGf.out
  case pos =>
  subst h0
  have HOV := hide (HOU.out HCF.out)
  have HEV := hide (HEL.out HCF.out)
  clear HOU HEL
  have h2 : ((0 : Int) != 0) = false := rfl
  have c0 := HT10.out.cell 0
  have c1 := HT10.out.cell 1
  have HZC := hide (rzero_c d.zs d.P d.cap d.u w3 HDI.out.shp HDI.out.ls)
  rw [HDZ.out] at HZC
  obtain ⟨m, hm⟩ : ∃ q_, Hid ((Shp.elems zs).toNat = q_) := ⟨_, hide rfl⟩
  rw [hm.out] at HZC HOV
  rw [← HDZ.out] at HZC
  go_wp2_with fail
  rw [← HW3.out]
  clear HW3 c0 c1 h2
  refine HZC.out.mono ?_
  rintro e w5 ⟨⟨g, c, rs, gd, rfl, hg, hgd, hg1, hg2, hgn⟩, hb⟩
  have HWZ : Hid (w.heap.size + 1 < w3.heap.size ∧ w2.heap.size < w3.heap.size ∧ w3.heap.size ≤ g ∧ w3.heap.size ≤ gd ∧ g ≠ gd ∧ g < w5.heap.size ∧ gd < w5.heap.size ∧ w3.heap.size ≤ w5.heap.size) := hide ⟨HY.out.lt, HT10.out.lt, hg1, hg2, hgn, hg.lt, hgd.lt, hb.size⟩
  have HB3 := hide hb
  clear HZC
  obtain ⟨w6, hw6⟩ : ∃ W, W = w5.alloc (.cells #[.slice (some ⟨g, 0, none⟩) d.zs.length c, .bool d.u, .slice (some ⟨gd, 0, none⟩) m m] 26) := ⟨_, rfl⟩
  have hb6 : Below w5.heap.size w5 w6 := by rw [hw6]; exact (Below.refl _ _).alloc (Nat.le_refl _) _
  have HT12 : Hid (Has w6 w5.heap.size 26 [.slice (some ⟨g, 0, none⟩) d.zs.length c, .bool d.u, .slice (some ⟨gd, 0, none⟩) m m]) := hide (by rw [hw6]; exact Has.new _ _ _)
  have HGG := hide (hg.below hb6 hg.lt)
  have HGD := hide (hgd.below hb6 hgd.lt)
  replace HB3 := hide (HB3.out.trans (hb6.mono HB3.out.size))
  have HW6 := hide hw6
  clear hb hg hgd hg1 hg2 hgn hb6 hw6
  go_wp2_with fail
  rw [← HW6.out]
  clear HW6
  go_loopw [13] (fun k9 wr => ∃ (i : Nat) (ds : List Int), i ≤ m ∧ k9 = .int .i64 i ∧ Hid (ds.length = m) ∧ Hid (∀ j, j < i → ds[j]? = out[j]?) ∧ Hid (Has wr gd 3 (i64s ds)) ∧ Hid (Has wr w5.heap.size 26 [.slice (some ⟨g, 0, none⟩) d.zs.length c, .bool d.u, .slice (some ⟨gd, 0, none⟩) m m]) ∧ Hid (Has wr g 3 (i64s d.zs ++ rs)) ∧ Hid (Below w3.heap.size w3 wr)) (fun k9 _ => m - (intOf k9).toNat)
  case atStart => exact ⟨0, _, by omega, rfl, hide (by simp), hide (fun j hj => by omega), HGD, HT12, HGG, HB3⟩
  case round =>
   clear HGD HT12 HGG HB3
   obtain ⟨i, ds, hi, rfl, HDL, HDV, HGD, HT12, HGG, HB3⟩ := hrel
   have hwz := HWZ.out
   have e2 := HT12.out.cell 2
   by_cases hlt : i < m
   case pos =>
    obtain ⟨v, hv⟩ : ∃ v, out[i]? = some v := ⟨_, List.getElem?_eq_getElem (by rw [HOV.out.1]; exact hlt)⟩
    have hii : (i : Int) < (m : Int) := by omega
    have hi0 : (0 : Int) ≤ (i : Int) := by omega
    have him : ((i : Nat) : Int) + 1 ≤ 1000001 := by have h1 := HOV.out; omega
    have hbr := HB.out.trans (HB3.out.mono HB.out.size)
    have HC := hide (HEV.out i v wr.drew d hv hbr.drew (HDI.out.below HB3.out.drew) HDZ.out HDU.out)
    have t0 := (HT10.out.below HB3.out HT10.out.lt)
    have hS00 : CS3 ⟨w5.heap.size, 2, none⟩ ⟨w2.heap.size, 0, none⟩ ⟨w2.heap.size, 1, none⟩ (.slice (some ⟨gd, 0, none⟩) m m) (.slice d.P d.zs.length d.cap) (.bool d.u) wr := ⟨e2, t0.cell 0, t0.cell 1⟩
    have hS0 : CS3 ⟨w5.heap.size, 2, none⟩ ⟨w2.heap.size, 0, none⟩ ⟨w2.heap.size, 1, none⟩ (.slice (some ⟨gd, 0, none⟩) m m) (.slice d.P d.zs.length d.cap) (.bool d.u) wr.drew := hS00
    have HL1 := hide HT12.out.lt
    have HL2 := hide t0.lt
    have HLT := hide hlt
    have HVV := hide hv
    clear hbr t0 hS00 hlt hv hwz
    go_wp2_with fail
    clear e2
    go_region_held3 (fun W => W.cell? ⟨w5.heap.size, 2, none⟩ = some (.slice (some ⟨gd, 0, none⟩) m m) ∧ W.cell? ⟨w2.heap.size, 0, none⟩ = some (.slice d.P d.zs.length d.cap) ∧ W.cell? ⟨w2.heap.size, 1, none⟩ = some (.bool d.u))
     (first | with_reducible exact hS0 | with_reducible exact hS2 | with_reducible exact hS3.out | with_reducible assumption)
     (first | (go_at_call 42; (with_reducible refine HC.out.mono ?_); rintro e w9 ⟨rfl, hb⟩; have hS2 := CS3.keep hS0 HL1.out HL2.out HL2.out hb; have n1 : gd ≠ w5.heap.size := (by have := HWZ.out; omega); have n2 : gd ≠ w2.heap.size := (by have := HWZ.out; omega); have hS3 := hide (CS3.far hS2 n1 n2 n2 i (.int .i64 v)); have HG9 := hide (HGD.out.drew1.below hb HGD.out.lt); have HX9 := hide (HT12.out.drew1.below hb HT12.out.lt); have HR9 := hide (HGG.out.drew1.below hb HGG.out.lt); have HB9 := hide (HB3.out.drew.trans (hb.mono HB3.out.size)); have g1 : w9.cell? ⟨gd, i, none⟩ = some (.int .i64 (ds[i]'(by rw [HDL.out]; exact HLT.out))) := (by rw [HG9.out.cell]; unfold i64s; rw [List.getElem?_map, List.getElem?_eq_getElem (by rw [HDL.out]; exact HLT.out)]; rfl); have gf := HG9.out.frozen i))
    go_wp2_with fail
    go_roundw
    case rel =>
     have hlt := HLT.out
     refine ⟨i + 1, ds.set i v, by omega, by go_num, hide (by rw [List.length_set]; exact HDL.out), hide (fun j hj => ?_), ?_, hide (HX9.out.far (p := ⟨gd, i, none⟩) n1.symm (.int .i64 v)), hide (HR9.out.far (p := ⟨gd, i, none⟩) (by have := HWZ.out; show g ≠ gd; omega) (.int .i64 v)), hide (HB9.out.setCell (p := ⟨gd, i, none⟩) (by have := HWZ.out; show w3.heap.size ≤ gd; omega) (.int .i64 v))⟩
     ·rw [List.getElem?_set]
      by_cases h : i = j
      ·subst h
       rw [if_pos rfl, if_pos (by rw [HDL.out]; exact hlt), HVV.out]
      ·rw [if_neg h]
       exact HDV.out j (by omega)
     ·have h := HG9.out.set_ i (.int .i64 v)
      unfold i64s at h ⊢
      rw [List.map_set]
      exact hide h
    case measure => simp [intOf]; have := HLT.out; omega
   case neg =>
    obtain rfl : i = m := by omega
    have hx : ds = out := List.ext_getElem? (fun j => by
     rcases Nat.lt_or_ge j i with h | h
     ·exact HDV.out j h
     ·rw [List.getElem?_eq_none (by rw [HDL.out]; exact h), List.getElem?_eq_none (by rw [HOV.out.1]; exact h)])
    subst hx
    have hii : ¬ (i : Int) < (i : Int) := by omega
    have hS00 : CS3 ⟨w5.heap.size, 0, none⟩ ⟨w5.heap.size, 1, none⟩ ⟨w5.heap.size, 2, none⟩ (.slice (some ⟨g, 0, none⟩) d.zs.length c) (.bool d.u) (.slice (some ⟨gd, 0, none⟩) i i) wr := ⟨HT12.out.cell 0, HT12.out.cell 1, e2⟩
    have hS0 : CS3 ⟨w5.heap.size, 0, none⟩ ⟨w5.heap.size, 1, none⟩ ⟨w5.heap.size, 2, none⟩ (.slice (some ⟨g, 0, none⟩) d.zs.length c) (.bool d.u) (.slice (some ⟨gd, 0, none⟩) i i) wr.drew := hS00
    have HC := hide (none_c wr.drew)
    have HZr := hide (HZ.out.below HB3.out HZ.out.lt).drew1
    have HYr := hide (HY.out.below HB3.out HY.out.lt).drew1
    have HBr := hide (HB.out.trans (HB3.out.mono HB.out.size)).drew
    have HL1 := hide HT12.out.lt
    clear hS00 hwz
    go_wp2_with fail
    clear e2
    go_region_held3 (fun W => W.cell? ⟨w5.heap.size, 0, none⟩ = some (.slice (some ⟨g, 0, none⟩) d.zs.length c) ∧ W.cell? ⟨w5.heap.size, 1, none⟩ = some (.bool d.u) ∧ W.cell? ⟨w5.heap.size, 2, none⟩ = some (.slice (some ⟨gd, 0, none⟩) i i))
     (first | with_reducible exact hS0 | with_reducible exact hS2 | with_reducible exact hS3.out | with_reducible exact hS4.out | with_reducible assumption)
     (first | (go_at_call 43; (with_reducible refine HC.out.mono ?_); rintro e w9 ⟨rfl, hb⟩; have hS2 := CS3.keep hS0 HL1.out HL1.out HL1.out hb; have n1 : w.heap.size ≠ w5.heap.size := (by have := HWZ.out; omega); have n2 : w.heap.size + 1 ≠ w5.heap.size := (by have := HWZ.out; omega); have hS3 := hide (CS3.far (CS3.far (CS3.far hS2 n1 n1 n1 0 (.slice (some ⟨g, 0, none⟩) d.zs.length c)) n1 n1 n1 1 (.bool d.u)) n1 n1 n1 2 (.slice (some ⟨gd, 0, none⟩) i i)); have hS4 := hide (CS3.far (CS3.far (CS3.far hS3.out n2 n2 n2 0 (.int .i64 0)) n2 n2 n2 1 (.bool false)) n2 n2 n2 2 (.int .i64 0)); have HG9 := hide (HGD.out.drew1.below hb HGD.out.lt); have HR9 := hide (HGG.out.drew1.below hb HGG.out.lt); have HZ9 := hide (HZr.out.below hb HZr.out.lt); have HY9 := hide (HYr.out.below hb HYr.out.lt); have HB9 := hide (HBr.out.trans (hb.mono HBr.out.size)); obtain ⟨z0, z1, z2, zf0, zf1, zf2, HZf, HFf⟩ := elm_three (b := w.heap.size) HZ9.out HB9.out (Nat.le_refl _) (.slice (some ⟨g, 0, none⟩) d.zs.length c) (.bool d.u) (.slice (some ⟨gd, 0, none⟩) i i); obtain ⟨y0, y1, y2, yf0, yf1, yf2, HYf, HGf⟩ := elm_three (b := w.heap.size + 1) (((HY9.out.far (p := ⟨w.heap.size, 0, none⟩) (by simp) (.slice (some ⟨g, 0, none⟩) d.zs.length c)).far (p := ⟨w.heap.size, 1, none⟩) (by simp) (.bool d.u)).far (p := ⟨w.heap.size, 2, none⟩) (by simp) (.slice (some ⟨gd, 0, none⟩) i i)) HFf.out (Nat.le_add_right _ 1) (.int .i64 0) (.bool false) (.int .i64 0)))
    go_wp2_with fail
    have HZf2 := hide (((HZf.out.far (p := ⟨w.heap.size + 1, 0, none⟩) (by simp) (.int .i64 0)).far (p := ⟨w.heap.size + 1, 1, none⟩) (by simp) (.bool false)).far (p := ⟨w.heap.size + 1, 2, none⟩) (by simp) (.int .i64 0))
    refine bodyPost_ret (results_tf rfl _ _ w.heap.size (w.heap.size + 1) _ _ _ _ _ _ rfl rfl HZf2.out HYf.out) rfl ?_
    have hor : ∀ {α : Type} (p q : α), Cel.or ts 0 p q = p := fun p q => by
     unfold Cel.or
     rw [if_pos HCF.out]
    rw [hor, hor, hor, HCF.out]
    have hwz := HWZ.out
    have far6 : ∀ (b : Nat) (t : TypeId) (cs : List Value), b ≠ w.heap.size → b ≠ w.heap.size + 1 → Has w9 b t cs → Has ((((((w9.setCell ⟨w.heap.size, 0, none⟩ (.slice (some ⟨g, 0, none⟩) d.zs.length c)).setCell ⟨w.heap.size, 1, none⟩ (.bool d.u)).setCell ⟨w.heap.size, 2, none⟩ (.slice (some ⟨gd, 0, none⟩) i i)).setCell ⟨w.heap.size + 1, 0, none⟩ (.int .i64 0)).setCell ⟨w.heap.size + 1, 1, none⟩ (.bool false)).setCell ⟨w.heap.size + 1, 2, none⟩ (.int .i64 0)) b t cs := fun b t cs h1 h2 h =>
     (((((h.far (p := ⟨w.heap.size, 0, none⟩) h1 _).far (p := ⟨w.heap.size, 1, none⟩) h1 _).far (p := ⟨w.heap.size, 2, none⟩) h1 _).far (p := ⟨w.heap.size + 1, 0, none⟩) h2 _).far (p := ⟨w.heap.size + 1, 1, none⟩) h2 _).far (p := ⟨w.heap.size + 1, 2, none⟩) h2 _
    refine ⟨⟨⟨some ⟨g, 0, none⟩, d.zs, c, d.u, some ⟨gd, 0, none⟩, ds, i⟩, ?_, ⟨(far6 g _ _ (by omega) (by omega) HR9.out).ri_app HDI.out.shp.1, (far6 gd _ _ (by omega) (by omega) HG9.out).ri HOV.out.2.1, HDI.out.ls, HOV.out.2.2⟩, HDZ.out, HDU.out, rfl⟩, HGf.out⟩
    rw [HDL.out]
    rfl
set_option maxRecDepth 100000 in
set_option maxHeartbeats 2000000 in
theorem relement_d (op : Int) (ts : List Ten) (A B : Option Addr) (nq qcap cap : Nat) (zs : List Int) (u : Bool) (k : Nat) (out : List Int) (i : Int) (w : World)
  (hR : Row w B (ts.flatMap Ten.vals)) (hI : ∀ t ∈ ts, t.In w) (hl : ts.length ≤ 1000000)
  (HRes : ∀ W B' cap', Below w.heap.size w W → Row W B' (ts.flatMap fun t => t.look.vals) → Calls Tryz.prog 38 #[.int .i64 op, .slice A nq qcap, .slice B' ts.length cap'] W (RefD W zs u k))
  (hout : Cel.fault ts k = (0, none) → out.length = (Shp.elems zs).toNat)
  (HEl : Cel.fault ts k = (0, none) → ∀ (i : Nat) (v : Int) (W : World) (d : Dsc), out[i]? = some v → Below w.heap.size w W → d.In W → d.zs = zs → d.u = u → Calls Tryz.prog 42 #[.int .i64 op, .slice A nq qcap, .int .i64 i, .slice B ts.length cap, .agg (dcells d.P d.zs.length d.cap d.u)] W fun e w' => e = .returned (.int .i64 v) ∧ Below W.heap.size W w') :
  Calls Tryz.prog 19 #[.int .i64 op, .slice A nq qcap, .int .i64 i, .slice B ts.length cap] w fun e w' => e = .returned (.int .i64 (if Cel.fault ts k = (0, none) then (if 0 ≤ i then out.getD i.toNat 0 else 0) else 0)) ∧ Below w.heap.size w w' := by
 have V : Hid (∀ (i : Nat) (t : Ten), ts[i]? = some t → ∀ W, Below w.heap.size w W → Calls Tryz.prog 53 #[.agg (tcells t.P t.zs.length t.cap t.u t.D t.ds.length t.dcap)] W fun e w' => e = .returned (.bool (decide (t.fault = (0, none)))) ∧ Below W.heap.size W w') := hide fun i t ht W hb => by
  have h := (hI t (List.mem_of_getElem? ht)).below hb
  exact good_c t.zs t.ds t.P t.D t.cap t.dcap t.u W h.shp h.dat h.ls h.ld
 have HR := hide hR
 have HDO := hide (fun W (hb : Below w.heap.size w W) => descsof_c ts B cap W (hR.below hb) hl)
 have HRE := hide HRes
 have HOU := hide hout
 have HEL := hide HEl
 have HB : Hid (Below w.heap.size w w) := hide (Below.refl _ _)
 obtain ⟨n, hn⟩ : ∃ n, Hid (ts.length = n) := ⟨_, hide rfl⟩
 rw [hn.out] at hl HDO HRE HEL ⊢
 obtain ⟨X, hX⟩ : ∃ X, Hid ((if Cel.fault ts k = (0, none) then (if 0 ≤ i then out.getD i.toNat 0 else 0) else 0) = X) := ⟨_, hide rfl⟩
 have HX0 : Hid (Cel.fault ts k ≠ (0, none) → X = 0) := hide (fun h => by rw [← hX.out, if_neg h])
 have HX1 : Hid (Cel.fault ts k = (0, none) → (if 0 ≤ i then out.getD i.toNat 0 else 0) = X) := hide (fun h => by rw [← hX.out, if_pos h])
 rw [hX.out]
 clear hR hI HRes hout HEl
 go_enter Tryz.func19, Tryz.ntmps19
 go_wp2_with fail
 go_loopw [9] (fun k9 wr => ∃ j : Nat, j ≤ n ∧ k9 = .int .i64 j ∧ Hid (Below w.heap.size w wr) ∧ Hid (∀ (l : Nat) x, l < j → ts[l]? = some x → x.fault = (0, none))) (fun k9 _ => n - (intOf k9).toNat)
 case atStart => exact ⟨0, by omega, rfl, HB, hide (fun l x hl => by omega)⟩
 case round =>
  clear HB
  obtain ⟨j, hj, rfl, HB, HF⟩ := hrel
  by_cases hlt : j < n
  case pos =>
   obtain ⟨ad, t, rfl, had, ht, c0, c1, c2⟩ := row_ten (HR.out.below HB.out) j (by rw [hn.out]; exact hlt)
   have HV := hide (V.out j t ht.out _ HB.out)
   clear had
   go_wp2_with fail
   clear c0 c1 c2
   refine HV.out.mono ?_
   rintro e w1 ⟨rfl, hb⟩
   replace HB := hide (HB.out.trans (hb.mono HB.out.size))
   clear hb HV
   by_cases hf : t.fault = (0, none)
   case neg =>
    rw [decide_eq_false hf]
    have HFI := Tens.first_at ts j t ht.out HF.out hf
    have hx : X = 0 := HX0.out (by rw [Cel.fault_first (by rw [HFI]; exact hf), HFI]; exact hf)
    have HXX := hide hx
    clear hf HFI hx
    go_wp2_with fail
    go_ret
    exact ⟨by rw [HXX.out]; rfl, HB.out⟩
   case pos =>
    rw [decide_eq_true hf]
    have HFt := hide hf
    clear hf
    go_wp2_with fail
    go_roundw
    case rel =>
     refine ⟨j + 1, by omega, by go_num, HB, hide (fun l x hl hx => ?_)⟩
     rcases Nat.lt_or_ge l j with h | h
     ·exact HF.out l x h hx
     ·obtain rfl : l = j := by omega
      rw [ht.out] at hx
      obtain rfl := Option.some.inj hx
      exact HFt.out
    case measure => simp [intOf]; omega
  case neg =>
  obtain rfl : j = n := by omega
  have HFN := hide (Tens.first_none ts fun l x hx => HF.out l x (by have := (List.getElem?_eq_some_iff.1 hx).1; rw [hn.out] at this; exact this) hx)
  have HCF := hide (Cel.fault_code (k := k) HFN.out)
  clear HF V
  go_wp2_with fail
  refine (HDO.out _ HB.out).mono ?_
  rintro e w1 ⟨⟨v, rfl, hown⟩, hb⟩
  replace HB := hide (HB.out.trans (hb.mono HB.out.size))
  obtain ⟨B', c', rfl, hrow, -⟩ := own_row2 hown
  have HRC := hide (HRE.out w1 B' c' HB.out hrow)
  clear hb hown hrow HDO HRE
  go_wp2_with fail
  refine HRC.out.mono ?_
  rintro e w2 ⟨⟨d, rfl, hdi, hdz, hdu⟩, hb⟩
  replace HB := hide (HB.out.trans (hb.mono HB.out.size))
  have HDZ := hide hdz
  have HDU := hide hdu
  clear hb HRC hdz hdu
  obtain ⟨w3, hw3⟩ : ∃ W, W = w2.alloc (.cells #[.slice d.P d.zs.length d.cap, .bool d.u] 24) := ⟨_, rfl⟩
  have hb3 : Below w2.heap.size w2 w3 := by rw [hw3]; exact (Below.refl _ _).alloc (Nat.le_refl _) _
  have HT10 : Hid (Has w3 w2.heap.size 24 [.slice d.P d.zs.length d.cap, .bool d.u]) := hide (by rw [hw3]; exact Has.new _ _ _)
  replace HB := hide (HB.out.trans (hb3.mono HB.out.size))
  have HDI := hide (hdi.below hb3)
  have HW3 := hide hw3
  clear hb3 hw3 hdi
  by_cases h0 : k = 0
  case neg =>
   have h1 : ((k : Int) == 0) = false := by simp; omega
   have h2 : ((k : Int) != 0) = true := by simp; omega
   have hx : X = 0 := HX0.out (by rw [HCF.out]; intro h; exact h0 (Prod.mk.inj h).1)
   have HXX := hide hx
   clear h0 hx
   go_wp2_with fail
   rw [← HW3.out]
   clear HW3
   go_ret
   exact ⟨by rw [HXX.out]; rfl, HB.out⟩
  case pos =>
  subst h0
  have HOV := hide (HOU.out HCF.out)
  have HEV := hide (HEL.out HCF.out)
  have HXV := hide (HX1.out HCF.out)
  clear HOU HEL HX0 HX1 HCF
  have h2 : ((0 : Int) != 0) = false := rfl
  by_cases hi0 : 0 ≤ i
  case neg =>
   have hi1 : i < 0 := by omega
   have hx : X = 0 := by rw [← HXV.out, if_neg hi0]
   have HXX := hide hx
   clear hi0 hx
   go_wp2_with fail
   rw [← HW3.out]
   clear HW3
   go_ret
   exact ⟨by rw [HXX.out]; rfl, HB.out⟩
  case pos =>
  have hi1 : ¬ i < 0 := by omega
  have HEC := hide (refelems_c d.zs d.P d.cap w3 HDI.out.shp (by have := HDI.out.ls; omega))
  rw [HDZ.out] at HEC
  have hEb := Shp.elems_le zs
  obtain ⟨m, hm⟩ : ∃ m : Nat, Hid (Shp.elems zs = (m : Int)) := ⟨(Shp.elems zs).toNat, hide (by omega)⟩
  rw [hm.out] at HEC HOV
  rw [← HDZ.out] at HEC
  obtain ⟨l, rfl⟩ : ∃ l : Nat, i = l := ⟨i.toNat, by omega⟩
  clear hEb
  go_wp2_with fail
  rw [← HW3.out]
  clear HW3 h2
  refine HEC.out.mono ?_
  rintro e w4 ⟨rfl, hb⟩
  replace HB := hide (HB.out.trans (hb.mono HB.out.size))
  replace HT10 := hide (HT10.out.below hb HT10.out.lt)
  replace HDI := hide (HDI.out.below hb)
  clear hb HEC
  by_cases hlm : l < m
  case neg =>
   have g1 : (m : Int) ≤ (l : Int) := by omega
   have hx : X = 0 := by
    rw [← HXV.out, if_pos hi0, Int.toNat_natCast, List.getD_eq_getElem?_getD, List.getElem?_eq_none (by rw [HOV.out, Int.toNat_natCast]; omega)]
    rfl
   have HXX := hide hx
   clear hlm hx
   go_wp2_with fail
   go_ret
   exact ⟨by rw [HXX.out]; rfl, HB.out⟩
  case pos =>
  have g1 : ¬ (m : Int) ≤ (l : Int) := by omega
  obtain ⟨v, hv⟩ : ∃ v, out[l]? = some v := ⟨_, List.getElem?_eq_getElem (by rw [HOV.out, Int.toNat_natCast]; exact hlm)⟩
  have hx : X = v := by
   rw [← HXV.out, if_pos hi0, Int.toNat_natCast, List.getD_eq_getElem?_getD, hv]
   rfl
  have HXX := hide hx
  have HC := hide (HEV.out l v w4 d hv HB.out HDI.out HDZ.out HDU.out)
  have c0 := HT10.out.cell 0
  have c1 := HT10.out.cell 1
  clear hlm hx hv
  go_wp2_with fail
  clear c0 c1
  refine HC.out.mono ?_
  rintro e w5 ⟨rfl, hb⟩
  replace HB := hide (HB.out.trans (hb.mono HB.out.size))
  go_wp2_with fail
  go_ret
  exact ⟨by rw [HXX.out]; rfl, HB.out⟩
set_option maxRecDepth 100000 in
theorem samefault_g (k i : Int) (p : Bool) (w : World) :
  Calls Tryz.prog 44 #[.agg (gcells k p i), .agg (gcells k p i)] w fun e w' => e = .returned (.bool true) ∧ Below w.heap.size w w' := by
 have hfin := ((Below.refl _ w).alloc (Nat.le_refl _) (Obj.cells (gcells k p i) 36)).alloc (by simp) (Obj.cells (gcells k p i) 36)
 go_enter Tryz.func44, Tryz.ntmps44
 go_wp2_with fail
 go_ret
 exact ⟨by first | rfl | simp, hfin⟩
theorem step_load_g {ops : Array Oper} {o : Oper} {a : Act} {w : World} {K : Act → World → Prop} {Q : Exit → Act → World → Prop} {E : Prop} (hwt : Region.wanted o (yielded ops a.tmps) = true) (x : Operand) (ho : o.op = .load 36 x)
  (g : Nat) (hx : a.eval x = .pointer (some ⟨g, 0, none⟩)) (c i : Int) (p : Bool) (t : TypeId) (fr : Nat × Nat) (hg : w.heap[g]? = some (.cells (gcells c p i) t fr))
  (h : K (a.put o.dst (.agg (gcells c p i))) w) : if Region.wanted o (yielded ops a.tmps) = true then Oper.wp Tryz.prog o a w K Q else E := by
 rw [if_pos hwt]
 exact wp_load_row 36 x ho g hx t (gcells c p i) fr _ hg Tryz.underlying36 rfl (gsize c i p) h
set_option maxRecDepth 100000 in
theorem same_g (v : Value) (c i : Int) (p : Bool) (w : World) (hF : ∀ w', Below w.heap.size w w' → Calls Tryz.prog 45 #[v] w' fun e w2 => e = .returned (.agg (gcells c p i)) ∧ Below w'.heap.size w' w2) :
  Calls Tryz.prog 12 #[v, .agg (gcells c p i)] w fun e w' => e = .returned (.bool true) ∧ Below w.heap.size w w' := by
 have HF := hidE hF
 clear hF
 have HB1 := hidE ((Below.refl _ w).alloc (Nat.le_refl _) (Obj.cells (gcells c p i) 36)).drew
 have HZ1 : Hid (((w.alloc (Obj.cells (gcells c p i) 36)).drew).heap[w.heap.size]? = some (Obj.cells (gcells c p i) 36 (0, 0))) := hidE (heap_alloc_new w (Obj.cells (gcells c p i) 36))
 go_enter Tryz.func12, Tryz.ntmps12
 go_wp2_with fail
 refine wp_region_any (by kernel_rfl) ?_
 change wpAny _ _ _ _ _ _ _ (World.drew _)
 obtain ⟨w1, hw1⟩ : ∃ w1, Hid ((w.alloc (Obj.cells (gcells c p i) 36)).drew = w1) := ⟨_, hidE rfl⟩
 rw [hw1.out] at HB1 HZ1
 generalize hwg : World.drew _ = w1'
 have hwg' : (w.alloc (Obj.cells (gcells c p i) 36)).drew = w1' := hwg
 obtain rfl : w1 = w1' := hw1.out.symm.trans hwg'
 clear hw1 hwg hwg'
 refine wpAny_take (i := 0) (v := v) rfl (by kernel_rfl) (by kernel_rfl) (by kernel_rfl) (fun _ _ _ h => h) (Or.inl ⟨by rfl, by intro w; go_simp⟩) ?_
 refine wpAny_ready (rs := [1, 2]) (by kernel_rfl) (by simp) ?_
 refine AllReady.cons rfl (fun K hK => ?_) (AllReady.cons rfl (fun K hK => ?_) AllReady.nil)
 focus
  go_simp
  refine (HF.out w1 HB1.out).mono ?_
  rintro e w2 ⟨rfl, hb2⟩
  refine hK _ _ ?_
  clear hK K
  have hlt : w.heap.size < w1.heap.size := by
   rcases Nat.lt_or_ge w.heap.size w1.heap.size with h' | h'
   ·exact h'
   ·have := HZ1.out
    rw [Array.getElem?_eq_none h'] at this; cases this
  have HZ2 := hidE ((hb2.block _ hlt).trans HZ1.out)
  have HB2 := hidE (HB1.out.trans (hb2.mono HB1.out.size))
  clear hb2 hlt
  refine wpAny_ready (rs := [2]) (by kernel_rfl) (by simp) ?_
  refine AllReady.cons rfl (fun K hK => ?_) AllReady.nil
  refine step_load_g (by rfl) (.tmp 3) rfl w.heap.size rfl c i p _ _ HZ2.out ?_
  refine hK _ _ ?_
  clear hK K HZ2
 rotate_left
 focus
  refine step_load_g (by rfl) (.tmp 3) rfl w.heap.size rfl c i p _ _ HZ1.out ?_
  refine hK _ _ ?_
  clear hK K
  refine wpAny_ready (rs := [1]) (by kernel_rfl) (by simp) ?_
  refine AllReady.cons rfl (fun K hK => ?_) AllReady.nil
  go_simp
  refine (HF.out w1 HB1.out).mono ?_
  rintro e w2 ⟨rfl, hb2⟩
  refine hK _ _ ?_
  clear hK K
  have HB2 := hidE (HB1.out.trans (hb2.mono HB1.out.size))
  clear hb2
 all_goals
  refine wpAny_ready (rs := [3]) (by kernel_rfl) (by simp) ?_
  refine AllReady.cons rfl (fun K hK => ?_) AllReady.nil
  go_simp
  refine (samefault_g c i p w2).mono ?_
  rintro e w3 ⟨rfl, hb3⟩
  refine hK _ _ ?_
  clear hK K
  have hfin := HB2.out.trans (hb3.mono HB2.out.size)
  clear hb3
  refine wpAny_ready (rs := [4]) (by kernel_rfl) (by simp) ?_
  refine AllReady.cons rfl (fun K hK => ?_) AllReady.nil
  go_simp
  refine hK _ _ ?_
  clear hK K
  refine wpAny_done (by kernel_rfl) ?_ _
  go_wp2_with fail
  go_ret
  exact ⟨rfl, hfin⟩
theorem run_isat (g : Nat) (w : World) : (Instr.typeAssert (.iface 109 (.pointer (some ⟨g, 0, none⟩))) 31 109 true).run Tryz.prog w = .ok (.tuple #[.pointer (some ⟨g, 0, none⟩), .bool true]) w := by kernel_rfl
set_option maxRecDepth 100000 in
set_option maxHeartbeats 4000000 in
theorem fault_at (es : List Addr) (j : Nat) (a : Addr) (hj : es[j]? = some a) (g : Nat) (i : Int) (w : World) (h : Ez w es) (hA : Has w g 113 [.int .i64 i, errv a]) :
  Calls Tryz.prog 45 #[.iface 109 (.pointer (some ⟨g, 0, none⟩))] w fun e w' => e = .returned (.agg (gcells (101 + j) true i)) ∧ Below w.heap.size w w' := by
 have hr := run_isat g
 have hgl := hA.lt
 have hb1 := (Below.refl _ w).alloc (Nat.le_refl _) (Obj.cells (fcells 0) 36)
 have hZ : Has (w.alloc (Obj.cells (fcells 0) 36)) w.heap.size 36 [.int .i64 0, .bool false, .int .i64 0] := Has.new w _ _
 have hA1 := hA.alloc (Obj.cells (fcells 0) 36)
 have HS := hide (fun W (hb : Below w.heap.size w W) => sentinel_c es j a hj W (h.below hb))
 have HP := hide (fun W => placed_c (101 + j) i (by omega) W)
 have c0 : (w.alloc (Obj.cells (fcells 0) 36)).cell? ⟨g, 0, none⟩ = some (.int .i64 i) := by rw [hA1.cell]; rfl
 have c1 : (w.alloc (Obj.cells (fcells 0) 36)).cell? ⟨g, 1, none⟩ = some (errv a) := by rw [hA1.cell]; rfl
 obtain ⟨k, hk⟩ : ∃ k, Hid ((101 + (j : Int)) = k) := ⟨_, hide rfl⟩
 rw [hk.out] at HS HP ⊢
 have HB1 := hide hb1
 have HZ := hide hZ
 have HA1 := hide hA1
 clear h hj hA hb1 hZ hA1
 go_enter Tryz.func45, Tryz.ntmps45
 go_wp2_with fail
 have HZ1 : Hid (Has (w.alloc (Obj.cells (fcells 0) 36)).drew w.heap.size 36 [.int .i64 0, .bool false, .int .i64 0]) := hide (HZ.out.drewN 1)
 have HA2 : Hid (Has (w.alloc (Obj.cells (fcells 0) 36)).drew g 113 [.int .i64 i, errv a]) := hide (HA1.out.drewN 1)
 have HB2 := hide HB1.out.drew
 have hS0 : FatS g w (.int .i64 i) (errv a) (w.alloc (Obj.cells (fcells 0) 36)).drew := ⟨c0, c1, HB2⟩
 clear c0 c1 HB1 HZ HA1
 go_region_held3 (fun W => W.cell? ⟨g, 0, none⟩ = some (.int .i64 i) ∧ W.cell? ⟨g, 1, none⟩ = some (errv a) ∧ Hid (Below w.heap.size w W))
  (first | exact hS0 | assumption | exact hS9.out | exact FatS.keep (by assumption) hb)
  (first
   | (go_at_call 78; refine (HS.out _ HB2.out).mono ?_; rintro e W2 ⟨rfl, hb⟩; have hz2 := HZ1.out.below hb HZ1.out.lt; have hB3 := HB2.out.trans (hb.mono HB2.out.size); have ha2 := HA2.out.below hb HA2.out.lt)
   | (go_at_call 65; refine (HP.out _).mono ?_; rintro e W3 ⟨rfl, hb⟩; have hz3 := hz2.below hb hz2.lt; have hB4 := hB3.trans (hb.mono hB3.size); have ha3 := ha2.below hb ha2.lt; have d0 : W3.cell? ⟨w.heap.size, 0, none⟩ = some (.int .i64 0) := (by rw [hz3.cell]; rfl); have d1 : W3.cell? ⟨w.heap.size, 1, none⟩ = some (.bool false) := (by rw [hz3.cell]; rfl); have d2 : W3.cell? ⟨w.heap.size, 2, none⟩ = some (.int .i64 0) := (by rw [hz3.cell]; rfl); have f0 := hz3.frozen 0; have f1 := hz3.frozen 1; have f2 := hz3.frozen 2; have HZ4 := hide (((hz3.set_ 0 (.int .i64 k)).set_ 1 (.bool true)).set_ 2 (.int .i64 i)); have HB5 := hide (((hB4.setCell (p := ⟨w.heap.size, 0, none⟩) (Nat.le_refl _) (.int .i64 k)).setCell (p := ⟨w.heap.size, 1, none⟩) (Nat.le_refl _) (.bool true)).setCell (p := ⟨w.heap.size, 2, none⟩) (Nat.le_refl _) (.int .i64 i)); have ha4 := ((ha3.far (p := ⟨w.heap.size, 0, none⟩) (by simp; omega) (.int .i64 k)).far (p := ⟨w.heap.size, 1, none⟩) (by simp; omega) (.bool true)).far (p := ⟨w.heap.size, 2, none⟩) (by simp; omega) (.int .i64 i); have hS9 := hide (FatS.of ha4 HB5.out)))
 go_wp2_with fail
 refine bodyPost_ret (results_cell_row rfl _ _ w.heap.size 36 (gcells k true i) (0, 0) _ rfl HZ4.out Tryz.underlying36 rfl (gsize k i true)) rfl ?_
 exact ⟨rfl, HB5.out⟩
theorem same_terr {es : List Addr} {ah am ar : Addr} (hah : es[0]? = some ah) (ham : es[3]? = some am) (har : es[1]? = some ar) (v : Value) (R : Nat × Option Nat) (hc : R = (0, none) ∨ R = (101, none) ∨ R = (102, none) ∨ R = (104, none) ∨ ∃ i, R = (102, some i)) (w : World) (h : Ez w es) (ht : TErr w ah am ar v R) :
  Calls Tryz.prog 12 #[v, .agg (Tens.fval R)] w fun e w' => e = .returned (.bool true) ∧ Below w.heap.size w w' := by
 rcases hc with rfl | rfl | rfl | rfl | ⟨i, rfl⟩
 ·obtain rfl : v = .nilIface := ht
  exact same_g .nilIface 0 0 false w fun w' _ => fault_nil w'
 ·obtain rfl : v = errv ah := ht
  exact same_g (errv ah) 101 0 false w fun w' hb => fault_c es 0 ah hah w' (h.below hb)
 ·obtain rfl : v = errv ar := ht
  exact same_g (errv ar) 102 0 false w fun w' hb => fault_c es 1 ar har w' (h.below hb)
 ·obtain rfl : v = errv am := ht
  exact same_g (errv am) 104 0 false w fun w' hb => fault_c es 3 am ham w' (h.below hb)
 ·obtain ⟨g, rfl, hA⟩ := ht
  exact same_g _ 102 (i : Int) true w fun w' hb => fault_at es 1 ar har g (i : Int) w' (h.below hb) (hA.below hb hA.lt)
end Go.Proofs.YtgdcfjmpjhlndaaGreatDoor
