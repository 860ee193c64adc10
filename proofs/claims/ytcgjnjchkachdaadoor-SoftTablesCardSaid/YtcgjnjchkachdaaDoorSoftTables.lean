/-
  The law SoftTables, walked. By an AI agent. No person has read it.
-/
import Derived.Test.YtcgjnjchkachdaaDoorSftY
namespace Go.Proofs.YtcgjnjchkachdaaDoor
open Go.RowKit
open Ieee F64

theorem uFloat : Tryd.prog.underlying 60 = some (.float .f64) := by kernel_rfl
theorem f64_lt {b : Nat} (h : (Lit.float .f64 b).wf = true) : b < 18446744073709551616 := by
  simpa [Lit.wf] using h
set_option maxRecDepth 100000 in
set_option maxHeartbeats 8000000 in
theorem softtables_c (es : List Addr) (b : Nat) (hb : b < 18446744073709551616) (w : World) (hZ : Ez w es) :
    Calls Tryd.prog 7 #[.float .f64 b] w fun e w' => e = .returned (.bool true) ∧ Below w.heap.size w w' := by
  obtain ⟨ah, am, ar, hah, har, ham, hE⟩ := E3.ofez hZ
  have HE := hide (fun W (hb : Below w.heap.size w W) => hE.below hb)
  have HEZ := hide (fun W (hb : Below w.heap.size w W) => hZ.below hb)
  have HF := hide (first11_c ah am ar w hE)
  by_cases hgood : FloatKind.f64.format.order b 0 = some .gt ∧ FloatKind.f64.format.order b 4607182418800017408 = some .lt
  case neg =>
    have HT := hide (fun W (h : Below w.heap.size w W) => stable_bad b _ _ rfl rfl hgood ah am ar W (HE.out W h))
    have HR := hide (fun W => rtable_bad b hb _ _ rfl rfl hgood W)
    have HI := hide (fun W (h : Below w.heap.size w W) => is_c es 1 ar har 102 W (HEZ.out W h))
    clear hgood hah har ham hE hZ
    go_enter Tryd.func7, Tryd.ntmps7
    go_wp2_with fail
    refine HF.out.mono ?_
    rintro e w1 ⟨rfl, hb1⟩
    have HB := hide hb1
    clear hb1 HF
    go_wp2_with fail
    refine (HT.out _ HB.out).mono ?_
    rintro e w2 ⟨rfl, hb2⟩
    have HB2 := hide (HB.out.trans (hb2.mono HB.out.size))
    obtain ⟨W3, hW3⟩ : ∃ W, W = w2.alloc (.cells #[.slice none 0 0, .bool false, .slice none 0 0] 26) := ⟨_, rfl⟩
    have hbA : Below w2.heap.size w2 W3 := by rw [hW3]; exact (Below.refl _ _).alloc (Nat.le_refl _) _
    have T3 : Hid (Has W3 w2.heap.size 26 [.slice none 0 0, .bool false, .slice none 0 0]) := hide (by rw [hW3]; exact Has.new _ _ _)
    have HB3 := hide (HB2.out.trans (hbA.mono HB2.out.size))
    have HW3 := hide hW3
    clear hb2 HB HB2 hW3 hbA HT
    go_wp2_with fail
    rw [← HW3.out]
    clear HW3
    refine (HR.out _).mono ?_
    rintro e w4 ⟨rfl, hb4⟩
    have HB4 := hide (HB3.out.trans (hb4.mono HB3.out.size))
    have HB5 := hide (HB4.out.alloc HB4.out.size (.cells #[.slice none 0 0, .bool false, .slice none 0 0] 26))
    have T4 := T3.out.below hb4 T3.out.lt
    have t2 := T4.cell 2
    have tl := T4.lt
    clear hb4 HB3 T3 T4 HR
    go_wp2_with fail
    refine (HI.out _ HB5.out).mono ?_
    rintro e w6 ⟨rfl, hb6⟩
    have HB6 := hide (HB5.out.trans (hb6.mono HB5.out.size))
    clear hb6 HI HB5 HB4 t2 tl
    go_wp2_with fail
    go_ret
    exact ⟨rfl, HB6.out⟩
  case pos =>
    have h8 : b % 9223372036854775808 < 9218868437227405312 := by
      rcases sf_orders b hb hgood.1 hgood.2 with h | h <;> exact h.1
    have HT := hide (fun W => stable_c b hb h8 hgood.1 hgood.2 W)
    have HR := hide (fun W => rtable_good b hb hgood.1 hgood.2 W)
    have HD : Hid (∀ i, Sf.tab b (i + 1) ≤ Sf.tab b i) := hide (Sf.tab_down b hb h8 hgood.1 hgood.2)
    clear hgood hah har ham hE hZ h8 hb HE HEZ
    go_enter Tryd.func7, Tryd.ntmps7
    go_wp2_with fail
    refine HF.out.mono ?_
    rintro e w1 ⟨rfl, hb1⟩
    have HB := hide hb1
    clear hb1 HF
    go_wp2_with fail
    refine (HT.out _).mono ?_
    rintro e w2 ⟨⟨t, rfl, hti, -, htz, htu, htd, -⟩, hb2⟩
    have HB2 := hide (HB.out.trans (hb2.mono HB.out.size))
    have htl : t.ds.length = 256 := by rw [htd, Sf.table_length]
    have hzl : t.zs.length = 1 := by rw [htz]; rfl
    rw [htl, hzl, htu]
    obtain ⟨W3, hW3⟩ : ∃ W, W = w2.alloc (.cells #[.slice t.P 1 t.cap, .bool true, .slice t.D 256 t.dcap] 26) := ⟨_, rfl⟩
    have hbA : Below w2.heap.size w2 W3 := by rw [hW3]; exact (Below.refl _ _).alloc (Nat.le_refl _) _
    have T3 : Hid (Has W3 w2.heap.size 26 [.slice t.P 1 t.cap, .bool true, .slice t.D 256 t.dcap]) := hide (by rw [hW3]; exact Has.new _ _ _)
    have TI := hide (hti.below hbA)
    have HTZ := hide htz
    have HTD := hide htd
    have HB3 := hide (HB2.out.trans (hbA.mono HB2.out.size))
    have HW3 := hide hW3
    clear hb2 HB HB2 hW3 hbA HT hti htz htu htd htl hzl
    go_wp2_with fail
    rw [← HW3.out]
    clear HW3
    refine (HR.out _).mono ?_
    rintro e w4 ⟨⟨g, c, rest, gd, rfl, hG, hDD⟩, hb4⟩
    obtain ⟨W5, hW5⟩ : ∃ W, W = w4.alloc (.cells #[.slice (some ⟨g, 0, none⟩) 1 c, .bool true, .slice (some ⟨gd, 0, none⟩) 256 256] 26) := ⟨_, rfl⟩
    have hbB : Below w4.heap.size w4 W5 := by rw [hW5]; exact (Below.refl _ _).alloc (Nat.le_refl _) _
    have HB4 := hide (HB3.out.trans (hb4.mono HB3.out.size))
    have HB5 := hide (HB4.out.trans (hbB.mono HB4.out.size))
    have T4 := T3.out.below hb4 T3.out.lt
    have T5 := hide (T4.below hbB T4.lt)
    have TI4 := TI.out.below hb4
    have TI5 := hide (TI4.below hbB)
    have hri := (hG.ri_app (zs := [256]) (by decide)).below hbB
    have hrd := (hDD.ri (fun q hq => wf_i64 _ (by have := Sf.table_le b q hq; omega))).below hbB
    have HST := sametensor_c t.zs [256] t.ds (Sf.table b) t.P (some ⟨g, 0, none⟩) t.D (some ⟨gd, 0, none⟩) t.cap c t.dcap 256 true true W5 TI5.out.shp hri TI5.out.dat hrd TI5.out.ls (by decide) TI5.out.ld (by rw [Sf.table_length]; decide)
    rw [decide_eq_true HTZ.out, decide_eq_true HTD.out, Sf.table_length, show t.ds.length = 256 by rw [HTD.out, Sf.table_length], show t.zs.length = 1 by rw [HTZ.out]; rfl] at HST
    have HST := hide HST
    have t0 := T4.cell 0
    have t1 := T4.cell 1
    have t2 := T4.cell 2
    have tl := T4.lt
    have HW5 := hide hW5
    clear hb4 HB3 T3 T4 HR hG hDD hbB HB4 TI TI4 hri hrd hW5
    go_wp2_with fail
    rw [← HW5.out]
    clear HW5 t0 t1 t2 tl
    refine HST.out.mono ?_
    rintro e w6 ⟨rfl, hb6⟩
    have HB6 := hide (HB5.out.trans (hb6.mono HB5.out.size))
    have T6 := hide (T5.out.below hb6 T5.out.lt)
    have TI6 := hide (TI5.out.below hb6)
    obtain ⟨T, hT⟩ : ∃ T, Hid (Sf.tab b = T) := ⟨_, hide rfl⟩
    have HV : Hid (∀ j, j < 256 → t.ds[j]? = some (T j)) := hide (fun j hj => by rw [HTD.out, Sf.table_at b j hj, hT.out])
    have HT0 : Hid (T 0 = 1048576) := hide (by rw [← hT.out]; rfl)
    have HTN : Hid (∀ j, 0 ≤ T j) := hide (fun j => by rw [← hT.out]; exact (Sf.tab_le b j).1)
    rw [hT.out] at HD
    have HTL : Hid (t.ds.length = 256) := hide (by rw [HTD.out, Sf.table_length])
    obtain ⟨ad, x, hAD, ex, cx⟩ := ri_at TI6.out.dat 0 (by rw [HTL.out]; decide)
    have hx : x = 1048576 := by
      have h := Option.some.inj (ex.out.symm.trans (HV.out 0 (by decide)))
      rw [h, HT0.out]
    subst hx
    have cx0 : w6.cell? ad = some (.int .i64 1048576) := by simpa [Addr.add] using cx
    have HPA := hide hAD
    rw [hAD] at T6
    have t2 := T6.out.cell 2
    clear hb6 HST HB5 T5 TI5 ex cx hAD hT
    go_wp2_with fail
    clear cx0 t2
    go_loopg [8] 255 (fun gq kk wr => ∃ i q : Nat, gq + i = 255 ∧ kk = .int .i64 ((i : Int) + 1) ∧ wr = w6.drewN q)
    case atStart => exact ⟨0, 0, by omega, rfl, rfl⟩
    case round =>
      obtain ⟨i, q, hi9, rfl, rfl⟩ := hrel
      by_cases hlt : i < 255
      · obtain ⟨a1, x, hA1, ex, cx⟩ := ri_at TI6.out.dat (i + 1) (by rw [HTL.out]; omega)
        obtain ⟨a2, y, hA2, ey, cy⟩ := ri_at TI6.out.dat i (by rw [HTL.out]; omega)
        obtain rfl : a1 = ad := Option.some.inj (hA1.symm.trans HPA.out)
        obtain rfl : a2 = a1 := Option.some.inj (hA2.symm.trans HPA.out)
        have hx : x = T (i + 1) := Option.some.inj (ex.out.symm.trans (HV.out (i + 1) (by omega)))
        have hy : y = T i := Option.some.inj (ey.out.symm.trans (HV.out i (by omega)))
        have Hxy : Hid (¬ y < x) := hide (by rw [hx, hy]; have := HD.out i; omega)
        have Hx0 : Hid (¬ x < 0) := hide (by rw [hx]; have := HTN.out (i + 1); omega)
        obtain ⟨j, hj⟩ : ∃ j, Hid (i + 1 = j) := ⟨_, hide rfl⟩
        have hje : (i : Int) + 1 = (j : Int) := by have := hj.out; omega
        rw [hje]
        rw [hj.out] at cx
        have hii : (j : Int) < 256 := by have := hj.out; omega
        have hj0 : (0 : Int) ≤ (j : Int) := by omega
        have hi0 : (0 : Int) ≤ (i : Int) := by omega
        have hi2 : (i : Int) < 256 := by omega
        have e1 : IntKind.i64.wrap ((j : Int) - 1) = (i : Int) := by rw [IntKind.wrap_i64]; omega
        have e2 : wrap64 ((j : Int) - 1) = (i : Int) := by unfold wrap64; omega
        have t2 := T6.out.cell 2
        clear ex ey hA1 hA2 hx hy hje
        go_wp2_with fail
        have hxy : ¬ y < x := by have := Hxy.out; omega
        have hx0 : ¬ x < 0 := by have := Hx0.out; omega
        have hd1 := decide_eq_false hxy
        have hd2 := decide_eq_false hx0
        go_quiet (fail)
        clear hxy hx0 hd1 hd2 e1 e2 cx cy t2
        go_wp2_with fail
        go_roundg (255 - (i + 1))
        case measure => omega
        case rel => exact ⟨i + 1, _, by omega, by have := hj.out; subst this; go_num, rfl⟩
      · obtain rfl : i = 255 := by omega
        have hii : ¬ ((255 : Nat) : Int) + 1 < 256 := by omega
        go_wp2_with fail
        go_ret
        exact ⟨rfl, below_drewN HB6.out _⟩
end Go.Proofs.YtcgjnjchkachdaaDoor
