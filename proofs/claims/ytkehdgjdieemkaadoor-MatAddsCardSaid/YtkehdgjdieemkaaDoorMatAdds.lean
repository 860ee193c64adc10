/-
  The law MatAdds, walked. By an AI agent. No person has read it.
-/
import Derived.Test.YtkehdgjdieemkaaDoorMatI
import Derived.StillTailTactics
import Derived.Deep.RegionHeld3
namespace Go.Proofs.YtkehdgjdieemkaaDoor
open Go.RowKit

theorem Mat.part_top (ts xs ys : List Int) (za zb : Int) (M K N : Nat) (ht : ts.length = K) : (Mat.part (ts ++ xs) ys za zb K N 0 ((M + 1) * N)).take N = Mat.part ts ys za zb K N 0 (1 * N) := by
  refine List.ext_getElem? fun i => ?_
  rw [List.getElem?_take]
  by_cases hi : i < N
  · rw [if_pos hi, Mat.part_at _ _ _ _ _ _ _ _ _ (by rw [Nat.succ_mul]; omega), Mat.part_at _ _ _ _ _ _ _ _ _ (by omega), Nat.zero_add]
    have e1 : i / N = 0 := Nat.div_eq_of_lt hi
    rw [e1]
    congr 2
    refine Mat.dot_row _ _ _ _ _ _ _ _ _ _ _ fun j hj => ?_
    rw [Nat.zero_mul, Nat.zero_add, List.getD_eq_getElem?_getD, List.getD_eq_getElem?_getD, List.getElem?_append_left (by omega)]
  · rw [if_neg hi, List.getElem?_eq_none (by rw [Mat.part_length]; omega)]
theorem Mat.part_rest (ts xs ys : List Int) (za zb : Int) (M K N : Nat) (hN : 1 ≤ N) (ht : ts.length = K) : (Mat.part (ts ++ xs) ys za zb K N 0 ((M + 1) * N)).drop N = Mat.part xs ys za zb K N 0 (M * N) := by
  refine List.ext_getElem? fun i => ?_
  rw [List.getElem?_drop]
  by_cases hi : i < M * N
  · rw [Mat.part_at _ _ _ _ _ _ _ _ _ (by rw [Nat.succ_mul]; omega), Mat.part_at _ _ _ _ _ _ _ _ _ hi, Nat.zero_add, Nat.zero_add]
    have e1 : (N + i) / N = i / N + 1 := by rw [Nat.add_comm, Nat.add_div_right _ (by omega)]
    have e2 : (N + i) % N = i % N := by rw [Nat.add_mod_left]
    rw [e1, e2]
    congr 2
    refine Mat.dot_row _ _ _ _ _ _ _ _ _ _ _ fun j hj => ?_
    rw [List.getD_eq_getElem?_getD, List.getD_eq_getElem?_getD, List.getElem?_append_right (by rw [ht, Nat.succ_mul]; omega), ht]
    congr 2
    rw [Nat.succ_mul]
    omega
  · rw [List.getElem?_eq_none (by rw [Mat.part_length, Nat.succ_mul]; omega), List.getElem?_eq_none (by rw [Mat.part_length]; omega)]
/-- What is held at the law's end: three cells. -/
abbrev AdS (w0 : World) (a b c : Nat) (x y z : Value) (W : World) : Prop := W.cell? ⟨a, 2, none⟩ = some x ∧ W.cell? ⟨b, 2, none⟩ = some y ∧ W.cell? ⟨c, 2, none⟩ = some z ∧ Hid (Below w0.heap.size w0 W)
theorem AdS.keep {w0 : World} {a b c : Nat} {x y z : Value} {W W' : World} (h : AdS w0 a b c x y z W) (ha : a < w0.heap.size) (hb : b < w0.heap.size) (hc : c < w0.heap.size) (hB : Below W.heap.size W W') : AdS w0 a b c x y z W' := by
  have hs := h.2.2.2.out.size
  exact ⟨(hB.cell (p := ⟨a, 2, none⟩) (Nat.lt_of_lt_of_le ha hs)).trans h.1, (hB.cell (p := ⟨b, 2, none⟩) (Nat.lt_of_lt_of_le hb hs)).trans h.2.1, (hB.cell (p := ⟨c, 2, none⟩) (Nat.lt_of_lt_of_le hc hs)).trans h.2.2.1, hide (h.2.2.2.out.trans (hB.mono hs))⟩
theorem AdS.low {w0 : World} {a b c : Nat} {x y z : Value} {W : World} (h : AdS w0 a b c x y z W) : Below w0.heap.size w0 W := h.2.2.2.out
set_option maxRecDepth 100000 in
set_option maxHeartbeats 16000000 in
theorem addslaw_c (m k n : Int) (l : List Int) (A : Option Addr) (cap : Nat) (za zb : Int) (ah am ar : Addr) (w : World) (hr : Ri w A l) (hE : E3 w ah am ar) :
    Calls Tryd.prog 6 #[.int .i64 m, .int .i64 k, .int .i64 n, .slice A l.length cap, .int .i64 za, .int .i64 zb] w fun e w' => e = .returned (.bool true) ∧ Below w.heap.size w w' := by
  have HF := hide (first8_c ah am ar w hE)
  have HE := hide (fun W (hb : Below w.heap.size w W) => hE.below hb)
  have HL := hide (fun W (hb : Below w.heap.size w W) => hr.below hb)
  have HO := hide (fun W (hb : Below w.heap.size w W) (h : l.length ≤ 1000000) => refints_o l A cap W (hr.below hb) h)
  obtain ⟨m1, hm0, hm1, NM⟩ := number_n m 8 (by decide) (by decide) 8 rfl
  obtain ⟨k1, hk0, hk1, NK⟩ := number_n k 8 (by decide) (by decide) 8 rfl
  obtain ⟨n1, hn0, hn1, NN⟩ := number_n n 8 (by decide) (by decide) 8 rfl
  obtain ⟨a1, ha0, ha1, NA⟩ := number_n za 256 (by decide) (by decide) 256 rfl
  obtain ⟨b1, hb0, hb1, NB⟩ := number_n zb 256 (by decide) (by decide) 256 rfl
  obtain ⟨ln, hln⟩ : ∃ n, Hid (l.length = n) := ⟨_, hide rfl⟩
  rw [hln.out] at HO ⊢
  clear hr hE
  by_cases hbig : 40 < ln
  case pos =>
    have hb2 : (40 : Int) < ln := by omega
    clear hbig
    go_enter Tryd.func6, Tryd.ntmps6
    go_wp2_with fail
    refine (HF.out).mono ?_
    rintro e w1 ⟨rfl, hb⟩
    have HB := hide hb
    clear hb HF
    go_wp2_with fail
    go_ret
    exact ⟨rfl, HB.out⟩
  case neg =>
  have hn40 : (ln : Int) ≤ 40 := by omega
  clear hbig
  go_enter Tryd.func6, Tryd.ntmps6
  go_wp2_with fail
  refine (HF.out).mono ?_
  rintro e w1 ⟨rfl, hb⟩
  have HB := hide hb
  clear hb HF
  go_wp2_with fail
  refine (NM.out _).mono ?_
  rintro e wq ⟨rfl, hw⟩
  have hw := hw.symm
  subst hw
  go_wp2_with fail
  refine (NK.out _).mono ?_
  rintro e wq ⟨rfl, hw⟩
  have hw := hw.symm
  subst hw
  go_wp2_with fail
  refine (NN.out _).mono ?_
  rintro e wq ⟨rfl, hw⟩
  have hw := hw.symm
  subst hw
  go_wp2_with fail
  refine (NA.out _).mono ?_
  rintro e wq ⟨rfl, hw⟩
  have hw := hw.symm
  subst hw
  go_wp2_with fail
  refine (NB.out _).mono ?_
  rintro e wq ⟨rfl, hw⟩
  have hw := hw.symm
  subst hw
  go_wp2_with fail
  obtain ⟨M, hM⟩ : ∃ M, Hid (m1.toNat + 1 = M) := ⟨_, hide rfl⟩
  have EM : Hid (m1 + 1 = (M : Int)) := hide (by rw [← hM.out]; omega)
  have hMb : Hid (1 ≤ M ∧ M ≤ 8) := hide (by rw [← hM.out]; omega)
  clear hM
  rw [EM.out]
  obtain ⟨K, hK⟩ : ∃ M, Hid (k1.toNat + 1 = M) := ⟨_, hide rfl⟩
  have EK : Hid (k1 + 1 = (K : Int)) := hide (by rw [← hK.out]; omega)
  have hKb : Hid (1 ≤ K ∧ K ≤ 8) := hide (by rw [← hK.out]; omega)
  clear hK
  rw [EK.out]
  obtain ⟨N, hN⟩ : ∃ M, Hid (n1.toNat + 1 = M) := ⟨_, hide rfl⟩
  have EN : Hid (n1 + 1 = (N : Int)) := hide (by rw [← hN.out]; omega)
  have hNb : Hid (1 ≤ N ∧ N ≤ 8) := hide (by rw [← hN.out]; omega)
  clear hN
  rw [EN.out]
  obtain ⟨ya, hya⟩ : ∃ x : Int, Hid (a1 - 128 = x) := ⟨_, hide rfl⟩
  have Hya : Hid (-128 ≤ ya ∧ ya ≤ 127) := hide (by have := hya.out; omega)
  rw [hya.out]
  obtain ⟨yb, hyb⟩ : ∃ x : Int, Hid (b1 - 128 = x) := ⟨_, hide rfl⟩
  have Hyb : Hid (-128 ≤ yb ∧ yb ≤ 127) := hide (by have := hyb.out; omega)
  rw [hyb.out]
  clear EM EK EN hya hyb NM NK NN NA NB hm0 hm1 hk0 hk1 hn0 hn1 ha0 ha1 hb0 hb1
  obtain ⟨T, hT⟩ : ∃ T, Hid (M * K = T) := ⟨_, hide rfl⟩
  obtain ⟨V, hV⟩ : ∃ T, Hid ((M + 1) * K = T) := ⟨_, hide rfl⟩
  have hTb : T ≤ 64 := by rw [← hT.out]; exact Nat.mul_le_mul hMb.out.2 hKb.out.2
  have hVT : Hid (V = T + K) := hide (by rw [← hV.out, ← hT.out, Nat.succ_mul])
  refine (matrix_own _ _ M K T rfl rfl hT.out l ln hln.out A cap _ (by have := hMb.out; omega) (by have := hKb.out; omega) (HL.out _ HB.out)).mono ?_
  rintro e w2 ⟨⟨s0, g0, xs, rfl, -, h1, -, hs, hd, hL, hsm, -⟩, hb⟩
  replace HB := hide (HB.out.trans (hb.mono HB.out.size))
  clear hb
  have Sa := hide hs
  have Da := hide hd
  have La := hide hL
  have Ma := hide hsm
  have Fa := hide h1
  clear hs hd hL hsm h1
  obtain ⟨w2b, hw2b⟩ : ∃ W, W = w2.alloc (.cells #[.slice (some ⟨s0, 0, none⟩) 2 2, .bool false, .slice (some ⟨g0, 0, none⟩) T T] 26) := ⟨_, rfl⟩
  have hbA : Below w2.heap.size w2 w2b := by rw [hw2b]; exact (Below.refl _ _).alloc (Nat.le_refl _) _
  have Ba : Hid (Has w2b w2.heap.size 26 [.slice (some ⟨s0, 0, none⟩) 2 2, .bool false, .slice (some ⟨g0, 0, none⟩) T T]) := hide (by rw [hw2b]; exact Has.new _ _ _)
  replace HB := hide (HB.out.trans (hbA.mono HB.out.size))
  replace Sa := hide (Sa.out.below hbA Sa.out.lt)
  replace Da := hide (Da.out.below hbA Da.out.lt)
  have Hw2b := hide hw2b
  clear hw2b hbA
  go_wp2_with fail
  rw [← Hw2b.out]
  clear Hw2b
  refine (HO.out _ HB.out (by omega)).mono ?_
  rintro e w3 ⟨⟨v, rfl, hown, hv0⟩, hb⟩
  have hown2 := hide (hown.alloc (.cells #[.int .i64 11] 3))
  have hB3 := hide (hb.alloc hb.size (.cells #[.int .i64 11] 3))
  have hr3 := hide (new_ri w3 3 [11] (by decide))
  have hs3 := hide hB3.out.size
  have hn3 := hide (show ln + 1 ≤ 1000000000000 by omega)
  clear hown hb hv0
  go_wp2_with (at_builtin; refine wpList_append_is rfl (.tmp 57) (.tmp 58) rfl w2b.heap.size _ ln (i64s l) rfl hown2.out (some ⟨w3.heap.size, 0, none⟩) 1 1 [11] rfl (hide rfl) hr3.out hn3.out hs3.out ?_)
  intro v4 w4 o1 o2 o3
  have hb : Below w2b.heap.size w2b w4 := elm_grown hB3.out hown2.out hB3.out.size o2
  replace HB := hide (HB.out.trans (hb.mono HB.out.size))
  replace Sa := hide (Sa.out.below hb Sa.out.lt)
  replace Da := hide (Da.out.below hb Da.out.lt)
  replace Ba := hide (Ba.out.below hb Ba.out.lt)
  have o4 : w4.ownsRow w2b.heap.size 3 1 v4 (ln + 1) (i64s (l ++ [11])) := by simpa [i64s] using o1
  have hvn : v4 ≠ .slice none 0 0 := by
    rintro rfl
    have h := o4.2
    rcases h with ⟨-, h⟩ | ⟨g, c, cur, h, -⟩
    · omega
    · cases h
  obtain ⟨g4, c4, r4, rfl, hl4, -, -, -, hA4⟩ := own_has o4 hvn
  have hR4 := hide (hA4.ri_app (fun q hq => by
    rcases List.mem_append.1 hq with h | h
    · exact (HL.out _ HB.out).1 q h
    · simp at h
      subst h
      decide))
  have HL4 := hide hl4
  clear hb o1 o2 o3 o4 hvn hl4 hA4 hown2 hB3 hr3 hs3 hn3
  go_wp2_with fail
  refine (matrix_int _ _ K N rfl rfl (l ++ [11]) (ln + 1) HL4.out (some ⟨g4, 0, none⟩) c4 _ (by have := hKb.out; omega) (by have := hNb.out; omega) hR4.out).mono ?_
  rintro e w5 ⟨⟨b, rfl, hb_, hbi⟩, hb⟩
  replace HB := hide (HB.out.trans (hb.mono HB.out.size))
  replace Sa := hide (Sa.out.below hb Sa.out.lt)
  replace Da := hide (Da.out.below hb Da.out.lt)
  replace Ba := hide (Ba.out.below hb Ba.out.lt)
  clear hb
  clear HL4 hR4
  have Tb := hide hb_
  have Ib := hide hbi
  clear hb_ hbi
  obtain ⟨w5b, hw5b⟩ : ∃ W, W = w5.alloc (.cells #[.slice b.P b.zs.length b.cap, .bool b.u, .slice b.D b.ds.length b.dcap] 26) := ⟨_, rfl⟩
  have hbA : Below w5.heap.size w5 w5b := by rw [hw5b]; exact (Below.refl _ _).alloc (Nat.le_refl _) _
  have Bb : Hid (Has w5b w5.heap.size 26 [.slice b.P b.zs.length b.cap, .bool b.u, .slice b.D b.ds.length b.dcap]) := hide (by rw [hw5b]; exact Has.new _ _ _)
  replace HB := hide (HB.out.trans (hbA.mono HB.out.size))
  replace Sa := hide (Sa.out.below hbA Sa.out.lt)
  replace Da := hide (Da.out.below hbA Da.out.lt)
  replace Ba := hide (Ba.out.below hbA Ba.out.lt)
  replace Tb := hide (Tb.out.below hbA)
  have Hw5b := hide hw5b
  clear hw5b hbA
  go_wp2_with fail
  rw [← Hw5b.out]
  clear Hw5b
  refine (HO.out _ HB.out (by omega)).mono ?_
  rintro e w3 ⟨⟨v, rfl, hown, hv0⟩, hb⟩
  have hown2 := hide (hown.alloc (.cells #[.int .i64 17] 3))
  have hB3 := hide (hb.alloc hb.size (.cells #[.int .i64 17] 3))
  have hr3 := hide (new_ri w3 3 [17] (by decide))
  have hs3 := hide hB3.out.size
  have hn3 := hide (show ln + 1 ≤ 1000000000000 by omega)
  clear hown hb hv0
  go_wp2_with (at_builtin; refine wpList_append_is rfl (.tmp 63) (.tmp 64) rfl w5b.heap.size _ ln (i64s l) rfl hown2.out (some ⟨w3.heap.size, 0, none⟩) 1 1 [17] rfl (hide rfl) hr3.out hn3.out hs3.out ?_)
  intro v4 w6 o1 o2 o3
  have hb : Below w5b.heap.size w5b w6 := elm_grown hB3.out hown2.out hB3.out.size o2
  replace HB := hide (HB.out.trans (hb.mono HB.out.size))
  replace Sa := hide (Sa.out.below hb Sa.out.lt)
  replace Da := hide (Da.out.below hb Da.out.lt)
  replace Ba := hide (Ba.out.below hb Ba.out.lt)
  replace Tb := hide (Tb.out.below hb)
  replace Bb := hide (Bb.out.below hb Bb.out.lt)
  have o4 : w6.ownsRow w5b.heap.size 3 1 v4 (ln + 1) (i64s (l ++ [17])) := by simpa [i64s] using o1
  have hvn : v4 ≠ .slice none 0 0 := by
    rintro rfl
    have h := o4.2
    rcases h with ⟨-, h⟩ | ⟨g, c, cur, h, -⟩
    · omega
    · cases h
  obtain ⟨g4, c4, r4, rfl, hl4, -, -, -, hA4⟩ := own_has o4 hvn
  have hR4 := hide (hA4.ri_app (fun q hq => by
    rcases List.mem_append.1 hq with h | h
    · exact (HL.out _ HB.out).1 q h
    · simp at h
      subst h
      decide))
  have HL4 := hide hl4
  clear hb o1 o2 o3 o4 hvn hl4 hA4 hown2 hB3 hr3 hs3 hn3
  go_wp2_with fail
  refine (matrix_own 1 _ 1 K K rfl rfl (Nat.one_mul K) (l ++ [17]) (ln + 1) HL4.out (some ⟨g4, 0, none⟩) c4 _ (by decide) (by have := hKb.out; omega) hR4.out).mono ?_
  rintro e w7 ⟨⟨s1, g1, ts, rfl, -, h1, -, hs, hd, hL, hsm, -⟩, hb⟩
  replace HB := hide (HB.out.trans (hb.mono HB.out.size))
  replace Sa := hide (Sa.out.below hb Sa.out.lt)
  replace Da := hide (Da.out.below hb Da.out.lt)
  replace Ba := hide (Ba.out.below hb Ba.out.lt)
  replace Tb := hide (Tb.out.below hb)
  replace Bb := hide (Bb.out.below hb Bb.out.lt)
  clear hb
  clear HL4 hR4 HO
  have St := hide hs
  have Dt := hide hd
  have Lt := hide hL
  have Mt := hide hsm
  have Ft := hide h1
  clear hs hd hL hsm h1
  have hM8 : (M : Int) ≤ 8 := by have := hMb.out; omega
  obtain ⟨w7b, hw7b⟩ : ∃ W, W = w7.alloc (.cells #[.slice (some ⟨s1, 0, none⟩) 2 2, .bool false, .slice (some ⟨g1, 0, none⟩) K K] 26) := ⟨_, rfl⟩
  have hbA : Below w7.heap.size w7 w7b := by rw [hw7b]; exact (Below.refl _ _).alloc (Nat.le_refl _) _
  have Bt : Hid (Has w7b w7.heap.size 26 [.slice (some ⟨s1, 0, none⟩) 2 2, .bool false, .slice (some ⟨g1, 0, none⟩) K K]) := hide (by rw [hw7b]; exact Has.new _ _ _)
  replace HB := hide (HB.out.trans (hbA.mono HB.out.size))
  replace Sa := hide (Sa.out.below hbA Sa.out.lt)
  replace Da := hide (Da.out.below hbA Da.out.lt)
  replace Ba := hide (Ba.out.below hbA Ba.out.lt)
  replace Tb := hide (Tb.out.below hbA)
  replace Bb := hide (Bb.out.below hbA Bb.out.lt)
  replace St := hide (St.out.below hbA St.out.lt)
  replace Dt := hide (Dt.out.below hbA Dt.out.lt)
  have Hw7b := hide hw7b
  clear hw7b hbA
  go_wp2_with fail
  rw [← Hw7b.out]
  clear Hw7b
  have hs7 : Hid (w.heap.size ≤ w7b.heap.size) := hide HB.out.size
  have Tb7 := Tb
  have HB7 := hide (Below.refl w7b.heap.size w7b)
  clear Tb
  have lSa := Sa.out.lt
  have lDa := Da.out.lt
  have lBa := Ba.out.lt
  have lBb := Bb.out.lt
  have lSt := St.out.lt
  have lDt := Dt.out.lt
  have lBt := Bt.out.lt
  refine (matrix_own _ _ (M + 1) K V (by omega) rfl hV.out [] 0 rfl none 0 _ (by have := hMb.out; omega) (by have := hKb.out; omega) (Ri.nil _ _)).mono ?_
  rintro e w8 ⟨⟨s2, g2, us, rfl, h2, h1, hsg, hs, hd, hL, hsm, hZ⟩, hb⟩
  replace HB := hide (HB.out.trans (hb.mono HB.out.size))
  replace Sa := hide (Sa.out.below hb Sa.out.lt)
  replace Da := hide (Da.out.below hb Da.out.lt)
  replace Ba := hide (Ba.out.below hb Ba.out.lt)
  replace Bb := hide (Bb.out.below hb Bb.out.lt)
  replace St := hide (St.out.below hb St.out.lt)
  replace Dt := hide (Dt.out.below hb Dt.out.lt)
  replace Bt := hide (Bt.out.below hb Bt.out.lt)
  replace HB7 := hide (HB7.out.trans (hb.mono HB7.out.size))
  clear hb
  have hus := hZ rfl
  subst hus
  clear hZ hL hsm h2
  have Su := hide hs
  have Du := hide hd
  have lDu := hd.lt
  have lsg := hsg
  clear hs hd
  have c_Bt2 := Bt.out.cell 2
  have l_Bt := Bt.out.lt
  obtain ⟨w8b, hw8b⟩ : ∃ W, W = w8.alloc (.cells #[.slice (some ⟨s2, 0, none⟩) 2 2, .bool false, .slice (some ⟨g2, 0, none⟩) V V] 26) := ⟨_, rfl⟩
  have hbA : Below w8.heap.size w8 w8b := by rw [hw8b]; exact (Below.refl _ _).alloc (Nat.le_refl _) _
  have Bu : Hid (Has w8b w8.heap.size 26 [.slice (some ⟨s2, 0, none⟩) 2 2, .bool false, .slice (some ⟨g2, 0, none⟩) V V]) := hide (by rw [hw8b]; exact Has.new _ _ _)
  replace HB := hide (HB.out.trans (hbA.mono HB.out.size))
  replace Sa := hide (Sa.out.below hbA Sa.out.lt)
  replace Da := hide (Da.out.below hbA Da.out.lt)
  replace Ba := hide (Ba.out.below hbA Ba.out.lt)
  replace Bb := hide (Bb.out.below hbA Bb.out.lt)
  replace St := hide (St.out.below hbA St.out.lt)
  replace Dt := hide (Dt.out.below hbA Dt.out.lt)
  replace Bt := hide (Bt.out.below hbA Bt.out.lt)
  replace HB7 := hide (HB7.out.trans (hbA.mono HB7.out.size))
  replace Su := hide (Su.out.below hbA Su.out.lt)
  replace Du := hide (Du.out.below hbA Du.out.lt)
  have Hw8b := hide hw8b
  clear hw8b hbA
  go_wp2_with fail
  rw [← Hw8b.out]
  clear Hw8b c_Bt2 l_Bt
  have hsrc : Hid (∀ (j : Nat) (z : Int), ts[j]? = some z → w8b.cell? ((⟨g1, 0, none⟩ : Addr).add j) = some (.int .i64 z)) := hide (fun j z hz => by
    rw [Addr.add_lit, Nat.zero_add, Dt.out.cell]
    unfold i64s
    rw [List.getElem?_map, hz]
    rfl)
  have hmin : Hid (ts.length = Nat.min K V) := hide (by rw [Lt.out, hVT.out]; exact (Nat.min_eq_left (by omega)).symm)
  have hfit : Hid (0 + ts.length ≤ (List.replicate V (0 : Int)).length) := hide (by rw [Lt.out, List.length_replicate, hVT.out]; omega)
  obtain ⟨w9, hcp, HD9, k1, k2, k3⟩ := copy_run w8b 3 g2 0 V V ⟨g1, 0, none⟩ K K (List.replicate V 0) ts Du.out hmin.out hsrc.out hfit.out
  rw [hcp]
  have HD := hide HD9
  clear hcp HD9 hsrc hmin hfit Du
  have hsu := Su.out.lt
  have hbu : w8.heap.size < w8b.heap.size := Bu.out.lt
  replace Sa := hide (k1 _ _ _ (by omega) Sa.out)
  replace Da := hide (k1 _ _ _ (by omega) Da.out)
  replace Ba := hide (k1 _ _ _ (by omega) Ba.out)
  replace Bb := hide (k1 _ _ _ (by omega) Bb.out)
  replace St := hide (k1 _ _ _ (by omega) St.out)
  replace Dt := hide (k1 _ _ _ (by omega) Dt.out)
  replace Bt := hide (k1 _ _ _ (by omega) Bt.out)
  replace Su := hide (k1 _ _ _ (by omega) Su.out)
  replace Bu := hide (k1 _ _ _ (by omega) Bu.out)
  replace HB := hide (k2 _ _ (by have := HB7.out.size; have := hs7.out; omega) HB.out)
  replace HB7 := hide (k2 _ _ (by omega) HB7.out)
  clear k1 k2 k3
  have u2 := Bu.out.cell 2
  have a2 := Ba.out.cell 2
  have hKV : (K : Int) ≤ (V : Int) := by have := hVT.out; omega
  have hK0 : (0 : Int) ≤ (K : Int) := by omega
  have hVK : ¬ V = K := by have h1 := hT.out; have h2 := hMb.out; have h3 := hKb.out; have h4 := Nat.mul_le_mul h2.1 h3.1; have := hVT.out; omega
  go_wp2_with fail
  go_still_tail 6, (by kernel_rfl)
  change wpList _ _ _ _ _ w9.drew
  go_wp2_with fail
  have hVK2 : V - K = T := by have := hVT.out; omega
  rw [hVK2]
  have HD10 : Hid (Has w9.drew g2 3 (i64s (ts ++ List.replicate T 0))) := hide (by
    have h := HD.out.drewN 1
    have e : (List.replicate V (0 : Int)).take 0 ++ (ts ++ (List.replicate V (0 : Int)).drop (0 + ts.length)) = ts ++ List.replicate T 0 := by
      rw [List.take_zero, List.nil_append, List.drop_replicate, Lt.out, Nat.zero_add, hVK2]
    rw [e] at h
    exact h)
  have hsrc : Hid (∀ (j : Nat) (z : Int), xs[j]? = some z → w9.drew.cell? ((⟨g0, 0, none⟩ : Addr).add j) = some (.int .i64 z)) := hide (fun j z hz => by
    have h := Da.out.drewN 1
    rw [Addr.add_lit, Nat.zero_add]
    have h2 := h.cell j
    unfold i64s at h2
    rw [List.getElem?_map, hz] at h2
    exact h2)
  have hmin : Hid (xs.length = Nat.min T T) := hide (by rw [La.out]; exact (Nat.min_self T).symm)
  have hfit : Hid (K + xs.length ≤ (ts ++ List.replicate T (0 : Int)).length) := hide (by rw [List.length_append, Lt.out, List.length_replicate, La.out]; omega)
  obtain ⟨w10, hcp, HD11, k1, k2, k3⟩ := copy_run w9.drew 3 g2 K T T ⟨g0, 0, none⟩ T T (ts ++ List.replicate T 0) xs HD10.out hmin.out hsrc.out hfit.out
  have Du : Hid (Has w10 g2 3 (i64s (ts ++ xs))) := hide (by
    have e : (ts ++ List.replicate T (0 : Int)).take K ++ (xs ++ (ts ++ List.replicate T (0 : Int)).drop (K + xs.length)) = ts ++ xs := by
      rw [List.take_left' Lt.out, List.drop_eq_nil_of_le (by rw [List.length_append, Lt.out, List.length_replicate, La.out]; omega), List.append_nil]
    rw [e] at HD11
    exact HD11)
  rw [hcp]
  clear hcp HD11 HD10 hsrc hmin hfit HD u2 a2
  replace Sa := hide (k1 _ _ _ (by omega) (Sa.out.drewN 1))
  replace Da := hide (k1 _ _ _ (by omega) (Da.out.drewN 1))
  replace Ba := hide (k1 _ _ _ (by omega) (Ba.out.drewN 1))
  replace Bb := hide (k1 _ _ _ (by omega) (Bb.out.drewN 1))
  replace St := hide (k1 _ _ _ (by omega) (St.out.drewN 1))
  replace Dt := hide (k1 _ _ _ (by omega) (Dt.out.drewN 1))
  replace Bt := hide (k1 _ _ _ (by omega) (Bt.out.drewN 1))
  replace Su := hide (k1 _ _ _ (by omega) (Su.out.drewN 1))
  replace Bu := hide (k1 _ _ _ (by omega) (Bu.out.drewN 1))
  replace HB := hide (k2 _ _ (by have := HB7.out.size; have := hs7.out; omega) HB.out.drew)
  replace HB7 := hide (k2 _ _ (by omega) HB7.out.drew)
  clear k1 k2 k3
  have Tb := hide (Tb7.out.below HB7.out)
  clear HB7
  clear Tb7
  obtain ⟨X, hX⟩ : ∃ X, Hid (M * N = X) := ⟨_, hide rfl⟩
  obtain ⟨Y, hY⟩ : ∃ X, Hid ((M + 1) * N = X) := ⟨_, hide rfl⟩
  have hYX : Hid (Y = X + N) := hide (by rw [← hY.out, ← hX.out, Nat.succ_mul])
  have hXb : X ≤ 64 := by rw [← hX.out]; exact Nat.mul_le_mul hMb.out.2 hNb.out.2
  have Mu : Hid (Mat.small (ts ++ xs)) := hide (fun z hz => by
    rcases List.mem_append.1 hz with h | h
    · exact Mt.out z h
    · exact Ma.out z h)
  have Lu : Hid ((ts ++ xs).length = V) := hide (by rw [List.length_append, Lt.out, La.out, hVT.out, Nat.add_comm])
  have c_Ba0 := Ba.out.cell 0
  have c_Ba1 := Ba.out.cell 1
  have c_Ba2 := Ba.out.cell 2
  have c_Bb0 := Bb.out.cell 0
  have c_Bb1 := Bb.out.cell 1
  have c_Bb2 := Bb.out.cell 2
  go_wp2_with fail
  clear c_Ba0 c_Ba1 c_Ba2 c_Bb0 c_Bb1 c_Bb2
  refine (mul_own X ah am ar w10 Sa.out Da.out La.out hT.out Ma.out Ib.out (by have := hMb.out; omega) (by have := hKb.out; omega) (by have := hNb.out; omega) Hya.out Hyb.out Tb.out (HE.out _ HB.out) hX.out).mono ?_
  rintro e w11 ⟨⟨p, qp, rfl, -, hd⟩, hb⟩
  replace HB := hide (HB.out.trans (hb.mono HB.out.size))
  replace Sa := hide (Sa.out.below hb Sa.out.lt)
  replace Da := hide (Da.out.below hb Da.out.lt)
  replace Ba := hide (Ba.out.below hb Ba.out.lt)
  replace Bb := hide (Bb.out.below hb Bb.out.lt)
  replace St := hide (St.out.below hb St.out.lt)
  replace Dt := hide (Dt.out.below hb Dt.out.lt)
  replace Bt := hide (Bt.out.below hb Bt.out.lt)
  replace Su := hide (Su.out.below hb Su.out.lt)
  replace Bu := hide (Bu.out.below hb Bu.out.lt)
  replace Du := hide (Du.out.below hb Du.out.lt)
  replace Tb := hide (Tb.out.below hb)
  clear hb
  have Dp := hide hd
  clear hd
  have c_Bt0 := Bt.out.cell 0
  have c_Bt1 := Bt.out.cell 1
  have c_Bt2 := Bt.out.cell 2
  have l_Bt := Bt.out.lt
  have c_Bb0 := Bb.out.cell 0
  have c_Bb1 := Bb.out.cell 1
  have c_Bb2 := Bb.out.cell 2
  have l_Bb := Bb.out.lt
  obtain ⟨w11b, hw11b⟩ : ∃ W, W = w11.alloc (.cells #[.slice p.P p.zs.length p.cap, .bool p.u, .slice (some ⟨qp, 0, none⟩) X X] 26) := ⟨_, rfl⟩
  have hbA : Below w11.heap.size w11 w11b := by rw [hw11b]; exact (Below.refl _ _).alloc (Nat.le_refl _) _
  have Bp : Hid (Has w11b w11.heap.size 26 [.slice p.P p.zs.length p.cap, .bool p.u, .slice (some ⟨qp, 0, none⟩) X X]) := hide (by rw [hw11b]; exact Has.new _ _ _)
  replace HB := hide (HB.out.trans (hbA.mono HB.out.size))
  replace Sa := hide (Sa.out.below hbA Sa.out.lt)
  replace Da := hide (Da.out.below hbA Da.out.lt)
  replace Ba := hide (Ba.out.below hbA Ba.out.lt)
  replace Bb := hide (Bb.out.below hbA Bb.out.lt)
  replace St := hide (St.out.below hbA St.out.lt)
  replace Dt := hide (Dt.out.below hbA Dt.out.lt)
  replace Bt := hide (Bt.out.below hbA Bt.out.lt)
  replace Su := hide (Su.out.below hbA Su.out.lt)
  replace Bu := hide (Bu.out.below hbA Bu.out.lt)
  replace Du := hide (Du.out.below hbA Du.out.lt)
  replace Tb := hide (Tb.out.below hbA)
  replace Dp := hide (Dp.out.below hbA Dp.out.lt)
  have Hw11b := hide hw11b
  clear hw11b hbA
  go_wp2_with fail
  rw [← Hw11b.out]
  clear Hw11b c_Bt0 c_Bt1 c_Bt2 l_Bt c_Bb0 c_Bb1 c_Bb2 l_Bb
  refine (mul_own N ah am ar w11b St.out Dt.out Lt.out (Nat.one_mul K) Mt.out Ib.out (by decide) (by have := hKb.out; omega) (by have := hNb.out; omega) Hya.out Hyb.out Tb.out (HE.out _ HB.out) (Nat.one_mul N)).mono ?_
  rintro e w12 ⟨⟨q, qq, rfl, -, hd⟩, hb⟩
  replace HB := hide (HB.out.trans (hb.mono HB.out.size))
  replace Sa := hide (Sa.out.below hb Sa.out.lt)
  replace Da := hide (Da.out.below hb Da.out.lt)
  replace Ba := hide (Ba.out.below hb Ba.out.lt)
  replace Bb := hide (Bb.out.below hb Bb.out.lt)
  replace St := hide (St.out.below hb St.out.lt)
  replace Dt := hide (Dt.out.below hb Dt.out.lt)
  replace Bt := hide (Bt.out.below hb Bt.out.lt)
  replace Su := hide (Su.out.below hb Su.out.lt)
  replace Bu := hide (Bu.out.below hb Bu.out.lt)
  replace Du := hide (Du.out.below hb Du.out.lt)
  replace Tb := hide (Tb.out.below hb)
  replace Dp := hide (Dp.out.below hb Dp.out.lt)
  replace Bp := hide (Bp.out.below hb Bp.out.lt)
  clear hb
  have Dq := hide hd
  clear hd
  have c_Bu0 := Bu.out.cell 0
  have c_Bu1 := Bu.out.cell 1
  have c_Bu2 := Bu.out.cell 2
  have l_Bu := Bu.out.lt
  have c_Bb0 := Bb.out.cell 0
  have c_Bb1 := Bb.out.cell 1
  have c_Bb2 := Bb.out.cell 2
  have l_Bb := Bb.out.lt
  obtain ⟨w12b, hw12b⟩ : ∃ W, W = w12.alloc (.cells #[.slice q.P q.zs.length q.cap, .bool q.u, .slice (some ⟨qq, 0, none⟩) N N] 26) := ⟨_, rfl⟩
  have hbA : Below w12.heap.size w12 w12b := by rw [hw12b]; exact (Below.refl _ _).alloc (Nat.le_refl _) _
  have Bq : Hid (Has w12b w12.heap.size 26 [.slice q.P q.zs.length q.cap, .bool q.u, .slice (some ⟨qq, 0, none⟩) N N]) := hide (by rw [hw12b]; exact Has.new _ _ _)
  replace HB := hide (HB.out.trans (hbA.mono HB.out.size))
  replace Sa := hide (Sa.out.below hbA Sa.out.lt)
  replace Da := hide (Da.out.below hbA Da.out.lt)
  replace Ba := hide (Ba.out.below hbA Ba.out.lt)
  replace Bb := hide (Bb.out.below hbA Bb.out.lt)
  replace St := hide (St.out.below hbA St.out.lt)
  replace Dt := hide (Dt.out.below hbA Dt.out.lt)
  replace Bt := hide (Bt.out.below hbA Bt.out.lt)
  replace Su := hide (Su.out.below hbA Su.out.lt)
  replace Bu := hide (Bu.out.below hbA Bu.out.lt)
  replace Du := hide (Du.out.below hbA Du.out.lt)
  replace Tb := hide (Tb.out.below hbA)
  replace Dp := hide (Dp.out.below hbA Dp.out.lt)
  replace Bp := hide (Bp.out.below hbA Bp.out.lt)
  replace Dq := hide (Dq.out.below hbA Dq.out.lt)
  have Hw12b := hide hw12b
  clear hw12b hbA
  go_wp2_with fail
  rw [← Hw12b.out]
  clear Hw12b c_Bu0 c_Bu1 c_Bu2 l_Bu c_Bb0 c_Bb1 c_Bb2 l_Bb
  refine (mul_own Y ah am ar w12b Su.out Du.out Lu.out hV.out Mu.out Ib.out (by have := hMb.out; omega) (by have := hKb.out; omega) (by have := hNb.out; omega) Hya.out Hyb.out Tb.out (HE.out _ HB.out) hY.out).mono ?_
  rintro e w13 ⟨⟨r, qr, rfl, -, hd⟩, hb⟩
  replace HB := hide (HB.out.trans (hb.mono HB.out.size))
  replace Sa := hide (Sa.out.below hb Sa.out.lt)
  replace Da := hide (Da.out.below hb Da.out.lt)
  replace Ba := hide (Ba.out.below hb Ba.out.lt)
  replace Bb := hide (Bb.out.below hb Bb.out.lt)
  replace St := hide (St.out.below hb St.out.lt)
  replace Dt := hide (Dt.out.below hb Dt.out.lt)
  replace Bt := hide (Bt.out.below hb Bt.out.lt)
  replace Su := hide (Su.out.below hb Su.out.lt)
  replace Bu := hide (Bu.out.below hb Bu.out.lt)
  replace Du := hide (Du.out.below hb Du.out.lt)
  replace Tb := hide (Tb.out.below hb)
  replace Dp := hide (Dp.out.below hb Dp.out.lt)
  replace Bp := hide (Bp.out.below hb Bp.out.lt)
  replace Dq := hide (Dq.out.below hb Dq.out.lt)
  replace Bq := hide (Bq.out.below hb Bq.out.lt)
  clear hb
  have Dr := hide hd
  clear hd
  have hN0 : (0 : Int) ≤ (N : Int) := by omega
  have hNY : (N : Int) ≤ (Y : Int) := by have := hYX.out; omega
  have hYN : ¬ Y = N := by have h1 := hX.out; have h2 := hMb.out; have h3 := hNb.out; have h4 := Nat.mul_le_mul h2.1 h3.1; have := hYX.out; omega
  have hYN2 : Y - N = X := by have := hYX.out; omega
  have c_Bq2 := Bq.out.cell 2
  have l_Bq := Bq.out.lt
  obtain ⟨w13b, hw13b⟩ : ∃ W, W = w13.alloc (.cells #[.slice r.P r.zs.length r.cap, .bool r.u, .slice (some ⟨qr, 0, none⟩) Y Y] 26) := ⟨_, rfl⟩
  have hbA : Below w13.heap.size w13 w13b := by rw [hw13b]; exact (Below.refl _ _).alloc (Nat.le_refl _) _
  have Br : Hid (Has w13b w13.heap.size 26 [.slice r.P r.zs.length r.cap, .bool r.u, .slice (some ⟨qr, 0, none⟩) Y Y]) := hide (by rw [hw13b]; exact Has.new _ _ _)
  replace HB := hide (HB.out.trans (hbA.mono HB.out.size))
  replace Sa := hide (Sa.out.below hbA Sa.out.lt)
  replace Da := hide (Da.out.below hbA Da.out.lt)
  replace Ba := hide (Ba.out.below hbA Ba.out.lt)
  replace Bb := hide (Bb.out.below hbA Bb.out.lt)
  replace St := hide (St.out.below hbA St.out.lt)
  replace Dt := hide (Dt.out.below hbA Dt.out.lt)
  replace Bt := hide (Bt.out.below hbA Bt.out.lt)
  replace Su := hide (Su.out.below hbA Su.out.lt)
  replace Bu := hide (Bu.out.below hbA Bu.out.lt)
  replace Du := hide (Du.out.below hbA Du.out.lt)
  replace Tb := hide (Tb.out.below hbA)
  replace Dp := hide (Dp.out.below hbA Dp.out.lt)
  replace Bp := hide (Bp.out.below hbA Bp.out.lt)
  replace Dq := hide (Dq.out.below hbA Dq.out.lt)
  replace Bq := hide (Bq.out.below hbA Bq.out.lt)
  replace Dr := hide (Dr.out.below hbA Dr.out.lt)
  have Hw13b := hide hw13b
  clear hw13b hbA
  go_wp2_with fail
  rw [← Hw13b.out]
  clear Hw13b c_Bq2 l_Bq
  have hwf : ∀ (xs ys : List Int) (X : Nat), ∀ z ∈ Mat.part xs ys ya yb K N 0 X, (Lit.int .i64 z).wf = true := fun xs ys X => Mat.part_wf xs ys ya yb K N 0 X
  have hr1 := Dr.out.ri_take N (hwf _ _ _)
  have hr2 := Dr.out.ri_from N (hwf _ _ _)
  rw [← hY.out] at hr1 hr2
  rw [Mat.part_top ts xs b.ds ya yb M K N Lt.out, Nat.one_mul] at hr1
  rw [Mat.part_rest ts xs b.ds ya yb M K N (by have := hNb.out; omega) Lt.out, hX.out] at hr2
  have hr3 := Dq.out.ri (hwf _ _ _)
  have hr4 := Dp.out.ri (hwf _ _ _)
  have S1 : Hid (∀ W, Below w13b.heap.size w13b W → Calls Tryd.prog 30 #[.slice (some ⟨qr, 0, none⟩) N Y, .slice (some ⟨qq, 0, none⟩) N N] W fun e w' => e = .returned (.bool true) ∧ Below W.heap.size W w') := hide (fun W hb => by
    have h := sameints_c _ _ (some ⟨qr, 0, none⟩) (some ⟨qq, 0, none⟩) Y N W (hr1.below hb) (hr3.below hb) (by rw [Mat.part_length]; have := hNb.out; omega) (by rw [Mat.part_length]; have := hNb.out; omega)
    rw [Mat.part_length] at h
    simpa using h)
  have S2 : Hid (∀ W, Below w13b.heap.size w13b W → Calls Tryd.prog 30 #[.slice (some ⟨qr, N, none⟩) X X, .slice (some ⟨qp, 0, none⟩) X X] W fun e w' => e = .returned (.bool true) ∧ Below W.heap.size W w') := hide (fun W hb => by
    have h := sameints_c _ _ (some ⟨qr, N, none⟩) (some ⟨qp, 0, none⟩) X X W (hr2.below hb) (hr4.below hb) (by rw [Mat.part_length]; omega) (by rw [Mat.part_length]; omega)
    rw [Mat.part_length] at h
    simpa using h)
  have la1 := Br.out.lt
  have la2 := Bq.out.lt
  have la3 := Bp.out.lt
  have hS0 : AdS w13b w13.heap.size w12.heap.size w11.heap.size (.slice (some ⟨qr, 0, none⟩) Y Y) (.slice (some ⟨qq, 0, none⟩) N N) (.slice (some ⟨qp, 0, none⟩) X X) w13b.drew := ⟨Br.out.cell 2, Bq.out.cell 2, Bp.out.cell 2, hide (Below.refl _ _).drew⟩
  clear hr1 hr2 hr3 hr4 hwf
  go_region_held3 (fun W => W.cell? ⟨w13.heap.size, 2, none⟩ = some (.slice (some ⟨qr, 0, none⟩) Y Y) ∧ W.cell? ⟨w12.heap.size, 2, none⟩ = some (.slice (some ⟨qq, 0, none⟩) N N) ∧ W.cell? ⟨w11.heap.size, 2, none⟩ = some (.slice (some ⟨qp, 0, none⟩) X X) ∧ Hid (Below w13b.heap.size w13b W))
    (first | exact hS0 | assumption | exact AdS.keep (by assumption) la1 la2 la3 hb)
    (first
      | (go_at_call 30; with_reducible refine (S1.out _ (AdS.low (by assumption))).mono ?_; rintro e W2 ⟨rfl, hb⟩)
      | (go_at_call 30; with_reducible refine (S2.out _ (AdS.low (by assumption))).mono ?_; rintro e W3 ⟨rfl, hb⟩))
  have hLow : AdS w13b w13.heap.size w12.heap.size w11.heap.size (.slice (some ⟨qr, 0, none⟩) Y Y) (.slice (some ⟨qq, 0, none⟩) N N) (.slice (some ⟨qp, 0, none⟩) X X) W3 := by assumption
  have HFin := hide (HB.out.trans (hLow.low.mono HB.out.size))
  clear hLow
  go_wp2_with fail
  go_ret
  exact ⟨rfl, HFin.out⟩
end Go.Proofs.YtkehdgjdieemkaaDoor
