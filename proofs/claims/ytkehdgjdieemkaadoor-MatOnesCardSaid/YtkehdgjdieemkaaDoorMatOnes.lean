/-
  The law MatOnes, walked. By an AI agent. No person has read it.
-/
import Derived.Test.YtkehdgjdieemkaaDoorMatI
import Derived.StillTailTactics
import Derived.Deep.RegionHeld3
import Derived.Deep.LoopGhost
namespace Go.Proofs.YtkehdgjdieemkaaDoor
open Go.RowKit

/-- The first i ones of the diagonal are laid. -/
structure DiagUp (ds : List Int) (N U i : Nat) : Prop where
  len : ds.length = U
  at_ : ∀ r c, r < N → c < N → ds.getD (r * N + c) 0 = if r = c ∧ r < i then 1 else 0
  sm : Mat.small ds
theorem DiagUp.start (N U : Nat) : DiagUp (List.replicate U 0) N U 0 := ⟨by simp, fun r c _ _ => by
  rw [if_neg (by omega), List.getD_eq_getElem?_getD, List.getElem?_replicate]
  split <;> rfl, fun z hz => by rw [(List.mem_replicate.1 hz).2]; decide⟩
theorem DiagUp.place {N U i : Nat} (hU : N * N = U) (hi : i < N) : i * N + i < U := by
  have : i * N + N ≤ N * N := by rw [← Nat.succ_mul]; exact Nat.mul_le_mul_right N hi
  omega
theorem DiagUp.next {ds : List Int} {N U i : Nat} (h : DiagUp ds N U i) (hU : N * N = U) (hi : i < N) : DiagUp (ds.set (i * N + i) 1) N U (i + 1) := by
  have hp := DiagUp.place hU hi
  refine ⟨by rw [List.length_set]; exact h.len, fun r c hr hc => ?_, fun z hz => ?_⟩
  · rw [List.getD_eq_getElem?_getD, List.getElem?_set]
    by_cases e : i * N + i = r * N + c
    · have e1 : i = r := by
        have h1 : (i * N + i) / N = i := by rw [Nat.add_comm, Nat.add_mul_div_right _ _ (by omega), Nat.div_eq_of_lt hi, Nat.zero_add]
        have h2 : (r * N + c) / N = r := by rw [Nat.add_comm, Nat.add_mul_div_right _ _ (by omega), Nat.div_eq_of_lt hc, Nat.zero_add]
        rw [e, h2] at h1
        exact h1.symm
      subst e1
      have e2 : i = c := by omega
      rw [if_pos e, if_pos (by rw [h.len]; exact hp), if_pos ⟨e2, by omega⟩]
      rfl
    · rw [if_neg e]
      have h1 := h.at_ r c hr hc
      rw [List.getD_eq_getElem?_getD] at h1
      rw [h1]
      by_cases g : r = c ∧ r < i
      · rw [if_pos g, if_pos ⟨g.1, by omega⟩]
      · rw [if_neg g, if_neg]
        rintro ⟨g1, g2⟩
        subst g1
        have : r = i := by
          rcases Nat.lt_or_ge r i with h | h
          · exact absurd ⟨rfl, h⟩ g
          · omega
        subst this
        exact e rfl
  · rcases List.mem_or_eq_of_mem_set hz with h1 | h1
    · exact h.sm z h1
    · rw [h1]
      decide
/-- By the one on its diagonal: itself, without its zero. -/
theorem Mat.ones_at {xs ds : List Int} {M N T U : Nat} {za : Int} (h : DiagUp ds N U N) (hT : M * N = T) (hl : xs.length = T) (hs : Mat.small xs) (hza : -128 ≤ za ∧ za ≤ 127) (i : Nat) (x : Int) (hi : xs[i]? = some x) : (Mat.part xs ds za 0 N N 0 T)[i]? = some (x - za) := by
  have hlt : i < T := by rw [← hl]; exact (List.getElem?_eq_some_iff.1 hi).1
  have hN : 0 < N := Nat.pos_of_ne_zero fun e => by rw [e] at hT; omega
  rw [Mat.part_at _ _ _ _ _ _ _ _ _ hlt, Nat.zero_add, Mat.dot_one xs ds za N (i / N) (i % N) N (fun r c hr hc => by
    rw [h.at_ r c hr hc]
    by_cases e : r = c
    · rw [if_pos ⟨e, hr⟩, if_pos e]
    · rw [if_neg (fun g => e g.1), if_neg e]) (Nat.le_refl _) (Nat.mod_lt _ hN), if_pos (Nat.mod_lt _ hN)]
  have e : i / N * N + i % N = i := by rw [Nat.mul_comm]; exact Nat.div_add_mod i N
  rw [e, List.getD_eq_getElem?_getD, hi, Option.getD_some]
  have hb := hs x (List.mem_of_getElem? hi)
  congr 1
  unfold Tens.wide
  omega
theorem Mat.none_at {xs : List Int} {N T U : Nat} {za : Int} (i : Nat) (hi : i < T) : (Mat.part xs (List.replicate U 0) za 0 N N 0 T)[i]? = some 0 := by
  rw [Mat.part_at _ _ _ _ _ _ _ _ _ hi, Mat.dot_none _ _ _ _ _ _ _ _ (fun j => by
    rw [List.getD_eq_getElem?_getD, List.getElem?_replicate]
    split <;> rfl)]
  rfl
/-- mat.Mul of two that lie in blocks known. -/
theorem mul_own2 (X : Nat) {gs g T hs hg U M K N : Nat} {ds es : List Int} {za zb : Int} (ah am ar : Addr) (w : World) (hS : Has w gs 3 (i64s [(M : Int), (K : Int)])) (hD : Has w g 3 (i64s ds)) (hL : ds.length = T) (hT : M * K = T) (hsm : Mat.small ds)
    (kS : Has w hs 3 (i64s [(K : Int), (N : Int)])) (kD : Has w hg 3 (i64s es)) (kL : es.length = U) (kT : K * N = U) (ksm : Mat.small es) (h1 : 1 ≤ M ∧ M ≤ 100) (h2 : 1 ≤ K ∧ K ≤ 100) (h3 : 1 ≤ N ∧ N ≤ 100) (hza : -128 ≤ za ∧ za ≤ 127) (hzb : -128 ≤ zb ∧ zb ≤ 127) (hE : E3 w ah am ar) (hX : M * N = X) :
    Calls Tryd.prog 15 #[.agg #[.slice (some ⟨gs, 0, none⟩) 2 2, .bool false, .slice (some ⟨g, 0, none⟩) T T], .agg #[.slice (some ⟨hs, 0, none⟩) 2 2, .bool false, .slice (some ⟨hg, 0, none⟩) U U], .int .i64 za, .int .i64 zb] w fun e w' =>
      (∃ (P : Option Addr) (n c q : Nat), e = .returned (.tuple #[.agg #[.slice P n c, .bool true, .slice (some ⟨q, 0, none⟩) X X], .nilIface]) ∧ Has w' q 3 (i64s (Mat.part ds es za zb K N 0 X))) ∧ Below w.heap.size w w' := by
  subst hX
  obtain ⟨i1, i2⟩ := Mat.lit hS hD hL hT hsm h1.2 h2.2
  obtain ⟨j1, j2⟩ := Mat.lit kS kD kL kT ksm h2.2 h3.2
  have h := mul_good i2 j2 h1 h2 h3 hza hzb ah am ar w i1 j1 hE
  have e1 : ([(M : Int), (K : Int)] : List Int).length = 2 := rfl
  have e2 : ([(K : Int), (N : Int)] : List Int).length = 2 := rfl
  rw [e1, e2, hL, kL] at h
  refine h.mono ?_
  rintro e w' ⟨⟨t, rfl, hIn, hI, hd, q, hq, hc, hH⟩, hB⟩
  rw [hd] at hH
  refine ⟨⟨t.P, t.zs.length, t.cap, q, ?_, hH⟩, hB⟩
  rw [hq, hc, hd, Mat.part_length, hI.hu]
/-- mat.Cell of two such. -/
theorem cell_own2 {gs g T hs hg U M K N : Nat} {ds es : List Int} {za zb : Int} (i v : Int) (ah am ar : Addr) (w : World) (hS : Has w gs 3 (i64s [(M : Int), (K : Int)])) (hD : Has w g 3 (i64s ds)) (hL : ds.length = T) (hT : M * K = T) (hsm : Mat.small ds)
    (kS : Has w hs 3 (i64s [(K : Int), (N : Int)])) (kD : Has w hg 3 (i64s es)) (kL : es.length = U) (kT : K * N = U) (ksm : Mat.small es) (h1 : 1 ≤ M ∧ M ≤ 100) (h2 : 1 ≤ K ∧ K ≤ 100) (h3 : 1 ≤ N ∧ N ≤ 100) (hza : -128 ≤ za ∧ za ≤ 127) (hzb : -128 ≤ zb ∧ zb ≤ 127) (hE : E3 w ah am ar) (hi : -9223372036854775808 ≤ i ∧ i ≤ 9223372036854775807)
    (hv : v = if 0 ≤ i then (Mat.part ds es za zb K N 0 (M * N)).getD i.toNat 0 else 0) :
    Calls Tryd.prog 24 #[.agg #[.slice (some ⟨gs, 0, none⟩) 2 2, .bool false, .slice (some ⟨g, 0, none⟩) T T], .agg #[.slice (some ⟨hs, 0, none⟩) 2 2, .bool false, .slice (some ⟨hg, 0, none⟩) U U], .int .i64 za, .int .i64 zb, .int .i64 i] w fun e w' =>
      e = .returned (.int .i64 v) ∧ Below w.heap.size w w' := by
  obtain ⟨i1, i2⟩ := Mat.lit hS hD hL hT hsm h1.2 h2.2
  obtain ⟨j1, j2⟩ := Mat.lit kS kD kL kT ksm h2.2 h3.2
  obtain ⟨f1, -, -, f4⟩ := Mat.prod_ok i2 j2 h1 h2 h3 hza hzb
  have h := mcell_c _ _ za zb i ah am ar w i1 j1 (fun q hq => by
    simp at hq
    rcases hq with rfl | rfl
    · exact wf_i64 _ (by omega)
    · exact wf_i64 _ (by omega)) hi hE
  have e1 : ([(M : Int), (K : Int)] : List Int).length = 2 := rfl
  have e2 : ([(K : Int), (N : Int)] : List Int).length = 2 := rfl
  rw [e1, e2, hL, kL] at h
  have hc : Mat.cell za zb ⟨some ⟨gs, 0, none⟩, [(M : Int), (K : Int)], 2, false, some ⟨g, 0, none⟩, ds, T⟩ ⟨some ⟨hs, 0, none⟩, [(K : Int), (N : Int)], 2, false, some ⟨hg, 0, none⟩, es, U⟩ i = v := by
    unfold Mat.cell
    rw [if_pos f1, f4, hv]
  rw [hc] at h
  exact h
/-- A box's cells, held. -/
abbrev OnS (w0 : World) (b : Nat) (x y z : Value) (W : World) : Prop := W.cell? ⟨b, 0, none⟩ = some x ∧ W.cell? ⟨b, 1, none⟩ = some y ∧ W.cell? ⟨b, 2, none⟩ = some z ∧ Hid (Below w0.heap.size w0 W)
theorem OnS.keep {w0 : World} {b : Nat} {x y z : Value} {W W' : World} (h : OnS w0 b x y z W) (hb : b < w0.heap.size) (hB : Below W.heap.size W W') : OnS w0 b x y z W' := by
  have hs := h.2.2.2.out.size
  exact ⟨(hB.cell (p := ⟨b, 0, none⟩) (Nat.lt_of_lt_of_le hb hs)).trans h.1, (hB.cell (p := ⟨b, 1, none⟩) (Nat.lt_of_lt_of_le hb hs)).trans h.2.1, (hB.cell (p := ⟨b, 2, none⟩) (Nat.lt_of_lt_of_le hb hs)).trans h.2.2.1, hide (h.2.2.2.out.trans (hB.mono hs))⟩
theorem OnS.far3 {w0 : World} {b : Nat} {x y z : Value} {W : World} (h : OnS w0 b x y z W) (hb : b < w0.heap.size) {c : Nat} (hc : w0.heap.size ≤ c) (u v t : Value) : OnS w0 b x y z (((W.setCell ⟨c, 0, none⟩ u).setCell ⟨c, 1, none⟩ v).setCell ⟨c, 2, none⟩ t) := by
  have k : ∀ (i : Nat), (((W.setCell ⟨c, 0, none⟩ u).setCell ⟨c, 1, none⟩ v).setCell ⟨c, 2, none⟩ t).cell? ⟨b, i, none⟩ = W.cell? ⟨b, i, none⟩ := fun i => by
    rw [World.cell?_setCell_far _ _ _ _ (by show c ≠ b; omega), World.cell?_setCell_far _ _ _ _ (by show c ≠ b; omega), World.cell?_setCell_far _ _ _ _ (by show c ≠ b; omega)]
  exact ⟨(k 0).trans h.1, (k 1).trans h.2.1, (k 2).trans h.2.2.1, hide (((h.2.2.2.out.setCell (p := ⟨c, 0, none⟩) hc u).setCell (p := ⟨c, 1, none⟩) hc v).setCell (p := ⟨c, 2, none⟩) hc t)⟩
theorem OnS.low {w0 : World} {b : Nat} {x y z : Value} {W : World} (h : OnS w0 b x y z W) : Below w0.heap.size w0 W := h.2.2.2.out
/-- Eleven cells, held. -/
abbrev OrS (w0 : World) (p0 : Addr) (v0 : Value) (p1 : Addr) (v1 : Value) (p2 : Addr) (v2 : Value) (p3 : Addr) (v3 : Value) (p4 : Addr) (v4 : Value) (p5 : Addr) (v5 : Value) (p6 : Addr) (v6 : Value) (p7 : Addr) (v7 : Value) (p8 : Addr) (v8 : Value) (p9 : Addr) (v9 : Value) (p10 : Addr) (v10 : Value) (W : World) : Prop := W.cell? p0 = some v0 ∧ W.cell? p1 = some v1 ∧ W.cell? p2 = some v2 ∧ W.cell? p3 = some v3 ∧ W.cell? p4 = some v4 ∧ W.cell? p5 = some v5 ∧ W.cell? p6 = some v6 ∧ W.cell? p7 = some v7 ∧ W.cell? p8 = some v8 ∧ W.cell? p9 = some v9 ∧ W.cell? p10 = some v10 ∧ Hid (Below w0.heap.size w0 W)
theorem OrS.keep {w0 : World} {p0 p1 p2 p3 p4 p5 p6 p7 p8 p9 p10 : Addr} {v0 v1 v2 v3 v4 v5 v6 v7 v8 v9 v10 : Value} {W W' : World} (h : OrS w0 p0 v0 p1 v1 p2 v2 p3 v3 p4 v4 p5 v5 p6 v6 p7 v7 p8 v8 p9 v9 p10 v10 W) (l0 : p0.block < w0.heap.size) (l1 : p1.block < w0.heap.size) (l2 : p2.block < w0.heap.size) (l3 : p3.block < w0.heap.size) (l4 : p4.block < w0.heap.size) (l5 : p5.block < w0.heap.size) (l6 : p6.block < w0.heap.size) (l7 : p7.block < w0.heap.size) (l8 : p8.block < w0.heap.size) (l9 : p9.block < w0.heap.size) (l10 : p10.block < w0.heap.size) (hB : Below W.heap.size W W') : OrS w0 p0 v0 p1 v1 p2 v2 p3 v3 p4 v4 p5 v5 p6 v6 p7 v7 p8 v8 p9 v9 p10 v10 W' := by
  obtain ⟨h0, h1, h2, h3, h4, h5, h6, h7, h8, h9, h10, hb⟩ := h
  have hs := hb.out.size
  exact ⟨(hB.cell (Nat.lt_of_lt_of_le l0 hs)).trans h0, (hB.cell (Nat.lt_of_lt_of_le l1 hs)).trans h1, (hB.cell (Nat.lt_of_lt_of_le l2 hs)).trans h2, (hB.cell (Nat.lt_of_lt_of_le l3 hs)).trans h3, (hB.cell (Nat.lt_of_lt_of_le l4 hs)).trans h4, (hB.cell (Nat.lt_of_lt_of_le l5 hs)).trans h5, (hB.cell (Nat.lt_of_lt_of_le l6 hs)).trans h6, (hB.cell (Nat.lt_of_lt_of_le l7 hs)).trans h7, (hB.cell (Nat.lt_of_lt_of_le l8 hs)).trans h8, (hB.cell (Nat.lt_of_lt_of_le l9 hs)).trans h9, (hB.cell (Nat.lt_of_lt_of_le l10 hs)).trans h10, hide (hb.out.trans (hB.mono hs))⟩
theorem OrS.low {w0 : World} {p0 p1 p2 p3 p4 p5 p6 p7 p8 p9 p10 : Addr} {v0 v1 v2 v3 v4 v5 v6 v7 v8 v9 v10 : Value} {W : World} (h : OrS w0 p0 v0 p1 v1 p2 v2 p3 v3 p4 v4 p5 v5 p6 v6 p7 v7 p8 v8 p9 v9 p10 v10 W) : Below w0.heap.size w0 W := h.2.2.2.2.2.2.2.2.2.2.2.out
theorem Has.ne {W : World} {a b : Nat} {t s : TypeId} {xs ys : List Value} (h1 : Has W a t xs) (h2 : Has W b s ys) (ht : t ≠ s) : a ≠ b := by
  rintro rfl
  have e1 : W.heap[a]? = _ := h1
  have e2 : W.heap[a]? = _ := h2
  rw [e1] at e2
  simp at e2
  exact ht e2.2
set_option maxRecDepth 100000 in
set_option maxHeartbeats 16000000 in
theorem oneslaw_c (m n : Int) (l : List Int) (A : Option Addr) (cap : Nat) (za : Int) (ah am ar : Addr) (w : World) (hr : Ri w A l) (hE : E3 w ah am ar) :
    Calls Tryd.prog 5 #[.int .i64 m, .int .i64 n, .slice A l.length cap, .int .i64 za] w fun e w' => e = .returned (.bool true) ∧ Below w.heap.size w w' := by
  have HF := hide (first8_c ah am ar w hE)
  have HE := hide (fun W (hb : Below w.heap.size w W) => hE.below hb)
  have HL := hide (fun W (hb : Below w.heap.size w W) => hr.below hb)
  obtain ⟨m1, hm0, hm1, NM⟩ := number_n m 12 (by decide) (by decide) 12 rfl
  obtain ⟨n1, hn0, hn1, NN⟩ := number_n n 12 (by decide) (by decide) 12 rfl
  obtain ⟨a1, ha0, ha1, NA⟩ := number_n za 256 (by decide) (by decide) 256 rfl
  obtain ⟨ln, hln⟩ : ∃ n, Hid (l.length = n) := ⟨_, hide rfl⟩
  rw [hln.out]
  clear hr hE
  by_cases hbig : 40 < ln
  case pos =>
    have hb2 : (40 : Int) < ln := by omega
    clear hbig
    go_enter Tryd.func5, Tryd.ntmps5
    go_wp2_with fail
    refine (HF.out).mono ?_
    rintro e w1 ⟨rfl, hb⟩
    have HB := hide hb
    clear hb HF
    go_wp2_with fail
    go_ret
    exact ⟨rfl, HB.out⟩
  case neg =>
  have hn40 : (ln : Int) ≤ 40 := by omega
  clear hbig
  go_enter Tryd.func5, Tryd.ntmps5
  go_wp2_with fail
  refine (HF.out).mono ?_
  rintro e w1 ⟨rfl, hb⟩
  have HB := hide hb
  clear hb HF
  go_wp2_with fail
  refine (NM.out _).mono ?_
  rintro e wq ⟨rfl, hw⟩
  have hw := hw.symm
  subst hw
  go_wp2_with fail
  refine (NN.out _).mono ?_
  rintro e wq ⟨rfl, hw⟩
  have hw := hw.symm
  subst hw
  go_wp2_with fail
  obtain ⟨M, hM⟩ : ∃ M, Hid (m1.toNat + 1 = M) := ⟨_, hide rfl⟩
  have EM : Hid (m1 + 1 = (M : Int)) := hide (by rw [← hM.out]; omega)
  have hMb : Hid (1 ≤ M ∧ M ≤ 12) := hide (by rw [← hM.out]; omega)
  clear hM
  rw [EM.out]
  obtain ⟨N, hN⟩ : ∃ M, Hid (n1.toNat + 1 = M) := ⟨_, hide rfl⟩
  have EN : Hid (n1 + 1 = (N : Int)) := hide (by rw [← hN.out]; omega)
  have hNb : Hid (1 ≤ N ∧ N ≤ 12) := hide (by rw [← hN.out]; omega)
  clear hN
  rw [EN.out]
  clear EM EN NM NN hm0 hm1 hn0 hn1
  obtain ⟨T, hT⟩ : ∃ T, Hid (M * N = T) := ⟨_, hide rfl⟩
  obtain ⟨U, hU⟩ : ∃ T, Hid (N * N = T) := ⟨_, hide rfl⟩
  have hTb : T ≤ 144 := by rw [← hT.out]; exact Nat.mul_le_mul hMb.out.2 hNb.out.2
  have hUb : U ≤ 144 := by rw [← hU.out]; exact Nat.mul_le_mul hNb.out.2 hNb.out.2
  refine (matrix_own _ _ M N T rfl rfl hT.out l ln hln.out A cap _ (by have := hMb.out; omega) (by have := hNb.out; omega) (HL.out _ HB.out)).mono ?_
  rintro e w2 ⟨⟨s0, g0, xs, rfl, -, -, -, hs, hd, hL, hsm, -⟩, hb⟩
  replace HB := hide (HB.out.trans (hb.mono HB.out.size))
  clear hb
  have Sa := hide hs
  have Da := hide hd
  have La := hide hL
  have Ma := hide hsm
  clear hs hd hL hsm
  obtain ⟨w2b, hw2b⟩ : ∃ W, W = w2.alloc (.cells #[.slice (some ⟨s0, 0, none⟩) 2 2, .bool false, .slice (some ⟨g0, 0, none⟩) T T] 26) := ⟨_, rfl⟩
  have hbA : Below w2.heap.size w2 w2b := by rw [hw2b]; exact (Below.refl _ _).alloc (Nat.le_refl _) _
  have Ba : Hid (Has w2b w2.heap.size 26 [.slice (some ⟨s0, 0, none⟩) 2 2, .bool false, .slice (some ⟨g0, 0, none⟩) T T]) := hide (by rw [hw2b]; exact Has.new _ _ _)
  replace HB := hide (HB.out.trans (hbA.mono HB.out.size))
  replace Sa := hide (Sa.out.below hbA Sa.out.lt)
  replace Da := hide (Da.out.below hbA Da.out.lt)
  have Hw2b := hide hw2b
  clear hw2b hbA
  go_wp2_with fail
  rw [← Hw2b.out]
  clear Hw2b
  refine (NA.out _).mono ?_
  rintro e wq ⟨rfl, hw⟩
  have hw := hw.symm
  subst hw
  have c_Ba0 := Ba.out.cell 0
  have c_Sa1 := Sa.out.cell 1
  go_wp2_with fail
  clear c_Ba0 c_Sa1
  obtain ⟨ya, hya⟩ : ∃ x : Int, Hid (a1 - 128 = x) := ⟨_, hide rfl⟩
  have Hya : Hid (-128 ≤ ya ∧ ya ≤ 127) := hide (by have := hya.out; omega)
  rw [hya.out]
  clear hya NA ha0 ha1
  have lSa := Sa.out.lt
  have lDa := Da.out.lt
  have lBa := Ba.out.lt
  have HW1 : Hid (w.heap.size ≤ w2b.heap.size) := hide HB.out.size
  refine (matrix_own _ _ N N U rfl rfl hU.out [] 0 rfl none 0 _ (by have := hNb.out; omega) (by have := hNb.out; omega) (Ri.nil _ _)).mono ?_
  rintro e w3 ⟨⟨s1, g1, us, rfl, -, lg, hsg, hs, hd, -, -, hZ⟩, hb⟩
  replace HB := hide (HB.out.trans (hb.mono HB.out.size))
  replace Sa := hide (Sa.out.below hb Sa.out.lt)
  replace Da := hide (Da.out.below hb Da.out.lt)
  replace Ba := hide (Ba.out.below hb Ba.out.lt)
  clear hb
  have hus := hZ rfl
  subst hus
  clear hZ
  have lsg := hd.lt
  have So := hide hs
  have Do := hide hd
  clear hs hd
  obtain ⟨w3b, hw3b⟩ : ∃ W, W = w3.alloc (.cells #[.slice (some ⟨s1, 0, none⟩) 2 2, .bool false, .slice (some ⟨g1, 0, none⟩) U U] 26) := ⟨_, rfl⟩
  have hbA : Below w3.heap.size w3 w3b := by rw [hw3b]; exact (Below.refl _ _).alloc (Nat.le_refl _) _
  have Bo : Hid (Has w3b w3.heap.size 26 [.slice (some ⟨s1, 0, none⟩) 2 2, .bool false, .slice (some ⟨g1, 0, none⟩) U U]) := hide (by rw [hw3b]; exact Has.new _ _ _)
  replace HB := hide (HB.out.trans (hbA.mono HB.out.size))
  replace Sa := hide (Sa.out.below hbA Sa.out.lt)
  replace Da := hide (Da.out.below hbA Da.out.lt)
  replace Ba := hide (Ba.out.below hbA Ba.out.lt)
  replace So := hide (So.out.below hbA So.out.lt)
  replace Do := hide (Do.out.below hbA Do.out.lt)
  have Hw3b := hide hw3b
  clear hw3b hbA
  go_wp2_with fail
  rw [← Hw3b.out]
  clear Hw3b
  have hwg : Hid (w.heap.size ≤ g1) := hide (by have h2 := HW1.out; omega)
  go_loopg [13] N (fun gq k wr => ∃ (i : Nat) (ds : List Int), gq + i = N ∧ k = .int .i64 i ∧ Hid (DiagUp ds N U i) ∧ Hid (Has wr g1 3 (i64s ds)) ∧ Hid (Has wr s0 3 (i64s [(M : Int), (N : Int)])) ∧ Hid (Has wr g0 3 (i64s xs)) ∧ Hid (Has wr w2.heap.size 26 [.slice (some ⟨s0, 0, none⟩) 2 2, .bool false, .slice (some ⟨g0, 0, none⟩) T T]) ∧ Hid (Has wr s1 3 (i64s [(N : Int), (N : Int)])) ∧ Hid (Has wr w3.heap.size 26 [.slice (some ⟨s1, 0, none⟩) 2 2, .bool false, .slice (some ⟨g1, 0, none⟩) U U]) ∧ Hid (Below w.heap.size w wr))
  case atStart => exact ⟨0, _, by omega, rfl, hide (DiagUp.start N U), Do, Sa, Da, Ba, So, Bo, HB⟩
  case round =>
    clear Sa Da Ba So Bo Do HB
    obtain ⟨i, ds, hi, rfl, HD, Do, Sa, Da, Ba, So, Bo, HB⟩ := hrel
    by_cases hlt : i < N
    case pos =>
      have hii : (i : Int) < (N : Int) := by omega
      have hp := DiagUp.place hU.out hlt
      obtain ⟨p, hpp⟩ : ∃ p, Hid (i * N = p) := ⟨_, hide rfl⟩
      obtain ⟨q, hq⟩ : ∃ q, Hid (p + i = q) := ⟨_, hide rfl⟩
      rw [hpp.out, hq.out] at hp
      have Hw1 : Hid (wrap64 ((i : Int) * (N : Int)) = (p : Int)) := hide (by
        rw [show (i : Int) * (N : Int) = (p : Int) by rw [← hpp.out, Int.natCast_mul]]
        have h1 := hq.out
        unfold wrap64
        omega)
      have Hw2 : Hid (wrap64 ((p : Int) + (i : Int)) = (q : Int)) := hide (by have h1 := hq.out; unfold wrap64; omega)
      have hqU : (q : Int) < (U : Int) := by omega
      have hq0 : (0 : Int) ≤ (q : Int) := by omega
      have hi144 : (i : Int) ≤ 144 := by have h1 := hq.out; omega
      have x2 := Bo.out.cell 2
      have d1 : wr.cell? ⟨g1, q, none⟩ = some (.int .i64 (ds[q]'(by rw [HD.out.len]; exact hp))) := by
        rw [Do.out.cell]
        unfold i64s
        rw [List.getElem?_map, List.getElem?_eq_getElem (by rw [HD.out.len]; exact hp)]
        rfl
      have df := Do.out.frozen q
      have HD2 : Hid (DiagUp (ds.set q 1) N U (i + 1)) := hide (by have h := HD.out.next hU.out hlt; rw [hpp.out, hq.out] at h; exact h)
      have hw1 := Hw1.out
      have hw2 := Hw2.out
      go_wp2_with fail
      clear hw1 hw2 x2 d1 df
      go_roundg (N - (i + 1))
      case measure => omega
      case rel =>
        refine ⟨i + 1, ds.set q 1, by omega, by go_num, HD2, ?_, hide (Sa.out.far (p := ⟨g1, q, none⟩) (by simp; omega) (.int .i64 1)), hide (Da.out.far (p := ⟨g1, q, none⟩) (by simp; omega) (.int .i64 1)), hide (Ba.out.far (p := ⟨g1, q, none⟩) (by simp; omega) (.int .i64 1)), hide (So.out.far (p := ⟨g1, q, none⟩) (by simp; omega) (.int .i64 1)), hide (Bo.out.far (p := ⟨g1, q, none⟩) (by simp; omega) (.int .i64 1)), hide (HB.out.setCell (p := ⟨g1, q, none⟩) hwg.out (.int .i64 1))⟩
        have h := Do.out.set_ q (.int .i64 1)
        unfold i64s at h ⊢
        rw [List.map_set]
        exact hide h
    case neg =>
    obtain rfl : N = i := by omega
    have hii : ¬ (N : Int) < (N : Int) := by omega
    have c_Ba0 := Ba.out.cell 0
    have c_Ba1 := Ba.out.cell 1
    have c_Ba2 := Ba.out.cell 2
    have c_Bo0 := Bo.out.cell 0
    have c_Bo1 := Bo.out.cell 1
    have c_Bo2 := Bo.out.cell 2
    go_wp2_with fail
    clear c_Ba0 c_Ba1 c_Ba2 c_Bo0 c_Bo1 c_Bo2
    refine (mul_own2 T ah am ar wr Sa.out Da.out La.out hT.out Ma.out So.out Do.out HD.out.len hU.out HD.out.sm (by have := hMb.out; omega) (by have := hNb.out; omega) (by have := hNb.out; omega) Hya.out (by decide) (HE.out _ HB.out) hT.out).mono ?_
    rintro e w4 ⟨⟨P, np, cp, qp, rfl, hd⟩, hb⟩
    replace HB := hide (HB.out.trans (hb.mono HB.out.size))
    replace Do := hide (Do.out.below hb Do.out.lt)
    replace Sa := hide (Sa.out.below hb Sa.out.lt)
    replace Da := hide (Da.out.below hb Da.out.lt)
    replace Ba := hide (Ba.out.below hb Ba.out.lt)
    replace So := hide (So.out.below hb So.out.lt)
    replace Bo := hide (Bo.out.below hb Bo.out.lt)
    clear hb
    have Dp := hide hd
    clear hd
    have c_Ba0 := Ba.out.cell 0
    have c_Ba1 := Ba.out.cell 1
    have c_Ba2 := Ba.out.cell 2
    have l_Ba := Ba.out.lt
    obtain ⟨w4b, hw4b⟩ : ∃ W, W = w4.alloc (.cells #[.slice P np cp, .bool true, .slice (some ⟨qp, 0, none⟩) T T] 26) := ⟨_, rfl⟩
    have hbA : Below w4.heap.size w4 w4b := by rw [hw4b]; exact (Below.refl _ _).alloc (Nat.le_refl _) _
    have Bp : Hid (Has w4b w4.heap.size 26 [.slice P np cp, .bool true, .slice (some ⟨qp, 0, none⟩) T T]) := hide (by rw [hw4b]; exact Has.new _ _ _)
    replace HB := hide (HB.out.trans (hbA.mono HB.out.size))
    replace Do := hide (Do.out.below hbA Do.out.lt)
    replace Sa := hide (Sa.out.below hbA Sa.out.lt)
    replace Da := hide (Da.out.below hbA Da.out.lt)
    replace Ba := hide (Ba.out.below hbA Ba.out.lt)
    replace So := hide (So.out.below hbA So.out.lt)
    replace Bo := hide (Bo.out.below hbA Bo.out.lt)
    replace Dp := hide (Dp.out.below hbA Dp.out.lt)
    have Hw4b := hide hw4b
    clear hw4b hbA
    go_wp2_with fail
    rw [← Hw4b.out]
    clear Hw4b c_Ba0 c_Ba1 c_Ba2 l_Ba
    have a0 := Ba.out.cell 0
    have a1 := Ba.out.cell 1
    have a2 := Ba.out.cell 2
    have lb := Ba.out.lt
    have hS0 : OnS w4b w2.heap.size (.slice (some ⟨s0, 0, none⟩) 2 2) (.bool false) (.slice (some ⟨g0, 0, none⟩) T T) w4b.drew := ⟨a0, a1, a2, hide (Below.refl _ _).drew⟩
    have HM := hide (fun W => matrix_own (N : Int) (N : Int) N N U rfl rfl hU.out [] 0 rfl none 0 W (by have := hNb.out; omega) (by have := hNb.out; omega) (Ri.nil _ _))
    have HQ : Hid (∀ (W : World) (s g : Nat), Below w4b.heap.size w4b W → Has W s 3 (i64s [(N : Int), (N : Int)]) → Has W g 3 (i64s (List.replicate U 0)) → Calls Tryd.prog 15 #[.agg #[.slice (some ⟨s0, 0, none⟩) 2 2, .bool false, .slice (some ⟨g0, 0, none⟩) T T], .agg #[.slice (some ⟨s, 0, none⟩) 2 2, .bool false, .slice (some ⟨g, 0, none⟩) U U], .int .i64 ya, .int .i64 0] W fun e w' => (∃ (P : Option Addr) (n c q : Nat), e = .returned (.tuple #[.agg #[.slice P n c, .bool true, .slice (some ⟨q, 0, none⟩) T T], .nilIface]) ∧ Has w' q 3 (i64s (Mat.part xs (List.replicate U 0) ya 0 N N 0 T))) ∧ Below W.heap.size W w') := hide (fun W s g hb k1 k2 => mul_own2 T ah am ar W (Sa.out.below hb Sa.out.lt) (Da.out.below hb Da.out.lt) La.out hT.out Ma.out k1 k2 (by simp) hU.out (fun z hz => by rw [(List.mem_replicate.1 hz).2]; decide) (by have := hMb.out; omega) (by have := hNb.out; omega) (by have := hNb.out; omega) Hya.out (by decide) (HE.out _ (HB.out.trans (hb.mono HB.out.size))) hT.out)
    have hk0 := hide (Below.refl w4b.heap.size w4b)
    have hzA := hide (Has.new w4b 26 [.slice none 0 0, .bool false, .slice none 0 0])
    have hS1 : OnS w4b w2.heap.size (.slice (some ⟨s0, 0, none⟩) 2 2) (.bool false) (.slice (some ⟨g0, 0, none⟩) T T) (w4b.alloc (.cells #[.slice none 0 0, .bool false, .slice none 0 0] 26)).drew := OnS.keep (W := w4b) ⟨a0, a1, a2, hide (Below.refl _ _)⟩ lb ((Below.refl _ _).alloc (Nat.le_refl _) _).drew
    clear a0 a1 a2
    go_region_held3 (fun W => W.cell? ⟨w2.heap.size, 0, none⟩ = some (.slice (some ⟨s0, 0, none⟩) 2 2) ∧ W.cell? ⟨w2.heap.size, 1, none⟩ = some (.bool false) ∧ W.cell? ⟨w2.heap.size, 2, none⟩ = some (.slice (some ⟨g0, 0, none⟩) T T) ∧ Hid (Below w4b.heap.size w4b W))
      (first | exact hS0 | exact hS1 | exact hS9.out | exact hTqs | exact hTqa | exact hTq | exact hTr | exact hTw | exact hTma | exact hTm | exact hTv | assumption)
      (first
        | (go_at_call 26; (with_reducible refine (HM.out w4b.drew).mono ?_); rintro e Wm ⟨⟨s2, g2, us2, rfl, -, -, -, ms, md, -, -, mz⟩, hb⟩; have mz := mz rfl; subst mz; have hBm : Below w4b.heap.size w4b Wm := (Below.refl w4b.heap.size w4b).drew.trans (hb.mono (Nat.le_refl _)); have hTm : OnS w4b w2.heap.size (.slice (some ⟨s0, 0, none⟩) 2 2) (.bool false) (.slice (some ⟨g0, 0, none⟩) T T) Wm := OnS.keep hS0 lb hb; have hTma : OnS w4b w2.heap.size (.slice (some ⟨s0, 0, none⟩) 2 2) (.bool false) (.slice (some ⟨g0, 0, none⟩) T T) (Wm.alloc (.cells #[.slice none 0 0, .bool false, .slice none 0 0] 26)) := OnS.keep hTm lb ((Below.refl _ _).alloc (Nat.le_refl _) _); have hms := hide ms; have hmd := hide md; clear ms md)
        | (go_at_call 26; (with_reducible refine (HM.out (w4b.alloc (.cells #[.slice none 0 0, .bool false, .slice none 0 0] 26)).drew).mono ?_); rintro e Vm ⟨⟨s2, g2, us2, rfl, -, -, -, ms, md, -, -, mz⟩, hb⟩; have mz := mz rfl; subst mz; have hBv : Below w4b.heap.size w4b Vm := ((Below.refl w4b.heap.size w4b).alloc (Nat.le_refl _) (.cells #[.slice none 0 0, .bool false, .slice none 0 0] 26)).drew.trans (hb.mono (by simp)); have hzV := (hzA.out.drewN 1).below hb (hzA.out.drewN 1).lt; have hTv : OnS w4b w2.heap.size (.slice (some ⟨s0, 0, none⟩) 2 2) (.bool false) (.slice (some ⟨g0, 0, none⟩) T T) Vm := OnS.keep hS1 lb hb; have hms := hide ms; have hmd := hide md; clear ms md)
        | (go_at_call 15; (with_reducible refine (HQ.out Wm s2 g2 hBm hms.out hmd.out).mono ?_); rintro e Wq ⟨⟨P2, np2, cp2, q2, rfl, dq⟩, hb⟩; have hBq : Below w4b.heap.size w4b Wq := hBm.trans (hb.mono hBm.size); have hTq : OnS w4b w2.heap.size (.slice (some ⟨s0, 0, none⟩) 2 2) (.bool false) (.slice (some ⟨g0, 0, none⟩) T T) Wq := OnS.keep hTm lb hb; have hTqa : OnS w4b w2.heap.size (.slice (some ⟨s0, 0, none⟩) 2 2) (.bool false) (.slice (some ⟨g0, 0, none⟩) T T) (Wq.alloc (.cells #[.slice none 0 0, .bool false, .slice none 0 0] 26)) := OnS.keep hTq lb ((Below.refl _ _).alloc (Nat.le_refl _) _); have hTqs : OnS w4b w2.heap.size (.slice (some ⟨s0, 0, none⟩) 2 2) (.bool false) (.slice (some ⟨g0, 0, none⟩) T T) (Wq.alloc (.cells #[.slice P2 np2 cp2, .bool true, .slice (some ⟨q2, 0, none⟩) T T] 26)) := OnS.keep hTq lb ((Below.refl _ _).alloc (Nat.le_refl _) _); have hdq := hide dq; clear dq)
        | (go_at_call 15; (with_reducible refine (HQ.out (Wm.alloc (.cells #[.slice none 0 0, .bool false, .slice none 0 0] 26)) s2 g2 (hBm.alloc hBm.size _) (hms.out.alloc _) (hmd.out.alloc _)).mono ?_); rintro e Wr ⟨⟨P2, np2, cp2, q2, rfl, dq⟩, hb⟩; have hBr : Below w4b.heap.size w4b Wr := (hBm.alloc hBm.size _).trans (hb.mono (by have := hBm.size; simp; omega)); have hTr : OnS w4b w2.heap.size (.slice (some ⟨s0, 0, none⟩) 2 2) (.bool false) (.slice (some ⟨g0, 0, none⟩) T T) Wr := OnS.keep hTma lb hb; have hzr := (Has.new Wm 26 [.slice none 0 0, .bool false, .slice none 0 0]).below hb (Has.new Wm 26 [.slice none 0 0, .bool false, .slice none 0 0]).lt; obtain ⟨z0, z1, z2, zf0, zf1, zf2, HZf, HFf⟩ := elm_three hzr hBr hBm.size (.slice P2 np2 cp2) (.bool true) (.slice (some ⟨q2, 0, none⟩) T T); have hS9 := hide (OnS.far3 hTr lb hBm.size (.slice P2 np2 cp2) (.bool true) (.slice (some ⟨q2, 0, none⟩) T T)); have hdq := hide dq; clear dq)
        | (go_at_call 15; (with_reducible refine (HQ.out Vm s2 g2 hBv hms.out hmd.out).mono ?_); rintro e Vq ⟨⟨P2, np2, cp2, q2, rfl, dq⟩, hb⟩; have hBw : Below w4b.heap.size w4b Vq := hBv.trans (hb.mono hBv.size); have hTw : OnS w4b w2.heap.size (.slice (some ⟨s0, 0, none⟩) 2 2) (.bool false) (.slice (some ⟨g0, 0, none⟩) T T) Vq := OnS.keep hTv lb hb; have hzw := hzV.below hb hzV.lt; obtain ⟨z0, z1, z2, zf0, zf1, zf2, HZf, HFf⟩ := elm_three hzw hBw (Nat.le_refl _) (.slice P2 np2 cp2) (.bool true) (.slice (some ⟨q2, 0, none⟩) T T); have hS9 := hide (OnS.far3 hTw lb (Nat.le_refl _) (.slice P2 np2 cp2) (.bool true) (.slice (some ⟨q2, 0, none⟩) T T)); have hdq := hide dq; clear dq))
    obtain ⟨W9, hW9⟩ : ∃ W, W = Wq.alloc (.cells #[.slice P2 np2 cp2, .bool true, .slice (some ⟨q2, 0, none⟩) T T] 26) := ⟨_, rfl⟩
    have HB9 : Hid (Below w4b.heap.size w4b W9) := hide (by rw [hW9]; exact hBq.alloc hBq.size _)
    have Bq : Hid (Has W9 Wq.heap.size 26 [.slice P2 np2 cp2, .bool true, .slice (some ⟨q2, 0, none⟩) T T]) := hide (by rw [hW9]; exact Has.new _ _ _)
    have Dq : Hid (Has W9 q2 3 (i64s (Mat.part xs (List.replicate U 0) ya 0 N N 0 T))) := hide (by rw [hW9]; exact hdq.out.alloc _)
    rw [← hW9]
    obtain ⟨b9, hb9⟩ : ∃ b, Wq.heap.size = b := ⟨_, rfl⟩
    rw [hb9] at Bq ⊢
    clear hW9 hb9 hS0 hS1 hTm hTma hTq hTqa hTqs hBm hBq hms hmd hdq hk0 hzA HM HQ
    rotate_left
    obtain ⟨W9, hW9⟩ : ∃ W, W = (((Wr.setCell ⟨Wm.heap.size, 0, none⟩ (.slice P2 np2 cp2)).setCell ⟨Wm.heap.size, 1, none⟩ (.bool true)).setCell ⟨Wm.heap.size, 2, none⟩ (.slice (some ⟨q2, 0, none⟩) T T)) := ⟨_, rfl⟩
    have HB9 : Hid (Below w4b.heap.size w4b W9) := hide (by rw [hW9]; exact HFf.out)
    have Bq : Hid (Has W9 Wm.heap.size 26 [.slice P2 np2 cp2, .bool true, .slice (some ⟨q2, 0, none⟩) T T]) := hide (by rw [hW9]; exact HZf.out)
    have Dq : Hid (Has W9 q2 3 (i64s (Mat.part xs (List.replicate U 0) ya 0 N N 0 T))) := hide (by rw [hW9]; exact ((hdq.out.far (p := ⟨_, 0, none⟩) (Has.ne hdq.out hzr (by decide)) _).far (p := ⟨_, 1, none⟩) (Has.ne hdq.out hzr (by decide)) _).far (p := ⟨_, 2, none⟩) (Has.ne hdq.out hzr (by decide)) _)
    rw [← hW9]
    obtain ⟨b9, hb9⟩ : ∃ b, Wm.heap.size = b := ⟨_, rfl⟩
    rw [hb9] at Bq ⊢
    clear hW9 hb9 hS0 hS1 hTm hTma hTr hBm hBr hms hmd hdq hk0 hzA HM HQ z0 z1 z2 zf0 zf1 zf2 HZf HFf hS9 hzr
    rotate_left
    obtain ⟨W9, hW9⟩ : ∃ W, W = (((Vq.setCell ⟨w4b.heap.size, 0, none⟩ (.slice P2 np2 cp2)).setCell ⟨w4b.heap.size, 1, none⟩ (.bool true)).setCell ⟨w4b.heap.size, 2, none⟩ (.slice (some ⟨q2, 0, none⟩) T T)) := ⟨_, rfl⟩
    have HB9 : Hid (Below w4b.heap.size w4b W9) := hide (by rw [hW9]; exact HFf.out)
    have Bq : Hid (Has W9 w4b.heap.size 26 [.slice P2 np2 cp2, .bool true, .slice (some ⟨q2, 0, none⟩) T T]) := hide (by rw [hW9]; exact HZf.out)
    have Dq : Hid (Has W9 q2 3 (i64s (Mat.part xs (List.replicate U 0) ya 0 N N 0 T))) := hide (by rw [hW9]; exact ((hdq.out.far (p := ⟨_, 0, none⟩) (Has.ne hdq.out hzw (by decide)) _).far (p := ⟨_, 1, none⟩) (Has.ne hdq.out hzw (by decide)) _).far (p := ⟨_, 2, none⟩) (Has.ne hdq.out hzw (by decide)) _)
    rw [← hW9]
    obtain ⟨b9, hb9⟩ : ∃ b, w4b.heap.size = b := ⟨_, rfl⟩
    rw [hb9] at Bq ⊢
    clear hW9 hb9 hS0 hS1 hTv hTw hBv hBw hms hmd hdq hk0 hzA HM HQ z0 z1 z2 zf0 zf1 zf2 HZf HFf hS9 hzw hzV
    rotate_left
    all_goals
      have b9l := Bq.out.lt
      have q9l := Dq.out.lt
      have lDo9 : _ := Do.out.lt
      have lSa9 : _ := Sa.out.lt
      have lDa9 : _ := Da.out.lt
      have lBa9 : _ := Ba.out.lt
      have lSo9 : _ := So.out.lt
      have lBo9 : _ := Bo.out.lt
      have lDp9 : _ := Dp.out.lt
      have lBp9 : _ := Bp.out.lt
      replace Do := hide (Do.out.below HB9.out Do.out.lt)
      replace Sa := hide (Sa.out.below HB9.out Sa.out.lt)
      replace Da := hide (Da.out.below HB9.out Da.out.lt)
      replace Ba := hide (Ba.out.below HB9.out Ba.out.lt)
      replace So := hide (So.out.below HB9.out So.out.lt)
      replace Bo := hide (Bo.out.below HB9.out Bo.out.lt)
      replace Dp := hide (Dp.out.below HB9.out Dp.out.lt)
      replace Bp := hide (Bp.out.below HB9.out Bp.out.lt)
      replace HB := hide (HB.out.trans (HB9.out.mono HB.out.size))
      clear HB9
      have p1 := Bp.out.cell 1
      go_wp2_with fail
      clear p1
      go_loopg [18] T (fun gq k wz => ∃ i : Nat, gq + i = T ∧ k = .int .i64 i ∧ Hid (Has wz g1 3 (i64s ds)) ∧ Hid (Has wz s0 3 (i64s [(M : Int), (N : Int)])) ∧ Hid (Has wz g0 3 (i64s xs)) ∧ Hid (Has wz w2.heap.size 26 [.slice (some ⟨s0, 0, none⟩) 2 2, .bool false, .slice (some ⟨g0, 0, none⟩) T T]) ∧ Hid (Has wz s1 3 (i64s [(N : Int), (N : Int)])) ∧ Hid (Has wz w3.heap.size 26 [.slice (some ⟨s1, 0, none⟩) 2 2, .bool false, .slice (some ⟨g1, 0, none⟩) U U]) ∧ Hid (Has wz qp 3 (i64s (Mat.part xs ds ya 0 N N 0 T))) ∧ Hid (Has wz w4.heap.size 26 [.slice P np cp, .bool true, .slice (some ⟨qp, 0, none⟩) T T]) ∧ Hid (Has wz q2 3 (i64s (Mat.part xs (List.replicate U 0) ya 0 N N 0 T))) ∧ Hid (Has wz b9 26 [.slice P2 np2 cp2, .bool true, .slice (some ⟨q2, 0, none⟩) T T]) ∧ Hid (Below w.heap.size w wz))
      case atStart => exact ⟨0, by omega, rfl, Do, Sa, Da, Ba, So, Bo, Dp, Bp, Dq, Bq, HB⟩
      case round =>
        clear Do Sa Da Ba So Bo Dp Bp Dq Bq HB
        obtain ⟨i, hi9, rfl, Do, Sa, Da, Ba, So, Bo, Dp, Bp, Dq, Bq, HB⟩ := hrel
        by_cases hlt : i < T
        case pos =>
          have hii : (i : Int) < (T : Int) := by omega
          have hi0 : (0 : Int) ≤ (i : Int) := by omega
          have hi144 : (i : Int) ≤ 144 := by omega
          obtain ⟨x, hx⟩ : ∃ x, xs[i]? = some x := ⟨_, List.getElem?_eq_getElem (by rw [La.out]; exact hlt)⟩
          have hxb := Ma.out x (List.mem_of_getElem? hx)
          have hyb := Hya.out
          obtain ⟨y, hy⟩ : ∃ y, Hid (x - ya = y) := ⟨_, hide rfl⟩
          have Hy : Hid (IntKind.i64.wrap (x - ya) = y) := hide (by rw [IntKind.wrap_i64, ← hy.out]; omega)
          have hpv := Mat.ones_at HD.out hT.out La.out Ma.out Hya.out i x hx
          rw [hy.out] at hpv
          have hqv := Mat.none_at (xs := xs) (N := N) (U := U) (za := ya) i hlt
          have cell : ∀ (g : Nat) (zs : List Int) (v : Int), Has wr g 3 (i64s zs) → zs[i]? = some v → wr.cell? ⟨g, i, none⟩ = some (.int .i64 v) := fun g zs v h1 h2 => by
            rw [h1.cell]
            unfold i64s
            rw [List.getElem?_map, h2]
            rfl
          have hS0 : OrS wr ⟨w4.heap.size, 2, none⟩ (.slice (some ⟨qp, 0, none⟩) T T) ⟨qp, i, none⟩ (.int .i64 y) ⟨w2.heap.size, 0, none⟩ (.slice (some ⟨s0, 0, none⟩) 2 2) ⟨w2.heap.size, 1, none⟩ (.bool false) ⟨w2.heap.size, 2, none⟩ (.slice (some ⟨g0, 0, none⟩) T T) ⟨g0, i, none⟩ (.int .i64 x) ⟨b9, 2, none⟩ (.slice (some ⟨q2, 0, none⟩) T T) ⟨q2, i, none⟩ (.int .i64 0) ⟨w3.heap.size, 0, none⟩ (.slice (some ⟨s1, 0, none⟩) 2 2) ⟨w3.heap.size, 1, none⟩ (.bool false) ⟨w3.heap.size, 2, none⟩ (.slice (some ⟨g1, 0, none⟩) U U) wr.drew := ⟨Bp.out.cell 2, cell _ _ _ Dp.out hpv, Ba.out.cell 0, Ba.out.cell 1, Ba.out.cell 2, cell _ _ _ Da.out hx, Bq.out.cell 2, cell _ _ _ Dq.out hqv, Bo.out.cell 0, Bo.out.cell 1, Bo.out.cell 2, hide (Below.refl _ _).drew⟩
          have HC : Hid (∀ W, Below wr.heap.size wr W → Calls Tryd.prog 24 #[.agg #[.slice (some ⟨s0, 0, none⟩) 2 2, .bool false, .slice (some ⟨g0, 0, none⟩) T T], .agg #[.slice (some ⟨s1, 0, none⟩) 2 2, .bool false, .slice (some ⟨g1, 0, none⟩) U U], .int .i64 ya, .int .i64 0, .int .i64 i] W fun e w' => e = .returned (.int .i64 y) ∧ Below W.heap.size W w') := hide (fun W hb => cell_own2 (i : Int) y ah am ar W (Sa.out.below hb Sa.out.lt) (Da.out.below hb Da.out.lt) La.out hT.out Ma.out (So.out.below hb So.out.lt) (Do.out.below hb Do.out.lt) HD.out.len hU.out HD.out.sm (by have := hMb.out; omega) (by have := hNb.out; omega) (by have := hNb.out; omega) Hya.out (by decide) (HE.out _ (HB.out.trans (hb.mono HB.out.size))) (by omega) (by rw [if_pos hi0, Int.toNat_natCast, hT.out, List.getD_eq_getElem?_getD, hpv]; rfl))
          have e1 := Bp.out.lt
          have e2 := Dp.out.lt
          have e3 := Ba.out.lt
          have e4 := Da.out.lt
          have e5 := Bq.out.lt
          have e6 := Dq.out.lt
          have e7 := Bo.out.lt
          have x2 := Ba.out.cell 2
          clear hx hxb hyb hpv hqv cell
          go_wp2_with fail
          clear x2
          have hyy := Hy.out
          go_region_held3 (fun W => W.cell? ⟨w4.heap.size, 2, none⟩ = some (.slice (some ⟨qp, 0, none⟩) T T) ∧ W.cell? ⟨qp, i, none⟩ = some (.int .i64 y) ∧ W.cell? ⟨w2.heap.size, 0, none⟩ = some (.slice (some ⟨s0, 0, none⟩) 2 2) ∧ W.cell? ⟨w2.heap.size, 1, none⟩ = some (.bool false) ∧ W.cell? ⟨w2.heap.size, 2, none⟩ = some (.slice (some ⟨g0, 0, none⟩) T T) ∧ W.cell? ⟨g0, i, none⟩ = some (.int .i64 x) ∧ W.cell? ⟨b9, 2, none⟩ = some (.slice (some ⟨q2, 0, none⟩) T T) ∧ W.cell? ⟨q2, i, none⟩ = some (.int .i64 0) ∧ W.cell? ⟨w3.heap.size, 0, none⟩ = some (.slice (some ⟨s1, 0, none⟩) 2 2) ∧ W.cell? ⟨w3.heap.size, 1, none⟩ = some (.bool false) ∧ W.cell? ⟨w3.heap.size, 2, none⟩ = some (.slice (some ⟨g1, 0, none⟩) U U) ∧ Hid (Below wr.heap.size wr W))
            (first | exact hS0 | exact OrS.keep hS0 e1 e2 e3 e3 e3 e4 e5 e6 e7 e7 e7 hb | assumption)
            (first
              | (go_at_call 24; (with_reducible refine (HC.out wr.drew (Below.refl _ _).drew).mono ?_); rintro e Wc ⟨rfl, hb⟩; have hBc : Below wr.heap.size wr Wc := (Below.refl wr.heap.size wr).drew.trans (hb.mono (Nat.le_refl _))))
          clear hyy
          go_wp2_with fail
          go_roundg (T - (i + 1))
          case measure => omega
          case rel =>
            exact ⟨i + 1, by omega, by go_num, hide (Do.out.below hBc Do.out.lt), hide (Sa.out.below hBc Sa.out.lt), hide (Da.out.below hBc Da.out.lt), hide (Ba.out.below hBc Ba.out.lt), hide (So.out.below hBc So.out.lt), hide (Bo.out.below hBc Bo.out.lt), hide (Dp.out.below hBc Dp.out.lt), hide (Bp.out.below hBc Bp.out.lt), hide (Dq.out.below hBc Dq.out.lt), hide (Bq.out.below hBc Bq.out.lt), hide (HB.out.trans (hBc.mono HB.out.size))⟩
        case neg =>
          obtain rfl : T = i := by omega
          have hii : ¬ (T : Int) < (T : Int) := by omega
          have hT0 : (0 : Int) ≤ (T : Int) := by omega
          have HC : Hid (∀ (j : Int) W, Below wr.heap.size wr W → (-9223372036854775808 ≤ j ∧ j ≤ 9223372036854775807) → ¬ (0 ≤ j ∧ j < T) → Calls Tryd.prog 24 #[.agg #[.slice (some ⟨s0, 0, none⟩) 2 2, .bool false, .slice (some ⟨g0, 0, none⟩) T T], .agg #[.slice (some ⟨s1, 0, none⟩) 2 2, .bool false, .slice (some ⟨g1, 0, none⟩) U U], .int .i64 ya, .int .i64 0, .int .i64 j] W fun e w' => e = .returned (.int .i64 0) ∧ Below W.heap.size W w') := hide (fun j W hb hj1 hj2 => cell_own2 j 0 ah am ar W (Sa.out.below hb Sa.out.lt) (Da.out.below hb Da.out.lt) La.out hT.out Ma.out (So.out.below hb So.out.lt) (Do.out.below hb Do.out.lt) HD.out.len hU.out HD.out.sm (by have := hMb.out; omega) (by have := hNb.out; omega) (by have := hNb.out; omega) Hya.out (by decide) (HE.out _ (HB.out.trans (hb.mono HB.out.size))) hj1 (by
            by_cases h0 : 0 ≤ j
            · rw [if_pos h0, hT.out, List.getD_eq_getElem?_getD, List.getElem?_eq_none (by rw [Mat.part_length]; omega)]
              rfl
            · rw [if_neg h0]))
          have a0 := Ba.out.cell 0
          have a1 := Ba.out.cell 1
          have a2 := Ba.out.cell 2
          have o0 := Bo.out.cell 0
          have o1 := Bo.out.cell 1
          have o2 := Bo.out.cell 2
          have la := Ba.out.lt
          have lo := Bo.out.lt
          go_wp2_with fail
          clear a0 a1 a2 o0 o1 o2
          refine (HC.out (T : Int) wr (Below.refl _ _) (by omega) (by omega)).mono ?_
          rintro e Wc ⟨rfl, hb⟩
          have Bac := Ba.out.below hb Ba.out.lt
          have Boc := Bo.out.below hb Bo.out.lt
          have hBc := hide hb
          clear hb
          have a0 := Bac.cell 0
          have a1 := Bac.cell 1
          have a2 := Bac.cell 2
          have o0 := Boc.cell 0
          have o1 := Boc.cell 1
          have o2 := Boc.cell 2
          clear Bac Boc
          go_wp2_with fail
          clear a0 a1 a2 o0 o1 o2
          refine (HC.out (-1) Wc hBc.out (by omega) (by omega)).mono ?_
          rintro e Wd ⟨rfl, hb⟩
          have HFin := hide (HB.out.trans ((hBc.out.trans (hb.mono hBc.out.size)).mono HB.out.size))
          clear hb HC
          go_wp2_with fail
          go_ret
          exact ⟨rfl, HFin.out⟩
end Go.Proofs.YtkehdgjdieemkaaDoor
