/-
  The law MacSame of package lodgelaw2, walked. By an AI agent. No person has read it.
-/
import Derived.Test.YtijgomgiinlcoaaDoorShaMacFirst
import Derived.Test.YtijgomgiinlcoaaDoorShaSame
import Derived.Laws.OwnMore
import Derived.Deep.AppendLies
namespace Go.Proofs.YtijgomgiinlcoaaDoor
open Go.RowKit

/-- .. of a guarded operation that is wanted. -/
theorem wpList_append_bs_g {w : World} {ops : Array Oper} {rest : List Oper} {o : Oper} {a : Act} {Q : Exit → Act → World → Prop} (hwt : Region.wanted o (yielded ops a.tmps) = true) (s x : Operand)
    (ho : o.op = .call { callee := .builtin .append, args := #[s, x], argTypes := #[22, 22] })
    (base : Nat) (v : Value) (n : Nat) (xs : List Value) (hs : a.eval s = v) (hown : w.ownsRow base 5 1 v n xs) (A : Option Addr) (m cap : Nat) (bs : List Nat) (hx : a.eval x = .slice A m cap) (hm : Hid (bs.length = m)) (hr : Rb w A bs)
    (hb : n + m ≤ 1000000000000) (hbase : base ≤ w.heap.size)
    (h : ∀ v' w', w'.ownsRow base 5 1 v' (n + m) (xs ++ u8s bs) → w.grownBy w' v.ownBlock → (v'.ownBlock = v.ownBlock ∨ v'.ownBlock = some w.heap.size) → wpList Tryd.prog ops Q rest (a.put o.dst v') w') :
    wpList Tryd.prog ops Q (o :: rest) a w := by
  obtain rfl := hm.out
  refine wpList_step fun K hK => ?_
  rw [if_pos hwt]
  obtain ⟨v', w', hrun, h2, h3, h5⟩ := run_append_bs w o.type base v n xs hown A cap bs hr hb hbase
  unfold Oper.wp execOp
  simp only [ho, resolve, invoke, builtin, Sem.run_bind, Sem.run_pure, Result.andThen_ok, List.map_toArray, List.map_cons, List.map_nil, hs, hx, hrun]
  exact hK _ _ (h v' w' h2 h3 h5)
theorem dif_zero (a b : List Nat) : dif a b = 0 ↔ a = b := by
  unfold dif
  constructor
  · intro h
    have hl : a.length = b.length := by omega
    rw [same_iff a b hl]
    have h0 : cnt a b (min a.length b.length) = 0 := by omega
    rw [hl, Nat.min_self] at h0
    rw [hl]
    exact (cnt_zero a b _).1 h0
  · rintro rfl
    rw [Nat.min_self, Nat.max_self, (cnt_zero a a _).2 (fun _ _ => rfl)]
    omega
theorem cnt_set (a : List Nat) (j y : Nat) (hj : j < a.length) (hy : a.getD j 0 ≠ y) (i : Nat) : cnt a (a.set j y) i = if j < i then 1 else 0 := by
  induction i with
  | zero => simp [cnt]
  | succ i ih =>
    rw [cnt, ih]
    have e : (a.set j y).getD i 0 = if i = j then y else a.getD i 0 := by
      rw [List.getD_eq_getElem?_getD, List.getElem?_set]
      by_cases h : j = i
      · subst h; simp [hj]
      · rw [if_neg h, if_neg (fun e => h e.symm), List.getD_eq_getElem?_getD]
    rw [e]
    by_cases h : i = j
    · subst h; rw [if_pos rfl, if_neg hy, if_neg (by omega), if_pos (by omega)]
    · rw [if_neg h, if_pos rfl]
      by_cases h2 : j < i
      · rw [if_pos h2, if_pos (by omega)]
      · rw [if_neg h2, if_neg (by omega)]
theorem dif_set (a : List Nat) (j y : Nat) (hj : j < a.length) (hy : a.getD j 0 ≠ y) : dif a (a.set j y) = 1 := by
  unfold dif
  rw [List.length_set, Nat.min_self, Nat.max_self, cnt_set a j y hj hy, if_pos hj]
  omega
theorem xor_one_ne (x : Nat) : x ≠ x ^^^ 1 := by
  intro h
  have h2 : x ^^^ x = x ^^^ (x ^^^ 1) := by rw [← h]
  rw [Nat.xor_self, ← Nat.xor_assoc, Nat.xor_self, Nat.zero_xor] at h2
  cases h2
theorem new_rb1 (w : World) (x : Nat) (xi : Int) (h : xi = x) (hx : x < 256) : Rb (w.alloc (.cells #[.int .u8 xi] 5)) (some ⟨w.heap.size, 0, none⟩) [x] := by
  subst h
  refine ⟨fun b hb => by simp at hb; omega, fun _ => ⟨_, rfl, by simp, fun i b hi => ?_⟩⟩
  refine new_cells w 5 [.int .u8 (x : Int)] i _ ?_
  match i, hi with
  | 0, hi => simp at hi; subst hi; rfl
theorem rb_append {w : World} {base n : Nat} {v : Value} {a c : List Nat} (h : w.ownsRow base 5 1 v n (u8s a ++ u8s c)) : w.ownsRow base 5 1 v n (u8s (a ++ c)) := by
  rw [show u8s (a ++ c) = u8s a ++ u8s c by simp [u8s]]
  exact h

set_option maxRecDepth 100000 in
set_option maxHeartbeats 8000000 in
theorem macsame_c (a b : List Nat) (A B : Option Addr) (ca cb : Nat) (at0 : Int) (W : World) (hA : Rb W A a) (hB : Rb W B b) (hla : a.length ≤ 9223372036854775807) (hlb : b.length ≤ 9223372036854775807) (hT : Table W) :
    Calls Tryd.prog 9 #[.slice A a.length ca, .slice B b.length cb, .int .i64 at0] W fun e w' => e = .returned (.bool true) ∧ Below W.heap.size W w' := by
  obtain ⟨n, hn⟩ : ∃ n, Hid (a.length = n) := ⟨_, hide rfl⟩
  obtain ⟨m, hm⟩ : ∃ m, Hid (b.length = m) := ⟨_, hide rfl⟩
  rw [hn.out] at hla
  rw [hm.out] at hlb
  rw [hn.out, hm.out]
  have HA := hide hA
  have HB := hide hB
  have HT := hide hT
  clear hA hB hT
  by_cases h3 : 300 < n
  · have h3' : (300 : Int) < n := by omega
    go_enter Tryd.func9, Tryd.ntmps9
    go_wp2_with fail
    refine (macfirst_c W HT.out).mono ?_
    rintro e w1 ⟨rfl, hB1⟩
    go_wp2_with fail
    go_ret
    exact ⟨rfl, hB1⟩
  by_cases h4 : 300 < m
  · have h4' : (300 : Int) < m := by omega
    have h3' : (n : Int) ≤ 300 := by omega
    go_enter Tryd.func9, Tryd.ntmps9
    go_wp2_with fail
    refine (macfirst_c W HT.out).mono ?_
    rintro e w1 ⟨rfl, hB1⟩
    go_wp2_with fail
    go_ret
    exact ⟨rfl, hB1⟩
  have h3' : (n : Int) ≤ 300 := by omega
  have h4' : (m : Int) ≤ 300 := by omega
  obtain ⟨mn, hmn⟩ : ∃ k, Hid (min n m = k) := ⟨_, hide rfl⟩
  obtain ⟨mx, hmx⟩ : ∃ k, Hid (max n m = k) := ⟨_, hide rfl⟩
  have hmn1 : mn ≤ n := by rw [← hmn.out]; exact Nat.min_le_left _ _
  have hmn2 : mn ≤ m := by rw [← hmn.out]; exact Nat.min_le_right _ _
  obtain ⟨N, hN⟩ : ∃ N, Hid (dif a b = N) := ⟨_, hide rfl⟩
  have hNe : Hid (cnt a b mn + (mx - mn) = N) := hide (by rw [← hN.out]; unfold dif; rw [hn.out, hm.out, hmn.out, hmx.out])
  have hNl : N ≤ 1000 := by have := hNe.out; have := cnt_le a b mn; have h1 := hmx.out; omega
  go_enter Tryd.func9, Tryd.ntmps9
  go_wp2_with fail
  refine (macfirst_c W HT.out).mono ?_
  rintro e w1 ⟨rfl, hB1⟩
  go_wp2_with fail
  go_loopw [8, 9] (fun v k wr => ∃ i c : Nat, i ≤ mn ∧ k = .int .i64 i ∧ v = .int .i64 (c : Int) ∧ Hid (cnt a b i = c) ∧ ∃ q, wr = w1.drewN q) (fun _ k _ => mn - (intOf k).toNat)
  case atStart => exact ⟨0, 0, by omega, rfl, rfl, hide rfl, 0, rfl⟩
  case round =>
    obtain ⟨i, c, hi, rfl, rfl, hc, q, rfl⟩ := hrel
    have hcl : c ≤ 300 := by have := hc.out; have := cnt_le a b i; omega
    by_cases hlt : i < mn
    ·
      --{
      obtain ⟨ad, x, rfl, ex, lx, cx⟩ := rb_byte (HA.out.below hB1) i (by rw [hn.out]; omega)
      obtain ⟨bd, y, rfl, ey, ly, cy⟩ := rb_byte (HB.out.below hB1) i (by rw [hm.out]; omega)
      have hin : (i : Int) < n := by omega
      have him : (i : Int) < m := by omega
      have hcn : Hid (cnt a b (i + 1) = cnt a b i + (if x = y then 0 else 1)) := hide (by rw [cnt, ex.out, ey.out])
      by_cases hxy : x = y
      · have hne : (((x : Int) != (y : Int)) : Bool) = false := by simp; omega
        have HXY := hide hxy
        clear hxy
        go_wp2_with fail
        go_quiet (fail)
        go_wp2_with fail
        go_roundw
        case rel => exact ⟨i + 1, c, by omega, by go_num, rfl, hide (by rw [hcn.out, if_pos HXY.out]; exact hc.out), _, rfl⟩
        case measure => simp [intOf]; omega
      · have hne : (((x : Int) != (y : Int)) : Bool) = true := by simp; omega
        have HXY := hide hxy
        clear hxy
        go_wp2_with fail
        go_quiet (fail)
        go_wp2_with fail
        go_roundw
        case rel => exact ⟨i + 1, c + 1, by omega, by go_num, by go_num, hide (by rw [hcn.out, if_neg HXY.out, hc.out]), _, rfl⟩
        case measure => simp [intOf]; omega
      --}
    · obtain rfl : i = mn := by omega
      have hmxl : mx ≤ 300 := by have := hmx.out; omega
      have hsp : ((n : Int) < m ∧ (i : Int) = n ∧ (c : Int) + m - n = N) ∨ (n = m ∧ n = i ∧ N = c) ∨ ((m : Int) < n ∧ (i : Int) < n ∧ (i : Int) = m ∧ (c : Int) + n - m = N) := by
        have h1 := hmx.out; have h2 := hmn.out; have h3 := hNe.out; have h4 := hc.out; omega
      rcases hsp with ⟨hx1, hx2, hx3⟩ | ⟨rfl, rfl, rfl⟩ | ⟨hx1, hx2, hx3, hx4⟩
      all_goals
        go_wp2_with fail
        generalize hw2 : World.drewN w1 q = w2
        have HB2 : Hid (Below W.heap.size W w2) := hide (by rw [← hw2]; exact ⟨hB1.os, hB1.tape, hB1.output, hB1.size, hB1.block⟩)
        clear hw2 hB1
        have hw := refbytes_c a A ca w2 (HA.out.below HB2.out) (by rw [hn.out]; omega)
        rw [hn.out] at hw
        refine hw.mono ?_
        clear hw
        rintro e w3 ⟨hB3, v, rfl, hown, -⟩
        have HB3 := hide (HB2.out.trans (hB3.mono HB2.out.size))
        have hs2 := HB2.out.size
        by_cases hn0 : 0 < n
        focus
          obtain ⟨g, cc, rfl, hgb, hgl⟩ := hown.form hn0
          have hnI : (0 : Int) < n := by omega
          clear hB3
          go_wp2_with fail
          refine (number_c at0 n hn0 (by omega) _ rfl w3).mono ?_
          rintro e w4 ⟨rfl, rfl⟩
          have hjl := num_lt at0 n hn0
          obtain ⟨j, hj⟩ : ∃ j, Hid (num at0 n = j) := ⟨_, hide rfl⟩
          rw [hj.out] at hjl ⊢
          have hjI : (j : Int) < n := by omega
          obtain ⟨x, hx⟩ : ∃ x, Hid (a.getD j 0 = x) := ⟨_, hide rfl⟩
          have hxl : x < 256 := by rw [← hx.out]; exact Sha.getD_lt _ HA.out.1 (by decide) j
          have hcell : w4.cell? ⟨g, j, none⟩ = some (.int .u8 (x : Int)) := by
            rw [hown.cellAt j (by omega), u8s_at a j (by rw [hn.out]; exact hjl), hx.out]
          have hfr := hown.frozenAt j
          obtain ⟨y, hy⟩ : ∃ y, Hid (x ^^^ 1 = y) := ⟨_, hide rfl⟩
          have hyl : y < 256 := by rw [← hy.out]; exact Nat.xor_lt_two_pow (n := 8) hxl (by decide)
          have hxor : bits .xor .u8 (x : Int) 1 = (y : Int) := by
            have h := u8_xor_nat x 1 hxl (by decide)
            rw [hy.out] at h
            exact h
          have hst := hown.stored j (.int .u8 (y : Int))
          rw [u8s_set] at hst
          obtain ⟨a2, ha2⟩ : ∃ l, Hid (a.set j y = l) := ⟨_, hide rfl⟩
          rw [ha2.out] at hst
          have ha2l : Hid (a2.length = n) := hide (by rw [← ha2.out, List.length_set, hn.out])
          have ha2b : Sha.Bytes a2 := by
            rw [← ha2.out]
            intro z hz
            rcases List.mem_or_eq_of_mem_set hz with h | h
            · exact HA.out.1 z h
            · omega
          have hdf : Hid (dif a a2 = 1) := hide (by
            rw [← ha2.out]
            refine dif_set a j y (by rw [hn.out]; exact hjl) ?_
            rw [hx.out, ← hy.out]
            exact xor_one_ne x)
          have hdec : Hid (decide (a = a2) = false) := hide (by
            rw [decide_eq_false_iff_not, ← dif_zero, hdf.out]
            decide)
          have HST := hide hst
          have HB5 : Hid (Below W.heap.size W (w4.setCell ⟨g, j, none⟩ (.int .u8 (y : Int)))) := hide (HB3.out.setCell (by simp; omega) _)
          obtain ⟨A5, c5, he5, -, hcc, hcc2, hr5, -⟩ := own_rb hst.1 ha2b
          injection he5 with he1 he2 he3
          subst he1 he3
          have HR5 := hide hr5
          clear hst hown hr5
          go_wp2_with fail
          have hw := same_c a a2 A (some ⟨g, 0, none⟩) ca cc _ (HA.out.below HB5.out) HR5.out (by rw [hn.out]; omega) (by rw [ha2l.out]; omega)
          rw [hn.out, ha2l.out, hdec.out] at hw
          refine hw.mono ?_
          clear hw
          rintro e w6 ⟨rfl, hB6⟩
          have HB6 := hide (HB5.out.trans (hB6.mono HB5.out.size))
          go_wp2_with fail
          have hw := differ_c a a2 A (some ⟨g, 0, none⟩) ca cc w6 (HA.out.below HB6.out) (HR5.out.below hB6) (by rw [hn.out]; omega) (by rw [ha2l.out]; omega)
          rw [hn.out, ha2l.out, hdf.out] at hw
          refine hw.mono ?_
          clear hw
          rintro e wz ⟨rfl, hB7⟩
          have HBz := hide (HB6.out.trans (hB7.mono HB6.out.size))
          clear hB6 hB7
          go_wp2_with fail
        rotate_left
        focus
          have hn00 : n = 0 := by omega
          have hnI : ¬ ((0 : Int) < n) := by omega
          obtain ⟨A5, c5, rfl, -, -, -, -, -⟩ := own_rb hown HA.out.1
          obtain ⟨wz, rfl⟩ : ∃ x, x = w3 := ⟨_, rfl⟩
          have HBz := HB3
          clear hown hB3 hn00
          go_wp2_with fail
        rotate_left
        all_goals try (exfalso; omega)
        all_goals
          have hw := differ_c a b A B ca cb wz (HA.out.below HBz.out) (HB.out.below HBz.out) (by rw [hn.out]; omega) (by rw [hm.out]; omega)
          rw [hn.out, hm.out, hN.out] at hw
          refine hw.mono ?_
          clear hw
          rintro e y1 ⟨rfl, hC1⟩
          have HC1 := hide (HBz.out.trans (hC1.mono HBz.out.size))
          clear hC1
          obtain ⟨r, hr⟩ : ∃ r, Hid (decide (a = b) = r) := ⟨_, hide rfl⟩
          have hz : (((N : Int) == 0) : Bool) = r := by
            rw [← hr.out, Bool.eq_iff_iff, beq_iff_eq, decide_eq_true_eq, ← dif_zero, hN.out]
            omega
          go_wp2_with fail
          have hw := same_c a b A B ca cb y1 (HA.out.below HC1.out) (HB.out.below HC1.out) (by rw [hn.out]; omega) (by rw [hm.out]; omega)
          rw [hn.out, hm.out, hr.out] at hw
          refine hw.mono ?_
          clear hw
          rintro e y2 ⟨rfl, hC2⟩
          have HC2 := hide (HC1.out.trans (hC2.mono HC1.out.size))
          clear hC2
          go_wp2_with fail
          have hw := refbytes_c a A ca y2 (HA.out.below HC2.out) (by rw [hn.out]; omega)
          rw [hn.out] at hw
          refine hw.mono ?_
          clear hw
          rintro e y3 ⟨hC3, v3, rfl, hown3, -⟩
          have HC3 := hide (HC2.out.trans (hC3.mono HC2.out.size))
          clear hC3
          obtain ⟨A6, c6, rfl, -, -, -, hr6, -⟩ := own_rb hown3 HA.out.1
          have HR6 := hide hr6
          clear hown3 hr6
          go_wp2_with fail
          have hw := same_c a a A A6 ca c6 y3 (HA.out.below HC3.out) HR6.out (by rw [hn.out]; omega) (by rw [hn.out]; omega)
          rw [hn.out, show decide (a = a) = true by simp] at hw
          refine hw.mono ?_
          clear hw
          rintro e y4 ⟨rfl, hC4⟩
          have HC4 := hide (HC3.out.trans (hC4.mono HC3.out.size))
          clear hC4
          go_wp2_with fail
          have hw := refbytes_c a A ca y4 (HA.out.below HC4.out) (by rw [hn.out]; omega)
          rw [hn.out] at hw
          refine hw.mono ?_
          clear hw
          rintro e y5 ⟨hC5, v5, rfl, hown5, -⟩
          have HC5 := hide (HC4.out.trans (hC5.mono HC4.out.size))
          have hs4 := HC4.out.size
          have HO5 := hide (hown5.alloc (.cells #[.int .u8 0] 5))
          have HOW5 := hide hown5
          have hb0 : Hid (n + 1 ≤ 1000000000000) := hide (by omega)
          have hsz : Hid (y4.heap.size ≤ (y5.alloc (.cells #[.int .u8 0] 5)).heap.size) := hide (by have := hC5.size; simp; omega)
          have hr1 := hide (new_rb1 y5 0 0 rfl (by decide))
          clear hC5 hown5
          go_wp2_with (at_builtin; refine wpList_append_bs_g (by first | rfl | go_simp) (.tmp 108) (.tmp 109) rfl y4.heap.size _ n (u8s a) rfl HO5.out (some ⟨y5.heap.size, 0, none⟩) 1 1 [0] rfl (hide rfl) hr1.out hb0.out hsz.out ?_)
          intro v7 y6 hown7 hgrow7 _
          have hC6 : Below W.heap.size W y6 := (HC5.out.alloc HC5.out.size _).grown hgrow7 (by have := HC5.out.size; simp; omega) (fun k hk => by have := (HO5.out.lt k hk).1; omega)
          have ha0 : Sha.Bytes (a ++ [0]) := HA.out.1.append (fun z hz => by simp at hz; omega)
          obtain ⟨A8, c8, rfl, hl8, -, -, hr8, -⟩ := own_rb (rb_append hown7) ha0
          have HC6 := hide hC6
          have HR8 := hide hr8
          have HL8 := hide hl8
          clear hown7 hgrow7 hC6 hr8 hl8
          go_wp2_with fail
          have hw := same_c a (a ++ [0]) A A8 ca c8 y6 (HA.out.below HC6.out) HR8.out (by rw [hn.out]; omega) (by rw [HL8.out]; omega)
          rw [hn.out, HL8.out, show decide (a = a ++ [0]) = false by simp] at hw
          refine hw.mono ?_
          clear hw
          rintro e y7 ⟨rfl, hC7⟩
          have hfin := HC6.out.trans (hC7.mono HC6.out.size)
          clear hC7
          go_wp2_with fail
          go_ret
          exact ⟨by first | rfl | simp, hfin⟩
end Go.Proofs.YtijgomgiinlcoaaDoor
