import Derived.Test.YtijgomgiinlcoaaDoorShaNum
import Derived.Lib.SlBytesConst
namespace Go.Proofs.YtijgomgiinlcoaaDoor
open Go.RowKit

/-- The two hashes while the parts are written to one of them. -/
def UInv (W : World) (g1 g2 : Nat) (bs : List Nat) (at_ : Nat) (wr : World) : Prop := HashIs wr g1 (bs.take at_) ∧ HashIs wr g2 [] ∧ Below W.heap.size W wr
/-- .. behind a Write, a Sum, a Clone and a Write to the clone. -/
theorem UInv.next {W wr w5 w6 w7 w8 : World} {g1 g2 at_ hi : Nat} {bs c : List Nat} {o : Obj} (h : UInv W g1 g2 bs at_ wr) (h1 : W.heap.size ≤ g1) (h2 : g1 ≠ g2) (hH : HashIs w5 g1 (bs.take at_ ++ c)) (hc : bs.take at_ ++ c = bs.take hi)
    (hG : wr.grownBy w5 (some g1)) (hB6 : Below w5.heap.size w5 w6) (hB7 : Below w6.heap.size w6 w7) (hG8 : (w7.alloc o).grownBy w8 (some w6.heap.size)) : UInv W g1 g2 bs hi w8 := by
  obtain ⟨a1, a2, a3⟩ := h
  have l1 := hH.lt
  have b2 := a2.grown hG (by simpa using fun e => h2 e.symm)
  have l2 := b2.lt
  have s6 := hB6.size
  have s7 := hB7.size
  have s5 := hG.size
  have sW := a3.size
  rw [hc] at hH
  have c1 := (hH.below hB6).below hB7
  have c2 := (b2.below hB6).below hB7
  refine ⟨?_, ?_, ?_⟩
  · exact (c1.grown (grown_alloc (World.grownBy.refl w7 none) o) (by simp)).grown hG8 (by simp; omega)
  · exact (c2.grown (grown_alloc (World.grownBy.refl w7 none) o) (by simp)).grown hG8 (by simp; omega)
  · refine ((((a3.trans (below_of_grown hG h1 sW)).trans (hB6.mono (by omega))).trans (hB7.mono (by omega))).alloc (by omega) o).trans (below_of_grown hG8 (by omega) (by simp; omega))

set_option maxRecDepth 100000 in
set_option maxHeartbeats 4000000 in
theorem turns_c (bs : List Nat) (A P : Option Addr) (cap capz : Nat) (zs : List Int) (W : World) (hR : Rb W A bs) (hcap : bs.length ≤ cap) (hcap2 : cap ≤ 9223372036854775807) (hZ : Ri W P zs) (hzl : zs.length ≤ 9223372036854775807) (hT : Table W) :
    Calls Tryd.prog 7 #[.slice A bs.length cap, .slice P zs.length capz] W fun e w' => e = .returned (.bool true) ∧ Below W.heap.size W w' := by
  obtain ⟨n, hn⟩ : ∃ n, Hid (bs.length = n) := ⟨_, hide rfl⟩
  obtain ⟨m, hm⟩ : ∃ m, Hid (zs.length = m) := ⟨_, hide rfl⟩
  rw [hn.out] at hcap ⊢
  rw [hm.out] at hzl ⊢
  have HR := hide hR
  have HZ := hide hZ
  have HT := hide hT
  clear hR hZ hT
  by_cases h300 : 300 < n
  · have h300' : (300 : Int) < n := by omega
    go_enter Tryd.func7, Tryd.ntmps7
    go_wp2_with fail
    refine (first_c W HT.out).mono ?_
    rintro e w1 ⟨rfl, hB1⟩
    go_wp2_with fail
    go_ret
    exact ⟨rfl, hB1⟩
  by_cases h20 : 20 < m
  · have h20' : (20 : Int) < m := by omega
    have h300' : (n : Int) ≤ 300 := by omega
    go_enter Tryd.func7, Tryd.ntmps7
    go_wp2_with fail
    refine (first_c W HT.out).mono ?_
    rintro e w1 ⟨rfl, hB1⟩
    go_wp2_with fail
    go_ret
    exact ⟨rfl, hB1⟩
  have h20' : (m : Int) ≤ 20 := by omega
  have h300' : (n : Int) ≤ 300 := by omega
  go_enter Tryd.func7, Tryd.ntmps7
  go_wp2_with fail
  refine (first_c W HT.out).mono ?_
  rintro e w1 ⟨rfl, hB1⟩
  go_wp2_with fail
  refine (new_c w1).mono ?_
  rintro e w2 ⟨rfl, hH2, hB2⟩
  go_wp2_with fail
  refine (new_c w2).mono ?_
  rintro e w3 ⟨rfl, hH3, hB3⟩
  have hU : UInv W w1.heap.size w2.heap.size bs 0 w3 := ⟨by simpa using hH2.below hB3, hH3, (hB1.trans (hB2.mono hB1.size)).trans (hB3.mono (Nat.le_trans hB1.size hB2.size))⟩
  have hg : w1.heap.size ≠ w2.heap.size := Nat.ne_of_lt hH2.lt
  have hg1 : W.heap.size ≤ w1.heap.size := hB1.size
  have hg2 : W.heap.size ≤ w2.heap.size := Nat.le_trans hB1.size hB2.size
  generalize w1.heap.size = g1 at *
  generalize w2.heap.size = g2 at *
  go_wp2_with fail
  go_loopw [8, 9] (fun v k wr => ∃ i at_ : Nat, i ≤ m ∧ at_ ≤ n ∧ k = .int .i64 i ∧ v = .int .i64 at_ ∧ UInv W g1 g2 bs at_ wr) (fun _ k _ => m - (intOf k).toNat)
  case atStart => exact ⟨0, 0, by omega, by omega, rfl, rfl, hU⟩
  case round =>
    obtain ⟨i, at_, hi, hat, rfl, rfl, hI⟩ := hrel
    clear hU hH2 hH3 hB2 hB3
    by_cases hlt : i < m
    · obtain ⟨z, hz⟩ : ∃ z, zs[i]? = some z := ⟨_, List.getElem?_eq_getElem (by rw [hm.out]; exact hlt)⟩
      obtain ⟨ad, rfl, ha, hcells⟩ := HZ.out.2 (by rintro rfl; simp at hz)
      have hcell := (hI.2.2.cell (p := ad.add i) (by rw [block_add]; exact ha)).trans (hcells i z hz)
      have hzw : (Lit.int .i64 z).wf = true := HZ.out.1 z (List.mem_of_getElem? hz)
      clear hcells hz
      have hnl := num_lt z 70 (by decide)
      obtain ⟨r, hr⟩ : ∃ r, Hid (num z 70 = r) := ⟨_, hide rfl⟩
      rw [hr.out] at hnl
      obtain ⟨hi_, hhi⟩ : ∃ h, Hid (min n (at_ + r) = h) := ⟨_, hide rfl⟩
      have hhi' := hhi.out
      have b1 : at_ ≤ hi_ := by omega
      have b2 : hi_ ≤ n := by omega
      have b3 : (if (at_ : Int) + r < n then (at_ : Int) + r else n) = (hi_ : Int) := by split <;> omega
      clear hhi'
      have hsum : IntKind.i64.wrap ((at_ : Int) + r) = (at_ : Int) + r := by rw [IntKind.wrap_i64]; omega
      have him : (i : Int) < m := by omega
      obtain ⟨A2, hA2⟩ : ∃ A2, Hid ((if cap = at_ then A else A.map (·.add (at_ * 1))) = A2) := ⟨_, hide rfl⟩
      have hcut := cut_run A A2 n cap at_ hi_ hA2 b1 (by omega)
      go_wp2_with fail
      refine (number_c z 70 (by decide) (by decide) 70 rfl wr).mono ?_
      rintro e w4 ⟨rfl, rfl⟩
      rw [hr.out]
      go_wp2_with fail
      obtain ⟨c, hc⟩ : ∃ c, Hid ((bs.take hi_).drop at_ = c) := ⟨_, hide rfl⟩
      have hcl : c.length = hi_ - at_ := by rw [← hc.out, List.length_drop, List.length_take, hn.out]; omega
      have hct : bs.take at_ ++ c = bs.take hi_ := by rw [← hc.out]; exact take_cut bs at_ hi_ b1
      have hrd : Rb W A2 c := by rw [← hc.out]; exact HR.out.cut hA2 (by rw [hn.out]; exact b2) (by rw [hn.out]; exact hcap)
      have hw := write_c g1 (bs.take at_) c A2 (cap - at_) w4 hI.1 (hrd.rd hI.2.2 hg1) (by rw [hcl, List.length_take, hn.out]; omega) (by omega) (by omega) (HT.out.below hI.2.2)
      rw [hcl] at hw
      have HCT := hide hct
      have HCL := hide hcl
      clear hcl hct b3 hsum hcell hcut
      refine hw.mono ?_
      rintro e w5 ⟨rfl, hH5, hG5⟩
      clear hw
      have hl5 : (bs.take at_ ++ c).length < 1099511627000 := by rw [HCT.out, List.length_take, hn.out]; omega
      have HL5 := hide hl5
      have HT4 := hide (HT.out.below hI.2.2)
      have HT5 : Hid (Table w5) := hide (HT4.out.grown hG5 (HT4.out.ne hI.1))
      clear hl5
      go_wp2_with fail
      refine (sum_c g1 _ w5 hH5 HL5.out HT5.out).mono ?_
      rintro e w6 ⟨rfl, hB6⟩
      go_wp2_with fail
      have hH6 := hH5.below hB6
      refine (clone_c g1 _ w6 hH6).mono ?_
      rintro e w7 ⟨rfl, hH7, hB7⟩
      have hcv : (convert 22 22 (.slice (some ⟨w7.heap.size, 0, none⟩) 2 2)).run Tryd.prog (w7.alloc (.cells #[.int .u8 122, .int .u8 122] 5)) = .ok (.slice (some ⟨w7.heap.size, 0, none⟩) 2 2) (w7.alloc (.cells #[.int .u8 122, .int .u8 122] 5 (2, 3))) :=
        Lib.run_convert_bytes_const (P := Tryd.prog) w7 22 5 #[.int .u8 122, .int .u8 122] 2 2 (by kernel_rfl) (by kernel_rfl)
      go_wp2_with fail
      have hz : Rd (w7.alloc (.cells #[.int .u8 122, .int .u8 122] 5 (2, 3))) w6.heap.size (some ⟨w7.heap.size, 0, none⟩) [122, 122] := by
        refine ⟨fun b hb => by simp at hb; omega, fun _ => ⟨_, rfl, by have := hH7.lt; simp; omega, by simp, fun k b hk => ?_⟩⟩
        have e : (⟨w7.heap.size, 0, none⟩ : Addr).add k = ⟨w7.heap.size, k, none⟩ := by unfold Addr.add; split <;> simp_all
        rw [e, cell_of_row _ w7.heap.size k #[.int .u8 122, .int .u8 122] 5 (2, 3) (heap_alloc_new w7 _)]
        match k, hk with
        | 0, hk => simp at hk; subst hk; rfl
        | 1, hk => simp at hk; subst hk; rfl
      have hz2 : (bs.take at_ ++ c).length + ([122, 122] : List Nat).length < 1099511627776 := by have := HL5.out; simp at this ⊢; omega
      have HT7 : Hid (Table (w7.alloc (.cells #[.int .u8 122, .int .u8 122] 5 (2, 3)))) := hide (((HT5.out.below hB6).below hB7).grown (grown_alloc (World.grownBy.refl w7 (some w6.heap.size)) _) (((HT5.out.below hB6).below hB7).ne hH7))
      have hw := write_c w6.heap.size (bs.take at_ ++ c) [122, 122] (some ⟨w7.heap.size, 0, none⟩) 2 _ (hH7.grown (grown_alloc (World.grownBy.refl w7 none) _) (by simp)) hz hz2 (by decide) (by decide) HT7.out
      clear hz2
      refine hw.mono ?_
      rintro e w8 ⟨rfl, -, hG8⟩
      clear hw
      have hI2 := hI.next hg1 hg hH5 HCT.out hG5 hB6 hB7 hG8
      clear hI hz hH5 hH6 hH7 hB6 hB7 hG8 hG5 hcv
      go_wp2_with fail
      go_roundw
      case rel => exact ⟨i + 1, hi_, by omega, by omega, by go_num, rfl, hI2⟩
      case measure => simp [intOf]; omega
    · obtain rfl : i = m := by omega
      obtain ⟨A2, hA2⟩ : ∃ A2, Hid ((if cap = at_ then A else A.map (·.add (at_ * 1))) = A2) := ⟨_, hide rfl⟩
      have hcut := rest_run A A2 n cap at_ hA2 hat
      have hIl1 := hI.1.lt
      have hIl2 := hI.2.1.lt
      go_wp2_with fail
      obtain ⟨c, hc⟩ : ∃ c, Hid (bs.drop at_ = c) := ⟨_, hide rfl⟩
      have hcl : c.length = n - at_ := by rw [← hc.out, List.length_drop, hn.out]
      have hct : bs.take at_ ++ c = bs := by rw [← hc.out]; exact List.take_append_drop at_ bs
      have hrd : Rb W A2 c := by
        have h := HR.out.cut (hi := n) hA2 (by rw [hn.out]; omega) (by rw [hn.out]; exact hcap)
        rw [List.take_of_length_le (by rw [hn.out]; omega), hc.out] at h
        exact h
      have hw := write_c g1 (bs.take at_) c A2 (cap - at_) wr hI.1 (hrd.rd hI.2.2 hg1) (by rw [hcl, List.length_take, hn.out]; omega) (by omega) (by omega) (HT.out.below hI.2.2)
      rw [hcl, hct] at hw
      clear hcl hct hcut
      refine hw.mono ?_
      rintro e w5 ⟨rfl, hH5, hG5⟩
      clear hw
      have HT4 := hide (HT.out.below hI.2.2)
      have HT5 : Hid (Table w5) := hide (HT4.out.grown hG5 (HT4.out.ne hI.1))
      have hK5 := hI.2.1.grown hG5 (by simpa using fun e => hg e.symm)
      have hB5 := hI.2.2.trans (below_of_grown hG5 hg1 hI.2.2.size)
      go_wp2_with fail
      have hw := write_c g2 [] bs A cap w5 hK5 (HR.out.rd hB5 hg2) (by rw [hn.out]; simp; omega) (by rw [hn.out]; exact hcap) hcap2 HT5.out
      rw [hn.out, List.nil_append] at hw
      refine hw.mono ?_
      rintro e w6 ⟨rfl, hK6, hG6⟩
      clear hw
      have hH6 := hH5.grown hG6 (by simpa using hg)
      have HT6 : Hid (Table w6) := hide (HT5.out.grown hG6 (HT5.out.ne hK5))
      have hB6 := hB5.trans (below_of_grown hG6 hg2 hB5.size)
      have hl : Hid (bs.length < 1099511627000) := hide (by rw [hn.out]; omega)
      go_wp2_with fail
      refine (sum_c g1 bs w6 hH6 hl.out HT6.out).mono ?_
      rintro e w7 ⟨rfl, hB7⟩
      have hK7 := hK6.below hB7
      have HT7 := hide (HT6.out.below hB7)
      have hB7' := hB6.trans (hB7.mono hB6.size)
      have hH7 := hH6.below hB7
      obtain ⟨D, hD⟩ : ∃ D, Hid ((u8s (Sha.digest bs)).toArray = D) := ⟨_, hide rfl⟩
      rw [hD.out]
      go_wp2_with fail
      refine (sum_c g2 bs w7 hK7 hl.out HT7.out).mono ?_
      rintro e w8 ⟨rfl, hB8⟩
      have hB8' := hB7'.trans (hB8.mono hB7'.size)
      have hH8 := hH7.below hB8
      rw [hD.out]
      go_wp2_with fail
      have hs := samesum_c (Sha.digest bs) (Sha.digest_length _) (Sha.digest_bytes _) w8
      rw [hD.out] at hs
      refine hs.mono ?_
      rintro e w9 ⟨rfl, hB9⟩
      clear hs
      have hB9' := hB8'.trans (hB9.mono hB8'.size)
      have hH9 := hH8.below hB9
      go_wp2_with fail
      have hw := len_c g1 bs w9 hH9
      rw [hn.out] at hw
      refine hw.mono ?_
      rintro e w10 ⟨rfl, rfl⟩
      clear hw
      go_wp2_with fail
      go_ret
      exact ⟨rfl, hB9'⟩
end Go.Proofs.YtijgomgiinlcoaaDoor
