import Derived.Test.YtijgomgiinlcoaaDoorShaPv
namespace Go.Proofs.YtijgomgiinlcoaaDoor
open Go.RowKit

/-- How far the list of parts has come. -/
def PI (W : World) (bs : List Nat) (at_ i : Nat) (v : Value) (wr : World) : Prop := ∃ (ps : List (List Nat)) (xs : List Value), PV W ps xs ∧ ps.flatten = bs.take at_ ∧ ps.length = i ∧ wr.ownsRow W.heap.size 22 1 v i xs ∧ Below W.heap.size W wr
theorem below_row {W wr w' : World} {o : Obj} {e : TypeId} {size n : Nat} {v : Value} {xs : List Value} (hB : Below W.heap.size W wr) (ho : wr.ownsRow W.heap.size e size v n xs) (hg : (wr.alloc o).grownBy w' v.ownBlock) : Below W.heap.size W w' :=
  (hB.alloc hB.size o).grown hg (by simp; have := hB.size; omega) fun k hk => (ho.lt k hk).1
theorem new_cells (w : World) (t : TypeId) (xs : List Value) : ∀ (j : Nat) (u : Value), xs[j]? = some u → (w.alloc (.cells xs.toArray t)).cell? ((⟨w.heap.size, 0, none⟩ : Addr).add j) = some u := by
  intro j u hj
  have e : (⟨w.heap.size, 0, none⟩ : Addr).add j = ⟨w.heap.size, j, none⟩ := by unfold Addr.add; split <;> simp_all
  rw [e]
  exact ((Has.new w t xs).cell j).trans hj

set_option maxRecDepth 100000 in
set_option maxHeartbeats 4000000 in
theorem parts_c (bs : List Nat) (A P : Option Addr) (cap capz : Nat) (zs : List Int) (W : World) (hR : Rb W A bs) (hcap : bs.length ≤ cap) (hcap2 : cap ≤ 9223372036854775807) (hZ : Ri W P zs) (hzl : zs.length ≤ 9223372036854775807) (hT : Table W) :
    Calls Tryd.prog 6 #[.slice A bs.length cap, .slice P zs.length capz] W fun e w' => e = .returned (.bool true) ∧ Below W.heap.size W w' := by
  obtain ⟨n, hn⟩ : ∃ n, Hid (bs.length = n) := ⟨_, hide rfl⟩
  obtain ⟨m, hm⟩ : ∃ m, Hid (zs.length = m) := ⟨_, hide rfl⟩
  rw [hn.out] at hcap ⊢
  rw [hm.out] at hzl ⊢
  have HR := hide hR
  have HZ := hide hZ
  have HT := hide hT
  clear hR hZ hT
  by_cases h500 : 500 < n
  · have h500' : (500 : Int) < n := by omega
    go_enter Tryd.func6, Tryd.ntmps6
    go_wp2_with fail
    refine (first_c W HT.out).mono ?_
    rintro e w1 ⟨rfl, hB1⟩
    go_wp2_with fail
    go_ret
    exact ⟨rfl, hB1⟩
  by_cases h20 : 20 < m
  · have h20' : (20 : Int) < m := by omega
    have h500' : (n : Int) ≤ 500 := by omega
    go_enter Tryd.func6, Tryd.ntmps6
    go_wp2_with fail
    refine (first_c W HT.out).mono ?_
    rintro e w1 ⟨rfl, hB1⟩
    go_wp2_with fail
    go_ret
    exact ⟨rfl, hB1⟩
  have h20' : (m : Int) ≤ 20 := by omega
  have h500' : (n : Int) ≤ 500 := by omega
  obtain ⟨i0, hi0, hz0, hz1, hz2⟩ := info_sl
  have HI0 := hide hi0
  have HZ0 := hide hz0
  have HZ1 := hide hz1
  have HZ2 := hide hz2
  have HU := hide usl
  clear hi0 hz0 hz1 hz2
  go_enter Tryd.func6, Tryd.ntmps6
  go_wp2_with fail
  refine (first_c W HT.out).mono ?_
  rintro e w1 ⟨rfl, hB1⟩
  go_wp2_with fail
  have hP : PI W bs 0 0 (.slice none 0 0) w1 := ⟨[], [], PV.nil W, by simp, rfl, World.ownsRow_nil _ _ _ _, hB1⟩
  go_loopw [6, 7, 8] (fun v a k wr => ∃ (i at_ : Nat) (u : Value), i ≤ m ∧ at_ ≤ n ∧ k = .int .i64 i ∧ a = .int .i64 at_ ∧ u = v ∧ PI W bs at_ (2 * i) u wr) (fun _ _ k _ => m - (intOf k).toNat)
  case atStart => exact ⟨0, 0, _, by omega, by omega, rfl, rfl, rfl, hP⟩
  case round =>
    obtain ⟨i, at_, v, hi, hat, rfl, rfl, rfl, hI⟩ := hrel
    clear hP hB1
    obtain ⟨ps, xs, hpv, hfl, hpl, hown, hB⟩ := hI
    have HFL := hide hfl
    have HPL := hide hpl
    clear hfl hpl
    by_cases hlt : i < m
    · obtain ⟨z, hz⟩ : ∃ z, zs[i]? = some z := ⟨_, List.getElem?_eq_getElem (by rw [hm.out]; exact hlt)⟩
      obtain ⟨ad, rfl, ha, hcells⟩ := HZ.out.2 (by rintro rfl; simp at hz)
      have hcell := (hB.cell (p := ad.add i) (by rw [block_add]; exact ha)).trans (hcells i z hz)
      clear hcells hz
      have hnl := num_lt z 70 (by decide)
      obtain ⟨r, hr⟩ : ∃ r, Hid (num z 70 = r) := ⟨_, hide rfl⟩
      rw [hr.out] at hnl
      obtain ⟨hi_, hhi⟩ : ∃ h, Hid (min n (at_ + r) = h) := ⟨_, hide rfl⟩
      have hhi' := hhi.out
      have b1 : at_ ≤ hi_ := by omega
      have b2 : hi_ ≤ n := by omega
      have b3 : (if (at_ : Int) + r < n then (at_ : Int) + r else n) = (hi_ : Int) := by split <;> omega
      clear hhi'
      have hsum : IntKind.i64.wrap ((at_ : Int) + r) = (at_ : Int) + r := by rw [IntKind.wrap_i64]; omega
      have him : (i : Int) < m := by omega
      obtain ⟨A2, hA2⟩ : ∃ A2, Hid ((if cap = at_ then A else A.map (·.add (at_ * 1))) = A2) := ⟨_, hide rfl⟩
      have hcut := cut_run A A2 n cap at_ hi_ hA2 b1 (by omega)
      obtain ⟨c, hc⟩ : ∃ c, Hid ((bs.take hi_).drop at_ = c) := ⟨_, hide rfl⟩
      have hcl : c.length = hi_ - at_ := by rw [← hc.out, List.length_drop, List.length_take, hn.out]; omega
      have hct : bs.take at_ ++ c = bs.take hi_ := by rw [← hc.out]; exact take_cut bs at_ hi_ b1
      have hrd : Rb W A2 c := by rw [← hc.out]; exact HR.out.cut hA2 (by rw [hn.out]; exact b2) (by rw [hn.out]; exact hcap)
      have hpv1 := hpv.add (p := c) (A := A2) (cap := cap - at_) (by omega) (by omega) hrd
      have hpv2 := hpv1.add (p := []) (A := none) (cap := 0) (by simp) (by simp) (Rb.nil W none)
      rw [hcl] at hpv2
      have HFC : Hid (((ps ++ [c]) ++ [[]]).flatten = bs.take hi_) := hide (by simp [HFL.out, hct])
      clear hpv1 hpv hct hcl hrd hc
      have hnw := hide (new_cells wr 22 [.slice A2 (hi_ - at_) (cap - at_), .slice none 0 0])
      have h1w : Hid (∀ u ∈ [Value.slice A2 (hi_ - at_) (cap - at_), .slice none 0 0], u.oneCell' = true) := hide (by
        intro u hu
        simp at hu
        rcases hu with rfl | rfl <;> rfl)
      have hb1 : Hid (2 * i + 2 ≤ maxLen) := hide (by unfold maxLen; omega)
      have hb2 : Hid ((2 * i + 2) * 24 ≤ 140737488355328) := hide (by omega)
      have hb3 : Hid (W.heap.size ≤ (wr.alloc (.cells #[.slice A2 (hi_ - at_) (cap - at_), .slice none 0 0] 22)).heap.size) := hide (by have := hB.size; simp; omega)
      have hown2 := hide (hown.alloc (.cells #[.slice A2 (hi_ - at_) (cap - at_), .slice none 0 0] 22))
      have HOWN := hide hown
      have HPV2 := hide hpv2
      clear hown hpv2
      go_wp2_with fail
      refine (number_c z 70 (by decide) (by decide) 70 rfl wr).mono ?_
      rintro e w4 ⟨rfl, rfl⟩
      rw [hr.out]
      go_wp2_with (at_builtin; refine wpList_append_own _ rfl (.tmp 42) (.tmp 47) 33 rfl W.heap.size 22 i0 (.slice none 0 0) 1 24 HU.out HI0.out HZ0.out HZ1.out HZ2.out rfl (by decide) v (2 * i) xs rfl hown2.out ⟨w4.heap.size, 0, none⟩ 2 2 [.slice A2 (hi_ - at_) (cap - at_), .slice none 0 0] rfl rfl hnw.out h1w.out hb1.out hb2.out hb3.out ?_)
      intro v' w' hown' hgrow _
      have hB' : Below W.heap.size W w' := below_row hB HOWN.out hgrow
      go_wp2_with fail
      go_roundw
      case rel => exact ⟨i + 1, hi_, _, by omega, by omega, by go_num, rfl, rfl, _, _, HPV2.out, HFC.out, by simp [HPL.out]; omega, by rw [show 2 * (i + 1) = 2 * i + 2 by omega]; simpa using hown', hB'⟩
      case measure => simp [intOf]; omega
    · obtain rfl : i = m := by omega
      obtain ⟨A2, hA2⟩ : ∃ A2, Hid ((if cap = at_ then A else A.map (·.add (at_ * 1))) = A2) := ⟨_, hide rfl⟩
      have hcut := rest_run A A2 n cap at_ hA2 hat
      obtain ⟨c, hc⟩ : ∃ c, Hid (bs.drop at_ = c) := ⟨_, hide rfl⟩
      have hcl : c.length = n - at_ := by rw [← hc.out, List.length_drop, hn.out]
      have hct : bs.take at_ ++ c = bs := by rw [← hc.out]; exact List.take_append_drop at_ bs
      have hrd : Rb W A2 c := by
        have h := HR.out.cut (hi := n) hA2 (by rw [hn.out]; omega) (by rw [hn.out]; exact hcap)
        rw [List.take_of_length_le (by rw [hn.out]; omega), hc.out] at h
        exact h
      have hpv1 := hpv.add (p := c) (A := A2) (cap := cap - at_) (by omega) (by omega) hrd
      rw [hcl] at hpv1
      have HFC : Hid ((ps ++ [c]).flatten = bs) := hide (by simp [HFL.out, hct])
      have HPC : Hid ((ps ++ [c]).length = 2 * i + 1) := hide (by simp [HPL.out])
      clear hpv hct hcl hrd hc
      have HPV := hide hpv1
      clear hpv1
      have hnw := hide (new_cells wr 22 [.slice A2 (n - at_) (cap - at_)])
      have h1w : Hid (∀ u ∈ [Value.slice A2 (n - at_) (cap - at_)], u.oneCell' = true) := hide (by
        intro u hu
        simp at hu
        subst hu
        rfl)
      have hb1 : Hid (2 * i + 1 ≤ maxLen) := hide (by unfold maxLen; omega)
      have hb2 : Hid ((2 * i + 1) * 24 ≤ 140737488355328) := hide (by omega)
      have hb3 : Hid (W.heap.size ≤ (wr.alloc (.cells #[.slice A2 (n - at_) (cap - at_)] 22)).heap.size) := hide (by have := hB.size; simp; omega)
      have hown2 := hide (hown.alloc (.cells #[.slice A2 (n - at_) (cap - at_)] 22))
      have HOWN := hide hown
      clear hown
      go_wp2_with (at_builtin; refine wpList_append_own _ rfl (.tmp 50) (.tmp 54) 33 rfl W.heap.size 22 i0 (.slice none 0 0) 1 24 HU.out HI0.out HZ0.out HZ1.out HZ2.out rfl (by decide) v (2 * i) xs rfl hown2.out ⟨wr.heap.size, 0, none⟩ 1 1 [.slice A2 (n - at_) (cap - at_)] rfl rfl hnw.out h1w.out hb1.out hb2.out hb3.out ?_)
      intro v' w' hown' hgrow _
      have hB' : Below W.heap.size W w' := below_row hB HOWN.out hgrow
      clear hnw hown2 hgrow h1w hcut
      obtain ⟨g, cap', rfl, hglt, hcc⟩ : ∃ g cap', v' = .slice (some ⟨g, 0, none⟩) (2 * i + 1) cap' ∧ g < w'.heap.size ∧ Hid (∀ (j : Nat) (u : Value), (xs ++ [Value.slice A2 (n - at_) (cap - at_)])[j]? = some u → w'.cell? ((⟨g, 0, none⟩ : Addr).add j) = some u) := by
        rcases hown'.2 with ⟨-, h0⟩ | ⟨g, cap', cur, rfl, -⟩
        · omega
        · exact ⟨g, cap', rfl, (hown'.lt g rfl).2, hide (hown'.cells rfl)⟩
      clear hown'
      have hParts := hide (HPV.out.parts hB' hglt hcc.out)
      have HTw := hide (HT.out.below hB')
      have hl : Hid (bs.length < 1099511627000) := hide (by rw [hn.out]; omega)
      have hl2 : Hid ((ps ++ [c]).flatten.length < 1099511627000) := hide (by rw [HFC.out]; exact hl.out)
      obtain ⟨D, hD⟩ : ∃ D, Hid ((u8s (Sha.digest bs)).toArray = D) := ⟨_, hide rfl⟩
      go_wp2_with fail
      have hw := of_c (some ⟨g, 0, none⟩) (ps ++ [c]) cap' w' hParts.out (by rw [HPC.out]; omega) hl2.out HTw.out
      rw [HFC.out, HPC.out, hD.out] at hw
      refine hw.mono ?_
      rintro e w7 ⟨rfl, hB7⟩
      clear hw
      have hB7' := hB'.trans (hB7.mono hB'.size)
      have HT7 := hide (HTw.out.below hB7)
      go_wp2_with fail
      have hp1 : PV W [bs] [.slice A n cap] := by
        have h := (PV.nil W).add (p := bs) (A := A) (cap := cap) (by rw [hn.out]; exact hcap) hcap2 HR.out
        rw [hn.out] at h
        exact h
      have hB8 : Below W.heap.size W (w7.alloc (.cells #[.slice A n cap] 22)) := hB7'.alloc hB7'.size _
      have hw := of_c (some ⟨w7.heap.size, 0, none⟩) [bs] 1 (w7.alloc (.cells #[.slice A n cap] 22)) (hp1.parts hB8 (by simp) (new_cells w7 22 [.slice A n cap])) (by simp) (by simpa using hl.out) (HT7.out.below ((Below.refl _ _).alloc (Nat.le_refl _) _))
      rw [show [bs].flatten = bs by simp, hD.out] at hw
      refine hw.mono ?_
      rintro e w9 ⟨rfl, hB9⟩
      clear hw
      have hB9' := hB8.trans (hB9.mono hB8.size)
      go_wp2_with fail
      have hs := samesum_c (Sha.digest bs) (Sha.digest_length _) (Sha.digest_bytes _) w9
      rw [hD.out] at hs
      refine hs.mono ?_
      rintro e w10 ⟨rfl, hB10⟩
      clear hs
      have hB10' := hB9'.trans (hB10.mono hB9'.size)
      go_wp2_with fail
      go_ret
      exact ⟨rfl, hB10'⟩
end Go.Proofs.YtijgomgiinlcoaaDoor
