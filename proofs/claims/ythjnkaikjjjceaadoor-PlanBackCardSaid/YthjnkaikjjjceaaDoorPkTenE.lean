/-
  Package pack's AppendDesc; package tens's appendRaw, walked. By an AI agent. No person has read it.
-/
import Derived.Test.YthjnkaikjjjceaaDoorPkTenA
import Derived.Test.YthjnkaikjjjceaaDoorPkTenD
namespace Go.Proofs.YthjnkaikjjjceaaDoor
open Go.RowKit
theorem Ri.grown {w w' : World} {P : Option Addr} {zs : List Int} {row : Option Nat} (h : Ri w P zs) (hg : w.grownBy w' row) (hs : ∀ ad, P = some ad → ad.block < w.heap.size → some ad.block ≠ row) : Ri w' P zs := by
  refine ⟨h.1, fun hn => ?_⟩
  obtain ⟨ad, e, h1, h2⟩ := h.2 hn
  refine ⟨ad, e, Nat.lt_of_lt_of_le h1 hg.size, fun i z hi => ?_⟩
  rw [World.cell?_of_block (hg.block (ad.add i).block (by rw [ad_block]; exact h1) (by rw [ad_block]; exact hs ad e h1))]
  exact h2 i z hi
/-- The bytes of numbers, so many each. -/
def Pk.all (k : Nat) (zs : List Int) : List Nat := (zs.map fun z => Pk.le k (Pk.num z)).flatten
theorem Pk.all_length (k : Nat) (zs : List Int) : (Pk.all k zs).length = zs.length * k := by
  induction zs with
  | nil => simp [Pk.all]
  | cons z zs ih =>
    have e : Pk.all k (z :: zs) = Pk.le k (Pk.num z) ++ Pk.all k zs := by simp [Pk.all]
    rw [e, List.length_append, ih, Pk.le_length, List.length_cons, Nat.succ_mul]
    omega
theorem Pk.all_snoc (k : Nat) (zs : List Int) (z : Int) : Pk.all k (zs ++ [z]) = Pk.all k zs ++ Pk.le k (Pk.num z) := by simp [Pk.all]
theorem Pk.all_take (k : Nat) (zs : List Int) (i : Nat) (z : Int) (hz : zs[i]? = some z) : Pk.all k (zs.take (i + 1)) = Pk.all k (zs.take i) ++ Pk.le k (Pk.num z) := by
  rw [List.take_add_one, hz, Option.toList_some, Pk.all_snoc]
theorem Pk.all_lt (k : Nat) (zs : List Int) : ∀ b ∈ Pk.all k zs, b < 256 := by
  intro b hb
  obtain ⟨l, hl, hb⟩ := List.mem_flatten.1 hb
  obtain ⟨z, _, rfl⟩ := List.mem_map.1 hl
  exact Pk.le_lt _ _ b hb
/-- How many bytes each number has. -/
def Tens.each (u : Bool) : Nat := if u = true then 4 else 1
theorem size_of (u : Bool) (w : World) : Calls Tryd.prog 100 #[.bool u] w fun e w' => e = .returned (.int .i64 ((Tens.each u : Nat) : Int)) ∧ w' = w := by
  unfold Tens.each
  cases u
  · go_enter Tryd.func100, Tryd.ntmps100
    go_wp2_with fail
    go_ret
    exact ⟨rfl, rfl⟩
  · go_enter Tryd.func100, Tryd.ntmps100
    go_wp2_with fail
    go_ret
    exact ⟨rfl, rfl⟩
theorem Pk.App.next {base : Nat} {w wr w' : World} {v b v' : Value} {n i k : Nat} {z : Int} {zs : List Int} {xs : List Value} (h : Pk.App base w v (n + i * k) (xs ++ u8s (Pk.all k (zs.take i))) wr b) (hz : zs[i]? = some z)
    (h2 : Pk.App base wr b (n + i * k + k) (xs ++ u8s (Pk.all k (zs.take i)) ++ u8s (Pk.le k (Pk.num z))) w' v') : Pk.App base w v (n + (i + 1) * k) (xs ++ u8s (Pk.all k (zs.take (i + 1)))) w' v' := by
  have e1 : n + (i + 1) * k = n + i * k + k := by rw [Nat.succ_mul]; omega
  have e2 : xs ++ u8s (Pk.all k (zs.take (i + 1))) = xs ++ u8s (Pk.all k (zs.take i)) ++ u8s (Pk.le k (Pk.num z)) := by rw [Pk.all_take k zs i z hz]; simp [u8s]
  rw [e1, e2]
  exact h.andThen h2

set_option maxRecDepth 100000 in
set_option maxHeartbeats 4000000 in
theorem appendraw_c (base : Nat) (v : Value) (n : Nat) (xs : List Value) (ds : List Int) (P D : Option Addr) (nz cap dcap : Nat) (u : Bool) (w : World) (hown : w.ownsRow base 5 1 v n xs) (hd : Ri w D ds) (hsep : ∀ ad, D = some ad → ad.block < w.heap.size → some ad.block ≠ v.ownBlock) (hn : n + 4 * ds.length ≤ 100000000) (hbase : base ≤ w.heap.size) :
    Calls Tryd.prog 75 #[v, .agg (tcells P nz cap u D ds.length dcap)] w fun e w' => ∃ v', e = .returned v' ∧ Pk.App base w v (n + ds.length * Tens.each u) (xs ++ u8s (Pk.all (Tens.each u) ds)) w' v' := by
  have hrow := tens_row w P nz cap u D ds.length dcap
  have hk1 : Tens.each u ≤ 4 := by unfold Tens.each; split <;> omega
  have hSz := size_of u
  have hlt := hown.lt
  obtain ⟨w1, hw1⟩ : ∃ w1, Hid (w.alloc (Obj.cells (tcells P nz cap u D ds.length dcap) 70) = w1) := ⟨_, hide rfl⟩
  have hg0 : w.grownBy w1 v.ownBlock := by rw [← hw1.out]; exact World.grownBy_alloc w _ _
  have hown1 := hown.alloc (Obj.cells (tcells P nz cap u D ds.length dcap) 70)
  rw [hw1.out] at hrow hown1
  have HFirst := hide (Pk.App.mk hown1 hg0 (.inl rfl))
  have H0 := hide (Pk.App.refl hown1)
  have HR := hide hrow
  have HD := hide (hd.grown hg0 hsep)
  have HSep : Hid (∀ ad, D = some ad → ad.block < w1.heap.size → some ad.block ≠ v.ownBlock) := hide (fun ad e _ h => by
    rcases Nat.lt_or_ge ad.block w.heap.size with h' | h'
    · exact hsep ad e h' h
    · have := (hlt _ h.symm).2; omega)
  have HNe : Hid (some w.heap.size ≠ v.ownBlock) := hide (fun h => by have := (hlt _ h.symm).2; omega)
  have hb1 : Hid (base ≤ w1.heap.size) := hide (Nat.le_trans hbase hg0.size)
  obtain ⟨k, hk⟩ : ∃ k, Hid (Tens.each u = k) := ⟨_, hide rfl⟩
  rw [hk.out] at hk1 hSz ⊢
  obtain ⟨m, hm⟩ : ∃ m, Hid (ds.length = m) := ⟨_, hide rfl⟩
  rw [hm.out] at hw1 hn HR ⊢
  have HSz := hide (fun W => size_of u W)
  rw [hk.out] at HSz
  clear hrow hown hown1 hd hg0 hsep hlt hSz
  go_enter Tryd.func75, Tryd.ntmps75
  have c2 : w1.cell? ⟨w.heap.size, 2, none⟩ = some (.slice D m dcap) := by rw [HR.out.cell]; rfl
  go_wp2_with fail
  have hw1' := hw1.out
  rw [hw1']
  clear hw1 hw1'
  go_wp2_with fail
  go_loopw [0, 10] (fun b j wr => ∃ i : Nat, i ≤ m ∧ j = .int .i64 i ∧ Hid (Pk.App base w1 v (n + i * k) (xs ++ u8s (Pk.all k (ds.take i))) wr b)) (fun _ j _ => m - (intOf j).toNat)
  case atStart => exact ⟨0, by omega, rfl, by simpa [Pk.all] using H0⟩
  case round =>
    obtain ⟨i, hi, rfl, hI⟩ := hrel
    by_cases hlt : i < m
    · have him : (i : Int) < m := by omega
      have hDw := HD.out.grown hI.out.grown HSep.out
      obtain ⟨ad, z, rfl, ez, cz⟩ := ri_at hDw i (by rw [hm.out]; exact hlt)
      have hRw := HR.out.grown hI.out.grown HNe.out
      have c1 : wr.cell? ⟨w.heap.size, 1, none⟩ = some (.bool u) := by rw [hRw.cell]; rfl
      have hw1 : IntKind.i64.wrap ((i : Int) + 1) = (i : Int) + 1 := by rw [IntKind.wrap_i64]; omega
      have hik : i * k ≤ m * 4 := Nat.mul_le_mul hi hk1
      have HA := hide (append_c base _ (n + i * k) _ k z wr hI.out.own (by omega) (Nat.le_trans hb1.out hI.out.grown.size))
      clear hDw hRw hik
      go_wp2_with fail
      refine (HSz.out wr).mono ?_
      rintro e W ⟨rfl, rfl⟩
      go_wp2_with fail
      refine HA.out.mono ?_
      rintro e w3 ⟨v', rfl, hA⟩
      have HI2 := hide (hI.out.next ez.out hA)
      clear hA HA hI
      go_wp2_with fail
      go_roundw
      case rel => exact ⟨i + 1, by omega, by go_num, HI2⟩
      case measure => simp [intOf]; omega
    · obtain rfl : i = m := by omega
      have hF := HFirst.out.andThen hI.out
      rw [List.take_of_length_le (by rw [hm.out]; exact Nat.le_refl _)] at hF
      have HF := hide hF
      clear hF
      go_wp2_with fail
      go_ret
      exact ⟨_, rfl, HF.out⟩
/-- A description as bytes. -/
def Pk.head (zs : List Int) (u : Bool) : Int := (zs.length : Int) + (if u = true then 8 else 0)
def Pk.desc (zs : List Int) (u : Bool) : List Nat := Pk.le 1 (Pk.num (Pk.head zs u)) ++ Pk.all 2 zs
theorem Pk.desc_length (zs : List Int) (u : Bool) : (Pk.desc zs u).length = 1 + zs.length * 2 := by rw [Pk.desc, List.length_append, Pk.le_length, Pk.all_length]
theorem Pk.desc_lt (zs : List Int) (u : Bool) : ∀ b ∈ Pk.desc zs u, b < 256 := by
  intro b hb
  rcases List.mem_append.1 hb with h | h
  · exact Pk.le_lt _ _ b h
  · exact Pk.all_lt _ _ b h

set_option maxRecDepth 100000 in
set_option maxHeartbeats 4000000 in
theorem appenddesc_c (base : Nat) (v : Value) (n : Nat) (xs : List Value) (zs : List Int) (P : Option Addr) (cap : Nat) (u : Bool) (w : World) (hown : w.ownsRow base 5 1 v n xs) (hr : Ri w P zs) (hsep : ∀ ad, P = some ad → ad.block < w.heap.size → some ad.block ≠ v.ownBlock) (hn : n + 4 * zs.length ≤ 100000000) (hbase : base ≤ w.heap.size) :
    Calls Tryd.prog 28 #[v, .agg (dcells P zs.length cap u)] w fun e w' => ∃ v', e = .returned v' ∧ Pk.App base w v (n + (1 + zs.length * 2)) (xs ++ u8s (Pk.desc zs u)) w' v' := by
  have hrow := desc_row w P zs.length cap u
  have hlt := hown.lt
  obtain ⟨w1, hw1⟩ : ∃ w1, Hid (w.alloc (Obj.cells (dcells P zs.length cap u) 59) = w1) := ⟨_, hide rfl⟩
  have hg0 : w.grownBy w1 v.ownBlock := by rw [← hw1.out]; exact World.grownBy_alloc w _ _
  have hown1 := hown.alloc (Obj.cells (dcells P zs.length cap u) 59)
  rw [hw1.out] at hrow hown1
  have HFirst := hide (Pk.App.mk hown1 hg0 (.inl rfl))
  have HR := hide hrow
  have HD := hide (hr.grown hg0 hsep)
  have HSep : Hid (∀ ad, P = some ad → ad.block < w1.heap.size → some ad.block ≠ v.ownBlock) := hide (fun ad e _ h => by
    rcases Nat.lt_or_ge ad.block w.heap.size with h' | h'
    · exact hsep ad e h' h
    · have := (hlt _ h.symm).2; omega)
  have HNe : Hid (some w.heap.size ≠ v.ownBlock) := hide (fun h => by have := (hlt _ h.symm).2; omega)
  have hb1 : Hid (base ≤ w1.heap.size) := hide (Nat.le_trans hbase hg0.size)
  have HH := hide (append_c base v n xs 1 (Pk.head zs u) w1 hown1 (by omega) hb1.out)
  have hh : Hid (Pk.head zs u = (zs.length : Int) + (if u = true then 8 else 0)) := hide rfl
  have HDD : Hid (Pk.desc zs u = Pk.le 1 (Pk.num (Pk.head zs u)) ++ Pk.all 2 zs) := hide rfl
  obtain ⟨h, hhh⟩ : ∃ h, Hid (Pk.head zs u = h) := ⟨_, hide rfl⟩
  rw [hhh.out] at HH hh HDD
  rw [HDD.out]
  obtain ⟨bs, hbs⟩ : ∃ bs, Hid (Pk.le 1 (Pk.num h) = bs) := ⟨_, hide rfl⟩
  rw [hbs.out] at HH ⊢
  obtain ⟨m, hm⟩ : ∃ m, Hid (zs.length = m) := ⟨_, hide rfl⟩
  rw [hm.out] at hw1 hn HR hh ⊢
  have hwh : IntKind.i64.wrap ((m : Int) + 8) = (m : Int) + 8 := by rw [IntKind.wrap_i64]; omega
  have c0 : w1.cell? ⟨w.heap.size, 0, none⟩ = some (.slice P m cap) := by rw [HR.out.cell]; rfl
  have c1 : w1.cell? ⟨w.heap.size, 1, none⟩ = some (.bool u) := by rw [HR.out.cell]; rfl
  clear hrow hown hown1 hr hg0 hsep hlt HDD hbs hhh
  have main : ∀ (W : World) (b : Value), Pk.App base w1 v (n + 1) (xs ++ u8s bs) W b → ∀ (i : Nat) (z : Int) (wr : World) (b' : Value), zs[i]? = some z → i < m → Pk.App base W b (n + 1 + i * 2) (xs ++ u8s bs ++ u8s (Pk.all 2 (zs.take i))) wr b' → Calls Tryd.prog 27 #[b', .int .i64 2, .int .i64 z] wr fun e w' => ∃ v', e = .returned v' ∧ Pk.App base W b (n + 1 + (i + 1) * 2) (xs ++ u8s bs ++ u8s (Pk.all 2 (zs.take (i + 1)))) w' v' := by
    intro W b hA i z wr b' hz hi hI
    refine (append_c base b' (n + 1 + i * 2) _ 2 z wr hI.own (by omega) (Nat.le_trans (Nat.le_trans hb1.out hA.grown.size) hI.grown.size)).mono ?_
    rintro e w3 ⟨v', rfl, hA3⟩
    exact ⟨v', rfl, hI.next hz hA3⟩
  have tail : ∀ (W : World) (b : Value), Pk.App base w1 v (n + 1) (xs ++ u8s bs) W b → W.cell? ⟨w.heap.size, 0, none⟩ = some (.slice P m cap) ∧ Ri W P zs ∧ Pk.App base w v (n + 1) (xs ++ u8s bs) W b ∧ (∀ wr b' nn ys, Pk.App base W b nn ys wr b' → Ri wr P zs) := by
    intro W b hA
    have hRW := HD.out.grown hA.grown HSep.out
    refine ⟨?_, hRW, HFirst.out.andThen hA, fun wr b' nn ys hB => HD.out.grown (hA.andThen hB).grown HSep.out⟩
    rw [(HR.out.grown hA.grown HNe.out).cell]
    rfl
  have HM := hide main
  have HT := hide tail
  clear main tail HD HR HNe HSep HFirst
  cases u
  · rw [if_neg (by decide), Int.add_zero] at hh
    obtain rfl := hh.out
    go_enter Tryd.func28, Tryd.ntmps28
    go_wp2_with fail
    have hw1' := hw1.out
    rw [hw1']
    clear hw1 hw1'
    refine HH.out.mono ?_
    rintro e W ⟨b, rfl, hA⟩
    obtain ⟨c0', hRW, hFW, hS⟩ := HT.out W b hA
    have HMW := hide (HM.out W b hA)
    have HRW := hide hRW
    have HFW := hide hFW
    have HS := hide hS
    have H0 := hide (Pk.App.refl hA.own)
    clear HH HM HT hRW hFW hS c0 c1 hA
    go_wp2_with fail
    go_loopw [0, 21] (fun b' j wr => ∃ i : Nat, i ≤ m ∧ j = .int .i64 i ∧ Hid (Pk.App base W b (n + 1 + i * 2) (xs ++ u8s bs ++ u8s (Pk.all 2 (zs.take i))) wr b')) (fun _ j _ => m - (intOf j).toNat)
    case atStart => exact ⟨0, by omega, rfl, by simpa [Pk.all] using H0⟩
    case round =>
      obtain ⟨i, hi, rfl, hI⟩ := hrel
      by_cases hlt : i < m
      · have him : (i : Int) < m := by omega
        have hDw := HS.out _ _ _ _ hI.out
        obtain ⟨ad, z, rfl, ez, cz⟩ := ri_at hDw i (by rw [hm.out]; exact hlt)
        have hw1 : IntKind.i64.wrap ((i : Int) + 1) = (i : Int) + 1 := by rw [IntKind.wrap_i64]; omega
        have HA := hide (HMW.out i z wr _ ez.out hlt hI.out)
        clear hDw
        go_wp2_with fail
        refine HA.out.mono ?_
        rintro e w3 ⟨v', rfl, hA⟩
        have HI2 := hide hA
        clear hA HA hI
        go_wp2_with fail
        go_roundw
        case rel => exact ⟨i + 1, by omega, by go_num, HI2⟩
        case measure => simp [intOf]; omega
      · obtain rfl : i = m := by omega
        have hF := HFW.out.andThen hI.out
        rw [List.take_of_length_le (by rw [hm.out]; exact Nat.le_refl _)] at hF
        have HF := hide hF
        clear hF
        go_wp2_with fail
        go_ret
        exact ⟨_, rfl, by simpa [Nat.add_assoc, u8s] using HF.out⟩
  · rw [if_pos rfl] at hh
    obtain rfl := hh.out
    go_enter Tryd.func28, Tryd.ntmps28
    go_wp2_with fail
    have hw1' := hw1.out
    rw [hw1']
    clear hw1 hw1'
    refine HH.out.mono ?_
    rintro e W ⟨b, rfl, hA⟩
    obtain ⟨c0', hRW, hFW, hS⟩ := HT.out W b hA
    have HMW := hide (HM.out W b hA)
    have HRW := hide hRW
    have HFW := hide hFW
    have HS := hide hS
    have H0 := hide (Pk.App.refl hA.own)
    clear HH HM HT hRW hFW hS c0 c1 hA
    go_wp2_with fail
    go_loopw [0, 21] (fun b' j wr => ∃ i : Nat, i ≤ m ∧ j = .int .i64 i ∧ Hid (Pk.App base W b (n + 1 + i * 2) (xs ++ u8s bs ++ u8s (Pk.all 2 (zs.take i))) wr b')) (fun _ j _ => m - (intOf j).toNat)
    case atStart => exact ⟨0, by omega, rfl, by simpa [Pk.all] using H0⟩
    case round =>
      obtain ⟨i, hi, rfl, hI⟩ := hrel
      by_cases hlt : i < m
      · have him : (i : Int) < m := by omega
        have hDw := HS.out _ _ _ _ hI.out
        obtain ⟨ad, z, rfl, ez, cz⟩ := ri_at hDw i (by rw [hm.out]; exact hlt)
        have hw1 : IntKind.i64.wrap ((i : Int) + 1) = (i : Int) + 1 := by rw [IntKind.wrap_i64]; omega
        have HA := hide (HMW.out i z wr _ ez.out hlt hI.out)
        clear hDw
        go_wp2_with fail
        refine HA.out.mono ?_
        rintro e w3 ⟨v', rfl, hA⟩
        have HI2 := hide hA
        clear hA HA hI
        go_wp2_with fail
        go_roundw
        case rel => exact ⟨i + 1, by omega, by go_num, HI2⟩
        case measure => simp [intOf]; omega
      · obtain rfl : i = m := by omega
        have hF := HFW.out.andThen hI.out
        rw [List.take_of_length_le (by rw [hm.out]; exact Nat.le_refl _)] at hF
        have HF := hide hF
        clear hF
        go_wp2_with fail
        go_ret
        exact ⟨_, rfl, by simpa [Nat.add_assoc, u8s] using HF.out⟩
end Go.Proofs.YthjnkaikjjjceaaDoor
