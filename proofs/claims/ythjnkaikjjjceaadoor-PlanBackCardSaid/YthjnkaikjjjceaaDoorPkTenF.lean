/-
  Package tens's Bytes, walked. By an AI agent. No person has read it.
-/
import Derived.Test.YthjnkaikjjjceaaDoorPkTenE
import Derived.Test.YthjnkaikjjjceaaDoorPkErrD
import Derived.Test.YthjnkaikjjjceaaDoorPkShpC
import Derived.Test.YthjnkaikjjjceaaDoorPkTenU
import Derived.Test.YthjnkaikjjjceaaDoorPkBasA
import Derived.Test.YthjnkaikjjjceaaDoorPkTenA
import Derived.Deep.RegionHeld3
import Derived.StillTailTactics
import Derived.Laws.BitsAllLaws
namespace Go.Proofs.YthjnkaikjjjceaaDoor
open Go.RowKit
/-- A tensor as bytes, with what it looks like. -/
def Tens.bytes (zs : List Int) (u : Bool) (ds : List Int) : List Nat := if Tens.fault zs u ds = (0, none) then Pk.desc zs u ++ Pk.all (Tens.each u) ds else []
theorem Tens.bytes_lt (zs : List Int) (u : Bool) (ds : List Int) : ∀ b ∈ Tens.bytes zs u ds, b < 256 := by
  intro b hb
  unfold Tens.bytes at hb
  split at hb
  · rcases List.mem_append.1 hb with h | h
    · exact Pk.desc_lt _ _ b h
    · exact Pk.all_lt _ _ b h
  · simp at hb
/-- A tensor without fault: its shape may be, it has numbers. -/
theorem Tens.fine {zs ds : List Int} {u : Bool} (h : Tens.fault zs u ds = (0, none)) : Shp.ok zs = true ∧ ds ≠ [] ∧ (ds.length : Int) = Shp.elems zs ∧ ∀ (j : Nat) (y : Int), ds[j]? = some y → Tens.fit u y = true := by
  unfold Tens.fault at h
  split at h
  · rename_i h1
    have := congrArg Prod.fst h
    exact absurd this h1
  · rename_i h1
    have hok : Shp.ok zs = true := by unfold Shp.ok; rw [decide_eq_true_iff]; omega
    split at h
    · simp at h
    · rename_i h2
      have h2 : (ds.length : Int) = Shp.elems zs := by omega
      refine ⟨hok, ?_, h2, fun j y hj => ?_⟩
      · rintro rfl
        have h3 : Shp.elems zs = 0 := by rw [← h2]; rfl
        rw [(Shp.elems_zero zs).1 h3] at hok
        cases hok
      · split at h
        · simp at h
        · rename_i h3
          rw [List.findIdx?_eq_none_iff] at h3
          have := h3 y (List.mem_of_getElem? hj)
          simpa using this
theorem below_none {W W2 : World} (h : W.grownBy W2 none) : Below W.heap.size W W2 := (Below.refl W.heap.size W).grown h (Nat.le_refl _) (fun k hk => by cases hk)

set_option maxRecDepth 100000 in
set_option maxHeartbeats 4000000 in
theorem tbytes_c (zs ds : List Int) (P D : Option Addr) (cap dcap : Nat) (u : Bool) (ah am ar : Addr) (w : World) (hr : Ri w P zs) (hd : Ri w D ds) (hm : zs.length ≤ 1000000) (hdm : ds.length ≤ 1000000) (hE : E3 w ah am ar) :
    Calls Tryd.prog 29 #[.agg (tcells P zs.length cap u D ds.length dcap)] w fun e w' => (∃ v, e = .returned v ∧ w'.ownsRow w.heap.size 5 1 v (Tens.bytes zs u ds).length (u8s (Tens.bytes zs u ds))) ∧ Below w.heap.size w w' := by
  have hb1 := (Below.refl _ w).alloc (Nat.le_refl _) (Obj.cells (tcells P zs.length cap u D ds.length dcap) 70)
  have hrow := tens_row w P zs.length cap u D ds.length dcap
  have HV := hide (tvalid_c zs ds P D cap dcap u ah am ar _ (hr.below hb1) (hd.below hb1) (by omega) (by omega) (hE.below hb1))
  have hcs := Tens.fault_cases zs u ds
  have HAD := hide (fun W (h : TenS w.heap.size w (.slice P zs.length cap) (.bool u) (.slice D ds.length dcap) W) =>
    (appenddesc_c w.heap.size (.slice none 0 0) 0 [] zs P cap u W (World.ownsRow_nil W _ _ _) (hr.below h.low) (fun ad e _ => by simp [Value.ownBlock]) (by omega) h.low.size).mono (R' := fun e W2 => ∃ b, e = .returned b ∧ W2.ownsRow w.heap.size 5 1 b (0 + (1 + zs.length * 2)) ([] ++ u8s (Pk.desc zs u)) ∧ (∀ k, b.ownBlock = some k → w.heap.size < k) ∧ Below W.heap.size W W2) (by
        rintro e W2 ⟨b, rfl, hA⟩
        refine ⟨b, rfl, hA.own, fun k hk => ?_, below_none hA.grown⟩
        have hlt := World.block_lt_of_cell? W _ h.1
        rcases hA.at_ with e | ⟨g, e, hg⟩
        · rw [hk] at e
          cases e
        · rw [hk] at e
          have e := Option.some.inj e
          have hlt : w.heap.size < W.heap.size := hlt
          omega))
  have HAR := hide (fun W2 b (ho : W2.ownsRow w.heap.size 5 1 b (0 + (1 + zs.length * 2)) ([] ++ u8s (Pk.desc zs u))) (hk : ∀ k, b.ownBlock = some k → w.heap.size < k) (h : TenS w.heap.size w (.slice P zs.length cap) (.bool u) (.slice D ds.length dcap) W2) (hne : ds ≠ []) =>
    (appendraw_c w.heap.size b (0 + (1 + zs.length * 2)) _ ds P D zs.length cap dcap u W2 ho (hd.below h.low) (fun ad e hl hx => by
        obtain ⟨ad', e', h1, -⟩ := hd.2 hne
        rw [e] at e'
        cases e'
        have := hk _ hx.symm
        omega) (by omega) h.low.size).mono (R' := fun e W3 => ∃ v, e = .returned v ∧ W3.ownsRow w.heap.size 5 1 v (0 + (1 + zs.length * 2) + ds.length * Tens.each u) ([] ++ u8s (Pk.desc zs u) ++ u8s (Pk.all (Tens.each u) ds)) ∧ TenS w.heap.size w (.slice P zs.length cap) (.bool u) (.slice D ds.length dcap) W3) (by
        rintro e W3 ⟨v, rfl, hA⟩
        have hB : some w.heap.size ≠ b.ownBlock := fun e => by have := hk _ e.symm; omega
        exact ⟨v, rfl, hA.own, hA.grown.cell h.1 hB, hA.grown.cell h.2.1 hB, hA.grown.cell h.2.2.1 hB, hide (h.low.grown hA.grown h.low.size (fun k e => Nat.le_of_lt (hk k e)))⟩))
  have HBY : Hid (Tens.fault zs u ds = (0, none) → Tens.bytes zs u ds = Pk.desc zs u ++ Pk.all (Tens.each u) ds) := hide (fun h => by unfold Tens.bytes; rw [if_pos h])
  have HBN : Hid (Tens.fault zs u ds ≠ (0, none) → Tens.bytes zs u ds = []) := hide (fun h => by unfold Tens.bytes; rw [if_neg h])
  have HLen : Hid (Pk.desc zs u ++ Pk.all (Tens.each u) ds = Pk.desc zs u ++ Pk.all (Tens.each u) ds → (Pk.desc zs u ++ Pk.all (Tens.each u) ds).length = 0 + (1 + zs.length * 2) + ds.length * Tens.each u) := hide (fun _ => by
    rw [List.length_append, Pk.desc_length, Pk.all_length]; omega)
  have HFine := hide (fun h => (Tens.fine (zs := zs) (ds := ds) (u := u) h).2.1)
  have HB1 := hide hb1
  have HR := hide hrow
  clear hb1 hrow hr hd hE hm hdm
  obtain ⟨R, hR⟩ : ∃ R, Hid (Tens.fault zs u ds = R) := ⟨_, hide rfl⟩
  rw [hR.out] at HV HBY HBN hcs HFine
  obtain ⟨bb, hbb⟩ : ∃ bb, Hid (Tens.bytes zs u ds = bb) := ⟨_, hide rfl⟩
  rw [hbb.out] at HBY HBN ⊢
  obtain ⟨n, hn⟩ : ∃ n, Hid (zs.length = n) := ⟨_, hide rfl⟩
  obtain ⟨m, hm⟩ : ∃ m, Hid (ds.length = m) := ⟨_, hide rfl⟩
  rw [hn.out] at HV HAD HAR HB1 HR HLen ⊢
  rw [hm.out] at HV HAD HAR HB1 HR HLen ⊢
  clear hR hbb hn hm
  go_enter Tryd.func29, Tryd.ntmps29
  go_wp2_with fail
  refine HV.out.mono ?_
  rintro e w1 ⟨⟨v, rfl, hv⟩, hb⟩
  have hF := HB1.out.trans (hb.mono HB1.out.size)
  have hT := HR.out.below hb HR.out.lt
  rcases hv.cases hcs with ⟨hf, rfl⟩ | ⟨hf, hv'⟩
  · have h1 := HBY.out hf
    have hne := HFine.out hf
    subst h1
    have HS0 := hide (ten_of (W := w1.drew) (hT.drewN 1) hF.drew)
    clear hcs hv hb hF hT HV HBY HBN HFine hf HB1 HR
    go_wp2_with fail
    have hS0 := HS0.out
    clear HS0
    go_region_held3 (fun W => W.cell? ⟨w.heap.size, 0, none⟩ = some (.slice P n cap) ∧ W.cell? ⟨w.heap.size, 1, none⟩ = some (.bool u) ∧ W.cell? ⟨w.heap.size, 2, none⟩ = some (.slice D m dcap) ∧ Hid (Below w.heap.size w W))
      (first | exact hS0 | assumption | exact TenS.keep (by assumption) hb)
      (first
        | (go_at_call 28; refine (HAD.out _ (by assumption)).mono ?_; rintro e W2 ⟨b, rfl, hob, hkb, hb⟩)
        | (go_at_call 75; refine (HAR.out _ _ hob hkb (by assumption) hne).mono ?_; rintro e W3 ⟨v, rfl, hov, hkeep⟩))
    go_wp2_with fail
    go_ret
    refine ⟨⟨_, rfl, ?_⟩, TenS.low (by assumption)⟩
    rw [HLen.out trivial]
    simpa using hov
  · have h1 := HBN.out hf
    subst h1
    rcases hv' with ⟨a, rfl⟩ | ⟨g, i, rfl, -, rfl⟩
    · have HF := hide hF
      clear hcs hv hb hF hT HV HBY HBN HFine hf HB1 HR
      go_wp2_with fail
      go_ret
      exact ⟨⟨_, rfl, World.ownsRow_nil _ _ _ _⟩, HF.out⟩
    · have HF := hide hF
      clear hcs hv hb hF hT HV HBY HBN HFine hf HB1 HR
      go_wp2_with fail
      go_ret
      exact ⟨⟨_, rfl, World.ownsRow_nil _ _ _ _⟩, HF.out⟩
end Go.Proofs.YthjnkaikjjjceaaDoor
namespace Go.Proofs.YthjnkaikjjjceaaDoor
open Go.RowKit
/-- A byte as a narrow number; four bytes as a wide one. -/
def Tens.num1 (b : Nat) : Int := if b < 128 then (b : Int) else (b : Int) - 256
def Tens.nums1 (bs : List Nat) : List Int := bs.map Tens.num1
theorem num1_wrap (b : Nat) (h : b < 256) : IntKind.i8.wrap (b : Int) = Tens.num1 b := by
  unfold Tens.num1
  simp [IntKind.wrap, IntKind.bits, IntKind.signed]
  split <;> omega
theorem num1_bounds (b : Nat) (h : b < 256) : -128 ≤ Tens.num1 b ∧ Tens.num1 b ≤ 127 := by unfold Tens.num1; split <;> omega
/-- The row, its first i filled. -/
def Tens.fill (l : List Int) (n i : Nat) : List Int := l.take i ++ List.replicate (n - i) 0
theorem Tens.fill_set (l : List Int) (n i : Nat) (z : Int) (hn : l.length = n) (hz : l[i]? = some z) : (i64s (Tens.fill l n i)).set i (.int .i64 z) = i64s (Tens.fill l n (i + 1)) := by
  have hi := (List.getElem?_eq_some_iff.1 hz).1
  rw [show (Value.int .i64 z) = (fun z => Value.int .i64 z) z from rfl, ← List.map_set]
  congr 1
  unfold Tens.fill
  have e : n - i = (n - (i + 1)) + 1 := by omega
  rw [List.set_append_right _ _ (by rw [List.length_take]; omega), List.length_take, Nat.min_eq_left (by omega), Nat.sub_self, e, List.replicate_succ, List.set_cons_zero, List.take_add_one, hz, Option.toList_some, List.append_assoc]
  rfl
set_option maxRecDepth 100000 in
set_option maxHeartbeats 4000000 in
theorem numbers_n (bs : List Nat) (A : Option Addr) (cap : Nat) (w : World) (hr : Rb w A bs) (hl : bs.length ≤ 1000000) :
    Calls Tryd.prog 101 #[.slice A bs.length cap, .bool false] w fun e w' => (∃ g, e = .returned (.slice (some ⟨g, 0, none⟩) bs.length bs.length) ∧ w.heap.size ≤ g ∧ Has w' g 3 (i64s (Tens.nums1 bs))) ∧ Below w.heap.size w w' := by
  obtain ⟨n, hn⟩ : ∃ n, Hid (bs.length = n) := ⟨_, hide rfl⟩
  rw [hn.out] at hl ⊢
  obtain ⟨Z, hZ, hmk⟩ := made_ints n hl
  have HSz := hide (fun W => size_of false W)
  have hq : (n : Int).tdiv 1 = (n : Int) := by simp
  have hR0 : Has (w.alloc (Obj.cells Z 3)) w.heap.size 3 (i64s (List.replicate n 0)) := by rw [hZ.out]; exact Has.new w _ _
  have hb0 := (Below.refl _ w).alloc (Nat.le_refl _) (Obj.cells Z 3)
  have HR0 := hide hR0
  have HB0 := hide hb0
  have HA := hide (hr.below hb0)
  have HA0 := hide hr
  clear hR0 hb0 hr
  go_enter Tryd.func101, Tryd.ntmps101
  go_wp2_with fail
  refine (HSz.out w).mono ?_
  rintro e w1 ⟨rfl, rfl⟩
  rw [show ((Tens.each false : Nat) : Int) = 1 from rfl]
  clear HSz
  go_wp2_with fail
  have hR1 : Has (w1.alloc (Obj.cells Z 3)) w1.heap.size 3 (i64s (Tens.fill (Tens.nums1 bs) n 0)) := by
    have h := HR0.out
    simpa [Tens.fill] using h
  have hAl : ∀ ad, A = some ad → bs ≠ [] → ad.block < w1.heap.size := fun ad e hne => by
    obtain ⟨ad', e', h1, -⟩ := HA0.out.2 hne
    rw [e] at e'
    cases e'
    exact h1
  have HAl := hide hAl
  clear hAl HR0 HA
  generalize hW1 : w1.alloc (Obj.cells Z 3) = W1 at *
  have hs1 : W1.heap.size = w1.heap.size + 1 := by rw [← hW1]; simp
  clear hW1
  go_loopw [18] (fun k wr => ∃ i : Nat, i ≤ n ∧ k = .int .i64 i ∧ Hid (Has wr w1.heap.size 3 (i64s (Tens.fill (Tens.nums1 bs) n i))) ∧ Hid (Below w1.heap.size w1 wr)) (fun k _ => n - (intOf k).toNat)
  case atStart => exact ⟨0, Nat.zero_le _, rfl, hide hR1, HB0⟩
  case round =>
    obtain ⟨i, hi, rfl, hR, hB⟩ := hrel
    by_cases hlt : i < n
    · have hAr := HA0.out.below hB.out
      obtain ⟨ad, b, rfl, eb, lb, cb⟩ := rb_at hAr i (by rw [hn.out]; exact hlt)
      have him : (i : Int) < n := by omega
      have hw8 := num1_wrap b lb
      have hbd := num1_bounds b lb
      obtain ⟨z, hz⟩ : ∃ z, Hid (Tens.num1 b = z) := ⟨_, hide rfl⟩
      rw [hz.out] at hw8 hbd
      have hw64 : IntKind.i64.wrap z = z := by rw [IntKind.wrap_i64]; omega
      have hadd : IntKind.i64.wrap ((i : Int) + 1) = (i : Int) + 1 := by rw [IntKind.wrap_i64]; omega
      have hcell : ∃ u, wr.cell? ⟨w1.heap.size, i, none⟩ = some u := by
        rw [hR.out.cell]
        exact ⟨_, List.getElem?_eq_getElem (by simp [Tens.fill, Tens.nums1, hn.out]; omega)⟩
      obtain ⟨u, hu⟩ := hcell
      have hf := hR.out.frozen i
      have hR2 := hR.out.set_ i (.int .i64 z)
      have hlz : (Tens.nums1 bs)[i]? = some z := by unfold Tens.nums1; rw [List.getElem?_map, eb.out]; exact congrArg some hz.out
      rw [Tens.fill_set _ n i z (by simp [Tens.nums1, hn.out]) hlz] at hR2
      have HR2 := hide hR2
      have HB2 := hide (hB.out.setCell (p := ⟨w1.heap.size, i, none⟩) (Nat.le_refl _) (.int .i64 z))
      clear hAr hbd hR hR2 hlz hB eb
      go_wp2_with fail
      go_roundw
      case rel => exact ⟨i + 1, by omega, by go_num, HR2, HB2⟩
      case measure => simp [intOf]; omega
    · obtain rfl : i = n := by omega
      have hfin := hR.out
      have e : Tens.fill (Tens.nums1 bs) i i = Tens.nums1 bs := by
        unfold Tens.fill
        rw [List.take_of_length_le (by simp [Tens.nums1, hn.out]), Nat.sub_self]
        simp
      rw [e] at hfin
      have HF := hide hfin
      clear hfin e hR
      go_wp2_with fail
      go_ret
      exact ⟨⟨_, rfl, Nat.le_refl _, HF.out⟩, hB.out⟩
end Go.Proofs.YthjnkaikjjjceaaDoor
