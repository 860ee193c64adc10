/-
  Package tens's Raw, walked. By an AI agent. No person has read it.
-/
import Derived.Test.YtnbjcdmiehnceaaDoorTenF
import Derived.Deep.RegionHeld3
namespace Go.Proofs.YtnbjcdmiehnceaaDoor
open Go.RowKit

/-- A tensor's numbers as bytes. -/
def Tens.raw (zs : List Int) (u : Bool) (ds : List Int) : List Nat := if Tens.fault zs u ds = (0, none) then Pk.all (Tens.each u) ds else []
theorem Tens.raw_lt (zs : List Int) (u : Bool) (ds : List Int) : ∀ b ∈ Tens.raw zs u ds, b < 256 := by
  intro b hb
  unfold Tens.raw at hb
  split at hb
  · exact Pk.all_lt _ _ b hb
  · simp at hb
/-- make([]byte, 0, k). -/
theorem made_none (k : Nat) (hk : k ≤ 1000000) : ∃ Z : Array Value, Hid (Z.size = k * 1) ∧ ∀ w : World, (Instr.makeSlice 69 (.int .i64 0) (.int .i64 k)).run Tryd.prog w = .ok (.slice (some ⟨w.heap.size, 0, none⟩) 0 k) (w.alloc (.cells Z 5)) := by
  obtain ⟨i0, hi0, hz0, hz1, hz2⟩ := u8info
  refine ⟨madeCells (Value.int .u8 0).cells k, hide ?_, fun w => ?_⟩
  · rw [← Array.length_toList, show (Value.int .u8 0).cells = #[Value.int .u8 0] from rfl, toList_madeCells_one]
    simp
  · have h := run_make (P := Tryd.prog) w 69 5 i0 (.int .u8 0) ubs hi0 hz0 .i64 .i64 0 (k : Int) (by omega) (by omega) (by rw [hz2]; omega) (by omega)
    rw [hz1, Int.toNat_natCast, Nat.mul_one] at h
    exact h

set_option maxRecDepth 100000 in
set_option maxHeartbeats 4000000 in
theorem traw_c (zs ds : List Int) (P D : Option Addr) (cap dcap : Nat) (u : Bool) (ah am ar : Addr) (w : World) (hr : Ri w P zs) (hd : Ri w D ds) (hm : zs.length ≤ 1000000) (hdm : ds.length ≤ 1000000) (hE : E3 w ah am ar) :
    Calls Tryd.prog 60 #[.agg (tcells P zs.length cap u D ds.length dcap)] w fun e w' => (∃ v, e = .returned v ∧ w'.ownsRow w.heap.size 5 1 v (Tens.raw zs u ds).length (u8s (Tens.raw zs u ds))) ∧ Below w.heap.size w w' := by
  have hb1 := (Below.refl _ w).alloc (Nat.le_refl _) (Obj.cells (tcells P zs.length cap u D ds.length dcap) 53)
  have hrow := tens_row w P zs.length cap u D ds.length dcap
  have HV := hide (tvalid_c zs ds P D cap dcap u ah am ar _ (hr.below hb1) (hd.below hb1) (by omega) (by omega) (hE.below hb1))
  have hcs := Tens.fault_cases zs u ds
  obtain ⟨k, hk⟩ : ∃ k : Nat, Hid (Shp.size zs u = (k : Int) ∧ k ≤ 100000) := by
    have h := Shp.elems_le zs
    have e := Shp.size_eq zs u
    refine ⟨(Shp.size zs u).toNat, hide ?_⟩
    split at e <;> omega
  have HAD := hide (fun W (h : TenS w.heap.size w (.slice P zs.length cap) (.bool u) (.slice D ds.length dcap) W) => bytes_c zs P cap u am ar W (hr.below h.low) (by omega) (hE.2.below h.low))
  rw [hk.out.1] at HAD
  have hk2 := hk.out.2
  obtain ⟨Z, hZ, hmk⟩ := made_none k (by omega)
  have HAR := hide (fun W (h : TenS w.heap.size w (.slice P zs.length cap) (.bool u) (.slice D ds.length dcap) W) (hne : ds ≠ []) =>
    (appendraw_c w.heap.size (.slice (some ⟨W.heap.size, 0, none⟩) 0 k) 0 [] ds P D zs.length cap dcap u (W.alloc (.cells Z 5)) (World.ownsRow_made W Z k h.low.size (by unfold maxLen; omega) hZ.out) (hd.below (h.low.alloc h.low.size _)) (fun ad e hl hx => by
        obtain ⟨ad', e', h1, -⟩ := hd.2 hne
        rw [e] at e'
        cases e'
        have hx : ad.block = W.heap.size := Option.some.inj hx
        have := h.low.size
        omega) (by omega) (by have := h.low.size; simp; omega)).mono (R' := fun e W3 => ∃ v, e = .returned v ∧ W3.ownsRow w.heap.size 5 1 v (0 + ds.length * Tens.each u) ([] ++ u8s (Pk.all (Tens.each u) ds)) ∧ TenS w.heap.size w (.slice P zs.length cap) (.bool u) (.slice D ds.length dcap) W3) (by
        rintro e W3 ⟨v, rfl, hA⟩
        have hlt := World.block_lt_of_cell? W _ h.1
        have hlt : w.heap.size < W.heap.size := hlt
        have h2 : TenS w.heap.size w (.slice P zs.length cap) (.bool u) (.slice D ds.length dcap) (W.alloc (.cells Z 5)) := h.keep ((Below.refl _ _).alloc (Nat.le_refl _) _)
        have hB : some w.heap.size ≠ (Value.slice (some ⟨W.heap.size, 0, none⟩) 0 k).ownBlock := fun e => by have e : w.heap.size = W.heap.size := Option.some.inj e; omega
        exact ⟨v, rfl, hA.own, hA.grown.cell h2.1 hB, hA.grown.cell h2.2.1 hB, hA.grown.cell h2.2.2.1 hB, hide (h2.low.grown hA.grown h2.low.size (fun q e => by have e : W.heap.size = q := Option.some.inj e; omega))⟩))
  have HBY : Hid (Tens.fault zs u ds = (0, none) → Tens.raw zs u ds = Pk.all (Tens.each u) ds) := hide (fun h => by unfold Tens.raw; rw [if_pos h])
  have HBN : Hid (Tens.fault zs u ds ≠ (0, none) → Tens.raw zs u ds = []) := hide (fun h => by unfold Tens.raw; rw [if_neg h])
  have HLen : Hid ((Pk.all (Tens.each u) ds).length = 0 + ds.length * Tens.each u) := hide (by rw [Pk.all_length]; omega)
  have HFine := hide (fun h => (Tens.fine (zs := zs) (ds := ds) (u := u) h).2.1)
  have HB1 := hide hb1
  have HR := hide hrow
  clear hb1 hrow hr hd hE hm hdm
  obtain ⟨R, hR⟩ : ∃ R, Hid (Tens.fault zs u ds = R) := ⟨_, hide rfl⟩
  rw [hR.out] at HV HBY HBN hcs HFine
  obtain ⟨bb, hbb⟩ : ∃ bb, Hid (Tens.raw zs u ds = bb) := ⟨_, hide rfl⟩
  rw [hbb.out] at HBY HBN ⊢
  obtain ⟨n, hn⟩ : ∃ n, Hid (zs.length = n) := ⟨_, hide rfl⟩
  obtain ⟨m, hm⟩ : ∃ m, Hid (ds.length = m) := ⟨_, hide rfl⟩
  rw [hn.out] at HV HAD HAR HB1 HR ⊢
  rw [hm.out] at HV HAD HAR HB1 HR ⊢
  rw [hm.out] at HLen
  clear hR hbb hn hm hZ hk
  go_enter Tryd.func60, Tryd.ntmps60
  go_wp2_with fail
  refine HV.out.mono ?_
  rintro e w1 ⟨⟨v, rfl, hv⟩, hb⟩
  have hF := HB1.out.trans (hb.mono HB1.out.size)
  have hT := HR.out.below hb HR.out.lt
  rcases hv.cases hcs with ⟨hf, rfl⟩ | ⟨hf, hv'⟩
  · have h1 := HBY.out hf
    have hne := HFine.out hf
    subst h1
    have HS0 := hide (ten_of (W := w1.drew) (hT.drewN 1) hF.drew)
    clear hcs hv hb hF hT HV HBY HBN HFine hf HB1 HR
    go_wp2_with fail
    have hS0 := HS0.out
    clear HS0
    go_region_held3 (fun W => W.cell? ⟨w.heap.size, 0, none⟩ = some (.slice P n cap) ∧ W.cell? ⟨w.heap.size, 1, none⟩ = some (.bool u) ∧ W.cell? ⟨w.heap.size, 2, none⟩ = some (.slice D m dcap) ∧ Hid (Below w.heap.size w W))
      (first | exact hS0 | assumption | exact hkeep | exact TenS.keep (by assumption) hb | exact TenS.keep (by assumption) ((Below.refl _ _).alloc (Nat.le_refl _) _))
      (first
        | (go_at_call 22; refine (HAD.out _ (by assumption)).mono ?_; rintro e W2 ⟨rfl, hb⟩; have hTW2 := TenS.keep (by assumption) hb)
        | (go_at_call 90; refine (HAR.out _ hTW2 hne).mono ?_; rintro e W3 ⟨v, rfl, hov, hkeep⟩))
    go_wp2_with fail
    go_ret
    refine ⟨⟨_, rfl, ?_⟩, TenS.low (by assumption)⟩
    rw [HLen.out]
    simpa using hov
  · have h1 := HBN.out hf
    subst h1
    rcases hv' with ⟨a, rfl⟩ | ⟨g, i, rfl, -, rfl⟩
    · have HF := hide hF
      clear hcs hv hb hF hT HV HBY HBN HFine hf HB1 HR
      go_wp2_with fail
      go_ret
      exact ⟨⟨_, rfl, World.ownsRow_nil _ _ _ _⟩, HF.out⟩
    · have HF := hide hF
      clear hcs hv hb hF hT HV HBY HBN HFine hf HB1 HR
      go_wp2_with fail
      go_ret
      exact ⟨⟨_, rfl, World.ownsRow_nil _ _ _ _⟩, HF.out⟩
end Go.Proofs.YtnbjcdmiehnceaaDoor
