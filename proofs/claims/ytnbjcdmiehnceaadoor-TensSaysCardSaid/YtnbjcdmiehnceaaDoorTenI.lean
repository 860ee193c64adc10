/-
  Package tens's Get and Raw, walked. By an AI agent. No person has read it.
-/
import Derived.Test.YtnbjcdmiehnceaaDoorTenF
import Derived.Test.YtnbjcdmiehnceaaDoorShpC
import Derived.Deep.RegionHeld3
namespace Go.Proofs.YtnbjcdmiehnceaaDoor
open Go.RowKit

theorem Shp.idx_bounds (zs : List Int) : ∀ (ys : List Int) (v r : Int), zs.all Shp.okDim = true → Shp.idx v zs ys = some r → v * Shp.prod zs ≤ r ∧ r < (v + 1) * Shp.prod zs := by
  induction zs with
  | nil =>
    intro ys v r _ h
    unfold Shp.idx at h
    cases ys <;> simp at h <;> subst h <;> simp [Shp.prod] <;> omega
  | cons z zs ih =>
    intro ys v r ha h
    cases ys with
    | nil => simp [Shp.idx] at h
    | cons y ys =>
      unfold Shp.idx at h
      split at h
      · rename_i hyz
        rw [List.all_cons, Bool.and_eq_true] at ha
        obtain ⟨h1, h2⟩ := ih ys (v * z + y) r ha.2 h
        obtain ⟨p1, -⟩ := Shp.prod_pos zs ha.2
        rw [Shp.prod]
        have e1 : (v * z + y) * Shp.prod zs = v * (z * Shp.prod zs) + y * Shp.prod zs := by rw [Int.add_mul, Int.mul_assoc]
        have e2 : (v * z + y + 1) * Shp.prod zs = v * (z * Shp.prod zs) + (y + 1) * Shp.prod zs := by rw [Int.add_assoc, Int.add_mul, Int.mul_assoc]
        have e3 : (v + 1) * (z * Shp.prod zs) = v * (z * Shp.prod zs) + z * Shp.prod zs := by rw [Int.add_mul, Int.one_mul]
        have e4 : 0 ≤ y * Shp.prod zs := Int.mul_nonneg hyz.1 (by omega)
        have e5 : (y + 1) * Shp.prod zs ≤ z * Shp.prod zs := Int.mul_le_mul_of_nonneg_right (by omega) (by omega)
        omega
      · cases h
theorem Shp.index_lt (zs ys : List Int) (r : Int) (h : Shp.index zs ys = some r) : 0 ≤ r ∧ r < Shp.elems zs := by
  unfold Shp.index at h
  split at h
  · rename_i hc
    have h2 := Shp.idx_bounds zs ys 0 r ((Shp.ok_iff zs).1 hc.1).2.1 h
    unfold Shp.elems
    rw [if_pos hc.1]
    omega
  · cases h
/-- The element at ys. -/
def Tens.get (zs : List Int) (u : Bool) (ds ys : List Int) : Option Int := if Tens.fault zs u ds = (0, none) then (Shp.index zs ys).bind fun r => ds[r.toNat]? else none
set_option maxRecDepth 100000 in
set_option maxHeartbeats 4000000 in
theorem tget_c (zs ds ys : List Int) (P D Q : Option Addr) (cap dcap capq : Nat) (u : Bool) (ah am ar : Addr) (w : World) (hr : Ri w P zs) (hd : Ri w D ds) (hq : Ri w Q ys) (hm : zs.length ≤ 1000000) (hdm : ds.length ≤ 1000000) (hym : ys.length ≤ 1000000) (hE : E3 w ah am ar) :
    Calls Tryd.prog 46 #[.agg (tcells P zs.length cap u D ds.length dcap), .slice Q ys.length capq] w fun e w' => e = .returned (.tuple #[.int .i64 ((Tens.get zs u ds ys).getD 0), .bool (Tens.get zs u ds ys).isSome]) ∧ Below w.heap.size w w' := by
  have hb1 := (Below.refl _ w).alloc (Nat.le_refl _) (Obj.cells (tcells P zs.length cap u D ds.length dcap) 53)
  have hrow := tens_row w P zs.length cap u D ds.length dcap
  have HI := hide (index_c zs ys P Q cap capq am ar _ (hr.below hb1) (hq.below hb1) (by omega) (by omega) (hE.2.below hb1))
  have HV := hide (fun W (hb : Below w.heap.size w W) => tvalid_c zs ds P D cap dcap u ah am ar W (hr.below hb) (hd.below hb) (by omega) (by omega) (hE.below hb))
  have hcs := Tens.fault_cases zs u ds
  have hfine := fun h => (Tens.fine (zs := zs) (ds := ds) (u := u) h).2.2.1
  have hidx := Shp.index_lt zs ys
  have HD := hide hd
  obtain ⟨G, hG⟩ : ∃ G, Hid (Tens.get zs u ds ys = G) := ⟨_, hide rfl⟩
  have hGe : Hid (G = if Tens.fault zs u ds = (0, none) then (Shp.index zs ys).bind (fun r => ds[r.toNat]?) else none) := hide hG.out.symm
  rw [hG.out]
  have HB1 := hide hb1
  have HR := hide hrow
  clear hr hb1 hrow hd hq hE hm hdm hym hG
  obtain ⟨R, hR⟩ : ∃ R, Hid (Tens.fault zs u ds = R) := ⟨_, hide rfl⟩
  rw [hR.out] at HV hcs hfine hGe
  obtain ⟨O, hO⟩ : ∃ O, Hid (Shp.index zs ys = O) := ⟨_, hide rfl⟩
  rw [hO.out] at HI hidx hGe
  obtain ⟨E, hEE⟩ : ∃ E, Hid (Shp.elems zs = E) := ⟨_, hide rfl⟩
  rw [hEE.out] at hfine hidx
  obtain ⟨n, hn⟩ : ∃ n, Hid (zs.length = n) := ⟨_, hide rfl⟩
  obtain ⟨m, hm⟩ : ∃ m, Hid (ds.length = m) := ⟨_, hide rfl⟩
  obtain ⟨l, hl⟩ : ∃ l, Hid (ys.length = l) := ⟨_, hide rfl⟩
  rw [hn.out, hm.out] at HV HB1 HR
  rw [hm.out] at HI hfine
  rw [hn.out, hl.out] at HI
  rw [hn.out, hm.out, hl.out]
  have Hfine := hide hfine
  clear hR hO hEE hn hl hfine
  go_enter Tryd.func46, Tryd.ntmps46
  have c0 := (show (w.alloc (Obj.cells (tcells P n cap u D m dcap) 53)).cell? ⟨w.heap.size, 0, none⟩ = some (.slice P n cap) by rw [HR.out.cell]; rfl)
  go_wp2_with fail
  refine HI.out.mono ?_
  rintro e w1 ⟨rfl, hb⟩
  have hF := HB1.out.trans (hb.mono HB1.out.size)
  have hT := HR.out.below hb HR.out.lt
  cases O with
  | none =>
    have hg := hGe.out
    simp at hg
    subst hg
    have HF := hide hF
    clear hb hT HR HB1 HI HV hcs hidx hGe hF c0
    go_wp2_with fail
    go_ret2
    exact ⟨rfl, HF.out⟩
  | some r =>
    have hrb := hidx r rfl
    have d0 : w1.cell? ⟨w.heap.size, 0, none⟩ = some (.slice P n cap) := by rw [hT.cell]; rfl
    have d1 : w1.cell? ⟨w.heap.size, 1, none⟩ = some (.bool u) := by rw [hT.cell]; rfl
    have d2 : w1.cell? ⟨w.heap.size, 2, none⟩ = some (.slice D m dcap) := by rw [hT.cell]; rfl
    have HV1 := hide (HV.out w1 hF)
    have HT := hide hT
    have HF := hide hF
    clear hb hT HR HB1 HI HV hidx hF c0
    go_wp2_with fail
    refine HV1.out.mono ?_
    rintro e w2 ⟨⟨v, rfl, hv⟩, hb⟩
    have HF2 := hide (HF.out.trans (hb.mono HF.out.size))
    have hT := HT.out.below hb HT.out.lt
    rcases hv.cases hcs with ⟨hf, rfl⟩ | ⟨hf, hv'⟩
    · have hme := Hfine.out hf
      have hg := hGe.out
      rw [if_pos hf, Option.bind_some] at hg
      have hDD := HD.out.below HF2.out
      have hrm : r < m := by omega
      have hr0 : 0 ≤ r := hrb.1
      obtain ⟨q, rfl⟩ : ∃ q : Nat, r = (q : Int) := ⟨r.toNat, by omega⟩
      obtain ⟨ad, x, rfl, ex, cx⟩ := ri_at hDD q (by rw [hm.out]; omega)
      rw [Int.toNat_natCast, ex.out] at hg
      subst hg
      have e2 : w2.cell? ⟨w.heap.size, 2, none⟩ = some (.slice (some ad) m dcap) := by rw [hT.cell]; rfl
      have hqm : (q : Int) < m := by omega
      clear hb hT HT hv hcs hGe Hfine hf hme hDD hrb hrm d0 d1 d2 HV1 HF
      go_wp2_with fail
      go_ret2
      exact ⟨rfl, HF2.out⟩
    · have hg := hGe.out
      rw [if_neg hf] at hg
      subst hg
      rcases hv' with ⟨a, rfl⟩ | ⟨g, i, rfl, -, -⟩
      · clear hb hT HT hv hcs hGe Hfine hf hrb d0 d1 d2 HV1 HF
        go_wp2_with fail
        go_ret2
        exact ⟨rfl, HF2.out⟩
      · clear hb hT HT hv hcs hGe Hfine hf hrb d0 d1 d2 HV1 HF
        go_wp2_with fail
        go_ret2
        exact ⟨rfl, HF2.out⟩
end Go.Proofs.YtnbjcdmiehnceaaDoor
