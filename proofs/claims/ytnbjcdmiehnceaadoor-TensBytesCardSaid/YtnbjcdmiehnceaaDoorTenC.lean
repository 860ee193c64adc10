/-
  Package tens's New, walked. By an AI agent. No person has read it.
-/
import Derived.Test.YtnbjcdmiehnceaaDoorTenB
import Derived.Laws.ResultCell
namespace Go.Proofs.YtnbjcdmiehnceaaDoor
open Go.RowKit

theorem results_tens {fn : Func} {p u : Tmp} (h : fn.results = #[.cell p 53, .tmp u]) (tmps : Array Value) (w : World) (g : Nat) (x y z : Value)
    (hp : tmps.getD p undef = .pointer (some ⟨g, 0, none⟩)) (hg : Has w g 53 [x, y, z]) : (results fn tmps).run Tryd.prog w = .ok (.tuple #[.agg #[x, y, z], tmps.getD u undef]) w := by
  rw [results_cell_tmp h, hp]
  have h1 := run_loadVar_row (P := Tryd.prog) w g 53 53 #[x, y, z] (0, 0) _ hg Tryd.underlying53 rfl (by kernel_rfl)
  simp [asAddr, h1, Result.andThen]

/-- What the fault of a tensor may be. -/
theorem Tens.fault_cases (zs : List Int) (u : Bool) (ds : List Int) : Tens.fault zs u ds = (0, none) ∨ Tens.fault zs u ds = (101, none) ∨ Tens.fault zs u ds = (102, none) ∨ Tens.fault zs u ds = (104, none) ∨ ∃ i, Tens.fault zs u ds = (102, some i) := by
  have hk := Shp.code_is zs
  unfold Tens.fault
  split
  · rcases hk with h | h | h <;> rw [h] <;> simp_all
  · split
    · simp
    · split
      · rename_i i _
        exact .inr (.inr (.inr (.inr ⟨i, rfl⟩)))
      · exact .inl rfl
/-- .. and its error's. -/
theorem TErr.cases {W : World} {ah am ar : Addr} {v : Value} {R : Nat × Option Nat} (h : TErr W ah am ar v R) (hc : R = (0, none) ∨ R = (101, none) ∨ R = (102, none) ∨ R = (104, none) ∨ ∃ i, R = (102, some i)) :
    (R = (0, none) ∧ v = .nilIface) ∨ (R ≠ (0, none) ∧ ((∃ a, v = errv a) ∨ ∃ g i, v = .iface 99 (.pointer (some ⟨g, 0, none⟩)) ∧ Has W g 101 [.int .i64 (i : Nat), errv ar] ∧ R = (102, some i))) := by
  rcases hc with rfl | rfl | rfl | rfl | ⟨i, rfl⟩
  · exact .inl ⟨rfl, h⟩
  · exact .inr ⟨by simp, .inl ⟨ah, h⟩⟩
  · exact .inr ⟨by simp, .inl ⟨ar, h⟩⟩
  · exact .inr ⟨by simp, .inl ⟨am, h⟩⟩
  · obtain ⟨g, h1, h2⟩ := h
    exact .inr ⟨by simp, .inr ⟨g, i, h1, h2, rfl⟩⟩

set_option maxRecDepth 100000 in
set_option maxHeartbeats 4000000 in
theorem tnew_c (zs ds : List Int) (P D : Option Addr) (cap dcap : Nat) (u : Bool) (ah am ar : Addr) (w : World) (hr : Ri w P zs) (hd : Ri w D ds) (hm : zs.length ≤ 1000000) (hdm : ds.length ≤ 1000000) (hE : E3 w ah am ar) :
    Calls Tryd.prog 42 #[.agg (dcells P zs.length cap u), .slice D ds.length dcap] w fun e w' =>
      (Tens.fault zs u ds = (0, none) → ∃ g c rest gd cd rd, e = .returned (.tuple #[.agg (tcells (some ⟨g, 0, none⟩) zs.length c u (some ⟨gd, 0, none⟩) ds.length cd), .nilIface]) ∧
        w.heap.size ≤ g ∧ zs.length ≤ c ∧ c ≤ 9223372036854775807 ∧ Has w' g 3 (i64s zs ++ rest) ∧ w.heap.size ≤ gd ∧ ds.length ≤ cd ∧ cd ≤ 9223372036854775807 ∧ Has w' gd 3 (i64s ds ++ rd) ∧ g ≠ gd) ∧
      (Tens.fault zs u ds ≠ (0, none) → ∃ v, e = .returned (.tuple #[.agg (tcells none 0 0 false none 0 0), v]) ∧ TErr w' ah am ar v (Tens.fault zs u ds)) ∧ Below w.heap.size w w' := by
  have hb0 := (((Below.refl _ w).alloc (Nat.le_refl _) (Obj.cells (dcells P zs.length cap u) 24)).alloc (by simp) (Obj.cells #[.slice none 0 0, .bool false, .slice none 0 0] 53)).alloc (by simp; omega) (Obj.cells #[.slice P zs.length cap, .bool u, .slice D ds.length dcap] 53)
  have HCL := hide (fun W (hb : Below w.heap.size w W) => tclone_c zs ds P D cap dcap u W (hr.below hb) (hd.below hb) hm hdm)
  have HV := hide (tvalid_c zs ds P D cap dcap u ah am ar _ (hr.below hb0) (hd.below hb0) (by omega) (by omega) (hE.below hb0))
  have HB0 := hide hb0
  obtain ⟨n, hn⟩ : ∃ n, Hid (zs.length = n) := ⟨_, hide rfl⟩
  obtain ⟨m, hm'⟩ : ∃ m, Hid (ds.length = m) := ⟨_, hide rfl⟩
  obtain ⟨R, hR⟩ : ∃ R, Hid (Tens.fault zs u ds = R) := ⟨_, hide rfl⟩
  have hcs := Tens.fault_cases zs u ds
  rw [hR.out] at hcs HV ⊢
  rw [hn.out] at HCL HV HB0 ⊢
  rw [hm'.out] at HCL HV HB0 ⊢
  have HZ : Hid (Has (((w.alloc (Obj.cells (dcells P n cap u) 24)).alloc (Obj.cells #[.slice none 0 0, .bool false, .slice none 0 0] 53)).alloc (Obj.cells #[.slice P n cap, .bool u, .slice D m dcap] 53)) (w.heap.size + 1) 53 [.slice none 0 0, .bool false, .slice none 0 0]) := hide (by
    have h := (Has.new (w.alloc (Obj.cells (dcells P n cap u) 24)) 53 [.slice none 0 0, .bool false, .slice none 0 0]).alloc (Obj.cells #[.slice P n cap, .bool u, .slice D m dcap] 53)
    simpa using h)
  have HT : Hid (Has (((w.alloc (Obj.cells (dcells P n cap u) 24)).alloc (Obj.cells #[.slice none 0 0, .bool false, .slice none 0 0] 53)).alloc (Obj.cells #[.slice P n cap, .bool u, .slice D m dcap] 53)) (w.heap.size + 1 + 1) 53 [.slice P n cap, .bool u, .slice D m dcap]) := hide (by
    have h := Has.new ((w.alloc (Obj.cells (dcells P n cap u) 24)).alloc (Obj.cells #[.slice none 0 0, .bool false, .slice none 0 0] 53)) 53 [.slice P n cap, .bool u, .slice D m dcap]
    simpa using h)
  clear hr hd hm hdm hb0 hE hn hm' hR
  go_enter Tryd.func42, Tryd.ntmps42
  go_wp2_with fail
  refine (HV.out).mono ?_
  rintro e w1 ⟨⟨v, rfl, hv⟩, hb⟩
  have hB1 := HB0.out.trans (hb.mono HB0.out.size)
  have hz := HZ.out.below hb HZ.out.lt
  have ht := HT.out.below hb HT.out.lt
  have HF := hide hB1
  rcases hv.cases hcs with ⟨hf, rfl⟩ | ⟨hf, hv'⟩
  · have HC := hide (HCL.out w1 hB1)
    have c0 : w1.cell? ⟨w.heap.size + 1 + 1, 0, none⟩ = some (.slice P n cap) := by rw [ht.cell]; rfl
    have c1 : w1.cell? ⟨w.heap.size + 1 + 1, 1, none⟩ = some (.bool u) := by rw [ht.cell]; rfl
    have c2 : w1.cell? ⟨w.heap.size + 1 + 1, 2, none⟩ = some (.slice D m dcap) := by rw [ht.cell]; rfl
    have HZ1 := hide hz
    clear hb hB1 hz ht hv HZ HT HV HB0 HCL
    go_wp2_with fail
    refine HC.out.mono ?_
    rintro e w2 ⟨⟨g, c, rest, gd, cd, rd, rfl, hg, hc1, hc2, hC, hgd, hd1, hd2, hDD, hne, -, -⟩, hb⟩
    have hfin := HF.out.trans (hb.mono HF.out.size)
    have hlt := HZ1.out.lt
    have hz := HZ1.out.below hb hlt
    have d0 : w2.cell? ⟨w.heap.size + 1, 0, none⟩ = some (.slice none 0 0) := by rw [hz.cell]; rfl
    have d1 : w2.cell? ⟨w.heap.size + 1, 1, none⟩ = some (.bool false) := by rw [hz.cell]; rfl
    have d2 : w2.cell? ⟨w.heap.size + 1, 2, none⟩ = some (.slice none 0 0) := by rw [hz.cell]; rfl
    have f0 := hz.frozen 0
    have f1 := hz.frozen 1
    have f2 := hz.frozen 2
    have hz' := ((hz.set_ 0 (.slice (some ⟨g, 0, none⟩) n c)).set_ 1 (.bool u)).set_ 2 (.slice (some ⟨gd, 0, none⟩) m cd)
    have hfin' := ((hfin.setCell (p := ⟨w.heap.size + 1, 0, none⟩) (Nat.le_succ _) (.slice (some ⟨g, 0, none⟩) n c)).setCell (p := ⟨w.heap.size + 1, 1, none⟩) (Nat.le_succ _) (.bool u)).setCell (p := ⟨w.heap.size + 1, 2, none⟩) (Nat.le_succ _) (.slice (some ⟨gd, 0, none⟩) m cd)
    have hC' := ((hC.far (p := ⟨w.heap.size + 1, 0, none⟩) (by simp; omega) (.slice (some ⟨g, 0, none⟩) n c)).far (p := ⟨w.heap.size + 1, 1, none⟩) (by simp; omega) (.bool u)).far (p := ⟨w.heap.size + 1, 2, none⟩) (by simp; omega) (.slice (some ⟨gd, 0, none⟩) m cd)
    have hD' := ((hDD.far (p := ⟨w.heap.size + 1, 0, none⟩) (by simp; omega) (.slice (some ⟨g, 0, none⟩) n c)).far (p := ⟨w.heap.size + 1, 1, none⟩) (by simp; omega) (.bool u)).far (p := ⟨w.heap.size + 1, 2, none⟩) (by simp; omega) (.slice (some ⟨gd, 0, none⟩) m cd)
    have HC' := hide hC'
    have HD' := hide hD'
    have HF' := hide hfin'
    have HZ' := hide hz'
    clear hb hfin hz hC hDD hC' hD' hfin' hz' HZ1 HC c0 c1 c2
    go_wp2_with fail
    refine bodyPost_ret (results_tens rfl _ _ (w.heap.size + 1) _ _ _ rfl HZ'.out) rfl ?_
    exact ⟨fun _ => ⟨g, c, rest, gd, cd, rd, rfl, by omega, hc1, hc2, HC'.out, by omega, hd1, hd2, HD'.out, hne⟩, fun h => absurd hf h, HF'.out⟩
  · have HV' := hide hv
    have d0 : w1.cell? ⟨w.heap.size + 1, 0, none⟩ = some (.slice none 0 0) := by rw [hz.cell]; rfl
    have d1 : w1.cell? ⟨w.heap.size + 1, 1, none⟩ = some (.bool false) := by rw [hz.cell]; rfl
    have d2 : w1.cell? ⟨w.heap.size + 1, 2, none⟩ = some (.slice none 0 0) := by rw [hz.cell]; rfl
    have f0 := hz.frozen 0
    have f1 := hz.frozen 1
    have f2 := hz.frozen 2
    have hz' := ((hz.set_ 0 (.slice none 0 0)).set_ 1 (.bool false)).set_ 2 (.slice none 0 0)
    have hfin' := ((hB1.setCell (p := ⟨w.heap.size + 1, 0, none⟩) (Nat.le_succ _) (.slice none 0 0)).setCell (p := ⟨w.heap.size + 1, 1, none⟩) (Nat.le_succ _) (.bool false)).setCell (p := ⟨w.heap.size + 1, 2, none⟩) (Nat.le_succ _) (.slice none 0 0)
    rcases hv' with ⟨a, rfl⟩ | ⟨g, i, rfl, hA, rfl⟩
    · have hq : ∀ W', TErr W' ah am ar (errv a) R := fun W' => by
        rcases hcs with rfl | rfl | rfl | rfl | ⟨i, rfl⟩
        · exact absurd rfl hf
        · exact hv
        · exact hv
        · exact hv
        · obtain ⟨g, h1, _⟩ := hv
          exact absurd h1 (by intro h; injection h with h1 h2; revert h1; decide)
      clear hb hB1 hz ht hv HZ HT HV HB0 HCL HV'
      have HQ := hide hq
      have HZ' := hide hz'
      have HF' := hide hfin'
      clear hq hz' hfin'
      go_wp2_with fail
      refine bodyPost_ret (results_tens rfl _ _ (w.heap.size + 1) _ _ _ rfl HZ'.out) rfl ?_
      exact ⟨fun h => absurd h hf, fun _ => ⟨_, rfl, HQ.out _⟩, HF'.out⟩
    · have hg : w.heap.size + 1 ≠ g := by
        intro h
        have hz2 : w1.heap[w.heap.size + 1]? = _ := hz
        have hA2 : w1.heap[g]? = _ := hA
        rw [← h, hz2] at hA2
        simp at hA2
      have hA' := ((hA.far (p := ⟨w.heap.size + 1, 0, none⟩) (Ne.symm hg) (.slice none 0 0)).far (p := ⟨w.heap.size + 1, 1, none⟩) (Ne.symm hg) (.bool false)).far (p := ⟨w.heap.size + 1, 2, none⟩) (Ne.symm hg) (.slice none 0 0)
      clear hb hB1 hz ht hv HZ HT HV HB0 HCL HV' hA
      have HA' := hide hA'
      have HZ' := hide hz'
      have HF' := hide hfin'
      clear hA' hz' hfin'
      go_wp2_with fail
      refine bodyPost_ret (results_tens rfl _ _ (w.heap.size + 1) _ _ _ rfl HZ'.out) rfl ?_
      exact ⟨fun h => absurd h hf, fun _ => ⟨_, rfl, g, rfl, HA'.out⟩, HF'.out⟩
end Go.Proofs.YtnbjcdmiehnceaaDoor
