/-
  Slices of descriptions, and of tensors, that came in. By an AI agent. No person has read it.
-/
import Derived.Test.YtgdcfjmpjhlndaaGreatDoorZOBasCard
import Derived.Test.YtgdcfjmpjhlndaaGreatDoorZOElmN
import Derived.Test.YtgdcfjmpjhlndaaGreatDoorZOTenA
import Derived.Test.YtgdcfjmpjhlndaaGreatDoorZOBasE
import Derived.Deep.Slices
import Derived.ChangeOld
namespace Go.Proofs.YtgdcfjmpjhlndaaGreatDoor
open Go.ChangeShapes Go.WideShapes Go.ChangeAt Go.RowKit
instance : Inhabited Dsc := ⟨⟨none, [], 0, false⟩⟩
instance : Inhabited Ten := ⟨⟨none, [], 0, false, none, [], 0⟩⟩
end Go.Proofs.YtgdcfjmpjhlndaaGreatDoor
namespace Go.Proofs.YtgdcfjmpjhlndaaGreatDoor
open Go.ChangeShapes Go.WideShapes Go.ChangeAt Go.RowKit
theorem uTensors : Tryz.prog.underlying 29 = some (.slice 26) := by kernel_rfl
set_option maxRecDepth 100000 in
theorem tensor_cells {H : Type} {enc : TypeId × Value → H} {W : World} {c0 c1 c2 : Value} {fuel : Nat} {x : DataW H × List MemPlace} {sp : Nat → Bool} {held : Bool} {base : Nat}
  (h : DataW.trod enc Tryz.prog W base sp held fuel 26 [c0, c1, c2] = some x) : ∃ t : Ten, c0 = .slice t.P t.zs.length t.cap ∧ c1 = .bool t.u ∧ c2 = .slice t.D t.ds.length t.dcap ∧ (Ri W t.P t.zs ∧ Ri W t.D t.ds) ∧ t.zs.length ≤ t.cap ∧ t.ds.length ≤ t.dcap := by
 obtain ⟨y0, y1, n, -, -, h0, h1⟩ := trod_struct2 Tryz.underlying26 h
 dsimp only at h0 h1
 rw [ten_c2] at h0
 rw [ten_n1] at h1
 simp only [List.drop_zero, List.take_succ_cons, List.take_zero, List.drop_succ_cons] at h0 h1
 obtain ⟨zs, A, cap, u, rfl, rfl, hR, hc, hd⟩ := desc_cells h0
 obtain ⟨ds, D, dcap, rfl, hS, hcc, hdd⟩ := nums_cell h1
 exact ⟨⟨A, zs, cap, u, D, ds, dcap⟩, rfl, rfl, rfl, ⟨hR, hS⟩, hc, hcc⟩
set_option maxRecDepth 100000 in
theorem open_tcaps {H : Type} {enc : TypeId × Value → H} {W : World} {A : Option Addr} {len cap fuel : Nat} {x : DataW H × List MemPlace} {sp : Nat → Bool} {held : Bool} {base : Nat}
  (h : DataW.trod enc Tryz.prog W base sp held fuel 29 [.slice A len cap] = some x) :
  ∃ ds : List Ten, ds.length = len ∧ Row W A (ds.flatMap Ten.vals) ∧ (∀ t ∈ ds, (Ri W t.P t.zs ∧ Ri W t.D t.ds) ∧ t.zs.length ≤ t.cap ∧ t.ds.length ≤ t.dcap) ∧ len ≤ cap ∧ cap ≤ 9223372036854775807 := by
 rcases Deep.open_slice uTensors h with ⟨hcs, _⟩ | ⟨a, l, c, m, n, D, Pl, hcs, hb, hl, hm, hmm, hx, hi⟩
 ·simp at hcs
  obtain ⟨rfl, rfl, rfl⟩ := hcs
  exact ⟨[], rfl, Row.nil _ _, by simp, by omega, by omega⟩
 ·simp at hcs
  obtain ⟨rfl, rfl, rfl⟩ := hcs
  have hlm : len ≤ m := by rw [hmm]; split <;> omega
  obtain ⟨f, hf⟩ := Deep.choose_lt (α := Ten) (n := len) (p := fun i d => a.block < W.heap.size ∧ ((Ri W d.P d.zs ∧ Ri W d.D d.ds) ∧ d.zs.length ≤ d.cap ∧ d.ds.length ≤ d.dcap) ∧ ∀ (j : Nat) (v : Value), d.vals[j]? = some v → W.cell? ((a.add (i * 3)).add j) = some v) (fun i hil => by
   obtain ⟨cs, h1, h2⟩ := hi i (by omega)
   rw [ten_c3] at h1
   have hlen := World.cells?_some h1
   have hblk := World.cells?_block h1 (by decide)
   rw [ad_block] at hblk
   obtain ⟨hln, hcell⟩ := hlen.2
   obtain ⟨c0, c1, c2, rfl⟩ : ∃ c0 c1 c2, cs = [c0, c1, c2] := by
    match cs, hln with
    | [a, b, c], _ => exact ⟨a, b, c, rfl⟩
   obtain ⟨t, rfl, rfl, rfl, hR⟩ := tensor_cells h2
   refine ⟨t, hblk, hR, fun j v hj => ?_⟩
   have hj2 : j < 3 := (List.getElem?_eq_some_iff.1 hj).1
   rw [hcell j hj2]
   exact hj)
  refine ⟨(List.range len).map f, by simp, fun hne => ?_, ?_, hl, by unfold maxLen at hm; omega⟩
  ·have hpos : 0 < len := by
    rcases Nat.eq_zero_or_pos len with h0 | h0
    ·subst h0
     exact absurd rfl hne
    ·exact h0
   refine ⟨a, rfl, (hf 0 hpos).1, fun j v hj => ?_⟩
   have hjl : j < ((List.range len).map f).length * 3 := by
    rw [← flat_len Ten.vals 3 _ (fun _ _ => rfl)]
    exact (List.getElem?_eq_some_iff.1 hj).1
   rw [List.length_map, List.length_range] at hjl
   have hq : j / 3 < len := by omega
   have hg : ((List.range len).map f)[j / 3]? = some (f (j / 3)) := by
    rw [List.getElem?_map, List.getElem?_range hq]
    rfl
   have hj' := flat_at Ten.vals 3 _ (fun _ _ => rfl) (j / 3) _ hg (j % 3) (Nat.mod_lt _ (by decide))
   rw [show j / 3 * 3 + j % 3 = j by omega] at hj'
   rw [hj'] at hj
   have := (hf (j / 3) hq).2.2 (j % 3) v hj
   rw [Addr.add_add, show j / 3 * 3 + j % 3 = j by omega] at this
   exact this
  ·intro d hd
   obtain ⟨i, hi', rfl⟩ := List.mem_map.1 hd
   exact (hf i (List.mem_range.1 hi')).2.1
end Go.Proofs.YtgdcfjmpjhlndaaGreatDoor
namespace Go.Proofs.YtgdcfjmpjhlndaaGreatDoor
open Go.RowKit
theorem two_rows (w : World) (ta tb : List Value) : Below w.heap.size w ((w.alloc (Obj.cells ta.toArray 26)).alloc (Obj.cells tb.toArray 26)) ∧
  Has ((w.alloc (Obj.cells ta.toArray 26)).alloc (Obj.cells tb.toArray 26)) w.heap.size 26 ta ∧ Has ((w.alloc (Obj.cells ta.toArray 26)).alloc (Obj.cells tb.toArray 26)) (w.heap.size + 1) 26 tb := by
 refine ⟨((Below.refl _ w).alloc (Nat.le_refl _) _).alloc (by simp) _, (Has.new w _ _).alloc _, ?_⟩
 have h := Has.new (w.alloc (Obj.cells ta.toArray 26)) 26 tb
 simpa using h
set_option maxRecDepth 100000 in
set_option maxHeartbeats 4000000 in
theorem worldtensor_c (P D : Option Addr) (n cap m dcap : Nat) (u : Bool) (w : World) :
  Calls Tryz.prog 6 #[.agg (tcells P n cap u D m dcap), .int .i64 300] w fun e w' => e = .returned (.bool (decide (n ≤ 8) && decide (m ≤ 300))) ∧ Below w.heap.size w w' := by
 have hb1 := (Below.refl _ w).alloc (Nat.le_refl _) (Obj.cells (tcells P n cap u D m dcap) 26)
 have hrow := tens_row w P n cap u D m dcap
 have HV := hide (worlddesc_c P n cap u (w.alloc (Obj.cells (tcells P n cap u D m dcap) 26)))
 have HB1 := hide hb1
 have HR := hide hrow
 obtain ⟨b, hb⟩ : ∃ b, decide (n ≤ 8) = b := ⟨_, rfl⟩
 have hd : decide ((m : Int) ≤ 300) = decide (m ≤ 300) := by rw [decide_eq_decide]; omega
 rw [hb] at HV ⊢
 clear hb hb1 hrow
 go_enter Tryz.func6, Tryz.ntmps6
 go_wp2_with fail
 refine HV.out.mono ?_
 rintro e w1 ⟨rfl, hb⟩
 have hfin := HB1.out.trans (hb.mono HB1.out.size)
 have hr := HR.out.below hb HR.out.lt
 have c2 : w1.cell? ⟨w.heap.size, 2, none⟩ = some (.slice D m dcap) := by rw [hr.cell]; rfl
 clear hb hr
 cases b
 ·go_wp2_with fail
  go_ret
  exact ⟨rfl, hfin⟩
 ·go_wp2_with fail
  go_ret
  exact ⟨by rw [Bool.true_and]; first | rw [hd] | rfl, hfin⟩
set_option maxRecDepth 100000 in
set_option maxHeartbeats 4000000 in
theorem sametensor_c (a b ds es : List Int) (P Q D E : Option Addr) (ca cb cd ce : Nat) (u v : Bool) (w : World) (ha : Ri w P a) (hb : Ri w Q b) (hd : Ri w D ds) (he : Ri w E es) (hl : a.length ≤ 1000000) (hl2 : b.length ≤ 1000000) (hl3 : ds.length ≤ 1000000) (hl4 : es.length ≤ 1000000) :
  Calls Tryz.prog 13 #[.agg (tcells P a.length ca u D ds.length cd), .agg (tcells Q b.length cb v E es.length ce)] w fun e w' => e = .returned (.bool ((decide (a = b) && (u == v)) && decide (ds = es))) ∧ Below w.heap.size w w' := by
 obtain ⟨hb0, hr1, hr2⟩ := two_rows w [.slice P a.length ca, .bool u, .slice D ds.length cd] [.slice Q b.length cb, .bool v, .slice E es.length ce]
 have HS := hide (samedesc_c a b P Q ca cb u v _ (ha.below hb0) (hb.below hb0) hl hl2)
 have HE := hide (fun W (h : Below w.heap.size w W) => sameints_c ds es D E cd ce W (hd.below h) (he.below h) hl3 hl4)
 have HB0 := hide hb0
 have HR1 := hide hr1
 have HR2 := hide hr2
 clear hb0 hr1 hr2 ha hb hd he hl hl2 hl3 hl4
 obtain ⟨n1, h1⟩ : ∃ n, Hid (a.length = n) := ⟨_, hide rfl⟩
 obtain ⟨n2, h2⟩ : ∃ n, Hid (b.length = n) := ⟨_, hide rfl⟩
 obtain ⟨n3, h3⟩ : ∃ n, Hid (ds.length = n) := ⟨_, hide rfl⟩
 obtain ⟨n4, h4⟩ : ∃ n, Hid (es.length = n) := ⟨_, hide rfl⟩
 rw [h1.out, h2.out] at HS
 rw [h3.out, h4.out] at HE
 rw [h1.out, h2.out, h3.out, h4.out] at HB0
 rw [h1.out, h2.out, h3.out, h4.out] at HR1 HR2 ⊢
 rw [h3.out, h4.out] at HS
 obtain ⟨x, hx⟩ : ∃ x, Hid ((decide (a = b) && (u == v)) = x) := ⟨_, hide rfl⟩
 obtain ⟨y, hy⟩ : ∃ y, Hid (decide (ds = es) = y) := ⟨_, hide rfl⟩
 rw [hx.out] at HS ⊢
 rw [hy.out] at HE ⊢
 clear h1 h2 h3 h4 hx hy
 go_enter Tryz.func13, Tryz.ntmps13
 go_wp2_with fail
 refine HS.out.mono ?_
 rintro e w1 ⟨rfl, hb⟩
 have hF := HB0.out.trans (hb.mono HB0.out.size)
 have r1 := HR1.out.below hb HR1.out.lt
 have r2 := HR2.out.below hb HR2.out.lt
 have c1 : w1.cell? ⟨w.heap.size, 2, none⟩ = some (.slice D n3 cd) := by rw [r1.cell]; rfl
 have c2 : w1.cell? ⟨w.heap.size + 1, 2, none⟩ = some (.slice E n4 ce) := by rw [r2.cell]; rfl
 have HE1 := hide (HE.out w1 hF)
 have HF := hide hF
 clear hb r1 r2 HB0 HR1 HR2 HS hF HE
 go_wp2_with fail
 refine HE1.out.mono ?_
 rintro e w2 ⟨rfl, hb⟩
 have HFin := hide (HF.out.trans (hb.mono HF.out.size))
 clear hb
 cases x
 ·go_wp2_with fail
  go_ret
  exact ⟨by first | rfl | simp, HFin.out⟩
 ·go_wp2_with fail
  go_ret
  exact ⟨by first | rfl | simp, HFin.out⟩
end Go.Proofs.YtgdcfjmpjhlndaaGreatDoor
