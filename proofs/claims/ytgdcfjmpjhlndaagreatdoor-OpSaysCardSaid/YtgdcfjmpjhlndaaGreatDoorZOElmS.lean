/-
  Tensors that are held against each other; the reference's Valid and Good (texts of ten K, L, Rr for a seat of another layer). By an AI agent. No person has read it.
-/
import Derived.Test.YtgdcfjmpjhlndaaGreatDoorZOElmOpen
import Derived.Test.YtgdcfjmpjhlndaaGreatDoorZOElmN
import Derived.Test.YtgdcfjmpjhlndaaGreatDoorZOElmA
import Derived.Test.YtgdcfjmpjhlndaaGreatDoorZOShpX
import Derived.Test.YtgdcfjmpjhlndaaGreatDoorZOBasE
import Derived.Test.YtgdcfjmpjhlndaaGreatDoorZOErrB
import Derived.Deep.RegionHeld3
namespace Go.Proofs.YtgdcfjmpjhlndaaGreatDoor
open Go.RowKit
abbrev gcells (k : Int) (p : Bool) (i : Int) : Array Value := #[.int .i64 k, .bool p, .int .i64 i]
theorem gsize (k i : Int) (p : Bool) : (Tryz.prog.info? 36).map (·.size) = some (gcells k p i).size := by
 show _ = some 3
 kernel_rfl
theorem gone (k i : Int) (p : Bool) : (gcells k p i).all (·.oneCell') = true := by simp [Value.oneCell']
set_option maxRecDepth 100000 in
theorem placed_c (k i : Int) (hk : k ≠ 0) (w : World) :
  Calls Tryz.prog 65 #[.int .i64 k, .int .i64 i] w fun e w' => e = .returned (.agg (gcells k true i)) ∧ Below w.heap.size w w' := by
 have hb1 := hidE ((Below.refl _ w).alloc (Nat.le_refl _) (Obj.cells (fcells 0) 36))
 have hz1 := hidE (heap_alloc_new w (Obj.cells (fcells 0) 36))
 have hk2 : (k == 0) = false := by simpa using hk
 go_enter Tryz.func65, Tryz.ntmps65
 go_wp2_with (refine wpList_store_row rfl 36 (.tmp 4) (.tmp 10) rfl w.heap.size (gcells k true i) rfl rfl _ _ hz1.out (gsize k i true) rfl (gone k i true) ?_)
 have hz2 := setRow_heap _ _ _ (gcells k true i) _ _ hz1.out
 have hb2 := below_setRow hb1.out (Nat.le_refl _) (gcells k true i)
 go_wp2_with fail
 refine bodyPost_ret (results_cell_row rfl _ _ w.heap.size 36 (gcells k true i) (0, 0) _ rfl hz2 Tryz.underlying36 rfl (gsize k i true)) rfl ?_
 exact ⟨rfl, hb2⟩
theorem in_c (n : Int) (u : Bool) (w : World) :
  Calls Tryz.prog 64 #[.int .i64 n, .bool u] w fun e w' => e = .returned (.bool (Tens.fit u n)) ∧ w' = w := by
 unfold Tens.fit
 cases u
 ·rw [if_neg (by decide)]
  by_cases h1 : -128 ≤ n
  ·by_cases h2 : n ≤ 127
   ·rw [decide_eq_true ⟨h1, h2⟩]
    go_enter Tryz.func64, Tryz.ntmps64
    go_wp2_with fail
    go_ret
    exact ⟨rfl, rfl⟩
   ·rw [decide_eq_false (fun h => h2 h.2)]
    go_enter Tryz.func64, Tryz.ntmps64
    go_wp2_with fail
    go_ret
    exact ⟨rfl, rfl⟩
  ·rw [decide_eq_false (fun h => h1 h.1)]
   go_enter Tryz.func64, Tryz.ntmps64
   go_wp2_with fail
   go_ret
   exact ⟨rfl, rfl⟩
 ·rw [if_pos rfl]
  by_cases h1 : -2147483648 ≤ n
  ·by_cases h2 : n ≤ 2147483647
   ·rw [decide_eq_true ⟨h1, h2⟩]
    go_enter Tryz.func64, Tryz.ntmps64
    go_wp2_with fail
    go_ret
    exact ⟨rfl, rfl⟩
   ·rw [decide_eq_false (fun h => h2 h.2)]
    go_enter Tryz.func64, Tryz.ntmps64
    go_wp2_with fail
    go_ret
    exact ⟨rfl, rfl⟩
  ·rw [decide_eq_false (fun h => h1 h.1)]
   go_enter Tryz.func64, Tryz.ntmps64
   go_wp2_with fail
   go_ret
   exact ⟨rfl, rfl⟩
def Tens.fval : Nat × Option Nat → Array Value
 | (k, none) => gcells (k : Int) false 0
 | (k, some i) => gcells (k : Int) true (i : Int)
abbrev RvS (B : Nat) (pa : Addr) (wr : World) (x1 x2 x3 z : Value) (W : World) : Prop :=
 W.cell? ⟨B, 0, none⟩ = some x1 ∧ W.cell? ⟨B, 1, none⟩ = some x2 ∧ W.cell? ⟨B, 2, none⟩ = some x3 ∧ W.cell? pa = some z ∧ Hid (Below wr.heap.size wr W)
set_option maxRecDepth 100000 in
set_option maxHeartbeats 4000000 in
theorem rvalid_c (zs ds : List Int) (P D : Option Addr) (cap dcap : Nat) (u : Bool) (w : World) (hr : Ri w P zs) (hd : Ri w D ds) (hm : zs.length ≤ 1000000) (hdm : ds.length ≤ 1000000) :
  Calls Tryz.prog 37 #[.agg (tcells P zs.length cap u D ds.length dcap)] w fun e w' => e = .returned (.agg (Tens.fval (Tens.fault zs u ds))) ∧ Below w.heap.size w w' := by
 obtain ⟨hb1, hrow, hz0⟩ : Below w.heap.size w ((w.alloc (Obj.cells (tcells P zs.length cap u D ds.length dcap) 26)).alloc (Obj.cells (gcells 0 false 0) 36)) ∧ Has ((w.alloc (Obj.cells (tcells P zs.length cap u D ds.length dcap) 26)).alloc (Obj.cells (gcells 0 false 0) 36)) w.heap.size 26 [.slice P zs.length cap, .bool u, .slice D ds.length dcap] ∧
   Has ((w.alloc (Obj.cells (tcells P zs.length cap u D ds.length dcap) 26)).alloc (Obj.cells (gcells 0 false 0) 36)) (w.heap.size + 1) 36 [.int .i64 0, .bool false, .int .i64 0] := by
  refine ⟨((Below.refl _ w).alloc (Nat.le_refl _) _).alloc (by simp) _, (tens_row w P zs.length cap u D ds.length dcap).alloc _, ?_⟩
  have h := Has.new (w.alloc (Obj.cells (tcells P zs.length cap u D ds.length dcap) 26)) 36 [.int .i64 0, .bool false, .int .i64 0]
  simpa using h
 have HV := hide (refvalid_c zs P cap u _ (hr.below hb1) (by omega))
 have HEl := hide (fun W (hb : Below w.heap.size w W) => refelems_c zs P cap W (hr.below hb) (by omega))
 have HB1 := hide hb1
 have HR := hide hrow
 have HZ := hide hz0
 have HD := hide hd
 clear hr hb1 hrow hd hz0
 obtain ⟨n, hn⟩ : ∃ n, Hid (zs.length = n) := ⟨_, hide rfl⟩
 obtain ⟨m, hm'⟩ : ∃ m, Hid (ds.length = m) := ⟨_, hide rfl⟩
 have F1 := Tens.fault_code zs u ds
 have F2 := Tens.fault_len zs u ds
 have F3 := Tens.fault_at zs u ds
 have F4 := Tens.fault_none zs u ds
 obtain ⟨R, hRR⟩ : ∃ R, Hid (Tens.fault zs u ds = R) := ⟨_, hide rfl⟩
 rw [hRR.out] at F1 F2 F3 F4 ⊢
 rw [hn.out] at HV HEl HB1 HR HZ hm ⊢
 rw [hm'.out] at F2 F3 F4 HV HB1 HR HZ hdm ⊢
 have hk := Shp.code_is zs
 have hEb := Shp.elems_le zs
 obtain ⟨E, hEE⟩ : ∃ E, Hid (Shp.elems zs = E) := ⟨_, hide rfl⟩
 rw [hEE.out] at F2 F3 F4 HEl hEb
 obtain ⟨k, hkk⟩ : ∃ k, Hid (Shp.code zs = k) := ⟨_, hide rfl⟩
 rw [hkk.out] at F1 F2 F3 F4 HV hk
 have HF1 := hide F1
 have HF2 := hide F2
 have HF3 := hide F3
 have HF4 := hide F4
 clear F1 F2 F3 F4
 go_enter Tryz.func37, Tryz.ntmps37
 go_wp2_with fail
 refine HV.out.mono ?_
 rintro e w1 ⟨rfl, hb⟩
 have hF := HB1.out.trans (hb.mono HB1.out.size)
 have hT := HR.out.below hb HR.out.lt
 have hZ := HZ.out.below hb HZ.out.lt
 have HT1 := hide hT
 have HZ1 := hide hZ
 have HB2 := hide hF
 clear hb hF hT hZ HB1 HR HZ HV
 by_cases hk0 : k = 0
 ·subst hk0
  have c0 : w1.cell? ⟨w.heap.size, 0, none⟩ = some (.slice P n cap) := by rw [HT1.out.cell]; rfl
  have c1 : w1.cell? ⟨w.heap.size, 1, none⟩ = some (.bool u) := by rw [HT1.out.cell]; rfl
  have c2 : w1.cell? ⟨w.heap.size, 2, none⟩ = some (.slice D m dcap) := by rw [HT1.out.cell]; rfl
  clear hk
  go_wp2_with fail
  have hS0 : TenS w.heap.size w1 (.slice P n cap) (.bool u) (.slice D m dcap) w1.drew := ⟨c0, c1, c2, hide (Below.refl _ w1).drew⟩
  have HK := hide (fun W (hb : Below w1.heap.size w1 W) => HEl.out W (HB2.out.trans (hb.mono HB2.out.size)))
  clear c0 c1 c2 HEl
  go_region_held3 (fun W => W.cell? ⟨w.heap.size, 0, none⟩ = some (.slice P n cap) ∧ W.cell? ⟨w.heap.size, 1, none⟩ = some (.bool u) ∧ W.cell? ⟨w.heap.size, 2, none⟩ = some (.slice D m dcap) ∧ Hid (Below w1.heap.size w1 W))
   (first | exact hS0 | assumption | exact TenS.keep (by assumption) hb)
   (first
    | (go_at_call 54; refine (HK.out _ (TenS.low (by assumption))).mono ?_; rintro e W2 ⟨rfl, hb⟩))
  obtain ⟨c0, c1, c2, hbe⟩ := ‹TenS w.heap.size w1 (.slice P n cap) (.bool u) (.slice D m dcap) W2›
  have hF2 := HB2.out.trans (hbe.out.mono HB2.out.size)
  have HZ2 := hide (HZ1.out.below hbe.out HZ1.out.lt)
  have HT2 := hide (HT1.out.below hbe.out HT1.out.lt)
  have HD2 := hide (HD.out.below hF2)
  have HFin := hide hF2
  clear hb hbe hF2 HK hS0 HB2 HT1 HZ1 HD
  by_cases hl : (m : Int) = E
  ·have hne : ((m : Int) != E) = false := by simpa using hl
   rw [hne]
   have H3 := hide (HF3.out trivial hl)
   have H4 := hide (HF4.out trivial hl)
   clear HF1 HF2 HF3 HF4 hne hl hEb c0 c1 c2
   go_wp2_with fail
   go_loopw [4] (fun k wr => ∃ i : Nat, i ≤ m ∧ k = .int .i64 i ∧ Hid (Below W2.heap.size W2 wr) ∧ Hid (∀ (j : Nat) (y : Int), j < i → ds[j]? = some y → Tens.fit u y = true)) (fun k _ => m - (intOf k).toNat)
   case atStart => exact ⟨0, by omega, rfl, hide (Below.refl _ _), hide (fun j y hj => by omega)⟩
   case round =>
    obtain ⟨i, hi, rfl, hBr, hI⟩ := hrel
    have hTr := HT2.out.below hBr.out HT2.out.lt
    have c0 : wr.cell? ⟨w.heap.size, 0, none⟩ = some (.slice P n cap) := by rw [hTr.cell]; rfl
    have c1 : wr.cell? ⟨w.heap.size, 1, none⟩ = some (.bool u) := by rw [hTr.cell]; rfl
    have c2 : wr.cell? ⟨w.heap.size, 2, none⟩ = some (.slice D m dcap) := by rw [hTr.cell]; rfl
    clear hTr
    by_cases hlt : i < m
    ·have hDr := HD2.out.below hBr.out
     obtain ⟨ad, z, rfl, ez, cz⟩ := ri_at hDr i (by rw [hm'.out]; exact hlt)
     have him : (i : Int) < m := by omega
     have hw1 : IntKind.i64.wrap ((i : Int) + 1) = (i : Int) + 1 := by rw [IntKind.wrap_i64]; omega
     have HIn := hide (fun W => in_c z u W)
     clear hDr
     have hS0 : RvS w.heap.size (ad.add i) wr (.slice P n cap) (.bool u) (.slice (some ad) m dcap) (.int .i64 z) wr.drew := ⟨c0, c1, c2, cz, hide (Below.refl _ wr).drew⟩
     cases hf : Tens.fit u z
     ·rw [hf] at HIn
      have hR := H3.out i z ez.out hf hI.out
      clear hI H3 H4 hf hRR
      subst hR
      go_wp2_with fail
      go_region_held3 (fun W => W.cell? ⟨w.heap.size, 0, none⟩ = some (.slice P n cap) ∧ W.cell? ⟨w.heap.size, 1, none⟩ = some (.bool u) ∧ W.cell? ⟨w.heap.size, 2, none⟩ = some (.slice (some ad) m dcap) ∧ W.cell? (ad.add i) = some (.int .i64 z) ∧ Hid (Below wr.heap.size wr W))
       (first | exact hS0 | assumption)
       (first
        | (go_at_call 64; refine (HIn.out _).mono ?_; rintro e W3 ⟨rfl, rfl⟩))
      go_wp2_with fail
      refine (placed_c 102 (i : Int) (by decide) _).mono ?_
      rintro e w5 ⟨rfl, hb⟩
      have hlt2 : w.heap.size + 1 < wr.drew.heap.size := Nat.lt_of_lt_of_le HZ2.out.lt hBr.out.size
      have hz5 := ((HZ2.out.below hBr.out HZ2.out.lt).drewN 1).below hb hlt2
      have hb4 := (HFin.out.trans (hBr.out.mono HFin.out.size)).drew
      have hb5 := hb4.trans (hb.mono hb4.size)
      have d0 : w5.cell? ⟨w.heap.size + 1, 0, none⟩ = some (.int .i64 0) := by rw [hz5.cell]; rfl
      have d1 : w5.cell? ⟨w.heap.size + 1, 1, none⟩ = some (.bool false) := by rw [hz5.cell]; rfl
      have d2 : w5.cell? ⟨w.heap.size + 1, 2, none⟩ = some (.int .i64 0) := by rw [hz5.cell]; rfl
      have f0 := hz5.frozen 0
      have f1 := hz5.frozen 1
      have f2 := hz5.frozen 2
      have HZ' := hide (((hz5.set_ 0 (.int .i64 102)).set_ 1 (.bool true)).set_ 2 (.int .i64 (i : Int)))
      have HF' := hide (((hb5.setCell (p := ⟨w.heap.size + 1, 0, none⟩) (Nat.le_succ _) (.int .i64 102)).setCell (p := ⟨w.heap.size + 1, 1, none⟩) (Nat.le_succ _) (.bool true)).setCell (p := ⟨w.heap.size + 1, 2, none⟩) (Nat.le_succ _) (.int .i64 (i : Int)))
      clear hz5 hb5 hb hb4 hlt2 c0 c1 c2 hS0
      go_wp2_with fail
      refine bodyPost_ret (results_cell_row rfl _ _ (w.heap.size + 1) 36 (gcells 102 true (i : Int)) (0, 0) _ rfl HZ'.out Tryz.underlying36 rfl (gsize _ _ _)) rfl ?_
      exact ⟨rfl, HF'.out⟩
     ·rw [hf] at HIn
      have hI2 : Hid (∀ (j : Nat) (y : Int), j < i + 1 → ds[j]? = some y → Tens.fit u y = true) := hide fun j y hj hy => by
       rcases Nat.lt_or_ge j i with h | h
       ·exact hI.out j y h hy
       ·obtain rfl : j = i := by omega
        rw [ez.out] at hy
        cases hy
        exact hf
      clear hI hf
      go_wp2_with fail
      go_region_held3 (fun W => W.cell? ⟨w.heap.size, 0, none⟩ = some (.slice P n cap) ∧ W.cell? ⟨w.heap.size, 1, none⟩ = some (.bool u) ∧ W.cell? ⟨w.heap.size, 2, none⟩ = some (.slice (some ad) m dcap) ∧ W.cell? (ad.add i) = some (.int .i64 z) ∧ Hid (Below wr.heap.size wr W))
       (first | exact hS0 | assumption)
       (first
        | (go_at_call 64; refine (HIn.out _).mono ?_; rintro e W3 ⟨rfl, rfl⟩))
      have HBd := hide hBr.out.drew
      clear c0 c1 c2 hS0 hBr
      go_wp2_with fail
      go_roundw
      case rel => exact ⟨i + 1, by omega, by go_num, HBd, hI2⟩
      case measure => simp [intOf]; omega
    ·obtain rfl : i = m := by omega
     have hR := H4.out fun j y hy => hI.out j y (by rw [← hm'.out]; exact (List.getElem?_eq_some_iff.1 hy).1) hy
     clear hI H3 H4 hRR
     subst hR
     go_wp2_with fail
     refine (none_c wr).mono ?_
     rintro e w5 ⟨rfl, hb⟩
     have hz5 := (HZ2.out.below hBr.out HZ2.out.lt).below hb (Nat.lt_of_lt_of_le HZ2.out.lt hBr.out.size)
     have hb5 := (HFin.out.trans (hBr.out.mono HFin.out.size)).trans (hb.mono (HFin.out.trans (hBr.out.mono HFin.out.size)).size)
     have d0 : w5.cell? ⟨w.heap.size + 1, 0, none⟩ = some (.int .i64 0) := by rw [hz5.cell]; rfl
     have d1 : w5.cell? ⟨w.heap.size + 1, 1, none⟩ = some (.bool false) := by rw [hz5.cell]; rfl
     have d2 : w5.cell? ⟨w.heap.size + 1, 2, none⟩ = some (.int .i64 0) := by rw [hz5.cell]; rfl
     have f0 := hz5.frozen 0
     have f1 := hz5.frozen 1
     have f2 := hz5.frozen 2
     have HZ' := hide (((hz5.set_ 0 (.int .i64 0)).set_ 1 (.bool false)).set_ 2 (.int .i64 0))
     have HF' := hide (((hb5.setCell (p := ⟨w.heap.size + 1, 0, none⟩) (Nat.le_succ _) (.int .i64 0)).setCell (p := ⟨w.heap.size + 1, 1, none⟩) (Nat.le_succ _) (.bool false)).setCell (p := ⟨w.heap.size + 1, 2, none⟩) (Nat.le_succ _) (.int .i64 0))
     clear hz5 hb5 hb c0 c1 c2
     go_wp2_with fail
     refine bodyPost_ret (results_cell_row rfl _ _ (w.heap.size + 1) 36 (gcells 0 false 0) (0, 0) _ rfl HZ'.out Tryz.underlying36 rfl (gsize _ _ _)) rfl ?_
     exact ⟨rfl, HF'.out⟩
  ·have hne : ((m : Int) != E) = true := by simpa using hl
   rw [hne]
   have hR := HF2.out trivial hl
   clear HF1 HF2 HF3 HF4 hne hl hRR
   subst hR
   go_wp2_with fail
   refine (bare_c 101 W2).mono ?_
   rintro e w5 ⟨rfl, hb⟩
   have hz5 := HZ2.out.below hb HZ2.out.lt
   have hb5 := HFin.out.trans (hb.mono HFin.out.size)
   have d0 : w5.cell? ⟨w.heap.size + 1, 0, none⟩ = some (.int .i64 0) := by rw [hz5.cell]; rfl
   have d1 : w5.cell? ⟨w.heap.size + 1, 1, none⟩ = some (.bool false) := by rw [hz5.cell]; rfl
   have d2 : w5.cell? ⟨w.heap.size + 1, 2, none⟩ = some (.int .i64 0) := by rw [hz5.cell]; rfl
   have f0 := hz5.frozen 0
   have f1 := hz5.frozen 1
   have f2 := hz5.frozen 2
   have HZ' := hide (((hz5.set_ 0 (.int .i64 101)).set_ 1 (.bool false)).set_ 2 (.int .i64 0))
   have HF' := hide (((hb5.setCell (p := ⟨w.heap.size + 1, 0, none⟩) (Nat.le_succ _) (.int .i64 101)).setCell (p := ⟨w.heap.size + 1, 1, none⟩) (Nat.le_succ _) (.bool false)).setCell (p := ⟨w.heap.size + 1, 2, none⟩) (Nat.le_succ _) (.int .i64 0))
   clear hz5 hb5 hb c0 c1 c2
   go_wp2_with fail
   refine bodyPost_ret (results_cell_row rfl _ _ (w.heap.size + 1) 36 (gcells 101 false 0) (0, 0) _ rfl HZ'.out Tryz.underlying36 rfl (gsize _ _ _)) rfl ?_
   exact ⟨rfl, HF'.out⟩
 ·have hR := HF1.out hk0
  have hkn : ((k : Int) != 0) = true := by simpa using hk0
  have hkn2 : (k : Int) ≠ 0 := by omega
  clear HF1 HF2 HF3 HF4 hRR hk
  subst hR
  go_wp2_with fail
  refine (bare_c (k : Int) w1).mono ?_
  rintro e w5 ⟨rfl, hb⟩
  have hz5 := HZ1.out.below hb HZ1.out.lt
  have hb5 := HB2.out.trans (hb.mono HB2.out.size)
  have d0 : w5.cell? ⟨w.heap.size + 1, 0, none⟩ = some (.int .i64 0) := by rw [hz5.cell]; rfl
  have d1 : w5.cell? ⟨w.heap.size + 1, 1, none⟩ = some (.bool false) := by rw [hz5.cell]; rfl
  have d2 : w5.cell? ⟨w.heap.size + 1, 2, none⟩ = some (.int .i64 0) := by rw [hz5.cell]; rfl
  have f0 := hz5.frozen 0
  have f1 := hz5.frozen 1
  have f2 := hz5.frozen 2
  have HZ' := hide (((hz5.set_ 0 (.int .i64 (k : Int))).set_ 1 (.bool false)).set_ 2 (.int .i64 0))
  have HF' := hide (((hb5.setCell (p := ⟨w.heap.size + 1, 0, none⟩) (Nat.le_succ _) (.int .i64 (k : Int))).setCell (p := ⟨w.heap.size + 1, 1, none⟩) (Nat.le_succ _) (.bool false)).setCell (p := ⟨w.heap.size + 1, 2, none⟩) (Nat.le_succ _) (.int .i64 0))
  clear hz5 hb5 hb
  go_wp2_with fail
  refine bodyPost_ret (results_cell_row rfl _ _ (w.heap.size + 1) 36 (gcells (k : Int) false 0) (0, 0) _ rfl HZ'.out Tryz.underlying36 rfl (gsize _ _ _)) rfl ?_
  exact ⟨rfl, HF'.out⟩
set_option maxRecDepth 100000 in
set_option maxHeartbeats 4000000 in
theorem good_c (zs ds : List Int) (P D : Option Addr) (cap dcap : Nat) (u : Bool) (w : World) (hr : Ri w P zs) (hd : Ri w D ds) (hm : zs.length ≤ 1000000) (hdm : ds.length ≤ 1000000) :
  Calls Tryz.prog 53 #[.agg (tcells P zs.length cap u D ds.length dcap)] w fun e w' => e = .returned (.bool (decide (Tens.fault zs u ds = (0, none)))) ∧ Below w.heap.size w w' := by
 have hb1 := (Below.refl _ w).alloc (Nat.le_refl _) (Obj.cells (tcells P zs.length cap u D ds.length dcap) 26)
 have hrow := tens_row w P zs.length cap u D ds.length dcap
 have HV := hide (rvalid_c zs ds P D cap dcap u _ (hr.below hb1) (hd.below hb1) hm hdm)
 have hcs := tfault_cases zs u ds
 have hex : ∃ (k : Nat) (b : Bool) (i : Int), Tens.fval (Tens.fault zs u ds) = #[.int .i64 (k : Int), .bool b, .int .i64 i] ∧ decide (Tens.fault zs u ds = (0, none)) = decide (k = 0) := by
  rcases hcs with h | h | h | h | ⟨i, h⟩ <;> rw [h]
  ·exact ⟨0, false, 0, rfl, by decide⟩
  ·exact ⟨101, false, 0, rfl, by decide⟩
  ·exact ⟨102, false, 0, rfl, by decide⟩
  ·exact ⟨104, false, 0, rfl, by decide⟩
  ·exact ⟨102, true, i, rfl, by simp⟩
 obtain ⟨k, b, i, h1, h2⟩ := hex
 rw [h1] at HV
 rw [h2]
 obtain ⟨n, hn⟩ : ∃ n, Hid (zs.length = n) := ⟨_, hide rfl⟩
 obtain ⟨m, hmm⟩ : ∃ m, Hid (ds.length = m) := ⟨_, hide rfl⟩
 rw [hn.out, hmm.out] at HV hb1 hrow ⊢
 have c0 : (w.alloc (Obj.cells (tcells P n cap u D m dcap) 26)).cell? ⟨w.heap.size, 0, none⟩ = some (.slice P n cap) := by rw [hrow.cell]; rfl
 have c1 : (w.alloc (Obj.cells (tcells P n cap u D m dcap) 26)).cell? ⟨w.heap.size, 1, none⟩ = some (.bool u) := by rw [hrow.cell]; rfl
 have c2 : (w.alloc (Obj.cells (tcells P n cap u D m dcap) 26)).cell? ⟨w.heap.size, 2, none⟩ = some (.slice D m dcap) := by rw [hrow.cell]; rfl
 have HB := hide hb1
 have hk : ((k : Int) == 0) = decide (k = 0) := by
  rw [show ((k : Int) == 0) = decide ((k : Int) = 0) from rfl]
  exact decide_eq_decide.2 (by omega)
 have hfd : ∀ W : World, (Instr.field 36 (.agg #[.int .i64 (k : Int), .bool b, .int .i64 i]) 0).run Tryz.prog W = .ok (.int .i64 (k : Int)) W := fun _ => by kernel_rfl
 clear hr hd hb1 hrow hcs h1 h2 hm hdm hn hmm
 go_enter Tryz.func53, Tryz.ntmps53
 go_wp2_with fail
 refine HV.out.mono ?_
 rintro e w1 ⟨rfl, hb⟩
 have HB2 := hide (HB.out.trans (hb.mono HB.out.size))
 clear hb HB
 go_wp2_with fail
 go_ret
 exact ⟨by first | rfl | (rw [← hk]; rfl) | simp, HB2.out⟩
end Go.Proofs.YtgdcfjmpjhlndaaGreatDoor
