/-
  Bytes read as a scale. By an AI agent. No person has read it.
-/
import Derived.Test.YtboighnmgnjhdaaDoorQvG
import Derived.Test.YtboighnmgnjhdaaDoorFltBy
namespace Go.Proofs.YtboighnmgnjhdaaDoor
open Go.RowKit
open Ieee

theorem Rb.qtake {w : World} {A : Option Addr} {bs : List Nat} (h : Rb w A bs) (k : Nat) : Rb w A (bs.take k) := by
  refine ⟨fun b hb => h.1 b (List.take_subset k bs hb), fun hn => ?_⟩
  obtain ⟨ad, e, h1, h2⟩ := h.2 (fun h0 => hn (by rw [h0]; exact List.take_nil))
  refine ⟨ad, e, h1, fun i b hi => h2 i b ?_⟩
  rw [List.getElem?_take] at hi
  split at hi
  · exact hi
  · cases hi
theorem qhead_run (A : Option Addr) (len cap : Nat) (h : 8 ≤ cap) (W : World) : (Instr.slice 53 (.slice A len cap) none (some (.int .i64 8)) none).run Tryd.prog W = .ok (.slice A 8 cap) W := by
  have hu : Tryd.prog.underlying 53 = some (.slice (Tryd.prog.elem 53)) := by kernel_rfl
  have hz : ∀ W : World, (sizeOf (Tryd.prog.elem 53)).run Tryd.prog W = .ok 1 W := fun _ => by kernel_rfl
  rw [run_slice_h W _ _ _ _ hu _ _ (by omega) (by omega), hz]
  simp only [Result.andThen, sliced]
  cases A <;> simp [Addr.add]
/-- The word and the zero that nine bytes tell. -/
def Qua.rby (bs : List Nat) : Nat := Flt.le (bs.take 8)
def Qua.rz (bs : List Nat) : Int := (bs.getD 8 0 : Nat) - 128
theorem rby_lt (bs : List Nat) (h : ∀ b ∈ bs, b < 256) (hl : bs.length = 9) : Qua.rby bs < 18446744073709551616 := by
  have := Flt.le_lt (bs.take 8) (fun b hb => h b (List.take_subset 8 bs hb))
  rw [List.length_take, hl] at this
  exact this
set_option maxRecDepth 100000 in
set_option maxHeartbeats 4000000 in
theorem sread_nine (bs : List Nat) (A : Option Addr) (cap : Nat) (hcap : 9 ≤ cap) (hcap2 : cap ≤ 9223372036854775807) (ar : Addr) (w : World) (hr : Rb w A bs) (hl : bs.length = 9) (hE : ErrIs w 1 ar) :
    Calls Tryd.prog 39 #[.slice A 9 cap] w fun e w' => ((Qua.good (Qua.rby bs) (Qua.rz bs) = true → e = .returned (.tuple #[.agg #[.float .f64 (Qua.rby bs), .int .i64 (Qua.rz bs)], .nilIface])) ∧ (Qua.good (Qua.rby bs) (Qua.rz bs) = false → e = .returned (.tuple #[.agg #[.float .f64 0, .int .i64 0], errv ar]))) ∧ Below w.heap.size w w' := by
  have hz1 := Has.new w 33 [.float .f64 0, .int .i64 0]
  have hB1 := (Below.refl w.heap.size w).alloc (Nat.le_refl _) (.cells #[.float .f64 0, .int .i64 0] 33)
  have hr1 := hr.below hB1
  have hE1 := hE.below hB1
  obtain ⟨ad, c, rfl, hc8, hc, cx⟩ := rb_at hr1 8 (by omega)
  have hgd : bs.getD 8 0 = c := by rw [List.getD_eq_getElem?_getD, hc8.out]; rfl
  have hrd := hide (read8_c (bs.take 8) (some ad) cap (w.alloc (.cells #[.float .f64 0, .int .i64 0] 33)) (hr1.qtake 8) (by rw [List.length_take, hl]; rfl))
  have hbl := rby_lt bs hr.1 hl
  obtain ⟨b, hbq⟩ : ∃ b, Hid (Flt.le (bs.take 8) = b) := ⟨_, hide rfl⟩
  have hbq2 : Hid (Qua.rby bs = b) := hbq
  obtain ⟨z, hzq⟩ : ∃ z : Int, Hid ((c : Int) - 128 = z) := ⟨_, hide rfl⟩
  have hzq2 : Hid (Qua.rz bs = z) := by unfold Qua.rz; rw [hgd]; exact hzq
  have s1 : IntKind.i64.wrap ((c : Int) + -128) = z := by rw [iwrap_small _ (by omega) (by omega)]; have := hzq.out; omega
  have s2 : IntKind.i64.wrap (c : Int) = (c : Int) := iwrap_small _ (by omega) (by omega)
  rw [hbq.out] at hrd
  rw [hbq2.out] at hbl
  rw [hbq2.out, hzq2.out]
  have hhd := qhead_run (some ad) 9 cap (by omega)
  have cx' : (w.alloc (.cells #[.float .f64 0, .int .i64 0] 33)).cell? ⟨ad.block, ad.off + 8, none⟩ = some (.int .u8 c) := cx
  have q1 : (8 : Int) ≤ (cap : Int) := by omega
  have HZ := hide hz1
  have HB := hide hB1
  have HE := hide hE1
  clear hz1 hB1 hr1 hE1 hr hE hgd hc8 hbq hbq2 hzq hzq2
  cases hg : Qua.good b z
  · have HN := hide (new_bad b hbl z hg ar _ HE.out)
    have hsf := store_f 0
    clear hg
    go_enter Tryd.func39, Tryd.ntmps39
    go_wp2_with fail
    refine hrd.out.mono ?_
    rintro e w1 ⟨rfl, rfl⟩
    go_wp2_with fail
    refine HN.out.mono ?_
    rintro e w6 ⟨rfl, hb⟩
    have hz := HZ.out.below hb HZ.out.lt
    have d0 : w6.cell? ⟨w.heap.size, 0, none⟩ = some (.float .f64 0) := hz.cell 0
    have d1 : w6.cell? ⟨w.heap.size, 1, none⟩ = some (.int .i64 0) := hz.cell 1
    have f0 := hz.frozen 0
    have f1 := hz.frozen 1
    have HZ' := hide ((hz.set_ 0 (.float .f64 0)).set_ 1 (.int .i64 0))
    have HB' := hide (((HB.out.trans (hb.mono HB.out.size)).setCell (p := ⟨w.heap.size, 0, none⟩) (Nat.le_refl _) (.float .f64 0)).setCell (p := ⟨w.heap.size, 1, none⟩) (Nat.le_refl _) (.int .i64 0))
    clear hz hb
    go_wp2_with fail
    refine bodyPost_ret (results_scale rfl _ _ w.heap.size _ _ rfl HZ'.out) rfl ?_
    exact ⟨⟨fun h => (by cases h), fun _ => rfl⟩, HB'.out⟩
  · have HN := hide (new_good b hbl z hg (w.alloc (.cells #[.float .f64 0, .int .i64 0] 33)))
    have hsf := store_f b
    clear hg
    go_enter Tryd.func39, Tryd.ntmps39
    go_wp2_with fail
    refine hrd.out.mono ?_
    rintro e w1 ⟨rfl, rfl⟩
    go_wp2_with fail
    refine HN.out.mono ?_
    rintro e w6 ⟨rfl, hb⟩
    have hz := HZ.out.below hb HZ.out.lt
    have d0 : w6.cell? ⟨w.heap.size, 0, none⟩ = some (.float .f64 0) := hz.cell 0
    have d1 : w6.cell? ⟨w.heap.size, 1, none⟩ = some (.int .i64 0) := hz.cell 1
    have f0 := hz.frozen 0
    have f1 := hz.frozen 1
    have HZ' := hide ((hz.set_ 0 (.float .f64 b)).set_ 1 (.int .i64 z))
    have HB' := hide (((HB.out.trans (hb.mono HB.out.size)).setCell (p := ⟨w.heap.size, 0, none⟩) (Nat.le_refl _) (.float .f64 b)).setCell (p := ⟨w.heap.size, 1, none⟩) (Nat.le_refl _) (.int .i64 z))
    clear hz hb
    go_wp2_with fail
    refine bodyPost_ret (results_scale rfl _ _ w.heap.size _ _ rfl HZ'.out) rfl ?_
    exact ⟨⟨fun _ => rfl, fun h => (by cases h)⟩, HB'.out⟩
set_option maxRecDepth 100000 in
set_option maxHeartbeats 4000000 in
theorem sread_end (A : Option Addr) (n cap : Nat) (hn : n < 9) (ar : Addr) (w : World) (hE : ErrIs w 2 ar) :
    Calls Tryd.prog 39 #[.slice A n cap] w fun e w' => e = .returned (.tuple #[.agg #[.float .f64 0, .int .i64 0], errv ar]) ∧ Below w.heap.size w w' := by
  have hz1 := Has.new w 33 [.float .f64 0, .int .i64 0]
  have hB1 := (Below.refl w.heap.size w).alloc (Nat.le_refl _) (.cells #[.float .f64 0, .int .i64 0] 33)
  obtain ⟨hE1, hE2, -, -⟩ := hE
  generalize hw1 : w.alloc (.cells #[.float .f64 0, .int .i64 0] 33) = w1 at hz1 hB1
  have d0 : w1.cell? ⟨w.heap.size, 0, none⟩ = some (.float .f64 0) := by rw [hz1.cell]; rfl
  have d1 : w1.cell? ⟨w.heap.size, 1, none⟩ = some (.int .i64 0) := by rw [hz1.cell]; rfl
  have f0 := hz1.frozen 0
  have f1 := hz1.frozen 1
  have HZ' := hide ((hz1.set_ 0 (.float .f64 0)).set_ 1 (.int .i64 0))
  have HB := hide ((hB1.setCell (p := ⟨w.heap.size, 0, none⟩) (Nat.le_refl _) (.float .f64 0)).setCell (p := ⟨w.heap.size, 1, none⟩) (Nat.le_refl _) (.int .i64 0))
  have hs5 : w1.drew.cell? ⟨2, 0, none⟩ = some (errv ar) := (hB1.drew.cell (p := ⟨2, 0, none⟩) hE2).trans hE1
  have hs6 : ((w1.drew.setCell ⟨w.heap.size, 0, none⟩ (.float .f64 0)).setCell ⟨w.heap.size, 1, none⟩ (.int .i64 0)).cell? ⟨2, 0, none⟩ = some (errv ar) := (((hB1.drew.setCell (p := ⟨w.heap.size, 0, none⟩) (Nat.le_refl _) (.float .f64 0)).setCell (p := ⟨w.heap.size, 1, none⟩) (Nat.le_refl _) (.int .i64 0)).cell (p := ⟨2, 0, none⟩) hE2).trans hE1
  have q1 : (n : Int) < (9 : Int) := by omega
  have q2 : True := trivial
  have hsf := store_f 0
  have HW1 := hide hw1
  clear hz1 hB1 hE1 hE2 hw1
  go_enter Tryd.func39, Tryd.ntmps39
  go_wp2_with fail
  rw [HW1.out]
  go_region_held3 (fun W => W.cell? ⟨2, 0, none⟩ = some (errv ar))
    (first | exact hs5 | assumption | exact hs6)
    (first | fail)
  go_wp2_with fail
  refine bodyPost_ret (results_scale rfl _ _ w.heap.size _ _ rfl HZ'.out) rfl ?_
  exact ⟨rfl, HB.out.drew⟩
set_option maxRecDepth 100000 in
set_option maxHeartbeats 4000000 in
theorem sread_many (A : Option Addr) (n cap : Nat) (hn : 9 < n) (hn2 : n ≤ 9223372036854775807) (ar : Addr) (w : World) (hE : ErrIs w 3 ar) :
    Calls Tryd.prog 39 #[.slice A n cap] w fun e w' => e = .returned (.tuple #[.agg #[.float .f64 0, .int .i64 0], errv ar]) ∧ Below w.heap.size w w' := by
  have hz1 := Has.new w 33 [.float .f64 0, .int .i64 0]
  have hB1 := (Below.refl w.heap.size w).alloc (Nat.le_refl _) (.cells #[.float .f64 0, .int .i64 0] 33)
  obtain ⟨hE1, hE2, -, -⟩ := hE
  generalize hw1 : w.alloc (.cells #[.float .f64 0, .int .i64 0] 33) = w1 at hz1 hB1
  have d0 : w1.cell? ⟨w.heap.size, 0, none⟩ = some (.float .f64 0) := by rw [hz1.cell]; rfl
  have d1 : w1.cell? ⟨w.heap.size, 1, none⟩ = some (.int .i64 0) := by rw [hz1.cell]; rfl
  have f0 := hz1.frozen 0
  have f1 := hz1.frozen 1
  have HZ' := hide ((hz1.set_ 0 (.float .f64 0)).set_ 1 (.int .i64 0))
  have HB := hide ((hB1.setCell (p := ⟨w.heap.size, 0, none⟩) (Nat.le_refl _) (.float .f64 0)).setCell (p := ⟨w.heap.size, 1, none⟩) (Nat.le_refl _) (.int .i64 0))
  have hs5 : w1.drew.cell? ⟨3, 0, none⟩ = some (errv ar) := (hB1.drew.cell (p := ⟨3, 0, none⟩) hE2).trans hE1
  have hs6 : ((w1.drew.setCell ⟨w.heap.size, 0, none⟩ (.float .f64 0)).setCell ⟨w.heap.size, 1, none⟩ (.int .i64 0)).cell? ⟨3, 0, none⟩ = some (errv ar) := (((hB1.drew.setCell (p := ⟨w.heap.size, 0, none⟩) (Nat.le_refl _) (.float .f64 0)).setCell (p := ⟨w.heap.size, 1, none⟩) (Nat.le_refl _) (.int .i64 0)).cell (p := ⟨3, 0, none⟩) hE2).trans hE1
  have q1 : (9 : Int) < (n : Int) := by omega
  have q2 : ¬ (n : Int) < 9 := by omega
  have hsf := store_f 0
  have HW1 := hide hw1
  clear hz1 hB1 hE1 hE2 hw1
  go_enter Tryd.func39, Tryd.ntmps39
  go_wp2_with fail
  rw [HW1.out]
  go_region_held3 (fun W => W.cell? ⟨3, 0, none⟩ = some (errv ar))
    (first | exact hs5 | assumption | exact hs6)
    (first | fail)
  go_wp2_with fail
  refine bodyPost_ret (results_scale rfl _ _ w.heap.size _ _ rfl HZ'.out) rfl ?_
  exact ⟨rfl, HB.out.drew⟩
end Go.Proofs.YtboighnmgnjhdaaDoor
