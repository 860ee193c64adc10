/-
  The law QuantEdges of package lodgelaw4. By an AI agent. No person has read it.
-/
import Derived.Test.YtboighnmgnjhdaaDoorQuaV
import Derived.Test.YtboighnmgnjhdaaDoorQuaP
import Derived.Test.YtboighnmgnjhdaaDoorErrD
import Derived.LoopN
namespace Go.Proofs.YtboighnmgnjhdaaDoor
open Go.RowKit
open Ieee
theorem bad_new (b : Nat) (hb : b < 18446744073709551616) (hp : Qua.pos b = false) (z : Int) (ar : Addr) (w : World) (hE : ErrIs w 1 ar) :
    Calls Tryd.prog 23 #[.float .f64 b, .int .i64 z] w fun e w' => e = .returned (.tuple #[.agg #[.float .f64 0, .int .i64 0], errv ar]) ∧ Below w.heap.size w w' :=
  new_bad b hb z (by unfold Qua.good; rw [hp]; rfl) ar w hE
set_option maxRecDepth 100000 in
set_option maxHeartbeats 8000000 in
theorem edgeslaw_c (n : Int) (x : Nat) (es : List Addr) (w : World) (hE : Ez w es) :
    Calls Tryd.prog 9 #[.int .i64 n, .float .f64 x] w fun e w' => e = .returned (.bool true) ∧ Below w.heap.size w w' := by
  have HF := hide qfirst_c
  have HNum := hide (number_c n 256 (by decide) (by decide) 256 rfl)
  obtain ⟨ar, har⟩ : ∃ ar, es[1]? = some ar := by
    have := hE.1
    exact ⟨es[1], List.getElem?_eq_getElem (by omega)⟩
  have HR : Hid (∀ W, Ez W es → ErrIs W 1 ar) := hide (fun W h => h.2.2 1 _ ar rfl har)
  have HI := hide (fun W h => is_c es 1 ar har 102 W h)
  have HE0 := hide hE
  have M0 := hide mathnan_c
  have M1 := hide mathinf_p
  have M2 := hide mathinf_m
  have M3 := hide copysign_zero
  have hsf := store_f
  have HN0 := hide (bad_new 9221120237041090561 (by decide) (by decide))
  have HX0 := hide (fun W => qfixed_out 9221120237041090561 (by decide) (by decide) ar W)
  have HN1 := hide (bad_new 9218868437227405312 (by decide) (by decide))
  have HX1 := hide (fun W => qfixed_out 9218868437227405312 (by decide) (by decide) ar W)
  have HN2 := hide (bad_new 18442240474082181120 (by decide) (by decide))
  have HX2 := hide (fun W => qfixed_out 18442240474082181120 (by decide) (by decide) ar W)
  have HN3 := hide (bad_new 0 (by decide) (by decide))
  have HX3 := hide (fun W => qfixed_out 0 (by decide) (by decide) ar W)
  have HN4 := hide (bad_new 9223372036854775808 (by decide) (by decide))
  have HX4 := hide (fun W => qfixed_out 9223372036854775808 (by decide) (by decide) ar W)
  have HN5 := hide (bad_new 13830554455654793216 (by decide) (by decide))
  have HX5 := hide (fun W => qfixed_out 13830554455654793216 (by decide) (by decide) ar W)
  have L1 := hide ldexp_down
  have L2 := hide ldexp_up
  have U1 := hide next_up
  have U2 := hide next_down
  have X1 := hide (qfixed_in 4472074429978902528 (by decide) (by decide))
  rw [show Qua.fx 4472074429978902528 = (1073741824, 60) by decide +kernel] at X1
  have X2 := hide (qfixed_in 4742290407621132288 (by decide) (by decide))
  rw [show Qua.fx 4742290407621132288 = (1073741824, 0) by decide +kernel] at X2
  have X3 := hide (fun W => qfixed_out 4742290407621132289 (by decide) (by decide) ar W)
  have X4 := hide (fun W => qfixed_out 4472074429978902527 (by decide) (by decide) ar W)
  clear hE har
  go_enter Tryd.func9, Tryd.ntmps9
  go_wp2_with fail
  refine (HF.out _).mono ?_
  rintro e w1 ⟨rfl, rfl⟩
  go_wp2_with fail
  refine (HNum.out _).mono ?_
  rintro e w1 ⟨⟨k, hk, rfl⟩, rfl⟩
  obtain ⟨z, hz⟩ : ∃ z : Int, Hid ((k : Int) - 128 = z) := ⟨_, hide rfl⟩
  have hzz : -128 ≤ z ∧ z ≤ 127 := by have := hz.out; omega
  have sz : IntKind.i64.wrap ((k : Int) - 128) = z := by rw [hz.out]; exact iwrap_small _ (by omega) (by omega)
  have HG := hide (new_good 1 (by decide) z (by unfold Qua.good; rw [show Qua.pos 1 = true by decide]; simp; omega))
  have HO := hide (of_c 1 x z hzz)
  have hf : -128 ≤ Qua.of 1 z x ∧ Qua.of 1 z x ≤ 127 := clamp_in _ _ _ (by decide)
  obtain ⟨F, hF⟩ : ∃ F, Hid (Qua.of 1 z x = F) := ⟨_, hide rfl⟩
  rw [hF.out] at HO hf
  have hF1 : (-128 : Int) ≤ F := hf.1
  have hF2 : F ≤ (127 : Int) := hf.2
  clear hF hf hz hzz HF HNum
  go_wp2_with fail
  refine (M0.out _).mono ?_
  rintro e w1 ⟨rfl, rfl⟩
  go_wp2_with fail
  refine (M1.out _).mono ?_
  rintro e w1 ⟨rfl, rfl⟩
  go_wp2_with fail
  refine (M2.out _).mono ?_
  rintro e w1 ⟨rfl, rfl⟩
  go_wp2_with fail
  refine (M3.out _).mono ?_
  rintro e w1 ⟨rfl, rfl⟩
  have HL := hide ((Has.new w 27 [.float .f64 9221120237041090561, .float .f64 9218868437227405312, .float .f64 18442240474082181120, .float .f64 0, .float .f64 9223372036854775808, .float .f64 13830554455654793216]).drewN 1)
  have HE := hide (HE0.out.below (((Below.refl w.heap.size w).alloc (Nat.le_refl _) (.cells #[.float .f64 9221120237041090561, .float .f64 9218868437227405312, .float .f64 18442240474082181120, .float .f64 0, .float .f64 9223372036854775808, .float .f64 13830554455654793216] 27)).drew))
  have HB : Hid (Below w.heap.size w (w.alloc (.cells #[.float .f64 9221120237041090561, .float .f64 9218868437227405312, .float .f64 18442240474082181120, .float .f64 0, .float .f64 9223372036854775808, .float .f64 13830554455654793216] 27)).drew) := hide (((Below.refl w.heap.size w).alloc (Nat.le_refl _) _).drew)
  have hg0 : Hid (w.heap.size < (w.alloc (.cells #[.float .f64 9221120237041090561, .float .f64 9218868437227405312, .float .f64 18442240474082181120, .float .f64 0, .float .f64 9223372036854775808, .float .f64 13830554455654793216] 27)).drew.heap.size) := hide HL.out.lt
  clear HE0 M0 M1 M2 M3
  go_wp2_with fail
  have HL : Hid (Has (w.alloc (.cells #[.float .f64 9221120237041090561, .float .f64 9218868437227405312, .float .f64 18442240474082181120, .float .f64 0, .float .f64 9223372036854775808, .float .f64 13830554455654793216] 27)).drew w.heap.size 27 [.float .f64 9221120237041090561, .float .f64 9218868437227405312, .float .f64 18442240474082181120, .float .f64 0, .float .f64 9223372036854775808, .float .f64 13830554455654793216]) := HL
  generalize (w.alloc (.cells #[.float .f64 9221120237041090561, .float .f64 9218868437227405312, .float .f64 18442240474082181120, .float .f64 0, .float .f64 9223372036854775808, .float .f64 13830554455654793216] 27)).drew = V0 at *
  refine wp_loop_rounds 7 ?_
  rw [rounds_succ]
  have c0 : V0.cell? ⟨w.heap.size, 0, none⟩ = some (.float .f64 9221120237041090561) := HL.out.cell 0
  have HY := hide (HN0.out z ar V0 (HR.out V0 HE.out))
  go_wp2_with fail
  refine HY.out.mono ?_
  rintro e w1 ⟨rfl, hb⟩
  have hl := (HL.out.below hb hg0.out).alloc (.cells #[.float .f64 0, .int .i64 0] 33)
  have hb' := hb.alloc hb.size (.cells #[.float .f64 0, .int .i64 0] 33)
  have he := HE.out.below hb'
  have hB := HB.out.trans (hb'.mono HB.out.size)
  have hlt := hb'.size
  have c1 : (w1.alloc (.cells #[.float .f64 0, .int .i64 0] 33)).cell? ⟨w.heap.size, 0, none⟩ = some (.float .f64 9221120237041090561) := hl.cell 0
  have HY := hide (HX0.out (w1.alloc (.cells #[.float .f64 0, .int .i64 0] 33)) (HR.out _ he))
  have HL' := hide hl
  have HE' := hide he
  have HB' := hide hB
  have hg1 : Hid (w.heap.size < (w1.alloc (.cells #[.float .f64 0, .int .i64 0] 33)).heap.size) := hide hl.lt
  clear hl hb' he hB hlt hb c0 HL HE HB hg0
  go_wp2_with fail
  refine HY.out.mono ?_
  rintro e w2 ⟨rfl, hw2⟩
  have HL : Hid (Has w2 w.heap.size 27 [.float .f64 9221120237041090561, .float .f64 9218868437227405312, .float .f64 18442240474082181120, .float .f64 0, .float .f64 9223372036854775808, .float .f64 13830554455654793216]) := by rw [hw2]; exact hide (HL'.out.drewN 1)
  have HE : Hid (Ez w2 es) := by rw [hw2]; exact hide (HE'.out.below (Below.refl _ _).drew)
  have HB : Hid (Below w.heap.size w w2) := by rw [hw2]; exact hide (HB'.out.drew)
  have hg0 : Hid (w.heap.size < w2.heap.size) := hide HL.out.lt
  have HY := hide (HI.out w2 HE.out)
  clear hw2 HL' HE' HB' hg1 c1
  go_wp2_with fail
  refine HY.out.mono ?_
  rintro e w3 ⟨rfl, hb⟩
  have HL := hide (HL.out.below hb hg0.out)
  have HE := hide (HE.out.below hb)
  have HB := hide (HB.out.trans (hb.mono HB.out.size))
  have hg0 := hide HL.out.lt
  have HY := hide (HI.out w3 HE.out)
  clear hb
  go_wp2_with fail
  refine HY.out.mono ?_
  rintro e w4 ⟨rfl, hb⟩
  have HL := hide (HL.out.below hb hg0.out)
  have HE := hide (HE.out.below hb)
  have HB := hide (HB.out.trans (hb.mono HB.out.size))
  have hg0 := hide HL.out.lt
  clear hb HY HN0 HX0
  go_wp2_with fail
  rename World => V1
  rw [rounds_succ]
  have c0 : V1.cell? ⟨w.heap.size, 1, none⟩ = some (.float .f64 9218868437227405312) := HL.out.cell 1
  have HY := hide (HN1.out z ar V1 (HR.out V1 HE.out))
  go_wp2_with fail
  refine HY.out.mono ?_
  rintro e w1 ⟨rfl, hb⟩
  have hl := (HL.out.below hb hg0.out).alloc (.cells #[.float .f64 0, .int .i64 0] 33)
  have hb' := hb.alloc hb.size (.cells #[.float .f64 0, .int .i64 0] 33)
  have he := HE.out.below hb'
  have hB := HB.out.trans (hb'.mono HB.out.size)
  have hlt := hb'.size
  have c1 : (w1.alloc (.cells #[.float .f64 0, .int .i64 0] 33)).cell? ⟨w.heap.size, 1, none⟩ = some (.float .f64 9218868437227405312) := hl.cell 1
  have HY := hide (HX1.out (w1.alloc (.cells #[.float .f64 0, .int .i64 0] 33)) (HR.out _ he))
  have HL' := hide hl
  have HE' := hide he
  have HB' := hide hB
  have hg1 : Hid (w.heap.size < (w1.alloc (.cells #[.float .f64 0, .int .i64 0] 33)).heap.size) := hide hl.lt
  clear hl hb' he hB hlt hb c0 HL HE HB hg0
  go_wp2_with fail
  refine HY.out.mono ?_
  rintro e w2 ⟨rfl, hw2⟩
  have HL : Hid (Has w2 w.heap.size 27 [.float .f64 9221120237041090561, .float .f64 9218868437227405312, .float .f64 18442240474082181120, .float .f64 0, .float .f64 9223372036854775808, .float .f64 13830554455654793216]) := by rw [hw2]; exact hide (HL'.out.drewN 1)
  have HE : Hid (Ez w2 es) := by rw [hw2]; exact hide (HE'.out.below (Below.refl _ _).drew)
  have HB : Hid (Below w.heap.size w w2) := by rw [hw2]; exact hide (HB'.out.drew)
  have hg0 : Hid (w.heap.size < w2.heap.size) := hide HL.out.lt
  have HY := hide (HI.out w2 HE.out)
  clear hw2 HL' HE' HB' hg1 c1
  go_wp2_with fail
  refine HY.out.mono ?_
  rintro e w3 ⟨rfl, hb⟩
  have HL := hide (HL.out.below hb hg0.out)
  have HE := hide (HE.out.below hb)
  have HB := hide (HB.out.trans (hb.mono HB.out.size))
  have hg0 := hide HL.out.lt
  have HY := hide (HI.out w3 HE.out)
  clear hb
  go_wp2_with fail
  refine HY.out.mono ?_
  rintro e w4 ⟨rfl, hb⟩
  have HL := hide (HL.out.below hb hg0.out)
  have HE := hide (HE.out.below hb)
  have HB := hide (HB.out.trans (hb.mono HB.out.size))
  have hg0 := hide HL.out.lt
  clear hb HY HN1 HX1
  go_wp2_with fail
  rename World => V2
  rw [rounds_succ]
  have c0 : V2.cell? ⟨w.heap.size, 2, none⟩ = some (.float .f64 18442240474082181120) := HL.out.cell 2
  have HY := hide (HN2.out z ar V2 (HR.out V2 HE.out))
  go_wp2_with fail
  refine HY.out.mono ?_
  rintro e w1 ⟨rfl, hb⟩
  have hl := (HL.out.below hb hg0.out).alloc (.cells #[.float .f64 0, .int .i64 0] 33)
  have hb' := hb.alloc hb.size (.cells #[.float .f64 0, .int .i64 0] 33)
  have he := HE.out.below hb'
  have hB := HB.out.trans (hb'.mono HB.out.size)
  have hlt := hb'.size
  have c1 : (w1.alloc (.cells #[.float .f64 0, .int .i64 0] 33)).cell? ⟨w.heap.size, 2, none⟩ = some (.float .f64 18442240474082181120) := hl.cell 2
  have HY := hide (HX2.out (w1.alloc (.cells #[.float .f64 0, .int .i64 0] 33)) (HR.out _ he))
  have HL' := hide hl
  have HE' := hide he
  have HB' := hide hB
  have hg1 : Hid (w.heap.size < (w1.alloc (.cells #[.float .f64 0, .int .i64 0] 33)).heap.size) := hide hl.lt
  clear hl hb' he hB hlt hb c0 HL HE HB hg0
  go_wp2_with fail
  refine HY.out.mono ?_
  rintro e w2 ⟨rfl, hw2⟩
  have HL : Hid (Has w2 w.heap.size 27 [.float .f64 9221120237041090561, .float .f64 9218868437227405312, .float .f64 18442240474082181120, .float .f64 0, .float .f64 9223372036854775808, .float .f64 13830554455654793216]) := by rw [hw2]; exact hide (HL'.out.drewN 1)
  have HE : Hid (Ez w2 es) := by rw [hw2]; exact hide (HE'.out.below (Below.refl _ _).drew)
  have HB : Hid (Below w.heap.size w w2) := by rw [hw2]; exact hide (HB'.out.drew)
  have hg0 : Hid (w.heap.size < w2.heap.size) := hide HL.out.lt
  have HY := hide (HI.out w2 HE.out)
  clear hw2 HL' HE' HB' hg1 c1
  go_wp2_with fail
  refine HY.out.mono ?_
  rintro e w3 ⟨rfl, hb⟩
  have HL := hide (HL.out.below hb hg0.out)
  have HE := hide (HE.out.below hb)
  have HB := hide (HB.out.trans (hb.mono HB.out.size))
  have hg0 := hide HL.out.lt
  have HY := hide (HI.out w3 HE.out)
  clear hb
  go_wp2_with fail
  refine HY.out.mono ?_
  rintro e w4 ⟨rfl, hb⟩
  have HL := hide (HL.out.below hb hg0.out)
  have HE := hide (HE.out.below hb)
  have HB := hide (HB.out.trans (hb.mono HB.out.size))
  have hg0 := hide HL.out.lt
  clear hb HY HN2 HX2
  go_wp2_with fail
  rename World => V3
  rw [rounds_succ]
  have c0 : V3.cell? ⟨w.heap.size, 3, none⟩ = some (.float .f64 0) := HL.out.cell 3
  have HY := hide (HN3.out z ar V3 (HR.out V3 HE.out))
  go_wp2_with fail
  refine HY.out.mono ?_
  rintro e w1 ⟨rfl, hb⟩
  have hl := (HL.out.below hb hg0.out).alloc (.cells #[.float .f64 0, .int .i64 0] 33)
  have hb' := hb.alloc hb.size (.cells #[.float .f64 0, .int .i64 0] 33)
  have he := HE.out.below hb'
  have hB := HB.out.trans (hb'.mono HB.out.size)
  have hlt := hb'.size
  have c1 : (w1.alloc (.cells #[.float .f64 0, .int .i64 0] 33)).cell? ⟨w.heap.size, 3, none⟩ = some (.float .f64 0) := hl.cell 3
  have HY := hide (HX3.out (w1.alloc (.cells #[.float .f64 0, .int .i64 0] 33)) (HR.out _ he))
  have HL' := hide hl
  have HE' := hide he
  have HB' := hide hB
  have hg1 : Hid (w.heap.size < (w1.alloc (.cells #[.float .f64 0, .int .i64 0] 33)).heap.size) := hide hl.lt
  clear hl hb' he hB hlt hb c0 HL HE HB hg0
  go_wp2_with fail
  refine HY.out.mono ?_
  rintro e w2 ⟨rfl, hw2⟩
  have HL : Hid (Has w2 w.heap.size 27 [.float .f64 9221120237041090561, .float .f64 9218868437227405312, .float .f64 18442240474082181120, .float .f64 0, .float .f64 9223372036854775808, .float .f64 13830554455654793216]) := by rw [hw2]; exact hide (HL'.out.drewN 1)
  have HE : Hid (Ez w2 es) := by rw [hw2]; exact hide (HE'.out.below (Below.refl _ _).drew)
  have HB : Hid (Below w.heap.size w w2) := by rw [hw2]; exact hide (HB'.out.drew)
  have hg0 : Hid (w.heap.size < w2.heap.size) := hide HL.out.lt
  have HY := hide (HI.out w2 HE.out)
  clear hw2 HL' HE' HB' hg1 c1
  go_wp2_with fail
  refine HY.out.mono ?_
  rintro e w3 ⟨rfl, hb⟩
  have HL := hide (HL.out.below hb hg0.out)
  have HE := hide (HE.out.below hb)
  have HB := hide (HB.out.trans (hb.mono HB.out.size))
  have hg0 := hide HL.out.lt
  have HY := hide (HI.out w3 HE.out)
  clear hb
  go_wp2_with fail
  refine HY.out.mono ?_
  rintro e w4 ⟨rfl, hb⟩
  have HL := hide (HL.out.below hb hg0.out)
  have HE := hide (HE.out.below hb)
  have HB := hide (HB.out.trans (hb.mono HB.out.size))
  have hg0 := hide HL.out.lt
  clear hb HY HN3 HX3
  go_wp2_with fail
  rename World => V4
  rw [rounds_succ]
  have c0 : V4.cell? ⟨w.heap.size, 4, none⟩ = some (.float .f64 9223372036854775808) := HL.out.cell 4
  have HY := hide (HN4.out z ar V4 (HR.out V4 HE.out))
  go_wp2_with fail
  refine HY.out.mono ?_
  rintro e w1 ⟨rfl, hb⟩
  have hl := (HL.out.below hb hg0.out).alloc (.cells #[.float .f64 0, .int .i64 0] 33)
  have hb' := hb.alloc hb.size (.cells #[.float .f64 0, .int .i64 0] 33)
  have he := HE.out.below hb'
  have hB := HB.out.trans (hb'.mono HB.out.size)
  have hlt := hb'.size
  have c1 : (w1.alloc (.cells #[.float .f64 0, .int .i64 0] 33)).cell? ⟨w.heap.size, 4, none⟩ = some (.float .f64 9223372036854775808) := hl.cell 4
  have HY := hide (HX4.out (w1.alloc (.cells #[.float .f64 0, .int .i64 0] 33)) (HR.out _ he))
  have HL' := hide hl
  have HE' := hide he
  have HB' := hide hB
  have hg1 : Hid (w.heap.size < (w1.alloc (.cells #[.float .f64 0, .int .i64 0] 33)).heap.size) := hide hl.lt
  clear hl hb' he hB hlt hb c0 HL HE HB hg0
  go_wp2_with fail
  refine HY.out.mono ?_
  rintro e w2 ⟨rfl, hw2⟩
  have HL : Hid (Has w2 w.heap.size 27 [.float .f64 9221120237041090561, .float .f64 9218868437227405312, .float .f64 18442240474082181120, .float .f64 0, .float .f64 9223372036854775808, .float .f64 13830554455654793216]) := by rw [hw2]; exact hide (HL'.out.drewN 1)
  have HE : Hid (Ez w2 es) := by rw [hw2]; exact hide (HE'.out.below (Below.refl _ _).drew)
  have HB : Hid (Below w.heap.size w w2) := by rw [hw2]; exact hide (HB'.out.drew)
  have hg0 : Hid (w.heap.size < w2.heap.size) := hide HL.out.lt
  have HY := hide (HI.out w2 HE.out)
  clear hw2 HL' HE' HB' hg1 c1
  go_wp2_with fail
  refine HY.out.mono ?_
  rintro e w3 ⟨rfl, hb⟩
  have HL := hide (HL.out.below hb hg0.out)
  have HE := hide (HE.out.below hb)
  have HB := hide (HB.out.trans (hb.mono HB.out.size))
  have hg0 := hide HL.out.lt
  have HY := hide (HI.out w3 HE.out)
  clear hb
  go_wp2_with fail
  refine HY.out.mono ?_
  rintro e w4 ⟨rfl, hb⟩
  have HL := hide (HL.out.below hb hg0.out)
  have HE := hide (HE.out.below hb)
  have HB := hide (HB.out.trans (hb.mono HB.out.size))
  have hg0 := hide HL.out.lt
  clear hb HY HN4 HX4
  go_wp2_with fail
  rename World => V5
  rw [rounds_succ]
  have c0 : V5.cell? ⟨w.heap.size, 5, none⟩ = some (.float .f64 13830554455654793216) := HL.out.cell 5
  have HY := hide (HN5.out z ar V5 (HR.out V5 HE.out))
  go_wp2_with fail
  refine HY.out.mono ?_
  rintro e w1 ⟨rfl, hb⟩
  have hl := (HL.out.below hb hg0.out).alloc (.cells #[.float .f64 0, .int .i64 0] 33)
  have hb' := hb.alloc hb.size (.cells #[.float .f64 0, .int .i64 0] 33)
  have he := HE.out.below hb'
  have hB := HB.out.trans (hb'.mono HB.out.size)
  have hlt := hb'.size
  have c1 : (w1.alloc (.cells #[.float .f64 0, .int .i64 0] 33)).cell? ⟨w.heap.size, 5, none⟩ = some (.float .f64 13830554455654793216) := hl.cell 5
  have HY := hide (HX5.out (w1.alloc (.cells #[.float .f64 0, .int .i64 0] 33)) (HR.out _ he))
  have HL' := hide hl
  have HE' := hide he
  have HB' := hide hB
  have hg1 : Hid (w.heap.size < (w1.alloc (.cells #[.float .f64 0, .int .i64 0] 33)).heap.size) := hide hl.lt
  clear hl hb' he hB hlt hb c0 HL HE HB hg0
  go_wp2_with fail
  refine HY.out.mono ?_
  rintro e w2 ⟨rfl, hw2⟩
  have HL : Hid (Has w2 w.heap.size 27 [.float .f64 9221120237041090561, .float .f64 9218868437227405312, .float .f64 18442240474082181120, .float .f64 0, .float .f64 9223372036854775808, .float .f64 13830554455654793216]) := by rw [hw2]; exact hide (HL'.out.drewN 1)
  have HE : Hid (Ez w2 es) := by rw [hw2]; exact hide (HE'.out.below (Below.refl _ _).drew)
  have HB : Hid (Below w.heap.size w w2) := by rw [hw2]; exact hide (HB'.out.drew)
  have hg0 : Hid (w.heap.size < w2.heap.size) := hide HL.out.lt
  have HY := hide (HI.out w2 HE.out)
  clear hw2 HL' HE' HB' hg1 c1
  go_wp2_with fail
  refine HY.out.mono ?_
  rintro e w3 ⟨rfl, hb⟩
  have HL := hide (HL.out.below hb hg0.out)
  have HE := hide (HE.out.below hb)
  have HB := hide (HB.out.trans (hb.mono HB.out.size))
  have hg0 := hide HL.out.lt
  have HY := hide (HI.out w3 HE.out)
  clear hb
  go_wp2_with fail
  refine HY.out.mono ?_
  rintro e w4 ⟨rfl, hb⟩
  have HL := hide (HL.out.below hb hg0.out)
  have HE := hide (HE.out.below hb)
  have HB := hide (HB.out.trans (hb.mono HB.out.size))
  have hg0 := hide HL.out.lt
  clear hb HY HN5 HX5
  go_wp2_with fail
  rename World => V6
  rw [rounds_succ]
  clear HI HL hg0
  have HB6 := HB
  go_wp2_with fail
  refine (L1.out _).mono ?_
  rintro e w1 ⟨rfl, rfl⟩
  go_wp2_with fail
  refine (X1.out _).mono ?_
  rintro e w1 ⟨rfl, rfl⟩
  go_wp2_with fail
  refine (L2.out _).mono ?_
  rintro e w1 ⟨rfl, rfl⟩
  go_wp2_with fail
  refine (X2.out _).mono ?_
  rintro e w1 ⟨rfl, rfl⟩
  go_wp2_with fail
  refine (L2.out _).mono ?_
  rintro e w1 ⟨rfl, rfl⟩
  go_wp2_with fail
  refine (U1.out _).mono ?_
  rintro e w1 ⟨rfl, rfl⟩
  go_wp2_with fail
  refine (X3.out _ (HR.out _ HE.out)).mono ?_
  rintro e w2 ⟨rfl, hw2⟩
  have HE : Hid (Ez w2 es) := by rw [hw2]; exact hide (HE.out.below (Below.refl _ _).drew)
  have HB : Hid (Below w.heap.size w w2) := by rw [hw2]; exact hide (HB.out.drew)
  clear hw2 HB6
  go_wp2_with fail
  refine (L1.out _).mono ?_
  rintro e w1 ⟨rfl, rfl⟩
  go_wp2_with fail
  refine (U2.out _).mono ?_
  rintro e w1 ⟨rfl, rfl⟩
  go_wp2_with fail
  refine (X4.out _ (HR.out _ HE.out)).mono ?_
  rintro e w3 ⟨rfl, hw3⟩
  have HB : Hid (Below w.heap.size w w3) := by rw [hw3]; exact hide (HB.out.drew)
  clear hw3 HE HR
  go_wp2_with fail
  refine (HG.out _).mono ?_
  rintro e w4 ⟨rfl, hb⟩
  have HB := hide (HB.out.trans (hb.mono HB.out.size))
  clear hb
  have c2 : (w4.alloc (.cells #[.float .f64 1, .int .i64 z] 33)).cell? ⟨w4.heap.size, 0, none⟩ = some (.float .f64 1) := (Has.new w4 33 [.float .f64 1, .int .i64 z]).cell 0
  have c3 : (w4.alloc (.cells #[.float .f64 1, .int .i64 z] 33)).cell? ⟨w4.heap.size, 1, none⟩ = some (.int .i64 z) := (Has.new w4 33 [.float .f64 1, .int .i64 z]).cell 1
  have HBe := hide (HB.out.alloc HB.out.size (.cells #[.float .f64 1, .int .i64 z] 33))
  clear HB
  go_wp2_with fail
  refine (HO.out _).mono ?_
  rintro e w5 ⟨rfl, hb⟩
  have HB := hide (HBe.out.trans (hb.mono HBe.out.size))
  clear hb HBe c2 c3
  go_wp2_with fail
  go_ret
  exact ⟨rfl, HB.out⟩
end Go.Proofs.YtboighnmgnjhdaaDoor
