/-
  The law QuantScales of package lodgelaw4, for what is no scale. By an AI agent. No person has read it.
-/
import Derived.Test.YtboighnmgnjhdaaDoorQuaN
import Derived.Test.YtboighnmgnjhdaaDoorErrD
namespace Go.Proofs.YtboighnmgnjhdaaDoor
open Go.RowKit
open Ieee

set_option maxRecDepth 100000 in
set_option maxHeartbeats 4000000 in
theorem scales_bad (b : Nat) (hb : b < 18446744073709551616) (z : Int) (hg : Qua.good b z = false) (x : Nat) (q : Int) (es : List Addr) (w : World) (hE : Ez w es) :
    Calls Tryd.prog 4 #[.float .f64 b, .int .i64 z, .float .f64 x, .int .i64 q] w fun e w' => e = .returned (.bool true) ∧ Below w.heap.size w w' := by
  have HF := hide qfirst_c
  have hEd : Ez w.drew es := hE.below (Below.refl _ _).drew
  obtain ⟨ar, har⟩ : ∃ ar, es[1]? = some ar := by
    have := hE.1
    exact ⟨es[1], List.getElem?_eq_getElem (by omega)⟩
  have HN := hide (new_bad b hb z hg ar w.drew (hEd.2.2 1 _ ar rfl har))
  have HG := hide (goodscale_c b hb z)
  rw [hg] at HG
  have HI := hide (fun W h => is_c es 1 ar har 102 W h)
  have HE := hide hEd
  have hsf := store_f 0
  have o0 : FloatKind.f64.format.order 0 0 = some .eq := by decide +kernel
  clear hg hb hE hEd har
  go_enter Tryd.func4, Tryd.ntmps4
  go_wp2_with fail
  refine (HF.out _).mono ?_
  rintro e w1 ⟨rfl, rfl⟩
  go_wp2_with fail
  refine HN.out.mono ?_
  rintro e w1 ⟨rfl, hb⟩
  have HB0 : Hid (Below w.heap.size w w1) := hide ((Below.refl w.heap.size w).drew.trans hb)
  have HE1 := hide (HE.out.below hb)
  clear hb HN HE
  go_wp2_with fail
  refine (HG.out _).mono ?_
  rintro e w2 ⟨rfl, hw2⟩
  have hs : Has w2 w1.heap.size 33 [.float .f64 0, .int .i64 0] := by rw [hw2]; exact Has.new w1 _ _
  have hB : Below w1.heap.size w1 w2 := by rw [hw2]; exact (Below.refl w1.heap.size w1).alloc (Nat.le_refl _) _
  clear hw2
  have HB1 := hide (HB0.out.trans (hB.mono HB0.out.size))
  have HX := hide (HI.out w2 (HE1.out.below hB))
  have hlt := hs.lt
  have HS := hide hs
  clear hs hB HB0 HE1 HI
  go_wp2_with fail
  refine HX.out.mono ?_
  rintro e w3 ⟨rfl, hb⟩
  have HB2 := hide (HB1.out.trans (hb.mono HB1.out.size))
  have hs := HS.out.below hb hlt
  have c0 : w3.cell? ⟨w1.heap.size, 0, none⟩ = some (.float .f64 0) := hs.cell 0
  have c1 : w3.cell? ⟨w1.heap.size, 1, none⟩ = some (.int .i64 0) := hs.cell 1
  clear hs hb HS HX HB1
  go_wp2_with fail
  go_ret
  exact ⟨rfl, HB2.out⟩
end Go.Proofs.YtboighnmgnjhdaaDoor
