/-
  soft.Table of a number between nothing and one, walked. Operations of package soft that are lawful; the examples of package lodgelaw11. Weights that are all the same; a capacity that suffices. A product by ones is the rows' sums. By an AI agent. No person has read it.
-/
import Derived.Test.YtgdcfjmpjhlndaaGreatDoorZFSftG
import Derived.Test.YtgdcfjmpjhlndaaGreatDoorZFSftN
import Derived.Test.YtgdcfjmpjhlndaaGreatDoorZFSftFlt
import Derived.Test.YtgdcfjmpjhlndaaGreatDoorZFRefR
import Derived.Test.YtgdcfjmpjhlndaaGreatDoorZFPolE
import Derived.Test.YtgdcfjmpjhlndaaGreatDoorZFRefI
import Derived.Test.YtgdcfjmpjhlndaaGreatDoorZFElmN
import Derived.Test.YtgdcfjmpjhlndaaGreatDoorZFElmS
import Derived.Deep.RegionLaw
namespace Go.Proofs.YtgdcfjmpjhlndaaGreatDoor
open Go.RowKit
open Ieee F64
theorem sf_write_lt (d : Ieee.Datum) : Ieee.double.write d < 18446744073709551616 := by
  cases d with
  | number g s e =>
    show Ieee.double.nearest g s e < _
    by_cases h0 : s = 0
    · subst h0
      rw [Flt.nearest_zero]
      split <;> omega
    · rw [near_sign _ _ _ h0]
      have := near_lt s e h0
      split <;> omega
  | infinity g =>
    show Ieee.double.word g _ < _
    rw [Flt.word_eq, Flt.ir]
    split <;> omega
  | nan g f =>
    show Ieee.double.word g _ < _
    rw [Flt.word_eq, Flt.ir, Flt.bn]
    split <;> omega
theorem sf_mul (a b : Nat) (ha : a < 18446744073709551616) (h7 : a % 9223372036854775808 < 9218868437227405312) (hb : b < 18446744073709551616) (h8 : b % 9223372036854775808 < 9218868437227405312) : ∃ r, double.mul a b = some r ∧ r < 18446744073709551616 := by
  obtain ⟨m, i, e1, -⟩ := Flt.read_num a ha h7
  obtain ⟨n, j, e2, -⟩ := Flt.read_num b hb h8
  have h : ∃ r, double.mul a b = some r := by
    unfold Format.mul
    rw [e1, e2]
    exact ⟨_, rfl⟩
  obtain ⟨r, h⟩ := h
  refine ⟨r, h, ?_⟩
  unfold Ieee.Format.mul at h
  rw [Option.map_eq_some_iff] at h
  obtain ⟨d, -, rfl⟩ := h
  exact sf_write_lt d
/-- The weight behind one; the weights. -/
def Sf.step (b : Nat) (v : Int) : Int := F64.Flt.clamp (Flt.wv (Flt.round ((double.mul (Flt.mk v 0) b).getD 0))) 0 1048576
def Sf.tab (b : Nat) : Nat → Int
  | 0 => 1048576
  | i + 1 => Sf.step b (Sf.tab b i)
def Sf.table (b : Nat) : List Int := (List.range 256).map (Sf.tab b)
theorem Sf.step_le (b : Nat) (v : Int) : 0 ≤ Sf.step b v ∧ Sf.step b v ≤ 1048576 := by
  unfold Sf.step F64.Flt.clamp
  split <;> split <;> omega
theorem Sf.tab_le (b i : Nat) : 0 ≤ Sf.tab b i ∧ Sf.tab b i ≤ 1048576 := by
  cases i with
  | zero => exact ⟨by show (0 : Int) ≤ 1048576; decide, by show (1048576 : Int) ≤ 1048576; decide⟩
  | succ i => exact Sf.step_le b _
theorem Sf.table_length (b : Nat) : (Sf.table b).length = 256 := by simp [Sf.table]
theorem Sf.table_at (b i : Nat) (h : i < 256) : (Sf.table b)[i]? = some (Sf.tab b i) := by simp [Sf.table, h]
theorem Sf.table_le (b : Nat) : ∀ z ∈ Sf.table b, 0 ≤ z ∧ z ≤ 1048576 := by
  intro z hz
  unfold Sf.table at hz
  obtain ⟨i, -, rfl⟩ := List.mem_map.1 hz
  exact Sf.tab_le b i
set_option maxRecDepth 100000 in
set_option maxHeartbeats 8000000 in
theorem stable_c (b : Nat) (hb : b < 18446744073709551616) (h8 : b % 9223372036854775808 < 9218868437227405312) (o1 : FloatKind.f64.format.order b 0 = some .gt) (o2 : FloatKind.f64.format.order b 4607182418800017408 = some .lt) (w : World) :
    Calls Tryz.prog 33 #[.float .f64 b] w fun e w' => (∃ t : Ten, e = .returned (.tuple #[.agg (tcells t.P t.zs.length t.cap t.u t.D t.ds.length t.dcap), .nilIface]) ∧ t.In w' ∧ t.Fresh (w.heap.size + 1) ∧ t.zs = [256] ∧ t.u = true ∧ t.ds = Sf.table b ∧ t.dcap = 256) ∧ Below w.heap.size w w' := by
  obtain ⟨W0, hW0⟩ : ∃ W, W = w.alloc (.cells #[.slice none 0 0, .bool false, .slice none 0 0] 26) := ⟨_, rfl⟩
  have hZ : Has W0 w.heap.size 26 [.slice none 0 0, .bool false, .slice none 0 0] := by rw [hW0]; exact Has.new _ _ _
  have hB0 : Below w.heap.size w W0 := by rw [hW0]; exact (Below.refl _ _).alloc (Nat.le_refl _) _
  obtain ⟨Z, hZZ, hmk⟩ := made_ints 256 (by decide)
  obtain ⟨W1, hW1⟩ : ∃ W, W = W0.alloc (.cells Z 3) := ⟨_, rfl⟩
  have hbA : Below W0.heap.size W0 W1 := by rw [hW1]; exact (Below.refl _ _).alloc (Nat.le_refl _) _
  have HG : Hid (Has W1 (w.heap.size + 1) 3 (i64s (List.replicate 256 0))) := hide (by
    rw [hW1, hZZ.out]
    exact box_at W0 3 (i64s (List.replicate 256 0)) _ (by rw [hW0]; simp))
  have HZ := hide (hZ.below hbA hZ.lt)
  have HB := hide (hB0.trans (hbA.mono hB0.size))
  have hmk1 : (Instr.makeSlice 22 (.int .i64 256) (.int .i64 256)).run Tryz.prog (w.alloc (.cells #[.slice none 0 0, .bool false, .slice none 0 0] 26)) = .ok (.slice (some ⟨w.heap.size + 1, 0, none⟩) 256 256) W1 := by
    have h := hmk W0
    rw [← hW1] at h
    rw [hW0] at h
    have hs : (w.alloc (.cells #[.slice none 0 0, .bool false, .slice none 0 0] 26)).heap.size = w.heap.size + 1 := by simp
    rw [hs] at h
    exact h
  have HO : Hid (∀ v : Int, 0 ≤ v → v ≤ 1048576 → ∃ f r, floatOfInt .f64 v = f ∧ double.mul f b = some r ∧ r < 18446744073709551616 ∧ F64.Flt.clamp (Flt.wv (Flt.round r)) 0 1048576 = Sf.step b v) := hide (fun v h0 h1 => by
    obtain ⟨a1, a2, -⟩ := whole_facts v (by omega)
    obtain ⟨r, hr, hrl⟩ := sf_mul (Flt.mk v 0) b a1 a2 hb h8
    refine ⟨Flt.mk v 0, r, float_of_any v, hr, hrl, ?_⟩
    unfold Sf.step
    rw [hr]
    rfl)
  have c0 := HG.out.cell 0
  have c0f := HG.out.frozen 0
  have c0 : W1.cell? ⟨w.heap.size + 1, 0, none⟩ = some (.int .i64 0) := by
    rw [c0]
    rfl
  have HSI : Hid (∀ i, 0 ≤ Sf.tab b i ∧ Sf.tab b i ≤ 1048576) := hide (Sf.tab_le b)
  have HSS : Hid (∀ i, Sf.step b (Sf.tab b i) = Sf.tab b (i + 1)) := hide (fun i => rfl)
  have HT0 : Hid (Sf.tab b 0 = 1048576) := hide rfl
  obtain ⟨T, hT⟩ : ∃ T, Hid (Sf.tab b = T) := ⟨_, hide rfl⟩
  have HTL : Hid (∀ xs : List Int, xs.length = 256 → (∀ j, j ≤ 255 → xs[j]? = some (T j)) → xs = Sf.table b) := hide (fun xs hl hx => List.ext_getElem? (fun j => by
    rcases Nat.lt_or_ge j 256 with h | h
    · rw [hx j (by omega), Sf.table_at b j h, hT.out]
    · rw [List.getElem?_eq_none (by omega), List.getElem?_eq_none (by rw [Sf.table_length]; omega)]))
  rw [hT.out] at HSI HSS HT0
  clear hb h8 hW0 hZ hB0 hZZ hmk hW1 hbA hT
  go_enter Tryz.func33, Tryz.ntmps33
  go_wp2_with fail
  clear hmk1 c0 c0f o1 o2
  go_loopg [21] 255 (fun gq kk wr => ∃ (i : Nat) (xs : List Int), gq + i = 255 ∧ kk = .int .i64 i ∧ Hid (xs.length = 256) ∧ Hid (∀ j, j ≤ i → xs[j]? = some (T j)) ∧ Hid (Has wr (w.heap.size + 1) 3 (i64s xs)) ∧ Hid (Has wr w.heap.size 26 [.slice none 0 0, .bool false, .slice none 0 0]) ∧ Hid (Below w.heap.size w wr))
  case atStart =>
    refine ⟨0, (List.replicate 256 0).set 0 1048576, by omega, rfl, hide (by simp), hide (fun j hj => ?_), ?_, hide (HZ.out.far (p := ⟨w.heap.size + 1, 0, none⟩) (by simp) (.int .i64 1048576)), hide (HB.out.setCell (p := ⟨w.heap.size + 1, 0, none⟩) (by simp) (.int .i64 1048576))⟩
    · obtain rfl : j = 0 := by omega
      rw [HT0.out]
      rfl
    · have h := HG.out.set_ 0 (.int .i64 1048576)
      unfold i64s at h ⊢
      rw [List.map_set]
      exact hide h
  case round =>
    clear HG HZ HB
    obtain ⟨i, xs, hi, rfl, HN, HI, HG, HZ, HB⟩ := hrel
    by_cases hlt : i < 255
    · have him : (i : Int) < 255 := by omega
      have hi0 : (0 : Int) ≤ (i : Int) := by omega
      have hi2 : (i : Int) < 256 := by omega
      have hi3 : (i : Int) + 1 < 256 := by omega
      obtain ⟨v, hv⟩ : ∃ v, Hid (T i = v) := ⟨_, hide rfl⟩
      have hvb := HSI.out i
      rw [hv.out] at hvb
      obtain ⟨f, r, hf, hr, hrl, hs⟩ := HO.out v hvb.1 hvb.2
      have hst := HSS.out i
      rw [hv.out, ← hs] at hst
      obtain ⟨u, hu⟩ : ∃ u, Hid (F64.Flt.clamp (Flt.wv (Flt.round r)) 0 1048576 = u) := ⟨_, hide rfl⟩
      have HWH := hide (fun W => wholeof_c r hrl 0 1048576 W)
      rw [hu.out] at HWH hst
      have HST := hide hst
      have hq : ∀ W : World, (binOp .mul 61 (.float .f64 f) (.float .f64 b)).run Tryz.prog W = .ok (.float .f64 r) W := fun W => run_float_arith (P := Tryz.prog) W .mul 61 .f64 _ _ _ hr
      have gc : wr.cell? ⟨w.heap.size + 1, i, none⟩ = some (.int .i64 v) := by
        rw [HG.out.cell]
        unfold i64s
        rw [List.getElem?_map, HI.out i (Nat.le_refl _), hv.out]
        rfl
      have hin : i + 1 < xs.length := by have := HN.out; omega
      have g1 : wr.cell? ⟨w.heap.size + 1, i + 1, none⟩ = some (.int .i64 (xs[i + 1]'hin)) := by
        rw [HG.out.cell]
        unfold i64s
        rw [List.getElem?_map, List.getElem?_eq_getElem hin]
        rfl
      have gf := HG.out.frozen (i + 1)
      clear hvb hr hrl hs hst hv hu
      go_wp2_with fail
      refine (HWH.out _).mono ?_
      rintro e wq ⟨rfl, hw⟩
      have hw := hw.symm
      subst hw
      go_wp2_with fail
      go_roundg (255 - (i + 1))
      case measure => omega
      case rel =>
        refine ⟨i + 1, xs.set (i + 1) u, by omega, by go_num, hide (by rw [List.length_set]; exact HN.out), hide (fun j hj => ?_), ?_, hide (HZ.out.far (p := ⟨w.heap.size + 1, i + 1, none⟩) (by simp) (.int .i64 u)), hide (HB.out.setCell (p := ⟨w.heap.size + 1, i + 1, none⟩) (by simp) (.int .i64 u))⟩
        · rw [List.getElem?_set]
          by_cases h : i + 1 = j
          · subst h
            rw [if_pos rfl, if_pos (by have := HN.out; omega), ← HST.out]
          · rw [if_neg h]
            exact HI.out j (by omega)
        · have h := HG.out.set_ (i + 1) (.int .i64 u)
          unfold i64s at h ⊢
          rw [List.map_set]
          exact hide h
    · obtain rfl : i = 255 := by omega
      have hx := HTL.out xs HN.out HI.out
      have hzl := HG.out.lt
      have n1 : w.heap.size < wr.heap.size := by omega
      have n2 : ¬ w.heap.size = wr.heap.size := by omega
      have n3 : ¬ wr.heap.size = w.heap.size := by omega
      obtain ⟨z0, z1, z2, zf0, zf1, zf2, HZp, HFp⟩ := elm_three HZ.out HB.out (Nat.le_refl _) (.slice (some ⟨wr.heap.size, 0, none⟩) 1 1) (.bool true) (.slice (some ⟨w.heap.size + 1, 0, none⟩) 256 256)
      have HZf := hide (HZp.out.alloc (.cells #[.int .i64 256] 3))
      have HFf := hide (HFp.out.alloc HFp.out.size (.cells #[.int .i64 256] 3))
      have hnn : ¬ ((255 : Nat) : Int) < 255 := by omega
      have HX := hide hx
      clear hx HTL
      go_wp2_with fail
      refine bodyPost_ret (results_tn rfl _ _ w.heap.size _ _ _ rfl HZf.out) rfl ?_
      refine ⟨⟨⟨some ⟨wr.heap.size, 0, none⟩, [256], 1, true, some ⟨w.heap.size + 1, 0, none⟩, xs, 256⟩, ?_, ⟨(box_at _ 3 (i64s [256]) wr.heap.size (by simp)).ri (by decide), ((((HG.out.far (p := ⟨w.heap.size, 0, none⟩) (by simp) _).far (p := ⟨w.heap.size, 1, none⟩) (by simp) _).far (p := ⟨w.heap.size, 2, none⟩) (by simp) _).alloc _).ri ?_, by show 1 ≤ 1000000; omega, by have := HN.out; show xs.length ≤ _; omega⟩, ⟨?_, ?_⟩, rfl, rfl, HX.out, rfl⟩, HFf.out⟩
      · show _ = Ending.returned (.tuple #[.agg (tcells (some ⟨wr.heap.size, 0, none⟩) 1 1 true (some ⟨w.heap.size + 1, 0, none⟩) xs.length 256), .nilIface])
        rw [HN.out]
        rfl
      · intro z hz
        rw [HX.out] at hz
        have := Sf.table_le b z hz
        exact wf_i64 _ (by omega)
      · intro ad h
        cases h
        show w.heap.size + 1 ≤ wr.heap.size
        omega
      · intro ad h
        cases h
        exact Nat.le_refl _
theorem Tens.fine_of {t : Ten} (hc : Shp.code t.zs = 0) (hl : (t.ds.length : Int) = Shp.prod t.zs) (hs : ∀ z ∈ t.ds, Tens.fit t.u z = true) : t.fault = (0, none) := by
  show Tens.fault t.zs t.u t.ds = (0, none)
  exact Tens.fault_none _ _ _ hc (by rw [(Shp.whole hc).2.2.1, hl]) (fun j y hy => hs y (List.mem_of_getElem? hy))
theorem Sf.dim1_ok (n : Nat) (h : 1 ≤ n ∧ n ≤ 256) : Shp.code [(n : Int)] = 0 := by
  unfold Shp.code
  rw [if_neg (by simp), if_neg, if_neg]
  · simp [Shp.prod]; omega
  · simp only [List.all_cons, List.all_nil, Shp.okDim, Bool.and_true]
    rw [decide_eq_true (by omega)]
    decide
theorem Sf.fine_line (t : Ten) (n : Nat) (hz : t.zs = [(n : Int)]) (h : 1 ≤ n ∧ n ≤ 256) (hl : t.ds.length = n) (hs : ∀ z ∈ t.ds, Tens.fit t.u z = true) : t.fault = (0, none) :=
  Tens.fine_of (by rw [hz]; exact Sf.dim1_ok n h) (by rw [hz, hl]; simp [Shp.prod]) hs
theorem Sf.good_soft {a b : Ten} (ha : a.fault = (0, none)) (hb : b.fault = (0, none)) (hu : a.u = false) (hz : 0 < a.zs.length) (hbz : b.zs = [256]) (hbu : b.u = true) : Cel.fault [a, b] (Sf.code 16 ([a, b].map Ten.look)) = (0, none) := by
  refine Sf.good_any (x := (a.zs, false)) (fun t ht => ?_) rfl ?_ (Tens.whole ha).1
  · simp only [List.mem_cons, List.not_mem_nil, or_false] at ht
    rcases ht with rfl | rfl
    · exact ha
    · exact hb
  · show (if a.u = false ∧ 0 < a.zs.length ∧ b.zs = [256] ∧ b.u = true then some (a.zs, false) else none) = some (a.zs, false)
    rw [if_pos ⟨hu, hz, hbz, hbu⟩]
theorem Sf.row_all (xs : List Int) (n : Nat) (h : xs.length = n) : Sf.row xs n 0 = xs := by
  unfold Sf.row
  rw [Nat.zero_mul, List.drop_zero, List.take_of_length_le (by omega)]
theorem Sf.last_line {a : Ten} {n : Nat} (h : a.zs = [(n : Int)]) : Sf.last a = n := by unfold Sf.last; rw [h]; rfl
/-- A row's weights, where the tensor is one row. -/
theorem Sf.soft_line {a b : Ten} (n : Nat) (hz : a.zs = [(n : Int)]) (hl : a.ds.length = n) (i : Nat) (hi : i < n) : Sf.el 16 [a, b] i = Sf.of (Sf.all a.ds b.ds n n) (Sf.wt b.ds (Sf.by_ a.ds n i)) := by
  show Sf.soft a.ds b.ds (Sf.last a) i = _
  unfold Sf.soft
  rw [Sf.last_line hz, Nat.div_eq_of_lt hi, Nat.mod_eq_of_lt hi, Sf.row_all _ _ hl]
theorem Sf.first_val (t b : Ten) (hz : t.zs = [((2 : Nat) : Int)]) (hd : t.ds = [0, 0]) (hb : b.ds[0]? = some 1048576) : Sf.part (Sf.el 16 [t, b]) 0 2 = [0, 0] := by
  have hw : Sf.wt b.ds 0 = 1048576 := by unfold Sf.wt; rw [List.getD_eq_getElem?_getD, hb]; decide
  have h0 : Sf.by_ t.ds 2 0 = 0 := by rw [hd]; decide
  have h1 : Sf.by_ t.ds 2 1 = 0 := by rw [hd]; decide
  have ha : Sf.all t.ds b.ds 2 2 = 2097152 := by
    show 0 + Sf.wt b.ds (Sf.by_ t.ds 2 0) + Sf.wt b.ds (Sf.by_ t.ds 2 1) = 2097152
    rw [h0, h1, hw]
    decide
  have e0 : Sf.el 16 [t, b] 0 = 0 := by
    rw [Sf.soft_line 2 hz (by rw [hd]; rfl) 0 (by decide), ha, h0, hw]
    decide
  have e1 : Sf.el 16 [t, b] 1 = 0 := by
    rw [Sf.soft_line 2 hz (by rw [hd]; rfl) 1 (by decide), ha, h1, hw]
    decide
  show [Sf.el 16 [t, b] (0 + 0), Sf.el 16 [t, b] (0 + 1)] = [0, 0]
  rw [Nat.zero_add, Nat.zero_add, e0, e1]
theorem half_order : FloatKind.f64.format.order 4602678819172646912 0 = some .gt ∧ FloatKind.f64.format.order 4602678819172646912 4607182418800017408 = some .lt := by decide +kernel
set_option maxRecDepth 100000 in
set_option maxHeartbeats 4000000 in
theorem first11_c (ah am ar : Addr) (w : World) (hE : E3 w ah am ar) :
    Calls Tryz.prog 5 #[] w fun e w' => e = .returned (.bool true) ∧ Below w.heap.size w w' := by
  obtain ⟨W1, hW1⟩ : ∃ W, W = ((w.alloc (.cells #[.int .i64 2] 3)).alloc (.cells #[.int .i64 0, .int .i64 0] 3)).alloc (.cells #[.slice (some ⟨w.heap.size, 0, none⟩) 1 1, .bool false, .slice (some ⟨w.heap.size + 1, 0, none⟩) 2 2] 26) := ⟨_, rfl⟩
  have hB1 : Below w.heap.size w W1 := by rw [hW1]; exact (((Below.refl _ _).alloc (Nat.le_refl _) _).alloc (by simp) _).alloc (by simp; omega) _
  have s1 : Has W1 w.heap.size 3 (i64s [((2 : Nat) : Int)]) := by rw [hW1]; exact ((Has.new w 3 [.int .i64 2]).alloc _).alloc _
  have d1 : Has W1 (w.heap.size + 1) 3 (i64s [0, 0]) := by rw [hW1]; exact (box_at _ 3 [.int .i64 0, .int .i64 0] _ (by simp)).alloc _
  have HX : Hid (Has W1 (w.heap.size + 1 + 1) 26 [.slice (some ⟨w.heap.size, 0, none⟩) 1 1, .bool false, .slice (some ⟨w.heap.size + 1, 0, none⟩) 2 2]) := hide (by rw [hW1]; exact box_at _ 26 _ _ (by simp))
  obtain ⟨a, ea⟩ : ∃ a : Ten, Hid (a = ⟨some ⟨w.heap.size, 0, none⟩, [((2 : Nat) : Int)], 1, false, some ⟨w.heap.size + 1, 0, none⟩, [0, 0], 2⟩) := ⟨_, hide rfl⟩
  have Ta : Hid (a.In W1) := hide (by rw [ea.out]; exact ⟨s1.ri (by decide), d1.ri (by decide), by show 1 ≤ 1000000; omega, by show 2 ≤ 1000000; omega⟩)
  have HTb := hide (stable_c 4602678819172646912 (by decide) (by decide) half_order.1 half_order.2 W1)
  have HE := hide (fun W (h : Below w.heap.size w W) => hE.below h)
  have HB := hide hB1
  have HW1 := hide hW1
  clear hE hW1 hB1 s1 d1
  go_enter Tryz.func5, Tryz.ntmps5
  go_wp2_with fail
  rw [← HW1.out]
  clear HW1
  refine HTb.out.mono ?_
  rintro e w2 ⟨⟨t, rfl, ht, -, htz, htu, htd, htc⟩, hb⟩
  replace HX := hide (HX.out.below hb HX.out.lt)
  replace HB := hide (HB.out.trans (hb.mono HB.out.size))
  replace Ta := hide (Ta.out.below hb)
  obtain ⟨W3, hW3⟩ : ∃ W, W = w2.alloc (.cells #[.slice t.P t.zs.length t.cap, .bool t.u, .slice t.D t.ds.length t.dcap] 26) := ⟨_, rfl⟩
  have hbA : Below w2.heap.size w2 W3 := by rw [hW3]; exact (Below.refl _ _).alloc (Nat.le_refl _) _
  have x0 := HX.out.cell 0
  have x1 := HX.out.cell 1
  have x2 := HX.out.cell 2
  have xl := HX.out.lt
  replace HB := hide (HB.out.trans (hbA.mono HB.out.size))
  replace Ta := hide (Ta.out.below hbA)
  have Tt := hide (ht.below hbA)
  have HF : Hid (Cel.fault [a, t] (Sf.code 16 ([a, t].map Ten.look)) = (0, none)) := hide (Sf.good_soft (Sf.fine_line a 2 (by rw [ea.out]) (by decide) (by rw [ea.out]; rfl) (by rw [ea.out]; exact (by decide : ∀ z ∈ ([0, 0] : List Int), Tens.fit false z = true))) (Sf.fine_line t 256 htz (by decide) (by rw [htd, Sf.table_length]) (fun z hz => by rw [htu]; rw [htd] at hz; have := Sf.table_le _ z hz; exact Sf.fitw (by omega))) (by rw [ea.out]) (by rw [ea.out]; exact (by decide : 0 < 1)) htz htu)
  have HS := hide (sfsoftmax_c a t ah am ar W3 Ta.out Tt.out (by
    intro x hx
    simp only [List.mem_cons, List.not_mem_nil, or_false] at hx
    rcases hx with rfl | rfl
    · rw [ea.out]; exact Nat.le_refl 2
    · rw [htc, htd, Sf.table_length]; decide) (HE.out _ HB.out))
  have hD : ∀ x : Ten, x.ds = Sf.ds 16 [a, t] → x.ds = [0, 0] := fun x h => by
    rw [h]
    have hsz : Sf.size 16 [a, t] = 2 := by
      have h := (Sf.fine_soft a t (by rw [ea.out]; exact Nat.le_refl 2) HF.out).2.2.2.2.2.2.2
      rw [h, ea.out]
      rfl
    unfold Sf.ds
    rw [hsz]
    exact Sf.first_val a t (by rw [ea.out]) (by rw [ea.out]) (by rw [htd, Sf.table_at _ 0 (by decide)]; rfl)
  have HD := hide hD
  have HEA := ea
  rw [ea.out] at HS
  have HW3 := hide hW3
  clear ht htz htu htd htc hb hbA hW3 HTb hD
  go_wp2_with fail
  rw [← HW3.out]
  clear HW3 x0 x1 x2 xl
  refine HS.out.mono ?_
  intro e w4 hT
  rw [← HEA.out] at hT
  obtain ⟨⟨x, rfl, hIn, -, -, hd, -⟩, hb⟩ := sf_good 16 (.inl rfl) _ ah am ar _ HF.out hT
  have hds := HD.out x hd
  have hB3 := HB.out.trans (hb.mono HB.out.size)
  have hDx := hIn.dat
  rw [hds] at hDx
  have hB4 := hB3.alloc hB3.size (.cells #[.slice x.P x.zs.length x.cap, .bool x.u, .slice x.D 2 x.dcap] 26)
  have hB5 := hB4.alloc hB4.size (.cells #[.int .i64 0, .int .i64 0] 3)
  have hD5 := (hDx.below ((Below.refl _ w4).alloc (Nat.le_refl _) (.cells #[.slice x.P x.zs.length x.cap, .bool x.u, .slice x.D 2 x.dcap] 26))).below ((Below.refl _ _).alloc (Nat.le_refl _) (.cells #[.int .i64 0, .int .i64 0] 3))
  have HSS := hide (sameints_c [0, 0] [0, 0] x.D (some ⟨w4.heap.size + 1, 0, none⟩) x.dcap 2 _ hD5 (by
    have h := new_ri (w4.alloc (.cells #[.slice x.P x.zs.length x.cap, .bool x.u, .slice x.D 2 x.dcap] 26)) 3 [0, 0] (by decide)
    simpa using h) (by decide) (by decide))
  rw [decide_eq_true (rfl : ([0, 0] : List Int) = [0, 0])] at HSS
  have HB5 := hide hB5
  rw [hds]
  clear hIn hd hds hb hB3 hDx hB4 hB5 hD5 HS HB hT
  go_wp2_with fail
  refine HSS.out.mono ?_
  rintro e w5 ⟨rfl, hb⟩
  have HFin := hide (HB5.out.trans (hb.mono HB5.out.size))
  clear hb HSS HB5
  go_wp2_with fail
  go_ret
  exact ⟨rfl, HFin.out⟩
end Go.Proofs.YtgdcfjmpjhlndaaGreatDoor
