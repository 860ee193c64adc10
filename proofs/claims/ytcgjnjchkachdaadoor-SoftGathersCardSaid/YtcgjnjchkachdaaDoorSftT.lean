/-
  soft.Table of a number between nothing and one, walked. By an AI agent. No person has read it.
-/
import Derived.Test.YtcgjnjchkachdaaDoorSftL
import Derived.Test.YtcgjnjchkachdaaDoorSftFlt
namespace Go.Proofs.YtcgjnjchkachdaaDoor
open Go.RowKit
open Ieee F64

theorem sf_write_lt (d : Ieee.Datum) : Ieee.double.write d < 18446744073709551616 := by
  cases d with
  | number g s e =>
    show Ieee.double.nearest g s e < _
    by_cases h0 : s = 0
    · subst h0
      rw [Flt.nearest_zero]
      split <;> omega
    · rw [near_sign _ _ _ h0]
      have := near_lt s e h0
      split <;> omega
  | infinity g =>
    show Ieee.double.word g _ < _
    rw [Flt.word_eq, Flt.ir]
    split <;> omega
  | nan g f =>
    show Ieee.double.word g _ < _
    rw [Flt.word_eq, Flt.ir, Flt.bn]
    split <;> omega
theorem sf_mul (a b : Nat) (ha : a < 18446744073709551616) (h7 : a % 9223372036854775808 < 9218868437227405312) (hb : b < 18446744073709551616) (h8 : b % 9223372036854775808 < 9218868437227405312) : ∃ r, double.mul a b = some r ∧ r < 18446744073709551616 := by
  obtain ⟨m, i, e1, -⟩ := Flt.read_num a ha h7
  obtain ⟨n, j, e2, -⟩ := Flt.read_num b hb h8
  have h : ∃ r, double.mul a b = some r := by
    unfold Format.mul
    rw [e1, e2]
    exact ⟨_, rfl⟩
  obtain ⟨r, h⟩ := h
  refine ⟨r, h, ?_⟩
  unfold Ieee.Format.mul at h
  rw [Option.map_eq_some_iff] at h
  obtain ⟨d, -, rfl⟩ := h
  exact sf_write_lt d
/-- The weight behind one; the weights. -/
def Sf.step (b : Nat) (v : Int) : Int := F64.Flt.clamp (Flt.wv (Flt.round ((double.mul (Flt.mk v 0) b).getD 0))) 0 1048576
def Sf.tab (b : Nat) : Nat → Int
  | 0 => 1048576
  | i + 1 => Sf.step b (Sf.tab b i)
def Sf.table (b : Nat) : List Int := (List.range 256).map (Sf.tab b)
theorem Sf.step_le (b : Nat) (v : Int) : 0 ≤ Sf.step b v ∧ Sf.step b v ≤ 1048576 := by
  unfold Sf.step F64.Flt.clamp
  split <;> split <;> omega
theorem Sf.tab_le (b i : Nat) : 0 ≤ Sf.tab b i ∧ Sf.tab b i ≤ 1048576 := by
  cases i with
  | zero => exact ⟨by show (0 : Int) ≤ 1048576; decide, by show (1048576 : Int) ≤ 1048576; decide⟩
  | succ i => exact Sf.step_le b _
theorem Sf.table_length (b : Nat) : (Sf.table b).length = 256 := by simp [Sf.table]
theorem Sf.table_at (b i : Nat) (h : i < 256) : (Sf.table b)[i]? = some (Sf.tab b i) := by simp [Sf.table, h]
theorem Sf.table_le (b : Nat) : ∀ z ∈ Sf.table b, 0 ≤ z ∧ z ≤ 1048576 := by
  intro z hz
  unfold Sf.table at hz
  obtain ⟨i, -, rfl⟩ := List.mem_map.1 hz
  exact Sf.tab_le b i
set_option maxRecDepth 100000 in
set_option maxHeartbeats 8000000 in
theorem stable_c (b : Nat) (hb : b < 18446744073709551616) (h8 : b % 9223372036854775808 < 9218868437227405312) (o1 : FloatKind.f64.format.order b 0 = some .gt) (o2 : FloatKind.f64.format.order b 4607182418800017408 = some .lt) (w : World) :
    Calls Tryd.prog 37 #[.float .f64 b] w fun e w' => (∃ t : Ten, e = .returned (.tuple #[.agg (tcells t.P t.zs.length t.cap t.u t.D t.ds.length t.dcap), .nilIface]) ∧ t.In w' ∧ t.Fresh (w.heap.size + 1) ∧ t.zs = [256] ∧ t.u = true ∧ t.ds = Sf.table b ∧ t.dcap = 256) ∧ Below w.heap.size w w' := by
  obtain ⟨W0, hW0⟩ : ∃ W, W = w.alloc (.cells #[.slice none 0 0, .bool false, .slice none 0 0] 26) := ⟨_, rfl⟩
  have hZ : Has W0 w.heap.size 26 [.slice none 0 0, .bool false, .slice none 0 0] := by rw [hW0]; exact Has.new _ _ _
  have hB0 : Below w.heap.size w W0 := by rw [hW0]; exact (Below.refl _ _).alloc (Nat.le_refl _) _
  obtain ⟨Z, hZZ, hmk⟩ := made_ints 256 (by decide)
  obtain ⟨W1, hW1⟩ : ∃ W, W = W0.alloc (.cells Z 3) := ⟨_, rfl⟩
  have hbA : Below W0.heap.size W0 W1 := by rw [hW1]; exact (Below.refl _ _).alloc (Nat.le_refl _) _
  have HG : Hid (Has W1 (w.heap.size + 1) 3 (i64s (List.replicate 256 0))) := hide (by
    rw [hW1, hZZ.out]
    exact box_at W0 3 (i64s (List.replicate 256 0)) _ (by rw [hW0]; simp))
  have HZ := hide (hZ.below hbA hZ.lt)
  have HB := hide (hB0.trans (hbA.mono hB0.size))
  have hmk1 : (Instr.makeSlice 22 (.int .i64 256) (.int .i64 256)).run Tryd.prog (w.alloc (.cells #[.slice none 0 0, .bool false, .slice none 0 0] 26)) = .ok (.slice (some ⟨w.heap.size + 1, 0, none⟩) 256 256) W1 := by
    have h := hmk W0
    rw [← hW1] at h
    rw [hW0] at h
    have hs : (w.alloc (.cells #[.slice none 0 0, .bool false, .slice none 0 0] 26)).heap.size = w.heap.size + 1 := by simp
    rw [hs] at h
    exact h
  have HO : Hid (∀ v : Int, 0 ≤ v → v ≤ 1048576 → ∃ f r, floatOfInt .f64 v = f ∧ double.mul f b = some r ∧ r < 18446744073709551616 ∧ F64.Flt.clamp (Flt.wv (Flt.round r)) 0 1048576 = Sf.step b v) := hide (fun v h0 h1 => by
    obtain ⟨a1, a2, -⟩ := whole_facts v (by omega)
    obtain ⟨r, hr, hrl⟩ := sf_mul (Flt.mk v 0) b a1 a2 hb h8
    refine ⟨Flt.mk v 0, r, float_of_any v, hr, hrl, ?_⟩
    unfold Sf.step
    rw [hr]
    rfl)
  have c0 := HG.out.cell 0
  have c0f := HG.out.frozen 0
  have c0 : W1.cell? ⟨w.heap.size + 1, 0, none⟩ = some (.int .i64 0) := by
    rw [c0]
    rfl
  have HSI : Hid (∀ i, 0 ≤ Sf.tab b i ∧ Sf.tab b i ≤ 1048576) := hide (Sf.tab_le b)
  have HSS : Hid (∀ i, Sf.step b (Sf.tab b i) = Sf.tab b (i + 1)) := hide (fun i => rfl)
  have HT0 : Hid (Sf.tab b 0 = 1048576) := hide rfl
  obtain ⟨T, hT⟩ : ∃ T, Hid (Sf.tab b = T) := ⟨_, hide rfl⟩
  have HTL : Hid (∀ xs : List Int, xs.length = 256 → (∀ j, j ≤ 255 → xs[j]? = some (T j)) → xs = Sf.table b) := hide (fun xs hl hx => List.ext_getElem? (fun j => by
    rcases Nat.lt_or_ge j 256 with h | h
    · rw [hx j (by omega), Sf.table_at b j h, hT.out]
    · rw [List.getElem?_eq_none (by omega), List.getElem?_eq_none (by rw [Sf.table_length]; omega)]))
  rw [hT.out] at HSI HSS HT0
  clear hb h8 hW0 hZ hB0 hZZ hmk hW1 hbA hT
  go_enter Tryd.func37, Tryd.ntmps37
  go_wp2_with fail
  clear hmk1 c0 c0f o1 o2
  go_loopg [21] 255 (fun gq kk wr => ∃ (i : Nat) (xs : List Int), gq + i = 255 ∧ kk = .int .i64 i ∧ Hid (xs.length = 256) ∧ Hid (∀ j, j ≤ i → xs[j]? = some (T j)) ∧ Hid (Has wr (w.heap.size + 1) 3 (i64s xs)) ∧ Hid (Has wr w.heap.size 26 [.slice none 0 0, .bool false, .slice none 0 0]) ∧ Hid (Below w.heap.size w wr))
  case atStart =>
    refine ⟨0, (List.replicate 256 0).set 0 1048576, by omega, rfl, hide (by simp), hide (fun j hj => ?_), ?_, hide (HZ.out.far (p := ⟨w.heap.size + 1, 0, none⟩) (by simp) (.int .i64 1048576)), hide (HB.out.setCell (p := ⟨w.heap.size + 1, 0, none⟩) (by simp) (.int .i64 1048576))⟩
    · obtain rfl : j = 0 := by omega
      rw [HT0.out]
      rfl
    · have h := HG.out.set_ 0 (.int .i64 1048576)
      unfold i64s at h ⊢
      rw [List.map_set]
      exact hide h
  case round =>
    clear HG HZ HB
    obtain ⟨i, xs, hi, rfl, HN, HI, HG, HZ, HB⟩ := hrel
    by_cases hlt : i < 255
    · have him : (i : Int) < 255 := by omega
      have hi0 : (0 : Int) ≤ (i : Int) := by omega
      have hi2 : (i : Int) < 256 := by omega
      have hi3 : (i : Int) + 1 < 256 := by omega
      obtain ⟨v, hv⟩ : ∃ v, Hid (T i = v) := ⟨_, hide rfl⟩
      have hvb := HSI.out i
      rw [hv.out] at hvb
      obtain ⟨f, r, hf, hr, hrl, hs⟩ := HO.out v hvb.1 hvb.2
      have hst := HSS.out i
      rw [hv.out, ← hs] at hst
      obtain ⟨u, hu⟩ : ∃ u, Hid (F64.Flt.clamp (Flt.wv (Flt.round r)) 0 1048576 = u) := ⟨_, hide rfl⟩
      have HWH := hide (fun W => wholeof_c r hrl 0 1048576 W)
      rw [hu.out] at HWH hst
      have HST := hide hst
      have hq : ∀ W : World, (binOp .mul 60 (.float .f64 f) (.float .f64 b)).run Tryd.prog W = .ok (.float .f64 r) W := fun W => run_float_arith (P := Tryd.prog) W .mul 60 .f64 _ _ _ hr
      have gc : wr.cell? ⟨w.heap.size + 1, i, none⟩ = some (.int .i64 v) := by
        rw [HG.out.cell]
        unfold i64s
        rw [List.getElem?_map, HI.out i (Nat.le_refl _), hv.out]
        rfl
      have hin : i + 1 < xs.length := by have := HN.out; omega
      have g1 : wr.cell? ⟨w.heap.size + 1, i + 1, none⟩ = some (.int .i64 (xs[i + 1]'hin)) := by
        rw [HG.out.cell]
        unfold i64s
        rw [List.getElem?_map, List.getElem?_eq_getElem hin]
        rfl
      have gf := HG.out.frozen (i + 1)
      clear hvb hr hrl hs hst hv hu
      go_wp2_with fail
      refine (HWH.out _).mono ?_
      rintro e wq ⟨rfl, hw⟩
      have hw := hw.symm
      subst hw
      go_wp2_with fail
      go_roundg (255 - (i + 1))
      case measure => omega
      case rel =>
        refine ⟨i + 1, xs.set (i + 1) u, by omega, by go_num, hide (by rw [List.length_set]; exact HN.out), hide (fun j hj => ?_), ?_, hide (HZ.out.far (p := ⟨w.heap.size + 1, i + 1, none⟩) (by simp) (.int .i64 u)), hide (HB.out.setCell (p := ⟨w.heap.size + 1, i + 1, none⟩) (by simp) (.int .i64 u))⟩
        · rw [List.getElem?_set]
          by_cases h : i + 1 = j
          · subst h
            rw [if_pos rfl, if_pos (by have := HN.out; omega), ← HST.out]
          · rw [if_neg h]
            exact HI.out j (by omega)
        · have h := HG.out.set_ (i + 1) (.int .i64 u)
          unfold i64s at h ⊢
          rw [List.map_set]
          exact hide h
    · obtain rfl : i = 255 := by omega
      have hx := HTL.out xs HN.out HI.out
      have hzl := HG.out.lt
      have n1 : w.heap.size < wr.heap.size := by omega
      have n2 : ¬ w.heap.size = wr.heap.size := by omega
      have n3 : ¬ wr.heap.size = w.heap.size := by omega
      obtain ⟨z0, z1, z2, zf0, zf1, zf2, HZp, HFp⟩ := elm_three HZ.out HB.out (Nat.le_refl _) (.slice (some ⟨wr.heap.size, 0, none⟩) 1 1) (.bool true) (.slice (some ⟨w.heap.size + 1, 0, none⟩) 256 256)
      have HZf := hide (HZp.out.alloc (.cells #[.int .i64 256] 3))
      have HFf := hide (HFp.out.alloc HFp.out.size (.cells #[.int .i64 256] 3))
      have hnn : ¬ ((255 : Nat) : Int) < 255 := by omega
      have HX := hide hx
      clear hx HTL
      go_wp2_with fail
      refine bodyPost_ret (results_tn rfl _ _ w.heap.size _ _ _ rfl HZf.out) rfl ?_
      refine ⟨⟨⟨some ⟨wr.heap.size, 0, none⟩, [256], 1, true, some ⟨w.heap.size + 1, 0, none⟩, xs, 256⟩, ?_, ⟨(box_at _ 3 (i64s [256]) wr.heap.size (by simp)).ri (by decide), ((((HG.out.far (p := ⟨w.heap.size, 0, none⟩) (by simp) _).far (p := ⟨w.heap.size, 1, none⟩) (by simp) _).far (p := ⟨w.heap.size, 2, none⟩) (by simp) _).alloc _).ri ?_, by show 1 ≤ 1000000; omega, by have := HN.out; show xs.length ≤ _; omega⟩, ⟨?_, ?_⟩, rfl, rfl, HX.out, rfl⟩, HFf.out⟩
      · show _ = Ending.returned (.tuple #[.agg (tcells (some ⟨wr.heap.size, 0, none⟩) 1 1 true (some ⟨w.heap.size + 1, 0, none⟩) xs.length 256), .nilIface])
        rw [HN.out]
        rfl
      · intro z hz
        rw [HX.out] at hz
        have := Sf.table_le b z hz
        exact wf_i64 _ (by omega)
      · intro ad h
        cases h
        show w.heap.size + 1 ≤ wr.heap.size
        omega
      · intro ad h
        cases h
        exact Nat.le_refl _
end Go.Proofs.YtcgjnjchkachdaaDoor
