/-
  cells.fill, cells.Of, cells.All of the operations of package soft; what is lawful of them. By an AI agent. No person has read it.
-/
import Derived.Test.YtcgjnjchkachdaaDoorSftH
namespace Go.Proofs.YtcgjnjchkachdaaDoor
open Go.RowKit

set_option maxRecDepth 100000 in
set_option maxHeartbeats 8000000 in
theorem fill_soft (H : World → Prop) (a b : Ten) (A B : Option Addr) (nq qcap bcap ocap f n : Nat) (g : Option Addr) (w : World) (hR : Row w B ([a, b].flatMap Ten.vals))
    (hV : Calls Tryd.prog 139 #[.slice g n ocap, .int .i64 f, .agg (tcells a.P a.zs.length a.cap a.u a.D a.ds.length a.dcap), .agg (tcells b.P b.zs.length b.cap b.u b.D b.ds.length b.dcap)] w.drew fun e w' => e = .returned (.tuple #[]) ∧ H w') :
    Calls Tryd.prog 125 #[.slice g n ocap, .int .i64 f, .int .i64 16, .slice A nq qcap, .slice B 2 bcap] w fun e w' => e = .returned (.tuple #[]) ∧ H w' := by
  obtain ⟨ad, rfl, -, c0, c1, c2, c3, c4, c5⟩ := row_two hR
  have V := hide hV
  clear hR hV
  go_enter Tryd.func125, Tryd.ntmps125
  go_wp2_with fail
  go_still_tail 8, (by kernel_rfl)
  change wpList _ _ _ _ _ w.drew
  go_wp2_with fail
  refine V.out.mono ?_
  rintro e w1 ⟨rfl, h1⟩
  go_wp2_with fail
  refine bodyPost_end (results_none rfl _ _ _) rfl ?_
  exact ⟨rfl, h1⟩
set_option maxRecDepth 100000 in
set_option maxHeartbeats 8000000 in
theorem fill_gath (H : World → Prop) (a b : Ten) (A B : Option Addr) (nq qcap bcap ocap f n : Nat) (g : Option Addr) (w : World) (hR : Row w B ([a, b].flatMap Ten.vals))
    (hV : Calls Tryd.prog 142 #[.slice g n ocap, .int .i64 f, .agg (tcells a.P a.zs.length a.cap a.u a.D a.ds.length a.dcap), .agg (tcells b.P b.zs.length b.cap b.u b.D b.ds.length b.dcap)] w.drew fun e w' => e = .returned (.tuple #[]) ∧ H w') :
    Calls Tryd.prog 125 #[.slice g n ocap, .int .i64 f, .int .i64 17, .slice A nq qcap, .slice B 2 bcap] w fun e w' => e = .returned (.tuple #[]) ∧ H w' := by
  obtain ⟨ad, rfl, -, c0, c1, c2, c3, c4, c5⟩ := row_two hR
  have V := hide hV
  clear hR hV
  go_enter Tryd.func125, Tryd.ntmps125
  go_wp2_with fail
  go_still_tail 8, (by kernel_rfl)
  change wpList _ _ _ _ _ w.drew
  go_wp2_with fail
  refine V.out.mono ?_
  rintro e w1 ⟨rfl, h1⟩
  go_wp2_with fail
  refine bodyPost_end (results_none rfl _ _ _) rfl ?_
  exact ⟨rfl, h1⟩
set_option maxRecDepth 100000 in
set_option maxHeartbeats 8000000 in
theorem fill_amax (H : World → Prop) (a : Ten) (A B : Option Addr) (nq qcap bcap ocap f n : Nat) (g : Option Addr) (w : World) (hR : Row w B ([a].flatMap Ten.vals))
    (hV : Calls Tryd.prog 140 #[.slice g n ocap, .int .i64 f, .agg (tcells a.P a.zs.length a.cap a.u a.D a.ds.length a.dcap)] w fun e w' => e = .returned (.tuple #[]) ∧ H w') :
    Calls Tryd.prog 125 #[.slice g n ocap, .int .i64 f, .int .i64 19, .slice A nq qcap, .slice B 1 bcap] w fun e w' => e = .returned (.tuple #[]) ∧ H w' := by
  obtain ⟨ad, rfl, -, c0, c1, c2⟩ := row_one hR
  have V := hide hV
  clear hR hV
  go_enter Tryd.func125, Tryd.ntmps125
  go_wp2_with fail
  refine V.out.mono ?_
  rintro e w1 ⟨rfl, h1⟩
  go_wp2_with fail
  refine bodyPost_end (results_none rfl _ _ _) rfl ?_
  exact ⟨rfl, h1⟩
set_option maxRecDepth 100000 in
set_option maxHeartbeats 8000000 in
theorem fill_sum (H : World → Prop) (a : Ten) (A B : Option Addr) (nq qcap bcap ocap f n : Nat) (g : Option Addr) (w : World) (hR : Row w B ([a].flatMap Ten.vals))
    (hV : Calls Tryd.prog 141 #[.slice g n ocap, .int .i64 f, .agg (tcells a.P a.zs.length a.cap a.u a.D a.ds.length a.dcap)] w fun e w' => e = .returned (.tuple #[]) ∧ H w') :
    Calls Tryd.prog 125 #[.slice g n ocap, .int .i64 f, .int .i64 20, .slice A nq qcap, .slice B 1 bcap] w fun e w' => e = .returned (.tuple #[]) ∧ H w' := by
  obtain ⟨ad, rfl, -, c0, c1, c2⟩ := row_one hR
  have V := hide hV
  clear hR hV
  go_enter Tryd.func125, Tryd.ntmps125
  go_wp2_with fail
  refine V.out.mono ?_
  rintro e w1 ⟨rfl, h1⟩
  go_wp2_with fail
  refine bodyPost_end (results_none rfl _ _ _) rfl ?_
  exact ⟨rfl, h1⟩
/-- The last dimension; the first one; the elements of an operation. -/
def Sf.last (a : Ten) : Nat := (a.zs.getD (a.zs.length - 1) 0).toNat
def Sf.dim0 (a : Ten) : Nat := (a.zs.getD 0 0).toNat
def Sf.el (op : Int) : List Ten → Nat → Int
  | [a] => if op = 19 then Sf.amax a.ds (Sf.last a) else Sf.sum a.ds (Sf.last a)
  | [a, b] => if op = 16 then Sf.soft a.ds b.ds (Sf.last a) else Sf.gath a.ds b.ds (Sf.dim0 a) (Sf.last a)
  | _ => fun _ => 0
def Sf.size (op : Int) (ts : List Ten) : Nat := (Shp.prod (Sf.shape op (ts.map Ten.look))).toNat
def Sf.ds (op : Int) (ts : List Ten) : List Int := Sf.part (Sf.el op ts) 0 (Sf.size op ts)
/-- cells.fill fills in an operation's elements. -/
def Sf.Fills (op : Int) (ts : List Ten) (L : Nat) (E : Nat → Int) : Prop :=
  ∀ (os : List Int) (A B : Option Addr) (nq qcap bcap ocap f g : Nat) (w0 w : World), Row w B (ts.flatMap Ten.vals) → (∀ t ∈ ts, t.In w0) → Below w0.heap.size w0 w → w0.heap.size ≤ g → Has w g 3 (i64s os) → f + os.length ≤ L →
    Calls Tryd.prog 125 #[.slice (some ⟨g, 0, none⟩) os.length ocap, .int .i64 f, .int .i64 op, .slice A nq qcap, .slice B ts.length bcap] w fun e w' => e = .returned (.tuple #[]) ∧ Has w' g 3 (i64s (Sf.part E f os.length)) ∧ Below w0.heap.size w0 w'
/-- What is lawful of an operation. -/
structure Sf.Fine (op : Int) (ts : List Ten) : Prop where
  cd : Shp.code (Sf.shape op (ts.map Ten.look)) = 0
  wf : ∀ i, i < Sf.size op ts → -9223372036854775808 ≤ Sf.el op ts i ∧ Sf.el op ts i ≤ 9223372036854775807
  fill : Sf.Fills op ts (Sf.size op ts) (Sf.el op ts)
theorem Sf.size_le {op : Int} {ts : List Ten} (h : Sf.Fine op ts) : Sf.size op ts ≤ 16384 ∧ (Sf.size op ts : Int) = Shp.elems (Sf.shape op (ts.map Ten.look)) := by
  have h1 := Shp.whole h.cd
  unfold Sf.size
  rw [h1.2.2.1]
  omega
theorem Sf.ds_length (op : Int) (ts : List Ten) : (Sf.ds op ts).length = Sf.size op ts := Sf.part_length _ _ _
/-- A tensor as rows of its last dimension. -/
theorem Sf.rows_of {a : Ten} (hf : a.fault = (0, none)) (hz : 0 < a.zs.length) (hd : a.ds.length ≤ a.dcap) : Sf.Rows a a.zs.length (Shp.prod a.zs.dropLast).toNat (Sf.last a) ∧ 1 ≤ Shp.prod a.zs.dropLast ∧ Shp.code a.zs.dropLast = 0 := by
  obtain ⟨h1, h2, -⟩ := Tens.whole hf
  obtain ⟨w1, w2, -, w4, w5⟩ := Shp.whole h1
  have hne : a.zs ≠ [] := by intro h; rw [h] at hz; simp at hz
  have hsn := List.dropLast_concat_getLast hne
  have hl : a.zs.getD (a.zs.length - 1) 0 = a.zs.getLast hne := by
    rw [List.getD_eq_getElem?_getD, List.getLast_eq_getElem, List.getElem?_eq_getElem (by omega)]
    rfl
  have hlm := w2 _ (List.getLast_mem hne)
  have hp : Shp.prod a.zs = Shp.prod a.zs.dropLast * a.zs.getLast hne := by
    conv => lhs; rw [← hsn]
    exact Shp.prod_snoc _ _
  have hda : a.zs.dropLast.all Shp.okDim = true := List.all_eq_true.2 (fun z hz => decide_eq_true (w2 z (List.dropLast_subset _ hz)))
  have hpp := (Shp.prod_pos _ hda).1
  have hle : Shp.prod a.zs.dropLast ≤ Shp.prod a.zs := by
    rw [hp]
    have := Int.mul_le_mul_of_nonneg_left hlm.1 (show 0 ≤ Shp.prod a.zs.dropLast by omega)
    omega
  have hlast : (Sf.last a : Int) = a.zs.getLast hne := by unfold Sf.last; rw [hl]; omega
  refine ⟨⟨rfl, hz, w1, ?_, ?_, ?_, ?_, ?_, hd⟩, hpp, ?_⟩
  · rw [hlast, List.getLast_eq_getElem, List.getElem?_eq_getElem (by omega)]
  · omega
  · omega
  · have h3 : (a.ds.length : Int) = (((Shp.prod a.zs.dropLast).toNat * Sf.last a : Nat) : Int) := by
      rw [h2, hp, Int.natCast_mul, hlast, Int.toNat_of_nonneg (by omega)]
    omega
  · omega
  · unfold Shp.code
    rw [if_neg (by rw [List.length_dropLast]; omega), hda, if_neg (by simp), if_neg (by omega)]
theorem Sf.amax_le (xs : List Int) (n i : Nat) (hn : 1 ≤ n ∧ n ≤ 256) : 0 ≤ Sf.amax xs n i ∧ Sf.amax xs n i ≤ 255 := by
  have := Sf.best_lt (fun j => (Sf.row xs n i).getD j 0) n hn.1
  unfold Sf.amax
  omega
theorem Sf.of_le {s w : Int} (hs : 0 ≤ s ∧ s ≤ 549755813888) (hw : 0 ≤ w ∧ w ≤ 2147483647) : -128 ≤ Sf.of s w ∧ Sf.of s w ≤ 1099511627776 := by
  unfold Sf.of
  split
  · omega
  · have h1 : 0 ≤ 255 * w + s / 2 := by omega
    have h2 := Int.ediv_nonneg h1 hs.1
    have h3 := Int.ediv_le_self s h1
    omega
theorem Sf.fits_wide {u : Bool} {z : Int} (h : Tens.fit u z = true) : -2147483648 ≤ z ∧ z ≤ 2147483647 := by
  cases u
  · unfold Tens.fit at h; simp at h; omega
  · unfold Tens.fit at h; simp at h; omega
end Go.Proofs.YtcgjnjchkachdaaDoor
