/-
  cells.fill, Of, All and One of an operation that gives another shape, walked. By an AI agent. No person has read it.
-/
import Derived.Test.YtgdcfjmpjhlndaaDoorZEOpJ
import Derived.Test.YtgdcfjmpjhlndaaDoorZEOpE
namespace Go.Proofs.YtgdcfjmpjhlndaaDoor
open Go.RowKit
/-- 'x[lo:]'. -/
theorem cut_rest_run (A A2 : Option Addr) (len cap lo : Nat) (hA : Hid ((if cap = lo then A else A.map (·.add (lo * 1))) = A2)) (h1 : lo ≤ len) (W : World) :
    (Instr.slice 22 (.slice A len cap) (some (.int .i64 (lo : Int))) none none).run Tryd.prog W = .ok (.slice A2 (len - lo) (cap - lo)) W := by
  rw [← hA.out]
  have hu : Tryd.prog.underlying 22 = some (.slice (Tryd.prog.elem 22)) := by kernel_rfl
  have hz : ∀ W : World, (sizeOf (Tryd.prog.elem 22)).run Tryd.prog W = .ok 1 W := fun _ => by kernel_rfl
  rw [run_slice_l W _ _ _ _ hu _ _ (by omega) (by omega), hz]
  simp only [Result.andThen, sliced, Int.toNat_natCast]
def Op.cut (ds : List Int) (f n : Nat) : List Int := (ds.drop f).take n
theorem Op.cut_length {ds : List Int} {f n : Nat} (h : f + n ≤ ds.length) : (Op.cut ds f n).length = n := by
  unfold Op.cut
  rw [List.length_take, List.length_drop]
  omega
set_option maxRecDepth 100000 in
set_option maxHeartbeats 4000000 in
theorem fill_shape (a : Ten) (A B : Option Addr) (nq qcap bcap ocap f n g : Nat) (cur : List Int) (w0 w : World) (hR : Row w B ([a].flatMap Ten.vals)) (ha : a.In w) (hd : a.ds.length ≤ a.dcap) (hB : Below w0.heap.size w0 w) (hg : w0.heap.size ≤ g) (hG : Has w g 3 (i64s cur)) (hc : cur.length = n) (hn : 1 ≤ n) (hf : f + n ≤ a.ds.length) :
    Calls Tryd.prog 105 #[.slice (some ⟨g, 0, none⟩) n ocap, .int .i64 f, .int .i64 18, .slice A nq qcap, .slice B 1 bcap] w fun e w' => e = .returned (.tuple #[]) ∧ Has w' g 3 (i64s (Op.cut a.ds f n)) ∧ Below w0.heap.size w0 w' := by
  obtain ⟨ad, rfl, -, c0, c1, c2⟩ := row_one hR
  obtain ⟨pd, hpd, -, hpc⟩ := ha.dat.2 (by intro h; rw [h] at hf; simp at hf; omega)
  have hcl := Op.cut_length hf
  have hsrc : ∀ (j : Nat) (z : Int), (Op.cut a.ds f n)[j]? = some z → w.cell? ((pd.add f).add j) = some (.int .i64 z) := fun j z hz => by
    unfold Op.cut at hz
    rw [List.getElem?_take] at hz
    split at hz
    · rw [List.getElem?_drop] at hz
      have h := hpc (f + j) z hz
      rw [Addr.add_add]
      exact h
    · cases hz
  obtain ⟨w9, hcp, HD9, -, k2, -⟩ := copy_run w 3 g 0 n ocap (pd.add f) (a.ds.length - f) (a.dcap - f) cur (Op.cut a.ds f n) hG (by rw [hcl]; exact (Nat.min_eq_right (by omega)).symm) hsrc (by rw [hcl, hc]; omega)
  have hD : Has w9 g 3 (i64s (Op.cut a.ds f n)) := by
    have h0 : cur.drop n = [] := by rw [← hc, List.drop_length]
    rw [List.take_zero, List.nil_append, Nat.zero_add, hcl, h0, List.append_nil] at HD9
    exact HD9
  have HD := hide hD
  have HB := hide (k2 _ _ hg hB)
  have hs := fun W => cut_rest_run (some pd) (some (pd.add f)) a.ds.length a.dcap f (hide (by rw [if_neg (by omega), Nat.mul_one]; rfl)) (by omega) W
  rw [hpd] at c2
  obtain ⟨m, hm⟩ : ∃ n, Hid (a.ds.length = n) := ⟨_, hide rfl⟩
  rw [hm.out] at c2 hs hcp
  clear hR ha hd hB hg hG hc hn hf hpd hpc hcl hsrc HD9 hD k2 hm
  go_enter Tryd.func105, Tryd.ntmps105
  go_wp2_with fail
  refine bodyPost_end (results_none rfl _ _ _) rfl ?_
  exact ⟨rfl, HD.out, HB.out⟩
/-- cells.Of, from a place on, so many. -/
theorem shof_c (a : Ten) (A B : Option Addr) (nq qcap bcap f n : Nat) (w : World) (hR : Row w B ([a].flatMap Ten.vals)) (ha : a.In w) (hd : a.ds.length ≤ a.dcap) (hn : 1 ≤ n) (hf : f + n ≤ a.ds.length) :
    Calls Tryd.prog 97 #[.int .i64 18, .slice A nq qcap, .int .i64 f, .int .i64 ((f + n : Nat) : Int), .slice B 1 bcap] w fun e w' => (∃ g, e = .returned (.slice (some ⟨g, 0, none⟩) n n) ∧ w.heap.size ≤ g ∧ Has w' g 3 (i64s (Op.cut a.ds f n))) ∧ Below w.heap.size w w' := by
  have hl := ha.ld
  exact of_any (Op.cut a.ds f n) 18 A B nq qcap 1 bcap f n w (by omega) fun W g hB hg hG =>
    fill_shape a A B nq qcap bcap n f n g (List.replicate n 0) w W (hR.below hB) (ha.below hB) hd hB hg hG (by simp) hn hf
end Go.Proofs.YtgdcfjmpjhlndaaDoor
namespace Go.Proofs.YtgdcfjmpjhlndaaDoor
open Go.RowKit
/-- Behind each other: a tensor that is lawful, what op.Apply answers then. -/
def OpG (w : World) (zs : List Int) (u : Bool) (rs : List Int) (e : Ending) (w' : World) : Prop :=
  (∃ t : Ten, e = .returned (.tuple #[.agg (tcells t.P t.zs.length t.cap t.u t.D t.ds.length t.dcap), .nilIface]) ∧ t.In w' ∧ t.zs = zs ∧ t.u = u ∧ t.ds = rs ∧ t.ds.length ≤ t.dcap) ∧ Below w.heap.size w w'
theorem OpT.good {w w' : World} {ah am ar ak : Addr} {zs : List Int} {u : Bool} {rs : List Int} {e : Ending} (h : OpT w ah am ar ak (0, none) (0, zs, u) rs e w') : OpG w zs u rs e w' := by
  obtain ⟨⟨t, x, rfl, h1, h2, -, h3⟩, hb⟩ := h
  obtain ⟨e1, e2, e3, e4⟩ := h2 rfl
  obtain rfl : x = .nilIface := h3
  exact ⟨⟨t, rfl, h1, e1, e2, e3, e4⟩, hb⟩
end Go.Proofs.YtgdcfjmpjhlndaaDoor
