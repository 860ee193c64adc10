/-
  Package op's look, Apply and Element, given what cells.All and cells.One answer, walked. By an AI agent. No person has read it.
-/
import Derived.Test.YtgdcfjmpjhlndaaDoorZSCnvC
namespace Go.Proofs.YtgdcfjmpjhlndaaDoor
open Go.RowKit
/-- What is amiss with an operation of tensors. -/
def Op.fault (op : Int) (qs : List Int) (ts : List Ten) : Nat × Option Nat := Cel.fault ts (Op.look op qs (ts.map Ten.look)).1
theorem Elm.Err.fart3 {W : World} {ah am ar ak : Addr} {v : Value} {R : Nat × Option Nat} (h : Elm.Err W ah am ar ak v R) {b : Nat} {t : TypeId} {cs : List Value} (hb : Has W b t cs) (ht : t ≠ 104) (x y z : Value) : Elm.Err (((W.setCell ⟨b, 0, none⟩ x).setCell ⟨b, 1, none⟩ y).setCell ⟨b, 2, none⟩ z) ah am ar ak v R := by
  unfold Elm.Err at h ⊢
  split at h
  · rename_i hr
    rw [if_pos hr]
    exact h
  · rename_i hr
    rw [if_neg hr]
    exact TErr.fart3 h hb ht x y z
theorem Elm.Err.low {W W' : World} {ah am ar ak : Addr} {v : Value} {R : Nat × Option Nat} (h : Elm.Err W ah am ar ak v R) (hb : Below W.heap.size W W') : Elm.Err W' ah am ar ak v R := by
  unfold Elm.Err at h ⊢
  split at h
  · rename_i hr
    rw [if_pos hr]
    exact h
  · rename_i hr
    rw [if_neg hr]
    exact TErr.down h hb
theorem Elm.Err.of {W : World} {ah am ar ak : Addr} {v : Value} {R : Nat × Option Nat} (h : TErr W ah am ar v R) (hr : R ≠ (103, none)) : Elm.Err W ah am ar ak v R := by
  unfold Elm.Err
  rw [if_neg hr]
  exact h
theorem Elm.Err.code {W : World} {ah am ar ak : Addr} (k : Nat) : Elm.Err W ah am ar ak (Elm.err ah am ar ak k) (k, none) := by
  unfold Elm.Err Elm.err
  by_cases h : k = 103
  · rw [if_pos (by rw [h]), if_pos h]
  · rw [if_neg (fun e => h (congrArg Prod.fst e)), if_neg h]
    rfl
theorem Op.flat_len (ts : List Ten) : (ts.map Ten.look).length = ts.length := List.length_map ..
theorem Ri.keep {w : World} {P : Option Addr} {zs : List Int} (h : Ri w P zs) {b : Nat} (hP : ∀ ad, P = some ad → ad.block ≠ b) (i : Nat) (x : Value) : Ri (w.setCell ⟨b, i, none⟩ x) P zs := by
  refine ⟨h.1, fun hz => ?_⟩
  obtain ⟨ad, h1, h2, h3⟩ := h.2 hz
  refine ⟨ad, h1, by simpa using h2, fun j z hj => ?_⟩
  rw [World.cell?_setCell_far _ _ _ _ (by rw [ad_block]; exact Ne.symm (hP ad h1))]
  exact h3 j z hj
theorem Op.fault_cases (op : Int) (qs : List Int) (ts : List Ten) : Op.fault op qs ts = (0, none) ∨ Op.fault op qs ts = (101, none) ∨ Op.fault op qs ts = (102, none) ∨ Op.fault op qs ts = (103, none) ∨ Op.fault op qs ts = (104, none) ∨ ∃ i, Op.fault op qs ts = (102, some i) := by
  unfold Op.fault Cel.fault
  split
  · rcases Op.look_known op qs (ts.map Ten.look) with h | h | h | h | h <;> rw [h] <;> simp
  · rcases Tens.first_cases ts with h | h | h | h | ⟨i, h⟩ <;> rw [h] <;> simp
theorem Elm.Err.errv {W : World} {ah am ar ak : Addr} {v : Value} {R : Nat × Option Nat} (h : Elm.Err W ah am ar ak v R) (hc : R = (0, none) ∨ R = (101, none) ∨ R = (102, none) ∨ R = (103, none) ∨ R = (104, none) ∨ ∃ i, R = (102, some i)) (hn : R ≠ (0, none)) : ErrV v := by
  unfold Elm.Err at h
  by_cases h3 : R = (103, none)
  · rw [if_pos h3] at h
    exact .inl ⟨_, h⟩
  · rw [if_neg h3] at h
    refine TErr.errv h ?_ hn
    rcases hc with h | h | h | h | h | h
    · exact .inl h
    · exact .inr (.inl h)
    · exact .inr (.inr (.inl h))
    · exact absurd h h3
    · exact .inr (.inr (.inr (.inl h)))
    · exact .inr (.inr (.inr (.inr h)))
end Go.Proofs.YtgdcfjmpjhlndaaDoor
namespace Go.Proofs.YtgdcfjmpjhlndaaDoor
open Go.RowKit
/-- 'x[lo:]'. -/
theorem cut_rest_run (A A2 : Option Addr) (len cap lo : Nat) (hA : Hid ((if cap = lo then A else A.map (·.add (lo * 1))) = A2)) (h1 : lo ≤ len) (W : World) :
    (Instr.slice 22 (.slice A len cap) (some (.int .i64 (lo : Int))) none none).run Tryd.prog W = .ok (.slice A2 (len - lo) (cap - lo)) W := by
  rw [← hA.out]
  have hu : Tryd.prog.underlying 22 = some (.slice (Tryd.prog.elem 22)) := by kernel_rfl
  have hz : ∀ W : World, (sizeOf (Tryd.prog.elem 22)).run Tryd.prog W = .ok 1 W := fun _ => by kernel_rfl
  rw [run_slice_l W _ _ _ _ hu _ _ (by omega) (by omega), hz]
  simp only [Result.andThen, sliced, Int.toNat_natCast]
def Op.cut (ds : List Int) (f n : Nat) : List Int := (ds.drop f).take n
theorem Op.cut_length {ds : List Int} {f n : Nat} (h : f + n ≤ ds.length) : (Op.cut ds f n).length = n := by
  unfold Op.cut
  rw [List.length_take, List.length_drop]
  omega
set_option maxRecDepth 100000 in
set_option maxHeartbeats 4000000 in
theorem fill_shape (a : Ten) (A B : Option Addr) (nq qcap bcap ocap f n g : Nat) (cur : List Int) (w0 w : World) (hR : Row w B ([a].flatMap Ten.vals)) (ha : a.In w) (hd : a.ds.length ≤ a.dcap) (hB : Below w0.heap.size w0 w) (hg : w0.heap.size ≤ g) (hG : Has w g 3 (i64s cur)) (hc : cur.length = n) (hn : 1 ≤ n) (hf : f + n ≤ a.ds.length) :
    Calls Tryd.prog 105 #[.slice (some ⟨g, 0, none⟩) n ocap, .int .i64 f, .int .i64 18, .slice A nq qcap, .slice B 1 bcap] w fun e w' => e = .returned (.tuple #[]) ∧ Has w' g 3 (i64s (Op.cut a.ds f n)) ∧ Below w0.heap.size w0 w' := by
  obtain ⟨ad, rfl, -, c0, c1, c2⟩ := row_one hR
  obtain ⟨pd, hpd, -, hpc⟩ := ha.dat.2 (by intro h; rw [h] at hf; simp at hf; omega)
  have hcl := Op.cut_length hf
  have hsrc : ∀ (j : Nat) (z : Int), (Op.cut a.ds f n)[j]? = some z → w.cell? ((pd.add f).add j) = some (.int .i64 z) := fun j z hz => by
    unfold Op.cut at hz
    rw [List.getElem?_take] at hz
    split at hz
    · rw [List.getElem?_drop] at hz
      have h := hpc (f + j) z hz
      rw [Addr.add_add]
      exact h
    · cases hz
  obtain ⟨w9, hcp, HD9, -, k2, -⟩ := copy_run w 3 g 0 n ocap (pd.add f) (a.ds.length - f) (a.dcap - f) cur (Op.cut a.ds f n) hG (by rw [hcl]; exact (Nat.min_eq_right (by omega)).symm) hsrc (by rw [hcl, hc]; omega)
  have hD : Has w9 g 3 (i64s (Op.cut a.ds f n)) := by
    have h0 : cur.drop n = [] := by rw [← hc, List.drop_length]
    rw [List.take_zero, List.nil_append, Nat.zero_add, hcl, h0, List.append_nil] at HD9
    exact HD9
  have HD := hide hD
  have HB := hide (k2 _ _ hg hB)
  have hs := fun W => cut_rest_run (some pd) (some (pd.add f)) a.ds.length a.dcap f (hide (by rw [if_neg (by omega), Nat.mul_one]; rfl)) (by omega) W
  rw [hpd] at c2
  obtain ⟨m, hm⟩ : ∃ n, Hid (a.ds.length = n) := ⟨_, hide rfl⟩
  rw [hm.out] at c2 hs hcp
  clear hR ha hd hB hg hG hc hn hf hpd hpc hcl hsrc HD9 hD k2 hm
  go_enter Tryd.func105, Tryd.ntmps105
  go_wp2_with fail
  refine bodyPost_end (results_none rfl _ _ _) rfl ?_
  exact ⟨rfl, HD.out, HB.out⟩
/-- cells.Of, from a place on, so many. -/
theorem shof_c (a : Ten) (A B : Option Addr) (nq qcap bcap f n : Nat) (w : World) (hR : Row w B ([a].flatMap Ten.vals)) (ha : a.In w) (hd : a.ds.length ≤ a.dcap) (hn : 1 ≤ n) (hf : f + n ≤ a.ds.length) :
    Calls Tryd.prog 97 #[.int .i64 18, .slice A nq qcap, .int .i64 f, .int .i64 ((f + n : Nat) : Int), .slice B 1 bcap] w fun e w' => (∃ g, e = .returned (.slice (some ⟨g, 0, none⟩) n n) ∧ w.heap.size ≤ g ∧ Has w' g 3 (i64s (Op.cut a.ds f n))) ∧ Below w.heap.size w w' := by
  have hl := ha.ld
  exact of_any (Op.cut a.ds f n) 18 A B nq qcap 1 bcap f n w (by omega) fun W g hB hg hG =>
    fill_shape a A B nq qcap bcap n f n g (List.replicate n 0) w W (hR.below hB) (ha.below hB) hd hB hg hG (by simp) hn hf
end Go.Proofs.YtgdcfjmpjhlndaaDoor
