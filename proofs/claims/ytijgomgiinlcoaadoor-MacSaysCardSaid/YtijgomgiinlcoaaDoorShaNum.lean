import Derived.Test.YtijgomgiinlcoaaDoorShaFirst
namespace Go.Proofs.YtijgomgiinlcoaaDoor
open Go.RowKit

/-- A number from 0 to below k, of any. -/
def num (n : Int) (k : Nat) : Nat := ((n.tmod k + k).tmod k).toNat
theorem num_lt (n : Int) (k : Nat) (hk : 0 < k) : num n k < k := by
  have h1 : -(k : Int) < n.tmod k := Int.lt_tmod_of_pos n (by omega)
  have h2 := Int.tmod_lt_of_pos (n.tmod k + k) (show (0 : Int) < k by omega)
  have h3 : 0 ≤ (n.tmod k + k).tmod k := Int.tmod_nonneg _ (by omega)
  unfold num; omega
theorem num_eq (n : Int) (k : Nat) (hk : 0 < k) : (n.tmod k + k).tmod k = (num n k : Nat) := by
  have h1 : -(k : Int) < n.tmod k := Int.lt_tmod_of_pos n (by omega)
  have h3 : 0 ≤ (n.tmod k + k).tmod k := Int.tmod_nonneg _ (by omega)
  unfold num; omega

theorem number_c (n : Int) (k : Nat) (hk : 0 < k) (hk2 : k < 1000000) (kI : Int) (hkI : kI = k) (w : World) :
    Calls Tryd.prog 22 #[.int .i64 n, .int .i64 kI] w fun e w' => e = .returned (.int .i64 (num n k : Nat)) ∧ w' = w := by
  subst hkI
  have h0 : (k : Int) ≠ 0 := by omega
  have h1 : -(k : Int) < n.tmod k := Int.lt_tmod_of_pos n (by omega)
  have h2 := Int.tmod_lt_of_pos n (show (0 : Int) < k by omega)
  have e1 := num_eq n k hk
  have e2 : IntKind.i64.wrap (n.tmod k + k) = n.tmod k + k := by
    rw [IntKind.wrap_i64]
    generalize n.tmod k = q at h1 h2 ⊢
    omega
  go_enter Tryd.func22, Tryd.ntmps22
  go_wp2_with fail
  go_ret
  exact ⟨by first | rfl | rw [e1], rfl⟩

theorem Rb.cut {w : World} {A A2 : Option Addr} {bs : List Nat} {cap lo hi : Nat} (h : Rb w A bs) (hA : Hid ((if cap = lo then A else A.map (·.add (lo * 1))) = A2)) (hhi : hi ≤ bs.length) (hc : bs.length ≤ cap) : Rb w A2 ((bs.take hi).drop lo) := by
  refine ⟨(h.1.take _).drop _, fun hn => ?_⟩
  have hl : lo < hi := by
    rcases Nat.lt_or_ge lo hi with h' | h'
    · exact h'
    · exact absurd (List.drop_eq_nil_of_le (by rw [List.length_take]; omega)) hn
  obtain ⟨ad, rfl, h1, h2⟩ := h.2 (by rintro rfl; simp at hhi; omega)
  have e := hA.out
  rw [if_neg (by omega)] at e
  refine ⟨ad.add (lo * 1), e.symm, by rw [block_add]; exact h1, fun i b hi2 => ?_⟩
  rw [add_add']
  rw [List.getElem?_drop, List.getElem?_take] at hi2
  split at hi2
  · rw [Nat.mul_one]; exact h2 _ _ hi2
  · cases hi2
theorem take_cut (bs : List Nat) (lo hi : Nat) (h : lo ≤ hi) : bs.take lo ++ (bs.take hi).drop lo = bs.take hi := by
  have h2 := List.take_append_drop lo (bs.take hi)
  rw [List.take_take, Nat.min_eq_left h] at h2
  exact h2
/-- 'b[lo:hi]'. -/
theorem cut_run (A A2 : Option Addr) (len cap lo hi : Nat) (hA : Hid ((if cap = lo then A else A.map (·.add (lo * 1))) = A2)) (h1 : lo ≤ hi) (h2 : hi ≤ cap) (W : World) :
    (Instr.slice 22 (.slice A len cap) (some (.int .i64 (lo : Int))) (some (.int .i64 (hi : Int))) none).run Tryd.prog W = .ok (.slice A2 (hi - lo) (cap - lo)) W := by
  rw [← hA.out]
  have hu : Tryd.prog.underlying 22 = some (.slice (Tryd.prog.elem 22)) := by kernel_rfl
  have hz : ∀ W : World, (sizeOf (Tryd.prog.elem 22)).run Tryd.prog W = .ok 1 W := fun _ => by kernel_rfl
  rw [run_slice_lh W _ _ _ _ hu _ _ _ _ (by omega) (by omega) (by omega), hz]
  simp only [Result.andThen, sliced, Int.toNat_natCast]
/-- 'b[lo:]'. -/
theorem rest_run (A A2 : Option Addr) (len cap lo : Nat) (hA : Hid ((if cap = lo then A else A.map (·.add (lo * 1))) = A2)) (h1 : lo ≤ len) (W : World) :
    (Instr.slice 22 (.slice A len cap) (some (.int .i64 (lo : Int))) none none).run Tryd.prog W = .ok (.slice A2 (len - lo) (cap - lo)) W := by
  rw [← hA.out]
  have hu : Tryd.prog.underlying 22 = some (.slice (Tryd.prog.elem 22)) := by kernel_rfl
  have hz : ∀ W : World, (sizeOf (Tryd.prog.elem 22)).run Tryd.prog W = .ok 1 W := fun _ => by kernel_rfl
  rw [run_slice_l W _ _ _ _ hu _ _ (by omega) (by omega), hz]
  simp only [Result.andThen, sliced, Int.toNat_natCast]
/-- What is read from P on is just these numbers. -/
def Ri (w : World) (P : Option Addr) (zs : List Int) : Prop := (∀ z ∈ zs, (Lit.int .i64 z).wf = true) ∧ (zs ≠ [] → ∃ ad, P = some ad ∧ ad.block < w.heap.size ∧ ∀ (i : Nat) (z : Int), zs[i]? = some z → w.cell? (ad.add i) = some (.int .i64 z))
theorem Ri.below {w wr : World} {P : Option Addr} {zs : List Int} (h : Ri w P zs) (hb : Below w.heap.size w wr) : Ri wr P zs := by
  refine ⟨h.1, fun hn => ?_⟩
  obtain ⟨ad, e, h1, h2⟩ := h.2 hn
  refine ⟨ad, e, Nat.lt_of_lt_of_le h1 hb.size, fun i b hi => ?_⟩
  rw [hb.cell (p := ad.add i) (by rw [block_add]; exact h1)]
  exact h2 i b hi
end Go.Proofs.YtijgomgiinlcoaaDoor
