/-
  What the law TensBack's walk asks for. By an AI agent. No person has read it.
-/
import Derived.Test.YtnbjcdmiehnceaaDoorTenRi
import Derived.Test.YtnbjcdmiehnceaaDoorTenH
import Derived.Test.YtnbjcdmiehnceaaDoorErrD
namespace Go.Proofs.YtnbjcdmiehnceaaDoor
open Go.RowKit

/-- The five errors that tensors' bytes are told by. -/
def TErrs (es : List Addr) (ah am ar ae ak : Addr) : Prop := es[0]? = some ah ∧ es[3]? = some am ∧ es[1]? = some ar ∧ es[4]? = some ae ∧ es[2]? = some ak
theorem TErrs.e3 {es : List Addr} {ah am ar ae ak : Addr} (h : TErrs es ah am ar ae ak) {W : World} (hz : Ez W es) : E3 W ah am ar := ⟨hz.2.2 0 _ ah rfl h.1, hz.2.2 3 _ am rfl h.2.1, hz.2.2 1 _ ar rfl h.2.2.1⟩
theorem TErrs.end_ {es : List Addr} {ah am ar ae ak : Addr} (h : TErrs es ah am ar ae ak) {W : World} (hz : Ez W es) : ErrIs W 3 ae := hz.2.2 4 _ ae rfl h.2.2.2.1
theorem TErrs.kind {es : List Addr} {ah am ar ae ak : Addr} (h : TErrs es ah am ar ae ak) {W : World} (hz : Ez W es) : ErrIs W 4 ak := hz.2.2 2 _ ak rfl h.2.2.2.2
theorem terrs_of {w : World} {es : List Addr} (h : Ez w es) : ∃ ah am ar ae ak, TErrs es ah am ar ae ak := by
  have g : ∀ i, i < 21 → ∃ a, es[i]? = some a := fun i hi => ⟨_, List.getElem?_eq_getElem (by rw [h.1]; exact hi)⟩
  obtain ⟨ah, h0⟩ := g 0 (by decide)
  obtain ⟨am, h3⟩ := g 3 (by decide)
  obtain ⟨ar, h1⟩ := g 1 (by decide)
  obtain ⟨ae, h4⟩ := g 4 (by decide)
  obtain ⟨ak, h2⟩ := g 2 (by decide)
  exact ⟨ah, am, ar, ae, ak, h0, h3, h1, h4, h2⟩
theorem Ez.low {w : World} {es : List Addr} (h : Ez w es) (g : Nat) (a : Addr) (hi : ∃ i : Nat, egs[i]? = some g ∧ es[i]? = some a) : g < w.heap.size ∧ a.block < w.heap.size := by
  obtain ⟨i, h1, h2⟩ := hi
  have := h.2.2 i g a h1 h2
  exact ⟨this.2.1, this.2.2.1⟩
theorem Ez.grown {w w' : World} {es : List Addr} {row : Option Nat} (h : Ez w es) (hb : w.grownBy w' row) (hr : ∀ k, row = some k → ∀ g a, (∃ i : Nat, egs[i]? = some g ∧ es[i]? = some a) → True → k ≠ g ∧ k ≠ a.block) : Ez w' es :=
  ⟨h.1, h.2.1, fun i g a h1 h2 => (h.2.2 i g a h1 h2).grown hb fun k e => hr k e g a ⟨i, h1, h2⟩ trivial⟩
/-- A row of bytes of the call's own, as a slice that reads so. -/
theorem own_rbs {w : World} {base n : Nat} {v : Value} {bs : List Nat} (h : w.ownsRow base 5 1 v n (u8s bs)) (hb : ∀ b ∈ bs, b < 256) : ∃ A c, v = .slice A n c ∧ Rb w A bs ∧ n ≤ c := by
  have hl : bs.length = n := by have := h.1; simpa [u8s] using this
  rcases h.2 with ⟨rfl, rfl⟩ | ⟨g, cap, cur, rfl, h2, h3, h4, h5, h6, h7⟩
  · have : bs = [] := List.length_eq_zero_iff.1 hl
    subst this
    exact ⟨none, 0, rfl, ⟨hb, fun h => absurd rfl h⟩, Nat.le_refl _⟩
  · refine ⟨some ⟨g, 0, none⟩, cap, rfl, ⟨hb, fun _ => ⟨_, rfl, ?_, fun i b hi => ?_⟩⟩, h4⟩
    · rcases Nat.lt_or_ge g w.heap.size with hlt | hge
      · exact hlt
      · rw [Array.getElem?_eq_none hge] at h3; cases h3
    · have hc : Has w g 5 cur.toList := h3
      have hi2 := (List.getElem?_eq_some_iff.1 hi).1
      rw [Addr.add_lit, hc.cell, Nat.zero_add]
      have e : cur.toList = (u8s bs) ++ cur.toList.drop (n * 1) := by rw [← h7, List.take_append_drop]
      rw [e, List.getElem?_append_left (by simpa [u8s] using hi2)]
      simp [u8s, hi]
theorem Rb.take {w : World} {A : Option Addr} {bs : List Nat} (h : Rb w A bs) (k : Nat) : Rb w A (bs.take k) := by
  refine ⟨fun b hb => h.1 b (List.mem_of_mem_take hb), fun hn => ?_⟩
  obtain ⟨ad, e, h1, h2⟩ := h.2 (by rintro rfl; simp at hn)
  refine ⟨ad, e, h1, fun i b hi => h2 i b ?_⟩
  rw [List.getElem?_take] at hi
  split at hi
  · exact hi
  · cases hi
/-- 'b[:k]'. -/
theorem head_run (A : Option Addr) (len cap k : Nat) (h : k ≤ cap) (W : World) : (Instr.slice 69 (.slice A len cap) none (some (.int .i64 (k : Int))) none).run Tryd.prog W = .ok (.slice A k cap) W := by
  have hu : Tryd.prog.underlying 69 = some (.slice (Tryd.prog.elem 69)) := by kernel_rfl
  have hz : ∀ W : World, (sizeOf (Tryd.prog.elem 69)).run Tryd.prog W = .ok 1 W := fun _ => by kernel_rfl
  rw [run_slice_h W _ _ _ _ hu _ _ (by omega) (by omega), hz]
  simp only [Result.andThen, sliced, Int.toNat_natCast]
  cases A <;> simp [Addr.add]
theorem Tens.rn_le (bs : List Nat) : Tens.rn bs ≤ 15 := by
  cases bs with
  | nil => decide
  | cons h t => show 1 + 2 * (h % 8) ≤ 15; omega
theorem Tens.bytes_pos {zs ds : List Int} {u : Bool} (h : Tens.fault zs u ds = (0, none)) : 0 < (Tens.bytes zs u ds).length := by
  unfold Tens.bytes
  rw [if_pos h, List.length_append, Pk.desc_length]
  omega
theorem Tens.fault_zero0 {zs ds : List Int} {u : Bool} (h : Tens.fault zs u ds = (0, none)) : Shp.code zs = 0 := by
  have := (Tens.fine h).1
  unfold Shp.ok at this
  exact of_decide_eq_true this
theorem Tens.nums_raw {zs ds : List Int} {u : Bool} (h : Tens.fault zs u ds = (0, none)) : Tens.nums u (Tens.raw zs u ds) = ds := by
  unfold Tens.raw
  rw [if_pos h]
  refine Tens.nums_of u ds fun z hz => ?_
  obtain ⟨j, hj, rfl⟩ := List.getElem_of_mem hz
  exact (Tens.fine h).2.2.2 j _ (List.getElem?_eq_getElem hj)
end Go.Proofs.YtnbjcdmiehnceaaDoor
