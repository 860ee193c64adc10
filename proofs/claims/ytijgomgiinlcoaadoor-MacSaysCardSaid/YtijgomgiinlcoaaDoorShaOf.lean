import Derived.Test.YtijgomgiinlcoaaDoorShaSum
namespace Go.Proofs.YtijgomgiinlcoaaDoor
open Go.RowKit

/-- What is read from A on is just these bytes, in memory that is there. -/
def Rb (w : World) (A : Option Addr) (bs : List Nat) : Prop := Sha.Bytes bs ∧ (bs ≠ [] → ∃ ad, A = some ad ∧ ad.block < w.heap.size ∧ ∀ (i b : Nat), bs[i]? = some b → w.cell? (ad.add i) = some (.int .u8 b))
/-- The slices that lie from P on are just these parts. -/
def Parts (w : World) (P : Option Addr) (ps : List (List Nat)) : Prop := ∀ (i : Nat) (p : List Nat), ps[i]? = some p → ∃ ad A cap, P = some ad ∧ ad.block < w.heap.size ∧ w.cell? (ad.add i) = some (.slice A p.length cap) ∧ p.length ≤ cap ∧ cap ≤ 9223372036854775807 ∧ Rb w A p
theorem Rb.rd {w wr : World} {A : Option Addr} {bs : List Nat} {g : Nat} (h : Rb w A bs) (hb : Below w.heap.size w wr) (hg : w.heap.size ≤ g) : Rd wr g A bs := by
  refine ⟨h.1, fun hn => ?_⟩
  obtain ⟨ad, e, h1, h2⟩ := h.2 hn
  refine ⟨ad, e, by omega, Nat.lt_of_lt_of_le h1 hb.size, fun i b hi => ?_⟩
  rw [hb.cell (p := ad.add i) (by rw [block_add]; exact h1)]
  exact h2 i b hi
theorem Rb.below {w wr : World} {A : Option Addr} {bs : List Nat} (h : Rb w A bs) (hb : Below w.heap.size w wr) : Rb wr A bs := by
  refine ⟨h.1, fun hn => ?_⟩
  obtain ⟨ad, e, h1, h2⟩ := h.2 hn
  refine ⟨ad, e, Nat.lt_of_lt_of_le h1 hb.size, fun i b hi => ?_⟩
  rw [hb.cell (p := ad.add i) (by rw [block_add]; exact h1)]
  exact h2 i b hi

theorem flat_le (ps : List (List Nat)) (i : Nat) (p : List Nat) (h : ps[i]? = some p) : (ps.take i).flatten.length + p.length ≤ ps.flatten.length := by
  induction ps generalizing i with
  | nil => simp at h
  | cons a l ih =>
    cases i with
    | zero => simp at h; subst h; simp
    | succ i => simp at h ⊢; have := ih i h; simp at this; omega
theorem flat_succ (ps : List (List Nat)) (i : Nat) (p : List Nat) (h : ps[i]? = some p) : (ps.take i).flatten ++ p = (ps.take (i + 1)).flatten := by
  rw [List.take_add_one, h]
  simp

/-- How far an Of has come. -/
def OfInv (w : World) (ps : List (List Nat)) (i : Nat) (wr : World) : Prop := HashIs wr (w.heap.size + 1) (ps.take i).flatten ∧ Below w.heap.size w wr ∧ Has wr w.heap.size 24 (u8s (List.replicate 32 0))

set_option maxRecDepth 100000 in
set_option maxHeartbeats 4000000 in
theorem of_c (P : Option Addr) (ps : List (List Nat)) (cap : Nat) (w : World) (hP : Parts w P ps) (hn : ps.length ≤ 9223372036854775807) (hlen : ps.flatten.length < 1099511627000) (hT : Table w) :
    Calls Tryd.prog 17 #[.slice P ps.length cap] w fun e w' => e = .returned (.agg (u8s (Sha.digest ps.flatten)).toArray) ∧ Below w.heap.size w w' := by
  go_enter Tryd.func17, Tryd.ntmps17
  go_wp2_with fail
  refine (new_c _).mono ?_
  rintro e w1 ⟨rfl, hH1, hB1⟩
  simp only [World.size_alloc] at hH1 hB1
  have hI1 : OfInv w ps 0 w1 := ⟨by simpa using hH1, ((Below.refl _ _).alloc (Nat.le_refl _) _).trans (hB1.mono (by omega)), (Has.new w 24 (u8s (List.replicate 32 0))).below hB1 (by omega)⟩
  go_wp2_with fail
  go_loopw [9] (fun v wr => ∃ i : Nat, i ≤ ps.length ∧ v = .int .i64 i ∧ OfInv w ps i wr) (fun v _ => ps.length - (intOf v).toNat)
  case atStart => exact ⟨0, by omega, rfl, hI1⟩
  case round =>
    obtain ⟨i, hi, rfl, hI⟩ := hrel
    by_cases hlt : i < ps.length
    · obtain ⟨p, hp⟩ : ∃ p, ps[i]? = some p := ⟨_, List.getElem?_eq_getElem hlt⟩
      obtain ⟨ad, A, cp, rfl, ha, hc, hc1, hc2, hr⟩ := hP i p hp
      have hcell := (hI.2.1.cell (p := ad.add i) (by rw [block_add]; exact ha)).trans hc
      have HP := hide hp
      have HPP := hide hP
      clear hp hP hc
      have hfl := flat_le ps i p HP.out
      go_wp2_with fail
      refine (write_c (w.heap.size + 1) (ps.take i).flatten p A cp wr hI.1 (hr.rd hI.2.1 (by omega)) (by omega) hc1 hc2 (hT.below hI.2.1)).mono ?_
      rintro e w6 ⟨rfl, hH6, hG6⟩
      rw [flat_succ ps i p HP.out] at hH6
      go_wp2_with fail
      go_roundw
      case rel => exact ⟨i + 1, by omega, by go_num, hH6, hI.2.1.trans (below_of_grown hG6 (by omega) hI.2.1.size), hI.2.2.grown hG6 (by simp)⟩
      case measure => simp [intOf]; omega
    · obtain rfl : i = ps.length := by omega
      obtain ⟨hH, hB, hr⟩ := hI
      rw [List.take_length] at hH
      go_wp2_with fail
      refine (sum_c (w.heap.size + 1) ps.flatten wr hH hlen (hT.below hB)).mono ?_
      rintro e w6 ⟨rfl, hB6⟩
      obtain ⟨D, hD⟩ : ∃ D : Array Value, Hid ((u8s (Sha.digest ps.flatten)).toArray = D) := ⟨_, rfl⟩
      have hDs : Hid ((Tryd.prog.info? 24).map (·.size) = some D.size) := by
        rw [← hD.out]
        show _ = some ((u8s (Sha.digest ps.flatten)).toArray).size
        rw [List.size_toArray, List.length_map, Sha.digest_length]
        kernel_rfl
      have hDl : Hid ((u8s (List.replicate 32 0)).toArray.size = D.size) := by
        rw [← hD.out]
        simp [Hid, Sha.digest_length]
      have hD1 : Hid (D.all (·.oneCell') = true) := by
        rw [← hD.out]
        simp [Hid, Function.comp_def, Value.oneCell']
      have q2' : Hid (w6.heap[w.heap.size]? = some (.cells (u8s (List.replicate 32 0)).toArray 24 (0, 0))) := hr.below hB6 hr.lt
      rw [hD.out]
      go_wp2_with (refine wpList_store_row rfl 24 (.tmp 2) (.tmp 18) rfl w.heap.size D rfl rfl _ _ q2'.out hDs.out hDl.out hD1.out ?_)
      refine bodyPost_ret (results_cell_row rfl _ _ w.heap.size 24 D (0, 0) _ rfl (setRow_heap _ _ _ _ _ _ q2'.out) Tryd.underlying24 rfl hDs.out) rfl ?_
      exact ⟨by rw [hD.out], below_setRow (hB.trans (hB6.mono hB.size)) (Nat.le_refl _) _⟩
end Go.Proofs.YtijgomgiinlcoaaDoor
