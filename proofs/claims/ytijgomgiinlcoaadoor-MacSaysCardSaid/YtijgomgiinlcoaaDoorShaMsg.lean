/-
  Plain lists: a message and what a Hash holds of it: the state behind all whole blocks, and what is left over. Nothing of the program stands here.
-/
import Derived.Test.YtijgomgiinlcoaaDoorShaSpec
namespace Go.Proofs.YtijgomgiinlcoaaDoor.Sha

def blk (m : List Nat) (i : Nat) : List Nat := (m.drop (64 * i)).take 64
def chainN (m : List Nat) : Nat → List Nat
  | 0 => H0
  | k + 1 => compress (chainN m k) (blk m k)
def Bytes (m : List Nat) : Prop := ∀ b ∈ m, b < 256
/-- A Hash with this state and this rest holds the message m. -/
def Holds (m st bs : List Nat) : Prop := st = chainN m (m.length / 64) ∧ bs.length = 64 ∧ bs.take (m.length % 64) = m.drop (64 * (m.length / 64)) ∧ Bytes bs ∧ Bytes m

theorem blk_append (m x : List Nat) (i : Nat) (h : 64 * i + 64 ≤ m.length) : blk (m ++ x) i = blk m i := by
  unfold blk
  rw [List.drop_append_of_le_length (by omega), List.take_append_of_le_length (by simp; omega)]
theorem chainN_append (m x : List Nat) (k : Nat) (h : 64 * k ≤ m.length) : chainN (m ++ x) k = chainN m k := by
  induction k with
  | zero => rfl
  | succ k ih => rw [chainN, chainN, ih (by omega), blk_append m x k (by omega)]
theorem chainN_words (m : List Nat) (k : Nat) : Words (chainN m k) := by
  induction k with
  | zero => exact H0_words
  | succ k ih => exact compress_words ih _
theorem Holds.words {m st bs : List Nat} (h : Holds m st bs) : Words st := by rw [h.1]; exact chainN_words _ _
theorem Bytes.append {a b : List Nat} (h : Bytes a) (k : Bytes b) : Bytes (a ++ b) := fun x hx => by
  rcases List.mem_append.1 hx with hx | hx
  · exact h x hx
  · exact k x hx
theorem Bytes.take {a : List Nat} (h : Bytes a) (n : Nat) : Bytes (a.take n) := fun x hx => h x (List.mem_of_mem_take hx)
theorem Bytes.drop {a : List Nat} (h : Bytes a) (n : Nat) : Bytes (a.drop n) := fun x hx => h x (List.mem_of_mem_drop hx)

/-- What the rest holds when c was laid into it behind the message. -/
def laid (m bs c : List Nat) : List Nat := bs.take (m.length % 64) ++ c ++ bs.drop (m.length % 64 + c.length)
theorem laid_length (m bs c : List Nat) (h : bs.length = 64) (hc : m.length % 64 + c.length ≤ 64) : (laid m bs c).length = 64 := by
  simp [laid, h]; omega
theorem laid_bytes {m bs c : List Nat} (h : Bytes bs) (hc : Bytes c) : Bytes (laid m bs c) := ((h.take _).append hc).append (h.drop _)
theorem Holds.more {m st bs c : List Nat} (h : Holds m st bs) (hb : Bytes c) (hc : m.length % 64 + c.length < 64) : Holds (m ++ c) st (laid m bs c) := by
  obtain ⟨h1, h2, h3, h4, h5⟩ := h
  have e1 : (m ++ c).length / 64 = m.length / 64 := by simp; omega
  have e2 : (m ++ c).length % 64 = m.length % 64 + c.length := by simp; omega
  refine ⟨?_, laid_length _ _ _ h2 (by omega), ?_, laid_bytes h4 hb, h5.append hb⟩
  · rw [e1, h1, chainN_append _ _ _ (by omega)]
  · rw [e1, e2, List.drop_append_of_le_length (by omega), ← h3]
    unfold laid
    rw [List.take_append_of_le_length (by simp [h2]; omega), List.take_of_length_le (by simp [h2]; omega)]
theorem Holds.full {m st bs c : List Nat} (h : Holds m st bs) (hb : Bytes c) (hc : m.length % 64 + c.length = 64) : Holds (m ++ c) (compress st (laid m bs c)) (laid m bs c) := by
  obtain ⟨h1, h2, h3, h4, h5⟩ := h
  have e1 : (m ++ c).length / 64 = m.length / 64 + 1 := by simp; omega
  have e2 : (m ++ c).length % 64 = 0 := by simp; omega
  have e3 : laid m bs c = blk (m ++ c) (m.length / 64) := by
    have a1 : bs.drop (m.length % 64 + c.length) = [] := List.drop_eq_nil_of_le (by omega)
    have a2 : (m ++ c).drop (64 * (m.length / 64)) = m.drop (64 * (m.length / 64)) ++ c := List.drop_append_of_le_length (by omega)
    have a3 : (m.drop (64 * (m.length / 64)) ++ c).length = 64 := by simp; omega
    unfold laid blk
    rw [a1, a2, List.append_nil, h3, List.take_of_length_le (by omega)]
  refine ⟨?_, laid_length _ _ _ h2 (by omega), ?_, laid_bytes h4 hb, h5.append hb⟩
  · rw [e1, chainN, chainN_append _ _ _ (by omega), ← h1, e3]
  · rw [e1, e2, List.drop_eq_nil_of_le (by simp; omega)]
    rfl
theorem Holds.none : Holds [] H0 (List.replicate 64 0) := by
  refine ⟨rfl, rfl, rfl, ?_, fun x hx => by cases hx⟩
  intro x hx
  rw [List.mem_replicate] at hx
  omega
end Go.Proofs.YtijgomgiinlcoaaDoor.Sha
