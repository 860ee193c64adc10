/-
  Plain lists: the padding of a message, and its digest. Nothing of the program stands here.
-/
import Derived.Test.YtijgomgiinlcoaaDoorShaMsg
namespace Go.Proofs.YtijgomgiinlcoaaDoor.Sha

/-- How many zeros stand behind the first bit. -/
def zeros (n : Nat) : Nat := (119 - n % 64) % 64
def pad0 (m : List Nat) (j : Nat) : List Nat := m ++ [128] ++ List.replicate j 0
def be8 (x : Nat) : List Nat := [x / 2 ^ 56 % 256, x / 2 ^ 48 % 256, x / 2 ^ 40 % 256, x / 2 ^ 32 % 256, x / 2 ^ 24 % 256, x / 2 ^ 16 % 256, x / 2 ^ 8 % 256, x / 2 ^ 0 % 256]
def pad1 (m : List Nat) (i : Nat) : List Nat := pad0 m (zeros m.length) ++ (be8 (m.length * 8)).take i
def pad (m : List Nat) : List Nat := pad1 m 8
def split4 (x : Nat) : List Nat := [x / 16777216 % 256, x / 65536 % 256, x / 256 % 256, x % 256]
def bytesOf : List Nat → List Nat
  | [] => []
  | x :: l => split4 x ++ bytesOf l
def digest (m : List Nat) : List Nat := bytesOf (chainN (pad m) ((pad m).length / 64))

theorem pad0_length (m : List Nat) (j : Nat) : (pad0 m j).length = m.length + 1 + j := by simp [pad0]; omega
theorem pad0_zero (m : List Nat) : pad0 m 0 = m ++ [128] := by simp [pad0]
theorem pad0_succ (m : List Nat) (j : Nat) : pad0 m j ++ [0] = pad0 m (j + 1) := by simp [pad0, List.replicate_succ']
theorem zeros_lt (n : Nat) : zeros n < 64 := Nat.mod_lt _ (by decide)
theorem zeros_at (n j : Nat) (h : j ≤ zeros n) : (n + 1 + j) % 64 = 56 ↔ j = zeros n := by unfold zeros at *; omega
theorem pad1_zero (m : List Nat) : pad1 m 0 = pad0 m (zeros m.length) := by simp [pad1]
theorem be8_at (x i : Nat) (h : i < 8) : (be8 x)[i]? = some (x / 2 ^ (56 - 8 * i) % 256) := by
  match i, h with
  | 0, _ | 1, _ | 2, _ | 3, _ | 4, _ | 5, _ | 6, _ | 7, _ => rfl
theorem pad1_succ (m : List Nat) (i : Nat) (h : i < 8) : pad1 m i ++ [m.length * 8 / 2 ^ (56 - 8 * i) % 256] = pad1 m (i + 1) := by
  unfold pad1
  rw [List.append_assoc, List.take_add_one, be8_at _ _ h]
  rfl
theorem pad1_length (m : List Nat) (i : Nat) (h : i ≤ 8) : (pad1 m i).length = m.length + 1 + zeros m.length + i := by
  simp [pad1, pad0_length, be8]; omega
theorem split4_length (x : Nat) : (split4 x).length = 4 := rfl
theorem bytesOf_length (l : List Nat) : (bytesOf l).length = 4 * l.length := by
  induction l with
  | nil => rfl
  | cons x l ih => simp [bytesOf, split4_length, ih]; omega
theorem digest_length (m : List Nat) : (digest m).length = 32 := by
  unfold digest
  rw [bytesOf_length, (chainN_words _ _).1]
theorem bytesOf_bytes (l : List Nat) : Bytes (bytesOf l) := by
  induction l with
  | nil => intro x hx; cases hx
  | cons x l ih =>
    refine Bytes.append ?_ ih
    intro y hy
    simp only [split4, List.mem_cons, List.not_mem_nil, or_false] at hy
    rcases hy with rfl | rfl | rfl | rfl <;> exact Nat.mod_lt _ (by decide)
theorem digest_bytes (m : List Nat) : Bytes (digest m) := bytesOf_bytes _

/-- The answer's bytes behind i words. -/
def outTo (st : List Nat) (i : Nat) : List Nat := (bytesOf st).take (4 * i) ++ List.replicate (32 - 4 * i) 0
theorem outTo_zero (st : List Nat) : outTo st 0 = List.replicate 32 0 := by simp [outTo]
theorem outTo_all (st : List Nat) (h : st.length = 8) : outTo st 8 = bytesOf st := by
  unfold outTo
  rw [List.take_of_length_le (by rw [bytesOf_length, h]; decide)]
  simp
theorem outTo_length (st : List Nat) (h : st.length = 8) (i : Nat) (hi : i ≤ 8) : (outTo st i).length = 32 := by
  simp [outTo, bytesOf_length, h]; omega
theorem outTo_set (st : List Nat) (h : st.length = 8) (i x : Nat) (hi : i < 8) (hx : st.getD i 0 = x) :
    (((((outTo st i).set (4 * i) (x / 16777216 % 256)).set (4 * i + 1) (x / 65536 % 256)).set (4 * i + 2) (x / 256 % 256)).set (4 * i + 3) (x % 256)) = outTo st (i + 1) := by
  obtain ⟨a0, a1, a2, a3, a4, a5, a6, a7, rfl⟩ := eight st h
  subst hx
  match i, hi with
  | 0, _ | 1, _ | 2, _ | 3, _ | 4, _ | 5, _ | 6, _ | 7, _ => rfl
end Go.Proofs.YtijgomgiinlcoaaDoor.Sha
