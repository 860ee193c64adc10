/-
  The product of two matrices and a matrix turned, over lists of numbers. By an AI agent. No person has read it.
-/
import Derived.Test.YtkehdgjdieemkaaDoorTenWn
namespace Go.Proofs.YtkehdgjdieemkaaDoor

/-- The sum of the first k products of the row and the column. -/
def Mat.dot (xs ys : List Int) (za zb : Int) (inner n row col : Nat) : Nat → Int
  | 0 => 0
  | k + 1 => Mat.dot xs ys za zb inner n row col k + (xs.getD (row * inner + k) 0 - za) * (ys.getD (k * n + col) 0 - zb)
/-- The elements of the product from f on, m of them: inner: the first's columns, n: the second's. -/
def Mat.part (xs ys : List Int) (za zb : Int) (inner n f m : Nat) : List Int := (List.range m).map fun i => Tens.wide (Mat.dot xs ys za zb inner n ((f + i) / n) ((f + i) % n) inner)
/-- The elements of one of m rows and n columns, turned, from f on, k of them. -/
def Mat.turn (ds : List Int) (m n f k : Nat) : List Int := (List.range k).map fun i => ds.getD ((f + i) % m * n + (f + i) / m) 0
theorem Mat.part_length (xs ys : List Int) (za zb : Int) (inner n f m : Nat) : (Mat.part xs ys za zb inner n f m).length = m := by simp [Mat.part]
theorem Mat.turn_length (ds : List Int) (m n f k : Nat) : (Mat.turn ds m n f k).length = k := by simp [Mat.turn]
theorem Mat.part_at (xs ys : List Int) (za zb : Int) (inner n f m i : Nat) (hi : i < m) : (Mat.part xs ys za zb inner n f m)[i]? = some (Tens.wide (Mat.dot xs ys za zb inner n ((f + i) / n) ((f + i) % n) inner)) := by
  simp [Mat.part, hi]
theorem Mat.turn_at (ds : List Int) (m n f k i : Nat) (hi : i < k) : (Mat.turn ds m n f k)[i]? = some (ds.getD ((f + i) % m * n + (f + i) / m) 0) := by
  simp [Mat.turn, hi]
theorem Mat.turn_get (ds : List Int) (m n i j : Nat) (hi : i < n) (hj : j < m) : (Mat.turn ds m n 0 (n * m)).getD (i * m + j) 0 = ds.getD (j * n + i) 0 := by
  have h1 : i * m + j < n * m := by
    have : i * m + m ≤ n * m := by rw [← Nat.succ_mul]; exact Nat.mul_le_mul_right m hi
    omega
  rw [List.getD_eq_getElem?_getD, Mat.turn_at ds m n 0 _ _ h1, Nat.zero_add, Option.getD_some]
  have e1 : (i * m + j) % m = j := by rw [Nat.add_comm, Nat.add_mul_mod_self_right, Nat.mod_eq_of_lt hj]
  have e2 : (i * m + j) / m = i := by rw [Nat.add_comm, Nat.add_mul_div_right _ _ (by omega), Nat.div_eq_of_lt hj, Nat.zero_add]
  rw [e1, e2]
/-- Turned twice it is as it was. -/
theorem Mat.turn_back (ds : List Int) (m n : Nat) (h : ds.length = m * n) : Mat.turn (Mat.turn ds m n 0 (n * m)) n m 0 (m * n) = ds := by
  refine List.ext_getElem? fun i => ?_
  by_cases hi : i < m * n
  · have hn : 0 < n := by exact Nat.pos_of_ne_zero fun h => by rw [h] at hi; simp at hi
    rw [Mat.turn_at _ n m 0 _ i hi, Nat.zero_add, Mat.turn_get ds m n (i % n) (i / n) (Nat.mod_lt _ hn) (Nat.div_lt_of_lt_mul (by rw [Nat.mul_comm]; exact hi)), Nat.mul_comm, Nat.div_add_mod, List.getD_eq_getElem?_getD, List.getElem?_eq_getElem (by omega), Option.getD_some]
  · rw [List.getElem?_eq_none (by rw [Mat.turn_length]; omega), List.getElem?_eq_none (by omega)]
/-- The product's factors change places, turned. -/
theorem Mat.dot_turn (xs ys : List Int) (za zb : Int) (m inner n row col : Nat) (hr : row < m) (hc : col < n) (k : Nat) (hk : k ≤ inner) :
    Mat.dot (Mat.turn ys inner n 0 (n * inner)) (Mat.turn xs m inner 0 (inner * m)) zb za inner m col row k = Mat.dot xs ys za zb inner n row col k := by
  induction k with
  | zero => rfl
  | succ k ih =>
    show Mat.dot _ _ _ _ _ _ _ _ k + _ = Mat.dot _ _ _ _ _ _ _ _ k + _
    rw [ih (by omega), Mat.turn_get ys inner n col k hc (by omega), Mat.turn_get xs m inner k row (by omega) hr, Int.mul_comm]
theorem Mat.part_turn (xs ys : List Int) (za zb : Int) (m inner n : Nat) :
    Mat.part (Mat.turn ys inner n 0 (n * inner)) (Mat.turn xs m inner 0 (inner * m)) zb za inner m 0 (n * m) = Mat.turn (Mat.part xs ys za zb inner n 0 (m * n)) m n 0 (n * m) := by
  refine List.ext_getElem? fun i => ?_
  by_cases hi : i < n * m
  · have hm : 0 < m := by exact Nat.pos_of_ne_zero fun h => by rw [h] at hi; simp at hi
    have h1 : i % m < m := Nat.mod_lt _ hm
    have h2 : i / m < n := Nat.div_lt_of_lt_mul (by rw [Nat.mul_comm]; exact hi)
    have h3 : i % m * n + i / m < m * n := by
      have : i % m * n + n ≤ m * n := by rw [← Nat.succ_mul]; exact Nat.mul_le_mul_right n h1
      omega
    rw [Mat.part_at _ _ _ _ _ _ _ _ _ hi, Mat.turn_at _ _ _ _ _ _ hi, Nat.zero_add, Mat.dot_turn xs ys za zb m inner n _ _ h1 h2 inner (Nat.le_refl _), List.getD_eq_getElem?_getD, Mat.part_at _ _ _ _ _ _ _ _ _ h3, Option.getD_some, Nat.zero_add]
    have e1 : (i % m * n + i / m) % n = i / m := by rw [Nat.add_comm, Nat.add_mul_mod_self_right, Nat.mod_eq_of_lt h2]
    have e2 : (i % m * n + i / m) / n = i % m := by rw [Nat.add_comm, Nat.add_mul_div_right _ _ (by omega), Nat.div_eq_of_lt h2, Nat.zero_add]
    rw [e1, e2]
  · rw [List.getElem?_eq_none (by rw [Mat.part_length]; omega), List.getElem?_eq_none (by rw [Mat.turn_length]; omega)]
/-- A row of products hangs on the row alone. -/
theorem Mat.dot_row (xs cs ys : List Int) (za zb : Int) (inner n row row' col k : Nat) (h : ∀ j, j < k → xs.getD (row * inner + j) 0 = cs.getD (row' * inner + j) 0) :
    Mat.dot xs ys za zb inner n row col k = Mat.dot cs ys za zb inner n row' col k := by
  induction k with
  | zero => rfl
  | succ k ih =>
    show Mat.dot _ _ _ _ _ _ _ _ k + _ = Mat.dot _ _ _ _ _ _ _ _ k + _
    rw [ih (fun j hj => h j (by omega)), h k (by omega)]
/-- By nothings, nothing. -/
theorem Mat.dot_none (xs ys : List Int) (za : Int) (inner n row col k : Nat) (h : ∀ j, ys.getD j 0 = 0) : Mat.dot xs ys za 0 inner n row col k = 0 := by
  induction k with
  | zero => rfl
  | succ k ih =>
    show Mat.dot _ _ _ _ _ _ _ _ k + _ = 0
    rw [ih, h]
    simp
/-- By the one on its diagonal. -/
theorem Mat.dot_one (xs ys : List Int) (za : Int) (w row col k : Nat) (h : ∀ i j, i < w → j < w → ys.getD (i * w + j) 0 = if i = j then 1 else 0) (hk : k ≤ w) (hc : col < w) :
    Mat.dot xs ys za 0 w w row col k = if col < k then xs.getD (row * w + col) 0 - za else 0 := by
  induction k with
  | zero => rfl
  | succ k ih =>
    show Mat.dot _ _ _ _ _ _ _ _ k + _ = _
    rw [ih (by omega), h k col (by omega) hc]
    by_cases e : k = col
    · subst e
      rw [if_neg (by omega), if_pos rfl, if_pos (by omega)]
      simp
    · rw [if_neg e]
      by_cases g : col < k
      · rw [if_pos g, if_pos (by omega)]; simp
      · rw [if_neg g, if_neg (by omega)]; simp
end Go.Proofs.YtkehdgjdieemkaaDoor
