/-
  Convolutions, over lists of numbers. By an AI agent. No person has read it.
-/
import Derived.Test.YtgdcfjmpjhlndaaDoorZSMatN
namespace Go.Proofs.YtgdcfjmpjhlndaaDoor
/-- The sum of the first k. -/
def Cv.sum (f : Nat → Int) : Nat → Int
  | 0 => 0
  | k + 1 => Cv.sum f k + f k
theorem Cv.sum_le (f : Nat → Int) (B : Int) (h : ∀ i, -B ≤ f i ∧ f i ≤ B) (k : Nat) : -(B * k) ≤ Cv.sum f k ∧ Cv.sum f k ≤ B * k := by
  induction k with
  | zero => exact ⟨by simp [Cv.sum], by simp [Cv.sum]⟩
  | succ k ih =>
    have h1 := h k
    show -(B * ((k + 1 : Nat) : Int)) ≤ Cv.sum f k + f k ∧ Cv.sum f k + f k ≤ B * ((k + 1 : Nat) : Int)
    rw [Int.natCast_add, Int.mul_add]
    omega
theorem Cv.sum_same (f g : Nat → Int) (k : Nat) (h : ∀ i, i < k → f i = g i) : Cv.sum f k = Cv.sum g k := by
  induction k with
  | zero => rfl
  | succ k ih =>
    show Cv.sum f k + f k = Cv.sum g k + g k
    rw [ih (fun i hi => h i (by omega)), h k (by omega)]
/-- What is nothing below a and from b on. -/
theorem Cv.sum_low (f : Nat → Int) (a : Nat) (h : ∀ i, i < a → f i = 0) : Cv.sum f a = 0 := by
  induction a with
  | zero => rfl
  | succ k ih =>
    show Cv.sum f k + f k = 0
    rw [ih (fun i hi => h i (by omega)), h k (by omega)]
    rfl
theorem Cv.sum_high (f : Nat → Int) (a b : Nat) (hab : a ≤ b) (h : ∀ i, a ≤ i → i < b → f i = 0) : Cv.sum f b = Cv.sum f a := by
  obtain ⟨n, rfl⟩ : ∃ n, b = a + n := ⟨b - a, by omega⟩
  induction n with
  | zero => rfl
  | succ n ih =>
    show Cv.sum f (a + n) + f (a + n) = _
    rw [ih (by omega) (fun i h1 h2 => h i h1 (by omega)), h (a + n) (by omega) (by omega), Int.add_zero]

/-- A convolution's sizes. -/
structure Cv where
  H : Nat
  W : Nat
  C : Nat
  KH : Nat
  KW : Nat
  N : Nat
  s : Nat
  p : Nat
  za : Int
def Cv.here (n s p o d : Nat) : Prop := p ≤ o * s + d ∧ o * s + d < n + p
instance (n s p o d : Nat) : Decidable (Cv.here n s p o d) := inferInstanceAs (Decidable (p ≤ o * s + d ∧ o * s + d < n + p))
/-- Where the image's numbers of a place of the window begin, and the kernel's. -/
def Cv.ia (c : Cv) (y x dy dx : Nat) : Nat := ((y * c.s + dy - c.p) * c.W + (x * c.s + dx - c.p)) * c.C
def Cv.ik (c : Cv) (o dy dx : Nat) : Nat := (dy * c.KW + dx) * c.C * c.N + o
def Cv.prod (c : Cv) (xs ks : List Int) (A B ch : Nat) : Int := (xs.getD (A + ch) 0 - c.za) * ks.getD (B + ch * c.N) 0
def Cv.col (c : Cv) (xs ks : List Int) (y x o dy dx : Nat) : Int := if Cv.here c.W c.s c.p x dx then Cv.sum (c.prod xs ks (c.ia y x dy dx) (c.ik o dy dx)) c.C else 0
def Cv.row (c : Cv) (xs ks : List Int) (y x o dy : Nat) : Int := if Cv.here c.H c.s c.p y dy then Cv.sum (c.col xs ks y x o dy) c.KW else 0
/-- The element at y, x, o. -/
def Cv.el (c : Cv) (xs ks : List Int) (y x o : Nat) : Int := Cv.sum (c.row xs ks y x o) c.KH
def Cv.ow (c : Cv) : Nat := (c.W + 2 * c.p - c.KW) / c.s + 1
def Cv.oh (c : Cv) : Nat := (c.H + 2 * c.p - c.KH) / c.s + 1
/-- The elements from f on, m of them. -/
def Cv.part (c : Cv) (xs ks : List Int) (f m : Nat) : List Int := (List.range m).map fun i => Tens.wide (c.el xs ks ((f + i) / c.N / c.ow) ((f + i) / c.N % c.ow) ((f + i) % c.N))
theorem Cv.part_length (c : Cv) (xs ks : List Int) (f m : Nat) : (c.part xs ks f m).length = m := by simp [Cv.part]
theorem Cv.part_at (c : Cv) (xs ks : List Int) (f m i : Nat) (hi : i < m) : (c.part xs ks f m)[i]? = some (Tens.wide (c.el xs ks ((f + i) / c.N / c.ow) ((f + i) / c.N % c.ow) ((f + i) % c.N))) := by
  simp [Cv.part, hi]
theorem Cv.prod_le (c : Cv) {xs ks : List Int} (hx : Mat.small xs) (hk : Mat.small ks) (hz : -128 ≤ c.za ∧ c.za ≤ 127) (A B ch : Nat) : -65025 ≤ c.prod xs ks A B ch ∧ c.prod xs ks A B ch ≤ 65025 := by
  have h1 := Mat.small_get hx (A + ch)
  have h2 := Mat.small_get hk (B + ch * c.N)
  exact Mat.prod_le _ _ (by omega) (by omega)
theorem Cv.col_le (c : Cv) {xs ks : List Int} (hx : Mat.small xs) (hk : Mat.small ks) (hz : -128 ≤ c.za ∧ c.za ≤ 127) (y x o dy dx : Nat) : -(65025 * (c.C : Int)) ≤ c.col xs ks y x o dy dx ∧ c.col xs ks y x o dy dx ≤ 65025 * (c.C : Int) := by
  unfold Cv.col
  split
  · exact Cv.sum_le _ _ (fun i => c.prod_le hx hk hz _ _ i) _
  · omega
theorem Cv.row_le (c : Cv) {xs ks : List Int} (hx : Mat.small xs) (hk : Mat.small ks) (hz : -128 ≤ c.za ∧ c.za ≤ 127) (y x o dy : Nat) : -(65025 * (c.C : Int) * (c.KW : Int)) ≤ c.row xs ks y x o dy ∧ c.row xs ks y x o dy ≤ 65025 * (c.C : Int) * (c.KW : Int) := by
  have h0 : 0 ≤ 65025 * (c.C : Int) * (c.KW : Int) := Int.mul_nonneg (by omega) (by omega)
  unfold Cv.row
  split
  · exact Cv.sum_le _ _ (fun i => c.col_le hx hk hz y x o dy i) _
  · omega
/-- No sum on the way is great. -/
theorem Cv.way_le (c : Cv) {xs ks : List Int} (hx : Mat.small xs) (hk : Mat.small ks) (hz : -128 ≤ c.za ∧ c.za ≤ 127) (hb : c.C * c.KW * c.KH ≤ 1000000) (hKH : 1 ≤ c.KH) (hKW : 1 ≤ c.KW) (y x o dy dx ch A B : Nat) (h1 : dy ≤ c.KH) (h2 : dx ≤ c.KW) (h3 : ch ≤ c.C) :
    -195075000000 ≤ Cv.sum (c.row xs ks y x o) dy + Cv.sum (c.col xs ks y x o dy) dx + Cv.sum (c.prod xs ks A B) ch ∧ Cv.sum (c.row xs ks y x o) dy + Cv.sum (c.col xs ks y x o dy) dx + Cv.sum (c.prod xs ks A B) ch ≤ 195075000000 := by
  have r := Cv.sum_le _ _ (fun i => c.row_le hx hk hz y x o i) dy
  have q := Cv.sum_le _ _ (fun i => c.col_le hx hk hz y x o dy i) dx
  have t := Cv.sum_le _ _ (fun i => c.prod_le hx hk hz A B i) ch
  have b1 : c.C * c.KW * dy ≤ 1000000 := Nat.le_trans (Nat.mul_le_mul_left _ h1) hb
  have b2 : c.C * dx ≤ c.C * c.KW := Nat.mul_le_mul_left _ h2
  have b3 : c.C * c.KW ≤ c.C * c.KW * c.KH := Nat.le_mul_of_pos_right _ hKH
  have b4 : c.C ≤ c.C * c.KW := Nat.le_mul_of_pos_right _ hKW
  have e1 : 65025 * (c.C : Int) * (c.KW : Int) * (dy : Int) = 65025 * ((c.C * c.KW * dy : Nat) : Int) := by
    rw [Int.natCast_mul, Int.natCast_mul, Int.mul_assoc, Int.mul_assoc, Int.mul_assoc]
  have e2 : 65025 * (c.C : Int) * (dx : Int) = 65025 * ((c.C * dx : Nat) : Int) := by
    rw [Int.natCast_mul, Int.mul_assoc]
  rw [e1] at r
  rw [e2] at q
  generalize c.C * c.KW * dy = u at *
  generalize c.C * dx = v at *
  generalize c.C * c.KW * c.KH = u2 at *
  generalize c.C * c.KW = u3 at *
  omega
/-- Which of a window's places lie inside, as two numbers. -/
theorem Cv.here_le (n k s p o : Nat) (ho : o < (n + 2 * p - k) / s + 1) (hk : k ≤ n + 2 * p) : o * s + k ≤ n + 2 * p := by
  have h1 : o ≤ (n + 2 * p - k) / s := by omega
  have h2 : o * s ≤ n + 2 * p - k := Nat.le_trans (Nat.mul_le_mul_right s h1) (Nat.div_mul_le_self _ _)
  omega
theorem Cv.ia_lt (c : Cv) (y x dy dx : Nat) (h1 : Cv.here c.H c.s c.p y dy) (h2 : Cv.here c.W c.s c.p x dx) : c.ia y x dy dx + c.C ≤ c.H * c.W * c.C := by
  unfold Cv.ia
  obtain ⟨a1, a2⟩ := h1
  obtain ⟨b1, b2⟩ := h2
  generalize hY : y * c.s + dy - c.p = Y
  generalize hX : x * c.s + dx - c.p = X
  have hYH : Y + 1 ≤ c.H := by omega
  have hXW : X + 1 ≤ c.W := by omega
  rw [← Nat.succ_mul]
  refine Nat.mul_le_mul_right _ ?_
  have h := Nat.mul_le_mul_right c.W hYH
  rw [Nat.add_mul] at h
  omega
theorem Cv.ik_lt (c : Cv) (o dy dx ch : Nat) (h1 : dy < c.KH) (h2 : dx < c.KW) (h3 : ch < c.C) (h4 : o < c.N) : c.ik o dy dx + ch * c.N < c.KH * c.KW * c.C * c.N := by
  unfold Cv.ik
  have e : (dy * c.KW + dx) * c.C * c.N + o + ch * c.N = ((dy * c.KW + dx) * c.C + ch) * c.N + o := by rw [Nat.add_mul _ ch]; omega
  rw [e]
  have a : dy * c.KW + dx + 1 ≤ c.KH * c.KW := by
    have h := Nat.mul_le_mul_right c.KW h1
    rw [Nat.succ_mul] at h
    omega
  have b : (dy * c.KW + dx) * c.C + ch + 1 ≤ c.KH * c.KW * c.C := by
    have h := Nat.mul_le_mul_right c.C a
    rw [Nat.succ_mul] at h
    omega
  have d := Nat.mul_le_mul_right c.N b
  rw [Nat.succ_mul] at d
  omega
end Go.Proofs.YtgdcfjmpjhlndaaDoor
