/-
  Convolutions, plainly; cells.Reach, cells.Inside. By an AI agent. No person has read it.
-/
import Derived.Test.YtgdcfjmpjhlndaaGreatDoorZOMatN
namespace Go.Proofs.YtgdcfjmpjhlndaaGreatDoor
open Go.RowKit
def Cv.ins (n k s p o : Int) : Int × Int := if max 0 (p - o * s) ≥ min k (n - (o * s - p)) then (0, 0) else (max 0 (p - o * s), min k (n - (o * s - p)))
theorem Cv.ins_mem (n k s p o d : Int) (hd : 0 ≤ d) (hk : d < k) : ((Cv.ins n k s p o).1 ≤ d ∧ d < (Cv.ins n k s p o).2) ↔ (0 ≤ o * s - p + d ∧ o * s - p + d < n) := by
 unfold Cv.ins
 generalize o * s = q
 split
 ·show (0 ≤ d ∧ d < 0) ↔ _
  omega
 ·show (max 0 (p - q) ≤ d ∧ d < min k (n - (q - p))) ↔ _
  omega
theorem Cv.ins_le (n k s p o : Int) (hk : 0 ≤ k) : 0 ≤ (Cv.ins n k s p o).1 ∧ (Cv.ins n k s p o).1 ≤ (Cv.ins n k s p o).2 ∧ (Cv.ins n k s p o).2 ≤ k := by
 unfold Cv.ins
 generalize o * s = q
 split
 ·exact ⟨Int.le_refl _, Int.le_refl _, hk⟩
 ·show 0 ≤ max 0 (p - q) ∧ max 0 (p - q) ≤ min k (n - (q - p)) ∧ min k (n - (q - p)) ≤ k
  omega
set_option maxRecDepth 100000 in
set_option maxHeartbeats 4000000 in
theorem inside_c (n k s p o : Int) (w : World) (h1 : -4398046511104 ≤ o * s ∧ o * s ≤ 4398046511104) (h2 : -4194304 ≤ p ∧ p ≤ 4194304) (h3 : -4194304 ≤ n ∧ n ≤ 4194304) :
  Calls Tryz.prog 122 #[.int .i64 n, .int .i64 k, .int .i64 s, .int .i64 p, .int .i64 o] w fun e w' => e = .returned (.tuple #[.int .i64 (Cv.ins n k s p o).1, .int .i64 (Cv.ins n k s p o).2]) ∧ w' = w := by
 have HI : Hid (Cv.ins n k s p o = if max 0 (p - o * s) ≥ min k (n - (o * s - p)) then (0, 0) else (max 0 (p - o * s), min k (n - (o * s - p)))) := hide rfl
 obtain ⟨R, hR⟩ : ∃ R, Hid (Cv.ins n k s p o = R) := ⟨_, hide rfl⟩
 rw [hR.out] at HI ⊢
 obtain ⟨q, hq⟩ : ∃ q, Hid (o * s = q) := ⟨_, hide rfl⟩
 rw [hq.out] at h1 HI
 obtain ⟨f, hf⟩ : ∃ f, Hid (q - p = f) := ⟨_, hide rfl⟩
 obtain ⟨g, hg⟩ : ∃ f, Hid (p - q = f) := ⟨_, hide rfl⟩
 obtain ⟨t, ht⟩ : ∃ t, Hid (n - f = t) := ⟨_, hide rfl⟩
 have hfe := hf.out
 have hge := hg.out
 have hte := ht.out
 rw [hf.out, hg.out] at HI
 rw [ht.out] at HI
 have Hw1 : Hid (wrap64 (o * s) = q) := hide (by rw [hq.out]; unfold wrap64; omega)
 have Hw2 : Hid (wrap64 (q - p) = f) := hide (by unfold wrap64; omega)
 have Hw3 : Hid (wrap64 (-f) = g) := hide (by unfold wrap64; omega)
 have Hw4 : Hid (wrap64 (n - f) = t) := hide (by unfold wrap64; omega)
 obtain ⟨a, ha⟩ : ∃ a, Hid (max 0 g = a) := ⟨_, hide rfl⟩
 obtain ⟨b, hb⟩ : ∃ b, Hid (min k t = b) := ⟨_, hide rfl⟩
 have M1 : Hid ((if (0 : Int) < g then g else 0) = a) := hide (by have := ha.out; split <;> omega)
 have M2 : Hid ((if g < (0 : Int) then 0 else g) = a) := hide (by have := ha.out; split <;> omega)
 have M3 : Hid ((if k < t then k else t) = b) := hide (by have := hb.out; split <;> omega)
 have M4 : Hid ((if t < k then t else k) = b) := hide (by have := hb.out; split <;> omega)
 rw [ha.out, hb.out] at HI
 clear hfe hge hte h1 h2 h3
 have hw1 := Hw1.out
 have hw2 := Hw2.out
 have hw3 := Hw3.out
 have hw4 := Hw4.out
 have m1 := M1.out
 have m2 := M2.out
 have m3 := M3.out
 have m4 := M4.out
 by_cases hab : a ≥ b
 ·have hr : R = (0, 0) := by rw [HI.out, if_pos hab]
  subst hr
  clear HI hR
  go_enter Tryz.func122, Tryz.ntmps122
  go_wp2_with fail
  refine bodyPost_ret (results_two rfl _ _) rfl ?_
  exact ⟨rfl, rfl⟩
 ·have hr : R = (a, b) := by rw [HI.out, if_neg hab]
  subst hr
  clear HI hR
  go_enter Tryz.func122, Tryz.ntmps122
  go_wp2_with fail
  refine bodyPost_ret (results_two rfl _ _) rfl ?_
  exact ⟨rfl, rfl⟩
def Cv.reach (n k s p : Int) : Int := (n + 2 * p - k) / s + 1
set_option maxRecDepth 100000 in
theorem reach_c (n k s p : Int) (w : World) (h1 : 0 ≤ n ∧ n ≤ 4194304) (h2 : 0 ≤ p ∧ p ≤ 4194304) (h3 : 0 ≤ k ∧ k ≤ n + 2 * p) (h4 : 1 ≤ s) :
  Calls Tryz.prog 116 #[.int .i64 n, .int .i64 k, .int .i64 s, .int .i64 p] w fun e w' => e = .returned (.int .i64 (Cv.reach n k s p)) ∧ w' = w := by
 unfold Cv.reach
 have e1 : 0 ≤ n + 2 * p - k := by omega
 have e2 : n + 2 * p - k ≤ 100000000 := by omega
 have e3 : 0 ≤ (n + 2 * p - k) / s := Int.ediv_nonneg e1 (by omega)
 have e4 : (n + 2 * p - k) / s ≤ n + 2 * p - k := Int.ediv_le_self _ e1
 have e5 : ¬ s = 0 := by omega
 go_enter Tryz.func116, Tryz.ntmps116
 go_wp2_with fail
 go_ret
 exact ⟨rfl, rfl⟩
end Go.Proofs.YtgdcfjmpjhlndaaGreatDoor
namespace Go.Proofs.YtgdcfjmpjhlndaaGreatDoor
def Cv.sum (f : Nat → Int) : Nat → Int
 | 0 => 0
 | k + 1 => Cv.sum f k + f k
theorem Cv.sum_le (f : Nat → Int) (B : Int) (h : ∀ i, -B ≤ f i ∧ f i ≤ B) (k : Nat) : -(B * k) ≤ Cv.sum f k ∧ Cv.sum f k ≤ B * k := by
 induction k with
 | zero => exact ⟨by simp [Cv.sum], by simp [Cv.sum]⟩
 | succ k ih =>
  have h1 := h k
  show -(B * ((k + 1 : Nat) : Int)) ≤ Cv.sum f k + f k ∧ Cv.sum f k + f k ≤ B * ((k + 1 : Nat) : Int)
  rw [Int.natCast_add, Int.mul_add]
  omega
theorem Cv.sum_same (f g : Nat → Int) (k : Nat) (h : ∀ i, i < k → f i = g i) : Cv.sum f k = Cv.sum g k := by
 induction k with
 | zero => rfl
 | succ k ih =>
  show Cv.sum f k + f k = Cv.sum g k + g k
  rw [ih (fun i hi => h i (by omega)), h k (by omega)]
theorem Cv.sum_low (f : Nat → Int) (a : Nat) (h : ∀ i, i < a → f i = 0) : Cv.sum f a = 0 := by
 induction a with
 | zero => rfl
 | succ k ih =>
  show Cv.sum f k + f k = 0
  rw [ih (fun i hi => h i (by omega)), h k (by omega)]
  rfl
theorem Cv.sum_high (f : Nat → Int) (a b : Nat) (hab : a ≤ b) (h : ∀ i, a ≤ i → i < b → f i = 0) : Cv.sum f b = Cv.sum f a := by
 obtain ⟨n, rfl⟩ : ∃ n, b = a + n := ⟨b - a, by omega⟩
 induction n with
 | zero => rfl
 | succ n ih =>
  show Cv.sum f (a + n) + f (a + n) = _
  rw [ih (by omega) (fun i h1 h2 => h i h1 (by omega)), h (a + n) (by omega) (by omega), Int.add_zero]
structure Cv where
 H : Nat
 W : Nat
 C : Nat
 KH : Nat
 KW : Nat
 N : Nat
 s : Nat
 p : Nat
 za : Int
def Cv.here (n s p o d : Nat) : Prop := p ≤ o * s + d ∧ o * s + d < n + p
instance (n s p o d : Nat) : Decidable (Cv.here n s p o d) := inferInstanceAs (Decidable (p ≤ o * s + d ∧ o * s + d < n + p))
def Cv.ia (c : Cv) (y x dy dx : Nat) : Nat := ((y * c.s + dy - c.p) * c.W + (x * c.s + dx - c.p)) * c.C
def Cv.ik (c : Cv) (o dy dx : Nat) : Nat := (dy * c.KW + dx) * c.C * c.N + o
def Cv.prod (c : Cv) (xs ks : List Int) (A B ch : Nat) : Int := (xs.getD (A + ch) 0 - c.za) * ks.getD (B + ch * c.N) 0
def Cv.col (c : Cv) (xs ks : List Int) (y x o dy dx : Nat) : Int := if Cv.here c.W c.s c.p x dx then Cv.sum (c.prod xs ks (c.ia y x dy dx) (c.ik o dy dx)) c.C else 0
def Cv.row (c : Cv) (xs ks : List Int) (y x o dy : Nat) : Int := if Cv.here c.H c.s c.p y dy then Cv.sum (c.col xs ks y x o dy) c.KW else 0
def Cv.el (c : Cv) (xs ks : List Int) (y x o : Nat) : Int := Cv.sum (c.row xs ks y x o) c.KH
def Cv.ow (c : Cv) : Nat := (c.W + 2 * c.p - c.KW) / c.s + 1
def Cv.oh (c : Cv) : Nat := (c.H + 2 * c.p - c.KH) / c.s + 1
def Cv.part (c : Cv) (xs ks : List Int) (f m : Nat) : List Int := (List.range m).map fun i => Tens.wide (c.el xs ks ((f + i) / c.N / c.ow) ((f + i) / c.N % c.ow) ((f + i) % c.N))
theorem Cv.part_length (c : Cv) (xs ks : List Int) (f m : Nat) : (c.part xs ks f m).length = m := by simp [Cv.part]
theorem Cv.part_at (c : Cv) (xs ks : List Int) (f m i : Nat) (hi : i < m) : (c.part xs ks f m)[i]? = some (Tens.wide (c.el xs ks ((f + i) / c.N / c.ow) ((f + i) / c.N % c.ow) ((f + i) % c.N))) := by
 simp [Cv.part, hi]
theorem Cv.prod_le (c : Cv) {xs ks : List Int} (hx : Mat.small xs) (hk : Mat.small ks) (hz : -128 ≤ c.za ∧ c.za ≤ 127) (A B ch : Nat) : -65025 ≤ c.prod xs ks A B ch ∧ c.prod xs ks A B ch ≤ 65025 := by
 have h1 := Mat.small_get hx (A + ch)
 have h2 := Mat.small_get hk (B + ch * c.N)
 exact Mat.prod_le _ _ (by omega) (by omega)
theorem Cv.col_le (c : Cv) {xs ks : List Int} (hx : Mat.small xs) (hk : Mat.small ks) (hz : -128 ≤ c.za ∧ c.za ≤ 127) (y x o dy dx : Nat) : -(65025 * (c.C : Int)) ≤ c.col xs ks y x o dy dx ∧ c.col xs ks y x o dy dx ≤ 65025 * (c.C : Int) := by
 unfold Cv.col
 split
 ·exact Cv.sum_le _ _ (fun i => c.prod_le hx hk hz _ _ i) _
 ·omega
theorem Cv.row_le (c : Cv) {xs ks : List Int} (hx : Mat.small xs) (hk : Mat.small ks) (hz : -128 ≤ c.za ∧ c.za ≤ 127) (y x o dy : Nat) : -(65025 * (c.C : Int) * (c.KW : Int)) ≤ c.row xs ks y x o dy ∧ c.row xs ks y x o dy ≤ 65025 * (c.C : Int) * (c.KW : Int) := by
 have h0 : 0 ≤ 65025 * (c.C : Int) * (c.KW : Int) := Int.mul_nonneg (by omega) (by omega)
 unfold Cv.row
 split
 ·exact Cv.sum_le _ _ (fun i => c.col_le hx hk hz y x o dy i) _
 ·omega
theorem Cv.way_le (c : Cv) {xs ks : List Int} (hx : Mat.small xs) (hk : Mat.small ks) (hz : -128 ≤ c.za ∧ c.za ≤ 127) (hb : c.C * c.KW * c.KH ≤ 1000000) (hKH : 1 ≤ c.KH) (hKW : 1 ≤ c.KW) (y x o dy dx ch A B : Nat) (h1 : dy ≤ c.KH) (h2 : dx ≤ c.KW) (h3 : ch ≤ c.C) :
  -195075000000 ≤ Cv.sum (c.row xs ks y x o) dy + Cv.sum (c.col xs ks y x o dy) dx + Cv.sum (c.prod xs ks A B) ch ∧ Cv.sum (c.row xs ks y x o) dy + Cv.sum (c.col xs ks y x o dy) dx + Cv.sum (c.prod xs ks A B) ch ≤ 195075000000 := by
 have r := Cv.sum_le _ _ (fun i => c.row_le hx hk hz y x o i) dy
 have q := Cv.sum_le _ _ (fun i => c.col_le hx hk hz y x o dy i) dx
 have t := Cv.sum_le _ _ (fun i => c.prod_le hx hk hz A B i) ch
 have b1 : c.C * c.KW * dy ≤ 1000000 := Nat.le_trans (Nat.mul_le_mul_left _ h1) hb
 have b2 : c.C * dx ≤ c.C * c.KW := Nat.mul_le_mul_left _ h2
 have b3 : c.C * c.KW ≤ c.C * c.KW * c.KH := Nat.le_mul_of_pos_right _ hKH
 have b4 : c.C ≤ c.C * c.KW := Nat.le_mul_of_pos_right _ hKW
 have e1 : 65025 * (c.C : Int) * (c.KW : Int) * (dy : Int) = 65025 * ((c.C * c.KW * dy : Nat) : Int) := by
  rw [Int.natCast_mul, Int.natCast_mul, Int.mul_assoc, Int.mul_assoc, Int.mul_assoc]
 have e2 : 65025 * (c.C : Int) * (dx : Int) = 65025 * ((c.C * dx : Nat) : Int) := by
  rw [Int.natCast_mul, Int.mul_assoc]
 rw [e1] at r
 rw [e2] at q
 generalize c.C * c.KW * dy = u at *
 generalize c.C * dx = v at *
 generalize c.C * c.KW * c.KH = u2 at *
 generalize c.C * c.KW = u3 at *
 omega
theorem Cv.here_le (n k s p o : Nat) (ho : o < (n + 2 * p - k) / s + 1) (hk : k ≤ n + 2 * p) : o * s + k ≤ n + 2 * p := by
 have h1 : o ≤ (n + 2 * p - k) / s := by omega
 have h2 : o * s ≤ n + 2 * p - k := Nat.le_trans (Nat.mul_le_mul_right s h1) (Nat.div_mul_le_self _ _)
 omega
theorem Cv.ia_lt (c : Cv) (y x dy dx : Nat) (h1 : Cv.here c.H c.s c.p y dy) (h2 : Cv.here c.W c.s c.p x dx) : c.ia y x dy dx + c.C ≤ c.H * c.W * c.C := by
 unfold Cv.ia
 obtain ⟨a1, a2⟩ := h1
 obtain ⟨b1, b2⟩ := h2
 generalize hY : y * c.s + dy - c.p = Y
 generalize hX : x * c.s + dx - c.p = X
 have hYH : Y + 1 ≤ c.H := by omega
 have hXW : X + 1 ≤ c.W := by omega
 rw [← Nat.succ_mul]
 refine Nat.mul_le_mul_right _ ?_
 have h := Nat.mul_le_mul_right c.W hYH
 rw [Nat.add_mul] at h
 omega
theorem Cv.ik_lt (c : Cv) (o dy dx ch : Nat) (h1 : dy < c.KH) (h2 : dx < c.KW) (h3 : ch < c.C) (h4 : o < c.N) : c.ik o dy dx + ch * c.N < c.KH * c.KW * c.C * c.N := by
 unfold Cv.ik
 have e : (dy * c.KW + dx) * c.C * c.N + o + ch * c.N = ((dy * c.KW + dx) * c.C + ch) * c.N + o := by rw [Nat.add_mul _ ch]; omega
 rw [e]
 have a : dy * c.KW + dx + 1 ≤ c.KH * c.KW := by
  have h := Nat.mul_le_mul_right c.KW h1
  rw [Nat.succ_mul] at h
  omega
 have b : (dy * c.KW + dx) * c.C + ch + 1 ≤ c.KH * c.KW * c.C := by
  have h := Nat.mul_le_mul_right c.C a
  rw [Nat.succ_mul] at h
  omega
 have d := Nat.mul_le_mul_right c.N b
 rw [Nat.succ_mul] at d
 omega
end Go.Proofs.YtgdcfjmpjhlndaaGreatDoor
