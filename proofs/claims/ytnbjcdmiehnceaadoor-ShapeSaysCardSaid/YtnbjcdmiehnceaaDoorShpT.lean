/-
  Places as sums of steps. By an AI agent. No person has read it.
-/
import Derived.Test.YtnbjcdmiehnceaaDoorShpC
import Derived.Test.YtnbjcdmiehnceaaDoorShpS
namespace Go.Proofs.YtnbjcdmiehnceaaDoor

/-- The sum of products. -/
def Shp.dot : List Int → List Int → Int
  | y :: ys, l :: ls => y * l + Shp.dot ys ls
  | _, _ => 0
theorem Shp.idx_dot (zs : List Int) : ∀ (ys : List Int) (v r : Int), Shp.idx v zs ys = some r → r = v * Shp.prod zs + Shp.dot ys (Shp.steps zs) := by
  induction zs with
  | nil =>
    intro ys v r h
    cases ys with
    | nil => simp [Shp.idx] at h; simp [Shp.prod, Shp.dot, h]
    | cons y ys => simp [Shp.idx] at h
  | cons z zs ih =>
    intro ys v r h
    cases ys with
    | nil => simp [Shp.idx] at h
    | cons y ys =>
      rw [Shp.idx] at h
      split at h
      · have := ih ys _ r h
        rw [this, Shp.prod, Shp.steps, Shp.dot, Int.add_mul, Int.mul_assoc, Int.add_assoc]
      · cases h
/-- Where each number is within its dimension there is a place. -/
def Shp.within : List Int → List Int → Bool
  | [], [] => true
  | z :: zs, y :: ys => decide (0 ≤ y ∧ y < z) && Shp.within zs ys
  | _, _ => false
theorem Shp.idx_some (zs : List Int) : ∀ (ys : List Int) (v : Int), (Shp.idx v zs ys).isSome = Shp.within zs ys := by
  induction zs with
  | nil => intro ys v; cases ys <;> simp [Shp.idx, Shp.within]
  | cons z zs ih =>
    intro ys v
    cases ys with
    | nil => simp [Shp.idx, Shp.within]
    | cons y ys =>
      rw [Shp.idx, Shp.within]
      by_cases h : 0 ≤ y ∧ y < z
      · rw [if_pos h, ih, decide_eq_true h, Bool.true_and]
      · rw [if_neg h, decide_eq_false h, Bool.false_and]
        rfl
theorem Shp.within_at (zs : List Int) : ∀ (ys : List Int), Shp.within zs ys = true → zs.length = ys.length ∧ ∀ (i : Nat) (z y : Int), zs[i]? = some z → ys[i]? = some y → 0 ≤ y ∧ y < z := by
  induction zs with
  | nil =>
    intro ys h
    cases ys with
    | nil => exact ⟨rfl, fun i z y h => by simp at h⟩
    | cons y ys => simp [Shp.within] at h
  | cons z zs ih =>
    intro ys h
    cases ys with
    | nil => simp [Shp.within] at h
    | cons y ys =>
      rw [Shp.within, Bool.and_eq_true, decide_eq_true_eq] at h
      obtain ⟨h1, h2⟩ := ih ys h.2
      refine ⟨by rw [List.length_cons, List.length_cons, h1], fun i z' y' hz hy => ?_⟩
      cases i with
      | zero =>
        obtain rfl := Option.some.inj hz
        obtain rfl := Option.some.inj hy
        exact h.1
      | succ i => exact h2 i z' y' (by simpa using hz) (by simpa using hy)
/-- One further in a dimension. -/
theorem Shp.within_set (zs : List Int) : ∀ (ys : List Int) (k : Nat) (z y : Int), Shp.within zs ys = true → zs[k]? = some z → ys[k]? = some y → Shp.within zs (ys.set k (y + 1)) = decide (y + 1 < z) := by
  induction zs with
  | nil => intro ys k z y _ hz; simp at hz
  | cons z zs ih =>
    intro ys k z' y' h hz hy
    cases ys with
    | nil => simp at hy
    | cons y ys =>
      rw [Shp.within, Bool.and_eq_true, decide_eq_true_eq] at h
      cases k with
      | zero =>
        obtain rfl := Option.some.inj hz
        obtain rfl := Option.some.inj hy
        rw [List.set_cons_zero, Shp.within, h.2, Bool.and_true]
        congr 1
        simp only [eq_iff_iff]
        omega
      | succ k =>
        rw [List.set_cons_succ, Shp.within, decide_eq_true h.1, Bool.true_and]
        exact ih ys k z' y' h.2 (by simpa using hz) (by simpa using hy)
theorem Shp.dot_set : ∀ (ys ls : List Int) (k : Nat) (y l : Int), ys[k]? = some y → ls[k]? = some l → Shp.dot (ys.set k (y + 1)) ls = Shp.dot ys ls + l
  | [], _, k, y, l, hy, _ => by simp at hy
  | _ :: _, [], k, y, l, _, hl => by simp at hl
  | y0 :: ys, l0 :: ls, 0, y, l, hy, hl => by
    obtain rfl := Option.some.inj hy
    obtain rfl := Option.some.inj hl
    rw [List.set_cons_zero, Shp.dot, Shp.dot, Int.add_mul, Int.one_mul]
    omega
  | y0 :: ys, l0 :: ls, k + 1, y, l, hy, hl => by
    rw [List.set_cons_succ, Shp.dot, Shp.dot, Shp.dot_set ys ls k y l (by simpa using hy) (by simpa using hl)]
    omega
theorem Shp.dot_take (ys ls : List Int) (i : Nat) (y l : Int) (hy : ys[i]? = some y) (hl : ls[i]? = some l) : Shp.dot (ys.take (i + 1)) (ls.take (i + 1)) = Shp.dot (ys.take i) (ls.take i) + y * l := by
  induction i generalizing ys ls with
  | zero =>
    obtain ⟨ys', rfl⟩ : ∃ t, ys = y :: t := by
      cases ys with
      | nil => simp at hy
      | cons a t => obtain rfl := Option.some.inj hy; exact ⟨t, rfl⟩
    obtain ⟨ls', rfl⟩ : ∃ t, ls = l :: t := by
      cases ls with
      | nil => simp at hl
      | cons a t => obtain rfl := Option.some.inj hl; exact ⟨t, rfl⟩
    simp [Shp.dot]
  | succ i ih =>
    cases ys with
    | nil => simp at hy
    | cons a ys =>
      cases ls with
      | nil => simp at hl
      | cons b ls =>
        have := ih ys ls (by simpa using hy) (by simpa using hl)
        rw [List.take_succ_cons, List.take_succ_cons, Shp.dot, this, List.take_succ_cons, List.take_succ_cons, Shp.dot]
        omega
theorem Shp.steps_pos (zs : List Int) (h : zs.all Shp.okDim = true) : ∀ (i : Nat) (l : Int), (Shp.steps zs)[i]? = some l → 1 ≤ l ∧ l ≤ Shp.prod zs := by
  induction zs with
  | nil => intro i l hl; simp [Shp.steps] at hl
  | cons z zs ih =>
    intro i l hl
    rw [List.all_cons, Bool.and_eq_true] at h
    have hp := Shp.prod_pos zs h.2
    have hz : 1 ≤ z := by have := h.1; unfold Shp.okDim at this; rw [decide_eq_true_eq] at this; exact this.1
    have hle : Shp.prod zs ≤ z * Shp.prod zs := by
      have := Int.mul_le_mul_of_nonneg_right hz (show 0 ≤ Shp.prod zs by omega)
      omega
    rw [Shp.prod]
    cases i with
    | zero => obtain rfl := Option.some.inj hl; omega
    | succ i =>
      have := ih h.2 i l (by simpa [Shp.steps] using hl)
      omega
/-- The sums stay within what the place is. -/
theorem Shp.dot_mono (zs : List Int) : ∀ (ys : List Int), zs.all Shp.okDim = true → Shp.within zs ys = true → ∀ i, 0 ≤ Shp.dot (ys.take i) ((Shp.steps zs).take i) ∧ Shp.dot (ys.take i) ((Shp.steps zs).take i) < Shp.prod zs := by
  induction zs with
  | nil =>
    intro ys _ h i
    cases ys with
    | nil => simp [Shp.dot, Shp.prod]
    | cons y ys => simp [Shp.within] at h
  | cons z zs ih =>
    intro ys ha h i
    cases ys with
    | nil => simp [Shp.within] at h
    | cons y ys =>
      rw [List.all_cons, Bool.and_eq_true] at ha
      rw [Shp.within, Bool.and_eq_true, decide_eq_true_eq] at h
      have hp := Shp.prod_pos zs ha.2
      cases i with
      | zero =>
        have hz : 1 ≤ z := by omega
        have := Int.mul_le_mul hz hp.1 (by decide) (by omega)
        rw [List.take_zero, List.take_zero, Shp.dot, Shp.prod]
        · omega
        · intro _ _ _ _ h; cases h
      | succ i =>
        have hi := ih ys ha.2 h.2 i
        rw [Shp.steps, List.take_succ_cons, List.take_succ_cons, Shp.dot, Shp.prod]
        have h1 := Int.mul_nonneg h.1.1 (show 0 ≤ Shp.prod zs by omega)
        have h2 := Int.mul_le_mul_of_nonneg_right (show y + 1 ≤ z by omega) (show 0 ≤ Shp.prod zs by omega)
        rw [Int.add_mul, Int.one_mul] at h2
        omega
end Go.Proofs.YtnbjcdmiehnceaaDoor
