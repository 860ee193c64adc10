/-
  Rows of structs; tensors as data; errors that are not nil. By an AI agent. No person has read it.
-/
import Derived.Test.YtkehdgjdieemkaaDoorElmB
import Derived.LoopN
namespace Go.Proofs.YtkehdgjdieemkaaDoor
open Go.RowKit

/-- What lies from B on. -/
def Row (w : World) (B : Option Addr) (xs : List Value) : Prop := xs ≠ [] → ∃ ad, B = some ad ∧ ad.block < w.heap.size ∧ ∀ (j : Nat) (x : Value), xs[j]? = some x → w.cell? (ad.add j) = some x
theorem Row.below {w w' : World} {B : Option Addr} {xs : List Value} (h : Row w B xs) (hb : Below w.heap.size w w') : Row w' B xs := fun hx => by
  obtain ⟨ad, h1, h2, h3⟩ := h hx
  exact ⟨ad, h1, Nat.lt_of_lt_of_le h2 hb.size, fun j x hj => by rw [hb.cell (by rw [ad_block]; exact h2)]; exact h3 j x hj⟩
theorem Row.nil (w : World) (B : Option Addr) : Row w B [] := fun h => absurd rfl h
theorem Has.row {w : World} {g : Nat} {t : TypeId} {xs : List Value} (h : Has w g t xs) : Row w (some ⟨g, 0, none⟩) xs :=
  fun _ => ⟨_, rfl, h.lt, fun j x hj => by rw [Addr.add_lit, h.cell, Nat.zero_add]; exact hj⟩
theorem Has.row_app {w : World} {g : Nat} {t : TypeId} {xs ys : List Value} (h : Has w g t (xs ++ ys)) : Row w (some ⟨g, 0, none⟩) xs :=
  fun _ => ⟨_, rfl, h.lt, fun j x hj => by
    rw [Addr.add_lit, h.cell, Nat.zero_add, List.getElem?_append_left (List.getElem?_eq_some_iff.1 hj).1]
    exact hj⟩
/-- A tensor: its value's parts, and what they read as. -/
structure Ten where
  P : Option Addr
  zs : List Int
  cap : Nat
  u : Bool
  D : Option Addr
  ds : List Int
  dcap : Nat
/-- What it looks like. -/
structure Dsc where
  P : Option Addr
  zs : List Int
  cap : Nat
  u : Bool
def Ten.look (t : Ten) : Dsc := ⟨t.P, t.zs, t.cap, t.u⟩
def Ten.vals (t : Ten) : List Value := [.slice t.P t.zs.length t.cap, .bool t.u, .slice t.D t.ds.length t.dcap]
def Dsc.vals (d : Dsc) : List Value := [.slice d.P d.zs.length d.cap, .bool d.u]
structure Ten.In (w : World) (t : Ten) : Prop where
  shp : Ri w t.P t.zs
  dat : Ri w t.D t.ds
  ls : t.zs.length ≤ 1000000
  ld : t.ds.length ≤ 1000000
structure Dsc.In (w : World) (d : Dsc) : Prop where
  shp : Ri w d.P d.zs
  ls : d.zs.length ≤ 1000000
theorem Ten.In.below {w w' : World} {t : Ten} (h : t.In w) (hb : Below w.heap.size w w') : t.In w' := ⟨h.shp.below hb, h.dat.below hb, h.ls, h.ld⟩
theorem Dsc.In.below {w w' : World} {t : Dsc} (h : t.In w) (hb : Below w.heap.size w w') : t.In w' := ⟨h.shp.below hb, h.ls⟩
theorem Ten.In.look {w : World} {t : Ten} (h : t.In w) : t.look.In w := ⟨h.shp, h.ls⟩
def Ten.fault (t : Ten) : Nat × Option Nat := Tens.fault t.zs t.u t.ds
/-- The first fault of some. -/
def Tens.first : List Ten → Nat × Option Nat
  | [] => (0, none)
  | t :: l => if t.fault = (0, none) then Tens.first l else t.fault
theorem Tens.first_at (ts : List Ten) (i : Nat) (t : Ten) (h : ts[i]? = some t) (hj : ∀ (j : Nat) x, j < i → ts[j]? = some x → x.fault = (0, none)) (hf : t.fault ≠ (0, none)) : Tens.first ts = t.fault := by
  induction ts generalizing i with
  | nil => simp at h
  | cons x l ih =>
    cases i with
    | zero =>
      simp at h
      subst h
      unfold Tens.first
      rw [if_neg hf]
    | succ i =>
      unfold Tens.first
      rw [if_pos (hj 0 x (Nat.succ_pos i) rfl)]
      exact ih i (by simpa using h) fun j y hji hy => hj (j + 1) y (by omega) (by simpa using hy)
theorem Tens.first_none (ts : List Ten) (h : ∀ (j : Nat) x, ts[j]? = some x → x.fault = (0, none)) : Tens.first ts = (0, none) := by
  induction ts with
  | nil => rfl
  | cons x l ih =>
    unfold Tens.first
    rw [if_pos (h 0 x rfl)]
    exact ih fun j y hy => h (j + 1) y (by simpa using hy)
theorem Tens.first_fine (ts : List Ten) (h : Tens.first ts = (0, none)) : ∀ t ∈ ts, t.fault = (0, none) := by
  induction ts with
  | nil => simp
  | cons x l ih =>
    unfold Tens.first at h
    by_cases hx : x.fault = (0, none)
    · rw [if_pos hx] at h
      intro t ht
      rcases List.mem_cons.1 ht with rfl | ht
      · exact hx
      · exact ih h t ht
    · rw [if_neg hx] at h
      exact absurd h hx
theorem tfault_cases (zs : List Int) (u : Bool) (ds : List Int) : Tens.fault zs u ds = (0, none) ∨ Tens.fault zs u ds = (101, none) ∨ Tens.fault zs u ds = (102, none) ∨ Tens.fault zs u ds = (104, none) ∨ ∃ i, Tens.fault zs u ds = (102, some i) := by
  have hk := Shp.code_is zs
  unfold Tens.fault
  split
  · rcases hk with h | h | h <;> rw [h] <;> simp_all
  · split
    · simp
    · split
      · rename_i i _
        exact .inr (.inr (.inr (.inr ⟨i, rfl⟩)))
      · exact .inl rfl
theorem Tens.first_cases (ts : List Ten) : Tens.first ts = (0, none) ∨ Tens.first ts = (101, none) ∨ Tens.first ts = (102, none) ∨ Tens.first ts = (104, none) ∨ ∃ i, Tens.first ts = (102, some i) := by
  induction ts with
  | nil => exact .inl rfl
  | cons x l ih =>
    unfold Tens.first
    split
    · exact ih
    · exact tfault_cases _ _ _
/-- An element's cells, in a row of all. -/
theorem flat_at {α : Type} (f : α → List Value) (n : Nat) (ts : List α) (hf : ∀ t ∈ ts, (f t).length = n) (i : Nat) (t : α) (h : ts[i]? = some t) (j : Nat) (hj : j < n) : (ts.flatMap f)[i * n + j]? = (f t)[j]? := by
  induction ts generalizing i with
  | nil => simp at h
  | cons x l ih =>
    have hx := hf x (by simp)
    cases i with
    | zero =>
      simp at h
      subst h
      rw [List.flatMap_cons, Nat.zero_mul, Nat.zero_add, List.getElem?_append_left (by omega)]
    | succ i =>
      rw [List.flatMap_cons, List.getElem?_append_right (by rw [hx, Nat.succ_mul]; omega), hx, show (i + 1) * n + j - n = i * n + j by rw [Nat.succ_mul]; omega]
      exact ih (fun t ht => hf t (by simp [ht])) i (by simpa using h)
theorem flat_len {α : Type} (f : α → List Value) (n : Nat) (ts : List α) (hf : ∀ t ∈ ts, (f t).length = n) : (ts.flatMap f).length = ts.length * n := by
  induction ts with
  | nil => simp
  | cons x l ih => rw [List.flatMap_cons, List.length_append, hf x (by simp), ih (fun t ht => hf t (by simp [ht])), List.length_cons, Nat.succ_mul]; omega
theorem add_more (a : Addr) (m k : Nat) : a.add (m + (k + 1)) = ⟨(a.add m).block, (a.add m).off + (k + 1), none⟩ := by
  unfold Addr.add
  by_cases hm : m = 0
  · simp [hm]
  · simp [hm, Nat.add_assoc]
theorem row_ten {w : World} {B : Option Addr} {ts : List Ten} (h : Row w B (ts.flatMap Ten.vals)) (i : Nat) (hi : i < ts.length) : ∃ ad t, B = some ad ∧ ad.block < w.heap.size ∧ Hid (ts[i]? = some t) ∧
    w.cell? (ad.add (i * 3)) = some (.slice t.P t.zs.length t.cap) ∧ w.cell? ⟨(ad.add (i * 3)).block, (ad.add (i * 3)).off + 1, none⟩ = some (.bool t.u) ∧ w.cell? ⟨(ad.add (i * 3)).block, (ad.add (i * 3)).off + 2, none⟩ = some (.slice t.D t.ds.length t.dcap) := by
  have hne : ts.flatMap Ten.vals ≠ [] := fun hc => by
    have := flat_len Ten.vals 3 ts (fun _ _ => rfl)
    rw [hc] at this
    simp at this
    omega
  obtain ⟨ad, h1, h2, h3⟩ := h hne
  have ht := List.getElem?_eq_getElem hi
  exact ⟨ad, ts[i], h1, h2, hide ht, h3 (i * 3) _ (by rw [← Nat.add_zero (i * 3), flat_at Ten.vals 3 ts (fun _ _ => rfl) i _ ht 0 (by decide)]; rfl), by rw [← add_more ad (i * 3) 0]; exact h3 (i * 3 + 1) _ (by rw [flat_at Ten.vals 3 ts (fun _ _ => rfl) i _ ht 1 (by decide)]; rfl), by rw [← add_more ad (i * 3) 1]; exact h3 (i * 3 + 2) _ (by rw [flat_at Ten.vals 3 ts (fun _ _ => rfl) i _ ht 2 (by decide)]; rfl)⟩
theorem row_dsc {w : World} {B : Option Addr} {ts : List Dsc} (h : Row w B (ts.flatMap Dsc.vals)) (i : Nat) (hi : i < ts.length) : ∃ ad t, B = some ad ∧ ad.block < w.heap.size ∧ Hid (ts[i]? = some t) ∧
    w.cell? (ad.add (i * 2)) = some (.slice t.P t.zs.length t.cap) ∧ w.cell? ⟨(ad.add (i * 2)).block, (ad.add (i * 2)).off + 1, none⟩ = some (.bool t.u) := by
  have hne : ts.flatMap Dsc.vals ≠ [] := fun hc => by
    have := flat_len Dsc.vals 2 ts (fun _ _ => rfl)
    rw [hc] at this
    simp at this
    omega
  obtain ⟨ad, h1, h2, h3⟩ := h hne
  have ht := List.getElem?_eq_getElem hi
  exact ⟨ad, ts[i], h1, h2, hide ht, h3 (i * 2) _ (by rw [← Nat.add_zero (i * 2), flat_at Dsc.vals 2 ts (fun _ _ => rfl) i _ ht 0 (by decide)]; rfl), by rw [← add_more ad (i * 2) 0]; exact h3 (i * 2 + 1) _ (by rw [flat_at Dsc.vals 2 ts (fun _ _ => rfl) i _ ht 1 (by decide)]; rfl)⟩
/-- An error that is none of nil. -/
def ErrV (v : Value) : Prop := (∃ a, v = errv a) ∨ ∃ g, v = .iface 108 (.pointer (some ⟨g, 0, none⟩))
theorem run_neqerr {v : Value} (h : ErrV v) (w : World) : (binOp .neq 30 v .nilIface).run Tryd.prog w = .ok (.bool true) w := by
  rcases h with ⟨a, rfl⟩ | ⟨g, rfl⟩
  all_goals kernel_rfl
theorem run_neqguard {v : Value} (h : ErrV v) (j : Tmp) (w : World) : (eqGuard .neq 30 (Operand.tmp j) (Operand.const Value.nilIface) v .nilIface).run Tryd.prog w = .ok () w := by
  rcases h with ⟨a, rfl⟩ | ⟨g, rfl⟩
  all_goals kernel_rfl
theorem TErr.errv {W : World} {ah am ar : Addr} {v : Value} {R : Nat × Option Nat} (h : TErr W ah am ar v R) (hc : R = (0, none) ∨ R = (101, none) ∨ R = (102, none) ∨ R = (104, none) ∨ ∃ i, R = (102, some i)) (hn : R ≠ (0, none)) : ErrV v := by
  rcases hc with rfl | rfl | rfl | rfl | ⟨i, rfl⟩
  · exact absurd rfl hn
  · exact .inl ⟨_, h⟩
  · exact .inl ⟨_, h⟩
  · exact .inl ⟨_, h⟩
  · obtain ⟨g, h1, -⟩ := h
    exact .inr ⟨g, h1⟩
theorem TErr.keep {W W' : World} {ah am ar : Addr} {v : Value} {R : Nat × Option Nat} (h : TErr W ah am ar v R) (hb : ∀ (g : Nat) (x y : Value), Has W g 110 [x, y] → Has W' g 110 [x, y]) : TErr W' ah am ar v R := by
  obtain ⟨k, o⟩ := R
  cases o with
  | none => exact h
  | some i =>
    obtain ⟨g, h1, h2⟩ := h
    exact ⟨g, h1, hb g _ _ h2⟩
theorem TErr.down {W W' : World} {ah am ar : Addr} {v : Value} {R : Nat × Option Nat} (h : TErr W ah am ar v R) (hb : Below W.heap.size W W') : TErr W' ah am ar v R := h.keep fun _ _ _ hg => hg.below hb hg.lt
theorem TErr.far {W : World} {ah am ar : Addr} {v : Value} {R : Nat × Option Nat} (h : TErr W ah am ar v R) {b : Nat} {t : TypeId} {cs : List Value} (hb : Has W b t cs) (ht : cs.length ≠ 2) (i : Nat) (x : Value) : TErr (W.setCell ⟨b, i, none⟩ x) ah am ar v R := h.keep fun g y z hg => hg.far (p := ⟨b, i, none⟩) (by
    intro (e : g = b)
    subst e
    have h1 : W.heap[g]? = _ := hg
    have h2 : W.heap[g]? = _ := hb
    rw [h1] at h2
    simp at h2
    rw [← h2.1] at ht
    exact ht rfl) x
end Go.Proofs.YtkehdgjdieemkaaDoor
