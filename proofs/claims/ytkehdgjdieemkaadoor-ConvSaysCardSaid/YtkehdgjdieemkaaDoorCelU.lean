/-
  Codes of an operation element by element; tensors of a later time. By an AI agent. No person has read it.
-/
import Derived.Test.YtkehdgjdieemkaaDoorElmT
namespace Go.Proofs.YtkehdgjdieemkaaDoor
open Go.RowKit

theorem Ten.flat_look (ts : List Ten) : (ts.map Ten.look).flatMap Dsc.vals = ts.flatMap fun t => t.look.vals := by
  rw [List.flatMap_map]
theorem Elm.code_cases (op : Int) (qs : List Int) (ds : List Dsc) : Elm.code op qs ds = 0 ∨ Elm.code op qs ds = 101 ∨ Elm.code op qs ds = 102 ∨ Elm.code op qs ds = 103 ∨ Elm.code op qs ds = 104 := by
  have hb : ∀ l : List Dsc, Shp.firstbad l = 0 ∨ Shp.firstbad l = 102 ∨ Shp.firstbad l = 104 := fun l => by
    induction l with
    | nil => exact .inl rfl
    | cons d l ih =>
      unfold Shp.firstbad
      split
      · exact ih
      · rcases Shp.code_is d.zs with h | h | h
        · exact .inr (.inr h)
        · exact .inr (.inl h)
        · exact .inl h
  unfold Elm.code
  split
  · simp
  split
  · simp
  split
  · rcases hb ds with h | h | h <;> rw [h] <;> simp
  split
  · simp
  split
  · simp
  · simp
/-- Where nothing is amiss. -/
theorem Elm.code_zero {op : Int} {qs : List Int} {ts : List Ten} (h : Elm.code op qs (ts.map Ten.look) = 0) :
    (4 ≤ op ∧ op ≤ 11) ∧ qs.length = Elm.nargs op ∧ ∃ a b, ((ts = [a] ∧ b = a) ∨ (ts = [a, b] ∧ a.zs = b.zs ∧ a.u = b.u)) ∧ Shp.code a.zs = 0 := by
  unfold Elm.code at h
  split at h
  · cases h
  rename_i h1
  split at h
  · cases h
  rename_i h2
  split at h
  · rename_i h3
    exact absurd h h3
  rename_i h3
  split at h
  · cases h
  rename_i h4
  have ho : 4 ≤ op ∧ op ≤ 11 := by
    have : Elm.known op = true := by simpa using h1
    exact of_decide_eq_true this
  have hn : (ts.map Ten.look).length = Elm.nins op := by
    rcases Decidable.em ((ts.map Ten.look).length = Elm.nins op) with h | h
    · exact h
    · exact absurd (.inl h) h2
  have hq : qs.length = Elm.nargs op := by
    rcases Decidable.em (qs.length = Elm.nargs op) with h | h
    · exact h
    · exact absurd (.inr h) h2
  refine ⟨ho, hq, ?_⟩
  rw [List.length_map] at hn
  unfold Elm.nins at hn
  by_cases h7 : op ≤ 7
  · rw [if_pos ⟨ho.1, h7⟩] at hn
    match ts, hn with
    | [a, b], _ =>
      have h4' : Elm.alike op [a.look, b.look] = true := by simpa using h4
      have h5 : (decide (a.zs = b.zs) && (a.u == b.u)) = true := h4'
      rw [Bool.and_eq_true] at h5
      have h6 : Shp.firstbad [a.look, b.look] = 0 := by simpa using h3
      refine ⟨a, b, .inr ⟨rfl, of_decide_eq_true h5.1, by simpa using h5.2⟩, ?_⟩
      unfold Shp.firstbad at h6
      by_cases hc : Shp.code a.look.zs = 0
      · exact hc
      · rw [if_neg hc] at h6
        exact h6
  · rw [if_neg (by omega)] at hn
    match ts, hn with
    | [a], _ =>
      have h6 : Shp.firstbad [a.look] = 0 := by simpa using h3
      refine ⟨a, a, .inl ⟨rfl, rfl⟩, ?_⟩
      unfold Shp.firstbad at h6
      by_cases hc : Shp.code a.look.zs = 0
      · exact hc
      · rw [if_neg hc] at h6
        exact h6
/-- A tensor that came back lies on where one's own block is written. -/
theorem Ten.In.far {w : World} {t : Ten} (h : t.In w) {b : Nat} (hP : ∀ ad, t.P = some ad → ad.block ≠ b) (hD : ∀ ad, t.D = some ad → ad.block ≠ b) (i : Nat) (x : Value) : t.In (w.setCell ⟨b, i, none⟩ x) := by
  have key : ∀ (P : Option Addr) (zs : List Int), (∀ ad, P = some ad → ad.block ≠ b) → Ri w P zs → Ri (w.setCell ⟨b, i, none⟩ x) P zs := fun P zs hne hr => by
    refine ⟨hr.1, fun hz => ?_⟩
    obtain ⟨ad, h1, h2, h3⟩ := hr.2 hz
    refine ⟨ad, h1, by simpa using h2, fun j z hj => ?_⟩
    rw [World.cell?_setCell_far _ _ _ _ (by rw [ad_block]; exact Ne.symm (hne ad h1))]
    exact h3 j z hj
  exact ⟨key _ _ hP h.shp, key _ _ hD h.dat, h.ls, h.ld⟩
/-- Its rows are of a later time. -/
def Ten.Fresh (n : Nat) (t : Ten) : Prop := (∀ ad, t.P = some ad → n ≤ ad.block) ∧ ∀ ad, t.D = some ad → n ≤ ad.block
theorem Ten.Fresh.le {n m : Nat} {t : Ten} (h : t.Fresh n) (hm : m ≤ n) : t.Fresh m := ⟨fun ad ha => Nat.le_trans hm (h.1 ad ha), fun ad ha => Nat.le_trans hm (h.2 ad ha)⟩
theorem Ten.In.far3 {w : World} {t : Ten} (h : t.In w) {b : Nat} (hf : t.Fresh (b + 1)) (x y z : Value) : t.In (((w.setCell ⟨b, 0, none⟩ x).setCell ⟨b, 1, none⟩ y).setCell ⟨b, 2, none⟩ z) := by
  have h1 : ∀ ad, t.P = some ad → ad.block ≠ b := fun ad ha => by have := hf.1 ad ha; omega
  have h2 : ∀ ad, t.D = some ad → ad.block ≠ b := fun ad ha => by have := hf.2 ad ha; omega
  exact ((h.far h1 h2 0 x).far h1 h2 1 y).far h1 h2 2 z
theorem box_at (W : World) (t : TypeId) (xs : List Value) (n : Nat) (h : W.heap.size = n) : Has (W.alloc (Obj.cells xs.toArray t)) n t xs := by
  subst h
  exact Has.new W t xs
end Go.Proofs.YtkehdgjdieemkaaDoor
