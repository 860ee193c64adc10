/-
  An arena behind a change of one part's row of blocks. By an AI agent. No person has read it.
-/
import Derived.Test.YtemaaipgjghlaaaDoorAreL
namespace Go.Proofs.YtemaaipgjghlaaaDoor
open Go.RowKit

/-- The part with other blocks. -/
def Hd.put (h : Hd) (A : Option Addr) (bs : List (Nat × Nat)) (c : Nat) : Hd := ⟨h.id, h.off, h.size, A, bs, c⟩
theorem Hd.cut (l : List Hd) (i : Nat) (h : Hd) (hi : l[i]? = some h) (h' : Hd) : ∃ l1 l2, l = l1 ++ h :: l2 ∧ l.set i h' = l1 ++ h' :: l2 ∧ l1.length = i := by
  obtain ⟨hlt, he⟩ := List.getElem?_eq_some_iff.1 hi
  refine ⟨l.take i, l.drop (i + 1), ?_, ?_, by rw [List.length_take]; omega⟩
  · rw [← he, ← List.drop_eq_getElem_cons hlt, List.take_append_drop]
  · rw [List.set_eq_take_append_cons_drop, if_pos hlt]
theorem nodup_swap {F1 F2 o o' : List Nat} (h : (F1 ++ (o ++ F2)).Nodup) (ho : o'.Nodup) (hn : ∀ k ∈ o', k ∉ F1 ∧ k ∉ F2) : (F1 ++ (o' ++ F2)).Nodup := by
  rw [List.nodup_append, List.nodup_append] at h ⊢
  obtain ⟨h1, ⟨-, h2, -⟩, h3⟩ := h
  refine ⟨h1, ⟨ho, h2, fun x hx y hy e => (hn x hx).2 (by rw [e]; exact hy)⟩, fun x hx y hy e => ?_⟩
  rcases List.mem_append.1 hy with hy | hy
  · exact (hn y hy).1 (by rw [← e]; exact hx)
  · exact h3 x hx y (List.mem_append_right _ hy) e
theorem Ar.bl_cut (a m : Nat) (v : Value) (l1 l2 : List Hd) (h : Hd) : Ar.bl a m v (l1 ++ h :: l2) = (a :: m :: (v.ownBlock.toList ++ l1.filterMap fun h => h.A.map (·.block))) ++ ((h.A.map (·.block)).toList ++ l2.filterMap fun h => h.A.map (·.block)) := by
  unfold Ar.bl
  rw [List.filterMap_append, List.filterMap_cons]
  cases h.A <;> simp
/-- Behind a change of a part's blocks, and the store of the new row. -/
theorem ArIn.put {base p i c' : Nat} {w w' : World} {a m : Nat} {v : Value} {mem : List Nat} {l : List Hd} {h : Hd} {A' : Option Addr} {bs' : List (Nat × Nat)} (hA : ArIn base w a m v mem l) (hi : l[i]? = some h) (hp : v.ownBlock = some p)
    (hrow : w'.ownsRow base 64 2 (.slice A' bs'.length c') bs'.length (bs'.flatMap Bk.vals)) (hg : w.grownBy w' (h.A.map (·.block))) (hat : A'.map (·.block) = h.A.map (·.block) ∨ A'.map (·.block) = some w.heap.size) :
    ArIn base (w'.setCell ⟨p, i * 4 + 3, none⟩ (.slice A' bs'.length c')) a m v mem (l.set i (h.put A' bs' c')) ∧ Off (Ar.bl a m v l) w (w'.setCell ⟨p, i * 4 + 3, none⟩ (.slice A' bs'.length c')) ∧ ∀ k ∈ Ar.bl a m v (l.set i (h.put A' bs' c')), k ∈ Ar.bl a m v l ∨ w.heap.size ≤ k := by
  obtain ⟨l1, l2, e1, e2, e3⟩ := Hd.cut l i h hi (h.put A' bs' c')
  have hd := hA.dis
  have hlt := hA.lt
  have hbl : ∀ k, h.A.map (·.block) = some k → k ∈ Ar.bl a m v l := fun k hk => by
    rw [e1, Ar.bl_cut, hk]; simp
  -- all blocks but the part's own
  have hoth : ∀ k ∈ (a :: m :: (v.ownBlock.toList ++ l1.filterMap fun h => h.A.map (·.block))) ++ l2.filterMap fun h => h.A.map (·.block), h.A.map (·.block) ≠ some k := fun k hk e => by
    rw [e1, Ar.bl_cut, e, List.nodup_append, List.nodup_append] at hd
    rcases List.mem_append.1 hk with hk | hk
    · exact hd.2.2 k hk k (by simp) rfl
    · exact hd.2.1.2.2 k (by simp) k hk rfl
  have hpv : ∀ k ∈ (a :: m :: (l1.filterMap fun h => h.A.map (·.block))) ++ l2.filterMap fun h => h.A.map (·.block), k ≠ p := fun k hk e => by
    have hd' := hA.dis
    unfold Ar.bl at hd'
    rw [hp, e1, List.filterMap_append, List.filterMap_cons] at hd'
    rw [e] at hk
    simp only [Option.toList_some, List.singleton_append, List.nodup_cons, List.mem_cons, List.mem_append, not_or] at hd' hk
    rcases hk with (rfl | rfl | h1) | h2
    · exact hd'.1.2.1 rfl
    · exact hd'.2.1.1 rfl
    · exact hd'.2.2.1.1 h1
    · exact hd'.2.2.1.2 (by cases h.A <;> simp [h2])
  have hpp : h.A.map (·.block) ≠ some p := hoth p (by rw [hp]; simp)
  have hb' := (hA.box.grown hg fun e => hoth a (by simp) e.symm).far (p := ⟨p, i * 4 + 3, none⟩) (hpv a (by simp)) (.slice A' bs'.length c')
  have hm' := (hA.bytes.grown hg fun e => hoth m (by simp) e.symm).far (p := ⟨p, i * 4 + 3, none⟩) (hpv m (by simp)) (.slice A' bs'.length c')
  have hr' := own_upd (q := i * 4 + 3) (u := .slice A' bs'.length c') (own_grown hA.row hg fun k hk => hoth k (by rw [hk]; simp)) hp
  rw [flat_set l i h A' bs' c' hi] at hr'
  have hpw : p < w.heap.size := own_lt hA.row p hp
  have hA'p : ∀ k, (Value.slice A' bs'.length c').ownBlock = some k → k ≠ p := fun k hk e => by
    have hk' : A'.map (·.block) = some k := by
      cases hA' : A' with
      | none => rw [hA'] at hk; cases hk
      | some ad => rw [hA'] at hk; exact hk
    rcases hat with h1 | h1
    · exact hpp (by rw [← h1, hk', e])
    · rw [hk'] at h1
      cases h1
      omega
  have hkeep : ∀ x ∈ l, x ∈ l1 ∨ x ∈ l2 → (w'.setCell ⟨p, i * 4 + 3, none⟩ (.slice A' bs'.length c')).ownsRow base 64 2 (.slice x.A x.bs.length x.c) x.bs.length (x.bs.flatMap Bk.vals) := fun x hx hx2 => by
    have hmem : ∀ k, (Value.slice x.A x.bs.length x.c).ownBlock = some k → k ∈ l1.filterMap (fun h => h.A.map (·.block)) ∨ k ∈ l2.filterMap (fun h => h.A.map (·.block)) := fun k hk => by
      rcases hx2 with hx2 | hx2
      · exact .inl (Ar.bl_part hx2 k hk)
      · exact .inr (Ar.bl_part hx2 k hk)
    refine own_set (own_grown (hA.bks x hx) hg fun k hk => hoth k ?_) (fun k hk => hpv k ?_) _
    · rcases hmem k hk with h1 | h1 <;> simp [h1]
    · rcases hmem k hk with h1 | h1
      · simp only [List.mem_append, List.mem_cons]; exact .inl (.inr (.inr h1))
      · exact List.mem_append_right _ h1
  refine ⟨⟨hb', hm', ?_, ?_, ?_, hA.low⟩, (Off.grown hg fun k hk => hbl k hk).set_ (by simp [Ar.bl, hp]) _, ?_⟩
  · rw [List.length_set]
    exact hr'
  · intro x hx
    rw [e2] at hx
    rcases List.mem_append.1 hx with hx | hx
    · exact hkeep x (by rw [e1]; exact List.mem_append_left _ hx) (.inl hx)
    · rcases List.mem_cons.1 hx with rfl | hx
      · exact own_set hrow hA'p _
      · exact hkeep x (by rw [e1]; exact List.mem_append_right _ (List.mem_cons_of_mem _ hx)) (.inr hx)
  · rw [e2, Ar.bl_cut]
    rw [e1, Ar.bl_cut] at hd
    show (_ ++ ((A'.map (·.block)).toList ++ _)).Nodup
    refine nodup_swap hd (by cases A' <;> simp) fun k hk => ?_
    have hk' : A'.map (·.block) = some k := by simpa using hk
    rcases hat with h1 | h1
    · rw [h1] at hk'
      exact ⟨fun hm => hoth k (List.mem_append_left _ hm) hk', fun hm => hoth k (List.mem_append_right _ hm) hk'⟩
    · rw [hk'] at h1
      cases h1
      refine ⟨fun hm => ?_, fun hm => ?_⟩
      · have := (hlt w.heap.size (by rw [e1, Ar.bl_cut]; exact List.mem_append_left _ hm)).1
        omega
      · have := (hlt w.heap.size (by rw [e1, Ar.bl_cut]; exact List.mem_append_right _ (List.mem_append_right _ hm))).1
        omega
  · intro k hk
    rw [e2, Ar.bl_cut] at hk
    rw [e1, Ar.bl_cut]
    rcases List.mem_append.1 hk with hk | hk
    · exact .inl (List.mem_append_left _ hk)
    · rcases List.mem_append.1 hk with hk | hk
      · have hk' : A'.map (·.block) = some k := by
          have : k ∈ (A'.map (·.block)).toList := hk
          simpa using this
        rcases hat with h1 | h1
        · rw [h1] at hk'
          exact .inl (List.mem_append_right _ (List.mem_append_left _ (by simp [hk'])))
        · rw [hk'] at h1
          cases h1
          exact .inr (Nat.le_refl _)
      · exact .inl (List.mem_append_right _ (List.mem_append_right _ hk))
end Go.Proofs.YtemaaipgjghlaaaDoor
