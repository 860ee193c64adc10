/-
  An arena beside three rows of ints of the law's own. By an AI agent. No person has read it.
-/
import Derived.Test.YtemaaipgjghlaaaDoorApartB
namespace Go.Proofs.YtemaaipgjghlaaaDoor
open Go.RowKit

/-- The last one laid into the place of the k-th one, and cut off: the k-th one is gone. -/
theorem swap_perm (E : List En) (k n : Nat) (ek el : En) (hn : E.length = n) (hk : k < n) (hek : E[k]? = some ek) (hel : E[n - 1]? = some el) : E.Perm (ek :: (E.set k el).take (n - 1)) := by
  subst hn
  obtain ⟨h1, h2⟩ := List.getElem?_eq_some_iff.1 hek
  obtain ⟨h3, h4⟩ := List.getElem?_eq_some_iff.1 hel
  have e0 : E = E.take (E.length - 1) ++ [el] := by
    have := List.drop_eq_getElem_cons h3
    rw [h4, show E.length - 1 + 1 = E.length by omega, List.drop_length] at this
    rw [← this, List.take_append_drop]
  by_cases hlast : k = E.length - 1
  · subst hlast
    have : ek = el := by rw [hel] at hek; exact (Option.some.inj hek).symm
    subst this
    rw [List.take_set_of_le (Nat.le_refl _)]
    conv => lhs; rw [e0]
    exact List.perm_append_singleton ..
  · have hkl : k < (E.take (E.length - 1)).length := by rw [List.length_take]; omega
    rw [List.take_set]
    generalize hF : E.take (E.length - 1) = F at *
    have hfk : F[k]? = some ek := by
      rw [← hF, List.getElem?_take, if_pos (by omega)]
      exact hek
    obtain ⟨h5, h6⟩ := List.getElem?_eq_some_iff.1 hfk
    have e1 : F = F.take k ++ ek :: F.drop (k + 1) := by
      rw [← h6, ← List.drop_eq_getElem_cons h5, List.take_append_drop]
    have e2 : F.set k el = F.take k ++ el :: F.drop (k + 1) := by rw [List.set_eq_take_append_cons_drop, if_pos h5]
    rw [e0, e2]
    refine (List.perm_append_singleton el F).trans ?_
    conv => lhs; rw [e1]
    refine ((List.perm_middle (a := ek) (l₁ := F.take k) (l₂ := F.drop (k + 1))).cons el).trans ?_
    refine (List.Perm.swap ek el _).trans ?_
    exact ((List.perm_middle (a := el) (l₁ := F.take k) (l₂ := F.drop (k + 1))).symm).cons ek
/-- Two values that are no slices of one block. -/
def ApartV (u v : Value) : Prop := ∀ k, u.ownBlock = some k → v.ownBlock ≠ some k
theorem ApartV.swap {u v : Value} (h : ApartV u v) : ApartV v u := fun k hk hj => h k hj hk
abbrev OwnI (w : World) (B : Nat) (v : Value) (xs : List Int) : Prop := w.ownsRow B 3 1 v xs.length (xs.map fun z => Value.int .i64 z)
/-- A row that lies elsewhere is kept. -/
theorem own_same {w w' : World} {base n s : Nat} {e : TypeId} {v : Value} {xs : List Value} (h : w.ownsRow base e s v n xs) (hk : ∀ k, v.ownBlock = some k → w'.heap[k]? = w.heap[k]?) : w'.ownsRow base e s v n xs := by
  refine ⟨h.1, ?_⟩
  rcases h.2 with ⟨h1, h2⟩ | ⟨g, c, cur, h1, h2, h3, h4⟩
  · exact .inl ⟨h1, h2⟩
  · exact .inr ⟨g, c, cur, h1, h2, (hk g (by rw [h1]; rfl)).trans h3, h4⟩
/-- What a row of ints of one's own has. -/
theorem own_ints {w : World} {B : Nat} {v : Value} {xs : List Int} (h : OwnI w B v xs) (h0 : 0 < xs.length) : ∃ g c, v = .slice (some ⟨g, 0, none⟩) xs.length c ∧ xs.length ≤ c ∧ v.ownBlock = some g ∧ ∀ (k : Nat) (z : Int), xs[k]? = some z → w.cell? ⟨g, k, none⟩ = some (.int .i64 z) ∧ w.frozen? ⟨g, k, none⟩ = false := by
  rcases h.2 with ⟨-, h2⟩ | ⟨g, c, cur, h1, h2, h3, h4, -, h6, h7⟩
  · omega
  · refine ⟨g, c, h1, h4, by rw [h1]; rfl, fun k z hz => ⟨?_, by simp [World.frozen?, h3]⟩⟩
    have e : (cur.toList.take (xs.length * 1))[k]? = some (.int .i64 z) := by rw [h7, List.getElem?_map, hz]; rfl
    rw [List.getElem?_take] at e
    rw [cell_of_row w g k cur _ (0, 0) h3, ← Array.getElem?_toList]
    split at e
    · exact e
    · cases e
theorem own_cell {w : World} {B g n c : Nat} {xs : List Int} (h : OwnI w B (.slice (some ⟨g, 0, none⟩) n c) xs) (k : Nat) (z : Int) (hz : xs[k]? = some z) : w.cell? ⟨g, k, none⟩ = some (.int .i64 z) ∧ w.frozen? ⟨g, k, none⟩ = false := by
  have hl := (List.getElem?_eq_some_iff.1 hz).1
  obtain ⟨g', c', e, -, -, h2⟩ := own_ints h (by omega)
  injection e with e1
  cases e1
  exact h2 k z hz
/-- Ways that meet: the rest is walked once. -/
theorem meetW {p : Prop} {A : World → Prop} (h : ∃ G : World → Prop, ((∀ w, A w → G w) → p) ∧ ∀ w, A w → G w) : p := by
  obtain ⟨G, h1, h2⟩ := h
  exact h1 h2
theorem meetV {p : Prop} {A : Option Addr → Nat → World → Prop} (h : ∃ G : Option Addr → Nat → World → Prop, ((∀ x c w, A x c w → G x c w) → p) ∧ ∀ x c w, A x c w → G x c w) : p := by
  obtain ⟨G, h1, h2⟩ := h
  exact h1 h2
/-- An arena, and three rows that lie beside it. -/
structure Ap.St (B : Nat) (w : World) (a : Nat) (mem : List Nat) (ps : List Pt) (u v x : Value) (us vs xs : List Int) (T : Nat → Prop) : Prop where
  is_ : Ar.Is B w a mem ps T
  u_ : OwnI w B u us
  v_ : OwnI w B v vs
  x_ : OwnI w B x xs
  uv : ApartV u v
  vx : ApartV v x
  xu : ApartV x u
  tu : ∀ k, u.ownBlock = some k → T k
  tv : ∀ k, v.ownBlock = some k → T k
  tx : ∀ k, x.ownBlock = some k → T k
section
variable {B a : Nat} {w w' : World} {mem mem' : List Nat} {ps ps' : List Pt} {u v x : Value} {us vs xs : List Int} {T : Nat → Prop}
theorem Ap.St.turn (h : Ap.St B w a mem ps u v x us vs xs T) : Ap.St B w a mem ps v x u vs xs us T := ⟨h.is_, h.v_, h.x_, h.u_, h.vx, h.xu, h.uv, h.tv, h.tx, h.tu⟩
/-- Behind what the arena is told. -/
theorem Ap.St.told (h : Ap.St B w a mem ps u v x us vs xs T) (hI : Ar.Is B w' a mem' ps' T) (hT : Ar.To B T w w') : Ap.St B w' a mem' ps' u v x us vs xs T :=
  ⟨hI, own_same h.u_ fun k hk => hT.keep k (h.tu k hk), own_same h.v_ fun k hk => hT.keep k (h.tv k hk), own_same h.x_ fun k hk => hT.keep k (h.tx k hk), h.uv, h.vx, h.xu, h.tu, h.tv, h.tx⟩
theorem Ap.St.below (h : Ap.St B w a mem ps u v x us vs xs T) (hb : Below w.heap.size w w') : Ap.St B w' a mem ps u v x us vs xs T :=
  h.told (h.is_.below hb).1 (h.is_.below hb).2
/-- Behind a change of the first row alone. -/
theorem Ap.St.grown {u' : Value} {us' : List Int} (h : Ap.St B w a mem ps u v x us vs xs T) (hg : w.grownBy w' u.ownBlock) (ho : OwnI w' B u' us') (hat : u'.ownBlock = u.ownBlock ∨ u'.ownBlock = some w.heap.size) : Ap.St B w' a mem ps u' v x us' vs xs (fun k => T k ∨ (w.heap.size ≤ k ∧ k < w'.heap.size)) := by
  have hoff : Off u.ownBlock.toList w w' := ⟨hg.os, hg.tape, hg.output, hg.size, fun k hk hn => hg.block k hk fun e => hn (by rw [← e]; simp)⟩
  have hne : ∀ y : Value, (∀ k, y.ownBlock = some k → k < w.heap.size) → ApartV u y → ApartV u' y := fun y hy hu k hk hj => by
    rcases hat with e | e
    · exact hu k (by rw [← e]; exact hk) hj
    · rw [e] at hk
      cases hk
      exact absurd (hy _ hj) (Nat.lt_irrefl _)
  refine ⟨h.is_.more hoff fun k hk => h.tu k (by simpa using hk), ho, own_grown h.v_ hg fun k hk e => h.uv k e hk, own_grown h.x_ hg fun k hk e => h.xu k hk e, ?_, h.vx, ?_, fun k hk => ?_, fun k hk => .inl (h.tv k hk), fun k hk => .inl (h.tx k hk)⟩
  · exact hne v (fun k hk => own_lt h.v_ k hk) h.uv
  · exact (hne x (fun k hk => own_lt h.x_ k hk) h.xu.swap).swap
  · rcases hat with e | e
    · exact .inl (h.tu k (by rw [← e]; exact hk))
    · have := own_lt ho k hk
      rw [e] at hk
      cases hk
      exact .inr ⟨Nat.le_refl _, this⟩
/-- Behind a number that is written into the first row. -/
theorem Ap.St.set_ {g : Nat} (h : Ap.St B w a mem ps u v x us vs xs T) (hu : u.ownBlock = some g) (k : Nat) (z : Int) : Ap.St B (w.setCell ⟨g, k, none⟩ (.int .i64 z)) a mem ps u v x (us.set k z) vs xs T := by
  have ho := own_upd (q := k) (u := .int .i64 z) h.u_ hu
  have hoff : Off [g] w (w.setCell ⟨g, k, none⟩ (.int .i64 z)) := (Off.of_below (Below.refl w.heap.size w) : Off [] w w) |> fun h0 => ⟨h0.os, h0.tape, h0.output, by simp [World.setCell], fun j hj hn => Below.heap_setCell w ⟨g, k, none⟩ _ j (by simpa using hn)⟩
  refine ⟨h.is_.off hoff fun j hj => h.tu j (by rw [hu, List.mem_singleton.1 hj]), ?_, own_set h.v_ (fun j hj e => h.uv j (by rw [hu, show j = g from e]) hj) _, own_set h.x_ (fun j hj e => h.xu j hj (by rw [hu, show j = g from e])) _, h.uv, h.vx, h.xu, h.tu, h.tv, h.tx⟩
  show World.ownsRow _ _ _ _ _ _ _
  rw [List.length_set, List.map_set]
  exact ho
/-- Behind a cut of the first row. -/
theorem Ap.St.cut {g n c : Nat} (h : Ap.St B w a mem ps (.slice (some ⟨g, 0, none⟩) n c) v x us vs xs T) (m : Nat) (hm : m ≤ us.length) : Ap.St B w a mem ps (.slice (some ⟨g, 0, none⟩) m c) v x (us.take m) vs xs T := by
  refine ⟨h.is_, ?_, h.v_, h.x_, h.uv, h.vx, h.xu, h.tu, h.tv, h.tx⟩
  have hl : (us.take m).length = m := by rw [List.length_take]; omega
  rcases h.u_.2 with ⟨h1, -⟩ | ⟨g', c', cur, h1, h2, h3, h4, h5, h6, h7⟩
  · cases h1
  · cases h1
    refine ⟨by rw [List.length_map, Nat.mul_one], .inr ⟨g, c, cur, by rw [hl], h2, h3, by omega, h5, h6, ?_⟩⟩
    rw [hl, List.map_take, ← h7, List.take_take]
    congr 1
    omega
/-- Behind a number more in the first row. -/
theorem Ap.St.app {u' : Value} {z : Int} (h : Ap.St B w a mem ps u v x us vs xs T) (ho : w'.ownsRow B 3 1 u' (us.length + 1) (us.map (fun z => Value.int .i64 z) ++ [.int .i64 z])) (hg : w.grownBy w' u.ownBlock) (hat : u'.ownBlock = u.ownBlock ∨ u'.ownBlock = some w.heap.size) : Ap.St B w' a mem ps u' v x (us ++ [z]) vs xs (fun k => T k ∨ (w.heap.size ≤ k ∧ k < w'.heap.size)) := by
  refine h.grown hg ?_ hat
  show World.ownsRow _ _ _ _ _ _ _
  rw [List.length_append, List.map_append]
  exact ho
end
end Go.Proofs.YtemaaipgjghlaaaDoor
