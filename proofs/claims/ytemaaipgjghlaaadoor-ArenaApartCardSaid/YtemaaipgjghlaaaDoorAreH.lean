/-
  An arena behind the insertion of a part. By an AI agent. No person has read it.
-/
import Derived.Test.YtemaaipgjghlaaaDoorAreG
namespace Go.Proofs.YtemaaipgjghlaaaDoor
open Go.RowKit

theorem own_lt {w : World} {base n s : Nat} {e : TypeId} {v : Value} {xs : List Value} (h : w.ownsRow base e s v n xs) (k : Nat) (hk : v.ownBlock = some k) : k < w.heap.size := by
  rcases h.2 with ⟨rfl, -⟩ | ⟨g, c, cur, rfl, -, h3, -⟩
  · cases hk
  · cases hk
    show g < w.heap.size
    rcases Nat.lt_or_ge g w.heap.size with hlt | hge
    · exact hlt
    · rw [Array.getElem?_eq_none hge] at h3; cases h3
theorem own_ge {w : World} {base n s : Nat} {e : TypeId} {v : Value} {xs : List Value} (h : w.ownsRow base e s v n xs) (k : Nat) (hk : v.ownBlock = some k) : base ≤ k := by
  rcases h.2 with ⟨rfl, -⟩ | ⟨g, c, cur, rfl, h2, -⟩
  · cases hk
  · cases hk
    exact h2
theorem own_grown {w w' : World} {base n s : Nat} {e : TypeId} {v : Value} {xs : List Value} {row : Option Nat} (h : w.ownsRow base e s v n xs) (hg : w.grownBy w' row) (hr : ∀ k, v.ownBlock = some k → row ≠ some k) : w'.ownsRow base e s v n xs := by
  refine ⟨h.1, ?_⟩
  rcases h.2 with ⟨h1, h2⟩ | ⟨g, c, cur, h1, h2, h3, h4⟩
  · exact .inl ⟨h1, h2⟩
  · exact .inr ⟨g, c, cur, h1, h2, (hg.block g (own_lt h g (by rw [h1]; rfl)) (fun e => hr g (by rw [h1]; rfl) e.symm)).trans h3, h4⟩
theorem own_set {w : World} {base n s : Nat} {e : TypeId} {v : Value} {xs : List Value} (h : w.ownsRow base e s v n xs) {p : Addr} (hp : ∀ k, v.ownBlock = some k → k ≠ p.block) (u : Value) : (w.setCell p u).ownsRow base e s v n xs := by
  refine ⟨h.1, ?_⟩
  rcases h.2 with ⟨h1, h2⟩ | ⟨g, c, cur, h1, h2, h3, h4⟩
  · exact .inl ⟨h1, h2⟩
  · exact .inr ⟨g, c, cur, h1, h2, (Below.heap_setCell w p u g (hp g (by rw [h1]; rfl))).trans h3, h4⟩
/-- A part's own row of blocks lies in a block that is told. -/
theorem Ar.bl_part {l : List Hd} {h : Hd} (hh : h ∈ l) (k : Nat) (hk : (Value.slice h.A h.bs.length h.c).ownBlock = some k) : k ∈ l.filterMap fun h => h.A.map (·.block) := by
  rw [List.mem_filterMap]
  refine ⟨h, hh, ?_⟩
  cases hA : h.A with
  | none => rw [hA] at hk; cases hk
  | some ad => rw [hA] at hk; exact hk
theorem ArIn.lt {base : Nat} {w : World} {a m : Nat} {v : Value} {mem : List Nat} {l : List Hd} (h : ArIn base w a m v mem l) (k : Nat) (hk : k ∈ Ar.bl a m v l) : k < w.heap.size ∧ base ≤ k := by
  simp only [Ar.bl, List.mem_cons, List.mem_append, List.mem_filterMap, Option.mem_toList, Option.map_eq_some_iff] at hk
  rcases hk with rfl | rfl | hk | ⟨x, hx, ad, hA, rfl⟩
  · exact ⟨h.box.lt, h.low.1⟩
  · exact ⟨h.bytes.lt, h.low.2⟩
  · exact ⟨own_lt h.row k hk, own_ge h.row k hk⟩
  · exact ⟨own_lt (h.bks x hx) _ (by rw [hA]; rfl), own_ge (h.bks x hx) _ (by rw [hA]; rfl)⟩
theorem flat_take {α : Type} (f : α → List Value) (n : Nat) (ts : List α) (hf : ∀ t ∈ ts, (f t).length = n) (i : Nat) (hi : i ≤ ts.length) : (ts.flatMap f).take (i * n) = (ts.take i).flatMap f ∧ (ts.flatMap f).drop (i * n) = (ts.drop i).flatMap f := by
  have h := flat_len f n (ts.take i) (fun t ht => hf t (List.mem_of_mem_take ht))
  rw [List.length_take, Nat.min_eq_left hi] at h
  have e : ts.flatMap f = (ts.take i).flatMap f ++ (ts.drop i).flatMap f := by rw [← List.flatMap_append, List.take_append_drop]
  rw [e, ← h]
  exact ⟨List.take_left, List.drop_left⟩
/-- Behind an insertion into the row of parts, and the store of the new row: the arena with the new part. -/
theorem ArIn.added {base : Nat} {w w' : World} {a m i : Nat} {v v' : Value} {mem : List Nat} {l : List Hd} {h : Hd} (hA : ArIn base w a m v mem l) (hi : i ≤ l.length) (hh : h.A = none ∧ h.bs = [] ∧ h.c = 0)
    (hrow : w'.ownsRow base 62 4 v' (l.length + 1) ((l.flatMap Hd.vals).take (i * 4) ++ h.vals ++ (l.flatMap Hd.vals).drop (i * 4))) (hg : w.grownBy w' v.ownBlock) (hat : v'.ownBlock = v.ownBlock ∨ v'.ownBlock = some w.heap.size) :
    ArIn base (w'.setCell ⟨a, 1, none⟩ v') a m v' mem (l.take i ++ h :: l.drop i) ∧ Off (Ar.bl a m v l) w (w'.setCell ⟨a, 1, none⟩ v') ∧ ∀ k ∈ Ar.bl a m v' (l.take i ++ h :: l.drop i), k ∈ Ar.bl a m v l ∨ w.heap.size ≤ k := by
  have hd := hA.dis
  unfold Ar.bl at hd
  rw [List.nodup_cons, List.nodup_cons] at hd
  obtain ⟨hd1, hd2, hd3⟩ := hd
  have ham : a ≠ m := fun e => hd1 (by rw [e]; exact List.mem_cons_self ..)
  have hav : ∀ k, v.ownBlock = some k → a ≠ k := fun k hk e => hd1 (List.mem_cons_of_mem _ (List.mem_append_left _ (by rw [e, hk]; simp)))
  have hmv : ∀ k, v.ownBlock = some k → m ≠ k := fun k hk e => hd2 (List.mem_append_left _ (by rw [e, hk]; simp))
  have hap : ∀ k, (k ∈ l.filterMap fun h => h.A.map (·.block)) → a ≠ k := fun k hk e => hd1 (List.mem_cons_of_mem _ (List.mem_append_right _ (by rw [e]; exact hk)))
  have hvp : ∀ k, (k ∈ l.filterMap fun h => h.A.map (·.block)) → v.ownBlock ≠ some k := fun k hk e => by
    rw [List.nodup_append] at hd3
    exact hd3.2.2 k (by rw [e]; simp) k hk rfl
  have hfm : (l.take i ++ h :: l.drop i).filterMap (fun h => h.A.map (·.block)) = l.filterMap fun h => h.A.map (·.block) := by
    rw [List.filterMap_append, List.filterMap_cons, hh.1]
    show (l.take i).filterMap (fun h => h.A.map (·.block)) ++ (l.drop i).filterMap (fun h => h.A.map (·.block)) = _
    rw [← List.filterMap_append, List.take_append_drop]
  have hav' : ∀ k, v'.ownBlock = some k → k ≠ a := fun k hk e => by
    rcases hat with h1 | h1
    · exact hav k (h1.symm.trans hk) e.symm
    · have hl := hA.box.lt
      rw [h1] at hk
      cases hk
      omega
  have hb' : Has (w'.setCell ⟨a, 1, none⟩ v') a 59 [.slice (some ⟨m, 0, none⟩) mem.length mem.length, v'] :=
    (hA.box.grown hg fun e => hav a e.symm rfl).set_ 1 v'
  have hm' : Has (w'.setCell ⟨a, 1, none⟩ v') m 5 (u8s mem) := (hA.bytes.grown hg fun e => hmv m e.symm rfl).far (p := ⟨a, 1, none⟩) (fun e => ham e.symm) v'
  refine ⟨⟨hb', hm', ?_, ?_, ?_, hA.low⟩, (Off.grown hg fun k hk => ?_).set_ (by simp [Ar.bl]) v', ?_⟩
  · obtain ⟨e1, e2⟩ := flat_take Hd.vals 4 l (fun _ _ => rfl) i hi
    rw [e1, e2] at hrow
    have e : (l.take i ++ h :: l.drop i).flatMap Hd.vals = (l.take i).flatMap Hd.vals ++ h.vals ++ (l.drop i).flatMap Hd.vals := by
      rw [List.flatMap_append, List.flatMap_cons, List.append_assoc]
    have el : (l.take i ++ h :: l.drop i).length = l.length + 1 := by
      rw [List.length_append, List.length_cons, List.length_take, List.length_drop]; omega
    rw [e, el]
    exact own_set hrow hav' v'
  · intro x hx
    rcases List.mem_append.1 hx with hx | hx
    · have hxl := List.mem_of_mem_take hx
      exact own_set (own_grown (hA.bks x hxl) hg fun k hk => hvp k (Ar.bl_part hxl k hk)) (fun k hk => (hap k (Ar.bl_part hxl k hk)).symm) v'
    · rcases List.mem_cons.1 hx with rfl | hx
      · rw [hh.1, hh.2.1, hh.2.2]
        exact ⟨rfl, .inl ⟨rfl, rfl⟩⟩
      · have hxl := List.mem_of_mem_drop hx
        exact own_set (own_grown (hA.bks x hxl) hg fun k hk => hvp k (Ar.bl_part hxl k hk)) (fun k hk => (hap k (Ar.bl_part hxl k hk)).symm) v'
  · unfold Ar.bl
    rw [hfm]
    rcases hat with h1 | h1
    · rw [h1]
      exact hA.dis
    · rw [h1]
      have hlt := hA.lt
      have hn : ∀ k ∈ Ar.bl a m v l, k ≠ w.heap.size := fun k hk => by have := (hlt k hk).1; omega
      unfold Ar.bl at hn
      rw [List.nodup_append] at hd3
      show (a :: m :: ([w.heap.size] ++ _)).Nodup
      rw [List.nodup_cons, List.nodup_cons, List.nodup_append]
      refine ⟨fun hm => ?_, fun hm => ?_, by simp, hd3.2.1, fun x hx y hy e => ?_⟩
      · rcases List.mem_cons.1 hm with e | hm
        · exact ham e
        · rcases List.mem_append.1 hm with hm | hm
          · exact hn a (List.mem_cons_self ..) (by simpa using hm)
          · exact hap a hm rfl
      · rcases List.mem_append.1 hm with hm | hm
        · exact hn m (by simp) (by simpa using hm)
        · exact hd2 (List.mem_append_right _ hm)
      · simp at hx
        exact hn y (by simp only [List.mem_cons, List.mem_append]; exact .inr (.inr (.inr hy))) (by rw [← e, hx])
  · simp [Ar.bl, hk]
  · intro k hk
    unfold Ar.bl at hk ⊢
    rw [hfm] at hk
    rcases hat with h1 | h1
    · rw [h1] at hk
      exact .inl hk
    · rw [h1] at hk
      simp only [List.mem_cons, List.mem_append, Option.mem_toList, Option.some.injEq] at hk ⊢
      rcases hk with h | h | h | h
      · exact .inl (.inl h)
      · exact .inl (.inr (.inl h))
      · exact .inr (by omega)
      · exact .inl (.inr (.inr (.inr h)))
end Go.Proofs.YtemaaipgjghlaaaDoor
