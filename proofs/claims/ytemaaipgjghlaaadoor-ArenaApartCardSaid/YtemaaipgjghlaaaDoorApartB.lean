/-
  What the law ArenaApart keeps: a block more, a block less. By an AI agent. No person has read it.
-/
import Derived.Test.YtemaaipgjghlaaaDoorApartA
namespace Go.Proofs.YtemaaipgjghlaaaDoor
open Go.RowKit

theorem cut_perm (l : List (Nat × Nat)) (d : Nat) (x : Nat × Nat) : (l.take d ++ x :: l.drop d).Perm (x :: l) := by
  have h : (l.take d ++ x :: l.drop d).Perm (x :: (l.take d ++ l.drop d)) := List.perm_middle
  rwa [List.take_append_drop] at h
theorem erase_perm (l : List (Nat × Nat)) (d : Nat) (x : Nat × Nat) (hd : l[d]? = some x) : l.Perm (x :: (l.take d ++ l.drop (d + 1))) := by
  obtain ⟨h1, h2⟩ := List.getElem?_eq_some_iff.1 hd
  have e : l = l.take d ++ x :: l.drop (d + 1) := by
    rw [← h2, ← List.drop_eq_getElem_cons h1, List.take_append_drop]
  have h : (l.take d ++ x :: l.drop (d + 1)).Perm (x :: (l.take d ++ l.drop (d + 1))) := List.perm_middle
  rwa [← e] at h
/-- A block more, and what is written into it. -/
theorem Ap.Inv.take {mem : List Nat} {b : Nat → List (Nat × Nat)} {E : List En} (h : Ap.Inv mem b E) (j n t off d : Nat) (hj : j < 3) (hn : 1 ≤ n) (ht : 1 ≤ t ∧ t ≤ 60) (hg : Ar.gap (n : Int) (Ap.size j) 0 0 (b j) = (off, d, true)) :
    Ap.Inv (Ar.over mem (Ap.base j + off) (List.replicate n t)) (Ap.upd b j ((b j).take d ++ (off, n) :: (b j).drop d)) (⟨j, off, n, t⟩ :: E) := by
  obtain ⟨d', e1, -, -, e4, e5⟩ := Ar.gap_ok n (Ap.size j) hn (b j) 0 0 off d (h.ok j hj) hg
  obtain rfl : d = d' := by omega
  have hbl := (Ap.base_le j hj).1
  have hfit : Ap.base j + off + n ≤ mem.length := by rw [h.len]; omega
  -- the bytes stand by the new block
  have hblk : ∀ i, i < 3 → (Ap.upd b j ((b j).take d ++ (off, n) :: (b j).drop d) i).Perm (((⟨j, off, n, t⟩ : En) :: E).filter (fun e => decide (e.who = i)) |>.map En.bk) := fun i hi => by
    unfold Ap.upd
    by_cases hij : i = j
    · subst hij
      rw [if_pos rfl, List.filter_cons, if_pos (by simp), List.map_cons]
      exact (cut_perm (b i) d (off, n)).trans ((h.blk i hi).cons _)
    · rw [if_neg hij, List.filter_cons, if_neg (by simpa using fun e => hij e.symm)]
      exact h.blk i hi
  have hok : ∀ i, i < 3 → Bk.ok (Ap.size i) 0 (Ap.upd b j ((b j).take d ++ (off, n) :: (b j).drop d) i) := fun i hi => by
    unfold Ap.upd
    split
    · next hij => rw [hij]; exact e5
    · exact h.ok i hi
  have hwho : ∀ e ∈ ((⟨j, off, n, t⟩ : En) :: E), e.who < 3 := fun e he => by
    rcases List.mem_cons.1 he with rfl | he
    · exact hj
    · exact h.who e he
  -- all others lie apart from it
  have hap : ∀ f ∈ E, En.apart ⟨j, off, n, t⟩ f := fun f hf => by
    have hf1 := h.who f hf
    have hf2 := h.fits f hf
    unfold En.apart En.lo
    by_cases hw : f.who = j
    · have hp := ok_pair e5
      have hp2 : ((b j).take d ++ (off, n) :: (b j).drop d).Pairwise (fun x y => x.1 + x.2 ≤ y.1 ∨ y.1 + y.2 ≤ x.1) := hp.imp (fun h => .inl h)
      have hp3 := ((cut_perm (b j) d (off, n)).pairwise_iff (R := fun x y => x.1 + x.2 ≤ y.1 ∨ y.1 + y.2 ≤ x.1) (fun h => h.symm)).1 hp2
      rw [List.pairwise_cons] at hp3
      have hm := h.mem_blk f hf
      rw [hw] at hm
      have := hp3.1 _ hm
      unfold En.bk at this
      dsimp only at this ⊢
      rw [hw]
      omega
    · have := (Ap.base_le j hj).2 f.who hf1 hw
      dsimp only
      omega
  refine ⟨hwho, fun e he => ?_, hblk, hok, fun e he x hx => ?_, fun x hx hno => ?_, ?_, by rw [Ar.over_len _ _ _ (by rw [List.length_replicate]; exact hfit)]; exact h.len⟩
  · rcases List.mem_cons.1 he with rfl | he
    · exact ht
    · exact h.tag e he
  · rw [over_at mem _ n t _ hfit]
    rcases List.mem_cons.1 he with rfl | he
    · have hx' : x < n := hx
      rw [if_pos (by unfold En.lo; dsimp only; omega)]
    · have := hap e he
      unfold En.apart En.lo at this
      dsimp only at this
      rw [if_neg (by unfold En.lo; omega)]
      exact h.val e he x hx
  · rw [over_at mem _ n t _ hfit]
    have h1 := hno ⟨j, off, n, t⟩ (List.mem_cons_self ..)
    unfold En.lo at h1
    dsimp only at h1
    rw [if_neg h1]
    exact h.free x hx fun e he => hno e (List.mem_cons_of_mem _ he)
  · have hz : (mem.drop (Ap.base j + off)).take n = List.replicate n 0 := seg_eq mem _ n 0 fun y hy => h.free _ (by omega) fun f hf hc => by
      have := hap f hf
      unfold En.apart En.lo at this
      unfold En.lo at hc
      dsimp only at this
      omega
    have := nz_over mem (Ap.base j + off) n t
    rw [hz, Ap.nz_zero, Ap.nz_rep n t (by omega), h.cnt] at this
    rw [List.map_cons, List.sum_cons]
    dsimp only
    omega
/-- A block less, and its bytes are 0. -/
theorem Ap.Inv.drop {mem : List Nat} {b : Nat → List (Nat × Nat)} {E : List En} {e : En} (h : Ap.Inv mem b (e :: E)) (d : Nat) (hd : (b e.who)[d]? = some e.bk) :
    Ap.Inv (Ar.wipe mem e.lo e.n) (Ap.upd b e.who ((b e.who).take d ++ (b e.who).drop (d + 1))) E := by
  have hj := h.who e (List.mem_cons_self ..)
  have hf := h.fits e (List.mem_cons_self ..)
  have hbl := (Ap.base_le e.who hj).1
  have hfit : e.lo + e.n ≤ mem.length := by rw [h.len]; unfold En.lo; omega
  rw [wipe_over]
  refine ⟨fun f hf => h.who f (List.mem_cons_of_mem _ hf), fun f hf => h.tag f (List.mem_cons_of_mem _ hf), fun i hi => ?_, fun i hi => ?_, fun f hf x hx => ?_, fun x hx hno => ?_, ?_, by rw [Ar.over_len _ _ _ (by rw [List.length_replicate]; exact hfit)]; exact h.len⟩
  · have hb := h.blk i hi
    unfold Ap.upd
    by_cases hij : i = e.who
    · subst hij
      rw [List.filter_cons, if_pos (by simp), List.map_cons] at hb
      rw [if_pos rfl]
      exact ((erase_perm (b e.who) d e.bk hd).symm.trans hb).cons_inv
    · rw [List.filter_cons, if_neg (by simpa using fun e => hij e.symm)] at hb
      rw [if_neg hij]
      exact hb
  · unfold Ap.upd
    split
    · next hij => rw [hij]; exact Bk.ok_erase d (h.ok e.who hj)
    · exact h.ok i hi
  · have := h.apart f hf
    unfold En.apart at this
    rw [over_at mem _ _ 0 _ hfit, if_neg (by omega)]
    exact h.val f (List.mem_cons_of_mem _ hf) x hx
  · rw [over_at mem _ _ 0 _ hfit]
    split
    · rfl
    · next hn =>
      refine h.free x hx fun f hf => ?_
      rcases List.mem_cons.1 hf with rfl | hf
      · exact hn
      · exact hno f hf
  · have hz : (mem.drop e.lo).take e.n = List.replicate e.n e.t := seg_eq mem _ e.n e.t fun y hy => h.val e (List.mem_cons_self ..) y hy
    have := nz_over mem e.lo e.n 0
    have ht := h.tag e (List.mem_cons_self ..)
    have hc := h.cnt
    rw [List.map_cons, List.sum_cons] at hc
    rw [hz, Ap.nz_zero, Ap.nz_rep e.n e.t (by omega)] at this
    omega
/-- What is read of a block. -/
theorem Ap.Inv.read {mem : List Nat} {b : Nat → List (Nat × Nat)} {E : List En} (h : Ap.Inv mem b E) (e : En) (he : e ∈ E) : (mem.drop e.lo).take e.n = List.replicate e.n e.t :=
  seg_eq mem _ e.n e.t fun y hy => h.val e he y hy
theorem sum_parts : ∀ (E : List En), (∀ e ∈ E, e.who < 3) → Bk.sum ((E.filter fun e => decide (e.who = 0)).map En.bk) + Bk.sum ((E.filter fun e => decide (e.who = 1)).map En.bk) + Bk.sum ((E.filter fun e => decide (e.who = 2)).map En.bk) = (E.map (·.n)).sum
  | [], _ => rfl
  | e :: E, h => by
    have ih := sum_parts E fun f hf => h f (List.mem_cons_of_mem _ hf)
    have he := h e (List.mem_cons_self ..)
    have hs : ∀ (x : Nat × Nat) (l : List (Nat × Nat)), Bk.sum (x :: l) = x.2 + Bk.sum l := fun x l => by simp [Bk.sum]
    rw [List.map_cons, List.sum_cons, ← ih, List.filter_cons, List.filter_cons, List.filter_cons]
    have h3 : e.who = 0 ∨ e.who = 1 ∨ e.who = 2 := by omega
    rcases h3 with h3 | h3 | h3
    · rw [if_pos (by simpa using h3), if_neg (by simp [h3]), if_neg (by simp [h3]), List.map_cons, hs]
      show e.n + _ + _ + _ = _
      omega
    · rw [if_neg (by simp [h3]), if_pos (by simpa using h3), if_neg (by simp [h3]), List.map_cons, hs]
      show _ + (e.n + _) + _ = _
      omega
    · rw [if_neg (by simp [h3]), if_neg (by simp [h3]), if_pos (by simpa using h3), List.map_cons, hs]
      show _ + _ + (e.n + _) = _
      omega
/-- How many bytes all blocks have. -/
theorem Ap.Inv.used {mem : List Nat} {b : Nat → List (Nat × Nat)} {E : List En} (h : Ap.Inv mem b E) : Bk.sum (b 0) + Bk.sum (b 1) + Bk.sum (b 2) = (E.map (·.n)).sum := by
  have hp : ∀ {l l' : List (Nat × Nat)}, l.Perm l' → Bk.sum l = Bk.sum l' := fun p => (p.map _).sum_nat
  rw [hp (h.blk 0 (by decide)), hp (h.blk 1 (by decide)), hp (h.blk 2 (by decide))]
  exact sum_parts E h.who
theorem Ap.Inv.nil : Ap.Inv (List.replicate 400 0) (fun _ => []) [] := by
  refine ⟨fun e he => (by cases he), fun e he => (by cases he), fun j _ => List.Perm.nil, fun j _ => Nat.zero_le _, fun e he => (by cases he), fun x hx _ => ?_, Ap.nz_zero 400, List.length_replicate⟩
  rw [List.getElem?_replicate, if_pos hx]
end Go.Proofs.YtemaaipgjghlaaaDoor
