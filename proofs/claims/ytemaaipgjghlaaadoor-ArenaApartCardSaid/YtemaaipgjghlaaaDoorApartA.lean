/-
  What the law ArenaApart keeps, over plain values. By an AI agent. No person has read it.
-/
import Derived.Test.YtemaaipgjghlaaaDoorAreFb
namespace Go.Proofs.YtemaaipgjghlaaaDoor
open Go.RowKit

/-- What is written: whose, where, how many bytes, which. -/
structure En where
  who : Nat
  off : Nat
  n : Nat
  t : Nat
def Ap.base (j : Nat) : Nat := if j = 0 then 0 else if j = 1 then 150 else 250
def Ap.size (j : Nat) : Nat := if j = 1 then 100 else 150
def En.lo (e : En) : Nat := Ap.base e.who + e.off
def En.bk (e : En) : Nat × Nat := (e.off, e.n)
def Ap.ps (b : Nat → List (Nat × Nat)) : List Pt := [⟨0, 0, 150, b 0⟩, ⟨1, 150, 100, b 1⟩, ⟨2, 250, 150, b 2⟩]
def Ap.upd (b : Nat → List (Nat × Nat)) (j : Nat) (bs : List (Nat × Nat)) : Nat → List (Nat × Nat) := fun i => if i = j then bs else b i
theorem Ap.ps_at (b : Nat → List (Nat × Nat)) (j : Nat) (hj : j < 3) : (Ap.ps b)[j]? = some ⟨(j : Int), Ap.base j, Ap.size j, b j⟩ ∧ Pt.find (j : Int) 0 (Ap.ps b) = (j : Int) := by
  rcases j with _ | _ | _ | j
  · exact ⟨rfl, rfl⟩
  · exact ⟨rfl, rfl⟩
  · exact ⟨rfl, rfl⟩
  · omega
theorem Ap.ps_set (b : Nat → List (Nat × Nat)) (j : Nat) (hj : j < 3) (bs : List (Nat × Nat)) : (Ap.ps b).set j ((Pt.mk (j : Int) (Ap.base j) (Ap.size j) (b j)).with_ bs) = Ap.ps (Ap.upd b j bs) := by
  rcases j with _ | _ | _ | j
  · rfl
  · rfl
  · rfl
  · omega
/-- How many bytes are not 0. -/
def Ap.nz (l : List Nat) : Nat := (l.filter fun x => decide (x ≠ 0)).length
theorem Ap.nz_append (a b : List Nat) : Ap.nz (a ++ b) = Ap.nz a + Ap.nz b := by
  unfold Ap.nz
  rw [List.filter_append, List.length_append]
theorem Ap.nz_zero (n : Nat) : Ap.nz (List.replicate n 0) = 0 := by
  unfold Ap.nz
  rw [List.filter_replicate, if_neg (by decide)]
  rfl
theorem Ap.nz_rep (n t : Nat) (h : t ≠ 0) : Ap.nz (List.replicate n t) = n := by
  unfold Ap.nz
  rw [List.filter_replicate, if_pos (by simpa using h), List.length_replicate]
theorem over_at (mem : List Nat) (x n t y : Nat) (h : x + n ≤ mem.length) : (Ar.over mem x (List.replicate n t))[y]? = if x ≤ y ∧ y < x + n then some t else mem[y]? := by
  unfold Ar.over
  rw [List.length_replicate]
  have hl : (mem.take x).length = x := by rw [List.length_take]; omega
  by_cases h1 : y < x
  · rw [if_neg (by omega), List.append_assoc, List.getElem?_append_left (by omega), List.getElem?_take, if_pos h1]
  · by_cases h2 : y < x + n
    · rw [if_pos ⟨by omega, h2⟩, List.append_assoc, List.getElem?_append_right (by omega), hl, List.getElem?_append_left (by rw [List.length_replicate]; omega), List.getElem?_replicate, if_pos (by omega)]
    · rw [if_neg (by omega), List.getElem?_append_right (by rw [List.length_append, hl, List.length_replicate]; omega), List.length_append, hl, List.length_replicate, List.getElem?_drop]
      congr 1
      omega
theorem nz_over (mem : List Nat) (x n t : Nat) : Ap.nz (Ar.over mem x (List.replicate n t)) + Ap.nz ((mem.drop x).take n) = Ap.nz mem + Ap.nz (List.replicate n t) := by
  have e : mem = mem.take x ++ ((mem.drop x).take n ++ mem.drop (x + n)) := by
    rw [← List.drop_drop, List.take_append_drop, List.take_append_drop]
  have e2 : Ap.nz mem = Ap.nz (mem.take x) + (Ap.nz ((mem.drop x).take n) + Ap.nz (mem.drop (x + n))) := by
    conv => lhs; rw [e]
    rw [Ap.nz_append, Ap.nz_append]
  unfold Ar.over
  rw [Ap.nz_append, Ap.nz_append, List.length_replicate]
  omega
theorem wipe_over (mem : List Nat) (x n : Nat) : Ar.wipe mem x n = Ar.over mem x (List.replicate n 0) := by
  unfold Ar.wipe Ar.over
  rw [List.length_replicate]
theorem seg_eq (mem : List Nat) (x n t : Nat) (h : ∀ y, y < n → mem[x + y]? = some t) : (mem.drop x).take n = List.replicate n t := by
  apply List.ext_getElem?
  intro y
  rw [List.getElem?_take, List.getElem?_replicate, List.getElem?_drop]
  split
  · next hy => exact h y hy
  · rfl
theorem ok_pair {room : Nat} : ∀ {at' : Nat} {l : List (Nat × Nat)}, Bk.ok room at' l → l.Pairwise (fun x y => x.1 + x.2 ≤ y.1)
  | _, [], _ => List.Pairwise.nil
  | _, _ :: _, ⟨_, _, h3⟩ => List.Pairwise.cons (fun y hy => (Bk.ok_mem h3 y hy).1) (ok_pair h3)
theorem spot_ok {room : Nat} : ∀ {at' : Nat} {l : List (Nat × Nat)} (i k o n : Nat), Bk.ok room at' l → l[k]? = some (o, n) → Ar.spot (o : Int) i l = ((i + k : Nat) : Int)
  | _, [], _, _, _, _, _, h => by simp at h
  | _, b :: l, i, 0, o, n, _, h => by
    simp at h
    subst h
    rw [Ar.spot, if_pos rfl]
    rfl
  | _, b :: l, i, k + 1, o, n, ⟨_, h2, h3⟩, h => by
    rw [List.getElem?_cons_succ] at h
    have hm := (Bk.ok_mem h3 _ (List.mem_of_getElem? h)).1
    dsimp only at hm
    rw [Ar.spot, if_neg (by omega), spot_ok (i + 1) k o n h3 h, show i + 1 + k = i + (k + 1) by omega]

/-- What the law keeps. -/
structure Ap.Inv (mem : List Nat) (b : Nat → List (Nat × Nat)) (E : List En) : Prop where
  who : ∀ e ∈ E, e.who < 3
  tag : ∀ e ∈ E, 1 ≤ e.t ∧ e.t ≤ 60
  blk : ∀ j, j < 3 → (b j).Perm ((E.filter fun e => decide (e.who = j)).map En.bk)
  ok : ∀ j, j < 3 → Bk.ok (Ap.size j) 0 (b j)
  val : ∀ e ∈ E, ∀ x, x < e.n → mem[e.lo + x]? = some e.t
  free : ∀ x, x < 400 → (∀ e ∈ E, ¬ (e.lo ≤ x ∧ x < e.lo + e.n)) → mem[x]? = some 0
  cnt : Ap.nz mem = (E.map (·.n)).sum
  len : mem.length = 400
theorem Ap.Inv.perm {mem : List Nat} {b : Nat → List (Nat × Nat)} {E F : List En} (h : Ap.Inv mem b E) (p : E.Perm F) : Ap.Inv mem b F :=
  ⟨fun e he => h.who e (p.mem_iff.2 he), fun e he => h.tag e (p.mem_iff.2 he), fun j hj => (h.blk j hj).trans ((p.filter _).map _), h.ok, fun e he => h.val e (p.mem_iff.2 he),
    fun x hx hn => h.free x hx fun e he => hn e (p.mem_iff.1 he), h.cnt.trans (p.map _).sum_nat, h.len⟩
/-- Where an entry lies. -/
theorem Ap.Inv.mem_blk {mem : List Nat} {b : Nat → List (Nat × Nat)} {E : List En} (h : Ap.Inv mem b E) (e : En) (he : e ∈ E) : e.bk ∈ b e.who :=
  (h.blk e.who (h.who e he)).mem_iff.2 (List.mem_map_of_mem (List.mem_filter.2 ⟨he, by simp⟩))
theorem Ap.Inv.fits {mem : List Nat} {b : Nat → List (Nat × Nat)} {E : List En} (h : Ap.Inv mem b E) (e : En) (he : e ∈ E) : e.off + e.n ≤ Ap.size e.who ∧ 1 ≤ e.n := by
  have := Bk.ok_mem (h.ok e.who (h.who e he)) _ (h.mem_blk e he)
  exact ⟨this.2.1, this.2.2⟩
theorem Ap.base_le (j : Nat) (hj : j < 3) : Ap.base j + Ap.size j ≤ 400 ∧ ∀ i, i < 3 → i ≠ j → Ap.base j + Ap.size j ≤ Ap.base i ∨ Ap.base i + Ap.size i ≤ Ap.base j := by
  rcases j with _ | _ | _ | j
  · refine ⟨by decide, fun i hi hne => ?_⟩
    rcases i with _ | _ | _ | i
    · exact absurd rfl hne
    · exact .inl (by decide)
    · exact .inl (by decide)
    · omega
  · refine ⟨by decide, fun i hi hne => ?_⟩
    rcases i with _ | _ | _ | i
    · exact .inr (by decide)
    · exact absurd rfl hne
    · exact .inl (by decide)
    · omega
  · refine ⟨by decide, fun i hi hne => ?_⟩
    rcases i with _ | _ | _ | i
    · exact .inr (by decide)
    · exact .inr (by decide)
    · exact absurd rfl hne
    · omega
  · omega
/-- Two that lie apart, by their places in all the memory. -/
def En.apart (e f : En) : Prop := e.lo + e.n ≤ f.lo ∨ f.lo + f.n ≤ e.lo
theorem Ap.Inv.apart {mem : List Nat} {b : Nat → List (Nat × Nat)} {E : List En} {e : En} (h : Ap.Inv mem b (e :: E)) (f : En) (hf : f ∈ E) : En.apart e f := by
  have he1 := h.who e (List.mem_cons_self ..)
  have hf1 := h.who f (List.mem_cons_of_mem _ hf)
  have he2 := h.fits e (List.mem_cons_self ..)
  have hf2 := h.fits f (List.mem_cons_of_mem _ hf)
  unfold En.apart En.lo
  by_cases hw : f.who = e.who
  · have hp := ok_pair (h.ok e.who he1)
    have hp2 : (b e.who).Pairwise (fun x y => x.1 + x.2 ≤ y.1 ∨ y.1 + y.2 ≤ x.1) := hp.imp (fun h => .inl h)
    have hp3 := ((h.blk e.who he1).pairwise_iff (R := fun x y => x.1 + x.2 ≤ y.1 ∨ y.1 + y.2 ≤ x.1) (fun h => h.symm)).1 hp2
    rw [List.filter_cons, if_pos (by simp), List.map_cons, List.pairwise_cons] at hp3
    have := hp3.1 f.bk (List.mem_map_of_mem (List.mem_filter.2 ⟨hf, by simpa using hw⟩))
    unfold En.bk at this
    dsimp only at this
    rw [hw]
    omega
  · have := (Ap.base_le e.who he1).2 f.who hf1 hw
    omega
end Go.Proofs.YtemaaipgjghlaaaDoor
