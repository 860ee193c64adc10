/-
  An arena told by plain values: parts, blocks, bytes; what is called of it. By an AI agent. No person has read it.
-/
import Derived.Test.YtemaaipgjghlaaaDoorAreRa
import Derived.Test.YtemaaipgjghlaaaDoorAreW
import Derived.Test.YtemaaipgjghlaaaDoorAreK
import Derived.Test.YtemaaipgjghlaaaDoorAreO
import Derived.Test.YtemaaipgjghlaaaDoorAreBk
namespace Go.Proofs.YtemaaipgjghlaaaDoor
open Go.RowKit

/-- Blocks by place, each of a byte at least, within room. -/
def Bk.ok (room : Nat) : Nat → List (Nat × Nat) → Prop
  | at', [] => at' ≤ room
  | at', b :: l => at' ≤ b.1 ∧ 1 ≤ b.2 ∧ Bk.ok room (b.1 + b.2) l
theorem Bk.ok_le {room : Nat} : ∀ {at' : Nat} {l : List (Nat × Nat)}, Bk.ok room at' l → at' ≤ room
  | _, [], h => h
  | _, b :: _, ⟨h1, _, h3⟩ => by have := Bk.ok_le h3; omega
theorem Bk.ok_mem {room : Nat} : ∀ {at' : Nat} {l : List (Nat × Nat)}, Bk.ok room at' l → ∀ b ∈ l, at' ≤ b.1 ∧ b.1 + b.2 ≤ room ∧ 1 ≤ b.2
  | _, [], _, b, hb => by cases hb
  | _, x :: _, ⟨h1, h2, h3⟩, b, hb => by
    rcases List.mem_cons.1 hb with rfl | hb
    · exact ⟨h1, Bk.ok_le h3, h2⟩
    · have := Bk.ok_mem h3 b hb
      omega
theorem Bk.ok_len {room : Nat} : ∀ {at' : Nat} {l : List (Nat × Nat)}, Bk.ok room at' l → at' + l.length ≤ room
  | _, [], h => h
  | _, b :: l, ⟨h1, h2, h3⟩ => by have := Bk.ok_len h3; rw [List.length_cons]; omega
theorem Bk.ok_sum {room : Nat} : ∀ {at' : Nat} {l : List (Nat × Nat)}, Bk.ok room at' l → at' + Bk.sum l ≤ room
  | at', [], h => by
    have h' : at' ≤ room := h
    simpa [Bk.sum] using h'
  | _, b :: l, ⟨h1, h2, h3⟩ => by
    have := Bk.ok_sum h3
    have e : Bk.sum (b :: l) = b.2 + Bk.sum l := by simp [Bk.sum]
    omega
theorem Bk.ok_low {room : Nat} {at' at2 : Nat} {l : List (Nat × Nat)} (h : Bk.ok room at' l) (hle : at2 ≤ at') : Bk.ok room at2 l := by
  cases l with
  | nil => exact Nat.le_trans hle h
  | cons b l => exact ⟨Nat.le_trans hle h.1, h.2⟩
theorem Bk.ok_erase {room : Nat} : ∀ (d : Nat) {at' : Nat} {l : List (Nat × Nat)}, Bk.ok room at' l → Bk.ok room at' (l.take d ++ l.drop (d + 1))
  | _, _, [], h => by simpa using h
  | 0, _, b :: l, ⟨h1, h2, h3⟩ => by
    simp
    exact Bk.ok_low h3 (by omega)
  | d + 1, _, b :: l, ⟨h1, h2, h3⟩ => ⟨h1, h2, Bk.ok_erase d h3⟩
theorem Ar.gap_le (size : Int) (room : Nat) : ∀ (l : List (Nat × Nat)) (at' i : Nat), (Ar.gap size room at' i l).2.1 ≤ i + l.length
  | [], at', i => by simp [Ar.gap]
  | b :: l, at', i => by
    rw [Ar.gap]
    split
    · simp
    · have := Ar.gap_le size room l (b.1 + b.2) (i + 1)
      rw [List.length_cons]
      omega
theorem Ar.gap_ok (size room : Nat) (hs : 1 ≤ size) : ∀ (l : List (Nat × Nat)) (at' i o j : Nat), Bk.ok room at' l → Ar.gap (size : Int) room at' i l = (o, j, true) →
    ∃ d, j = i + d ∧ d ≤ l.length ∧ at' ≤ o ∧ o + size ≤ room ∧ Bk.ok room at' (l.take d ++ (o, size) :: l.drop d)
  | [], at', i, o, j, h, hg => by
    simp only [Ar.gap, Prod.mk.injEq, decide_eq_true_eq] at hg
    obtain ⟨rfl, rfl, hg⟩ := hg
    have h' : at' ≤ room := h
    exact ⟨0, by omega, by simp, Nat.le_refl _, by omega, by simp [Bk.ok]; omega⟩
  | b :: l, at', i, o, j, ⟨h1, h2, h3⟩, hg => by
    rw [Ar.gap] at hg
    have hb := Bk.ok_le h3
    split at hg
    · simp only [Prod.mk.injEq] at hg
      obtain ⟨rfl, rfl, -⟩ := hg
      exact ⟨0, by omega, by simp, Nat.le_refl _, by omega, by simp [Bk.ok]; exact ⟨hs, by omega, h2, h3⟩⟩
    · obtain ⟨d, e1, e2, e3, e4, e5⟩ := Ar.gap_ok size room hs l (b.1 + b.2) (i + 1) o j h3 hg
      exact ⟨d + 1, by omega, by rw [List.length_cons]; omega, by omega, e4, h1, h2, e5⟩

/-- A part: whose, from where on, how many bytes, its blocks. -/
structure Pt where
  id : Int
  off : Nat
  size : Nat
  bs : List (Nat × Nat)
def Hd.pu (h : Hd) : Pt := ⟨h.id, h.off, h.size, h.bs⟩
def Pt.pr (p : Pt) : Nat × Nat := (p.off, p.size)
def Pt.with_ (p : Pt) (bs : List (Nat × Nat)) : Pt := ⟨p.id, p.off, p.size, bs⟩
/-- Where the one of an id stands; -1, if there is none. -/
def Pt.find (id : Int) : Nat → List Pt → Int
  | _, [] => -1
  | i, h :: l => if h.id = id then (i : Int) else Pt.find id (i + 1) l
theorem find_pu (id : Int) : ∀ (l : List Hd) (i : Nat), Ar.find id i l = Pt.find id i (l.map Hd.pu)
  | [], _ => rfl
  | h :: l, i => by
    rw [List.map_cons, Ar.find, Pt.find, find_pu id l (i + 1)]
    rfl
/-- All in order. -/
structure Ar.Well (mem : List Nat) (ps : List Pt) : Prop where
  len : ps.length ≤ 1000
  low : 1 ≤ mem.length
  high : mem.length ≤ 1048576
  parts : Bk.ok mem.length 0 (ps.map Pt.pr)
  bks : ∀ p ∈ ps, Bk.ok p.size 0 p.bs
theorem Ar.Well.part {mem : List Nat} {ps : List Pt} (h : Ar.Well mem ps) {p : Pt} (hp : p ∈ ps) : p.off + p.size ≤ mem.length ∧ 1 ≤ p.size := (Bk.ok_mem h.parts p.pr (List.mem_map_of_mem hp)).2
/-- An arena in memory, beside blocks that are none of its own. -/
def Ar.Is (base : Nat) (w : World) (a : Nat) (mem : List Nat) (ps : List Pt) (T : Nat → Prop) : Prop :=
  ∃ m v l, ArIn base w a m v mem l ∧ l.map Hd.pu = ps ∧ (∀ k, T k → k < w.heap.size ∧ k ∉ Ar.bl a m v l) ∧ Ar.Well mem ps
/-- What a call leaves of all else. -/
structure Ar.To (base : Nat) (T : Nat → Prop) (w w' : World) : Prop where
  below : Below base w w'
  keep : ∀ k, T k → w'.heap[k]? = w.heap[k]?
theorem Ar.Is.base {base : Nat} {w : World} {a : Nat} {mem : List Nat} {ps : List Pt} {T : Nat → Prop} (h : Ar.Is base w a mem ps T) : base ≤ w.heap.size := by
  obtain ⟨m, v, l, hA, -⟩ := h
  have := hA.box.lt
  have := hA.low.1
  omega
theorem Ar.Is.next {base a m : Nat} {w w' : World} {v v' : Value} {mem mem' : List Nat} {l l' : List Hd} {T : Nat → Prop} (hA : ArIn base w a m v mem l) (hT : ∀ k, T k → k < w.heap.size ∧ k ∉ Ar.bl a m v l)
    (h' : ArIn base w' a m v' mem' l') (hO : Off (Ar.bl a m v l) w w') (hs : ∀ k ∈ Ar.bl a m v' l', k ∈ Ar.bl a m v l ∨ w.heap.size ≤ k) (hw : Ar.Well mem' (l'.map Hd.pu)) : Ar.Is base w' a mem' (l'.map Hd.pu) T ∧ Ar.To base T w w' := by
  refine ⟨⟨m, v', l', h', rfl, fun k hk => ⟨Nat.lt_of_lt_of_le (hT k hk).1 hO.size, fun hm => ?_⟩, hw⟩, hO.below (Nat.le_of_lt (Nat.lt_of_le_of_lt hA.low.1 hA.box.lt)) fun k hk => (hA.lt k hk).2, fun k hk => hO.block k (hT k hk).1 (hT k hk).2⟩
  rcases hs k hm with h1 | h1
  · exact (hT k hk).2 h1
  · have := (hT k hk).1
    omega
/-- What leaves the arena as it was. -/
theorem Ar.Is.below {base : Nat} {w w' : World} {a : Nat} {mem : List Nat} {ps : List Pt} {T : Nat → Prop} (h : Ar.Is base w a mem ps T) (hb : Below w.heap.size w w') : Ar.Is base w' a mem ps T ∧ Ar.To base T w w' := by
  obtain ⟨m, v, l, hA, rfl, hT, hW⟩ := h
  exact Ar.Is.next hA hT (hA.below hb) (Off.of_below hb) (fun k hk => .inl hk) hW
/-- What turns other blocks alone. -/
theorem Ar.Is.off {base : Nat} {w w' : World} {a : Nat} {mem : List Nat} {ps : List Pt} {T : Nat → Prop} {S : List Nat} (h : Ar.Is base w a mem ps T) (ho : Off S w w') (hS : ∀ k ∈ S, T k) : Ar.Is base w' a mem ps T := by
  obtain ⟨m, v, l, hA, rfl, hT, hW⟩ := h
  exact ⟨m, v, l, hA.off ho fun k hk hm => (hT k (hS k hm)).2 hk, rfl, fun k hk => ⟨Nat.lt_of_lt_of_le (hT k hk).1 ho.size, (hT k hk).2⟩, hW⟩
/-- New blocks are none of its own. -/
theorem Ar.Is.more {base : Nat} {w w' : World} {a : Nat} {mem : List Nat} {ps : List Pt} {T : Nat → Prop} {S : List Nat} (h : Ar.Is base w a mem ps T) (ho : Off S w w') (hS : ∀ k ∈ S, T k) : Ar.Is base w' a mem ps (fun k => T k ∨ (w.heap.size ≤ k ∧ k < w'.heap.size)) := by
  obtain ⟨m, v, l, hA, rfl, hT, hW⟩ := h
  refine ⟨m, v, l, hA.off ho fun k hk hm => (hT k (hS k hm)).2 hk, rfl, fun k hk => ?_, hW⟩
  rcases hk with hk | hk
  · exact ⟨Nat.lt_of_lt_of_le (hT k hk).1 ho.size, (hT k hk).2⟩
  · exact ⟨hk.2, fun hm => by have := (hA.lt k hm).1; omega⟩
theorem Ar.Is.fewer {base : Nat} {w : World} {a : Nat} {mem : List Nat} {ps : List Pt} {T T' : Nat → Prop} (h : Ar.Is base w a mem ps T) (hS : ∀ k, T' k → T k) : Ar.Is base w a mem ps T' := by
  obtain ⟨m, v, l, hA, rfl, hT, hW⟩ := h
  exact ⟨m, v, l, hA, rfl, fun k hk => hT k (hS k hk), hW⟩
theorem Ar.To.trans {base : Nat} {T : Nat → Prop} {X Y Z : World} (h : Ar.To base T X Y) (k : Ar.To base T Y Z) : Ar.To base T X Z := ⟨h.below.trans k.below, fun i hi => (k.keep i hi).trans (h.keep i hi)⟩
theorem pu_at {l : List Hd} {ps : List Pt} (e : l.map Hd.pu = ps) {i : Nat} {p : Pt} (hi : ps[i]? = some p) : ∃ h, l[i]? = some h ∧ h.pu = p := by
  rw [← e, List.getElem?_map, Option.map_eq_some_iff] at hi
  exact hi
theorem set_ok {mem : List Nat} {ps : List Pt} {i : Nat} {p : Pt} {bs : List (Nat × Nat)} {mem' : List Nat} (hW : Ar.Well mem ps) (hm : mem'.length = mem.length) (hi : ps[i]? = some p) (hb : Bk.ok p.size 0 bs) : Ar.Well mem' (ps.set i (p.with_ bs)) := by
  refine ⟨by rw [List.length_set]; exact hW.len, by rw [hm]; exact hW.low, by rw [hm]; exact hW.high, ?_, fun q hq => ?_⟩
  · have e : (ps.set i (p.with_ bs)).map Pt.pr = ps.map Pt.pr := by
      rw [List.map_set]
      apply List.ext_getElem?
      intro j
      rw [List.getElem?_set]
      split
      · next h =>
        subst h
        rw [List.getElem?_map, hi]
        split
        · rfl
        · next h =>
          rw [List.length_map] at h
          exact absurd (List.getElem?_eq_some_iff.1 hi).1 h
      · rfl
    rw [e, hm]
    exact hW.parts
  · rcases List.mem_or_eq_of_mem_set hq with h | rfl
    · exact hW.bks q h
    · exact hb
end Go.Proofs.YtemaaipgjghlaaaDoor
