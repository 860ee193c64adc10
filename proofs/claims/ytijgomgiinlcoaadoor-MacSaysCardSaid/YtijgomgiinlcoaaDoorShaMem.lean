/-
  Memory words for the walks over package sha: a block that is a row of 32-bit words; a block that is a Hash. Plain facts on worlds.
-/
import Derived.Test.YtijgomgiinlcoaaDoorShaA
import Derived.Laws.Rows
import Derived.Below
namespace Go.Proofs.YtijgomgiinlcoaaDoor
open Go.RowKit

abbrev u32s (ws : List Nat) : List Value := ws.map fun n => Value.int .u32 (n : Nat)
abbrev u8s (bs : List Nat) : List Value := bs.map fun n => Value.int .u8 (n : Nat)

/-- Block g is just these cells, none frozen. -/
def Has (w : World) (g : Nat) (t : TypeId) (cs : List Value) : Prop := w.heap[g]? = some (.cells cs.toArray t (0, 0))
/-- Block g is a Hash. -/
def HasHash (w : World) (g : Nat) (st bs : List Nat) (n : Nat) : Prop := Has w g 60 (u32s st ++ (u8s bs ++ [.int .i64 n])) ∧ st.length = 8 ∧ bs.length = 64

section
variable {w w' : World} {g : Nat} {t : TypeId} {cs : List Value}
theorem Has.lt (h : Has w g t cs) : g < w.heap.size := by
  rcases Nat.lt_or_ge g w.heap.size with hlt | hge
  · exact hlt
  · unfold Has at h; rw [Array.getElem?_eq_none hge] at h; cases h
theorem Has.cell (h : Has w g t cs) (i : Nat) : w.cell? ⟨g, i, none⟩ = cs[i]? := by
  rw [cell_of_row w g i cs.toArray t (0, 0) h]; simp
theorem Has.frozen (h : Has w g t cs) (i : Nat) : w.frozen? ⟨g, i, none⟩ = false := by
  unfold Has at h
  simp [World.frozen?, h]
theorem Has.new (w : World) (t : TypeId) (cs : List Value) : Has (w.alloc (.cells cs.toArray t)) w.heap.size t cs := heap_alloc_new w _
theorem Has.drewN (h : Has w g t cs) (n : Nat) : Has (w.drewN n) g t cs := h
theorem Has.alloc (h : Has w g t cs) (o : Obj) : Has (w.alloc o) g t cs := (Below.heap_alloc w o g h.lt).trans h
theorem Has.set_ (h : Has w g t cs) (i : Nat) (u : Value) : Has (w.setCell ⟨g, i, none⟩ u) g t (cs.set i u) := by
  unfold Has at h ⊢
  simp [World.setCell, Array.getElem?_modify, h]
theorem Has.far (h : Has w g t cs) {p : Addr} (hp : g ≠ p.block) (u : Value) : Has (w.setCell p u) g t cs := (Below.heap_setCell w p u g hp).trans h
theorem Has.below {B : Nat} (h : Has w g t cs) (hb : Below B w w') (hg : g < B) : Has w' g t cs := (hb.block g hg).trans h
theorem Has.grown {row : Option Nat} (h : Has w g t cs) (hb : w.grownBy w' row) (hg : some g ≠ row) : Has w' g t cs := (hb.block g h.lt hg).trans h
end
theorem u32s_at (ws : List Nat) (i : Nat) (h : i < ws.length) : (u32s ws)[i]? = some (.int .u32 ((ws.getD i 0 : Nat) : Int)) := by
  simp [u32s, List.getD_eq_getElem?_getD, h]
theorem u32s_set (ws : List Nat) (i n : Nat) : (u32s ws).set i (.int .u32 (n : Nat)) = u32s (ws.set i n) := by
  simp [u32s, List.map_set]
/-- A word of a row under a name of its own. -/
theorem row_at {w : World} {g : Nat} {t : TypeId} {bs : List Nat} {k : Nat} (h : Has w g t (u32s (Sha.row bs k))) (hb : ∀ b ∈ bs, b < 256) (hk : k ≤ 64) (i : Nat) (hi : i < k) :
    ∃ c : Nat, Hid ((Sha.sched bs k).getD i 0 = c) ∧ c < 4294967296 ∧ w.cell? ⟨g, i, none⟩ = some (.int .u32 c) := by
  refine ⟨_, rfl, Sha.getD_lt _ (Sha.sched_lt bs hb k) (by decide) i, ?_⟩
  rw [h.cell, u32s_at _ _ (by rw [Sha.row_length _ _ hk]; omega), Sha.row_getD _ _ _ hi]
theorem HasHash.byte {w : World} {g : Nat} {st bs : List Nat} {n : Nat} (h : HasHash w g st bs n) (i : Nat) (hi : i < 64) : w.cell? ⟨g, 8 + i, none⟩ = some (.int .u8 ((bs.getD i 0 : Nat) : Int)) := by
  obtain ⟨h1, h2, h3⟩ := h
  rw [h1.cell, List.getElem?_append_right (by simp [h2]), List.getElem?_append_left (by simp [h2, h3]; omega)]
  simp [h2, List.getD_eq_getElem?_getD, h3, hi]
/-- A byte under a name of its own. -/
theorem HasHash.byte' {w : World} {g : Nat} {st bs : List Nat} {n : Nat} (h : HasHash w g st bs n) (hb : ∀ b ∈ bs, b < 256) (i off : Nat) (hi : i < 64) (ho : off = 8 + i) :
    ∃ c : Nat, Hid (bs.getD i 0 = c) ∧ c < 256 ∧ w.cell? ⟨g, off, none⟩ = some (.int .u8 c) := by
  subst ho
  refine ⟨_, rfl, ?_, h.byte i hi⟩
  have : i < bs.length := by rw [h.2.2]; exact hi
  rw [List.getD_eq_getElem?_getD, List.getElem?_eq_getElem this]
  exact hb _ (List.getElem_mem _)
theorem HasHash.word {w : World} {g : Nat} {st bs : List Nat} {n : Nat} (h : HasHash w g st bs n) (i : Nat) (hi : i < 8) : w.cell? ⟨g, i, none⟩ = some (.int .u32 ((st.getD i 0 : Nat) : Int)) := by
  obtain ⟨h1, h2, h3⟩ := h
  rw [h1.cell, List.getElem?_append_left (by simp [h2, hi]), u32s_at _ _ (by omega)]
theorem Has.word {w : World} {g : Nat} {t : TypeId} {ws : List Nat} (h : Has w g t (u32s ws)) (i : Nat) (hi : i < ws.length) : w.cell? ⟨g, i, none⟩ = some (.int .u32 ((ws.getD i 0 : Nat) : Int)) := by
  rw [h.cell, u32s_at _ _ hi]
theorem word_at {w : World} {g : Nat} {t : TypeId} {ws : List Nat} (h : Has w g t (u32s ws)) (hb : ∀ b ∈ ws, b < 4294967296) (i : Nat) (hi : i < ws.length) :
    ∃ c : Nat, Hid (ws.getD i 0 = c) ∧ c < 4294967296 ∧ w.cell? ⟨g, i, none⟩ = some (.int .u32 c) := ⟨_, rfl, Sha.getD_lt _ hb (by decide) i, h.word i hi⟩
theorem words_at {w : World} {g : Nat} {t : TypeId} {ws : List Nat} (h : Has w g t (u32s ws)) (hw : Sha.Words ws) :
    ∃ s0 s1 s2 s3 s4 s5 s6 s7 : Nat, Hid (ws = [s0, s1, s2, s3, s4, s5, s6, s7]) ∧ s0 < 4294967296 ∧ s1 < 4294967296 ∧ s2 < 4294967296 ∧ s3 < 4294967296 ∧ s4 < 4294967296 ∧ s5 < 4294967296 ∧ s6 < 4294967296 ∧ s7 < 4294967296 ∧
      w.cell? ⟨g, 0, none⟩ = some (.int .u32 s0) ∧ w.cell? ⟨g, 1, none⟩ = some (.int .u32 s1) ∧ w.cell? ⟨g, 2, none⟩ = some (.int .u32 s2) ∧ w.cell? ⟨g, 3, none⟩ = some (.int .u32 s3) ∧
      w.cell? ⟨g, 4, none⟩ = some (.int .u32 s4) ∧ w.cell? ⟨g, 5, none⟩ = some (.int .u32 s5) ∧ w.cell? ⟨g, 6, none⟩ = some (.int .u32 s6) ∧ w.cell? ⟨g, 7, none⟩ = some (.int .u32 s7) := by
  obtain ⟨s0, s1, s2, s3, s4, s5, s6, s7, rfl⟩ := Sha.eight ws hw.1
  have hh := hw.2
  simp only [List.mem_cons, List.not_mem_nil, or_false, forall_eq_or_imp, forall_eq] at hh
  obtain ⟨a0, a1, a2, a3, a4, a5, a6, a7⟩ := hh
  exact ⟨s0, s1, s2, s3, s4, s5, s6, s7, rfl, a0, a1, a2, a3, a4, a5, a6, a7, h.word 0 (by decide : (0 : Nat) < 8), h.word 1 (by decide : (1 : Nat) < 8), h.word 2 (by decide : (2 : Nat) < 8), h.word 3 (by decide : (3 : Nat) < 8), h.word 4 (by decide : (4 : Nat) < 8), h.word 5 (by decide : (5 : Nat) < 8), h.word 6 (by decide : (6 : Nat) < 8), h.word 7 (by decide : (7 : Nat) < 8)⟩
theorem HasHash.word' {w : World} {g : Nat} {st s bs : List Nat} {n i : Nat} (h : HasHash w g (Sha.addTo st s i) bs n) (h1 : st.length = 8) (h2 : s.length = 8) (hi : i < 8) (hst : ∀ x ∈ st, x < 4294967296) :
    ∃ c : Nat, Hid (st.getD i 0 = c) ∧ c < 4294967296 ∧ w.cell? ⟨g, i, none⟩ = some (.int .u32 c) := by
  refine ⟨_, rfl, Sha.getD_lt _ hst (by decide) i, ?_⟩
  rw [h.word i hi, Sha.addTo_getD _ _ h1 h2 _ hi]
theorem HasHash.count {w : World} {g : Nat} {st bs : List Nat} {n : Nat} (h : HasHash w g st bs n) : w.cell? ⟨g, 72, none⟩ = some (.int .i64 (n : Int)) := by
  obtain ⟨h1, h2, h3⟩ := h
  rw [h1.cell, List.getElem?_append_right (by simp [h2]), List.getElem?_append_right (by simp [h2, h3])]
  simp [h2, h3]
theorem HasHash.below {w w' : World} {g : Nat} {st bs : List Nat} {n : Nat} (h : HasHash w g st bs n) (hb : Below w.heap.size w w') : HasHash w' g st bs n :=
  ⟨h.1.below hb h.1.lt, h.2⟩
end Go.Proofs.YtijgomgiinlcoaaDoor
