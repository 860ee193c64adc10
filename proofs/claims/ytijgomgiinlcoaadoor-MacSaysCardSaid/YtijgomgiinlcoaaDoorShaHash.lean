/-
  A Hash in memory, and the message that it holds; bytes that are read; the words on worlds that the walks over Write and Sum want.
-/
import Derived.Test.YtijgomgiinlcoaaDoorShaMem
import Derived.Test.YtijgomgiinlcoaaDoorShaMsg
import Derived.Laws.CopyOwn
import Derived.Laws.CopyRow
namespace Go.Proofs.YtijgomgiinlcoaaDoor
open Go.RowKit

/-- The Hash at block g holds the message m. -/
def HashIs (w : World) (g : Nat) (m : List Nat) : Prop := ∃ st bs, HasHash w g st bs m.length ∧ Sha.Holds m st bs
/-- What is read from A on is just these bytes; none of them lies in block g. -/
def Rd (w : World) (g : Nat) (A : Option Addr) (bs : List Nat) : Prop := Sha.Bytes bs ∧ (bs ≠ [] → ∃ ad, A = some ad ∧ ad.block ≠ g ∧ ad.block < w.heap.size ∧ ∀ (i b : Nat), bs[i]? = some b → w.cell? (ad.add i) = some (.int .u8 b))

theorem block_add (a : Addr) (n : Nat) : (a.add n).block = a.block := by unfold Addr.add; split <;> rfl
theorem add_add' (a : Addr) (i j : Nat) : (a.add i).add j = a.add (i + j) := by
  by_cases hi : i = 0 <;> by_cases hj : j = 0 <;> simp [Addr.add, hi, hj, Nat.add_assoc]

theorem HashIs.lt {w : World} {g : Nat} {m : List Nat} (h : HashIs w g m) : g < w.heap.size := by
  obtain ⟨st, bs, h1, _⟩ := h
  exact h1.1.lt
theorem HashIs.grown {w w' : World} {g : Nat} {m : List Nat} {row : Option Nat} (h : HashIs w g m) (hb : w.grownBy w' row) (hg : some g ≠ row) : HashIs w' g m := by
  obtain ⟨st, bs, h1, h2⟩ := h
  exact ⟨st, bs, ⟨h1.1.grown hb hg, h1.2⟩, h2⟩
theorem HashIs.below {w w' : World} {g : Nat} {m : List Nat} (h : HashIs w g m) (hb : Below w.heap.size w w') : HashIs w' g m := by
  obtain ⟨st, bs, h1, h2⟩ := h
  exact ⟨st, bs, h1.below hb, h2⟩
theorem Rd.grown {w w' : World} {g : Nat} {A : Option Addr} {bs : List Nat} (h : Rd w g A bs) (hb : w.grownBy w' (some g)) : Rd w' g A bs := by
  refine ⟨h.1, fun hn => ?_⟩
  obtain ⟨ad, e, h1, h2, h3⟩ := h.2 hn
  refine ⟨ad, e, h1, Nat.lt_of_lt_of_le h2 hb.size, fun i b hi => ?_⟩
  rw [World.cell?_of_block (w := w) (w' := w') (a := ad.add i) (by rw [block_add]; exact hb.block _ h2 (fun e => h1 (by injection e)))]
  exact h3 i b hi
theorem Rd.cut {w : World} {g : Nat} {A : Option Addr} {bs : List Nat} (h : Rd w g A bs) {k cap : Nat} (hc : bs.length ≤ cap) : Rd w g (if cap = k then A else A.map (·.add (k * 1))) (bs.drop k) := by
  refine ⟨h.1.drop k, fun hn => ?_⟩
  have hl : k < bs.length := by
    rcases Nat.lt_or_ge k bs.length with hlt | hge
    · exact hlt
    · exact absurd (List.drop_eq_nil_of_le hge) hn
  obtain ⟨ad, rfl, h1, h2, h3⟩ := h.2 (fun e => by simp [e] at hl)
  rw [if_neg (by omega)]
  refine ⟨ad.add (k * 1), rfl, by rw [block_add]; exact h1, by rw [block_add]; exact h2, fun i b hi => ?_⟩
  rw [add_add', Nat.mul_one]
  exact h3 (k + i) b (by rw [← hi, List.getElem?_drop])
theorem grown_trans {a b c : World} {row : Option Nat} (h : a.grownBy b row) (k : b.grownBy c row) : a.grownBy c row :=
  ⟨k.os.trans h.os, k.tape.trans h.tape, k.output.trans h.output, Nat.le_trans h.size k.size, fun i hi hne => (k.block i (Nat.lt_of_lt_of_le hi h.size) hne).trans (h.block i hi hne)⟩
theorem grown_drewN {w w' : World} {row : Option Nat} (h : w.grownBy w' row) (n : Nat) : w.grownBy (w'.drewN n) row := ⟨h.os, h.tape, h.output, h.size, h.block⟩
theorem grown_drew {w w' : World} {row : Option Nat} (h : w.grownBy w' row) : w.grownBy w'.drew row := ⟨h.os, h.tape, h.output, h.size, h.block⟩
theorem grown_alloc {w w' : World} {row : Option Nat} (h : w.grownBy w' row) (o : Obj) : w.grownBy (w'.alloc o) row :=
  ⟨h.os, h.tape, h.output, Nat.le_trans h.size (by simp), fun i hi hne => (Below.heap_alloc w' o i (Nat.lt_of_lt_of_le hi h.size)).trans (h.block i hi hne)⟩
theorem grown_setCell {w w' : World} {g : Nat} (h : w.grownBy w' (some g)) {p : Addr} (hp : p.block = g ∨ w.heap.size ≤ p.block) (u : Value) : w.grownBy (w'.setCell p u) (some g) :=
  ⟨h.os, h.tape, h.output, by simpa [World.setCell] using h.size, fun i hi hne => (Below.heap_setCell w' p u i (by
    rintro rfl
    rcases hp with hp | hp
    · exact hne (by rw [hp])
    · omega)).trans (h.block i hi hne)⟩
theorem grown_of_below {w w' : World} (h : Below w.heap.size w w') (row : Option Nat) : w.grownBy w' row := ⟨h.os, h.tape, h.output, h.size, fun i hi _ => h.block i hi⟩
theorem below_of_grown {w w' : World} {g B : Nat} (h : w.grownBy w' (some g)) (hB : B ≤ g) (hs : B ≤ w.heap.size) : Below B w w' :=
  ⟨h.os, h.tape, h.output, h.size, fun k hk => h.block k (Nat.lt_of_lt_of_le hk hs) (fun e => by injection e; omega)⟩
theorem below_of_grown_none {w w' : World} (h : w.grownBy w' none) : Below w.heap.size w w' := ⟨h.os, h.tape, h.output, h.size, fun k hk => h.block k hk (by simp)⟩
theorem grown_setRow {w w' : World} {g : Nat} (h : w.grownBy w' (some g)) (cs : Array Value) : w.grownBy (w'.setRow g cs) (some g) :=
  ⟨h.os, h.tape, h.output, by simpa [World.setRow] using h.size, fun i hi hne => by
    have hne' : g ≠ i := fun e => hne (by rw [e])
    rw [← h.block i hi hne]
    simp [World.setRow, Array.getElem?_modify, hne']⟩

/-- The count turned. -/
theorem HasHash.setCount {w : World} {g n : Nat} {st bs : List Nat} (h : HasHash w g st bs n) (k : Nat) : HasHash (w.setCell ⟨g, 72, none⟩ (.int .i64 (k : Int))) g st bs k := by
  obtain ⟨h1, h2, h3⟩ := h
  refine ⟨?_, h2, h3⟩
  have h4 := h1.set_ 72 (.int .i64 (k : Int))
  rw [List.set_append_right _ _ (by simp [h2]), List.set_append_right _ _ (by simp [h2, h3])] at h4
  simpa [h2, h3] using h4
/-- A chunk laid into the rest: the block behind the copy. -/
theorem HasHash.laid {w : World} {g n : Nat} {st bs : List Nat} (h : HasHash w g st bs n) (m c : List Nat) (hc : m.length % 64 + c.length ≤ 64) :
    HasHash (w.setRow g ((u32s st ++ (u8s bs ++ [Value.int .i64 (n : Nat)])).toArray.toList.take (8 + m.length % 64) ++ (u8s c ++ (u32s st ++ (u8s bs ++ [Value.int .i64 (n : Nat)])).toArray.toList.drop (8 + m.length % 64 + (u8s c).length))).toArray) g st (Sha.laid m bs c) n := by
  obtain ⟨h1, h2, h3⟩ := h
  refine ⟨?_, h2, Sha.laid_length _ _ _ h3 hc⟩
  unfold Has at h1 ⊢
  rw [setRow_heap w g _ _ _ _ h1]
  congr 3
  have el : (u32s st).length = 8 := by simp [h2]
  have eb : (u8s bs).length = 64 := by simp [h3]
  rw [List.toList_toArray, List.take_append, List.drop_append, el, List.take_of_length_le (by omega), List.drop_eq_nil_of_le (by omega),
    show 8 + m.length % 64 - 8 = m.length % 64 by omega, show 8 + m.length % 64 + (u8s c).length - 8 = m.length % 64 + (u8s c).length by omega,
    List.take_append_of_le_length (by omega), List.drop_append_of_le_length (by simp at *; omega)]
  simp [Sha.laid, List.map_take, List.map_drop]
end Go.Proofs.YtijgomgiinlcoaaDoor
