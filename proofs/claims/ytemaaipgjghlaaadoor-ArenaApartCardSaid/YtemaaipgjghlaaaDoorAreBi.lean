/-
  Arena.Blocks, walked, and the function that it gives, as a range asks for it. By an AI agent. No person has read it.
-/
import Derived.Test.YtemaaipgjghlaaaDoorAreZ
import Derived.Test.YtemaaipgjghlaaaDoorAreN
import Derived.Test.YtemaaipgjghlaaaDoorShpR
namespace Go.Proofs.YtemaaipgjghlaaaDoor
open Go.RowKit Go.Shelf

attribute [local go_sem] Oper.semAt_some

/-- Blocks that lie in block G, from its begin on. -/
def Bk.Lies (G : Nat) (W : World) (A : Option Addr) (bs : List (Nat × Nat)) : Prop := ∀ (j : Nat) (b : Nat × Nat), bs[j]? = some b → A = some ⟨G, 0, none⟩ ∧ W.cell? ⟨G, j * 2, none⟩ = some (.int .i64 (b.1 : Nat)) ∧ W.cell? ⟨G, j * 2 + 1, none⟩ = some (.int .i64 (b.2 : Nat))
theorem Bk.Lies.same {G : Nat} {X Y : World} {A : Option Addr} {bs : List (Nat × Nat)} (h : Bk.Lies G X A bs) (hb : Y.heap[G]? = X.heap[G]?) : Bk.Lies G Y A bs := fun j b hj => by
  obtain ⟨e, h2, h3⟩ := h j b hj
  exact ⟨e, (World.cell?_of_block (a := ⟨G, j * 2, none⟩) hb).trans h2, (World.cell?_of_block (a := ⟨G, j * 2 + 1, none⟩) hb).trans h3⟩
/-- What a round keeps: the box of the row, and the row. -/
structure Ar.KR (B G : Nat) (W W' : World) : Prop where
  box : W'.heap[B]? = W.heap[B]?
  row : W'.heap[G]? = W.heap[G]?
  size : W.heap.size ≤ W'.heap.size
theorem Ar.KR.refl (B G : Nat) (W : World) : Ar.KR B G W W := ⟨rfl, rfl, Nat.le_refl _⟩
theorem Ar.KR.trans {B G : Nat} {X Y Z : World} (h : Ar.KR B G X Y) (k : Ar.KR B G Y Z) : Ar.KR B G X Z := ⟨k.box.trans h.box, k.row.trans h.row, Nat.le_trans h.size k.size⟩
theorem Ar.KR.of {B G n : Nat} {X Y : World} (h : Below n X Y) (hB : B < n) (hG : G < n) : Ar.KR B G X Y := ⟨h.block B hB, h.block G hG, h.size⟩
theorem Ar.KR.put {B G : Nat} {w : World} (hB : B < w.heap.size) (hG : G < w.heap.size) (W : World) (l : Nat) (o o' : Obj) (hl : w.heap.size ≤ l) (_ : W.heap[l]? = some o) (_ : o.isCells = false) (_ : o.isWalk = false) : Ar.KR B G W (W.putObj l o') :=
  ⟨World.putObj_heap_other (by omega), World.putObj_heap_other (by omega), by simp [World.putObj]⟩

set_option maxRecDepth 100000 in
set_option maxHeartbeats 4000000 in
theorem blocks1_in (F : Fence) (n : Nat) (h8 : F.fn 34) (hro : F.round = none) (hn : 1 ≤ n) (l Bs G len cap : Nat) (A : Option Addr) (bs : List (Nat × Nat)) (hl : Hid (bs.length = len)) (hlen : len ≤ 1000000) (J Jx : List (Nat × Nat) → World → Prop)
    (hY : ∀ pre x W, J pre W → pre.length < len → YieldAt F (n - 1) Tryd.prog l #[.int .i64 (x.1 : Nat), .int .i64 (x.2 : Nat)] W fun e W' =>
      (e = .returned (.bool true) ∧ J (pre ++ [x]) W' ∧ Ar.KR Bs G W W') ∨ (e = .returned (.bool false) ∧ Jx (pre ++ [x]) W'))
    (W : World) (hJ : AbidesFrom W.heap.size J) (hBl : Bs < W.heap.size) (hGl : G < W.heap.size) (hBs : W.cell? ⟨Bs, 0, none⟩ = some (.slice A len cap)) (hc : Hid (Bk.Lies G W A bs)) (h0 : J [] W) :
    CallsIn F n Tryd.prog 34 #[.func (.yield l) #[] #[], .pointer (some ⟨Bs, 0, none⟩)] W fun e W' => (∃ v, e = .returned v) ∧
      ((∃ ys, ys = bs ∧ J ys W') ∨ (∃ pre, (∃ k, k ≤ len ∧ pre = bs.take k) ∧ Jx pre W')) := by
  have HJ := hide hJ
  clear hJ
  refine callsIn_of_wp Tryd.func34 rfl h8 ?_ hro
  simp only [Tryd.ntmps34, List.size_toArray, List.length_cons, List.length_nil, Nat.reduceAdd, Nat.reduceSub, Array.replicate_succ, Array.replicate_zero, List.push_toArray, List.append_toArray, List.nil_append, List.cons_append]
  gi_wp2
  gi_loopw [7] (fun i wr => ∃ (k : Nat), k ≤ len ∧ i = .int .i64 k ∧ J (bs.take k) wr ∧ Hid (Ar.KR Bs G W wr) ∧ Hid (W.heap.size ≤ wr.heap.size))
    (fun i _ => len - (intOf i).toNat)
  case atStart => exact ⟨0, by omega, rfl, h0, hide (Ar.KR.refl _ _ _), hide (Nat.le_refl _)⟩
  case round =>
    obtain ⟨k, hk, rfl, hJs, HKB, HSZ⟩ := hrel
    by_cases hlt : k < len
    · obtain ⟨b, hb⟩ : ∃ b, bs[k]? = some b := ⟨_, List.getElem?_eq_getElem (by rw [hl.out]; omega)⟩
      obtain ⟨rfl, c0, c1⟩ := (hc.out.same HKB.out.row) k b hb
      have hJa : J (bs.take k) (wr.alloc (.cells #[.int .i64 (b.1 : Nat), .int .i64 (b.2 : Nat)] 64)) := HJ.out _ wr _ none hJs (World.grownBy_alloc wr _ none) (fun r e => by cases e)
      have hKa := hide (HKB.out.trans (Ar.KR.of ((Below.refl wr.heap.size wr).alloc (Nat.le_refl _) (.cells #[.int .i64 (b.1 : Nat), .int .i64 (b.2 : Nat)] 64)) (Nat.lt_of_lt_of_le hBl HSZ.out) (Nat.lt_of_lt_of_le hGl HSZ.out)))
      obtain ⟨fn, tmps, assign, body, hy, hR⟩ := hY _ b _ hJa (by rw [List.length_take, hl.out]; omega)
      have htk : bs.take k ++ [b] = bs.take (k + 1) := by rw [List.take_add_one, hb, Option.toList_some]
      rw [htk] at hR
      have hSa : Hid (W.heap.size ≤ (wr.alloc (.cells #[.int .i64 (b.1 : Nat), .int .i64 (b.2 : Nat)] 64)).heap.size) := hide (by simp; have := HSZ.out; omega)
      clear hb htk hJa
      gi_wp2
      refine hR.mono ?_
      rintro e W3 (⟨rfl, hJ3, hk3⟩ | ⟨rfl, hJx3⟩)
      · have HK3 := hide (hKa.out.trans hk3)
        have HS3 := hide (Nat.le_trans hSa.out hk3.size)
        clear hk3
        gi_wp2
        go_roundw
        case rel => exact ⟨k + 1, by omega, by go_num, hJ3, HK3, HS3⟩
        case measure => simp [intOf]; omega
      · gi_wp2
        refine bodyPost_ret (results_none rfl _ _ _) rfl ?_
        exact ⟨⟨_, rfl⟩, .inr ⟨_, ⟨k + 1, by omega, rfl⟩, hJx3⟩⟩
    · obtain rfl : k = len := by omega
      have hJe : J bs wr := by rw [List.take_of_length_le (by rw [hl.out]; exact Nat.le_refl _)] at hJs; exact hJs
      gi_wp2
      go_end0
      exact ⟨⟨_, rfl⟩, .inl ⟨_, rfl, hJe⟩⟩
end Go.Proofs.YtemaaipgjghlaaaDoor
