/-
  Floats appended to a row of the call's own, from any source that reads as a list (nil let in); cuts of rows of floats. By an AI agent. No person has read it.
-/
import Derived.Test.YteeiehaebiigfaaDoorFltOv
import Derived.Maps.AppendAt
import Derived.Laws.MakeOwn
namespace Go.Proofs.YteeiehaebiigfaaDoor
open Go.RowKit

theorem ufs : Tryd.prog.underlying 27 = some (.slice 22) := by kernel_rfl
theorem f64s_one (bs : List Nat) : ∀ u ∈ f64s bs, u.oneCell' = true := by
  intro u hu
  obtain ⟨x, _, rfl⟩ := List.mem_map.1 hu
  rfl
/-- The run of the append. -/
theorem run_append_fs (w : World) (ty : TypeId) (base : Nat) (v : Value) (n : Nat) (xs : List Value) (hown : w.ownsRow base 22 1 v n xs) (A : Option Addr) (cap : Nat) (bs : List Nat) (hr : Fl w A bs)
    (hs : n + bs.length ≤ 1000000000000) (hbase : base ≤ w.heap.size) :
    ∃ v' w', (Builtin.append_ #[27, 27] ty #[v, .slice A bs.length cap]).run Tryd.prog w = .ok v' w' ∧ w'.ownsRow base 22 1 v' (n + bs.length) (xs ++ f64s bs) ∧ w.grownBy w' v.ownBlock ∧
      (v'.ownBlock = v.ownBlock ∨ v'.ownBlock = some w.heap.size) := by
  obtain ⟨i, hi, hz0, hz1, hz2⟩ := f64info
  cases A with
  | none =>
    have hn : bs = [] := by
      rcases bs with _ | ⟨b, l⟩
      · rfl
      · obtain ⟨ad, e, _⟩ := hr.2 0 b rfl
        cases e
    subst hn
    refine ⟨v, w, ?_, by simpa [f64s] using hown, World.grownBy.refl w _, .inl rfl⟩
    rcases hown.2 with ⟨rfl, rfl⟩ | ⟨g, c, cur, rfl, _, _, hnc, _⟩
    · simp [Builtin.append_, run_underlying ufs, sizeOf, typeInfo, hi, Builtin.lenOf, Builtin.firstCells]
    · simp [Builtin.append_, run_underlying ufs, sizeOf, typeInfo, hi, Builtin.lenOf, Builtin.firstCells, hnc, storeCells]
  | some ad =>
    obtain ⟨v', w', h1, h2, h3, _, h5⟩ := run_append_own_at (P := Tryd.prog) w base 27 ty 22 i (.float .f64 0) 1 8 ufs hi hz0 hz1 hz2 rfl (by decide) v n xs hown ad bs.length cap (f64s bs) (by simp [f64s]) (by
      intro j u hj
      unfold f64s at hj
      rw [List.getElem?_map, Option.map_eq_some_iff] at hj
      obtain ⟨b, hb, rfl⟩ := hj
      obtain ⟨ad', e, _, hc⟩ := hr.2 j b hb
      cases e
      exact hc) (f64s_one bs) (by unfold maxLen; omega) (by omega) hbase
    exact ⟨v', w', h1, h2, h3, h5⟩
/-- .. as an operation of the walk. -/
theorem wpList_append_fs {w : World} {ops : Array Oper} {rest : List Oper} {o : Oper} {a : Act} {Q : Exit → Act → World → Prop} (hgd : o.guard = none) (s x : Operand)
    (ho : o.op = .call { callee := .builtin .append, args := #[s, x], argTypes := #[27, 27] })
    (base : Nat) (v : Value) (n : Nat) (xs : List Value) (hs : a.eval s = v) (hown : w.ownsRow base 22 1 v n xs) (A : Option Addr) (m cap : Nat) (bs : List Nat) (hx : a.eval x = .slice A m cap) (hm : Hid (bs.length = m)) (hr : Fl w A bs)
    (hb : n + m ≤ 1000000000000) (hbase : base ≤ w.heap.size)
    (h : ∀ v' w', w'.ownsRow base 22 1 v' (n + m) (xs ++ f64s bs) → w.grownBy w' v.ownBlock → (v'.ownBlock = v.ownBlock ∨ v'.ownBlock = some w.heap.size) → wpList Tryd.prog ops Q rest (a.put o.dst v') w') :
    wpList Tryd.prog ops Q (o :: rest) a w := by
  obtain rfl := hm.out
  refine wpList_plain hgd fun K hK => ?_
  obtain ⟨v', w', hrun, h2, h3, h5⟩ := run_append_fs w o.type base v n xs hown A cap bs hr hb hbase
  unfold Oper.wp execOp
  simp only [ho, resolve, invoke, builtin, Sem.run_bind, Sem.run_pure, Result.andThen_ok, List.map_toArray, List.map_cons, List.map_nil, hs, hx, hrun]
  exact hK _ _ (h v' w' h2 h3 h5)
/-- .. as a step of a region that draws its order. -/
theorem step_append_fs {w : World} {ops : Array Oper} {o : Oper} {a : Act} {K : Act → World → Prop} {Q : Exit → Act → World → Prop} {E : Prop} (hgd : o.guard = none) (s x : Operand)
    (ho : o.op = .call { callee := .builtin .append, args := #[s, x], argTypes := #[27, 27] })
    (base : Nat) (v : Value) (n : Nat) (xs : List Value) (hs : a.eval s = v) (hown : w.ownsRow base 22 1 v n xs) (A : Option Addr) (m cap : Nat) (bs : List Nat) (hx : a.eval x = .slice A m cap) (hm : Hid (bs.length = m)) (hr : Fl w A bs)
    (hb : n + m ≤ 1000000000000) (hbase : base ≤ w.heap.size)
    (h : ∀ v' w', w'.ownsRow base 22 1 v' (n + m) (xs ++ f64s bs) → w.grownBy w' v.ownBlock → K (a.put o.dst v') w') :
    if Region.wanted o (yielded ops a.tmps) = true then Oper.wp Tryd.prog o a w K Q else E := by
  have hw : Region.wanted o (yielded ops a.tmps) = true := by simp [Region.wanted, hgd]
  rw [if_pos hw]
  obtain rfl := hm.out
  obtain ⟨v', w', hrun, h2, h3, -⟩ := run_append_fs w o.type base v n xs hown A cap bs hr hb hbase
  unfold Oper.wp
  simp only [execOp, ho, resolve, invoke, builtin, Sem.run_bind, Sem.run_pure, Result.andThen_ok, List.map_toArray, List.map_cons, List.map_nil, hs, hx, hrun]
  exact h v' w' h2 h3
/-- 'x[lo:hi]'. -/
theorem cut_run (A A2 : Option Addr) (len cap lo hi : Nat) (hA : Hid ((if cap = lo then A else A.map (·.add (lo * 1))) = A2)) (h1 : lo ≤ hi) (h2 : hi ≤ cap) (W : World) :
    (Instr.slice 27 (.slice A len cap) (some (.int .i64 (lo : Int))) (some (.int .i64 (hi : Int))) none).run Tryd.prog W = .ok (.slice A2 (hi - lo) (cap - lo)) W := by
  rw [← hA.out]
  have hu : Tryd.prog.underlying 27 = some (.slice (Tryd.prog.elem 27)) := by kernel_rfl
  have hz : ∀ W : World, (sizeOf (Tryd.prog.elem 27)).run Tryd.prog W = .ok 1 W := fun _ => by kernel_rfl
  rw [run_slice_lh W _ _ _ _ hu _ _ _ _ (by omega) (by omega) (by omega), hz]
  simp only [Result.andThen, sliced, Int.toNat_natCast]
/-- 'x[:hi]'. -/
theorem head_run (A : Option Addr) (len cap hi : Nat) (h2 : hi ≤ cap) (W : World) :
    (Instr.slice 27 (.slice A len cap) none (some (.int .i64 (hi : Int))) none).run Tryd.prog W = .ok (.slice A hi cap) W := by
  have hu : Tryd.prog.underlying 27 = some (.slice (Tryd.prog.elem 27)) := by kernel_rfl
  have hz : ∀ W : World, (sizeOf (Tryd.prog.elem 27)).run Tryd.prog W = .ok 1 W := fun _ => by kernel_rfl
  rw [run_slice_h W _ _ _ _ hu _ _ (by omega) (by omega), hz]
  simp only [Result.andThen, sliced, Int.toNat_natCast]
  cases A <;> simp [Addr.add]
/-- 'x[lo:]'. -/
theorem rest_run (A A2 : Option Addr) (len cap lo : Nat) (hA : Hid ((if cap = lo then A else A.map (·.add (lo * 1))) = A2)) (h1 : lo ≤ len) (W : World) :
    (Instr.slice 27 (.slice A len cap) (some (.int .i64 (lo : Int))) none none).run Tryd.prog W = .ok (.slice A2 (len - lo) (cap - lo)) W := by
  rw [← hA.out]
  have hu : Tryd.prog.underlying 27 = some (.slice (Tryd.prog.elem 27)) := by kernel_rfl
  have hz : ∀ W : World, (sizeOf (Tryd.prog.elem 27)).run Tryd.prog W = .ok 1 W := fun _ => by kernel_rfl
  rw [run_slice_l W _ _ _ _ hu _ _ (by omega) (by omega), hz]
  simp only [Result.andThen, sliced, Int.toNat_natCast]
theorem Fl.head {w : World} {A : Option Addr} {xs : List Nat} (h : Fl w A xs) (k : Nat) : Fl w A (xs.take k) := by
  refine ⟨fun x hx => h.1 x (List.mem_of_mem_take hx), fun i x hi => ?_⟩
  rw [List.getElem?_take] at hi
  split at hi
  · exact h.2 i x hi
  · cases hi
theorem Fl.rest {w : World} {A : Option Addr} {xs : List Nat} (h : Fl w A xs) (k cap : Nat) (hc : xs.length ≤ cap) : Fl w (if cap = k then A else A.map (·.add (k * 1))) (xs.drop k) := by
  refine ⟨fun x hx => h.1 x (List.mem_of_mem_drop hx), fun i x hi => ?_⟩
  rw [List.getElem?_drop] at hi
  have hlt : k + i < xs.length := (List.getElem?_eq_some_iff.1 hi).1
  obtain ⟨ad, e, h1, h2⟩ := h.2 (k + i) x hi
  rw [if_neg (by omega), e]
  refine ⟨_, rfl, by rw [ad_block]; exact h1, ?_⟩
  rw [Nat.mul_one, Addr.add_add]
  exact h2
theorem Fl.grown {w w' : World} {A : Option Addr} {xs : List Nat} {row : Option Nat} (h : Fl w A xs) (hb : w.grownBy w' row) (hr : ∀ ad, A = some ad → some ad.block ≠ row) : Fl w' A xs := by
  refine ⟨h.1, fun i x hi => ?_⟩
  obtain ⟨ad, e, h1, h2⟩ := h.2 i x hi
  refine ⟨ad, e, Nat.lt_of_lt_of_le h1 hb.size, ?_⟩
  rw [World.cell?_of_block (hb.block (ad.add i).block (by rw [ad_block]; exact h1) (by rw [ad_block]; exact hr ad e))]
  exact h2
theorem own_cap {w : World} {base n c : Nat} {t : TypeId} {A : Option Addr} {xs : List Value} (h : w.ownsRow base t 1 (.slice A n c) n xs) : n ≤ c ∧ c ≤ 9223372036854775807 := by
  rcases h.2 with ⟨h1, rfl⟩ | ⟨g, cap, cur, h1, -, -, h4, h5, -⟩
  · cases h1; omega
  · cases h1; unfold maxLen at h5; omega
/-- make([]float64, 0, 50): its row, as what is appended to asks for it. -/
theorem made50 : ∃ Z : Array Value, Hid (Z.size = 50) ∧ ∀ w : World, (Instr.makeSlice 27 (.int .i64 0) (.int .i64 50)).run Tryd.prog w = .ok (.slice (some ⟨w.heap.size, 0, none⟩) 0 50) (w.alloc (.cells Z 22)) := by
  obtain ⟨i0, hi0, hz0, hz1, hz2⟩ := f64info
  refine ⟨madeCells (Value.float .f64 0).cells 50, hide (by rw [size_madeCells]), fun w => ?_⟩
  have h := run_make (P := Tryd.prog) w 27 22 i0 (.float .f64 0) ufs hi0 hz0 .i64 .i64 0 50 (by omega) (by omega) (by rw [hz2]; omega) (by omega)
  rw [hz1, show (50 : Int).toNat = 50 by rfl, Nat.mul_one] at h
  exact h
theorem made_own (w : World) (Z : Array Value) (hZ : Z.size = 50) : (w.alloc (.cells Z 22)).ownsRow w.heap.size 22 1 (.slice (some ⟨w.heap.size, 0, none⟩) 0 50) 0 (f64s []) := by
  refine ⟨by simp [f64s], .inr ⟨_, 50, Z, rfl, Nat.le_refl _, heap_alloc_new w _, by omega, by unfold maxLen; omega, by rw [hZ], by simp [f64s]⟩⟩
end Go.Proofs.YteeiehaebiigfaaDoor
