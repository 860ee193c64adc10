/-
  A plan that came in. By an AI agent. No person has read it.
-/
import Derived.Test.YthjnkaikjjjceaaDoorPkElmOpen
import Derived.Test.YthjnkaikjjjceaaDoorPkPlnWa
namespace Go.Proofs.YthjnkaikjjjceaaDoor
open Go.ChangeShapes Go.WideShapes Go.ChangeAt Go.RowKit
theorem uViews : Tryd.prog.underlying 22 = some (.slice 61) := by kernel_rfl
theorem uInstrs : Tryd.prog.underlying 25 = some (.slice 48) := by kernel_rfl
theorem pln_c3 : Tryd.prog.cellsOf 61 = 3 := by kernel_rfl
theorem pln_c6 : Tryd.prog.cellsOf 48 = 6 := by kernel_rfl
theorem pln_c7 : Tryd.prog.cellsOf 27 = 7 := by kernel_rfl
theorem pln_i1 : Tryd.prog.cellsOf 3 = 1 := by kernel_rfl
theorem pln_v1 : Tryd.prog.cellsOf 22 = 1 := by kernel_rfl
theorem pln_t1 : Tryd.prog.cellsOf 23 = 1 := by kernel_rfl
theorem pln_d1 : Tryd.prog.cellsOf 24 = 1 := by kernel_rfl
theorem pln_k1 : Tryd.prog.cellsOf 25 = 1 := by kernel_rfl
instance : Inhabited Vw := ⟨⟨0, ⟨none, [], 0, false⟩⟩⟩
instance : Inhabited Ins := ⟨⟨0, 0, none, [], 0, none, [], 0, 0, 0⟩⟩
theorem trod_struct6 {H : Type} {enc : TypeId × Value → H} {P : Program} {w : World} {base : Nat} {spare : Nat → Bool} {held : Bool} {t : TypeId} {f0 f1 f2 f3 f4 f5 : Field} {fuel : Nat} {cs : List Value} {x : DataW H × List MemPlace} (ht : P.underlying t = some (.struct #[f0, f1, f2, f3, f4, f5])) (h : DataW.trod enc P w base spare held fuel t cs = some x) :
    ∃ y0 y1 y2 y3 y4 y5 n, DataW.trod enc P w base spare held n f0.type ((cs.drop f0.offset).take (P.cellsOf f0.type)) = some y0 ∧ DataW.trod enc P w base spare held n f1.type ((cs.drop f1.offset).take (P.cellsOf f1.type)) = some y1 ∧ DataW.trod enc P w base spare held n f2.type ((cs.drop f2.offset).take (P.cellsOf f2.type)) = some y2 ∧ DataW.trod enc P w base spare held n f3.type ((cs.drop f3.offset).take (P.cellsOf f3.type)) = some y3 ∧ DataW.trod enc P w base spare held n f4.type ((cs.drop f4.offset).take (P.cellsOf f4.type)) = some y4 ∧ DataW.trod enc P w base spare held n f5.type ((cs.drop f5.offset).take (P.cellsOf f5.type)) = some y5 := by
  obtain ⟨xs, n, _, rfl, hl, hlen, hf⟩ := DataW.trod_struct ht h
  match xs, hlen with
  | [y0, y1, y2, y3, y4, y5], _ => exact ⟨y0, y1, y2, y3, y4, y5, n, by simpa using hf 0 f0 rfl, by simpa using hf 1 f1 rfl, by simpa using hf 2 f2 rfl, by simpa using hf 3 f3 rfl, by simpa using hf 4 f4 rfl, by simpa using hf 5 f5 rfl⟩
theorem trod_struct7 {H : Type} {enc : TypeId × Value → H} {P : Program} {w : World} {base : Nat} {spare : Nat → Bool} {held : Bool} {t : TypeId} {f0 f1 f2 f3 f4 f5 f6 : Field} {fuel : Nat} {cs : List Value} {x : DataW H × List MemPlace} (ht : P.underlying t = some (.struct #[f0, f1, f2, f3, f4, f5, f6])) (h : DataW.trod enc P w base spare held fuel t cs = some x) :
    ∃ y0 y1 y2 y3 y4 y5 y6 n, DataW.trod enc P w base spare held n f0.type ((cs.drop f0.offset).take (P.cellsOf f0.type)) = some y0 ∧ DataW.trod enc P w base spare held n f1.type ((cs.drop f1.offset).take (P.cellsOf f1.type)) = some y1 ∧ DataW.trod enc P w base spare held n f2.type ((cs.drop f2.offset).take (P.cellsOf f2.type)) = some y2 ∧ DataW.trod enc P w base spare held n f3.type ((cs.drop f3.offset).take (P.cellsOf f3.type)) = some y3 ∧ DataW.trod enc P w base spare held n f4.type ((cs.drop f4.offset).take (P.cellsOf f4.type)) = some y4 ∧ DataW.trod enc P w base spare held n f5.type ((cs.drop f5.offset).take (P.cellsOf f5.type)) = some y5 ∧ DataW.trod enc P w base spare held n f6.type ((cs.drop f6.offset).take (P.cellsOf f6.type)) = some y6 := by
  obtain ⟨xs, n, _, rfl, hl, hlen, hf⟩ := DataW.trod_struct ht h
  match xs, hlen with
  | [y0, y1, y2, y3, y4, y5, y6], _ => exact ⟨y0, y1, y2, y3, y4, y5, y6, n, by simpa using hf 0 f0 rfl, by simpa using hf 1 f1 rfl, by simpa using hf 2 f2 rfl, by simpa using hf 3 f3 rfl, by simpa using hf 4 f4 rfl, by simpa using hf 5 f5 rfl, by simpa using hf 6 f6 rfl⟩
/-- An int, from the cell that was read. -/
theorem int_cell {H : Type} {enc : TypeId × Value → H} {W : World} {c : Value} {fuel : Nat} {x : DataW H × List MemPlace} {sp : Nat → Bool} {held : Bool} {base : Nat}
    (h : DataW.trod enc Tryd.prog W base sp held fuel 3 [c] = some x) : ∃ z : Int, c = .int .i64 z ∧ (Lit.int .i64 z).wf = true := by
  obtain ⟨z, h1, -, h2⟩ := DataW.trod_int uInt h
  exact ⟨z, by simpa using h1, h2⟩
set_option maxRecDepth 100000 in
theorem view_cells {H : Type} {enc : TypeId × Value → H} {W : World} {c0 c1 c2 : Value} {fuel : Nat} {x : DataW H × List MemPlace} {sp : Nat → Bool} {held : Bool} {base : Nat}
    (h : DataW.trod enc Tryd.prog W base sp held fuel 61 [c0, c1, c2] = some x) : ∃ v : Vw, c0 = .int .i64 v.off ∧ c1 = .slice v.d.P v.d.zs.length v.d.cap ∧ c2 = .bool v.d.u ∧ Ri W v.d.P v.d.zs := by
  obtain ⟨y0, y1, n, -, -, h0, h1⟩ := trod_struct2 Tryd.underlying61 h
  dsimp only at h0 h1
  rw [pln_i1] at h0
  rw [ten_c2] at h1
  simp only [List.drop_zero, List.take_succ_cons, List.take_zero, List.drop_succ_cons] at h0 h1
  obtain ⟨z, rfl, -⟩ := int_cell h0
  obtain ⟨zs, A, cap, u, rfl, rfl, hR, hc, hd⟩ := desc_cells h1
  exact ⟨⟨z, ⟨A, zs, cap, u⟩⟩, rfl, rfl, rfl, hR⟩
set_option maxRecDepth 100000 in
theorem instr_cells {H : Type} {enc : TypeId × Value → H} {W : World} {c0 c1 c2 c3 c4 c5 : Value} {fuel : Nat} {x : DataW H × List MemPlace} {sp : Nat → Bool} {held : Bool} {base : Nat}
    (h : DataW.trod enc Tryd.prog W base sp held fuel 48 [c0, c1, c2, c3, c4, c5] = some x) : ∃ v : Ins, c0 = .int .i64 v.op ∧ c1 = .int .i64 v.dst ∧ c2 = .slice v.I v.is.length v.ic ∧ c3 = .slice v.G v.gs.length v.gc ∧ c4 = .int .i64 v.fr ∧ c5 = .int .i64 v.to ∧ Ri W v.I v.is ∧ Ri W v.G v.gs := by
  obtain ⟨y0, y1, y2, y3, y4, y5, n, h0, h1, h2, h3, h4, h5⟩ := trod_struct6 Tryd.underlying48 h
  dsimp only at h0 h1 h2 h3 h4 h5
  rw [pln_i1] at h0 h1 h4 h5
  rw [ten_n1] at h2 h3
  simp only [List.drop_zero, List.take_succ_cons, List.take_zero, List.drop_succ_cons] at h0 h1 h2 h3 h4 h5
  obtain ⟨z0, rfl, -⟩ := int_cell h0
  obtain ⟨z1, rfl, -⟩ := int_cell h1
  obtain ⟨is, I, ic, rfl, hI, -⟩ := nums_cell h2
  obtain ⟨gs, G, gc, rfl, hG, -⟩ := nums_cell h3
  obtain ⟨z4, rfl, -⟩ := int_cell h4
  obtain ⟨z5, rfl, -⟩ := int_cell h5
  exact ⟨⟨z0, z1, I, is, ic, G, gs, gc, z4, z5⟩, rfl, rfl, rfl, rfl, rfl, rfl, hI, hG⟩
/-- A row of elements of k cells, from the elements one by one. -/
theorem row_of {α : Type} [Inhabited α] (vals : α → List Value) (k : Nat) (hk : 0 < k) (hv : ∀ x, (vals x).length = k) (ok : α → Prop) {W : World} {a : Addr} {len : Nat} (hp : ∀ i, i < len → ∃ d : α, a.block < W.heap.size ∧ ok d ∧ ∀ (j : Nat) (v : Value), (vals d)[j]? = some v → W.cell? ((a.add (i * k)).add j) = some v) :
    ∃ ds : List α, ds.length = len ∧ Row W (some a) (ds.flatMap vals) ∧ ∀ d ∈ ds, ok d := by
  obtain ⟨f, hf⟩ := Deep.choose_lt (α := α) (n := len) (p := fun i d => a.block < W.heap.size ∧ ok d ∧ ∀ (j : Nat) (v : Value), (vals d)[j]? = some v → W.cell? ((a.add (i * k)).add j) = some v) hp
  refine ⟨(List.range len).map f, by simp, fun hne => ?_, ?_⟩
  · have hpos : 0 < len := by
      rcases Nat.eq_zero_or_pos len with h0 | h0
      · subst h0
        exact absurd rfl hne
      · exact h0
    refine ⟨a, rfl, (hf 0 hpos).1, fun j v hj => ?_⟩
    have hjl : j < ((List.range len).map f).length * k := by
      rw [← flat_len vals k _ (fun _ _ => hv _)]
      exact (List.getElem?_eq_some_iff.1 hj).1
    rw [List.length_map, List.length_range] at hjl
    have hq : j / k < len := Nat.div_lt_of_lt_mul (by rw [Nat.mul_comm]; exact hjl)
    have hg : ((List.range len).map f)[j / k]? = some (f (j / k)) := by
      rw [List.getElem?_map, List.getElem?_range hq]
      rfl
    have hj' := flat_at vals k _ (fun _ _ => hv _) (j / k) _ hg (j % k) (Nat.mod_lt _ hk)
    have hdm : j / k * k + j % k = j := by rw [Nat.mul_comm]; exact Nat.div_add_mod j k
    rw [hdm] at hj'
    rw [hj'] at hj
    have := (hf (j / k) hq).2.2 (j % k) v hj
    rw [Addr.add_add, hdm] at this
    exact this
  · intro d hd
    obtain ⟨i, hi', rfl⟩ := List.mem_map.1 hd
    exact (hf i (List.mem_range.1 hi')).2.1
set_option maxRecDepth 100000 in
theorem open_views {H : Type} {enc : TypeId × Value → H} {W : World} {c : Value} {fuel : Nat} {x : DataW H × List MemPlace} {sp : Nat → Bool} {held : Bool} {base : Nat}
    (h : DataW.trod enc Tryd.prog W base sp held fuel 22 [c] = some x) : ∃ (A : Option Addr) (vs : List Vw) (cap : Nat), c = .slice A vs.length cap ∧ Row W A (vs.flatMap Vw.vals) ∧ ∀ v ∈ vs, Ri W v.d.P v.d.zs := by
  rcases Deep.open_slice uViews h with ⟨hcs, _⟩ | ⟨a, l, c, m, n, D, Pl, hcs, hb, hl, hm, hmm, hx, hi⟩
  · simp at hcs
    subst hcs
    exact ⟨none, [], 0, rfl, Row.nil _ _, by simp⟩
  · simp at hcs
    subst hcs
    have hlm : l ≤ m := by rw [hmm]; split <;> omega
    obtain ⟨ds, h1, h2, h3⟩ := row_of Vw.vals 3 (by decide) (fun _ => rfl) (fun v => Ri W v.d.P v.d.zs) (a := a) (len := l) (W := W) (fun i hil => by
      obtain ⟨cs, h1, h2⟩ := hi i (by omega)
      rw [pln_c3] at h1
      have hlen := World.cells?_some h1
      have hblk := World.cells?_block h1 (by decide)
      rw [ad_block] at hblk
      obtain ⟨hln, hcell⟩ := hlen.2
      obtain ⟨c0, c1, c2, rfl⟩ : ∃ c0 c1 c2, cs = [c0, c1, c2] := by
        match cs, hln with
        | [a, b, c], _ => exact ⟨a, b, c, rfl⟩
      obtain ⟨t, rfl, rfl, rfl, hR⟩ := view_cells h2
      refine ⟨t, hblk, hR, fun j v hj => ?_⟩
      have hj2 : j < 3 := (List.getElem?_eq_some_iff.1 hj).1
      rw [hcell j hj2]
      exact hj)
    exact ⟨some a, ds, _, by rw [h1], h2, h3⟩
set_option maxRecDepth 100000 in
theorem open_instrs {H : Type} {enc : TypeId × Value → H} {W : World} {c : Value} {fuel : Nat} {x : DataW H × List MemPlace} {sp : Nat → Bool} {held : Bool} {base : Nat}
    (h : DataW.trod enc Tryd.prog W base sp held fuel 25 [c] = some x) : ∃ (A : Option Addr) (vs : List Ins) (cap : Nat), c = .slice A vs.length cap ∧ Row W A (vs.flatMap Ins.vals) ∧ ∀ n ∈ vs, Ri W n.I n.is ∧ Ri W n.G n.gs := by
  rcases Deep.open_slice uInstrs h with ⟨hcs, _⟩ | ⟨a, l, c, m, n, D, Pl, hcs, hb, hl, hm, hmm, hx, hi⟩
  · simp at hcs
    subst hcs
    exact ⟨none, [], 0, rfl, Row.nil _ _, by simp⟩
  · simp at hcs
    subst hcs
    have hlm : l ≤ m := by rw [hmm]; split <;> omega
    obtain ⟨ds, h1, h2, h3⟩ := row_of Ins.vals 6 (by decide) (fun _ => rfl) (fun n => Ri W n.I n.is ∧ Ri W n.G n.gs) (a := a) (len := l) (W := W) (fun i hil => by
      obtain ⟨cs, h1, h2⟩ := hi i (by omega)
      rw [pln_c6] at h1
      have hlen := World.cells?_some h1
      have hblk := World.cells?_block h1 (by decide)
      rw [ad_block] at hblk
      obtain ⟨hln, hcell⟩ := hlen.2
      obtain ⟨c0, c1, c2, c3, c4, c5, rfl⟩ : ∃ c0 c1 c2 c3 c4 c5, cs = [c0, c1, c2, c3, c4, c5] := by
        match cs, hln with
        | [a, b, c, d, e, f], _ => exact ⟨a, b, c, d, e, f, rfl⟩
      obtain ⟨t, rfl, rfl, rfl, rfl, rfl, rfl, hR⟩ := instr_cells h2
      refine ⟨t, hblk, hR, fun j v hj => ?_⟩
      have hj2 : j < 6 := (List.getElem?_eq_some_iff.1 hj).1
      rw [hcell j hj2]
      exact hj)
    exact ⟨some a, ds, _, by rw [h1], h2, h3⟩
theorem open_tens {H : Type} {enc : TypeId × Value → H} {W : World} {c : Value} {fuel : Nat} {x : DataW H × List MemPlace} {sp : Nat → Bool} {held : Bool} {base : Nat}
    (h : DataW.trod enc Tryd.prog W base sp held fuel 23 [c] = some x) : ∃ (A : Option Addr) (vs : List Ten) (cap : Nat), c = .slice A vs.length cap ∧ Row W A (vs.flatMap Ten.vals) ∧ ∀ t ∈ vs, Ri W t.P t.zs ∧ Ri W t.D t.ds := by
  obtain ⟨A, len, cap, rfl⟩ : ∃ A len cap, c = .slice A len cap := by
    rcases Deep.open_slice uTensors h with ⟨hcs, _⟩ | ⟨a, l, c, m, n, D, Pl, hcs, _⟩
    · exact ⟨none, 0, 0, by simpa using hcs⟩
    · exact ⟨some a, l, c, by simpa using hcs⟩
  obtain ⟨ds, rfl, hR, hI, -⟩ := open_tcaps h
  exact ⟨A, ds, cap, rfl, hR, fun t ht => (hI t ht).1⟩
theorem open_dscs {H : Type} {enc : TypeId × Value → H} {W : World} {c : Value} {fuel : Nat} {x : DataW H × List MemPlace} {sp : Nat → Bool} {held : Bool} {base : Nat}
    (h : DataW.trod enc Tryd.prog W base sp held fuel 24 [c] = some x) : ∃ (A : Option Addr) (vs : List Dsc) (cap : Nat), c = .slice A vs.length cap ∧ Row W A (vs.flatMap Dsc.vals) ∧ ∀ t ∈ vs, Ri W t.P t.zs := by
  obtain ⟨A, len, cap, rfl⟩ : ∃ A len cap, c = .slice A len cap := by
    rcases Deep.open_slice uDescs h with ⟨hcs, _⟩ | ⟨a, l, c, m, n, D, Pl, hcs, _⟩
    · exact ⟨none, 0, 0, by simpa using hcs⟩
    · exact ⟨some a, l, c, by simpa using hcs⟩
  obtain ⟨ds, rfl, hR, hI, -⟩ := open_descs h
  exact ⟨A, ds, cap, rfl, hR, hI⟩
set_option maxRecDepth 100000 in
/-- A plan that came in, as the walks ask for it. -/
theorem open_plan {H : Type} {enc : TypeId × Value → H} {W : World} {v : Value} {d : DataW H} {p : List MemPlace} {r : Reach} {b0 base : Nat} {sp : Nat → Bool} {held : Bool}
    (hval : Value.okWide Tryd.prog W r b0 27 v) (hd : DataW.Trod enc Tryd.prog W base sp held 27 v d p) :
    ∃ q : Pn, v = .agg #[.int .i64 q.size, .slice q.V q.vs.length q.vc, .slice q.C q.cs.length q.cc, .slice q.L q.ls.length q.lc, .slice q.K q.is.length q.kc, .int .i64 q.inp, .int .i64 q.out] ∧ q.Lies W ∧ (Lit.int .i64 q.size).wf = true ∧ (Lit.int .i64 q.inp).wf = true ∧ (Lit.int .i64 q.out).wf = true := by
  obtain ⟨cs, rfl, hs⟩ := okWide_struct Tryd.underlying27 hval
  obtain ⟨fuel, hf⟩ := hd
  rw [pln_c7] at hs
  obtain ⟨c0, c1, c2, c3, c4, c5, c6, rfl⟩ : ∃ c0 c1 c2 c3 c4 c5 c6, cs = #[c0, c1, c2, c3, c4, c5, c6] := by
    obtain ⟨l⟩ := cs
    match l, hs with
    | [a, b, c, d, e, f, g], _ => exact ⟨a, b, c, d, e, f, g, rfl⟩
  obtain ⟨y0, y1, y2, y3, y4, y5, y6, n, h0, h1, h2, h3, h4, h5, h6⟩ := trod_struct7 Tryd.underlying27 hf
  dsimp only at h0 h1 h2 h3 h4 h5 h6
  rw [pln_i1] at h0 h5 h6
  rw [pln_v1] at h1
  rw [pln_t1] at h2
  rw [pln_d1] at h3
  rw [pln_k1] at h4
  simp only [Value.cells, List.drop_zero, List.take_succ_cons, List.take_zero, List.drop_succ_cons] at h0 h1 h2 h3 h4 h5 h6
  obtain ⟨z0, rfl, w0⟩ := int_cell h0
  obtain ⟨V, vs, vc, rfl, hV, iV⟩ := open_views h1
  obtain ⟨C, ts, cc, rfl, hC, iC⟩ := open_tens h2
  obtain ⟨L, ls, lc, rfl, hL, iL⟩ := open_dscs h3
  obtain ⟨K, is, kc, rfl, hK, iK⟩ := open_instrs h4
  obtain ⟨z5, rfl, w5⟩ := int_cell h5
  obtain ⟨z6, rfl, w6⟩ := int_cell h6
  exact ⟨⟨z0, V, vs, vc, C, ts, cc, L, ls, lc, K, is, kc, z5, z6⟩, rfl, ⟨hV, iV, hC, iC, hL, iL, hK, iK⟩, w0, w5, w6⟩
end Go.Proofs.YthjnkaikjjjceaaDoor
