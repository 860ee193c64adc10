/-
  Slices of descriptions, and of tensors, that came in. By an AI agent. No person has read it.
-/
import Derived.Test.YthjnkaikjjjceaaDoorPkTenA
import Derived.Test.YthjnkaikjjjceaaDoorPkElmV
import Derived.Test.YthjnkaikjjjceaaDoorPkErrA
import Derived.Deep.Slices
import Derived.ChangeOld
import Derived.StillTailTactics
import Derived.LoopN
import Derived.WalkLawsBesides
import Derived.Laws.Alloc2
import Derived.Laws.Build
import Derived.Laws.Rows
import Derived.Laws.Tables
import Derived.Laws.CopyOwn
namespace Go.Proofs.YthjnkaikjjjceaaDoor
open Go.ChangeShapes Go.WideShapes Go.ChangeAt Go.RowKit
instance : Inhabited Dsc := ⟨⟨none, [], 0, false⟩⟩
instance : Inhabited Ten := ⟨⟨none, [], 0, false, none, [], 0⟩⟩
theorem uDescs : Tryd.prog.underlying 24 = some (.slice 59) := by kernel_rfl
set_option maxRecDepth 100000 in
theorem open_dcaps {H : Type} {enc : TypeId × Value → H} {W : World} {A : Option Addr} {len cap fuel : Nat} {x : DataW H × List MemPlace} {sp : Nat → Bool} {held : Bool} {base : Nat}
    (h : DataW.trod enc Tryd.prog W base sp held fuel 24 [.slice A len cap] = some x) :
    ∃ ds : List Dsc, ds.length = len ∧ Row W A (ds.flatMap Dsc.vals) ∧ (∀ d ∈ ds, Ri W d.P d.zs ∧ d.zs.length ≤ d.cap) ∧ len ≤ cap ∧ cap ≤ 9223372036854775807 := by
  rcases Deep.open_slice uDescs h with ⟨hcs, _⟩ | ⟨a, l, c, m, n, D, Pl, hcs, hb, hl, hm, hmm, hx, hi⟩
  · simp at hcs
    obtain ⟨rfl, rfl, rfl⟩ := hcs
    exact ⟨[], rfl, Row.nil _ _, by simp, by omega, by omega⟩
  · simp at hcs
    obtain ⟨rfl, rfl, rfl⟩ := hcs
    have hlm : len ≤ m := by rw [hmm]; split <;> omega
    obtain ⟨f, hf⟩ := Deep.choose_lt (α := Dsc) (n := len) (p := fun i d => a.block < W.heap.size ∧ (Ri W d.P d.zs ∧ d.zs.length ≤ d.cap) ∧ ∀ (j : Nat) (v : Value), d.vals[j]? = some v → W.cell? ((a.add (i * 2)).add j) = some v) (fun i hil => by
      obtain ⟨cs, h1, h2⟩ := hi i (by omega)
      rw [ten_c2] at h1
      have hlen := World.cells?_some h1
      have hblk := World.cells?_block h1 (by decide)
      rw [ad_block] at hblk
      obtain ⟨hln, hcell⟩ := hlen.2
      obtain ⟨c0, c1, rfl⟩ : ∃ c0 c1, cs = [c0, c1] := by
        match cs, hln with
        | [a, b], _ => exact ⟨a, b, rfl⟩
      obtain ⟨zs, A, cap', u, rfl, rfl, hR, hc, hd⟩ := desc_cells h2
      refine ⟨⟨A, zs, cap', u⟩, hblk, ⟨hR, hc⟩, fun j v hj => ?_⟩
      have hj2 : j < 2 := (List.getElem?_eq_some_iff.1 hj).1
      rw [hcell j hj2]
      exact hj)
    refine ⟨(List.range len).map f, by simp, fun hne => ?_, ?_, hl, by unfold maxLen at hm; omega⟩
    · have hpos : 0 < len := by
        rcases Nat.eq_zero_or_pos len with h0 | h0
        · subst h0
          exact absurd rfl hne
        · exact h0
      refine ⟨a, rfl, (hf 0 hpos).1, fun j v hj => ?_⟩
      have hjl : j < ((List.range len).map f).length * 2 := by
        rw [← flat_len Dsc.vals 2 _ (fun _ _ => rfl)]
        exact (List.getElem?_eq_some_iff.1 hj).1
      rw [List.length_map, List.length_range] at hjl
      have hq : j / 2 < len := by omega
      have hg : ((List.range len).map f)[j / 2]? = some (f (j / 2)) := by
        rw [List.getElem?_map, List.getElem?_range hq]
        rfl
      have hj' := flat_at Dsc.vals 2 _ (fun _ _ => rfl) (j / 2) _ hg (j % 2) (Nat.mod_lt _ (by decide))
      rw [show j / 2 * 2 + j % 2 = j by omega] at hj'
      rw [hj'] at hj
      have := (hf (j / 2) hq).2.2 (j % 2) v hj
      rw [Addr.add_add, show j / 2 * 2 + j % 2 = j by omega] at this
      exact this
    · intro d hd
      obtain ⟨i, hi', rfl⟩ := List.mem_map.1 hd
      exact (hf i (List.mem_range.1 hi')).2.1
theorem open_descs {H : Type} {enc : TypeId × Value → H} {W : World} {A : Option Addr} {len cap fuel : Nat} {x : DataW H × List MemPlace} {sp : Nat → Bool} {held : Bool} {base : Nat}
    (h : DataW.trod enc Tryd.prog W base sp held fuel 24 [.slice A len cap] = some x) :
    ∃ ds : List Dsc, ds.length = len ∧ Row W A (ds.flatMap Dsc.vals) ∧ (∀ d ∈ ds, Ri W d.P d.zs) ∧ len ≤ cap ∧ cap ≤ 9223372036854775807 := by
  obtain ⟨ds, h1, h2, h3, h4, h5⟩ := open_dcaps h
  exact ⟨ds, h1, h2, fun d hd => (h3 d hd).1, h4, h5⟩
end Go.Proofs.YthjnkaikjjjceaaDoor
namespace Go.Proofs.YthjnkaikjjjceaaDoor
open Go.ChangeShapes Go.WideShapes Go.ChangeAt Go.RowKit
theorem uTensors : Tryd.prog.underlying 23 = some (.slice 70) := by kernel_rfl
set_option maxRecDepth 100000 in
theorem tensor_cells {H : Type} {enc : TypeId × Value → H} {W : World} {c0 c1 c2 : Value} {fuel : Nat} {x : DataW H × List MemPlace} {sp : Nat → Bool} {held : Bool} {base : Nat}
    (h : DataW.trod enc Tryd.prog W base sp held fuel 70 [c0, c1, c2] = some x) : ∃ t : Ten, c0 = .slice t.P t.zs.length t.cap ∧ c1 = .bool t.u ∧ c2 = .slice t.D t.ds.length t.dcap ∧ (Ri W t.P t.zs ∧ Ri W t.D t.ds) ∧ t.zs.length ≤ t.cap ∧ t.ds.length ≤ t.dcap := by
  obtain ⟨y0, y1, n, -, -, h0, h1⟩ := trod_struct2 Tryd.underlying70 h
  dsimp only at h0 h1
  rw [ten_c2] at h0
  rw [ten_n1] at h1
  simp only [List.drop_zero, List.take_succ_cons, List.take_zero, List.drop_succ_cons] at h0 h1
  obtain ⟨zs, A, cap, u, rfl, rfl, hR, hc, hd⟩ := desc_cells h0
  obtain ⟨ds, D, dcap, rfl, hS, hcc, hdd⟩ := nums_cell h1
  exact ⟨⟨A, zs, cap, u, D, ds, dcap⟩, rfl, rfl, rfl, ⟨hR, hS⟩, hc, hcc⟩
set_option maxRecDepth 100000 in
theorem open_tcaps {H : Type} {enc : TypeId × Value → H} {W : World} {A : Option Addr} {len cap fuel : Nat} {x : DataW H × List MemPlace} {sp : Nat → Bool} {held : Bool} {base : Nat}
    (h : DataW.trod enc Tryd.prog W base sp held fuel 23 [.slice A len cap] = some x) :
    ∃ ds : List Ten, ds.length = len ∧ Row W A (ds.flatMap Ten.vals) ∧ (∀ t ∈ ds, (Ri W t.P t.zs ∧ Ri W t.D t.ds) ∧ t.zs.length ≤ t.cap ∧ t.ds.length ≤ t.dcap) ∧ len ≤ cap ∧ cap ≤ 9223372036854775807 := by
  rcases Deep.open_slice uTensors h with ⟨hcs, _⟩ | ⟨a, l, c, m, n, D, Pl, hcs, hb, hl, hm, hmm, hx, hi⟩
  · simp at hcs
    obtain ⟨rfl, rfl, rfl⟩ := hcs
    exact ⟨[], rfl, Row.nil _ _, by simp, by omega, by omega⟩
  · simp at hcs
    obtain ⟨rfl, rfl, rfl⟩ := hcs
    have hlm : len ≤ m := by rw [hmm]; split <;> omega
    obtain ⟨f, hf⟩ := Deep.choose_lt (α := Ten) (n := len) (p := fun i d => a.block < W.heap.size ∧ ((Ri W d.P d.zs ∧ Ri W d.D d.ds) ∧ d.zs.length ≤ d.cap ∧ d.ds.length ≤ d.dcap) ∧ ∀ (j : Nat) (v : Value), d.vals[j]? = some v → W.cell? ((a.add (i * 3)).add j) = some v) (fun i hil => by
      obtain ⟨cs, h1, h2⟩ := hi i (by omega)
      rw [ten_c3] at h1
      have hlen := World.cells?_some h1
      have hblk := World.cells?_block h1 (by decide)
      rw [ad_block] at hblk
      obtain ⟨hln, hcell⟩ := hlen.2
      obtain ⟨c0, c1, c2, rfl⟩ : ∃ c0 c1 c2, cs = [c0, c1, c2] := by
        match cs, hln with
        | [a, b, c], _ => exact ⟨a, b, c, rfl⟩
      obtain ⟨t, rfl, rfl, rfl, hR⟩ := tensor_cells h2
      refine ⟨t, hblk, hR, fun j v hj => ?_⟩
      have hj2 : j < 3 := (List.getElem?_eq_some_iff.1 hj).1
      rw [hcell j hj2]
      exact hj)
    refine ⟨(List.range len).map f, by simp, fun hne => ?_, ?_, hl, by unfold maxLen at hm; omega⟩
    · have hpos : 0 < len := by
        rcases Nat.eq_zero_or_pos len with h0 | h0
        · subst h0
          exact absurd rfl hne
        · exact h0
      refine ⟨a, rfl, (hf 0 hpos).1, fun j v hj => ?_⟩
      have hjl : j < ((List.range len).map f).length * 3 := by
        rw [← flat_len Ten.vals 3 _ (fun _ _ => rfl)]
        exact (List.getElem?_eq_some_iff.1 hj).1
      rw [List.length_map, List.length_range] at hjl
      have hq : j / 3 < len := by omega
      have hg : ((List.range len).map f)[j / 3]? = some (f (j / 3)) := by
        rw [List.getElem?_map, List.getElem?_range hq]
        rfl
      have hj' := flat_at Ten.vals 3 _ (fun _ _ => rfl) (j / 3) _ hg (j % 3) (Nat.mod_lt _ (by decide))
      rw [show j / 3 * 3 + j % 3 = j by omega] at hj'
      rw [hj'] at hj
      have := (hf (j / 3) hq).2.2 (j % 3) v hj
      rw [Addr.add_add, show j / 3 * 3 + j % 3 = j by omega] at this
      exact this
    · intro d hd
      obtain ⟨i, hi', rfl⟩ := List.mem_map.1 hd
      exact (hf i (List.mem_range.1 hi')).2.1
end Go.Proofs.YthjnkaikjjjceaaDoor
namespace Go.Proofs.YthjnkaikjjjceaaDoor
open Go.RowKit
theorem ez_list {w : World} {es : List Addr} (h : Ez w es) : ∃ a0 a1 a2 a3 a4 a5 a6 a7 a8 a9 a10 a11 a12 a13 a14 a15 a16 a17 a18 a19 a20, es = [a0, a1, a2, a3, a4, a5, a6, a7, a8, a9, a10, a11, a12, a13, a14, a15, a16, a17, a18, a19, a20] := by
  obtain ⟨h, -, -⟩ := h
  match es, h with
  | [a0, a1, a2, a3, a4, a5, a6, a7, a8, a9, a10, a11, a12, a13, a14, a15, a16, a17, a18, a19, a20], _ => exact ⟨_, _, _, _, _, _, _, _, _, _, _, _, _, _, _, _, _, _, _, _, _, rfl⟩
set_option maxRecDepth 100000 in
theorem sentinels_c (es : List Addr) (w : World) (h : Ez w es) :
    Calls Tryd.prog 102 #[] w fun e w' => e = .returned (.slice (some ⟨w.heap.size, 0, none⟩) 21 21) ∧ w' = w.alloc (.cells (es.map errv).toArray 32) := by
  obtain ⟨a0, a1, a2, a3, a4, a5, a6, a7, a8, a9, a10, a11, a12, a13, a14, a15, a16, a17, a18, a19, a20, rfl⟩ := ez_list h
  have c0 : w.cell? ⟨4, 0, none⟩ = some (errv a0) := (h.2.2 0 _ _ rfl rfl).1
  have c1 : w.cell? ⟨2, 0, none⟩ = some (errv a1) := (h.2.2 1 _ _ rfl rfl).1
  have c2 : w.cell? ⟨0, 0, none⟩ = some (errv a2) := (h.2.2 2 _ _ rfl rfl).1
  have c3 : w.cell? ⟨1, 0, none⟩ = some (errv a3) := (h.2.2 3 _ _ rfl rfl).1
  have c4 : w.cell? ⟨3, 0, none⟩ = some (errv a4) := (h.2.2 4 _ _ rfl rfl).1
  have c5 : w.cell? ⟨5, 0, none⟩ = some (errv a5) := (h.2.2 5 _ _ rfl rfl).1
  have c6 : w.cell? ⟨6, 0, none⟩ = some (errv a6) := (h.2.2 6 _ _ rfl rfl).1
  have c7 : w.cell? ⟨7, 0, none⟩ = some (errv a7) := (h.2.2 7 _ _ rfl rfl).1
  have c8 : w.cell? ⟨8, 0, none⟩ = some (errv a8) := (h.2.2 8 _ _ rfl rfl).1
  have c9 : w.cell? ⟨9, 0, none⟩ = some (errv a9) := (h.2.2 9 _ _ rfl rfl).1
  have c10 : w.cell? ⟨10, 0, none⟩ = some (errv a10) := (h.2.2 10 _ _ rfl rfl).1
  have c11 : w.cell? ⟨11, 0, none⟩ = some (errv a11) := (h.2.2 11 _ _ rfl rfl).1
  have c12 : w.cell? ⟨12, 0, none⟩ = some (errv a12) := (h.2.2 12 _ _ rfl rfl).1
  have c13 : w.cell? ⟨13, 0, none⟩ = some (errv a13) := (h.2.2 13 _ _ rfl rfl).1
  have c14 : w.cell? ⟨14, 0, none⟩ = some (errv a14) := (h.2.2 14 _ _ rfl rfl).1
  have c15 : w.cell? ⟨15, 0, none⟩ = some (errv a15) := (h.2.2 15 _ _ rfl rfl).1
  have c16 : w.cell? ⟨16, 0, none⟩ = some (errv a16) := (h.2.2 16 _ _ rfl rfl).1
  have c17 : w.cell? ⟨17, 0, none⟩ = some (errv a17) := (h.2.2 17 _ _ rfl rfl).1
  have c18 : w.cell? ⟨18, 0, none⟩ = some (errv a18) := (h.2.2 18 _ _ rfl rfl).1
  have c19 : w.cell? ⟨19, 0, none⟩ = some (errv a19) := (h.2.2 19 _ _ rfl rfl).1
  have c20 : w.cell? ⟨20, 0, none⟩ = some (errv a20) := (h.2.2 20 _ _ rfl rfl).1
  clear h
  go_enter Tryd.func102, Tryd.ntmps102
  go_wp2_with fail
  go_ret
  exact ⟨rfl, rfl⟩
theorem comp_perrs : ∃ i j : TypeInfo, Tryd.prog.info? 154 = some i ∧ i.comparable = true ∧ Tryd.prog.info? 170 = some j ∧ j.size ≠ 0 := by
  obtain ⟨i, hi⟩ : ∃ i, Tryd.prog.info? 154 = some i := by
    refine Option.isSome_iff_exists.1 ?_
    kernel_rfl
  obtain ⟨j, hj⟩ : ∃ j, Tryd.prog.info? 170 = some j := by
    refine Option.isSome_iff_exists.1 ?_
    kernel_rfl
  have h1 : (Tryd.prog.info? 154).map (·.comparable) = some true := by kernel_rfl
  have h2 : (Tryd.prog.info? 170).map (·.size) = some 1 := by kernel_rfl
  rw [hi] at h1
  rw [hj] at h2
  refine ⟨i, j, hi, by simpa using h1, hj, ?_⟩
  have h3 : j.size = 1 := by simpa using h2
  rw [h3]
  decide
theorem run_eql_errs {w : World} {a b : Addr} (ha : ∃ c t, w.heap[a.block]? = some (.cells c t (0, 0))) (hb : ∃ c t, w.heap[b.block]? = some (.cells c t (0, 0))) :
    (binOp .eql 32 (errv a) (errv b)).run Tryd.prog w = .ok (.bool (decide (a = b))) w := by
  obtain ⟨i, j, hi, hc, hj, hs⟩ := comp_perrs
  by_cases h : a = b
  · subst h
    rw [decide_eq_true rfl]
    exact run_eql_iface_ptr_same w a und_err und_perrs hi hc hj
  · rw [decide_eq_false h]
    obtain ⟨ca, ta, ha⟩ := ha
    obtain ⟨cb, tb, hb⟩ := hb
    exact run_eql_iface_ptr_other w und_err und_perrs hi hc hj hs h ha hb
set_option maxRecDepth 100000 in
theorem alike_c (a b : Addr) (w : World) (ha : ∃ c t, w.heap[a.block]? = some (.cells c t (0, 0))) (hb : ∃ c t, w.heap[b.block]? = some (.cells c t (0, 0))) :
    Calls Tryd.prog 103 #[errv a, errv b] w fun e w' => e = .returned (.bool (decide (a = b))) ∧ w' = w := by
  have hr := run_eql_errs ha hb
  clear ha hb
  obtain ⟨d, hd⟩ : ∃ d, decide (a = b) = d := ⟨_, rfl⟩
  rw [hd] at hr ⊢
  clear hd
  go_enter Tryd.func103, Tryd.ntmps103
  go_wp2_with fail
  go_ret
  exact ⟨rfl, rfl⟩
end Go.Proofs.YthjnkaikjjjceaaDoor
namespace Go.Proofs.YthjnkaikjjjceaaDoor
open Go.RowKit
theorem err_row (es : List Addr) (w : World) (i : Nat) (b : Addr) (hb : es[i]? = some b) : (w.alloc (.cells (es.map errv).toArray 32)).cell? ⟨w.heap.size, 0 + i, none⟩ = some (errv b) := by
  rw [cell_of_row _ w.heap.size (0 + i) _ 32 (0, 0) (heap_alloc_new w _), Nat.zero_add]
  simp [hb]
set_option maxRecDepth 100000 in
theorem sentinel_c (es : List Addr) (j : Nat) (a : Addr) (hj : es[j]? = some a) (w : World) (h : Ez w es) :
    Calls Tryd.prog 83 #[errv a] w fun e w' => e = .returned (.int .i64 (101 + j)) ∧ Below w.heap.size w w' := by
  have hjl : j < 21 := by rw [← h.1]; exact (List.getElem?_eq_some_iff.1 hj).1
  have HS := hidE (sentinels_c es w h)
  have HE := hidE h
  have HJ := hidE hj
  obtain ⟨w1, hw1⟩ : ∃ w1, Hid (w.alloc (.cells (es.map errv).toArray 32) = w1) := ⟨_, hidE rfl⟩
  rw [hw1.out] at HS
  have HB : Hid (Below w.heap.size w w1) := hidE (by rw [← hw1.out]; exact (Below.refl _ w).alloc (Nat.le_refl _) _)
  clear h hj
  go_enter Tryd.func83, Tryd.ntmps83
  go_wp2_with fail
  refine HS.out.mono ?_
  rintro e w2 ⟨rfl, rfl⟩
  go_wp2_with fail
  go_loopw [4] (fun k wr => ∃ i : Nat, i ≤ j ∧ k = .int .i64 i ∧ wr = w2) (fun k _ => 21 - (intOf k).toNat)
  case atStart => exact ⟨0, by omega, rfl, rfl⟩
  case round =>
    obtain ⟨i, hi, rfl, rfl⟩ := hrel
    have hi21 : (i : Int) < 21 := by omega
    obtain ⟨b, hb⟩ : ∃ b, Hid (es[i]? = some b) := ⟨_, List.getElem?_eq_getElem (by rw [HE.out.1]; omega)⟩
    have hc : wr.cell? ⟨w.heap.size, i, none⟩ = some (errv b) := by
      rw [← hw1.out]
      have := err_row es w i b hb.out
      rwa [Nat.zero_add] at this
    have hal : Calls Tryd.prog 103 #[errv a, errv b] wr fun e w' => e = .returned (.bool (decide (a = b))) ∧ w' = wr := by
      have hg : ∀ (k : Nat) (c : Addr), es[k]? = some c → ∃ cs t, wr.heap[c.block]? = some (.cells cs t (0, 0)) := fun k c hk => by
        have hk21 : k < egs.length := by
          have := (List.getElem?_eq_some_iff.1 hk).1
          rw [HE.out.1] at this
          exact this
        exact ((HE.out.below HB.out).2.2 k _ c (List.getElem?_eq_getElem hk21) hk).2.2.2
      exact alike_c a b wr (hg j a HJ.out) (hg i b hb.out)
    have HAL := hidE hal
    clear hal
    by_cases hij : i = j
    · subst hij
      have hab : a = b := Option.some.inj (HJ.out.symm.trans hb.out)
      rw [decide_eq_true hab] at HAL
      clear hab
      go_wp2_with fail
      refine HAL.out.mono ?_
      rintro e w3 ⟨rfl, rfl⟩
      go_wp2_with fail
      go_ret
      exact ⟨rfl, HB.out⟩
    · have hab : ¬ a = b := fun hab => by
        subst hab
        obtain ⟨k1, e1⟩ := List.getElem?_eq_some_iff.1 HJ.out
        obtain ⟨k2, e2⟩ := List.getElem?_eq_some_iff.1 hb.out
        have hp := List.pairwise_iff_getElem.1 HE.out.2.1
        exact hp i j k2 k1 (by omega) (e2.trans e1.symm)
      rw [decide_eq_false hab] at HAL
      clear hab
      go_wp2_with fail
      refine HAL.out.mono ?_
      rintro e w3 ⟨rfl, rfl⟩
      go_wp2_with fail
      go_roundw
      case rel => exact ⟨i + 1, by omega, by go_num, trivial⟩
      case measure => simp [intOf]; omega
theorem run_notat (a : Addr) (w : World) : (Instr.typeAssert (errv a) 32 119 true).run Tryd.prog w = .ok (.tuple #[.pointer none, .bool false]) w := by kernel_rfl
/-- A fault as a value, with nothing around it. -/
abbrev fcells (k : Int) : Array Value := #[.int .i64 k, .bool false, .int .i64 0]
theorem fsize (k : Int) : (Tryd.prog.info? 42).map (·.size) = some (fcells k).size := by
  show _ = some 3
  kernel_rfl
theorem fone (k : Int) : (fcells k).all (·.oneCell') = true := by simp [Value.oneCell']
set_option maxRecDepth 100000 in
theorem bare_c (k : Int) (w : World) :
    Calls Tryd.prog 55 #[.int .i64 k] w fun e w' => e = .returned (.agg (fcells k)) ∧ Below w.heap.size w w' := by
  have hb1 := hidE ((Below.refl _ w).alloc (Nat.le_refl _) (Obj.cells (fcells 0) 42))
  have hz1 := hidE (heap_alloc_new w (Obj.cells (fcells 0) 42))
  go_enter Tryd.func55, Tryd.ntmps55
  go_wp2_with (refine wpList_store_row rfl 42 (.tmp 2) (.tmp 4) rfl w.heap.size (fcells k) rfl rfl _ _ hz1.out (fsize k) rfl (fone k) ?_)
  have hz2 := setRow_heap _ _ _ (fcells k) _ _ hz1.out
  have hb2 := below_setRow hb1.out (Nat.le_refl _) (fcells k)
  go_wp2_with fail
  refine bodyPost_ret (results_cell_row rfl _ _ w.heap.size 42 (fcells k) (0, 0) _ rfl hz2 Tryd.underlying42 rfl (fsize k)) rfl ?_
  exact ⟨rfl, hb2⟩
set_option maxRecDepth 100000 in
theorem fault_c (es : List Addr) (j : Nat) (a : Addr) (hj : es[j]? = some a) (w : World) (h : Ez w es) :
    Calls Tryd.prog 53 #[errv a] w fun e w' => e = .returned (.agg (fcells (101 + j))) ∧ Below w.heap.size w w' := by
  have hr := run_notat a
  have hb1 := (Below.refl _ w).alloc (Nat.le_refl _) (Obj.cells (fcells 0) 42)
  have HS := hidE (sentinel_c es j a hj _ (h.below hb1))
  clear h hj
  have HB1 := hidE hb1
  have HZ1 := hidE (heap_alloc_new w (Obj.cells (fcells 0) 42))
  clear hb1
  go_enter Tryd.func53, Tryd.ntmps53
  go_wp2_with fail
  refine HS.out.mono ?_
  rintro e w2 ⟨rfl, hb2⟩
  have HZ2 := hidE ((hb2.block w.heap.size (by simp)).trans HZ1.out)
  have HB2 := hidE (HB1.out.trans (hb2.mono (by simp)))
  clear hb2
  go_wp2_with fail
  refine (bare_c _ w2).mono ?_
  rintro e w3 ⟨rfl, hb3⟩
  have hlt : w.heap.size < w2.heap.size := by
    rcases Nat.lt_or_ge w.heap.size w2.heap.size with h' | h'
    · exact h'
    · have := HZ2.out
      rw [Array.getElem?_eq_none h'] at this; cases this
  have HZ3 := hidE ((hb3.block _ hlt).trans HZ2.out)
  have HB3 := hidE (HB2.out.trans (hb3.mono HB2.out.size))
  clear hb3 hlt
  go_wp2_with (refine wpList_store_row rfl 42 (.tmp 2) (.tmp 17) rfl w.heap.size (fcells (101 + j)) rfl rfl _ _ HZ3.out (fsize _) rfl (fone _) ?_)
  have hz4 := setRow_heap _ _ _ (fcells (101 + j)) _ _ HZ3.out
  have hb4 := below_setRow HB3.out (Nat.le_refl _) (fcells (101 + j))
  go_wp2_with fail
  refine bodyPost_ret (results_cell_row rfl _ _ w.heap.size 42 (fcells (101 + j)) (0, 0) _ rfl hz4 Tryd.underlying42 rfl (fsize _)) rfl ?_
  exact ⟨rfl, hb4⟩
set_option maxRecDepth 100000 in
theorem samefault_c (k c : Int) (w : World) :
    Calls Tryd.prog 52 #[.agg (fcells k), .agg (fcells c)] w fun e w' => e = .returned (.bool (decide (k = c))) ∧ Below w.heap.size w w' := by
  have HB1 := ((Below.refl _ w).alloc (Nat.le_refl _) (Obj.cells (fcells k) 42))
  have HB2 := hidE (HB1.alloc (by simp) (Obj.cells (fcells c) 42))
  clear HB1
  by_cases h : k = c
  · subst h
    go_enter Tryd.func52, Tryd.ntmps52
    go_wp2_with fail
    go_ret
    exact ⟨by simp, HB2.out⟩
  · have h' : (k == c) = false := by simp [h]
    go_enter Tryd.func52, Tryd.ntmps52
    go_wp2_with fail
    go_ret
    exact ⟨by simp [h], HB2.out⟩
end Go.Proofs.YthjnkaikjjjceaaDoor
