/-
  The elements of an operation of two: cells.pointwise, fill, Of. By an AI agent. No person has read it.
-/
import Derived.Test.YtkehdgjdieemkaaDoorElmD
namespace Go.Proofs.YtkehdgjdieemkaaDoor
open Go.RowKit

/-- What an operation makes of two lists. -/
def Elm.zip (op : Int) (u : Bool) (ds es : List Int) : List Int := List.zipWith (Elm.bin op u) ds es
theorem elm_block (a : Addr) (i : Nat) : (a.add i).block = a.block := by
  unfold Addr.add
  repeat' split
  all_goals rfl
set_option maxRecDepth 100000 in
set_option maxHeartbeats 8000000 in
theorem pointwise_two (op : Int) (ho : op = 4 ∨ op = 5 ∨ op = 6 ∨ op = 7) (ds es os : List Int) (P P2 D D2 : Option Addr) (n1 n3 cap cap2 dcap dcap2 : Nat) (u u2 : Bool) (g k : Nat) (w0 w : World)
    (hr : Ri w0 D ds) (hr2 : Ri w0 D2 es) (hB : Below w0.heap.size w0 w) (hg0 : w0.heap.size ≤ g) (hG : Has w g 3 (i64s os)) (hl : os.length = ds.length) (hl2 : es.length = ds.length) (hm : ds.length ≤ 1000000)
    (hk : Elm.Lies w k [.slice P n1 cap, .bool u, .slice D ds.length dcap, .slice P2 n3 cap2, .bool u2, .slice D2 ds.length dcap2]) :
    Calls Tryd.prog 102 #[.slice (some ⟨g, 0, none⟩) os.length os.length, .int .i64 0, .int .i64 op, .slice none 0 0, .slice (some ⟨k, 0, none⟩) 2 2] w fun e w' => e = .returned (.tuple #[]) ∧ Has w' g 3 (i64s (Elm.zip op u ds es)) ∧ Below w0.heap.size w0 w' := by
  have V := hide (fun x y => value_bin op ho u x y none 0 0)
  obtain ⟨r, hrr⟩ : ∃ r, Hid (Elm.zip op u ds es = r) := ⟨_, hide rfl⟩
  have hrl : Hid (r.length = ds.length) := hide (by rw [← hrr.out]; unfold Elm.zip; rw [List.length_zipWith]; omega)
  have hri : Hid (∀ (i : Nat) (x y : Int), ds[i]? = some x → es[i]? = some y → r[i]? = some (Elm.bin op u x y)) := hide (fun i x y hx hy => by
    rw [← hrr.out]
    unfold Elm.zip
    rw [List.getElem?_zipWith, hx, hy])
  rw [hrr.out]
  clear hrr ho
  obtain ⟨n, hn⟩ : ∃ n, Hid (ds.length = n) := ⟨_, hide rfl⟩
  rw [hl]
  rw [hn.out] at hl hl2 hm hk hrl ⊢
  have c0 : w.cell? ⟨k, 0, none⟩ = some (.slice P n1 cap) := hk.2 0 _ rfl
  have c1 : w.cell? ⟨k, 1, none⟩ = some (.bool u) := hk.2 1 _ rfl
  have c2 : w.cell? ⟨k, 2, none⟩ = some (.slice D n dcap) := hk.2 2 _ rfl
  have c3 : w.cell? ⟨k, 3, none⟩ = some (.slice P2 n3 cap2) := hk.2 3 _ rfl
  have c4 : w.cell? ⟨k, 4, none⟩ = some (.bool u2) := hk.2 4 _ rfl
  have c5 : w.cell? ⟨k, 5, none⟩ = some (.slice D2 n dcap2) := hk.2 5 _ rfl
  have hkl := hk.1
  have HA := hide hr
  have HA2 := hide hr2
  have hgl := hG.lt
  have HX := hide ((Has.new w 26 [.slice P n1 cap, .bool u, .slice D n dcap]).alloc (.cells #[.slice P2 n3 cap2, .bool u2, .slice D2 n dcap2] 26))
  have HY : Hid (Has ((w.alloc (.cells #[.slice P n1 cap, .bool u, .slice D n dcap] 26)).alloc (.cells #[.slice P2 n3 cap2, .bool u2, .slice D2 n dcap2] 26)) (w.heap.size + 1) 26 [.slice P2 n3 cap2, .bool u2, .slice D2 n dcap2]) := hide (by
    have h := Has.new (w.alloc (.cells #[.slice P n1 cap, .bool u, .slice D n dcap] 26)) 26 [.slice P2 n3 cap2, .bool u2, .slice D2 n dcap2]
    simpa using h)
  have HG := hide ((hG.alloc (.cells #[.slice P n1 cap, .bool u, .slice D n dcap] 26)).alloc (.cells #[.slice P2 n3 cap2, .bool u2, .slice D2 n dcap2] 26))
  have HB := hide ((hB.alloc hB.size (.cells #[.slice P n1 cap, .bool u, .slice D n dcap] 26)).alloc (by have := hB.size; simp; omega) (.cells #[.slice P2 n3 cap2, .bool u2, .slice D2 n dcap2] 26))
  have hsz := hB.size
  clear hk hr hr2 hG hB
  have HL := hide hl
  have HL2 := hide hl2
  clear hl hl2
  go_enter Tryd.func102, Tryd.ntmps102
  go_wp2_with fail
  generalize ((w.alloc (.cells #[.slice P n1 cap, .bool u, .slice D n dcap] 26)).alloc (.cells #[.slice P2 n3 cap2, .bool u2, .slice D2 n dcap2] 26)) = W at *
  clear c0 c1 c2 c3 c4 c5
  go_loopw [24] (fun k wr => ∃ (i : Nat) (xs : List Int), i ≤ n ∧ k = .int .i64 i ∧ Hid (xs.length = n) ∧ Hid (∀ j, j < i → xs[j]? = r[j]?) ∧ Hid (Has wr g 3 (i64s xs)) ∧ Hid (Has wr w.heap.size 26 [.slice P n1 cap, .bool u, .slice D n dcap]) ∧ Hid (Has wr (w.heap.size + 1) 26 [.slice P2 n3 cap2, .bool u2, .slice D2 n dcap2]) ∧ Hid (Below w0.heap.size w0 wr)) (fun k _ => n - (intOf k).toNat)
  case atStart => exact ⟨0, os, by omega, rfl, HL, hide (fun j hj => by omega), HG, HX, HY, HB⟩
  case round =>
    clear HG HX HY HB
    obtain ⟨i, xs, hi, rfl, HN, HI, HG, HX, HY, HB⟩ := hrel
    by_cases hlt : i < n
    · obtain ⟨ad, x, rfl, ex, cx⟩ := ri_at (HA.out.below HB.out) i (by rw [hn.out]; exact hlt)
      obtain ⟨bd, y, rfl, ey, cy⟩ := ri_at (HA2.out.below HB.out) i (by rw [HL2.out]; exact hlt)
      have him : (i : Int) < n := by omega
      have hi0 : (0 : Int) ≤ (i : Int) := by omega
      have hw2 : IntKind.i64.wrap (i : Int) = (i : Int) := by rw [IntKind.wrap_i64]; omega
      have hw1 : IntKind.i64.wrap (0 + (i : Int)) = (i : Int) := by rw [IntKind.wrap_i64]; omega
      have a1 : wr.cell? ⟨w.heap.size, 1, none⟩ = some (.bool u) := HX.out.cell 1
      have a2 : wr.cell? ⟨w.heap.size, 2, none⟩ = some (.slice (some ad) n dcap) := HX.out.cell 2
      have b2 : wr.cell? ⟨w.heap.size + 1, 2, none⟩ = some (.slice (some bd) n dcap2) := HY.out.cell 2
      have g1 : wr.cell? ⟨g, i, none⟩ = some (.int .i64 (xs[i]'(by rw [HN.out]; exact hlt))) := by
        rw [HG.out.cell]
        unfold i64s
        rw [List.getElem?_map, List.getElem?_eq_getElem (by rw [HN.out]; exact hlt)]
        rfl
      have gf := HG.out.frozen i
      have hv := hri.out i x y ex.out ey.out
      obtain ⟨v, hvv⟩ : ∃ v, Hid (Elm.bin op u x y = v) := ⟨_, hide rfl⟩
      have HV := hide (V.out x y)
      rw [hvv.out] at hv HV
      have HV2 := hide hv
      clear hv
      have hS0 : wr.drew.cell? ⟨w.heap.size, 1, none⟩ = some (.bool u) ∧ wr.drew.cell? ⟨w.heap.size, 2, none⟩ = some (.slice (some ad) n dcap) ∧ wr.drew.cell? ⟨w.heap.size + 1, 2, none⟩ = some (.slice (some bd) n dcap2) ∧ wr.drew.cell? (ad.add i) = some (.int .i64 x) ∧ wr.drew.cell? (bd.add i) = some (.int .i64 y) := ⟨a1, a2, b2, cx, cy⟩
      have hab : g ≠ ad.block := by
        obtain ⟨ad', h1, h2, -⟩ := HA.out.2 (by intro h; rw [h] at ex; have h := ex.out; simp at h)
        have h1 : ad = ad' := Option.some.inj h1
        subst h1
        omega
      have hbb : g ≠ bd.block := by
        obtain ⟨ad', h1, h2, -⟩ := HA2.out.2 (by intro h; rw [h] at ey; have h := ey.out; simp at h)
        have h1 : bd = ad' := Option.some.inj h1
        subst h1
        omega
      have hS1 : (wr.setCell ⟨g, i, none⟩ (.int .i64 v)).drew.cell? ⟨w.heap.size, 1, none⟩ = some (.bool u) ∧ (wr.setCell ⟨g, i, none⟩ (.int .i64 v)).drew.cell? ⟨w.heap.size, 2, none⟩ = some (.slice (some ad) n dcap) ∧ (wr.setCell ⟨g, i, none⟩ (.int .i64 v)).drew.cell? ⟨w.heap.size + 1, 2, none⟩ = some (.slice (some bd) n dcap2) ∧ (wr.setCell ⟨g, i, none⟩ (.int .i64 v)).drew.cell? (ad.add i) = some (.int .i64 x) ∧ (wr.setCell ⟨g, i, none⟩ (.int .i64 v)).drew.cell? (bd.add i) = some (.int .i64 y) :=
        ⟨(World.cell?_setCell_far wr _ _ _ (by simp; omega)).trans a1, (World.cell?_setCell_far wr _ _ _ (by simp; omega)).trans a2, (World.cell?_setCell_far wr _ _ _ (by simp; omega)).trans b2, (World.cell?_setCell_far wr _ _ _ (by rw [elm_block]; exact hab)).trans cx, (World.cell?_setCell_far wr _ _ _ (by rw [elm_block]; exact hbb)).trans cy⟩
      go_wp2_with fail
      go_region_held3 (fun W => W.cell? ⟨w.heap.size, 1, none⟩ = some (.bool u) ∧ W.cell? ⟨w.heap.size, 2, none⟩ = some (.slice (some ad) n dcap) ∧ W.cell? ⟨w.heap.size + 1, 2, none⟩ = some (.slice (some bd) n dcap2) ∧ W.cell? (ad.add i) = some (.int .i64 x) ∧ W.cell? (bd.add i) = some (.int .i64 y))
        (first | exact hS0 | exact hS1 | assumption)
        (first
          | (go_at_call 109; refine (HV.out _).mono ?_; rintro e W2 ⟨rfl, rfl⟩))
      go_wp2_with fail
      go_roundw
      case rel =>
        refine ⟨i + 1, xs.set i v, by omega, by go_num, hide (by rw [List.length_set]; exact HN.out), hide (fun j hj => ?_), ?_, ?_, ?_, ?_⟩
        · rw [List.getElem?_set]
          split
          · rename_i h
            subst h
            rw [if_pos (by rw [HN.out]; exact hlt), HV2.out]
          · exact HI.out j (by omega)
        · have h := (HG.out.set_ i (.int .i64 v)).drewN 1
          unfold i64s at h ⊢
          rw [List.map_set]
          exact hide h
        · exact hide (HX.out.far (by simp; omega) _)
        · exact hide (HY.out.far (by simp; omega) _)
        · exact hide (HB.out.setCell (p := ⟨g, i, none⟩) hg0 (.int .i64 v)).drew
      case measure => simp [intOf]; omega
    · obtain rfl : i = n := by omega
      have hx : xs = r := List.ext_getElem? (fun j => by
        rcases Nat.lt_or_ge j i with h | h
        · exact HI.out j h
        · rw [List.getElem?_eq_none (by rw [HN.out]; exact h), List.getElem?_eq_none (by rw [hrl.out]; exact h)])
      subst hx
      go_wp2_with fail
      refine bodyPost_end (results_none rfl _ _ _) rfl ?_
      exact ⟨rfl, HG.out, HB.out⟩
set_option maxRecDepth 100000 in
set_option maxHeartbeats 8000000 in
theorem fill_two (op : Int) (ho : op = 4 ∨ op = 5 ∨ op = 6 ∨ op = 7) (ds es os : List Int) (P P2 D D2 : Option Addr) (n1 n3 cap cap2 dcap dcap2 : Nat) (u u2 : Bool) (g k : Nat) (w0 w : World)
    (hr : Ri w0 D ds) (hr2 : Ri w0 D2 es) (hB : Below w0.heap.size w0 w) (hg0 : w0.heap.size ≤ g) (hG : Has w g 3 (i64s os)) (hl : os.length = ds.length) (hl2 : es.length = ds.length) (hm : ds.length ≤ 1000000)
    (hk : Elm.Lies w k [.slice P n1 cap, .bool u, .slice D ds.length dcap, .slice P2 n3 cap2, .bool u2, .slice D2 ds.length dcap2]) :
    Calls Tryd.prog 87 #[.slice (some ⟨g, 0, none⟩) os.length os.length, .int .i64 0, .int .i64 op, .slice none 0 0, .slice (some ⟨k, 0, none⟩) 2 2] w fun e w' => e = .returned (.tuple #[]) ∧ Has w' g 3 (i64s (Elm.zip op u ds es)) ∧ Below w0.heap.size w0 w' := by
  have V := hide (pointwise_two op ho ds es os P P2 D D2 n1 n3 cap cap2 dcap dcap2 u u2 g k w0 w hr hr2 hB hg0 hG hl hl2 hm hk)
  obtain ⟨n, hn⟩ : ∃ n, os.length = n := ⟨_, rfl⟩
  rw [hn] at V ⊢
  clear hn hr hr2 hB hG hl hl2 hm hk
  have e12 : op ≠ 12 := by omega
  have e13 : op ≠ 13 := by omega
  have e14 : op ≠ 14 := by omega
  have e15 : op ≠ 15 := by omega
  have e16 : op ≠ 16 := by omega
  have e17 : op ≠ 17 := by omega
  have e18 : op ≠ 18 := by omega
  have e19 : op ≠ 19 := by omega
  have e20 : op ≠ 20 := by omega
  have e21 : op ≠ 21 := by omega
  clear ho
  go_enter Tryd.func87, Tryd.ntmps87
  go_wp2_with fail
  refine V.out.mono ?_
  rintro e w1 ⟨rfl, h1, h2⟩
  go_wp2_with fail
  refine bodyPost_end (results_none rfl _ _ _) rfl ?_
  exact ⟨rfl, h1, h2⟩
end Go.Proofs.YtkehdgjdieemkaaDoor
