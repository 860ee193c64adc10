/-
  The elements of an operation element by element: cells.pointwise, fill, Of, for any such. By an AI agent. No person has read it.
-/
import Derived.Test.YtkehdgjdieemkaaDoorElmK
import Derived.Test.YtkehdgjdieemkaaDoorElmE
namespace Go.Proofs.YtkehdgjdieemkaaDoor
open Go.RowKit

/-- What an operation makes of two lists, from a place on, so many. -/
def Elm.part (op : Int) (u : Bool) (qs ds es : List Int) (f m : Nat) : List Int := (List.range m).map fun i => Elm.val op u (ds.getD (f + i) 0) (es.getD (f + i) 0) qs
theorem Elm.part_length (op : Int) (u : Bool) (qs ds es : List Int) (f m : Nat) : (Elm.part op u qs ds es f m).length = m := by simp [Elm.part]
theorem Elm.part_at (op : Int) (u : Bool) (qs ds es : List Int) (f m i : Nat) (x y : Int) (hi : i < m) (hx : ds[f + i]? = some x) (hy : es[f + i]? = some y) : (Elm.part op u qs ds es f m)[i]? = some (Elm.val op u x y qs) := by
  unfold Elm.part
  rw [List.getElem?_map, List.getElem?_range hi]
  simp only [Option.map_some, List.getD_eq_getElem?_getD, hx, hy, Option.getD_some]
theorem step_idx {w : World} {A : Option Addr} {xs : List Value} (h : Row w A xs) (hx : xs ≠ []) : ∃ ad, A = some ad ∧ ad.block < w.heap.size ∧ ∀ (j : Nat) (x : Value), xs[j]? = some x → w.cell? (ad.add j) = some x := h hx
set_option maxRecDepth 100000 in
set_option maxHeartbeats 8000000 in
theorem pointwise_c (op : Int) (ho : 4 ≤ op ∧ op ≤ 11) (qs os : List Int) (ts : List Ten) (a b : Ten) (hts : (ts = [a] ∧ b = a) ∨ ts = [a, b]) (A B : Option Addr) (qcap bcap ocap : Nat) (f g : Nat) (w0 w : World)
    (hql : qs.length = Elm.nargs op) (hQ : Ri w0 A qs) (ha : a.In w0) (hb : b.In w0) (hB : Below w0.heap.size w0 w) (hg0 : w0.heap.size ≤ g) (hG : Has w g 3 (i64s os)) (hl : f + os.length ≤ a.ds.length) (hl2 : f + os.length ≤ b.ds.length) (hR : Row w B (ts.flatMap Ten.vals)) :
    Calls Tryd.prog 102 #[.slice (some ⟨g, 0, none⟩) os.length ocap, .int .i64 f, .int .i64 op, .slice A qs.length qcap, .slice B ts.length bcap] w fun e w' => e = .returned (.tuple #[]) ∧ Has w' g 3 (i64s (Elm.part op a.u qs a.ds b.ds f os.length)) ∧ Below w0.heap.size w0 w' := by
  have V := hide (fun x y W (h : Below w0.heap.size w0 W) => value_c op ho a.u x y qs A qcap W hql (hQ.below h))
  obtain ⟨r, hrr⟩ : ∃ r, Hid (Elm.part op a.u qs a.ds b.ds f os.length = r) := ⟨_, hide rfl⟩
  have hrl : Hid (r.length = os.length) := hide (by rw [← hrr.out]; exact Elm.part_length _ _ _ _ _ _ _)
  have hri : Hid (∀ (i : Nat) (x y : Int), i < os.length → a.ds[f + i]? = some x → b.ds[f + i]? = some y → r[i]? = some (Elm.val op a.u x y qs)) := hide (fun i x y hi hx hy => by
    rw [← hrr.out]
    exact Elm.part_at _ _ _ _ _ _ _ _ _ _ hi hx hy)
  rw [hrr.out]
  clear hrr
  have HA := hide ha.dat
  have HA2 := hide hb.dat
  have hda := ha.ld
  have hdb := hb.ld
  obtain ⟨na, hna⟩ : ∃ n, Hid (a.ds.length = n) := ⟨_, hide rfl⟩
  obtain ⟨nb, hnb⟩ : ∃ n, Hid (b.ds.length = n) := ⟨_, hide rfl⟩
  obtain ⟨n, hn⟩ : ∃ n, Hid (os.length = n) := ⟨_, hide rfl⟩
  obtain ⟨nq, hnq⟩ : ∃ n, Hid (qs.length = n) := ⟨_, hide rfl⟩
  rw [hna.out] at hl hda
  rw [hnb.out] at hl2 hdb
  rw [hn.out] at hl hl2 hrl hri ⊢
  rw [hnq.out] at V ⊢
  have hwf : IntKind.i64.wrap (f : Int) = (f : Int) := by rw [IntKind.wrap_i64]; omega
  have hgl := hG.lt
  have hsz := hB.size
  have HX := hide ((Has.new w 26 a.vals).alloc (.cells b.vals.toArray 26))
  have HY : Hid (Has ((w.alloc (.cells a.vals.toArray 26)).alloc (.cells b.vals.toArray 26)) (w.heap.size + 1) 26 b.vals) := hide (by
    have h := Has.new (w.alloc (.cells a.vals.toArray 26)) 26 b.vals
    simpa using h)
  have HG := hide ((hG.alloc (.cells a.vals.toArray 26)).alloc (.cells b.vals.toArray 26))
  have HB := hide ((hB.alloc hB.size (.cells a.vals.toArray 26)).alloc (by have := hB.size; simp; omega) (.cells b.vals.toArray 26))
  unfold Ten.vals at HX HY HG HB
  rw [hna.out] at HX HY HG HB
  rw [hnb.out] at HX HY HG HB
  have HOL := hide hn.out
  have pre : ∃ ad, B = some ad ∧ ad.block < w.heap.size ∧ w.cell? ad = some (.slice a.P a.zs.length a.cap) ∧ w.cell? ⟨ad.block, ad.off + 1, none⟩ = some (.bool a.u) ∧ w.cell? ⟨ad.block, ad.off + 2, none⟩ = some (.slice a.D na a.dcap) ∧
      ((ts.length = 1 ∧ b = a ∧ nb = na) ∨ (ts.length = 2 ∧ w.cell? ⟨ad.block, ad.off + 3, none⟩ = some (.slice b.P b.zs.length b.cap) ∧ w.cell? ⟨ad.block, ad.off + 4, none⟩ = some (.bool b.u) ∧ w.cell? ⟨ad.block, ad.off + 5, none⟩ = some (.slice b.D nb b.dcap))) := by
    rcases hts with ⟨rfl, rfl⟩ | rfl
    · obtain ⟨ad, h1, h2, h3⟩ := hR (by simp [Ten.vals])
      have c0 := h3 0 _ rfl
      have c1 := h3 1 _ rfl
      have c2 := h3 2 _ rfl
      rw [Addr.add_zero'] at c0
      simp only [Addr.add, Nat.reduceEqDiff, if_false] at c1 c2
      rw [hna.out] at c2
      exact ⟨ad, h1, h2, c0, c1, c2, .inl ⟨rfl, rfl, hnb.out.symm.trans hna.out⟩⟩
    · obtain ⟨ad, h1, h2, h3⟩ := hR (by simp [Ten.vals])
      have c0 := h3 0 _ rfl
      have c1 := h3 1 _ rfl
      have c2 := h3 2 _ rfl
      have c3 := h3 3 _ rfl
      have c4 := h3 4 _ rfl
      have c5 := h3 5 _ rfl
      rw [Addr.add_zero'] at c0
      simp only [Addr.add, Nat.reduceEqDiff, if_false] at c1 c2 c3 c4 c5
      rw [hna.out] at c2
      rw [hnb.out] at c5
      exact ⟨ad, h1, h2, c0, c1, c2, .inr ⟨rfl, c3, c4, c5⟩⟩
  obtain ⟨ad0, rfl, hadl, c0, c1, c2, hrest⟩ := pre
  have HLA := hide hna.out
  have HLB := hide hnb.out
  clear hts hql hQ ha hb hB hG hR hn hna hnb
  rcases hrest with ⟨hl1, hab, hnn⟩ | ⟨hl1, c3, c4, c5⟩
  case' inl =>
    subst hab
    subst hnn
  all_goals
    rw [hl1]
    clear hl1
    go_enter Tryd.func102, Tryd.ntmps102
    go_wp2_with fail
  · generalize ((w.alloc (.cells #[.slice b.P b.zs.length b.cap, .bool b.u, .slice b.D nb b.dcap] 26)).alloc (.cells #[.slice b.P b.zs.length b.cap, .bool b.u, .slice b.D nb b.dcap] 26)) = W at *
    clear c0 c1 c2 hadl
    go_loopw [24] (fun k wr => ∃ (i : Nat) (xs : List Int), i ≤ n ∧ k = .int .i64 i ∧ Hid (xs.length = n) ∧ Hid (∀ j, j < i → xs[j]? = r[j]?) ∧ Hid (Has wr g 3 (i64s xs)) ∧ Hid (Has wr w.heap.size 26 [.slice b.P b.zs.length b.cap, .bool b.u, .slice b.D nb b.dcap]) ∧ Hid (Has wr (w.heap.size + 1) 26 [.slice b.P b.zs.length b.cap, .bool b.u, .slice b.D nb b.dcap]) ∧ Hid (Below w0.heap.size w0 wr)) (fun k _ => n - (intOf k).toNat)
    case atStart => exact ⟨0, os, by omega, rfl, HOL, hide (fun j hj => by omega), HG, HX, HY, HB⟩
    case round =>
      clear HG HX HY HB
      obtain ⟨i, xs, hi, rfl, HN, HI, HG, HX, HY, HB⟩ := hrel
      by_cases hlt : i < n
      · obtain ⟨ad, x, hAD, ex, cx⟩ := ri_at (HA.out.below HB.out) (f + i) (by rw [HLA.out]; omega)
        obtain ⟨bd, y, hBD, ey, cy⟩ := ri_at (HA2.out.below HB.out) (f + i) (by rw [HLB.out]; omega)
        have him : (i : Int) < n := by omega
        have hi0 : (0 : Int) ≤ (i : Int) := by omega
        have hw2 : IntKind.i64.wrap (i : Int) = (i : Int) := by rw [IntKind.wrap_i64]; omega
        obtain ⟨s, hs⟩ : ∃ s, Hid (f + i = s) := ⟨_, hide rfl⟩
        have hss := hs.out
        have hw1 : IntKind.i64.wrap ((f : Int) + (i : Int)) = (s : Int) := by rw [IntKind.wrap_i64]; omega
        have hfa : (s : Int) < nb := by omega
        have hfb : (s : Int) < nb := by omega
        have hf0 : (0 : Int) ≤ (s : Int) := by omega
        rw [hss] at cx cy
        clear hss
        have hv := hri.out i x y hlt ex.out ey.out
        have hab : g ≠ ad.block := by
          obtain ⟨ad', h1, h2, -⟩ := HA.out.2 (by intro h; rw [h] at ex; have h := ex.out; simp at h)
          rw [hAD] at h1
          have h1 : ad = ad' := Option.some.inj h1
          subst h1
          omega
        have hbb : g ≠ bd.block := by
          obtain ⟨ad', h1, h2, -⟩ := HA2.out.2 (by intro h; rw [h] at ey; have h := ey.out; simp at h)
          rw [hBD] at h1
          have h1 : bd = ad' := Option.some.inj h1
          subst h1
          omega
        rw [hAD] at HX
        rw [hBD] at HY
        have a1 : wr.cell? ⟨w.heap.size, 1, none⟩ = some (.bool b.u) := HX.out.cell 1
        have a2 : wr.cell? ⟨w.heap.size, 2, none⟩ = some (.slice (some ad) nb b.dcap) := HX.out.cell 2
        have b2 : wr.cell? ⟨w.heap.size + 1, 2, none⟩ = some (.slice (some bd) nb b.dcap) := HY.out.cell 2
        have g1 : wr.cell? ⟨g, i, none⟩ = some (.int .i64 (xs[i]'(by rw [HN.out]; exact hlt))) := by
          rw [HG.out.cell]
          unfold i64s
          rw [List.getElem?_map, List.getElem?_eq_getElem (by rw [HN.out]; exact hlt)]
          rfl
        have gf := HG.out.frozen i
        obtain ⟨v, hvv⟩ : ∃ v, Hid (Elm.val op b.u x y qs = v) := ⟨_, hide rfl⟩
        have HV := hide (V.out x y)
        rw [hvv.out] at hv HV
        have HV2 := hide hv
        have HBd := hide (show Below w0.heap.size w0 wr.drew from HB.out.drew)
        have HAD := hide hAD
        have HBD := hide hBD
        clear hv hAD hBD
        have hS0 : wr.drew.cell? ⟨w.heap.size, 1, none⟩ = some (.bool b.u) ∧ wr.drew.cell? ⟨w.heap.size, 2, none⟩ = some (.slice (some ad) nb b.dcap) ∧ wr.drew.cell? ⟨w.heap.size + 1, 2, none⟩ = some (.slice (some bd) nb b.dcap) ∧ wr.drew.cell? (ad.add s) = some (.int .i64 x) ∧ wr.drew.cell? (bd.add s) = some (.int .i64 y) := ⟨a1, a2, b2, cx, cy⟩
        have hS1 : ∀ k, ((wr.drewN (1 + k)).setCell ⟨g, i, none⟩ (.int .i64 v)).cell? ⟨w.heap.size, 1, none⟩ = some (.bool b.u) ∧ ((wr.drewN (1 + k)).setCell ⟨g, i, none⟩ (.int .i64 v)).cell? ⟨w.heap.size, 2, none⟩ = some (.slice (some ad) nb b.dcap) ∧ ((wr.drewN (1 + k)).setCell ⟨g, i, none⟩ (.int .i64 v)).cell? ⟨w.heap.size + 1, 2, none⟩ = some (.slice (some bd) nb b.dcap) ∧ ((wr.drewN (1 + k)).setCell ⟨g, i, none⟩ (.int .i64 v)).cell? (ad.add s) = some (.int .i64 x) ∧ ((wr.drewN (1 + k)).setCell ⟨g, i, none⟩ (.int .i64 v)).cell? (bd.add s) = some (.int .i64 y) := fun k =>
          ⟨(World.cell?_setCell_far (wr.drewN (1 + k)) _ _ _ (by simp; omega)).trans a1, (World.cell?_setCell_far (wr.drewN (1 + k)) _ _ _ (by simp; omega)).trans a2, (World.cell?_setCell_far (wr.drewN (1 + k)) _ _ _ (by simp; omega)).trans b2, (World.cell?_setCell_far (wr.drewN (1 + k)) _ _ _ (by rw [elm_block]; exact hab)).trans cx, (World.cell?_setCell_far (wr.drewN (1 + k)) _ _ _ (by rw [elm_block]; exact hbb)).trans cy⟩
        go_wp2_with fail
        go_region_held3 (fun W => W.cell? ⟨w.heap.size, 1, none⟩ = some (.bool b.u) ∧ W.cell? ⟨w.heap.size, 2, none⟩ = some (.slice (some ad) nb b.dcap) ∧ W.cell? ⟨w.heap.size + 1, 2, none⟩ = some (.slice (some bd) nb b.dcap) ∧ W.cell? (ad.add s) = some (.int .i64 x) ∧ W.cell? (bd.add s) = some (.int .i64 y))
          (first | exact hS0 | exact hS1 _ | assumption)
          (first
            | (go_at_call 109; refine (HV.out _ HBd.out).mono ?_; rintro e W2 ⟨rfl, kk, rfl⟩))
        go_wp2_with fail
        go_roundw
        case rel =>
          refine ⟨i + 1, xs.set i v, by omega, by go_num, hide (by rw [List.length_set]; exact HN.out), hide (fun j hj => ?_), ?_, ?_, ?_, ?_⟩
          · rw [List.getElem?_set]
            split
            · rename_i h
              subst h
              rw [if_pos (by rw [HN.out]; exact hlt), HV2.out]
            · exact HI.out j (by omega)
          · have h := (HG.out.drewN (1 + kk)).set_ i (.int .i64 v)
            unfold i64s at h ⊢
            rw [List.map_set]
            exact hide h
          · have h := hide ((HX.out.drewN (1 + kk)).far (p := ⟨g, i, none⟩) (by simp; omega) (.int .i64 v))
            rw [← HAD.out] at h
            exact h
          · have h := hide ((HY.out.drewN (1 + kk)).far (p := ⟨g, i, none⟩) (by simp; omega) (.int .i64 v))
            rw [← HBD.out] at h
            exact h
          · exact hide ((below_drewN HB.out (1 + kk)).setCell (p := ⟨g, i, none⟩) hg0 (.int .i64 v))
        case measure => simp [intOf]; omega
      · obtain rfl : i = n := by omega
        have hx : xs = r := List.ext_getElem? (fun j => by
          rcases Nat.lt_or_ge j i with h | h
          · exact HI.out j h
          · rw [List.getElem?_eq_none (by rw [HN.out]; exact h), List.getElem?_eq_none (by rw [hrl.out]; exact h)])
        subst hx
        go_wp2_with fail
        refine bodyPost_end (results_none rfl _ _ _) rfl ?_
        exact ⟨rfl, HG.out, HB.out⟩
  · generalize ((w.alloc (.cells #[.slice a.P a.zs.length a.cap, .bool a.u, .slice a.D na a.dcap] 26)).alloc (.cells #[.slice b.P b.zs.length b.cap, .bool b.u, .slice b.D nb b.dcap] 26)) = W at *
    clear c0 c1 c2 c3 c4 c5 hadl
    go_loopw [24] (fun k wr => ∃ (i : Nat) (xs : List Int), i ≤ n ∧ k = .int .i64 i ∧ Hid (xs.length = n) ∧ Hid (∀ j, j < i → xs[j]? = r[j]?) ∧ Hid (Has wr g 3 (i64s xs)) ∧ Hid (Has wr w.heap.size 26 [.slice a.P a.zs.length a.cap, .bool a.u, .slice a.D na a.dcap]) ∧ Hid (Has wr (w.heap.size + 1) 26 [.slice b.P b.zs.length b.cap, .bool b.u, .slice b.D nb b.dcap]) ∧ Hid (Below w0.heap.size w0 wr)) (fun k _ => n - (intOf k).toNat)
    case atStart => exact ⟨0, os, by omega, rfl, HOL, hide (fun j hj => by omega), HG, HX, HY, HB⟩
    case round =>
      clear HG HX HY HB
      obtain ⟨i, xs, hi, rfl, HN, HI, HG, HX, HY, HB⟩ := hrel
      by_cases hlt : i < n
      · obtain ⟨ad, x, hAD, ex, cx⟩ := ri_at (HA.out.below HB.out) (f + i) (by rw [HLA.out]; omega)
        obtain ⟨bd, y, hBD, ey, cy⟩ := ri_at (HA2.out.below HB.out) (f + i) (by rw [HLB.out]; omega)
        have him : (i : Int) < n := by omega
        have hi0 : (0 : Int) ≤ (i : Int) := by omega
        have hw2 : IntKind.i64.wrap (i : Int) = (i : Int) := by rw [IntKind.wrap_i64]; omega
        obtain ⟨s, hs⟩ : ∃ s, Hid (f + i = s) := ⟨_, hide rfl⟩
        have hss := hs.out
        have hw1 : IntKind.i64.wrap ((f : Int) + (i : Int)) = (s : Int) := by rw [IntKind.wrap_i64]; omega
        have hfa : (s : Int) < na := by omega
        have hfb : (s : Int) < nb := by omega
        have hf0 : (0 : Int) ≤ (s : Int) := by omega
        rw [hss] at cx cy
        clear hss
        have hv := hri.out i x y hlt ex.out ey.out
        have hab : g ≠ ad.block := by
          obtain ⟨ad', h1, h2, -⟩ := HA.out.2 (by intro h; rw [h] at ex; have h := ex.out; simp at h)
          rw [hAD] at h1
          have h1 : ad = ad' := Option.some.inj h1
          subst h1
          omega
        have hbb : g ≠ bd.block := by
          obtain ⟨ad', h1, h2, -⟩ := HA2.out.2 (by intro h; rw [h] at ey; have h := ey.out; simp at h)
          rw [hBD] at h1
          have h1 : bd = ad' := Option.some.inj h1
          subst h1
          omega
        rw [hAD] at HX
        rw [hBD] at HY
        have a1 : wr.cell? ⟨w.heap.size, 1, none⟩ = some (.bool a.u) := HX.out.cell 1
        have a2 : wr.cell? ⟨w.heap.size, 2, none⟩ = some (.slice (some ad) na a.dcap) := HX.out.cell 2
        have b2 : wr.cell? ⟨w.heap.size + 1, 2, none⟩ = some (.slice (some bd) nb b.dcap) := HY.out.cell 2
        have g1 : wr.cell? ⟨g, i, none⟩ = some (.int .i64 (xs[i]'(by rw [HN.out]; exact hlt))) := by
          rw [HG.out.cell]
          unfold i64s
          rw [List.getElem?_map, List.getElem?_eq_getElem (by rw [HN.out]; exact hlt)]
          rfl
        have gf := HG.out.frozen i
        obtain ⟨v, hvv⟩ : ∃ v, Hid (Elm.val op a.u x y qs = v) := ⟨_, hide rfl⟩
        have HV := hide (V.out x y)
        rw [hvv.out] at hv HV
        have HV2 := hide hv
        have HBd := hide (show Below w0.heap.size w0 wr.drew from HB.out.drew)
        have HAD := hide hAD
        have HBD := hide hBD
        clear hv hAD hBD
        have hS0 : wr.drew.cell? ⟨w.heap.size, 1, none⟩ = some (.bool a.u) ∧ wr.drew.cell? ⟨w.heap.size, 2, none⟩ = some (.slice (some ad) na a.dcap) ∧ wr.drew.cell? ⟨w.heap.size + 1, 2, none⟩ = some (.slice (some bd) nb b.dcap) ∧ wr.drew.cell? (ad.add s) = some (.int .i64 x) ∧ wr.drew.cell? (bd.add s) = some (.int .i64 y) := ⟨a1, a2, b2, cx, cy⟩
        have hS1 : ∀ k, ((wr.drewN (1 + k)).setCell ⟨g, i, none⟩ (.int .i64 v)).cell? ⟨w.heap.size, 1, none⟩ = some (.bool a.u) ∧ ((wr.drewN (1 + k)).setCell ⟨g, i, none⟩ (.int .i64 v)).cell? ⟨w.heap.size, 2, none⟩ = some (.slice (some ad) na a.dcap) ∧ ((wr.drewN (1 + k)).setCell ⟨g, i, none⟩ (.int .i64 v)).cell? ⟨w.heap.size + 1, 2, none⟩ = some (.slice (some bd) nb b.dcap) ∧ ((wr.drewN (1 + k)).setCell ⟨g, i, none⟩ (.int .i64 v)).cell? (ad.add s) = some (.int .i64 x) ∧ ((wr.drewN (1 + k)).setCell ⟨g, i, none⟩ (.int .i64 v)).cell? (bd.add s) = some (.int .i64 y) := fun k =>
          ⟨(World.cell?_setCell_far (wr.drewN (1 + k)) _ _ _ (by simp; omega)).trans a1, (World.cell?_setCell_far (wr.drewN (1 + k)) _ _ _ (by simp; omega)).trans a2, (World.cell?_setCell_far (wr.drewN (1 + k)) _ _ _ (by simp; omega)).trans b2, (World.cell?_setCell_far (wr.drewN (1 + k)) _ _ _ (by rw [elm_block]; exact hab)).trans cx, (World.cell?_setCell_far (wr.drewN (1 + k)) _ _ _ (by rw [elm_block]; exact hbb)).trans cy⟩
        go_wp2_with fail
        go_region_held3 (fun W => W.cell? ⟨w.heap.size, 1, none⟩ = some (.bool a.u) ∧ W.cell? ⟨w.heap.size, 2, none⟩ = some (.slice (some ad) na a.dcap) ∧ W.cell? ⟨w.heap.size + 1, 2, none⟩ = some (.slice (some bd) nb b.dcap) ∧ W.cell? (ad.add s) = some (.int .i64 x) ∧ W.cell? (bd.add s) = some (.int .i64 y))
          (first | exact hS0 | exact hS1 _ | assumption)
          (first
            | (go_at_call 109; refine (HV.out _ HBd.out).mono ?_; rintro e W2 ⟨rfl, kk, rfl⟩))
        go_wp2_with fail
        go_roundw
        case rel =>
          refine ⟨i + 1, xs.set i v, by omega, by go_num, hide (by rw [List.length_set]; exact HN.out), hide (fun j hj => ?_), ?_, ?_, ?_, ?_⟩
          · rw [List.getElem?_set]
            split
            · rename_i h
              subst h
              rw [if_pos (by rw [HN.out]; exact hlt), HV2.out]
            · exact HI.out j (by omega)
          · have h := (HG.out.drewN (1 + kk)).set_ i (.int .i64 v)
            unfold i64s at h ⊢
            rw [List.map_set]
            exact hide h
          · have h := hide ((HX.out.drewN (1 + kk)).far (p := ⟨g, i, none⟩) (by simp; omega) (.int .i64 v))
            rw [← HAD.out] at h
            exact h
          · have h := hide ((HY.out.drewN (1 + kk)).far (p := ⟨g, i, none⟩) (by simp; omega) (.int .i64 v))
            rw [← HBD.out] at h
            exact h
          · exact hide ((below_drewN HB.out (1 + kk)).setCell (p := ⟨g, i, none⟩) hg0 (.int .i64 v))
        case measure => simp [intOf]; omega
      · obtain rfl : i = n := by omega
        have hx : xs = r := List.ext_getElem? (fun j => by
          rcases Nat.lt_or_ge j i with h | h
          · exact HI.out j h
          · rw [List.getElem?_eq_none (by rw [HN.out]; exact h), List.getElem?_eq_none (by rw [hrl.out]; exact h)])
        subst hx
        go_wp2_with fail
        refine bodyPost_end (results_none rfl _ _ _) rfl ?_
        exact ⟨rfl, HG.out, HB.out⟩
set_option maxRecDepth 100000 in
set_option maxHeartbeats 8000000 in
theorem fill_c (op : Int) (ho : 4 ≤ op ∧ op ≤ 11) (qs os : List Int) (ts : List Ten) (a b : Ten) (hts : (ts = [a] ∧ b = a) ∨ ts = [a, b]) (A B : Option Addr) (qcap bcap ocap : Nat) (f g : Nat) (w0 w : World)
    (hql : qs.length = Elm.nargs op) (hQ : Ri w0 A qs) (ha : a.In w0) (hb : b.In w0) (hB : Below w0.heap.size w0 w) (hg0 : w0.heap.size ≤ g) (hG : Has w g 3 (i64s os)) (hl : f + os.length ≤ a.ds.length) (hl2 : f + os.length ≤ b.ds.length) (hR : Row w B (ts.flatMap Ten.vals)) :
    Calls Tryd.prog 87 #[.slice (some ⟨g, 0, none⟩) os.length ocap, .int .i64 f, .int .i64 op, .slice A qs.length qcap, .slice B ts.length bcap] w fun e w' => e = .returned (.tuple #[]) ∧ Has w' g 3 (i64s (Elm.part op a.u qs a.ds b.ds f os.length)) ∧ Below w0.heap.size w0 w' := by
  have V := hide (pointwise_c op ho qs os ts a b hts A B qcap bcap ocap f g w0 w hql hQ ha hb hB hg0 hG hl hl2 hR)
  obtain ⟨n, hn⟩ : ∃ n, os.length = n := ⟨_, rfl⟩
  obtain ⟨nq, hnq⟩ : ∃ n, qs.length = n := ⟨_, rfl⟩
  obtain ⟨nt, hnt⟩ : ∃ n, ts.length = n := ⟨_, rfl⟩
  rw [hn, hnq, hnt] at V
  rw [hn, hnq, hnt]
  clear hn hnq hnt hts hql hQ ha hb hB hG hl hl2 hR
  have e12 : op ≠ 12 := by omega
  have e13 : op ≠ 13 := by omega
  have e14 : op ≠ 14 := by omega
  have e15 : op ≠ 15 := by omega
  have e16 : op ≠ 16 := by omega
  have e17 : op ≠ 17 := by omega
  have e18 : op ≠ 18 := by omega
  have e19 : op ≠ 19 := by omega
  have e20 : op ≠ 20 := by omega
  have e21 : op ≠ 21 := by omega
  clear ho
  go_enter Tryd.func87, Tryd.ntmps87
  go_wp2_with fail
  refine V.out.mono ?_
  rintro e w1 ⟨rfl, h1, h2⟩
  go_wp2_with fail
  refine bodyPost_end (results_none rfl _ _ _) rfl ?_
  exact ⟨rfl, h1, h2⟩
set_option maxRecDepth 100000 in
set_option maxHeartbeats 8000000 in
theorem cof_c (op : Int) (ho : 4 ≤ op ∧ op ≤ 11) (qs : List Int) (ts : List Ten) (a b : Ten) (hts : (ts = [a] ∧ b = a) ∨ ts = [a, b]) (A B : Option Addr) (qcap bcap : Nat) (f n : Nat) (w : World)
    (hql : qs.length = Elm.nargs op) (hQ : Ri w A qs) (ha : a.In w) (hb : b.In w) (hl : f + n ≤ a.ds.length) (hl2 : f + n ≤ b.ds.length) (hR : Row w B (ts.flatMap Ten.vals)) :
    Calls Tryd.prog 70 #[.int .i64 op, .slice A qs.length qcap, .int .i64 f, .int .i64 ((f + n : Nat) : Int), .slice B ts.length bcap] w fun e w' => (∃ g, e = .returned (.slice (some ⟨g, 0, none⟩) n n) ∧ w.heap.size ≤ g ∧ Has w' g 3 (i64s (Elm.part op a.u qs a.ds b.ds f n))) ∧ Below w.heap.size w w' := by
  have hm : n ≤ 1000000 := by have := ha.ld; omega
  obtain ⟨Z, hZ, hmk⟩ := made_ints n hm
  have hG : Has (w.alloc (.cells Z 3)) w.heap.size 3 (i64s (List.replicate n 0)) := by
    rw [hZ.out]
    exact Has.new w _ _
  have hB := (Below.refl w.heap.size w).alloc (Nat.le_refl _) (.cells Z 3)
  have h := fill_c op ho qs (List.replicate n 0) ts a b hts A B qcap bcap n f w.heap.size w _ hql hQ ha hb hB (Nat.le_refl _) hG (by rw [List.length_replicate]; exact hl) (by rw [List.length_replicate]; exact hl2) (hR.below hB)
  rw [List.length_replicate] at h
  have V := hide h
  have hfm : f + n ≤ 1000000 := by have := ha.ld; omega
  obtain ⟨nq, hnq⟩ : ∃ n, qs.length = n := ⟨_, rfl⟩
  obtain ⟨nt, hnt⟩ : ∃ n, ts.length = n := ⟨_, rfl⟩
  rw [hnq, hnt] at V
  rw [hnq, hnt]
  clear hnq hnt hG hB h hl2 hl ho hZ hts hql hQ ha hb hR
  have hw1 : IntKind.i64.wrap (((f + n : Nat) : Int) - (f : Int)) = (n : Int) := by rw [IntKind.wrap_i64]; omega
  have hw0 : wrap64 (((f + n : Nat) : Int) - (f : Int)) = (n : Int) := by unfold wrap64; omega
  obtain ⟨s, hs⟩ : ∃ s, Hid (((f + n : Nat) : Int) = s) := ⟨_, hide rfl⟩
  rw [hs.out] at hw1 hw0 ⊢
  clear hs hfm
  go_enter Tryd.func70, Tryd.ntmps70
  go_wp2_with fail
  refine V.out.mono ?_
  rintro e w1 ⟨rfl, h1, h2⟩
  go_wp2_with fail
  go_ret
  exact ⟨⟨_, rfl, Nat.le_refl _, h1⟩, h2⟩
end Go.Proofs.YtkehdgjdieemkaaDoor
