/-
  cells.gather, walked. By an AI agent. No person has read it.
-/
import Derived.Test.YtcgjnjchkachdaaDoorSftC
namespace Go.Proofs.YtcgjnjchkachdaaDoor
open Go.RowKit

/-- What is held in a region: 4 cells. -/
abbrev SfC4 (p0 p1 p2 p3 : Addr) (v0 v1 v2 v3 : Value) (W : World) : Prop := W.cell? p0 = some v0 ∧ W.cell? p1 = some v1 ∧ W.cell? p2 = some v2 ∧ W.cell? p3 = some v3
theorem SfC4.keep {p0 p1 p2 p3 : Addr} {v0 v1 v2 v3 : Value} {W W' : World} (h : SfC4 p0 p1 p2 p3 v0 v1 v2 v3 W) (l0 : p0.block < W.heap.size) (l1 : p1.block < W.heap.size) (l2 : p2.block < W.heap.size) (l3 : p3.block < W.heap.size) (hB : Below W.heap.size W W') : SfC4 p0 p1 p2 p3 v0 v1 v2 v3 W' := by
  obtain ⟨h0, h1, h2, h3⟩ := h
  exact ⟨(hB.cell l0).trans h0, (hB.cell l1).trans h1, (hB.cell l2).trans h2, (hB.cell l3).trans h3⟩
theorem SfC4.far {p0 p1 p2 p3 : Addr} {v0 v1 v2 v3 : Value} {W : World} (h : SfC4 p0 p1 p2 p3 v0 v1 v2 v3 W) {b : Nat} (l0 : b ≠ p0.block) (l1 : b ≠ p1.block) (l2 : b ≠ p2.block) (l3 : b ≠ p3.block) (j : Nat) (x : Value) : SfC4 p0 p1 p2 p3 v0 v1 v2 v3 (W.setCell ⟨b, j, none⟩ x) := by
  obtain ⟨h0, h1, h2, h3⟩ := h
  have f : ∀ (p : Addr) (v : Value), b ≠ p.block → W.cell? p = some v → (W.setCell ⟨b, j, none⟩ x).cell? p = some v := fun p v hn hc => by
    rw [World.cell?_setCell_far _ _ _ _ (by exact hn)]
    exact hc
  exact ⟨f _ _ l0 h0, f _ _ l1 h1, f _ _ l2 h2, f _ _ l3 h3⟩
theorem SfC4.drew {p0 p1 p2 p3 : Addr} {v0 v1 v2 v3 : Value} {W : World} (h : SfC4 p0 p1 p2 p3 v0 v1 v2 v3 W) : SfC4 p0 p1 p2 p3 v0 v1 v2 v3 W.drew := h
/-- A number, cut to a place; an element of rows that are gathered. -/
def Sf.cut (y : Int) (N : Nat) : Nat := (max 0 (min y ((N : Int) - 1))).toNat
theorem Sf.cut_lt (y : Int) (N : Nat) (h : 1 ≤ N) : Sf.cut y N < N := by unfold Sf.cut; omega
theorem Sf.cut_is (y : Int) (N : Nat) (h : 1 ≤ N) : max 0 (min y ((N : Int) - 1)) = (Sf.cut y N : Int) := by unfold Sf.cut; omega
def Sf.gath (xs ys : List Int) (N d i : Nat) : Int := (Sf.row xs d (Sf.cut (ys.getD (i / d) 0) N)).getD (i % d) 0
set_option maxRecDepth 100000 in
set_option maxHeartbeats 4000000 in
theorem sgather_c (os : List Int) (a b : Ten) (N d T ocap f g : Nat) (w0 w : World) (hR : Sf.Rows a 2 N d) (hzN : a.zs[0]? = some (N : Int)) (hN1 : 1 ≤ N) (hN2 : N ≤ 256) (ha : a.In w0) (hb : b.In w0) (hT : b.ds.length = T) (hB : Below w0.heap.size w0 w) (hg0 : w0.heap.size ≤ g) (hG : Has w g 3 (i64s os)) (hf : f + os.length ≤ T * d) (hm : T * d ≤ 1000000) :
    Calls Tryd.prog 142 #[.slice (some ⟨g, 0, none⟩) os.length ocap, .int .i64 f, .agg (tcells a.P a.zs.length a.cap a.u a.D a.ds.length a.dcap), .agg (tcells b.P b.zs.length b.cap b.u b.D b.ds.length b.dcap)] w fun e w' => e = .returned (.tuple #[]) ∧ Has w' g 3 (i64s (Sf.part (Sf.gath a.ds b.ds N d) f os.length)) ∧ Below w0.heap.size w0 w' := by
  obtain ⟨r, hrr⟩ : ∃ r, Hid (Sf.part (Sf.gath a.ds b.ds N d) f os.length = r) := ⟨_, hide rfl⟩
  have hrl : Hid (r.length = os.length) := hide (by rw [← hrr.out]; exact Sf.part_length _ _ _)
  have hri : Hid (∀ i, i < os.length → r[i]? = some (Sf.gath a.ds b.ds N d (f + i))) := hide (fun i hi => by
    rw [← hrr.out]
    exact Sf.part_at _ _ _ _ hi)
  rw [hrr.out]
  clear hrr
  have HRO := hide (fun (W : World) (hW : Below w0.heap.size w0 W) (i : Nat) (hi : i < N) => srow_d a 2 N d i hR hi W (ha.below hW))
  have HRI := hide (fun (W : World) (hW : Below w0.heap.size w0 W) (i : Nat) (hi : i < N) => srow_ri a 2 N d i hR hi W (ha.below hW))
  have HLE : Hid (∀ i, i < N → (Sf.row a.ds d i).length = d) := hide (fun i hi => Sf.row_length a.ds d i N hi hR.len)
  have HBD := hide (fun (W : World) (hW : Below w0.heap.size w0 W) => hb.dat.below hW)
  have HD1 := hide (And.intro hR.n1 hR.n2)
  have HN := hide (And.intro hN1 hN2)
  have hdpos : 0 < d := HD1.out.1
  obtain ⟨q, hn⟩ : ∃ n, Hid (os.length = n) := ⟨_, hide rfl⟩
  have HF : Hid (f + q ≤ T * d) := hide (by rw [← hn.out]; exact hf)
  have HM := hide hm
  have hnbd : (q : Int) ≤ 1000000 := by have := HF.out; omega
  rw [hn.out]
  rw [hn.out] at hrl hri
  have HOL := hide hn.out
  obtain ⟨pa', z0, hPA', ez0, ca0⟩ := ri_at (ha.shp.below hB) 0 (by rw [hR.zl]; omega)
  obtain ⟨pa, z1, hPA, ez1, ca1⟩ := ri_at (ha.shp.below hB) 1 (by rw [hR.zl]; omega)
  obtain rfl : pa' = pa := Option.some.inj (hPA'.symm.trans hPA)
  have hz0 : z0 = N := by have h := ez0.out; rw [hzN] at h; exact (Option.some.inj h).symm
  have hz1 : z1 = d := by have h := ez1.out; have h2 := hR.last; rw [show (2 : Nat) - 1 = 1 from rfl, h] at h2; exact Option.some.inj h2
  subst hz0 hz1
  have hza : a.zs.length = 2 := hR.zl
  obtain ⟨na, hna⟩ : ∃ n, Hid (a.ds.length = n) := ⟨_, hide rfl⟩
  obtain ⟨zb, hzb⟩ : ∃ n, Hid (b.zs.length = n) := ⟨_, hide rfl⟩
  obtain ⟨nb, hnb⟩ : ∃ n, Hid (b.ds.length = n) := ⟨_, hide rfl⟩
  have HTB : Hid (nb = T) := hide (by rw [← hnb.out, hT])
  unfold tcells at HRO ⊢
  rw [hza, hna.out] at HRO ⊢
  rw [hzb.out, hnb.out]
  rw [hPA] at HRO ⊢
  obtain ⟨W, hW⟩ : ∃ W, W = (w.alloc (.cells #[.slice (some pa') 2 a.cap, .bool a.u, .slice a.D na a.dcap] 26)).alloc (.cells #[.slice b.P zb b.cap, .bool b.u, .slice b.D nb b.dcap] 26) := ⟨_, rfl⟩
  have HX : Hid (Has W w.heap.size 26 [.slice (some pa') 2 a.cap, .bool a.u, .slice a.D na a.dcap]) := hide (by rw [hW]; exact (Has.new w 26 [.slice (some pa') 2 a.cap, .bool a.u, .slice a.D na a.dcap]).alloc _)
  have HY : Hid (Has W (w.heap.size + 1) 26 [.slice b.P zb b.cap, .bool b.u, .slice b.D nb b.dcap]) := hide (by rw [hW]; exact box_at _ 26 [.slice b.P zb b.cap, .bool b.u, .slice b.D nb b.dcap] _ (by simp))
  have HG : Hid (Has W g 3 (i64s os)) := hide (by rw [hW]; exact (hG.alloc _).alloc _)
  have HBw : Below w.heap.size w W := by rw [hW]; exact ((Below.refl w.heap.size w).alloc (Nat.le_refl _) _).alloc (by simp) _
  have HB := hide (hB.trans (HBw.mono hB.size))
  have hgl := hG.lt
  have hsz := hB.size
  have hpl : pa'.block < w.heap.size := by
    obtain ⟨ad', h1, h2, -⟩ := (ha.shp.below hB).2 (by intro h; rw [h] at hza; simp at hza)
    rw [hPA] at h1
    rw [Option.some.inj h1]
    exact h2
  have cw0 : W.cell? pa' = some (.int .i64 N) := by
    have h := (HBw.cell (by rw [elm_block]; exact hpl)).trans ca0
    rw [Addr.add_zero'] at h
    exact h
  have cw1 : W.cell? (pa'.add 1) = some (.int .i64 d) := (HBw.cell (by rw [elm_block]; exact hpl)).trans ca1
  simp only [Addr.add, Nat.reduceEqDiff, if_false] at cw1
  have x0 : W.cell? ⟨w.heap.size, 0, none⟩ = some (.slice (some pa') 2 a.cap) := HX.out.cell 0
  have HW := hide hW
  clear ha hb hB hG hf hW HBw hm hn hza hna hzb hR hPA hPA' ez0 ez1 ca0 ca1 hpl hzN hT hN1 hN2
  go_enter Tryd.func142, Tryd.ntmps142
  go_wp2_with fail
  rw [← HW.out]
  clear HW
  go_quiet (fail)
  clear cw0 cw1 x0
  replace HX := hide (HX.out.drewN nq)
  replace HY := hide (HY.out.drewN nq)
  replace HG := hide (HG.out.drewN nq)
  replace HB := hide (below_drewN HB.out nq)
  generalize W.drewN nq = W2 at *
  go_wp2_with fail
  go_loopg [24] q (fun gq kk wr => ∃ (i : Nat) (xs : List Int), gq + i = q ∧ kk = .int .i64 i ∧ Hid (xs.length = q) ∧ Hid (∀ j, j < i → xs[j]? = r[j]?) ∧ Hid (Has wr g 3 (i64s xs)) ∧ Hid (Has wr w.heap.size 26 [.slice (some pa') 2 a.cap, .bool a.u, .slice a.D na a.dcap]) ∧ Hid (Has wr (w.heap.size + 1) 26 [.slice b.P zb b.cap, .bool b.u, .slice b.D nb b.dcap]) ∧ Hid (Below w0.heap.size w0 wr))
  case atStart => exact ⟨0, os, by omega, rfl, HOL, hide (fun j hj => by omega), HG, HX, HY, HB⟩
  case round =>
    clear HG HX HY HB
    obtain ⟨i, xs, hi, rfl, HXN, HI, HG, HX, HY, HB⟩ := hrel
    by_cases hlt : i < q
    · have him : (i : Int) < q := by omega
      have hi0 : (0 : Int) ≤ (i : Int) := by omega
      obtain ⟨s, hs⟩ : ∃ s, Hid (f + i = s) := ⟨_, hide rfl⟩
      have Hs2 : Hid (s < T * d ∧ s ≤ 1000000) := hide (by have := HM.out; have := HF.out; have := hs.out; omega)
      have hw1 : IntKind.i64.wrap ((f : Int) + (i : Int)) = (s : Int) := by have := Hs2.out; have := hs.out; rw [IntKind.wrap_i64]; omega
      obtain ⟨R, hRr⟩ : ∃ x, Hid (s / d = x) := ⟨_, hide rfl⟩
      obtain ⟨O, hO⟩ : ∃ x, Hid (s % d = x) := ⟨_, hide rfl⟩
      have HRn : Hid (R < nb) := hide (by rw [HTB.out, ← hRr.out]; exact Nat.div_lt_of_lt_mul (by rw [Nat.mul_comm]; exact Hs2.out.1))
      have HOn : Hid (O < d) := hide (by rw [← hO.out]; exact Nat.mod_lt _ hdpos)
      have HRs : Hid (R ≤ s) := hide (by rw [← hRr.out]; exact Nat.div_le_self _ _)
      have hd0 : ¬ ((d : Int) = 0) := by omega
      have hd2 : ¬ d = 0 := by omega
      have hq1 : wrap64 ((s : Int) / (d : Int)) = (R : Int) := by
        rw [show (s : Int) / (d : Int) = (R : Int) by rw [← hRr.out]; exact (Int.natCast_ediv s d).symm]
        have := HRs.out
        have := Hs2.out
        unfold wrap64
        omega
      have hr1 : (s : Int) % (d : Int) = (O : Int) := by rw [← hO.out]; exact (Int.natCast_emod s d).symm
      have HR1 := hide hr1
      clear hr1
      obtain ⟨bd, y, hBD, ey, cy⟩ := ri_at (HBD.out _ HB.out) R (by rw [hnb.out]; exact HRn.out)
      have HYv : Hid (b.ds.getD R 0 = y) := hide (by rw [List.getD_eq_getElem?_getD, ey.out]; rfl)
      have HYb := HY
      rw [hBD] at HYb
      have y2 : wr.cell? ⟨w.heap.size + 1, 2, none⟩ = some (.slice (some bd) nb b.dcap) := HYb.out.cell 2
      obtain ⟨k, hk⟩ : ∃ x, Hid (Sf.cut y N = x) := ⟨_, hide rfl⟩
      have HKN : Hid (k < N) := hide (by rw [← hk.out]; exact Sf.cut_lt y N HN.out.1)
      obtain ⟨c1, hc1⟩ : ∃ x, Hid (min y ((N : Int) - 1) = x) := ⟨_, hide rfl⟩
      have HC1 : Hid (max 0 c1 = (k : Int)) := hide (by rw [← hc1.out, ← hk.out]; exact Sf.cut_is y N HN.out.1)
      have m1 : (if y < (N : Int) - 1 then y else (N : Int) - 1) = c1 := by have := hc1.out; split <;> omega
      have m2 : (if (N : Int) - 1 < y then (N : Int) - 1 else y) = c1 := by have := hc1.out; split <;> omega
      have m3 : (if 0 < c1 then c1 else 0) = (k : Int) := by have := HC1.out; split <;> omega
      have m4 : (if c1 < 0 then 0 else c1) = (k : Int) := by have := HC1.out; split <;> omega
      have hNa : (1 : Int) ≤ (N : Int) := by have := HN.out; omega
      have hNb : (N : Int) ≤ 256 := by have := HN.out; omega
      have hR0 : (0 : Int) ≤ (R : Int) := by omega
      have hRb : (R : Int) < (nb : Int) := by have := HRn.out; omega
      have hvi := hri.out i hlt
      rw [hs.out] at hvi
      unfold Sf.gath at hvi
      rw [hRr.out, hO.out, HYv.out, hk.out] at hvi
      clear ey hBD HYb
      go_wp2_with fail
      go_quiet (fail)
      clear hq1 cy y2 m1 m2 m3 m4 hNa hNb hR0 hRb
      replace HX := hide (HX.out.drewN nq)
      replace HY := hide (HY.out.drewN nq)
      replace HG := hide (HG.out.drewN nq)
      replace HB := hide (below_drewN HB.out nq)
      generalize wr.drewN nq = W3 at *
      obtain ⟨rd, v, hRD, ev, cv⟩ := ri_at (HRI.out _ HB.out k HKN.out) O (by rw [HLE.out k HKN.out]; exact HOn.out)
      have hvv : (Sf.row a.ds d k).getD O 0 = v := Sf.row_get _ _ _ _ _ ev.out
      rw [hvv] at hvi
      have HV := hide hvi
      have HC := hide (HRO.out W3.drew HB.out.drew k HKN.out)
      rw [hRD] at HC
      have HRL : Hid (rd.block < w0.heap.size) := hide (by
        obtain ⟨ad', h1, h2, -⟩ := (HRI.out w0 (Below.refl _ _) k HKN.out).2 (by intro h; have := HLE.out k HKN.out; rw [h] at this; simp at this; omega)
        rw [hRD] at h1
        rw [Option.some.inj h1]
        exact h2)
      have hr1 : (s : Int).tmod (d : Int) = (O : Int) := by rw [Int.tmod_eq_emod_of_nonneg (by omega)]; exact HR1.out
      have hr2 := HR1.out
      have hr3 : IntKind.i64.wrap (O : Int) = (O : Int) := by have h1 := HOn.out; have h2 := HD1.out; rw [IntKind.wrap_i64]; omega
      have hO0 : (0 : Int) ≤ (O : Int) := by omega
      have hOd : (O : Int) < (d : Int) := by have := HOn.out; omega
      have hS0 : SfC4 ⟨w.heap.size, 0, none⟩ ⟨w.heap.size, 1, none⟩ ⟨w.heap.size, 2, none⟩ (rd.add O) (.slice (some pa') 2 a.cap) (.bool a.u) (.slice a.D na a.dcap) (.int .i64 v) W3.drew := ⟨HX.out.cell 0, HX.out.cell 1, HX.out.cell 2, cv⟩
      have HL1 : Hid (w.heap.size < W3.drew.heap.size) := hide HX.out.lt
      have HL2 : Hid ((rd.add O).block < W3.drew.heap.size) := hide (by rw [elm_block]; have h1 := HRL.out; have h2 := HB.out.size; show rd.block < W3.heap.size; omega)
      have HLT := hide hlt
      clear ev cv hvv hvi hRD
      go_wp2_with fail
      go_region_held3 (fun W => W.cell? ⟨w.heap.size, 0, none⟩ = some (.slice (some pa') 2 a.cap) ∧ W.cell? ⟨w.heap.size, 1, none⟩ = some (.bool a.u) ∧ W.cell? ⟨w.heap.size, 2, none⟩ = some (.slice a.D na a.dcap) ∧ W.cell? (rd.add O) = some (.int .i64 v))
        (first | with_reducible exact hS0 | with_reducible exact hS2 | with_reducible exact hS3.out | with_reducible assumption)
        (first | (go_at_call 149; (with_reducible refine HC.out.mono ?_); rintro e w9 ⟨⟨c, rfl⟩, hb⟩; have hS2 := SfC4.keep hS0 HL1.out HL1.out HL1.out HL2.out hb; have n1 : g ≠ w.heap.size := (by omega); have n2 : g ≠ (rd.add O).block := (by rw [elm_block]; have := HRL.out; omega); have hS3 := hide (SfC4.far hS2 n1 n1 n1 n2 i (.int .i64 v)); have HG9 := hide ((HG.out.drewN 1).below hb HG.out.lt); have HX9 := hide ((HX.out.drewN 1).below hb HX.out.lt); have HY9 := hide ((HY.out.drewN 1).below hb HY.out.lt); have HB9 := hide (HB.out.drew.trans (hb.mono HB.out.drew.size)); have g1 : w9.cell? ⟨g, i, none⟩ = some (.int .i64 (xs[i]'(by rw [HXN.out]; exact HLT.out))) := (by rw [HG9.out.cell]; unfold i64s; rw [List.getElem?_map, List.getElem?_eq_getElem (by rw [HXN.out]; exact HLT.out)]; rfl); have gf := HG9.out.frozen i))
      go_wp2_with fail
      go_roundg (q - (i + 1))
      case measure => have := HLT.out; omega
      case rel =>
        have hlt := HLT.out
        refine ⟨i + 1, xs.set i v, by omega, by go_num, hide (by rw [List.length_set]; exact HXN.out), hide (fun j hj => ?_), ?_, hide (HX9.out.far (p := ⟨g, i, none⟩) (by simp; omega) (.int .i64 v)), hide (HY9.out.far (p := ⟨g, i, none⟩) (by simp; omega) (.int .i64 v)), hide (HB9.out.setCell (p := ⟨g, i, none⟩) hg0 (.int .i64 v))⟩
        · rw [List.getElem?_set]
          by_cases h : i = j
          · subst h
            rw [if_pos rfl, if_pos (by rw [HXN.out]; exact hlt), HV.out]
          · rw [if_neg h]
            exact HI.out j (by omega)
        · have h := HG9.out.set_ i (.int .i64 v)
          unfold i64s at h ⊢
          rw [List.map_set]
          exact hide h
    · obtain rfl : i = q := by omega
      have hx : xs = r := List.ext_getElem? (fun j => by
        rcases Nat.lt_or_ge j i with h | h
        · exact HI.out j h
        · rw [List.getElem?_eq_none (by rw [HXN.out]; exact h), List.getElem?_eq_none (by rw [hrl.out]; exact h)])
      subst hx
      have hnn : ¬ (i : Int) < i := by omega
      go_wp2_with fail
      refine bodyPost_end (results_none rfl _ _ _) rfl ?_
      exact ⟨rfl, HG.out, HB.out⟩
end Go.Proofs.YtcgjnjchkachdaaDoor
