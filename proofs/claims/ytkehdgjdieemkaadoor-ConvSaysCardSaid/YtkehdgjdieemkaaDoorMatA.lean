/-
  cells.turn: the elements of one turned. By an AI agent. No person has read it.
-/
import Derived.Test.YtkehdgjdieemkaaDoorElmP
import Derived.Test.YtkehdgjdieemkaaDoorMatSpec
namespace Go.Proofs.YtkehdgjdieemkaaDoor
open Go.RowKit

set_option maxRecDepth 100000 in
set_option maxHeartbeats 4000000 in
theorem turn_c (os : List Int) (a : Ten) (M N ocap f g : Nat) (w0 w : World) (hz : a.zs = [(M : Int), (N : Int)]) (hl : a.ds.length = M * N) (hM : 1 ≤ M) (hm : M * N ≤ 1000000) (ha : a.In w0) (hB : Below w0.heap.size w0 w) (hg0 : w0.heap.size ≤ g) (hG : Has w g 3 (i64s os)) (hf : f + os.length ≤ M * N) :
    Calls Tryd.prog 95 #[.slice (some ⟨g, 0, none⟩) os.length ocap, .int .i64 f, .agg (tcells a.P a.zs.length a.cap a.u a.D a.ds.length a.dcap)] w fun e w' => e = .returned (.tuple #[]) ∧ Has w' g 3 (i64s (Mat.turn a.ds M N f os.length)) ∧ Below w0.heap.size w0 w' := by
  obtain ⟨r, hrr⟩ : ∃ r, Hid (Mat.turn a.ds M N f os.length = r) := ⟨_, hide rfl⟩
  have hrl : Hid (r.length = os.length) := hide (by rw [← hrr.out]; exact Mat.turn_length _ _ _ _ _)
  have hri : Hid (∀ i, i < os.length → r[i]? = some (a.ds.getD ((f + i) % M * N + (f + i) / M) 0)) := hide (fun i hi => by
    rw [← hrr.out]
    exact Mat.turn_at _ _ _ _ _ _ hi)
  rw [hrr.out]
  clear hrr
  have HA := hide ha.dat
  obtain ⟨pd, z0, hPD, ez0, cz0⟩ := ri_at (ha.shp.below hB) 0 (by rw [hz]; simp)
  obtain ⟨pd', z1, hPD', ez1, cz1⟩ := ri_at (ha.shp.below hB) 1 (by rw [hz]; simp)
  obtain rfl : pd' = pd := Option.some.inj (hPD'.symm.trans hPD)
  have hz0 : z0 = M := by have h := ez0.out; rw [hz] at h; exact (Option.some.inj h).symm
  have hz1 : z1 = N := by have h := ez1.out; rw [hz] at h; exact (Option.some.inj h).symm
  subst hz0
  subst hz1
  have hzl : a.zs.length = 2 := by rw [hz]; rfl
  have hpl : pd'.block < w0.heap.size := by
    obtain ⟨ad', h1, h2, -⟩ := ha.shp.2 (by rw [hz]; simp)
    rw [hPD] at h1
    rw [Option.some.inj h1]
    exact h2
  obtain ⟨nd, hnd⟩ : ∃ n, Hid (a.ds.length = n) := ⟨_, hide rfl⟩
  obtain ⟨n, hn⟩ : ∃ n, Hid (os.length = n) := ⟨_, hide rfl⟩
  have hnd' : Hid (nd = M * N) := hide (hnd.out.symm.trans hl)
  have HF : Hid (f + n ≤ M * N) := hide (by rw [← hn.out]; exact hf)
  have HM := hide hm
  have hNm : (N : Int) ≤ 1000000 := by have := Nat.le_mul_of_pos_left N hM; omega
  have hnb : (n : Int) ≤ 1000000 := by have := HF.out; omega
  have hMm : (M : Int) ≤ 1000000 ∨ N = 0 := by rcases Nat.eq_zero_or_pos N with h | h; exact .inr h; exact .inl (by have := Nat.le_mul_of_pos_right M h; omega)
  rw [hzl, hnd.out, hPD, hn.out]
  rw [hn.out] at hrl hri
  have HOL := hide hn.out
  have HX := hide (Has.new w 26 [.slice (some pd') 2 a.cap, .bool a.u, .slice a.D nd a.dcap])
  have HG := hide (hG.alloc (.cells #[.slice (some pd') 2 a.cap, .bool a.u, .slice a.D nd a.dcap] 26))
  have HB := hide (hB.alloc hB.size (.cells #[.slice (some pd') 2 a.cap, .bool a.u, .slice a.D nd a.dcap] 26))
  have hgl := hG.lt
  have hsz := hB.size
  have hpw : pd'.block < w.heap.size := by omega
  have cw : (w.alloc (.cells #[.slice (some pd') 2 a.cap, .bool a.u, .slice a.D nd a.dcap] 26)).cell? pd' = some (.int .i64 M) ∧ (w.alloc (.cells #[.slice (some pd') 2 a.cap, .bool a.u, .slice a.D nd a.dcap] 26)).cell? (pd'.add 1) = some (.int .i64 N) := by
    rw [Addr.add_zero'] at cz0
    exact ⟨(((Below.refl w.heap.size w).alloc (Nat.le_refl _) _).cell hpw).trans cz0, (((Below.refl w.heap.size w).alloc (Nat.le_refl _) _).cell (by rw [elm_block]; exact hpw)).trans cz1⟩
  obtain ⟨cw0, cw1⟩ := cw
  simp only [Addr.add, Nat.reduceEqDiff, if_false] at cw1
  clear ha hB hG hl hf hm hPD hPD' ez0 ez1 hz hzl hn cz0 cz1
  unfold tcells
  go_enter Tryd.func95, Tryd.ntmps95
  go_wp2_with fail
  generalize (w.alloc (.cells #[.slice (some pd') 2 a.cap, .bool a.u, .slice a.D nd a.dcap] 26)) = W at *
  have x0 : W.cell? ⟨w.heap.size, 0, none⟩ = some (.slice (some pd') 2 a.cap) := HX.out.cell 0
  go_quiet (fail)
  clear cw0 cw1 x0
  replace HX := hide (HX.out.drewN nq)
  replace HG := hide (HG.out.drewN nq)
  replace HB := hide (below_drewN HB.out nq)
  generalize W.drewN nq = W2 at *
  go_wp2_with fail
  go_loopw [23] (fun k wr => ∃ (i : Nat) (xs : List Int), i ≤ n ∧ k = .int .i64 i ∧ Hid (xs.length = n) ∧ Hid (∀ j, j < i → xs[j]? = r[j]?) ∧ Hid (Has wr g 3 (i64s xs)) ∧ Hid (Has wr w.heap.size 26 [.slice (some pd') 2 a.cap, .bool a.u, .slice a.D nd a.dcap]) ∧ Hid (Below w0.heap.size w0 wr)) (fun k _ => n - (intOf k).toNat)
  case atStart => exact ⟨0, os, by omega, rfl, HOL, hide (fun j hj => by omega), HG, HX, HB⟩
  case round =>
    clear HG HX HB
    obtain ⟨i, xs, hi, rfl, HN, HI, HG, HX, HB⟩ := hrel
    by_cases hlt : i < n
    · have him : (i : Int) < n := by omega
      have hi0 : (0 : Int) ≤ (i : Int) := by omega
      obtain ⟨s, hs⟩ : ∃ s, Hid (f + i = s) := ⟨_, hide rfl⟩
      have hss := hs.out
      have hff := HF.out
      have Hw1 : Hid (IntKind.i64.wrap ((f : Int) + (i : Int)) = (s : Int)) := hide (by have := HM.out; rw [IntKind.wrap_i64]; omega)
      have hM0 : ¬ ((M : Int) = 0) := by omega
      have hw1 := Hw1.out
      go_wp2_with fail
      go_quiet (fail)
      clear hw1
      have hMn : 0 < M := hM
      have hsb : s < M * N := by omega
      obtain ⟨R, hR⟩ : ∃ R, Hid (s / M = R) := ⟨_, hide rfl⟩
      obtain ⟨C, hC⟩ : ∃ C, Hid (s % M = C) := ⟨_, hide rfl⟩
      have hRN : R < N := by rw [← hR.out]; exact Nat.div_lt_of_lt_mul hsb
      have hCM : C < M := by rw [← hC.out]; exact Nat.mod_lt _ hMn
      obtain ⟨p, hp⟩ : ∃ p, Hid (C * N = p) := ⟨_, hide rfl⟩
      have hpb : p + N ≤ M * N := by rw [← hp.out, ← Nat.succ_mul]; exact Nat.mul_le_mul_right N hCM
      have hmm := HM.out
      have Hqu : Hid (wrap64 ((s : Int) / (M : Int)) = (R : Int)) := hide (by
        rw [show (s : Int) / (M : Int) = (R : Int) by rw [← hR.out]; exact (Int.natCast_ediv s M).symm]
        unfold wrap64
        omega)
      have Hre : Hid ((s : Int) % (M : Int) = (C : Int)) := hide (by rw [← hC.out]; exact (Int.natCast_emod s M).symm)
      have Hwp : Hid (IntKind.i64.wrap ((C : Int) * (N : Int)) = (p : Int)) := hide (by
        rw [show (C : Int) * (N : Int) = (p : Int) by rw [← hp.out, Int.natCast_mul], IntKind.wrap_i64]
        omega)
      obtain ⟨q, hq⟩ : ∃ q, Hid (p + R = q) := ⟨_, hide rfl⟩
      have hqq := hq.out
      have Hwq : Hid (IntKind.i64.wrap ((p : Int) + (R : Int)) = (q : Int)) := hide (by rw [IntKind.wrap_i64]; omega)
      have hqn : q < nd := by have := hnd'.out; omega
      obtain ⟨ad, x, hAD, ex, cx⟩ := ri_at (HA.out.below HB.out) q (by rw [hnd.out]; exact hqn)
      have hq0 : (0 : Int) ≤ (q : Int) := by omega
      have hq1 : (q : Int) < nd := by omega
      have hv := hri.out i hlt
      rw [hs.out, hR.out, hC.out, hp.out, hq.out, List.getD_eq_getElem?_getD, ex.out, Option.getD_some] at hv
      have HV := hide hv
      have hab : g ≠ ad.block := by
        obtain ⟨ad', h1, h2, -⟩ := HA.out.2 (by intro h; rw [h] at ex; have h := ex.out; simp at h)
        rw [hAD] at h1
        have h1 : ad = ad' := Option.some.inj h1
        subst h1
        omega
      have HAD := hide hAD
      rw [hAD] at HX
      have a2 : wr.cell? ⟨w.heap.size, 2, none⟩ = some (.slice (some ad) nd a.dcap) := HX.out.cell 2
      have g1 : wr.cell? ⟨g, i, none⟩ = some (.int .i64 (xs[i]'(by rw [HN.out]; exact hlt))) := by
        rw [HG.out.cell]
        unfold i64s
        rw [List.getElem?_map, List.getElem?_eq_getElem (by rw [HN.out]; exact hlt)]
        rfl
      have gf := HG.out.frozen i
      clear hv hAD hss hff hMn hsb hRN hCM hpb hmm hqq
      rw [Hqu.out, Hre.out]
      clear Hqu Hre Hw1 hM0
      have hwp := Hwp.out
      have hwq := Hwq.out
      have a2' : (wr.drewN nq).cell? ⟨w.heap.size, 2, none⟩ = some (.slice (some ad) nd a.dcap) := a2
      have g1' : (wr.drewN nq).cell? ⟨g, i, none⟩ = some (.int .i64 (xs[i]'(by rw [HN.out]; exact hlt))) := g1
      have gf' : (wr.drewN nq).frozen? ⟨g, i, none⟩ = false := gf
      have cx' : (wr.drewN nq).cell? (ad.add q) = some (.int .i64 x) := cx
      clear a2 g1 gf cx
      go_wp2_with fail
      go_roundw
      case rel =>
        refine ⟨i + 1, xs.set i x, by omega, by go_num, hide (by rw [List.length_set]; exact HN.out), hide (fun j hj => ?_), ?_, ?_, ?_⟩
        · rw [List.getElem?_set]
          split
          · rename_i h
            subst h
            rw [if_pos (by rw [HN.out]; exact hlt), HV.out]
          · exact HI.out j (by omega)
        · have h := (HG.out.drewN nq).set_ i (.int .i64 x)
          unfold i64s at h ⊢
          rw [List.map_set]
          exact hide h
        · have h := hide ((HX.out.drewN nq).far (p := ⟨g, i, none⟩) (by simp; omega) (.int .i64 x))
          rw [← HAD.out] at h
          exact h
        · exact hide ((below_drewN HB.out nq).setCell (p := ⟨g, i, none⟩) hg0 (.int .i64 x))
      case measure => simp [intOf]; omega
    · obtain rfl : i = n := by omega
      have hx : xs = r := List.ext_getElem? (fun j => by
        rcases Nat.lt_or_ge j i with h | h
        · exact HI.out j h
        · rw [List.getElem?_eq_none (by rw [HN.out]; exact h), List.getElem?_eq_none (by rw [hrl.out]; exact h)])
      subst hx
      go_wp2_with fail
      refine bodyPost_end (results_none rfl _ _ _) rfl ?_
      exact ⟨rfl, HG.out, HB.out⟩
end Go.Proofs.YtkehdgjdieemkaaDoor
