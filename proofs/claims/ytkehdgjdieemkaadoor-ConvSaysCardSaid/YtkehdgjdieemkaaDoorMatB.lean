/-
  cells.matmul: elements of the product of two. By an AI agent. No person has read it.
-/
import Derived.Test.YtkehdgjdieemkaaDoorElmP
import Derived.Test.YtkehdgjdieemkaaDoorMatSpec
import Derived.Deep.LoopGhost
namespace Go.Proofs.YtkehdgjdieemkaaDoor
open Go.RowKit

/-- All numbers of it are narrow. -/
def Mat.small (ds : List Int) : Prop := ∀ z ∈ ds, -128 ≤ z ∧ z ≤ 127
theorem Mat.small_get {ds : List Int} (h : Mat.small ds) (i : Nat) : -128 ≤ ds.getD i 0 ∧ ds.getD i 0 ≤ 127 := by
  rw [List.getD_eq_getElem?_getD]
  cases e : ds[i]? with
  | none => exact ⟨by decide, by decide⟩
  | some q => exact h q (List.mem_of_getElem? e)
theorem Mat.prod_le (x y : Int) (hx : -255 ≤ x ∧ x ≤ 255) (hy : -255 ≤ y ∧ y ≤ 255) : -65025 ≤ x * y ∧ x * y ≤ 65025 := by
  have h1 : (x - 255) * (y + 255) ≤ 0 := Int.mul_nonpos_of_nonpos_of_nonneg (by omega) (by omega)
  have h2 : (x + 255) * (y - 255) ≤ 0 := Int.mul_nonpos_of_nonneg_of_nonpos (by omega) (by omega)
  have h3 : 0 ≤ (x + 255) * (y + 255) := Int.mul_nonneg (by omega) (by omega)
  have h4 : 0 ≤ (255 - x) * (255 - y) := Int.mul_nonneg (by omega) (by omega)
  have e1 : (x - 255) * (y + 255) = x * y + 255 * x - 255 * y - 65025 := by rw [Int.sub_mul, Int.mul_add]; omega
  have e2 : (x + 255) * (y - 255) = x * y - 255 * x + 255 * y - 65025 := by rw [Int.add_mul, Int.mul_sub]; omega
  have e3 : (x + 255) * (y + 255) = x * y + 255 * x + 255 * y + 65025 := by rw [Int.add_mul, Int.mul_add]; omega
  have e4 : (255 - x) * (255 - y) = x * y - 255 * x - 255 * y + 65025 := by rw [Int.sub_mul, Int.mul_sub, Int.mul_sub]; omega
  omega
theorem Mat.dot_le {xs ys : List Int} (hx : Mat.small xs) (hy : Mat.small ys) (za zb : Int) (ha : -128 ≤ za ∧ za ≤ 127) (hb : -128 ≤ zb ∧ zb ≤ 127) (inner n row col k : Nat) :
    -(65025 * (k : Int)) ≤ Mat.dot xs ys za zb inner n row col k ∧ Mat.dot xs ys za zb inner n row col k ≤ 65025 * (k : Int) := by
  induction k with
  | zero => exact ⟨Int.le_refl 0, Int.le_refl 0⟩
  | succ k ih =>
    have h1 := Mat.small_get hx (row * inner + k)
    have h2 := Mat.small_get hy (k * n + col)
    have h3 := Mat.prod_le (xs.getD (row * inner + k) 0 - za) (ys.getD (k * n + col) 0 - zb) (by omega) (by omega)
    show _ ≤ Mat.dot xs ys za zb inner n row col k + _ ∧ Mat.dot xs ys za zb inner n row col k + _ ≤ _
    omega
set_option maxRecDepth 100000 in
set_option maxHeartbeats 4000000 in
theorem matmul_c (os : List Int) (a b : Ten) (za zb : Int) (M K N ocap f g : Nat) (w0 w : World) (hz : b.zs = [(K : Int), (N : Int)]) (hla : a.ds.length = M * K) (hlb : b.ds.length = K * N) (hN : 1 ≤ N) (hm : M * N ≤ 1000000) (hK : K ≤ 1000000)
    (ha : a.In w0) (hb : b.In w0) (hsa : Mat.small a.ds) (hsb : Mat.small b.ds) (hza : -128 ≤ za ∧ za ≤ 127) (hzb : -128 ≤ zb ∧ zb ≤ 127) (hB : Below w0.heap.size w0 w) (hg0 : w0.heap.size ≤ g) (hG : Has w g 3 (i64s os)) (hf : f + os.length ≤ M * N) :
    Calls Tryd.prog 94 #[.slice (some ⟨g, 0, none⟩) os.length ocap, .int .i64 f, .agg (tcells a.P a.zs.length a.cap a.u a.D a.ds.length a.dcap), .agg (tcells b.P b.zs.length b.cap b.u b.D b.ds.length b.dcap), .int .i64 za, .int .i64 zb] w fun e w' => e = .returned (.tuple #[]) ∧ Has w' g 3 (i64s (Mat.part a.ds b.ds za zb K N f os.length)) ∧ Below w0.heap.size w0 w' := by
  obtain ⟨r, hrr⟩ : ∃ r, Hid (Mat.part a.ds b.ds za zb K N f os.length = r) := ⟨_, hide rfl⟩
  have hrl : Hid (r.length = os.length) := hide (by rw [← hrr.out]; exact Mat.part_length _ _ _ _ _ _ _ _)
  have hri : Hid (∀ i, i < os.length → r[i]? = some (Tens.wide (Mat.dot a.ds b.ds za zb K N ((f + i) / N) ((f + i) % N) K))) := hide (fun i hi => by
    rw [← hrr.out]
    exact Mat.part_at _ _ _ _ _ _ _ _ _ hi)
  rw [hrr.out]
  clear hrr
  have HA := hide ha.dat
  have HA2 := hide hb.dat
  have HWD := hide (fun n => wide_c n)
  have HDB := hide (fun row col k => Mat.dot_le hsa hsb za zb hza hzb K N row col k)
  have HSA := hide hsa
  have HSB := hide hsb
  have HZA := hide hza
  have HZB := hide hzb
  obtain ⟨pd', z0, hPD', ez0, cz0⟩ := ri_at (hb.shp.below hB) 0 (by rw [hz]; simp)
  obtain ⟨pd, z1, hPD, ez1, cz1⟩ := ri_at (hb.shp.below hB) 1 (by rw [hz]; simp)
  obtain rfl : pd' = pd := Option.some.inj (hPD'.symm.trans hPD)
  have hz0 : z0 = K := by have h := ez0.out; rw [hz] at h; exact (Option.some.inj h).symm
  have hz1 : z1 = N := by have h := ez1.out; rw [hz] at h; exact (Option.some.inj h).symm
  subst hz0
  subst hz1
  have hzl : b.zs.length = 2 := by rw [hz]; rfl
  have hpl : pd'.block < w0.heap.size := by
    obtain ⟨ad', h1, h2, -⟩ := hb.shp.2 (by rw [hz]; simp)
    rw [hPD] at h1
    rw [Option.some.inj h1]
    exact h2
  have hlda := ha.ld
  have hldb := hb.ld
  obtain ⟨na, hna⟩ : ∃ n, Hid (a.ds.length = n) := ⟨_, hide rfl⟩
  obtain ⟨nb, hnb⟩ : ∃ n, Hid (b.ds.length = n) := ⟨_, hide rfl⟩
  obtain ⟨n, hn⟩ : ∃ n, Hid (os.length = n) := ⟨_, hide rfl⟩
  obtain ⟨nz, hnz⟩ : ∃ n, Hid (a.zs.length = n) := ⟨_, hide rfl⟩
  have hna' : Hid (na = M * K) := hide (hna.out.symm.trans hla)
  have hnb' : Hid (nb = K * N) := hide (hnb.out.symm.trans hlb)
  have HF : Hid (f + n ≤ M * N) := hide (by rw [← hn.out]; exact hf)
  have HM := hide hm
  rw [hna.out] at hlda
  rw [hnb.out] at hldb
  have hnbd : (n : Int) ≤ 1000000 := by have := HF.out; omega
  rw [hzl, hna.out, hnb.out, hnz.out, hPD, hn.out]
  rw [hn.out] at hrl hri
  have HOL := hide hn.out
  obtain ⟨W, hW⟩ : ∃ W, W = (w.alloc (.cells #[.slice a.P nz a.cap, .bool a.u, .slice a.D na a.dcap] 26)).alloc (.cells #[.slice (some pd') 2 b.cap, .bool b.u, .slice b.D nb b.dcap] 26) := ⟨_, rfl⟩
  have HX : Hid (Has W w.heap.size 26 [.slice a.P nz a.cap, .bool a.u, .slice a.D na a.dcap]) := hide (by rw [hW]; exact (Has.new w 26 _).alloc _)
  have HY : Hid (Has W (w.heap.size + 1) 26 [.slice (some pd') 2 b.cap, .bool b.u, .slice b.D nb b.dcap]) := hide (by
    rw [hW]
    have h := Has.new (w.alloc (.cells #[.slice a.P nz a.cap, .bool a.u, .slice a.D na a.dcap] 26)) 26 [.slice (some pd') 2 b.cap, .bool b.u, .slice b.D nb b.dcap]
    simpa using h)
  have HG : Hid (Has W g 3 (i64s os)) := hide (by rw [hW]; exact (hG.alloc _).alloc _)
  have HBw : Below w.heap.size w W := by rw [hW]; exact ((Below.refl w.heap.size w).alloc (Nat.le_refl _) _).alloc (by simp) _
  have HB := hide (hB.trans (HBw.mono hB.size))
  have hgl := hG.lt
  have hsz := hB.size
  have hpw : pd'.block < w.heap.size := by omega
  have cw0 : W.cell? pd' = some (.int .i64 K) := by
    rw [Addr.add_zero'] at cz0
    exact (HBw.cell hpw).trans cz0
  have cw1 : W.cell? (pd'.add 1) = some (.int .i64 N) := (HBw.cell (by rw [elm_block]; exact hpw)).trans cz1
  simp only [Addr.add, Nat.reduceEqDiff, if_false] at cw1
  have HW := hide hW
  have HK := hide hK
  clear ha hb hB hG hf hm hPD hPD' ez0 ez1 hz hzl hn cz0 cz1 hla hlb hW HBw hsa hsb hza hzb hnz
  unfold tcells
  go_enter Tryd.func94, Tryd.ntmps94
  go_wp2_with fail
  rw [← HW.out]
  have x0 : W.cell? ⟨w.heap.size + 1, 0, none⟩ = some (.slice (some pd') 2 b.cap) := HY.out.cell 0
  clear HW
  go_step3
  go_wp2_with fail
  go_quiet (fail)
  clear cw0 cw1 x0
  replace HX := hide (HX.out.drewN nq)
  replace HY := hide (HY.out.drewN nq)
  replace HG := hide (HG.out.drewN nq)
  replace HB := hide (below_drewN HB.out nq)
  generalize W.drewN nq = W2 at *
  go_wp2_with fail
  go_step3
  go_wp2_with fail
  go_loopg [31] n (fun q k wr => ∃ (i : Nat) (xs : List Int), q + i = n ∧ k = .int .i64 i ∧ Hid (xs.length = n) ∧ Hid (∀ j, j < i → xs[j]? = r[j]?) ∧ Hid (Has wr g 3 (i64s xs)) ∧ Hid (Has wr w.heap.size 26 [.slice a.P nz a.cap, .bool a.u, .slice a.D na a.dcap]) ∧ Hid (Has wr (w.heap.size + 1) 26 [.slice (some pd') 2 b.cap, .bool b.u, .slice b.D nb b.dcap]) ∧ Hid (Below w0.heap.size w0 wr))
  case atStart => exact ⟨0, os, by omega, rfl, HOL, hide (fun j hj => by omega), HG, HX, HY, HB⟩
  case round =>
    clear HG HX HY HB
    obtain ⟨i, xs, hi, rfl, HN, HI, HG, HX, HY, HB⟩ := hrel
    by_cases hlt : i < n
    · have him : (i : Int) < n := by omega
      have hi0 : (0 : Int) ≤ (i : Int) := by omega
      obtain ⟨s, hs⟩ : ∃ s, Hid (f + i = s) := ⟨_, hide rfl⟩
      have hss := hs.out
      have hff := HF.out
      have Hw1 : Hid (IntKind.i64.wrap ((f : Int) + (i : Int)) = (s : Int)) := hide (by have := HM.out; rw [IntKind.wrap_i64]; omega)
      have hN0 : ¬ ((N : Int) = 0) := by omega
      have hw1 := Hw1.out
      go_wp2_with fail
      go_quiet (fail)
      clear hw1
      have hNn : 0 < N := hN
      have hsb : s < M * N := by omega
      obtain ⟨R, hR⟩ : ∃ R, Hid (s / N = R) := ⟨_, hide rfl⟩
      obtain ⟨C, hC⟩ : ∃ C, Hid (s % N = C) := ⟨_, hide rfl⟩
      have hRM : R < M := by rw [← hR.out]; exact Nat.div_lt_of_lt_mul (by rw [Nat.mul_comm]; exact hsb)
      have hCN : C < N := by rw [← hC.out]; exact Nat.mod_lt _ hNn
      have hmm := HM.out
      have Hqu : Hid (wrap64 ((s : Int) / (N : Int)) = (R : Int)) := hide (by
        rw [show (s : Int) / (N : Int) = (R : Int) by rw [← hR.out]; exact (Int.natCast_ediv s N).symm]
        have h1 : R * N ≤ M * N := Nat.mul_le_mul_right N (Nat.le_of_lt hRM)
        have h2 := Nat.le_mul_of_pos_right R hNn
        unfold wrap64
        omega)
      have Hre : Hid ((s : Int) % (N : Int) = (C : Int)) := hide (by rw [← hC.out]; exact (Int.natCast_emod s N).symm)
      have hv := hri.out i hlt
      rw [hs.out, hR.out, hC.out] at hv
      have HV := hide hv
      rw [Hqu.out, Hre.out]
      clear Hqu Hre Hw1 hN0 hv hss hff hsb
      replace HX := hide (HX.out.drewN nq)
      replace HY := hide (HY.out.drewN nq)
      replace HG := hide (HG.out.drewN nq)
      replace HB := hide (below_drewN HB.out nq)
      generalize wr.drewN nq = W3 at *
      go_wp2_with fail
      go_loopg [17, 18] K (fun q v k wr => ∃ (j : Nat) (s : Int), q + j = K ∧ k = .int .i64 j ∧ v = .int .i64 s ∧ Hid (Mat.dot a.ds b.ds za zb K N R C j = s) ∧ Hid (Has wr g 3 (i64s xs)) ∧ Hid (Has wr w.heap.size 26 [.slice a.P nz a.cap, .bool a.u, .slice a.D na a.dcap]) ∧ Hid (Has wr (w.heap.size + 1) 26 [.slice (some pd') 2 b.cap, .bool b.u, .slice b.D nb b.dcap]) ∧ Hid (Below w0.heap.size w0 wr))
      case atStart => exact ⟨0, 0, by omega, rfl, rfl, hide rfl, HG, HX, HY, HB⟩
      case round =>
        clear HG HX HY HB
        obtain ⟨j, s, hj, rfl, rfl, HD, HG, HX, HY, HB⟩ := hrel
        by_cases hjk : j = K
        · subst hjk
          rw [HD.out] at HV
          have g1 : wr.cell? ⟨g, i, none⟩ = some (.int .i64 (xs[i]'(by rw [HN.out]; exact hlt))) := by
            rw [HG.out.cell]
            unfold i64s
            rw [List.getElem?_map, List.getElem?_eq_getElem (by rw [HN.out]; exact hlt)]
            rfl
          have gf := HG.out.frozen i
          have HC := hide (HWD.out s wr)
          obtain ⟨v, hv⟩ : ∃ v, Hid (Tens.wide s = v) := ⟨_, hide rfl⟩
          rw [hv.out] at HC HV
          go_wp2_with fail
          refine HC.out.mono ?_
          rintro e w9 ⟨rfl, hw⟩
          have hw := hw.symm
          subst hw
          go_wp2_with fail
          go_roundg (n - (i + 1))
          case measure => omega
          case rel =>
            refine ⟨i + 1, xs.set i v, by omega, by go_num, hide (by rw [List.length_set]; exact HN.out), hide (fun j hj => ?_), ?_, ?_, ?_, ?_⟩
            · rw [List.getElem?_set]
              split
              · rename_i h
                subst h
                rw [if_pos (by rw [HN.out]; exact hlt), HV.out]
              · exact HI.out j (by omega)
            · have h := HG.out.set_ i (.int .i64 v)
              unfold i64s at h ⊢
              rw [List.map_set]
              exact hide h
            · exact hide (HX.out.far (p := ⟨g, i, none⟩) (by simp; omega) (.int .i64 v))
            · exact hide (HY.out.far (p := ⟨g, i, none⟩) (by simp; omega) (.int .i64 v))
            · exact hide (HB.out.setCell (p := ⟨g, i, none⟩) hg0 (.int .i64 v))
        · have hjl : j < K := by omega
          have hje : ((j : Int) == (K : Int)) = false := by simp; omega
          have hNn' := hNn
          obtain ⟨p1, hp1⟩ : ∃ p, Hid (R * K = p) := ⟨_, hide rfl⟩
          obtain ⟨p2, hp2⟩ : ∃ p, Hid (j * N = p) := ⟨_, hide rfl⟩
          have hp1b : p1 + K ≤ na := by rw [← hp1.out, hna'.out, ← Nat.succ_mul]; exact Nat.mul_le_mul_right K hRM
          have hp2b : p2 + N ≤ nb := by rw [← hp2.out, hnb'.out, ← Nat.succ_mul]; exact Nat.mul_le_mul_right N hjl
          obtain ⟨q1, hq1⟩ : ∃ q, Hid (p1 + j = q) := ⟨_, hide rfl⟩
          obtain ⟨q2, hq2⟩ : ∃ q, Hid (p2 + C = q) := ⟨_, hide rfl⟩
          have hq1' := hq1.out
          have hq2' := hq2.out
          have hq1n : q1 < na := by omega
          have hq2n : q2 < nb := by omega
          have Hwp1 : Hid (IntKind.i64.wrap ((R : Int) * (K : Int)) = (p1 : Int)) := hide (by
            rw [show (R : Int) * (K : Int) = (p1 : Int) by rw [← hp1.out, Int.natCast_mul], IntKind.wrap_i64]
            omega)
          have Hwp2 : Hid (IntKind.i64.wrap ((j : Int) * (N : Int)) = (p2 : Int)) := hide (by
            rw [show (j : Int) * (N : Int) = (p2 : Int) by rw [← hp2.out, Int.natCast_mul], IntKind.wrap_i64]
            omega)
          have Hwq1 : Hid (IntKind.i64.wrap ((p1 : Int) + (j : Int)) = (q1 : Int)) := hide (by rw [IntKind.wrap_i64]; omega)
          have Hwq2 : Hid (IntKind.i64.wrap ((p2 : Int) + (C : Int)) = (q2 : Int)) := hide (by rw [IntKind.wrap_i64]; omega)
          obtain ⟨ad, x, hAD, ex, cx⟩ := ri_at (HA.out.below HB.out) q1 (by rw [hna.out]; exact hq1n)
          obtain ⟨bd, y, hBD, ey, cy⟩ := ri_at (HA2.out.below HB.out) q2 (by rw [hnb.out]; exact hq2n)
          have hxb := HSA.out x (List.mem_of_getElem? ex.out)
          have hyb := HSB.out y (List.mem_of_getElem? ey.out)
          have hzab := HZA.out
          have hzbb := HZB.out
          have hpr := Mat.prod_le (x - za) (y - zb) (by omega) (by omega)
          have hdl := HDB.out R C j
          rw [HD.out] at hdl
          obtain ⟨x', hx'⟩ : ∃ q, Hid (x - za = q) := ⟨_, hide rfl⟩
          obtain ⟨y', hy'⟩ : ∃ q, Hid (y - zb = q) := ⟨_, hide rfl⟩
          have Hwx : Hid (IntKind.i64.wrap (x - za) = x') := hide (by rw [IntKind.wrap_i64, ← hx'.out]; omega)
          have Hwy : Hid (IntKind.i64.wrap (y - zb) = y') := hide (by rw [IntKind.wrap_i64, ← hy'.out]; omega)
          rw [hx'.out, hy'.out] at hpr
          obtain ⟨pr, hpr'⟩ : ∃ q, Hid (x' * y' = q) := ⟨_, hide rfl⟩
          rw [hpr'.out] at hpr
          have Hwpr : Hid (IntKind.i64.wrap (x' * y') = pr) := hide (by rw [hpr'.out, IntKind.wrap_i64]; omega)
          obtain ⟨s', hs'⟩ : ∃ q, Hid (s + pr = q) := ⟨_, hide rfl⟩
          have Hws : Hid (IntKind.i64.wrap (s + pr) = s') := hide (by rw [IntKind.wrap_i64, ← hs'.out]; have := HK.out; omega)
          have HD' : Hid (Mat.dot a.ds b.ds za zb K N R C (j + 1) = s') := hide (by
            show Mat.dot a.ds b.ds za zb K N R C j + (a.ds.getD (R * K + j) 0 - za) * (b.ds.getD (j * N + C) 0 - zb) = s'
            rw [HD.out, hp1.out, hp2.out, hq1.out, hq2.out, List.getD_eq_getElem?_getD, List.getD_eq_getElem?_getD, ex.out, ey.out, Option.getD_some, Option.getD_some, hx'.out, hy'.out, hpr'.out, hs'.out])
          have hq10 : (0 : Int) ≤ (q1 : Int) := by omega
          have hq11 : (q1 : Int) < na := by omega
          have hq20 : (0 : Int) ≤ (q2 : Int) := by omega
          have hq21 : (q2 : Int) < nb := by omega
          have hj1 : ((j : Nat) : Int) + 1 ≤ 1000001 := by have := HK.out; omega
          have HAD := hide hAD
          have HBD := hide hBD
          rw [hAD] at HX
          rw [hBD] at HY
          have a2 : wr.cell? ⟨w.heap.size, 2, none⟩ = some (.slice (some ad) na a.dcap) := HX.out.cell 2
          have b2 : wr.cell? ⟨w.heap.size + 1, 2, none⟩ = some (.slice (some bd) nb b.dcap) := HY.out.cell 2
          clear hAD hBD hp1b hp2b hq1' hq2' hq1n hq2n hxb hyb hpr hdl hzab hzbb ex ey
          go_wp2_with fail
          have hwp1 := Hwp1.out
          have hwp2 := Hwp2.out
          have hwq1 := Hwq1.out
          have hwq2 := Hwq2.out
          have hwx := Hwx.out
          have hwy := Hwy.out
          have hwpr := Hwpr.out
          have hws := Hws.out
          go_quiet (fail)
          clear hwp1 hwp2 hwq1 hwq2 hwx hwy hwpr hws a2 b2 cx cy
          go_wp2_with fail
          go_roundg (K - (j + 1))
          case measure => omega
          case rel =>
            refine ⟨j + 1, s', by omega, by go_num, rfl, HD', hide (HG.out.drewN nq), ?_, ?_, hide (below_drewN HB.out nq)⟩
            · have h := hide (HX.out.drewN nq)
              rw [← HAD.out] at h
              exact h
            · have h := hide (HY.out.drewN nq)
              rw [← HBD.out] at h
              exact h
    · obtain rfl : i = n := by omega
      have hx : xs = r := List.ext_getElem? (fun j => by
        rcases Nat.lt_or_ge j i with h | h
        · exact HI.out j h
        · rw [List.getElem?_eq_none (by rw [HN.out]; exact h), List.getElem?_eq_none (by rw [hrl.out]; exact h)])
      subst hx
      go_wp2_with fail
      refine bodyPost_end (results_none rfl _ _ _) rfl ?_
      exact ⟨rfl, HG.out, HB.out⟩
end Go.Proofs.YtkehdgjdieemkaaDoor
