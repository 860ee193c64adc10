/-
  lodgeref3.pool, walked: an element of a pool. lodgeref3.PoolResult, walked; Result, element, Apply and Element of pools. lodgeref3.Result, element, Apply and Element of pools. The examples of package lodgelaw10; what the walks of its laws open with. By an AI agent. No person has read it.
-/
import Derived.Test.YtcgjnjchkachdaaDoorPolE
import Derived.Test.YtcgjnjchkachdaaDoorRefI
namespace Go.Proofs.YtcgjnjchkachdaaDoor
open Go.RowKit

/-- The greatest of the first k, 0 of none. -/
def Pl.best (f : Nat → Int) (k : Nat) : Int := if k = 0 then 0 else Pl.top f k
theorem Pl.best_one (f : Nat → Int) : Pl.best f 1 = f 0 := by
  show max (f 0) (f 0) = f 0
  omega
theorem Pl.best_step (f : Nat → Int) (k : Nat) (h : k ≠ 0) : Pl.best f (k + 1) = max (Pl.best f k) (f k) := by
  unfold Pl.best
  rw [if_neg h, if_neg (by omega)]
  rfl
/-- What lodgeref3.pool reads. -/
def RpS (p0 p1 p2 p3 p4 p5 p6 : Addr) (v0 v1 v2 v3 v4 v5 v6 : Value) (W : World) : Prop := W.cell? p0 = some v0 ∧ W.cell? p1 = some v1 ∧ W.cell? p2 = some v2 ∧ W.cell? p3 = some v3 ∧ W.cell? p4 = some v4 ∧ W.cell? p5 = some v5 ∧ W.cell? p6 = some v6
theorem RpS.keep {p0 p1 p2 p3 p4 p5 p6 : Addr} {v0 v1 v2 v3 v4 v5 v6 : Value} {W W' : World} (h : RpS p0 p1 p2 p3 p4 p5 p6 v0 v1 v2 v3 v4 v5 v6 W) (hB : Below W.heap.size W W') : RpS p0 p1 p2 p3 p4 p5 p6 v0 v1 v2 v3 v4 v5 v6 W' := by
  obtain ⟨h0, h1, h2, h3, h4, h5, h6⟩ := h
  exact ⟨ten_kept h0 hB, ten_kept h1 hB, ten_kept h2 hB, ten_kept h3 hB, ten_kept h4 hB, ten_kept h5 hB, ten_kept h6 hB⟩
set_option maxRecDepth 100000 in
set_option maxHeartbeats 2000000 in
theorem rpl_c (avg : Bool) (qs : List Int) (a : Ten) (c : Pl) (hf : Pl.Fine qs a c) (d : Dsc) (A : Option Addr) (qcap i : Nat) (w : World) (hi : i < c.oh * c.ow * c.C) (hQ : Ri w A qs) (ha : a.In w) (hd : d.In w) (hdz : d.zs = [(c.oh : Int), (c.ow : Int), (c.C : Int)]) :
    Calls Tryd.prog 94 #[.bool avg, .slice A 2 qcap, .int .i64 i, .agg (tcells a.P a.zs.length a.cap a.u a.D a.ds.length a.dcap), .agg (dcells d.P d.zs.length d.cap d.u)] w fun e w' => e = .returned (.int .i64 (c.el avg a.ds (c.at i))) ∧ Below w.heap.size w w' := by
  have hok := hf.ok
  have hra := ha.shp
  have hrd := hd.shp
  rw [hf.az] at hra
  rw [hdz] at hrd
  rw [hf.qz] at hQ
  obtain ⟨pa, epa, -, a0, a1, a2⟩ := ri_three hra
  obtain ⟨pd, epd, -, d0, d1, d2⟩ := ri_three hrd
  obtain ⟨pq, epq, q0, q1⟩ := ri_pair hQ
  subst epq
  have hla : a.zs.length = 3 := by rw [hf.az]; rfl
  have hld : d.zs.length = 3 := by rw [hdz]; rfl
  have hC1 := hok.c1
  have how1 : 1 ≤ c.ow := Nat.succ_pos _
  have hAt := c.at_eq hok i hi
  have HLt := hide (fun k hk => c.lt hok i k hi hk)
  obtain ⟨F, hF⟩ : ∃ x, Hid (c.at i = x) := ⟨_, hide rfl⟩
  rw [hF.out] at HLt ⊢
  obtain ⟨q, hq⟩ : ∃ q_, Hid (i / c.C = q_) := ⟨_, hide rfl⟩
  obtain ⟨O, hO'⟩ : ∃ q_, Hid (i % c.C = q_) := ⟨_, hide rfl⟩
  obtain ⟨Y, hY'⟩ : ∃ q_, Hid (q / c.ow = q_) := ⟨_, hide rfl⟩
  obtain ⟨X, hX'⟩ : ∃ q_, Hid (q % c.ow = q_) := ⟨_, hide rfl⟩
  obtain ⟨Yt, hYt⟩ : ∃ x, Hid (Y * c.t = x) := ⟨_, hide rfl⟩
  obtain ⟨Xt, hXt⟩ : ∃ x, Hid (X * c.t = x) := ⟨_, hide rfl⟩
  rw [hq.out, hO'.out, hY'.out, hX'.out, hYt.out, hXt.out] at hAt
  have HAT := hide hAt
  have HFe : Hid (c.first Yt Xt O = F) := hide (by
    rw [← hF.out]
    unfold Pl.at
    rw [hq.out, hO'.out, hY'.out, hX'.out, hYt.out, hXt.out])
  have hib : i < 16384 := Nat.lt_of_lt_of_le hi hf.mn
  have hqi : q ≤ i := by rw [← hq.out]; exact Nat.div_le_self _ _
  have HOK := hide hok
  have HSA : Hid (∀ i, -2147483648 ≤ a.ds.getD i 0 ∧ a.ds.getD i 0 ≤ 2147483647) := hide (fun i => by
    rw [List.getD_eq_getElem?_getD]
    cases e : a.ds[i]? with
    | none => exact ⟨by decide, by decide⟩
    | some q => exact hf.sa q (List.mem_of_getElem? e))
  have HDA := hide (fun W (h : Below w.heap.size w W) => ha.dat.below h)
  obtain ⟨na, hna⟩ : ∃ q_, Hid (a.ds.length = q_) := ⟨_, hide rfl⟩
  have Hna : Hid (na = c.H * c.W * c.C) := hide (by rw [← hna.out]; exact hf.al)
  obtain ⟨W0, hW0⟩ : ∃ W, W = (w.alloc (.cells #[.slice a.P a.zs.length a.cap, .bool a.u, .slice a.D a.ds.length a.dcap] 26)).alloc (.cells #[.slice d.P d.zs.length d.cap, .bool d.u] 24) := ⟨_, rfl⟩
  have hA : Has W0 w.heap.size 26 [.slice a.P a.zs.length a.cap, .bool a.u, .slice a.D a.ds.length a.dcap] := by rw [hW0]; exact (Has.new w 26 _).alloc _
  have hDx : Has W0 (w.heap.size + 1) 24 [.slice d.P d.zs.length d.cap, .bool d.u] := by rw [hW0]; exact box_at _ _ _ _ (by simp)
  have hbw : Below w.heap.size w W0 := by rw [hW0]; exact ((Below.refl _ _).alloc (Nat.le_refl _) _).alloc (by simp) _
  rw [epa, hla, hna.out] at hA hW0
  rw [epd, hld] at hDx hW0
  have HS : Hid (RpS ⟨w.heap.size, 0, none⟩ ⟨w.heap.size, 2, none⟩ ⟨w.heap.size + 1, 0, none⟩ ⟨pa.block, pa.off + 1, none⟩ ⟨pd.block, pd.off + 1, none⟩ pq ⟨pq.block, pq.off + 1, none⟩ (.slice (some pa) 3 a.cap) (.slice a.D na a.dcap) (.slice (some pd) 3 d.cap) (.int .i64 c.W) (.int .i64 c.ow) (.int .i64 c.s) (.int .i64 c.t) W0) := hide ⟨hA.cell 0, hA.cell 2, hDx.cell 0, ten_kept a1 hbw, ten_kept d1 hbw, ten_kept q0 hbw, ten_kept q1 hbw⟩
  have HB0 := hide hbw
  have HW := hide hW0
  have HQ1 : Hid ((i : Int) / (c.C : Int) = (q : Int)) := hide (by rw [← hq.out]; exact (Int.natCast_ediv i c.C).symm)
  have HQ2 : Hid ((i : Int).tdiv (c.C : Int) = (q : Int)) := hide (by rw [Int.tdiv_eq_ediv_of_nonneg (by omega)]; exact HQ1.out)
  have HQ3 : Hid (IntKind.i64.wrap (q : Int) = (q : Int)) := hide (by rw [IntKind.wrap_i64]; omega)
  have HO1 : Hid ((i : Int) % (c.C : Int) = (O : Int)) := hide (by rw [← hO'.out]; exact (Int.natCast_emod i c.C).symm)
  have HX1 : Hid ((q : Int) % (c.ow : Int) = (X : Int)) := hide (by rw [← hX'.out]; exact (Int.natCast_emod q c.ow).symm)
  have HX2 : Hid ((q : Int).tmod (c.ow : Int) = (X : Int)) := hide (by rw [Int.tmod_eq_emod_of_nonneg (by omega)]; exact HX1.out)
  have HY1 : Hid ((q : Int) / (c.ow : Int) = (Y : Int)) := hide (by rw [← hY'.out]; exact (Int.natCast_ediv q c.ow).symm)
  have HY2 : Hid ((q : Int).tdiv (c.ow : Int) = (Y : Int)) := hide (by rw [Int.tdiv_eq_ediv_of_nonneg (by omega)]; exact HY1.out)
  have HYq : Y ≤ q := by rw [← hY'.out]; exact Nat.div_le_self _ _
  have HY3 : Hid (IntKind.i64.wrap (Y : Int) = (Y : Int)) := hide (by rw [IntKind.wrap_i64]; omega)
  have hNn : ¬ ((c.C : Int) = 0) := by omega
  have hNn2 : ¬ c.C = 0 := by omega
  have hwn : ¬ ((c.ow : Int) = 0) := by omega
  have hwn2 : ¬ c.ow = 0 := by omega
  have hi63 : (i : Int) ≤ 16384 := by omega
  have zd0 : ((w.alloc (.cells #[.slice (some pa) 3 a.cap, .bool a.u, .slice a.D na a.dcap] 26)).alloc (.cells #[.slice (some pd) 3 d.cap, .bool d.u] 24)).cell? ⟨pd.block, pd.off + 2, none⟩ = some (.int .i64 c.C) := by rw [← hW0]; exact ten_kept d2 hbw
  have HS16 : Hid (1 ≤ c.s ∧ c.s ≤ 16) := hide ⟨hok.s1, hok.s2⟩
  have HWC : Hid (c.W ≤ 256 ∧ c.H ≤ 256 ∧ na ≤ 16384) := hide ⟨hok.w2, hok.h2, by rw [Hna.out]; exact hok.a2⟩
  rw [hla, hld, epa, epd, hna.out]
  clear hi hQ ha hd hdz hf hok hra hrd a0 a1 a2 d0 d1 d2 q0 q1 hW0 hA hDx hbw hla hld how1 hAt epa epd hib hqi hC1
  go_enter Tryd.func94, Tryd.ntmps94
  go_wp2_with fail
  rw [← HW.out, HO1.out]
  clear HW zd0
  obtain ⟨-, -, kd0, -, jd1, -, -⟩ := HS.out
  have o1 := HQ1.out
  have o2 := HQ2.out
  have o3 := HQ3.out
  have o4 := HX1.out
  have o5 := HX2.out
  go_quiet (fail)
  clear o1 o2 o3 o4 o5 kd0 jd1
  have HBq := hide (below_drewN (Below.refl W0.heap.size W0) nq)
  generalize W0.drewN nq = W3 at *
  go_wp2_with fail
  obtain ⟨-, -, kd0, -, jd1, -, -⟩ := RpS.keep HS.out HBq.out
  have o1 := HQ1.out
  have o2 := HQ2.out
  have o3 := HQ3.out
  have o4 := HY1.out
  have o5 := HY2.out
  have o6 := HY3.out
  go_quiet (fail)
  clear o1 o2 o3 o4 o5 o6 kd0 jd1
  have HB := hide (below_drewN HBq.out nq)
  generalize W3.drewN nq = W4 at *
  go_wp2_with fail
  clear HBq
  obtain ⟨V, hV⟩ : ∃ x, Hid (c.v a.ds F = x) := ⟨_, hide rfl⟩
  have HVb : Hid (∀ k, -2147483648 ≤ V k ∧ V k ≤ 2147483647) := hide (fun k => by rw [← hV.out]; exact HSA.out (F + c.off k))
  have HEL : Hid (c.el avg a.ds F = if avg then Pl.mean (Pl.add V (c.s * c.s)) (c.s * c.s) else Pl.top V (c.s * c.s)) := hide (by unfold Pl.el; rw [hV.out])
  go_loopg [15, 16, 17, 18, 19] c.s (fun gq v15 v16 v17 _ _ wr => ∃ (e : Nat) (S M : Int), gq + e = c.s ∧ v17 = .int .i64 e ∧ v15 = .int .i64 S ∧ v16 = .int .i64 M ∧ Hid (Pl.add V (e * c.s) = S) ∧ Hid (Pl.best V (e * c.s) = M) ∧ Hid (Below W0.heap.size W0 wr))
  case atStart => exact ⟨0, 0, 0, by omega, rfl, rfl, rfl, hide (by rw [Nat.zero_mul]; rfl), hide (by rw [Nat.zero_mul]; rfl), HB⟩
  case round =>
    clear HB
    obtain ⟨e, S, M, he, rfl, rfl, rfl, HD, HM, HB⟩ := hrel
    obtain ⟨-, -, -, -, -, jq0, -⟩ := RpS.keep HS.out HB.out
    by_cases hek : e = c.s
    case pos =>
      have HSn : Hid (1 ≤ c.s * c.s ∧ c.s * c.s ≤ 256) := hide (by
        have h1 := HS16.out
        exact ⟨Nat.mul_pos h1.1 h1.1, by have := Nat.mul_le_mul h1.2 h1.2; omega⟩)
      obtain ⟨n, hn⟩ : ∃ n, Hid (c.s * c.s = n) := ⟨_, hide rfl⟩
      have HSn2 : Hid (1 ≤ n ∧ n ≤ 256) := hide (by rw [← hn.out]; exact HSn.out)
      rw [hek, hn.out] at HD HM
      rw [hn.out] at HEL
      have hlt : ¬ (e : Int) < (c.s : Int) := by omega
      have HBF := hide (HB0.out.trans (HB.out.mono HB0.out.size))
      cases avg
      case false =>
        have HE : Hid (c.el false a.ds F = M) := hide (by
          rw [HEL.out, ← HM.out]
          show Pl.top V n = Pl.best V n
          unfold Pl.best
          rw [if_neg (by have := HSn2.out; omega)])
        go_wp2_with fail
        go_ret
        exact ⟨by rw [HE.out]; rfl, HBF.out⟩
      case true =>
        have HE : Hid (c.el true a.ds F = (2 * S + (n : Int)) / (2 * (n : Int))) := hide (by
          rw [HEL.out, HD.out]
          rfl)
        have hsl := Pl.add_le V 2147483648 n (fun k _ => by have := HVb.out k; omega)
        rw [HD.out] at hsl
        have HDV := hide (fun W => rdiv_c (2 * S + (n : Int)) (2 * (n : Int)) W (by have := HSn2.out; omega) (by have := HSn2.out; omega))
        obtain ⟨t2, ht2⟩ : ∃ x, Hid (2 * S = x) := ⟨_, hide rfl⟩
        obtain ⟨u2, hu2⟩ : ∃ x, Hid (t2 + (n : Int) = x) := ⟨_, hide rfl⟩
        obtain ⟨m2, hm2⟩ : ∃ x, Hid (2 * (n : Int) = x) := ⟨_, hide rfl⟩
        have Hw0 : Hid (IntKind.i64.wrap ((c.s : Int) * (c.s : Int)) = (n : Int)) := hide (by rw [← Int.natCast_mul, hn.out, IntKind.wrap_i64]; have := HSn2.out; omega)
        have Hw1 : Hid (wrap64 (2 * S) = t2) := hide (by rw [← ht2.out]; have := HSn2.out; unfold wrap64; omega)
        have Hw2 : Hid (wrap64 (t2 + (n : Int)) = u2) := hide (by rw [← hu2.out, ← ht2.out]; have := HSn2.out; unfold wrap64; omega)
        have Hw3 : Hid (wrap64 (2 * (n : Int)) = m2) := hide (by rw [← hm2.out]; have := HSn2.out; unfold wrap64; omega)
        rw [ht2.out, hu2.out, hm2.out] at HDV HE
        obtain ⟨z, hz⟩ : ∃ x, Hid (u2 / m2 = x) := ⟨_, hide rfl⟩
        rw [hz.out] at HDV HE
        clear hsl
        go_wp2_with fail
        have o1 := Hw0.out
        go_quiet (fail)
        clear o1 jq0
        replace HB := hide (below_drewN HB.out nq)
        have HBF2 := hide (below_drewN HBF.out nq)
        generalize wr.drewN nq = W5 at *
        have o1 := Hw1.out
        have o2 := Hw2.out
        have o3 := Hw3.out
        go_wp2_with fail
        clear o1 o2 o3
        refine (HDV.out _).mono ?_
        rintro e' w9 ⟨rfl, hw⟩
        have hw := hw.symm
        subst hw
        go_wp2_with fail
        go_ret
        exact ⟨by rw [HE.out]; rfl, HBF2.out⟩
    case neg =>
    have hel : e < c.s := by omega
    have hel' : (e : Int) < (c.s : Int) := by omega
    go_wp2_with fail
    clear jq0
    obtain ⟨k0, hk0⟩ : ∃ x, Hid (e * c.s = x) := ⟨_, hide rfl⟩
    rw [hk0.out] at HD HM
    go_loopg [15, 16, 18, 19] c.s (fun gq v15 v16 v18 _ wr => ∃ (f : Nat) (S2 M2 : Int), gq + f = c.s ∧ v18 = .int .i64 f ∧ v15 = .int .i64 S2 ∧ v16 = .int .i64 M2 ∧ Hid (Pl.add V (k0 + f) = S2) ∧ Hid (Pl.best V (k0 + f) = M2) ∧ Hid (Below W0.heap.size W0 wr))
    case atStart => exact ⟨0, S, M, by omega, rfl, rfl, rfl, HD, HM, HB⟩
    case round =>
      clear HB
      obtain ⟨f, S2, M2, hf9, rfl, rfl, rfl, HD2, HM2, HB⟩ := hrel
      obtain ⟨ka0, ka2, -, ja1, -, jq0, jq1⟩ := RpS.keep HS.out HB.out
      by_cases hfk : f = c.s
      case pos =>
        have Hk1 : Hid ((e + 1) * c.s = k0 + f) := hide (by rw [Nat.add_mul, hk0.out, hfk, Nat.one_mul])
        have hlt : ¬ (f : Int) < (c.s : Int) := by omega
        have he1 : ((e : Nat) : Int) + 1 ≤ 1000101 := by have := HS16.out; omega
        clear ka0 ka2 ja1 jq1
        go_wp2_with fail
        go_roundg (c.s - (e + 1))
        case measure => omega
        case rel => exact ⟨e + 1, S2, M2, by omega, by go_num, rfl, rfl, hide (by rw [Hk1.out]; exact HD2.out), hide (by rw [Hk1.out]; exact HM2.out), HB⟩
      case neg =>
      have hfl : f < c.s := by omega
      have hfl' : (f : Int) < (c.s : Int) := by omega
      obtain ⟨y1, hy1⟩ : ∃ x, Hid (Yt + e = x) := ⟨_, hide rfl⟩
      obtain ⟨y2, hy2⟩ : ∃ x, Hid (y1 * c.W = x) := ⟨_, hide rfl⟩
      obtain ⟨y3, hy3⟩ : ∃ x, Hid (y2 + Xt = x) := ⟨_, hide rfl⟩
      obtain ⟨y4, hy4⟩ : ∃ x, Hid (y3 + f = x) := ⟨_, hide rfl⟩
      obtain ⟨y5, hy5⟩ : ∃ x, Hid (y4 * c.C = x) := ⟨_, hide rfl⟩
      obtain ⟨j, hj⟩ : ∃ x, Hid (y5 + O = x) := ⟨_, hide rfl⟩
      have Hkk : Hid (k0 + f < c.s * c.s) := hide (by
        have h1 : (e + 1) * c.s ≤ c.s * c.s := Nat.mul_le_mul_right _ hel
        rw [Nat.add_mul, hk0.out] at h1
        omega)
      have HOf : Hid (F + c.off (k0 + f) = j) := hide (by
        have hs := HS16.out.1
        rw [← HFe.out, Pl.off_eq, ← hk0.out]
        have e1 : (e * c.s + f) / c.s = e := by rw [Nat.add_comm, Nat.add_mul_div_right _ _ hs, Nat.div_eq_of_lt hfl, Nat.zero_add]
        have e2 : (e * c.s + f) % c.s = f := by rw [Nat.add_comm, Nat.add_mul_mod_self_right, Nat.mod_eq_of_lt hfl]
        rw [e1, e2, hy1.out, ← Nat.add_assoc, hy2.out, hy3.out, hy4.out, hy5.out, hj.out])
      have Hjn : Hid (j < na) := hide (by rw [← HOf.out, Hna.out]; exact HLt.out _ Hkk.out)
      have Hb : Hid (j ≤ 16384 ∧ y5 ≤ j ∧ y4 ≤ y5 ∧ y3 ≤ y4 ∧ y2 ≤ y3) := hide (by
        have h1 := Hjn.out
        have h2 := HWC.out
        have h3 : y4 ≤ y5 := by rw [← hy5.out]; exact Nat.le_mul_of_pos_right _ (by omega)
        have h4 := hj.out
        have h5 := hy4.out
        have h6 := hy3.out
        omega)
      have Hu1 : Hid (IntKind.i64.wrap ((Y : Int) * (c.t : Int)) = (Yt : Int)) := hide (by rw [← Int.natCast_mul, hYt.out, IntKind.wrap_i64]; have := HAT.out; have := HWC.out; omega)
      have Hu2 : Hid (IntKind.i64.wrap ((Yt : Int) + (e : Int)) = (y1 : Int)) := hide (by rw [IntKind.wrap_i64]; have := HAT.out; have := HWC.out; have := HS16.out; have := hy1.out; omega)
      have Hu3 : Hid (IntKind.i64.wrap ((y1 : Int) * (c.W : Int)) = (y2 : Int)) := hide (by rw [← Int.natCast_mul, hy2.out, IntKind.wrap_i64]; have := Hb.out; omega)
      have Hu4 : Hid (IntKind.i64.wrap ((X : Int) * (c.t : Int)) = (Xt : Int)) := hide (by rw [← Int.natCast_mul, hXt.out, IntKind.wrap_i64]; have := HAT.out; have := HWC.out; omega)
      have Hu5 : Hid (IntKind.i64.wrap ((y2 : Int) + (Xt : Int)) = (y3 : Int)) := hide (by rw [IntKind.wrap_i64]; have := Hb.out; have := hy3.out; omega)
      have Hu6 : Hid (IntKind.i64.wrap ((y3 : Int) + (f : Int)) = (y4 : Int)) := hide (by rw [IntKind.wrap_i64]; have := Hb.out; have := hy4.out; omega)
      have Hu7 : Hid (IntKind.i64.wrap ((y4 : Int) * (c.C : Int)) = (y5 : Int)) := hide (by rw [← Int.natCast_mul, hy5.out, IntKind.wrap_i64]; have := Hb.out; omega)
      have Hu8 : Hid (IntKind.i64.wrap ((y5 : Int) + (O : Int)) = (j : Int)) := hide (by rw [IntKind.wrap_i64]; have := Hb.out; have := hj.out; omega)
      obtain ⟨ad, x, hAD, ex, cx⟩ := ri_at (HDA.out wr (HB0.out.trans (HB.out.mono HB0.out.size))) j (by rw [hna.out]; exact Hjn.out)
      have Hex : Hid (V (k0 + f) = x) := hide (by rw [← hV.out]; unfold Pl.v; rw [HOf.out, List.getD_eq_getElem?_getD, ex.out, Option.getD_some])
      rw [hAD] at ka2
      have hj0 : (0 : Int) ≤ (j : Int) := by omega
      have hj1 : (j : Int) < na := by have := Hjn.out; omega
      clear hAD ex
      go_wp2_with fail
      have o1 := Hu1.out
      have o2 := Hu2.out
      have o3 := Hu3.out
      have o4 := Hu4.out
      have o5 := Hu5.out
      have o6 := Hu6.out
      have o7 := Hu7.out
      have o8 := Hu8.out
      go_quiet (fail)
      clear o1 o2 o3 o4 o5 o6 o7 o8 Hu1 Hu2 Hu3 Hu4 Hu5 Hu6 Hu7 Hu8 ka0 ka2 ja1 jq0 jq1 cx hj0 hj1
      replace HB := hide (below_drewN HB.out nq)
      generalize wr.drewN nq = W5 at *
      have hf1 : ((f : Nat) : Int) + 1 ≤ 1000101 := by have := HS16.out; omega
      have hsl := Pl.add_le V 2147483648 (k0 + f) (fun k _ => by have := HVb.out k; omega)
      rw [HD2.out] at hsl
      have hxb := HVb.out (k0 + f)
      rw [Hex.out] at hxb
      obtain ⟨S3, hS3⟩ : ∃ x_, Hid (S2 + x = x_) := ⟨_, hide rfl⟩
      have Hws : Hid (wrap64 (S2 + x) = S3) := hide (by rw [← hS3.out]; have := Hkk.out; have h1 := HS16.out; have := Nat.mul_le_mul h1.2 h1.2; unfold wrap64; omega)
      have HD3 : Hid (Pl.add V (k0 + (f + 1)) = S3) := hide (by
        show Pl.add V (k0 + f) + V (k0 + f) = S3
        rw [HD2.out, Hex.out, hS3.out])
      clear hsl hxb
      by_cases hz : e = 0 ∧ f = 0
      case pos =>
        have i1 : ((e : Int) == 0) = true := by simp; exact hz.1
        have i2 : ((f : Int) == 0) = true := by simp; exact hz.2
        have HM3 : Hid (Pl.best V (k0 + (f + 1)) = x) := hide (by
          have hk : k0 = 0 := by rw [← hk0.out, hz.1, Nat.zero_mul]
          have h := Pl.best_one V
          rw [← Hex.out, hk, hz.2]
          exact h)
        clear hz
        have o1 := Hws.out
        go_wp2_with fail
        clear o1
        go_roundg (c.s - (f + 1))
        case measure => omega
        case rel => exact ⟨f + 1, S3, x, by omega, by go_num, (by first | rfl | exact congrArg (Value.int .i64) Hws.out), rfl, HD3, HM3, HB⟩
      case neg =>
      have hkn : k0 + f ≠ 0 := fun h => hz (by
        have h1 : k0 = 0 := by omega
        rw [← hk0.out] at h1
        rcases Nat.mul_eq_zero.1 h1 with h2 | h2
        · exact ⟨h2, by omega⟩
        · have := HS16.out; omega)
      have HM3 : Hid (Pl.best V (k0 + (f + 1)) = max M2 x) := hide (by
        have h := Pl.best_step V (k0 + f) hkn
        rw [HM2.out, Hex.out] at h
        exact h)
      have HI : Hid (((e : Int) == 0) = false ∨ (((e : Int) == 0) = true ∧ ((f : Int) == 0) = false)) := hide (by
        by_cases h : e = 0
        · exact .inr ⟨by simp; exact h, by simp; omega⟩
        · exact .inl (by simp; omega))
      clear hz hkn
      rcases HI.out with i1 | ⟨i1, i2⟩
      all_goals
        by_cases hg : M2 < x
        case pos =>
          have HM4 : Hid (Pl.best V (k0 + (f + 1)) = x) := hide (by rw [HM3.out]; omega)
          have o1 := Hws.out
          go_wp2_with fail
          clear o1
          go_roundg (c.s - (f + 1))
          case measure => omega
          case rel => exact ⟨f + 1, S3, x, by omega, by go_num, (by first | rfl | exact congrArg (Value.int .i64) Hws.out), rfl, HD3, HM4, HB⟩
        case neg =>
          have HM4 : Hid (Pl.best V (k0 + (f + 1)) = M2) := hide (by rw [HM3.out]; omega)
          have o1 := Hws.out
          go_wp2_with fail
          clear o1
          go_roundg (c.s - (f + 1))
          case measure => omega
          case rel => exact ⟨f + 1, S3, M2, by omega, by go_num, (by first | rfl | exact congrArg (Value.int .i64) Hws.out), rfl, HD3, HM4, HB⟩
/-- What is held in a region: 5 cells. -/
abbrev CS5 (p0 p1 p2 p3 p4 : Addr) (v0 v1 v2 v3 v4 : Value) (W : World) : Prop := W.cell? p0 = some v0 ∧ W.cell? p1 = some v1 ∧ W.cell? p2 = some v2 ∧ W.cell? p3 = some v3 ∧ W.cell? p4 = some v4
theorem CS5.keep {p0 p1 p2 p3 p4 : Addr} {v0 v1 v2 v3 v4 : Value} {W W' : World} (h : CS5 p0 p1 p2 p3 p4 v0 v1 v2 v3 v4 W) (hB : Below W.heap.size W W') : CS5 p0 p1 p2 p3 p4 v0 v1 v2 v3 v4 W' := by
  obtain ⟨h0, h1, h2, h3, h4⟩ := h
  exact ⟨ten_kept h0 hB, ten_kept h1 hB, ten_kept h2 hB, ten_kept h3 hB, ten_kept h4 hB⟩
theorem CS5.far {p0 p1 p2 p3 p4 : Addr} {v0 v1 v2 v3 v4 : Value} {W : World} (h : CS5 p0 p1 p2 p3 p4 v0 v1 v2 v3 v4 W) {b : Nat} (l0 : b ≠ p0.block) (l1 : b ≠ p1.block) (l2 : b ≠ p2.block) (l3 : b ≠ p3.block) (l4 : b ≠ p4.block) (j : Nat) (x : Value) : CS5 p0 p1 p2 p3 p4 v0 v1 v2 v3 v4 (W.setCell ⟨b, j, none⟩ x) := by
  obtain ⟨h0, h1, h2, h3, h4⟩ := h
  have f : ∀ (p : Addr) (v : Value), b ≠ p.block → W.cell? p = some v → (W.setCell ⟨b, j, none⟩ x).cell? p = some v := fun p v hn hc => by
    rw [World.cell?_setCell_far _ _ _ _ (by exact hn)]
    exact hc
  exact ⟨f _ _ l0 h0, f _ _ l1 h1, f _ _ l2 h2, f _ _ l3 h3, f _ _ l4 h4⟩
theorem Pl.code_dims {x0 x1 x2 q0 q1 : Int} (h0 : 1 ≤ x0 ∧ x0 ≤ 256) (h1 : 1 ≤ x1 ∧ x1 ≤ 256) (h2 : 1 ≤ x2 ∧ x2 ≤ 256) (hp : Shp.prod [x0, x1, x2] ≤ 16384) (hq : 1 ≤ q0 ∧ q0 ≤ x0 ∧ q0 ≤ x1 ∧ 1 ≤ q1) : Shp.code [Pl.reach x0 q0 q1, Pl.reach x1 q0 q1, x2] = 0 := by
  obtain ⟨H, rfl⟩ : ∃ n : Nat, x0 = n := ⟨x0.toNat, by omega⟩
  obtain ⟨W, rfl⟩ : ∃ n : Nat, x1 = n := ⟨x1.toNat, by omega⟩
  obtain ⟨C, rfl⟩ : ∃ n : Nat, x2 = n := ⟨x2.toNat, by omega⟩
  obtain ⟨s, rfl⟩ : ∃ n : Nat, q0 = n := ⟨q0.toNat, by omega⟩
  obtain ⟨t, rfl⟩ : ∃ n : Nat, q1 = n := ⟨q1.toNat, by omega⟩
  rw [Pl.reach_nat H s t (by omega), Pl.reach_nat W s t (by omega)]
  rw [Pl.prod3] at hp
  have hpn := Int.ofNat_le.1 hp
  have ho1 := Pl.outs H s t (by omega) (by omega)
  have ho2 := Pl.outs W s t (by omega) (by omega)
  exact Pl.dims_ok _ _ _ ⟨Nat.succ_pos _, Nat.le_trans ho1 (by omega)⟩ ⟨Nat.succ_pos _, Nat.le_trans ho2 (by omega)⟩ (by omega) (Nat.le_trans (Nat.mul_le_mul_right C (Nat.mul_le_mul ho1 ho2)) hpn)
set_option maxRecDepth 100000 in
set_option maxHeartbeats 4000000 in
theorem rpool_c (qs : List Int) (A : Option Addr) (qcap : Nat) (a : Dsc) (w : World) (hq : Ri w A qs) (ha : a.In w) :
    Calls Tryd.prog 25 #[.slice A qs.length qcap, .agg (dcells a.P a.zs.length a.cap a.u)] w (RefE w (Pl.shape qs a) (Pl.kind qs a) (Pl.code qs a)) := by
  obtain ⟨W0, hW0⟩ : ∃ W, W = (w.alloc (.cells #[.slice a.P a.zs.length a.cap, .bool a.u] 24)).alloc (.cells #[.slice none 0 0, .bool false] 24) := ⟨_, rfl⟩
  have HA : Hid (Has W0 w.heap.size 24 [.slice a.P a.zs.length a.cap, .bool a.u]) := hide (by rw [hW0]; exact (Has.new w 24 _).alloc _)
  have HZ : Hid (Has W0 (w.heap.size + 1) 24 [.slice none 0 0, .bool false]) := hide (by rw [hW0]; exact box_at _ _ _ _ (by simp))
  have HB0 : Hid (Below w.heap.size w W0) := hide (by rw [hW0]; exact ((Below.refl _ _).alloc (Nat.le_refl _) _).alloc (by simp) _)
  have HW := hide hW0
  by_cases hn : qs.length = 2
  case neg =>
    have hcd : Pl.code qs a = 101 := by
      unfold Pl.code
      rw [if_pos hn]
    obtain ⟨e1, e2⟩ := Pl.bad (by rw [hcd]; decide)
    have HD1 := hide e1
    have HD2 := hide e2
    have HCD := hide hcd
    clear e1 e2 hcd
    obtain ⟨nq, hnq⟩ : ∃ n, Hid (qs.length = n) := ⟨_, hide rfl⟩
    rw [hnq.out] at hn ⊢
    have hni : ((nq : Int) != 2) = true := by simp; omega
    clear hq ha hW0
    go_enter Tryd.func25, Tryd.ntmps25
    go_wp2_with fail
    rw [← HW.out]
    refine bodyPost_ret (results_desc rfl _ _ (w.heap.size + 1) _ _ rfl HZ.out) rfl ?_
    rw [HD1.out, HD2.out, HCD.out]
    exact RefE.bad rfl HB0.out
  case pos =>
  obtain ⟨q0, q1, rfl⟩ : ∃ x y, qs = [x, y] := by
    match h : qs, hn with
    | [x, y], _ => exact ⟨x, y, rfl⟩
  have HQ := hide (fun W (h : Below w.heap.size w W) => hq.below h)
  rw [hn]
  clear hn hq
  have HVa := hide (refvalid_c a.zs a.P a.cap a.u W0 (ha.shp.below HB0.out) (by have := ha.ls; omega))
  have HIa := hide (fun W (h : Below w.heap.size w W) => ha.shp.below h)
  have a0 := HA.out.cell 0
  have a1 := HA.out.cell 1
  clear ha hW0
  obtain ⟨ka, hka⟩ : ∃ k, Hid (Shp.code a.zs = k) := ⟨_, hide rfl⟩
  rw [hka.out] at HVa
  go_enter Tryd.func25, Tryd.ntmps25
  go_wp2_with fail
  rw [← HW.out]
  clear HW a0 a1
  refine HVa.out.mono ?_
  rintro e w1 ⟨rfl, hb⟩
  replace HB0 := hide (HB0.out.trans (hb.mono HB0.out.size))
  replace HA := hide (HA.out.below hb HA.out.lt)
  replace HZ := hide (HZ.out.below hb HZ.out.lt)
  clear hb HVa
  by_cases h1 : ka = 0
  case neg =>
    have hcd : Pl.code [q0, q1] a = ka := by
      rw [Pl.code2q, hka.out, if_pos h1]
    obtain ⟨e1, e2⟩ := Pl.bad (by rw [hcd]; exact h1)
    have HD1 := hide e1
    have HD2 := hide e2
    have HCD := hide hcd
    have i1 : ((ka : Int) == 0) = false := by simp; omega
    have i2 : ((ka : Int) != 0) = true := by simp; omega
    clear hcd e1 e2 h1
    obtain ⟨z0, z1, zf0, zf1, HZf, HFf⟩ := elm_two HZ.out HB0.out (Nat.le_add_right _ 1) (.slice none 0 0) (.bool false)
    go_wp2_with fail
    refine bodyPost_ret (results_desc rfl _ _ (w.heap.size + 1) _ _ rfl HZf.out) rfl ?_
    rw [HD1.out, HD2.out, HCD.out]
    exact RefE.bad rfl HFf.out
  case pos =>
  subst h1
  have i1 : (((0 : Nat) : Int) == 0) = true := rfl
  have i2 : (((0 : Nat) : Int) != 0) = false := rfl
  obtain ⟨na, hna⟩ : ∃ n, Hid (a.zs.length = n) := ⟨_, hide rfl⟩
  rw [hna.out] at HA
  have a0 : w1.cell? ⟨w.heap.size, 0, none⟩ = some (.slice a.P na a.cap) := HA.out.cell 0
  by_cases h2 : na = 3
  case neg =>
    have hcd : Pl.code [q0, q1] a = 101 := by
      rw [Pl.code2q, hka.out, if_neg (by simp), hna.out, if_pos h2]
    have hni : ((na : Int) != 3) = true := by simp; omega
    obtain ⟨e1, e2⟩ := Pl.bad (by rw [hcd]; decide)
    have HD1 := hide e1
    have HD2 := hide e2
    have HCD := hide hcd
    clear e1 e2 hcd h2
    obtain ⟨z0, z1, zf0, zf1, HZf, HFf⟩ := elm_two HZ.out HB0.out (Nat.le_add_right _ 1) (.slice none 0 0) (.bool false)
    go_wp2_with fail
    refine bodyPost_ret (results_desc rfl _ _ (w.heap.size + 1) _ _ rfl HZf.out) rfl ?_
    rw [HD1.out, HD2.out, HCD.out]
    exact RefE.bad rfl HFf.out
  case pos =>
  subst h2
  obtain ⟨x0, x1, x2, hx⟩ : ∃ x y z, a.zs = [x, y, z] := by
    have := hna.out
    match h : a.zs, this with
    | [x, y, z], _ => exact ⟨x, y, z, rfl⟩
  have HXA := HIa
  rw [hx] at HXA
  clear HIa
  have HCQ : Hid (Pl.code [q0, q1] a = if q0 < 1 ∨ q0 > 16 ∨ q1 < 1 ∨ q1 > 16 then 102 else if q0 > x0 ∨ q0 > x1 then 101 else 0) := hide (by
    rw [Pl.code2q, hka.out, if_neg (by simp), hna.out, if_neg (by simp), hx]
    rfl)
  have HSH : Hid (Pl.code [q0, q1] a = 0 → Pl.shape [q0, q1] a = [Pl.reach x0 q0 q1, Pl.reach x1 q0 q1, x2] ∧ Pl.kind [q0, q1] a = a.u) := hide (fun h => by
    unfold Pl.shape Pl.kind Pl.dims
    rw [if_pos h, if_pos h, hx]
    exact ⟨rfl, rfl⟩)
  have HDA := hide (Shp.whole hka.out)
  rw [hx] at HDA
  have HD0 := hide (HDA.out.2.1 x0 (by simp))
  have HD1' := hide (HDA.out.2.1 x1 (by simp))
  have HD2' := hide (HDA.out.2.1 x2 (by simp))
  have HDP := hide HDA.out.2.2.2.2
  obtain ⟨pa, hpa, hpal, p0, p1, p2⟩ := ri_three (HXA.out _ HB0.out)
  have HPL : Hid (pa.block < w.heap.size) := hide (by obtain ⟨ad, h1, h2, -⟩ := (HXA.out w (Below.refl _ _)).2 (by simp); rw [hpa] at h1; rw [Option.some.inj h1]; exact h2)
  rw [hpa] at a0 HA
  clear hx hpa hpal HDA HXA
  obtain ⟨aq, haq, q0', q1'⟩ := ri_pair (HQ.out _ HB0.out)
  subst haq
  clear HQ
  by_cases g0 : q0 < 1
  case pos =>
    have hcd : Pl.code [q0, q1] a = 102 := by rw [HCQ.out, if_pos (.inl g0)]
    obtain ⟨e1, e2⟩ := Pl.bad (by rw [hcd]; decide)
    have HD1 := hide e1
    have HD2 := hide e2
    have HCD := hide hcd
    clear e1 e2 hcd
    obtain ⟨z0, z1, zf0, zf1, HZf, HFf⟩ := elm_two HZ.out HB0.out (Nat.le_add_right _ 1) (.slice none 0 0) (.bool false)
    go_wp2_with fail
    refine bodyPost_ret (results_desc rfl _ _ (w.heap.size + 1) _ _ rfl HZf.out) rfl ?_
    rw [HD1.out, HD2.out, HCD.out]
    exact RefE.bad rfl HFf.out
  case neg =>
  by_cases g1 : 16 < q0
  case pos =>
    have hcd : Pl.code [q0, q1] a = 102 := by rw [HCQ.out, if_pos (.inr (.inl g1))]
    obtain ⟨e1, e2⟩ := Pl.bad (by rw [hcd]; decide)
    have HD1 := hide e1
    have HD2 := hide e2
    have HCD := hide hcd
    clear e1 e2 hcd
    obtain ⟨z0, z1, zf0, zf1, HZf, HFf⟩ := elm_two HZ.out HB0.out (Nat.le_add_right _ 1) (.slice none 0 0) (.bool false)
    go_wp2_with fail
    refine bodyPost_ret (results_desc rfl _ _ (w.heap.size + 1) _ _ rfl HZf.out) rfl ?_
    rw [HD1.out, HD2.out, HCD.out]
    exact RefE.bad rfl HFf.out
  case neg =>
  by_cases g2 : q1 < 1
  case pos =>
    have hcd : Pl.code [q0, q1] a = 102 := by rw [HCQ.out, if_pos (.inr (.inr (.inl g2)))]
    obtain ⟨e1, e2⟩ := Pl.bad (by rw [hcd]; decide)
    have HD1 := hide e1
    have HD2 := hide e2
    have HCD := hide hcd
    clear e1 e2 hcd
    obtain ⟨z0, z1, zf0, zf1, HZf, HFf⟩ := elm_two HZ.out HB0.out (Nat.le_add_right _ 1) (.slice none 0 0) (.bool false)
    go_wp2_with fail
    refine bodyPost_ret (results_desc rfl _ _ (w.heap.size + 1) _ _ rfl HZf.out) rfl ?_
    rw [HD1.out, HD2.out, HCD.out]
    exact RefE.bad rfl HFf.out
  case neg =>
  by_cases g3 : 16 < q1
  case pos =>
    have hcd : Pl.code [q0, q1] a = 102 := by rw [HCQ.out, if_pos (.inr (.inr (.inr g3)))]
    obtain ⟨e1, e2⟩ := Pl.bad (by rw [hcd]; decide)
    have HD1 := hide e1
    have HD2 := hide e2
    have HCD := hide hcd
    clear e1 e2 hcd
    obtain ⟨z0, z1, zf0, zf1, HZf, HFf⟩ := elm_two HZ.out HB0.out (Nat.le_add_right _ 1) (.slice none 0 0) (.bool false)
    go_wp2_with fail
    refine bodyPost_ret (results_desc rfl _ _ (w.heap.size + 1) _ _ rfl HZf.out) rfl ?_
    rw [HD1.out, HD2.out, HCD.out]
    exact RefE.bad rfl HFf.out
  case neg =>
  have Hc : Hid (1 ≤ q0 ∧ q0 ≤ 16 ∧ 1 ≤ q1 ∧ q1 ≤ 16) := hide (by omega)
  by_cases k0 : x0 < q0
  case pos =>
    have hcd : Pl.code [q0, q1] a = 101 := by rw [HCQ.out, if_neg (by have := Hc.out; omega), if_pos (.inl k0)]
    obtain ⟨e1, e2⟩ := Pl.bad (by rw [hcd]; decide)
    have HD1 := hide e1
    have HD2 := hide e2
    have HCD := hide hcd
    clear e1 e2 hcd
    obtain ⟨z0, z1, zf0, zf1, HZf, HFf⟩ := elm_two HZ.out HB0.out (Nat.le_add_right _ 1) (.slice none 0 0) (.bool false)
    go_wp2_with fail
    refine bodyPost_ret (results_desc rfl _ _ (w.heap.size + 1) _ _ rfl HZf.out) rfl ?_
    rw [HD1.out, HD2.out, HCD.out]
    exact RefE.bad rfl HFf.out
  case neg =>
  by_cases k1 : x1 < q0
  case pos =>
    have hcd : Pl.code [q0, q1] a = 101 := by rw [HCQ.out, if_neg (by have := Hc.out; omega), if_pos (.inr k1)]
    obtain ⟨e1, e2⟩ := Pl.bad (by rw [hcd]; decide)
    have HD1 := hide e1
    have HD2 := hide e2
    have HCD := hide hcd
    clear e1 e2 hcd
    obtain ⟨z0, z1, zf0, zf1, HZf, HFf⟩ := elm_two HZ.out HB0.out (Nat.le_add_right _ 1) (.slice none 0 0) (.bool false)
    go_wp2_with fail
    refine bodyPost_ret (results_desc rfl _ _ (w.heap.size + 1) _ _ rfl HZf.out) rfl ?_
    rw [HD1.out, HD2.out, HCD.out]
    exact RefE.bad rfl HFf.out
  case neg =>
  have HCK : Hid (Pl.code [q0, q1] a = 0) := hide (by rw [HCQ.out, if_neg (by have := Hc.out; omega), if_neg (by omega)])
  have Hy : Hid (q0 ≤ x0 ∧ q0 ≤ x1) := hide (by omega)
  have HCT := hide (Pl.code_dims HD0.out HD1'.out HD2'.out HDP.out ⟨Hc.out.1, Hy.out.1, Hy.out.2, Hc.out.2.2.1⟩)
  go_wp2_with fail
  clear g0 g1 g2 g3 k0 k1 q0' q1' i1 i2
  obtain ⟨d0, hd0⟩ : ∃ z : Int, Hid (x0 - q0 = z) := ⟨_, hide rfl⟩
  obtain ⟨d1, hd1⟩ : ∃ z : Int, Hid (x1 - q0 = z) := ⟨_, hide rfl⟩
  have Kd : Hid (0 ≤ d0 ∧ d0 ≤ 256 ∧ 0 ≤ d1 ∧ d1 ≤ 256) := hide (by have h1 := hd0.out; have h2 := hd1.out; have := Hy.out; have := HD0.out; have := HD1'.out; have := Hc.out; omega)
  obtain ⟨h0, hh0⟩ : ∃ z : Int, Hid (d0 / q1 = z) := ⟨_, hide rfl⟩
  obtain ⟨h1, hh1⟩ : ∃ z : Int, Hid (d1 / q1 = z) := ⟨_, hide rfl⟩
  have Kh : Hid (0 ≤ h0 ∧ h0 ≤ 256 ∧ 0 ≤ h1 ∧ h1 ≤ 256) := hide (by
    have k := Kd.out
    have kq := Hc.out
    have u1 := Int.ediv_nonneg k.1 (show 0 ≤ q1 by omega)
    have u2 := Int.ediv_nonneg k.2.2.1 (show 0 ≤ q1 by omega)
    have u3 := Int.ediv_le_self q1 k.1
    have u4 := Int.ediv_le_self q1 k.2.2.1
    rw [hh0.out] at u1 u3
    rw [hh1.out] at u2 u4
    omega)
  have Hd0 : Hid (IntKind.i64.wrap (x0 - q0) = d0) := hide (by rw [hd0.out, IntKind.wrap_i64]; have := Kd.out; omega)
  have Hd1 : Hid (IntKind.i64.wrap (x1 - q0) = d1) := hide (by rw [hd1.out, IntKind.wrap_i64]; have := Kd.out; omega)
  have Ht0 : Hid (d0.tdiv q1 = h0) := hide (by rw [Int.tdiv_eq_ediv_of_nonneg (by have := Kd.out; omega)]; exact hh0.out)
  have Ht1 : Hid (d1.tdiv q1 = h1) := hide (by rw [Int.tdiv_eq_ediv_of_nonneg (by have := Kd.out; omega)]; exact hh1.out)
  have Hw0 : Hid (IntKind.i64.wrap h0 = h0) := hide (by rw [IntKind.wrap_i64]; have := Kh.out; omega)
  have Hw1 : Hid (IntKind.i64.wrap h1 = h1) := hide (by rw [IntKind.wrap_i64]; have := Kh.out; omega)
  obtain ⟨R0, hR0⟩ : ∃ z : Int, Hid (h0 + 1 = z) := ⟨_, hide rfl⟩
  obtain ⟨R1, hR1⟩ : ∃ z : Int, Hid (h1 + 1 = z) := ⟨_, hide rfl⟩
  have HR00 : Hid (IntKind.i64.wrap (h0 + 1) = R0) := hide (by rw [hR0.out, IntKind.wrap_i64]; have := Kh.out; have := hR0.out; omega)
  have HR11 : Hid (IntKind.i64.wrap (h1 + 1) = R1) := hide (by rw [hR1.out, IntKind.wrap_i64]; have := Kh.out; have := hR1.out; omega)
  have HDM : Hid (Pl.reach x0 q0 q1 = R0 ∧ Pl.reach x1 q0 q1 = R1) := hide (by
    unfold Pl.reach
    rw [hd0.out, hd1.out, hh0.out, hh1.out, hR0.out, hR1.out]
    exact ⟨rfl, rfl⟩)
  rw [HDM.out.1, HDM.out.2] at HCT HSH
  have HWF : Hid (∀ q ∈ [R0, R1, x2], (Lit.int .i64 q).wf = true) := hide (by
    intro q hq
    simp at hq
    have := Kh.out
    have := hR0.out
    have := hR1.out
    have := HD2'.out
    rcases hq with rfl | rfl | rfl <;> exact wf_i64 _ (by omega))
  have hqn : ¬ q1 = 0 := by have := Hc.out; omega
  have hS0 : CS5 ⟨w.heap.size, 0, none⟩ ⟨w.heap.size, 1, none⟩ pa ⟨pa.block, pa.off + 1, none⟩ ⟨pa.block, pa.off + 2, none⟩ (.slice (some pa) 3 a.cap) (.bool a.u) (.int .i64 x0) (.int .i64 x1) (.int .i64 x2) w1.drew := (⟨a0, HA.out.cell 1, p0, p1, p2⟩ : CS5 ⟨w.heap.size, 0, none⟩ ⟨w.heap.size, 1, none⟩ pa ⟨pa.block, pa.off + 1, none⟩ ⟨pa.block, pa.off + 2, none⟩ (.slice (some pa) 3 a.cap) (.bool a.u) (.int .i64 x0) (.int .i64 x1) (.int .i64 x2) w1)
  have HS00 : CS5 ⟨w.heap.size, 0, none⟩ ⟨w.heap.size, 1, none⟩ pa ⟨pa.block, pa.off + 1, none⟩ ⟨pa.block, pa.off + 2, none⟩ (.slice (some pa) 3 a.cap) (.bool a.u) (.int .i64 x0) (.int .i64 x1) (.int .i64 x2) w1 := ⟨a0, HA.out.cell 1, p0, p1, p2⟩
  have hbA : Below w1.heap.size w1 (w1.alloc (.cells #[.int .i64 R0, .int .i64 R1, .int .i64 x2] 3)) := (Below.refl _ _).alloc (Nat.le_refl _) _
  have hS1 : CS5 ⟨w.heap.size, 0, none⟩ ⟨w.heap.size, 1, none⟩ pa ⟨pa.block, pa.off + 1, none⟩ ⟨pa.block, pa.off + 2, none⟩ (.slice (some pa) 3 a.cap) (.bool a.u) (.int .i64 x0) (.int .i64 x1) (.int .i64 x2) (w1.alloc (.cells #[.int .i64 R0, .int .i64 R1, .int .i64 x2] 3)).drew := CS5.keep HS00 hbA.drew
  have hri : Ri (w1.alloc (.cells #[.int .i64 R0, .int .i64 R1, .int .i64 x2] 3)).drew (some ⟨w1.heap.size, 0, none⟩) [R0, R1, x2] := ((Has.new w1 3 (i64s [R0, R1, x2])).drewN 1).ri HWF.out
  have hse := seen_c ⟨some ⟨w1.heap.size, 0, none⟩, [R0, R1, x2], 3, a.u⟩ _ ⟨hri, by simp⟩
  have hrf : Rf.zs ⟨none, [R0, R1, x2], 0, a.u⟩ = [R0, R1, x2] ∧ Rf.u ⟨none, [R0, R1, x2], 0, a.u⟩ = a.u := by
    unfold Rf.zs Rf.u
    rw [if_pos HCT.out, if_pos HCT.out]
    exact ⟨rfl, rfl⟩
  have HC : Hid (Calls Tryd.prog 66 #[.agg #[.slice (some ⟨w1.heap.size, 0, none⟩) 3 3, .bool a.u]] (w1.alloc (.cells #[.int .i64 R0, .int .i64 R1, .int .i64 x2] 3)).drew (RefE (w1.alloc (.cells #[.int .i64 R0, .int .i64 R1, .int .i64 x2] 3)).drew [R0, R1, x2] a.u 0)) := hide (by
    have h : Calls Tryd.prog 66 #[.agg #[.slice (some ⟨w1.heap.size, 0, none⟩) 3 3, .bool a.u]] (w1.alloc (.cells #[.int .i64 R0, .int .i64 R1, .int .i64 x2] 3)).drew (RefE (w1.alloc (.cells #[.int .i64 R0, .int .i64 R1, .int .i64 x2] 3)).drew (Rf.zs ⟨none, [R0, R1, x2], 0, a.u⟩) (Rf.u ⟨none, [R0, R1, x2], 0, a.u⟩) (Shp.code [R0, R1, x2])) := hse
    rw [hrf.1, hrf.2, HCT.out] at h
    exact h)
  have HZ0 := hide ((HZ.out.alloc (.cells #[.int .i64 R0, .int .i64 R1, .int .i64 x2] 3)).drewN 1)
  have HBA := hide (HB0.out.trans (hbA.drew.mono HB0.out.size))
  have HW1L : Hid (w.heap.size + 1 < w1.heap.size) := hide HZ.out.lt
  clear HS00 hbA hri hrf hse p0 p1 p2 a0
  have o1 := Hd0.out
  have o2 := Hd1.out
  have o3 := hh0.out
  have o4 := hh1.out
  have o5 := Ht0.out
  have o6 := Ht1.out
  have o7 := Hw0.out
  have o8 := Hw1.out
  have o9 := HR00.out
  have o10 := HR11.out
  have o11 := Kd.out.1
  have o12 := Kd.out.2.2.1
  go_region_held3 (fun W => W.cell? ⟨w.heap.size, 0, none⟩ = some (.slice (some pa) 3 a.cap) ∧ W.cell? ⟨w.heap.size, 1, none⟩ = some (.bool a.u) ∧ W.cell? pa = some (.int .i64 x0) ∧ W.cell? ⟨pa.block, pa.off + 1, none⟩ = some (.int .i64 x1) ∧ W.cell? ⟨pa.block, pa.off + 2, none⟩ = some (.int .i64 x2))
    (first | with_reducible exact hS0 | with_reducible exact hS1 | with_reducible exact hS2 | with_reducible exact hS3.out | with_reducible assumption)
    (first | (go_at_call 66; (with_reducible refine HC.out.mono ?_); rintro e W4 ⟨⟨d, rfl, hdi, hdf, hdz, hdu⟩, hb⟩; have HDZ := hide hdz; have HDU := hide hdu; clear hdz hdu; have hS2 := CS5.keep hS1 hb; have n1 : w.heap.size + 1 ≠ w.heap.size := (by omega); have n2 : w.heap.size + 1 ≠ pa.block := (by have := HPL.out; omega); have hS3 := hide (CS5.far (CS5.far hS2 n1 n1 n2 n2 n2 0 (.slice d.P d.zs.length d.cap)) n1 n1 n2 n2 n2 1 (.bool d.u)); have hz4 := HZ0.out.below hb HZ0.out.lt; have hB4 := HBA.out.trans (hb.mono HBA.out.size); obtain ⟨z0, z1, zf0, zf1, HZf, HFf⟩ := elm_two hz4 hB4 (Nat.le_add_right _ 1) (.slice d.P d.zs.length d.cap) (.bool d.u); have hdl := hide (hdi.far2 hdf (by show w.heap.size + 1 < _; have := HW1L.out; simp; omega) (.slice d.P d.zs.length d.cap) (.bool d.u))))
  go_wp2_with fail
  refine bodyPost_ret (results_desc rfl _ _ (w.heap.size + 1) _ _ rfl HZf.out) rfl ?_
  have h1 := HSH.out HCK.out
  rw [h1.1, h1.2, HCK.out]
  exact ⟨⟨d, rfl, hdl.out, fun ad h => Nat.le_trans (by have := HW1L.out; simp; omega) (hdf ad h), HDZ.out, HDU.out⟩, HFf.out⟩
theorem row_dsc1 {w : World} {B : Option Addr} {a : Dsc} (hR : Row w B ([a].flatMap Dsc.vals)) : ∃ ad, B = some ad ∧ ad.block < w.heap.size ∧ w.cell? ad = some (.slice a.P a.zs.length a.cap) ∧ w.cell? ⟨ad.block, ad.off + 1, none⟩ = some (.bool a.u) := by
  obtain ⟨ad, h1, h2, h3⟩ := hR (by simp [Dsc.vals])
  have c0 := h3 0 _ rfl
  have c1 := h3 1 _ rfl
  rw [Addr.add_zero'] at c0
  simp only [Addr.add, Nat.reduceEqDiff, if_false] at c1
  exact ⟨ad, h1, h2, c0, c1⟩
set_option maxRecDepth 100000 in
set_option maxHeartbeats 4000000 in
theorem rres_pool14 (qs : List Int) (a : Dsc) (A B : Option Addr) (qcap cap : Nat) (w : World) (hQ : Ri w A qs) (hR : Row w B ([a].flatMap Dsc.vals)) (ha : a.In w) :
    Calls Tryd.prog 53 #[.int .i64 14, .slice A qs.length qcap, .slice B 1 cap] w (RefE w (Pl.shape qs a) (Pl.kind qs a) (Pl.code qs a)) := by
  obtain ⟨W0, hW0⟩ : ∃ W, W = w.alloc (.cells #[.slice none 0 0, .bool false] 24) := ⟨_, rfl⟩
  have hbw : Below w.heap.size w W0 := by rw [hW0]; exact (Below.refl _ _).alloc (Nat.le_refl _) _
  have HZ : Hid (Has W0 w.heap.size 24 [.slice none 0 0, .bool false]) := hide (by rw [hW0]; exact Has.new _ _ _)
  obtain ⟨pr, hpr, hprl, r0, r1⟩ := row_dsc1 hR
  subst hpr
  have HB0 := hide hbw
  have HW := hide hW0
  have HWZ : Hid (w.heap.size < W0.heap.size) := hide HZ.out.lt
  by_cases hql : qs.length = 2
  case neg =>
    have hcd : Pl.code qs a = 101 := by
      unfold Pl.code
      rw [if_pos hql]
    obtain ⟨e1, e2⟩ := Pl.bad (by rw [hcd]; decide)
    have HD1 := hide e1
    have HD2 := hide e2
    have HCD := hide hcd
    obtain ⟨nq, hnq⟩ : ∃ n, Hid (qs.length = n) := ⟨_, hide rfl⟩
    rw [hnq.out] at hql ⊢
    have i1 : ((nq : Int) == 2) = false := by simp; omega
    have i2 : ((nq : Int) != 2) = true := by simp; omega
    clear hQ hR ha hW0 hbw r0 r1 hprl e1 e2 hcd hql
    go_enter Tryd.func53, Tryd.ntmps53
    go_wp2_with fail
    rw [← HW.out]
    clear HW
    refine (rknown14 _).mono ?_
    rintro e wq ⟨rfl, hw⟩
    have hw := hw.symm
    subst hw
    go_wp2_with fail
    refine (rins14 _).mono ?_
    rintro e wq ⟨rfl, hw⟩
    have hw := hw.symm
    subst hw
    go_wp2_with fail
    refine (rargs14 _).mono ?_
    rintro e wq ⟨rfl, hw⟩
    have hw := hw.symm
    subst hw
    obtain ⟨z0, z1, zf0, zf1, HZf, HFf⟩ := elm_two HZ.out HB0.out (Nat.le_refl _) (.slice none 0 0) (.bool false)
    go_wp2_with fail
    refine bodyPost_ret (results_desc rfl _ _ w.heap.size _ _ rfl HZf.out) rfl ?_
    rw [HD1.out, HD2.out, HCD.out]
    exact RefE.bad rfl HFf.out
  case pos =>
  have hrc := rpool_c qs A qcap a W0 (hQ.below hbw) (ha.below hbw)
  rw [hql] at hrc ⊢
  have HC : Hid (Calls Tryd.prog 25 #[.slice A 2 qcap, .agg #[.slice a.P a.zs.length a.cap, .bool a.u]] W0 (RefE W0 (Pl.shape qs a) (Pl.kind qs a) (Pl.code qs a))) := hide hrc
  have z0 : W0.cell? pr = some (.slice a.P a.zs.length a.cap) := (hbw.cell hprl).trans r0
  have z1 : W0.cell? ⟨pr.block, pr.off + 1, none⟩ = some (.bool a.u) := (hbw.cell (p := ⟨pr.block, pr.off + 1, none⟩) hprl).trans r1
  obtain ⟨k, hk⟩ : ∃ n, Hid (Pl.code qs a = n) := ⟨_, hide rfl⟩
  obtain ⟨zs, hzs⟩ : ∃ n, Hid (Pl.shape qs a = n) := ⟨_, hide rfl⟩
  obtain ⟨u, hu⟩ : ∃ n, Hid (Pl.kind qs a = n) := ⟨_, hide rfl⟩
  rw [hk.out, hzs.out, hu.out] at HC ⊢
  clear hQ hR ha hW0 hbw r0 r1 hrc hql hprl
  go_enter Tryd.func53, Tryd.ntmps53
  go_wp2_with fail
  rw [← HW.out]
  clear HW
  refine (rknown14 _).mono ?_
  rintro e wq ⟨rfl, hw⟩
  have hw := hw.symm
  subst hw
  go_wp2_with fail
  refine (rins14 _).mono ?_
  rintro e wq ⟨rfl, hw⟩
  have hw := hw.symm
  subst hw
  go_wp2_with fail
  refine (rargs14 _).mono ?_
  rintro e wq ⟨rfl, hw⟩
  have hw := hw.symm
  subst hw
  go_wp2_with fail
  refine HC.out.mono ?_
  rintro e W4 ⟨⟨d, rfl, hdi, hdf, hdz, hdu⟩, hb⟩
  have hz4 := HZ.out.below hb HZ.out.lt
  have hB4 := HB0.out.trans (hb.mono HB0.out.size)
  obtain ⟨z0, z1, zf0, zf1, HZf, HFf⟩ := elm_two hz4 hB4 (Nat.le_refl _) (.slice d.P d.zs.length d.cap) (.bool d.u)
  have hdl := hide (hdi.far2 hdf (by exact HWZ.out) (.slice d.P d.zs.length d.cap) (.bool d.u))
  have HDF := hide hdf
  have HDZ := hide hdz
  have HDU := hide hdu
  clear hdi hdf hdz hdu hb hz4 hB4 HC
  go_wp2_with fail
  refine bodyPost_ret (results_desc rfl _ _ w.heap.size _ _ rfl HZf.out) rfl ?_
  exact ⟨⟨d, rfl, hdl.out, fun ad h => Nat.le_trans (Nat.le_of_lt HWZ.out) (HDF.out ad h), HDZ.out, HDU.out⟩, HFf.out⟩
set_option maxRecDepth 100000 in
set_option maxHeartbeats 4000000 in
theorem relem_pool14 (a : Ten) (d : Dsc) (A B : Option Addr) (qcap cap : Nat) (i v : Int) (w : World) (hR : Row w B ([a].flatMap Ten.vals))
    (hC : ∀ W, Below w.heap.size w W → Calls Tryd.prog 94 #[.bool false, .slice A 2 qcap, .int .i64 i, .agg (tcells a.P a.zs.length a.cap a.u a.D a.ds.length a.dcap), .agg (dcells d.P d.zs.length d.cap d.u)] W fun e w' => e = .returned (.int .i64 v) ∧ Below W.heap.size W w') :
    Calls Tryd.prog 56 #[.int .i64 14, .slice A 2 qcap, .int .i64 i, .slice B 1 cap, .agg (dcells d.P d.zs.length d.cap d.u)] w fun e w' => e = .returned (.int .i64 v) ∧ Below w.heap.size w w' := by
  obtain ⟨pr, hpr, hprl, r0, r1, r2⟩ := row_one hR
  subst hpr
  obtain ⟨W0, hW0⟩ : ∃ W, W = ((w.alloc (.cells #[.slice d.P d.zs.length d.cap, .bool d.u] 24)).alloc (.cells #[.slice a.P a.zs.length a.cap, .bool a.u, .slice a.D a.ds.length a.dcap] 26)) := ⟨_, rfl⟩
  have hbz : Below w.heap.size w (w.alloc (.cells #[.slice d.P d.zs.length d.cap, .bool d.u] 24)) := (Below.refl _ _).alloc (Nat.le_refl _) _
  have hbw : Below w.heap.size w W0 := by rw [hW0]; exact hbz.alloc (by simp) _
  have z0 : (w.alloc (.cells #[.slice d.P d.zs.length d.cap, .bool d.u] 24)).cell? pr = some (.slice a.P a.zs.length a.cap) := (hbz.cell hprl).trans r0
  have z1 : (w.alloc (.cells #[.slice d.P d.zs.length d.cap, .bool d.u] 24)).cell? ⟨pr.block, pr.off + 1, none⟩ = some (.bool a.u) := (hbz.cell (p := ⟨pr.block, pr.off + 1, none⟩) hprl).trans r1
  have z2 : (w.alloc (.cells #[.slice d.P d.zs.length d.cap, .bool d.u] 24)).cell? ⟨pr.block, pr.off + 2, none⟩ = some (.slice a.D a.ds.length a.dcap) := (hbz.cell (p := ⟨pr.block, pr.off + 2, none⟩) hprl).trans r2
  have HC := hide (hC W0 hbw)
  have HB0 := hide hbw
  have HW := hide hW0
  clear hR hC hW0 hbw hbz r0 r1 r2 hprl
  go_enter Tryd.func56, Tryd.ntmps56
  go_wp2_with fail
  rw [← HW.out]
  clear HW z0 z1 z2
  refine HC.out.mono ?_
  rintro e W4 ⟨rfl, hb⟩
  have HFin := hide (HB0.out.trans (hb.mono HB0.out.size))
  clear hb
  go_wp2_with fail
  go_ret
  exact ⟨rfl, HFin.out⟩
set_option maxRecDepth 100000 in
set_option maxHeartbeats 4000000 in
theorem rres_pool15 (qs : List Int) (a : Dsc) (A B : Option Addr) (qcap cap : Nat) (w : World) (hQ : Ri w A qs) (hR : Row w B ([a].flatMap Dsc.vals)) (ha : a.In w) :
    Calls Tryd.prog 53 #[.int .i64 15, .slice A qs.length qcap, .slice B 1 cap] w (RefE w (Pl.shape qs a) (Pl.kind qs a) (Pl.code qs a)) := by
  obtain ⟨W0, hW0⟩ : ∃ W, W = w.alloc (.cells #[.slice none 0 0, .bool false] 24) := ⟨_, rfl⟩
  have hbw : Below w.heap.size w W0 := by rw [hW0]; exact (Below.refl _ _).alloc (Nat.le_refl _) _
  have HZ : Hid (Has W0 w.heap.size 24 [.slice none 0 0, .bool false]) := hide (by rw [hW0]; exact Has.new _ _ _)
  obtain ⟨pr, hpr, hprl, r0, r1⟩ := row_dsc1 hR
  subst hpr
  have HB0 := hide hbw
  have HW := hide hW0
  have HWZ : Hid (w.heap.size < W0.heap.size) := hide HZ.out.lt
  by_cases hql : qs.length = 2
  case neg =>
    have hcd : Pl.code qs a = 101 := by
      unfold Pl.code
      rw [if_pos hql]
    obtain ⟨e1, e2⟩ := Pl.bad (by rw [hcd]; decide)
    have HD1 := hide e1
    have HD2 := hide e2
    have HCD := hide hcd
    obtain ⟨nq, hnq⟩ : ∃ n, Hid (qs.length = n) := ⟨_, hide rfl⟩
    rw [hnq.out] at hql ⊢
    have i1 : ((nq : Int) == 2) = false := by simp; omega
    have i2 : ((nq : Int) != 2) = true := by simp; omega
    clear hQ hR ha hW0 hbw r0 r1 hprl e1 e2 hcd hql
    go_enter Tryd.func53, Tryd.ntmps53
    go_wp2_with fail
    rw [← HW.out]
    clear HW
    refine (rknown15 _).mono ?_
    rintro e wq ⟨rfl, hw⟩
    have hw := hw.symm
    subst hw
    go_wp2_with fail
    refine (rins15 _).mono ?_
    rintro e wq ⟨rfl, hw⟩
    have hw := hw.symm
    subst hw
    go_wp2_with fail
    refine (rargs15 _).mono ?_
    rintro e wq ⟨rfl, hw⟩
    have hw := hw.symm
    subst hw
    obtain ⟨z0, z1, zf0, zf1, HZf, HFf⟩ := elm_two HZ.out HB0.out (Nat.le_refl _) (.slice none 0 0) (.bool false)
    go_wp2_with fail
    refine bodyPost_ret (results_desc rfl _ _ w.heap.size _ _ rfl HZf.out) rfl ?_
    rw [HD1.out, HD2.out, HCD.out]
    exact RefE.bad rfl HFf.out
  case pos =>
  have hrc := rpool_c qs A qcap a W0 (hQ.below hbw) (ha.below hbw)
  rw [hql] at hrc ⊢
  have HC : Hid (Calls Tryd.prog 25 #[.slice A 2 qcap, .agg #[.slice a.P a.zs.length a.cap, .bool a.u]] W0 (RefE W0 (Pl.shape qs a) (Pl.kind qs a) (Pl.code qs a))) := hide hrc
  have z0 : W0.cell? pr = some (.slice a.P a.zs.length a.cap) := (hbw.cell hprl).trans r0
  have z1 : W0.cell? ⟨pr.block, pr.off + 1, none⟩ = some (.bool a.u) := (hbw.cell (p := ⟨pr.block, pr.off + 1, none⟩) hprl).trans r1
  obtain ⟨k, hk⟩ : ∃ n, Hid (Pl.code qs a = n) := ⟨_, hide rfl⟩
  obtain ⟨zs, hzs⟩ : ∃ n, Hid (Pl.shape qs a = n) := ⟨_, hide rfl⟩
  obtain ⟨u, hu⟩ : ∃ n, Hid (Pl.kind qs a = n) := ⟨_, hide rfl⟩
  rw [hk.out, hzs.out, hu.out] at HC ⊢
  clear hQ hR ha hW0 hbw r0 r1 hrc hql hprl
  go_enter Tryd.func53, Tryd.ntmps53
  go_wp2_with fail
  rw [← HW.out]
  clear HW
  refine (rknown15 _).mono ?_
  rintro e wq ⟨rfl, hw⟩
  have hw := hw.symm
  subst hw
  go_wp2_with fail
  refine (rins15 _).mono ?_
  rintro e wq ⟨rfl, hw⟩
  have hw := hw.symm
  subst hw
  go_wp2_with fail
  refine (rargs15 _).mono ?_
  rintro e wq ⟨rfl, hw⟩
  have hw := hw.symm
  subst hw
  go_wp2_with fail
  refine HC.out.mono ?_
  rintro e W4 ⟨⟨d, rfl, hdi, hdf, hdz, hdu⟩, hb⟩
  have hz4 := HZ.out.below hb HZ.out.lt
  have hB4 := HB0.out.trans (hb.mono HB0.out.size)
  obtain ⟨z0, z1, zf0, zf1, HZf, HFf⟩ := elm_two hz4 hB4 (Nat.le_refl _) (.slice d.P d.zs.length d.cap) (.bool d.u)
  have hdl := hide (hdi.far2 hdf (by exact HWZ.out) (.slice d.P d.zs.length d.cap) (.bool d.u))
  have HDF := hide hdf
  have HDZ := hide hdz
  have HDU := hide hdu
  clear hdi hdf hdz hdu hb hz4 hB4 HC
  go_wp2_with fail
  refine bodyPost_ret (results_desc rfl _ _ w.heap.size _ _ rfl HZf.out) rfl ?_
  exact ⟨⟨d, rfl, hdl.out, fun ad h => Nat.le_trans (Nat.le_of_lt HWZ.out) (HDF.out ad h), HDZ.out, HDU.out⟩, HFf.out⟩
set_option maxRecDepth 100000 in
set_option maxHeartbeats 4000000 in
theorem relem_pool15 (a : Ten) (d : Dsc) (A B : Option Addr) (qcap cap : Nat) (i v : Int) (w : World) (hR : Row w B ([a].flatMap Ten.vals))
    (hC : ∀ W, Below w.heap.size w W → Calls Tryd.prog 94 #[.bool true, .slice A 2 qcap, .int .i64 i, .agg (tcells a.P a.zs.length a.cap a.u a.D a.ds.length a.dcap), .agg (dcells d.P d.zs.length d.cap d.u)] W fun e w' => e = .returned (.int .i64 v) ∧ Below W.heap.size W w') :
    Calls Tryd.prog 56 #[.int .i64 15, .slice A 2 qcap, .int .i64 i, .slice B 1 cap, .agg (dcells d.P d.zs.length d.cap d.u)] w fun e w' => e = .returned (.int .i64 v) ∧ Below w.heap.size w w' := by
  obtain ⟨pr, hpr, hprl, r0, r1, r2⟩ := row_one hR
  subst hpr
  obtain ⟨W0, hW0⟩ : ∃ W, W = ((w.alloc (.cells #[.slice d.P d.zs.length d.cap, .bool d.u] 24)).alloc (.cells #[.slice a.P a.zs.length a.cap, .bool a.u, .slice a.D a.ds.length a.dcap] 26)) := ⟨_, rfl⟩
  have hbz : Below w.heap.size w (w.alloc (.cells #[.slice d.P d.zs.length d.cap, .bool d.u] 24)) := (Below.refl _ _).alloc (Nat.le_refl _) _
  have hbw : Below w.heap.size w W0 := by rw [hW0]; exact hbz.alloc (by simp) _
  have z0 : (w.alloc (.cells #[.slice d.P d.zs.length d.cap, .bool d.u] 24)).cell? pr = some (.slice a.P a.zs.length a.cap) := (hbz.cell hprl).trans r0
  have z1 : (w.alloc (.cells #[.slice d.P d.zs.length d.cap, .bool d.u] 24)).cell? ⟨pr.block, pr.off + 1, none⟩ = some (.bool a.u) := (hbz.cell (p := ⟨pr.block, pr.off + 1, none⟩) hprl).trans r1
  have z2 : (w.alloc (.cells #[.slice d.P d.zs.length d.cap, .bool d.u] 24)).cell? ⟨pr.block, pr.off + 2, none⟩ = some (.slice a.D a.ds.length a.dcap) := (hbz.cell (p := ⟨pr.block, pr.off + 2, none⟩) hprl).trans r2
  have HC := hide (hC W0 hbw)
  have HB0 := hide hbw
  have HW := hide hW0
  clear hR hC hW0 hbw hbz r0 r1 r2 hprl
  go_enter Tryd.func56, Tryd.ntmps56
  go_wp2_with fail
  rw [← HW.out]
  clear HW z0 z1 z2
  refine HC.out.mono ?_
  rintro e W4 ⟨rfl, hb⟩
  have HFin := hide (HB0.out.trans (hb.mono HB0.out.size))
  clear hb
  go_wp2_with fail
  go_ret
  exact ⟨rfl, HFin.out⟩
theorem Pl.ds_out (avg : Bool) {qs : List Int} {a : Ten} (h : Cel.fault [a] (Pl.code qs a.look) = (0, none)) :
    (Pl.ds avg qs a).length = (Shp.elems (Pl.shape qs a.look)).toNat ∧ (∀ z ∈ Pl.ds avg qs a, (Lit.int .i64 z).wf = true) ∧ (Pl.ds avg qs a).length ≤ 1000000 := by
  obtain ⟨c, hf⟩ := Pl.fine h
  have hmn := hf.mn
  rw [hf.ds, hf.sh, (Shp.whole hf.cd).2.2.1, Pl.prod3, Pl.part_length]
  exact ⟨by rw [Int.toNat_natCast], Pl.part_wf hf.ok _ _ _ _ hf.sa, by omega⟩
theorem Pl.len2 {qs : List Int} {a : Ten} (h : Cel.fault [a] (Pl.code qs a.look) = (0, none)) : qs.length = 2 := by
  obtain ⟨c, hf⟩ := Pl.fine h
  rw [hf.qz]
  rfl
theorem relem_pool14_at (qs : List Int) (a : Ten) (A B : Option Addr) (qcap cap : Nat) (w : World) (hQ : Ri w A qs) (hR : Row w B ([a].flatMap Ten.vals)) (ha : a.In w) (h : Cel.fault [a] (Pl.code qs a.look) = (0, none)) :
    ∀ (i : Nat) (v : Int) (W : World) (d : Dsc), (Pl.ds false qs a)[i]? = some v → Below w.heap.size w W → d.In W → d.zs = Pl.shape qs a.look → d.u = Pl.kind qs a.look → Calls Tryd.prog 56 #[.int .i64 14, .slice A qs.length qcap, .int .i64 i, .slice B [a].length cap, .agg (dcells d.P d.zs.length d.cap d.u)] W fun e w' => e = .returned (.int .i64 v) ∧ Below W.heap.size W w' := by
  intro i v W d hv hB hd hdz _
  obtain ⟨c, hf⟩ := Pl.fine h
  rw [hf.ds] at hv
  rw [hf.sh] at hdz
  have hl : i < c.oh * c.ow * c.C := by
    have := (List.getElem?_eq_some_iff.1 hv).1
    rw [Pl.part_length] at this
    exact this
  rw [Pl.part_at _ _ _ _ _ _ hl, Nat.zero_add] at hv
  rw [← Option.some.inj hv, Pl.len2 h]
  exact relem_pool14 a d A B qcap cap i _ W (hR.below hB) (fun W' h' => rpl_c false qs a c hf d A qcap i W' hl ((hQ.below hB).below h') ((ha.below hB).below h') (hd.below h') hdz)
theorem rapply_pool14 (qs : List Int) (a : Ten) (A B : Option Addr) (qcap cap : Nat) (w : World) (hQ : Ri w A qs) (hR : Row w B ([a].flatMap Ten.vals)) (ha : a.In w) :
    Calls Tryd.prog 18 #[.int .i64 14, .slice A qs.length qcap, .slice B 1 cap] w (RTenE w (Cel.fault [a] (Pl.code qs a.look)) (Cel.or [a] (Pl.code qs a.look) (Pl.shape qs a.look) []) (Cel.or [a] (Pl.code qs a.look) (Pl.kind qs a.look) false) (Cel.or [a] (Pl.code qs a.look) (Pl.ds false qs a) [])) :=
  rapply_c 14 [a] A B qs.length qcap cap _ _ _ _ w hR (by intro t ht; simp at ht; rcases ht with rfl; exact ha) (by simp) (fun W B' cap' hB hRow => rres_pool14 qs a.look A B' qcap cap' W (hQ.below hB) hRow (ha.below hB).look) (Pl.ds_out false) (fun h => relem_pool14_at qs a A B qcap cap w hQ hR ha h)
theorem relement_pool14 (qs : List Int) (a : Ten) (A B : Option Addr) (qcap cap : Nat) (i : Int) (w : World) (hQ : Ri w A qs) (hR : Row w B ([a].flatMap Ten.vals)) (ha : a.In w) :
    Calls Tryd.prog 31 #[.int .i64 14, .slice A qs.length qcap, .int .i64 i, .slice B 1 cap] w fun e w' => e = .returned (.int .i64 (Pl.cell false qs a i)) ∧ Below w.heap.size w w' :=
  relement_c 14 [a] A B qs.length qcap cap _ _ _ _ i w hR (by intro t ht; simp at ht; rcases ht with rfl; exact ha) (by simp) (fun W B' cap' hB hRow => rres_pool14 qs a.look A B' qcap cap' W (hQ.below hB) hRow (ha.below hB).look) (fun h => (Pl.ds_out false h).1) (fun h => relem_pool14_at qs a A B qcap cap w hQ hR ha h)
theorem relem_pool15_at (qs : List Int) (a : Ten) (A B : Option Addr) (qcap cap : Nat) (w : World) (hQ : Ri w A qs) (hR : Row w B ([a].flatMap Ten.vals)) (ha : a.In w) (h : Cel.fault [a] (Pl.code qs a.look) = (0, none)) :
    ∀ (i : Nat) (v : Int) (W : World) (d : Dsc), (Pl.ds true qs a)[i]? = some v → Below w.heap.size w W → d.In W → d.zs = Pl.shape qs a.look → d.u = Pl.kind qs a.look → Calls Tryd.prog 56 #[.int .i64 15, .slice A qs.length qcap, .int .i64 i, .slice B [a].length cap, .agg (dcells d.P d.zs.length d.cap d.u)] W fun e w' => e = .returned (.int .i64 v) ∧ Below W.heap.size W w' := by
  intro i v W d hv hB hd hdz _
  obtain ⟨c, hf⟩ := Pl.fine h
  rw [hf.ds] at hv
  rw [hf.sh] at hdz
  have hl : i < c.oh * c.ow * c.C := by
    have := (List.getElem?_eq_some_iff.1 hv).1
    rw [Pl.part_length] at this
    exact this
  rw [Pl.part_at _ _ _ _ _ _ hl, Nat.zero_add] at hv
  rw [← Option.some.inj hv, Pl.len2 h]
  exact relem_pool15 a d A B qcap cap i _ W (hR.below hB) (fun W' h' => rpl_c true qs a c hf d A qcap i W' hl ((hQ.below hB).below h') ((ha.below hB).below h') (hd.below h') hdz)
theorem rapply_pool15 (qs : List Int) (a : Ten) (A B : Option Addr) (qcap cap : Nat) (w : World) (hQ : Ri w A qs) (hR : Row w B ([a].flatMap Ten.vals)) (ha : a.In w) :
    Calls Tryd.prog 18 #[.int .i64 15, .slice A qs.length qcap, .slice B 1 cap] w (RTenE w (Cel.fault [a] (Pl.code qs a.look)) (Cel.or [a] (Pl.code qs a.look) (Pl.shape qs a.look) []) (Cel.or [a] (Pl.code qs a.look) (Pl.kind qs a.look) false) (Cel.or [a] (Pl.code qs a.look) (Pl.ds true qs a) [])) :=
  rapply_c 15 [a] A B qs.length qcap cap _ _ _ _ w hR (by intro t ht; simp at ht; rcases ht with rfl; exact ha) (by simp) (fun W B' cap' hB hRow => rres_pool15 qs a.look A B' qcap cap' W (hQ.below hB) hRow (ha.below hB).look) (Pl.ds_out true) (fun h => relem_pool15_at qs a A B qcap cap w hQ hR ha h)
theorem relement_pool15 (qs : List Int) (a : Ten) (A B : Option Addr) (qcap cap : Nat) (i : Int) (w : World) (hQ : Ri w A qs) (hR : Row w B ([a].flatMap Ten.vals)) (ha : a.In w) :
    Calls Tryd.prog 31 #[.int .i64 15, .slice A qs.length qcap, .int .i64 i, .slice B 1 cap] w fun e w' => e = .returned (.int .i64 (Pl.cell true qs a i)) ∧ Below w.heap.size w w' :=
  relement_c 15 [a] A B qs.length qcap cap _ _ _ _ i w hR (by intro t ht; simp at ht; rcases ht with rfl; exact ha) (by simp) (fun W B' cap' hB hRow => rres_pool15 qs a.look A B' qcap cap' W (hQ.below hB) hRow (ha.below hB).look) (fun h => (Pl.ds_out true h).1) (fun h => relem_pool15_at qs a A B qcap cap w hQ hR ha h)
theorem E3.ofez {w : World} {es : List Addr} (h : Ez w es) : ∃ ah am ar, es[0]? = some ah ∧ es[1]? = some ar ∧ es[3]? = some am ∧ E3 w ah am ar := by
  obtain ⟨ah, hh⟩ : ∃ a, es[0]? = some a := ⟨_, List.getElem?_eq_getElem (by rw [h.1]; decide)⟩
  obtain ⟨ar, hr⟩ : ∃ a, es[1]? = some a := ⟨_, List.getElem?_eq_getElem (by rw [h.1]; decide)⟩
  obtain ⟨am, hm⟩ : ∃ a, es[3]? = some a := ⟨_, List.getElem?_eq_getElem (by rw [h.1]; decide)⟩
  exact ⟨ah, am, ar, hh, hr, hm, h.2.2 0 _ ah rfl hh, h.2.2 3 _ am rfl hm, h.2.2 1 _ ar rfl hr⟩
theorem Ten.fault_nil {t : Ten} (h : t.fault.1 = 0) : Tens.fault t.zs t.u t.ds = (0, none) := by
  have hcs := tfault_cases t.zs t.u t.ds
  have hek : Ten.fault t = Tens.fault t.zs t.u t.ds := rfl
  rw [hek] at h
  rcases hcs with e | e | e | e | ⟨j, e⟩
  · exact e
  · rw [e] at h; cases h
  · rw [e] at h; cases h
  · rw [e] at h; cases h
  · rw [e] at h; cases h
theorem pl_first (P D : Option Addr) : Cel.fault [⟨P, [2, 2, 1], 3, false, D, [1, 2, 3, 4], 4⟩] (Pl.code [2, 1] (Ten.look ⟨P, [2, 2, 1], 3, false, D, [1, 2, 3, 4], 4⟩)) = (0, none) ∧ Pl.ds true [2, 1] ⟨P, [2, 2, 1], 3, false, D, [1, 2, 3, 4], 4⟩ = [3] := ⟨by kernel_rfl, by kernel_rfl⟩
set_option maxRecDepth 100000 in
set_option maxHeartbeats 4000000 in
theorem first10_c (ah am ar : Addr) (w : World) (hE : E3 w ah am ar) :
    Calls Tryd.prog 23 #[] w fun e w' => e = .returned (.bool true) ∧ Below w.heap.size w w' := by
  obtain ⟨W1, hW1⟩ : ∃ W, W = (((w.alloc (.cells #[.int .i64 2, .int .i64 2, .int .i64 1] 3)).alloc (.cells #[.int .i64 1, .int .i64 2, .int .i64 3, .int .i64 4] 3)).alloc (.cells #[.slice (some ⟨w.heap.size, 0, none⟩) 3 3, .bool false, .slice (some ⟨w.heap.size + 1, 0, none⟩) 4 4] 26)).alloc (.cells #[.int .i64 2, .int .i64 1] 3) := ⟨_, rfl⟩
  have hB1 : Below w.heap.size w W1 := by rw [hW1]; exact ((((Below.refl _ _).alloc (Nat.le_refl _) _).alloc (by simp) _).alloc (by simp; omega) _).alloc (by simp; omega) _
  have s1 : Has W1 w.heap.size 3 (i64s [2, 2, 1]) := by rw [hW1]; exact (((Has.new w 3 [.int .i64 2, .int .i64 2, .int .i64 1]).alloc _).alloc _).alloc _
  have d1 : Has W1 (w.heap.size + 1) 3 (i64s [1, 2, 3, 4]) := by rw [hW1]; exact ((box_at _ 3 [.int .i64 1, .int .i64 2, .int .i64 3, .int .i64 4] _ (by simp)).alloc _).alloc _
  have q1 : Has W1 (w.heap.size + 1 + 1 + 1) 3 (i64s [2, 1]) := by rw [hW1]; exact box_at _ 3 [.int .i64 2, .int .i64 1] _ (by simp)
  have HM := hide (plavg_c [2, 1] (some ⟨w.heap.size + 1 + 1 + 1, 0, none⟩) 2 ⟨some ⟨w.heap.size, 0, none⟩, [2, 2, 1], 3, false, some ⟨w.heap.size + 1, 0, none⟩, [1, 2, 3, 4], 4⟩ ah am ar W1 (q1.ri (by decide)) (by simp) ⟨s1.ri (by decide), d1.ri (by decide), by simp, by simp⟩ (hE.below hB1))
  have HB := hide hB1
  have HW1 := hide hW1
  clear hE hW1 hB1 s1 d1 q1
  go_enter Tryd.func23, Tryd.ntmps23
  go_wp2_with fail
  rw [← HW1.out]
  refine HM.out.mono ?_
  intro e w2 hT
  obtain ⟨⟨t, rfl, hIn, -, -, hd, -⟩, hb⟩ := pl_good true _ _ ah am ar _ (pl_first _ _).1 hT
  have hds : t.ds = [3] := by rw [hd]; exact (pl_first _ _).2
  have hB3 := HB.out.trans (hb.mono HB.out.size)
  have hD := hIn.dat
  rw [hds] at hD
  have hB4 := hB3.alloc hB3.size (.cells #[.slice t.P t.zs.length t.cap, .bool t.u, .slice t.D 1 t.dcap] 26)
  have hB5 := hB4.alloc hB4.size (.cells #[.int .i64 3] 3)
  have hD5 := (hD.below ((Below.refl _ w2).alloc (Nat.le_refl _) (.cells #[.slice t.P t.zs.length t.cap, .bool t.u, .slice t.D 1 t.dcap] 26))).below ((Below.refl _ _).alloc (Nat.le_refl _) (.cells #[.int .i64 3] 3))
  have HS := hide (sameints_c [3] [3] t.D (some ⟨w2.heap.size + 1, 0, none⟩) t.dcap 1 _ hD5 (by
    have h := new_ri (w2.alloc (.cells #[.slice t.P t.zs.length t.cap, .bool t.u, .slice t.D 1 t.dcap] 26)) 3 [3] (by decide)
    simpa using h) (by decide) (by decide))
  rw [decide_eq_true (rfl : ([3] : List Int) = [3])] at HS
  have HB5 := hide hB5
  rw [hds]
  clear hIn hd hds hb hB3 hD hB4 hB5 hD5 HM HB HW1 hT
  go_wp2_with fail
  refine HS.out.mono ?_
  rintro e w3 ⟨rfl, hb⟩
  have HF := hide (HB5.out.trans (hb.mono HB5.out.size))
  clear hb HS HB5
  go_wp2_with fail
  go_ret
  exact ⟨rfl, HF.out⟩
end Go.Proofs.YtcgjnjchkachdaaDoor
