/-
  The reference's elements: sums of rows, places of the greatest, rows that are gathered, weights; those of one place. By an AI agent. No person has read it.
-/
import Derived.Test.YtgdcfjmpjhlndaaGreatDoorZORefI
import Derived.Test.YtgdcfjmpjhlndaaGreatDoorZOSftN
namespace Go.Proofs.YtgdcfjmpjhlndaaGreatDoor
open Go.RowKit
theorem ri_cells {w : World} {A : Option Addr} {zs : List Int} (h : Ri w A zs) (hne : zs ≠ []) : ∃ ad, A = some ad ∧ ad.block < w.heap.size ∧ Hid (∀ (q : Nat) (x : Int), zs[q]? = some x → w.cell? (ad.add q) = some (.int .i64 x)) := by
 obtain ⟨ad, h1, h2, h3⟩ := h.2 hne
 exact ⟨ad, h1, h2, hide h3⟩
set_option maxRecDepth 100000 in
set_option maxHeartbeats 4000000 in
theorem relem_rows (op : Int) (hop : op = 19 ∨ op = 20) (a : Ten) (k m n : Nat) (hf : Sf.Rows a k m n) (hsa : ∀ z ∈ a.ds, -2147483648 ≤ z ∧ z ≤ 2147483647) (d : Dsc) (A B : Option Addr) (qcap cap i : Nat) (w : World) (hi : i < m) (hR : Row w B ([a].flatMap Ten.vals)) (ha : a.In w) :
  Calls Tryz.prog 42 #[.int .i64 op, .slice A 0 qcap, .int .i64 i, .slice B 1 cap, .agg (dcells d.P d.zs.length d.cap d.u)] w fun e w' => e = .returned (.int .i64 (if op = 19 then Sf.amax a.ds n i else Sf.sum a.ds n i)) ∧ Below w.heap.size w w' := by
 obtain ⟨pr, hpr, hprl, r0, r1, r2⟩ := row_one hR
 subst hpr
 have hk1 := hf.k1
 obtain ⟨K1, hK1⟩ : ∃ q, Hid (k - 1 = q) := ⟨_, hide rfl⟩
 have hK : k = K1 + 1 := by have := hK1.out; omega
 have hkz : a.zs.length = K1 + 1 := by rw [hf.zl, hK]
 have hk4 : K1 < 4 := by have := hf.k4; omega
 obtain ⟨pa, zl, epa, ez, cz⟩ := ri_at ha.shp K1 (by omega)
 have hzn : zl = (n : Int) := by
  have h := hf.last
  rw [hK1.out, ez.out] at h
  exact Option.some.inj h
 subst hzn
 have hpal : pa.block < w.heap.size := by have := World.block_lt_of_cell? _ _ cz; rwa [elm_block] at this
 have hn1 := hf.n1
 have hn2 := hf.n2
 have hmn := hf.len
 have hbig := hf.big
 have hne : a.ds ≠ [] := by
  intro h
  rw [h] at hmn
  have := Nat.mul_pos (show 0 < m by omega) hn1
  simp at hmn
  omega
 obtain ⟨ad, hAD, hadl, HC⟩ := ri_cells ha.dat hne
 rw [epa, hkz] at r0
 rw [hAD] at r2
 obtain ⟨na, hna⟩ : ∃ q_, Hid (a.ds.length = q_) := ⟨_, hide rfl⟩
 rw [hna.out] at r2
 obtain ⟨p, hp⟩ : ∃ q_, Hid (i * n = q_) := ⟨_, hide rfl⟩
 have hpb : p + n ≤ na := by
  have h1 := Nat.mul_le_mul_right n (Nat.succ_le_of_lt hi)
  rw [Nat.succ_mul, hp.out] at h1
  rw [← hna.out, hmn]
  exact h1
 have hnb : na ≤ 16384 := by rw [← hna.out]; exact hbig
 obtain ⟨V, hV⟩ : ∃ V : Nat → Int, Hid ((fun j => (Sf.row a.ds n i).getD j 0) = V) := ⟨_, hide rfl⟩
 have HVj : Hid (∀ j, j < n → a.ds[p + j]? = some (V j) ∧ -2147483648 ≤ V j ∧ V j ≤ 2147483647) := hide (fun j hj => by
  have h1 : p + j < a.ds.length := by rw [hna.out]; omega
  have h2 : V j = a.ds[p + j] := by
   rw [← hV.out]
   show (Sf.row a.ds n i).getD j 0 = _
   rw [List.getD_eq_getElem?_getD, Sf.row_at _ _ _ _ hj, hp.out, List.getElem?_eq_getElem h1]
   rfl
  rw [h2, List.getElem?_eq_getElem h1]
  exact ⟨rfl, hsa _ (List.getElem_mem h1)⟩)
 have HRes : Hid ((if op = 19 then Sf.amax a.ds n i else Sf.sum a.ds n i) = if op = 19 then ((Sf.best V n : Nat) : Int) else Tens.wide (Pl.add V n)) := hide (by
  rw [← hV.out]
  rfl)
 obtain ⟨W0, hW0⟩ : ∃ W, W = (w.alloc (.cells #[.slice d.P d.zs.length d.cap, .bool d.u] 24)).alloc (.cells #[.slice (some pa) (K1 + 1) a.cap, .bool a.u, .slice (some ad) na a.dcap] 26) := ⟨_, rfl⟩
 have hbw : Below w.heap.size w W0 := by rw [hW0]; exact ((Below.refl _ _).alloc (Nat.le_refl _) _).alloc (by simp) _
 have hx : Has W0 (w.heap.size + 1) 26 [.slice (some pa) (K1 + 1) a.cap, .bool a.u, .slice (some ad) na a.dcap] := by rw [hW0]; exact box_at _ _ _ _ (by simp)
 have hbz : Below w.heap.size w (w.alloc (.cells #[.slice d.P d.zs.length d.cap, .bool d.u] 24)) := (Below.refl _ _).alloc (Nat.le_refl _) _
 have z0 : (w.alloc (.cells #[.slice d.P d.zs.length d.cap, .bool d.u] 24)).cell? pr = some (.slice (some pa) (K1 + 1) a.cap) := (hbz.cell hprl).trans r0
 have z1 : (w.alloc (.cells #[.slice d.P d.zs.length d.cap, .bool d.u] 24)).cell? ⟨pr.block, pr.off + 1, none⟩ = some (.bool a.u) := (hbz.cell (p := ⟨pr.block, pr.off + 1, none⟩) hprl).trans r1
 have z2 : (w.alloc (.cells #[.slice d.P d.zs.length d.cap, .bool d.u] 24)).cell? ⟨pr.block, pr.off + 2, none⟩ = some (.slice (some ad) na a.dcap) := (hbz.cell (p := ⟨pr.block, pr.off + 2, none⟩) hprl).trans r2
 have c3 : W0.cell? ⟨w.heap.size + 1, 0, none⟩ = some (.slice (some pa) (K1 + 1) a.cap) := hx.cell 0
 have c4 : W0.cell? ⟨w.heap.size + 1, 2, none⟩ = some (.slice (some ad) na a.dcap) := hx.cell 2
 have c5 : W0.cell? ⟨w.heap.size + 1, 1, none⟩ = some (.bool a.u) := hx.cell 1
 have cn : W0.cell? (pa.add K1) = some (.int .i64 n) := (hbw.cell (by rw [elm_block]; exact hpal)).trans cz
 have e0 : ((w.alloc (.cells #[.slice d.P d.zs.length d.cap, .bool d.u] 24)).alloc (.cells #[.slice (some pa) (K1 + 1) a.cap, .bool a.u, .slice (some ad) na a.dcap] 26)).cell? (pa.add K1) = some (.int .i64 n) := by rw [← hW0]; exact cn
 have HCW : Hid (∀ j, j < n → W0.cell? (ad.add (p + j)) = some (.int .i64 (V j))) := hide (fun j hj => (hbw.cell (by rw [elm_block]; exact hadl)).trans (HC.out _ _ (HVj.out j hj).1))
 have HB0 := hide hbw
 have HW := hide hW0
 have HP : Hid (wrap64 ((i : Int) * (n : Int)) = (p : Int)) := hide (by
  rw [← Int.natCast_mul, hp.out]
  unfold wrap64
  omega)
 have HK1 : Hid (wrap64 (((K1 + 1 : Nat) : Int) - 1) = (K1 : Int)) := hide (by unfold wrap64; omega)
 have HBN : Hid (1 ≤ n ∧ n ≤ 256) := hide ⟨hn1, hn2⟩
 have HPB : Hid (p + n ≤ na ∧ na ≤ 16384) := hide ⟨hpb, hnb⟩
 have HWD := hide (fun x W => rwide_c x W)
 rw [HRes.out]
 have hkk0 : (0 : Int) ≤ (K1 : Int) := by omega
 have hkk1 : (K1 : Int) < ((K1 + 1 : Nat) : Int) := by omega
 clear hf hsa hi hR ha hW0 hbw hx hbz r0 r1 r2 epa hkz hK hk1 hpal hne hAD hadl HC hmn hbig hpb hnb HRes cz ez hprl hn1 hn2
 obtain ⟨K, hKK⟩ : ∃ q, Hid (K1 + 1 = q) := ⟨_, hide rfl⟩
 rw [hKK.out] at HK1 HW z0 c3 e0 hkk1
 rcases hop with rfl | rfl
 ·go_enter Tryz.func42, Tryz.ntmps42
  have o1 := HK1.out
  go_wp2_with fail
  rw [← HW.out]
  clear HW z0 z1 z2 e0 o1 hkk0 hkk1
  go_loopg [20, 21, 22, 23] n (fun gq v20 v21 v22 _ wr => ∃ (j b : Nat) (S : Int), gq + j = n ∧ v22 = .int .i64 j ∧ v20 = .int .i64 b ∧ v21 = .int .i64 S ∧ Hid (Sf.best V j = b) ∧ Hid (Pl.add V j = S) ∧ W0 = wr)
  case atStart => exact ⟨0, 0, 0, by omega, rfl, rfl, rfl, hide rfl, hide rfl, rfl⟩
  case round =>
   obtain ⟨j, b, S, hj9, rfl, rfl, rfl, HBb, HS, hwr⟩ := hrel
   subst hwr
   by_cases hlt : j < n
   ·have hii : (j : Int) < (n : Int) := by omega
    have hi0 : (0 : Int) ≤ (j : Int) := by omega
    have hbn : b < n := by
     rw [← HBb.out]
     rcases (Sf.best_is V j).2.2 with h | ⟨-, h⟩
     ·omega
     ·have := HBN.out; omega
    have x1 := HCW.out j hlt
    have x2 := HCW.out b hbn
    have HSb : Hid (-549755813888 ≤ S ∧ S ≤ 549755813888) := hide (by
     have h := Pl.add_le V 2147483648 j (fun i hi => by have := (HVj.out i (by omega)).2; omega)
     rw [HS.out] at h
     have := HBN.out
     omega)
    obtain ⟨q, hq⟩ : ∃ q, Hid (p + j = q) := ⟨_, hide rfl⟩
    obtain ⟨r, hr⟩ : ∃ q, Hid (p + b = q) := ⟨_, hide rfl⟩
    rw [hq.out] at x1
    rw [hr.out] at x2
    have HQ : Hid (wrap64 ((p : Int) + (j : Int)) = (q : Int)) := hide (by have h1 := hq.out; have h2 := HPB.out; unfold wrap64; omega)
    have HRr : Hid (wrap64 ((p : Int) + (b : Int)) = (r : Int)) := hide (by have h1 := hr.out; have h2 := HPB.out; unfold wrap64; omega)
    have hq0 : (0 : Int) ≤ (q : Int) := by omega
    have hq1 : (q : Int) < (na : Int) := by have h1 := hq.out; have h2 := HPB.out; omega
    have hr0 : (0 : Int) ≤ (r : Int) := by omega
    have hr1 : (r : Int) < (na : Int) := by have h1 := hr.out; have h2 := HPB.out; omega
    obtain ⟨x, hx⟩ : ∃ x, Hid (V j = x) := ⟨_, hide rfl⟩
    obtain ⟨y, hy⟩ : ∃ x, Hid (V b = x) := ⟨_, hide rfl⟩
    rw [hx.out] at x1
    rw [hy.out] at x2
    have HSx : Hid (wrap64 (S + x) = S + x) := hide (by
     have h1 := HSb.out
     have h2 := (HVj.out j hlt).2
     rw [hx.out] at h2
     unfold wrap64
     omega)
    have hbest : Sf.best V (j + 1) = if y < x then j else b := by
     show (if V (Sf.best V j) < V j then j else Sf.best V j) = _
     rw [HBb.out, hx.out, hy.out]
    have hsum : Pl.add V (j + 1) = S + x := by
     show Pl.add V j + V j = _
     rw [HS.out, hx.out]
    have HSU := hide hsum
    have hj2 : (j : Int) + 1 ≤ 257 := by have := HBN.out; omega
    have hj3 : 0 ≤ (j : Int) + 1 := by omega
    clear hsum hbn
    by_cases hc : y < x
    ·rw [if_pos hc] at hbest
     have HBE := hide hbest
     have o1 := HP.out
     have o2 := HQ.out
     have o3 := HRr.out
     have o4 := HSx.out
     clear hbest
     go_wp2_with fail
     clear o1 o2 o3 o4
     go_roundg (n - (j + 1))
     case measure => omega
     case rel => exact ⟨j + 1, j, S + x, by omega, by go_num, rfl, by first | rfl | rw [HSx.out], HBE, HSU, rfl⟩
    ·rw [if_neg hc] at hbest
     have HBE := hide hbest
     have o1 := HP.out
     have o2 := HQ.out
     have o3 := HRr.out
     have o4 := HSx.out
     clear hbest
     go_wp2_with fail
     clear o1 o2 o3 o4
     go_roundg (n - (j + 1))
     case measure => omega
     case rel => exact ⟨j + 1, b, S + x, by omega, by go_num, rfl, by first | rfl | rw [HSx.out], HBE, HSU, rfl⟩
   ·obtain rfl : j = n := by omega
    have hii : ¬ (j : Int) < (j : Int) := by omega
    go_wp2_with fail
    go_ret
    exact ⟨by rw [HBb.out]; rfl, HB0.out⟩
 ·go_enter Tryz.func42, Tryz.ntmps42
  have o1 := HK1.out
  go_wp2_with fail
  rw [← HW.out]
  clear HW z0 z1 z2 e0 o1 hkk0 hkk1
  go_loopg [20, 21, 22, 23] n (fun gq v20 v21 v22 _ wr => ∃ (j b : Nat) (S : Int), gq + j = n ∧ v22 = .int .i64 j ∧ v20 = .int .i64 b ∧ v21 = .int .i64 S ∧ Hid (Sf.best V j = b) ∧ Hid (Pl.add V j = S) ∧ W0 = wr)
  case atStart => exact ⟨0, 0, 0, by omega, rfl, rfl, rfl, hide rfl, hide rfl, rfl⟩
  case round =>
   obtain ⟨j, b, S, hj9, rfl, rfl, rfl, HBb, HS, hwr⟩ := hrel
   subst hwr
   by_cases hlt : j < n
   ·have hii : (j : Int) < (n : Int) := by omega
    have hi0 : (0 : Int) ≤ (j : Int) := by omega
    have hbn : b < n := by
     rw [← HBb.out]
     rcases (Sf.best_is V j).2.2 with h | ⟨-, h⟩
     ·omega
     ·have := HBN.out; omega
    have x1 := HCW.out j hlt
    have x2 := HCW.out b hbn
    have HSb : Hid (-549755813888 ≤ S ∧ S ≤ 549755813888) := hide (by
     have h := Pl.add_le V 2147483648 j (fun i hi => by have := (HVj.out i (by omega)).2; omega)
     rw [HS.out] at h
     have := HBN.out
     omega)
    obtain ⟨q, hq⟩ : ∃ q, Hid (p + j = q) := ⟨_, hide rfl⟩
    obtain ⟨r, hr⟩ : ∃ q, Hid (p + b = q) := ⟨_, hide rfl⟩
    rw [hq.out] at x1
    rw [hr.out] at x2
    have HQ : Hid (wrap64 ((p : Int) + (j : Int)) = (q : Int)) := hide (by have h1 := hq.out; have h2 := HPB.out; unfold wrap64; omega)
    have HRr : Hid (wrap64 ((p : Int) + (b : Int)) = (r : Int)) := hide (by have h1 := hr.out; have h2 := HPB.out; unfold wrap64; omega)
    have hq0 : (0 : Int) ≤ (q : Int) := by omega
    have hq1 : (q : Int) < (na : Int) := by have h1 := hq.out; have h2 := HPB.out; omega
    have hr0 : (0 : Int) ≤ (r : Int) := by omega
    have hr1 : (r : Int) < (na : Int) := by have h1 := hr.out; have h2 := HPB.out; omega
    obtain ⟨x, hx⟩ : ∃ x, Hid (V j = x) := ⟨_, hide rfl⟩
    obtain ⟨y, hy⟩ : ∃ x, Hid (V b = x) := ⟨_, hide rfl⟩
    rw [hx.out] at x1
    rw [hy.out] at x2
    have HSx : Hid (wrap64 (S + x) = S + x) := hide (by
     have h1 := HSb.out
     have h2 := (HVj.out j hlt).2
     rw [hx.out] at h2
     unfold wrap64
     omega)
    have hbest : Sf.best V (j + 1) = if y < x then j else b := by
     show (if V (Sf.best V j) < V j then j else Sf.best V j) = _
     rw [HBb.out, hx.out, hy.out]
    have hsum : Pl.add V (j + 1) = S + x := by
     show Pl.add V j + V j = _
     rw [HS.out, hx.out]
    have HSU := hide hsum
    have hj2 : (j : Int) + 1 ≤ 257 := by have := HBN.out; omega
    have hj3 : 0 ≤ (j : Int) + 1 := by omega
    clear hsum hbn
    by_cases hc : y < x
    ·rw [if_pos hc] at hbest
     have HBE := hide hbest
     have o1 := HP.out
     have o2 := HQ.out
     have o3 := HRr.out
     have o4 := HSx.out
     clear hbest
     go_wp2_with fail
     clear o1 o2 o3 o4
     go_roundg (n - (j + 1))
     case measure => omega
     case rel => exact ⟨j + 1, j, S + x, by omega, by go_num, rfl, by first | rfl | rw [HSx.out], HBE, HSU, rfl⟩
    ·rw [if_neg hc] at hbest
     have HBE := hide hbest
     have o1 := HP.out
     have o2 := HQ.out
     have o3 := HRr.out
     have o4 := HSx.out
     clear hbest
     go_wp2_with fail
     clear o1 o2 o3 o4
     go_roundg (n - (j + 1))
     case measure => omega
     case rel => exact ⟨j + 1, b, S + x, by omega, by go_num, rfl, by first | rfl | rw [HSx.out], HBE, HSU, rfl⟩
   ·obtain rfl : j = n := by omega
    have hii : ¬ (j : Int) < (j : Int) := by omega
    go_wp2_with fail
    refine (HWD.out _ _).mono ?_
    rintro e wq ⟨rfl, hw⟩
    have hw := hw.symm
    subst hw
    go_wp2_with fail
    go_ret
    exact ⟨by rw [HS.out]; rfl, HB0.out⟩
set_option maxRecDepth 100000 in
set_option maxHeartbeats 4000000 in
theorem relem_shape (a : Ten) (d : Dsc) (A B : Option Addr) (nq qcap cap i : Nat) (v : Int) (w : World) (hv : a.ds[i]? = some v) (hR : Row w B ([a].flatMap Ten.vals)) (ha : a.In w) :
  Calls Tryz.prog 42 #[.int .i64 18, .slice A nq qcap, .int .i64 i, .slice B 1 cap, .agg (dcells d.P d.zs.length d.cap d.u)] w fun e w' => e = .returned (.int .i64 v) ∧ Below w.heap.size w w' := by
 obtain ⟨pr, hpr, hprl, r0, r1, r2⟩ := row_one hR
 subst hpr
 have hil := (List.getElem?_eq_some_iff.1 hv).1
 obtain ⟨ad, x, hAD, ex, cx⟩ := ri_at ha.dat i hil
 obtain rfl : x = v := Option.some.inj (ex.out.symm.trans hv)
 have hadl : ad.block < w.heap.size := by have := World.block_lt_of_cell? _ _ cx; rwa [elm_block] at this
 have hld := ha.ld
 rw [hAD] at r2
 obtain ⟨na, hna⟩ : ∃ q_, Hid (a.ds.length = q_) := ⟨_, hide rfl⟩
 obtain ⟨nz, hnz⟩ : ∃ q_, Hid (a.zs.length = q_) := ⟨_, hide rfl⟩
 rw [hna.out] at r2 hil hld
 rw [hnz.out] at r0
 obtain ⟨W0, hW0⟩ : ∃ W, W = (w.alloc (.cells #[.slice d.P d.zs.length d.cap, .bool d.u] 24)).alloc (.cells #[.slice a.P nz a.cap, .bool a.u, .slice (some ad) na a.dcap] 26) := ⟨_, rfl⟩
 have hbw : Below w.heap.size w W0 := by rw [hW0]; exact ((Below.refl _ _).alloc (Nat.le_refl _) _).alloc (by simp) _
 have hx : Has W0 (w.heap.size + 1) 26 [.slice a.P nz a.cap, .bool a.u, .slice (some ad) na a.dcap] := by rw [hW0]; exact box_at _ _ _ _ (by simp)
 have hbz : Below w.heap.size w (w.alloc (.cells #[.slice d.P d.zs.length d.cap, .bool d.u] 24)) := (Below.refl _ _).alloc (Nat.le_refl _) _
 have z0 : (w.alloc (.cells #[.slice d.P d.zs.length d.cap, .bool d.u] 24)).cell? pr = some (.slice a.P nz a.cap) := (hbz.cell hprl).trans r0
 have z1 : (w.alloc (.cells #[.slice d.P d.zs.length d.cap, .bool d.u] 24)).cell? ⟨pr.block, pr.off + 1, none⟩ = some (.bool a.u) := (hbz.cell (p := ⟨pr.block, pr.off + 1, none⟩) hprl).trans r1
 have z2 : (w.alloc (.cells #[.slice d.P d.zs.length d.cap, .bool d.u] 24)).cell? ⟨pr.block, pr.off + 2, none⟩ = some (.slice (some ad) na a.dcap) := (hbz.cell (p := ⟨pr.block, pr.off + 2, none⟩) hprl).trans r2
 have c3 : W0.cell? ⟨w.heap.size + 1, 0, none⟩ = some (.slice a.P nz a.cap) := hx.cell 0
 have c4 : W0.cell? ⟨w.heap.size + 1, 2, none⟩ = some (.slice (some ad) na a.dcap) := hx.cell 2
 have c5 : W0.cell? ⟨w.heap.size + 1, 1, none⟩ = some (.bool a.u) := hx.cell 1
 have cn : W0.cell? (ad.add i) = some (.int .i64 x) := (hbw.cell (by rw [elm_block]; exact hadl)).trans cx
 have e0 : ((w.alloc (.cells #[.slice d.P d.zs.length d.cap, .bool d.u] 24)).alloc (.cells #[.slice a.P nz a.cap, .bool a.u, .slice (some ad) na a.dcap] 26)).cell? (ad.add i) = some (.int .i64 x) := by rw [← hW0]; exact cn
 have HB0 := hide hbw
 have HW := hide hW0
 have hi0 : (0 : Int) ≤ (i : Int) := by omega
 have hi1 : (i : Int) < (na : Int) := by omega
 clear hv hR ha r0 r1 r2 hil ex cx hadl hld hAD hW0 hbw hx hbz hprl
 go_enter Tryz.func42, Tryz.ntmps42
 go_wp2_with fail
 rw [← HW.out]
 go_ret
 exact ⟨rfl, HB0.out⟩
theorem Sf.cutv_is (y : Int) (N : Nat) (h : 1 ≤ N) : Flt.cutv y 0 ((N : Int) - 1) = (Sf.cut y N : Int) := by
 unfold Flt.cutv Sf.cut
 split
 ·omega
 ·split <;> omega
set_option maxRecDepth 100000 in
set_option maxHeartbeats 4000000 in
theorem relem_gather (a b : Ten) (N k : Nat) (hz : a.zs = [(N : Int), (k : Int)]) (hN : 1 ≤ N ∧ N ≤ 256) (hk : 1 ≤ k ∧ k ≤ 256) (hl : a.ds.length = N * k) (hm : b.ds.length * k ≤ 65536) (d : Dsc) (A B : Option Addr) (nq qcap cap i : Nat) (w : World) (hi : i < b.ds.length * k) (hR : Row w B ([a, b].flatMap Ten.vals)) (ha : a.In w) (hb : b.In w) :
  Calls Tryz.prog 42 #[.int .i64 17, .slice A nq qcap, .int .i64 i, .slice B 2 cap, .agg (dcells d.P d.zs.length d.cap d.u)] w fun e w' => e = .returned (.int .i64 (Sf.gath a.ds b.ds N k i)) ∧ Below w.heap.size w w' := by
 obtain ⟨pr, hpr, hprl, r0, r1, r2, r3, r4, r5⟩ := row_two hR
 subst hpr
 have hra := ha.shp
 rw [hz] at hra
 obtain ⟨pa, epa, a0, a1⟩ := ri_pair hra
 have hpal : pa.block < w.heap.size := by obtain ⟨ad, h1, h2, -⟩ := hra.2 (by simp); rw [epa] at h1; rw [Option.some.inj h1]; exact h2
 have hla : a.zs.length = 2 := by rw [hz]; rfl
 rw [epa, hla] at r0
 obtain ⟨t, ht⟩ : ∃ q_, Hid (i / k = q_) := ⟨_, hide rfl⟩
 obtain ⟨C, hC⟩ : ∃ q_, Hid (i % k = q_) := ⟨_, hide rfl⟩
 have htb : t < b.ds.length := by rw [← ht.out]; exact Nat.div_lt_of_lt_mul (by rw [Nat.mul_comm]; exact hi)
 have hCk : C < k := by rw [← hC.out]; exact Nat.mod_lt _ hk.1
 obtain ⟨bd, y, hBD, ey, cy⟩ := ri_at hb.dat t htb
 have hbdl : bd.block < w.heap.size := by have := World.block_lt_of_cell? _ _ cy; rwa [elm_block] at this
 rw [hBD] at r5
 obtain ⟨R, hRr⟩ : ∃ q_, Hid (Sf.cut y N = q_) := ⟨_, hide rfl⟩
 have hRN : R < N := by rw [← hRr.out]; exact Sf.cut_lt y N hN.1
 obtain ⟨p1, hp1⟩ : ∃ q_, Hid (R * k = q_) := ⟨_, hide rfl⟩
 obtain ⟨q, hq⟩ : ∃ q_, Hid (p1 + C = q_) := ⟨_, hide rfl⟩
 have hqn : q < a.ds.length := by
  have h1 := Nat.mul_le_mul_right k (Nat.succ_le_of_lt hRN)
  rw [Nat.succ_mul, hp1.out] at h1
  have h2 := hq.out
  rw [hl]
  omega
 have hnb : a.ds.length ≤ 65536 := by have h := Nat.mul_le_mul hN.2 hk.2; rw [hl]; omega
 obtain ⟨ad, x, hAD, ex, cx⟩ := ri_at ha.dat q hqn
 have hadl : ad.block < w.heap.size := by have := World.block_lt_of_cell? _ _ cx; rwa [elm_block] at this
 rw [hAD] at r2
 obtain ⟨na, hna⟩ : ∃ q_, Hid (a.ds.length = q_) := ⟨_, hide rfl⟩
 obtain ⟨nb, hnb2⟩ : ∃ q_, Hid (b.ds.length = q_) := ⟨_, hide rfl⟩
 rw [hna.out] at r2 hqn hnb
 rw [hnb2.out] at r5 htb hi hm
 have HV : Hid (Sf.gath a.ds b.ds N k i = x) := hide (by
  unfold Sf.gath
  rw [ht.out, hC.out, show b.ds.getD t 0 = y by rw [List.getD_eq_getElem?_getD, ey.out]; rfl, hRr.out, List.getD_eq_getElem?_getD, Sf.row_at _ _ _ _ hCk, hp1.out, hq.out, ex.out]
  rfl)
 obtain ⟨W0, hW0⟩ : ∃ W, W = (w.alloc (.cells #[.slice d.P d.zs.length d.cap, .bool d.u] 24)).alloc (.cells #[.slice (some pa) 2 a.cap, .bool a.u, .slice (some ad) na a.dcap] 26) := ⟨_, rfl⟩
 have hbw : Below w.heap.size w W0 := by rw [hW0]; exact ((Below.refl _ _).alloc (Nat.le_refl _) _).alloc (by simp) _
 have hx : Has W0 (w.heap.size + 1) 26 [.slice (some pa) 2 a.cap, .bool a.u, .slice (some ad) na a.dcap] := by rw [hW0]; exact box_at _ _ _ _ (by simp)
 have hbz : Below w.heap.size w (w.alloc (.cells #[.slice d.P d.zs.length d.cap, .bool d.u] 24)) := (Below.refl _ _).alloc (Nat.le_refl _) _
 have z0 : (w.alloc (.cells #[.slice d.P d.zs.length d.cap, .bool d.u] 24)).cell? pr = some (.slice (some pa) 2 a.cap) := (hbz.cell hprl).trans r0
 have z1 : (w.alloc (.cells #[.slice d.P d.zs.length d.cap, .bool d.u] 24)).cell? ⟨pr.block, pr.off + 1, none⟩ = some (.bool a.u) := (hbz.cell (p := ⟨pr.block, pr.off + 1, none⟩) hprl).trans r1
 have z2 : (w.alloc (.cells #[.slice d.P d.zs.length d.cap, .bool d.u] 24)).cell? ⟨pr.block, pr.off + 2, none⟩ = some (.slice (some ad) na a.dcap) := (hbz.cell (p := ⟨pr.block, pr.off + 2, none⟩) hprl).trans r2
 have c3 : W0.cell? ⟨w.heap.size + 1, 0, none⟩ = some (.slice (some pa) 2 a.cap) := hx.cell 0
 have c4 : W0.cell? ⟨w.heap.size + 1, 2, none⟩ = some (.slice (some ad) na a.dcap) := hx.cell 2
 have c5 : W0.cell? ⟨w.heap.size + 1, 1, none⟩ = some (.bool a.u) := hx.cell 1
 have c0 : W0.cell? pa = some (.int .i64 N) := (hbw.cell hpal).trans a0
 have c1 : W0.cell? ⟨pa.block, pa.off + 1, none⟩ = some (.int .i64 k) := (hbw.cell (p := ⟨pa.block, pa.off + 1, none⟩) hpal).trans a1
 have e1 : ((w.alloc (.cells #[.slice d.P d.zs.length d.cap, .bool d.u] 24)).alloc (.cells #[.slice (some pa) 2 a.cap, .bool a.u, .slice (some ad) na a.dcap] 26)).cell? ⟨pa.block, pa.off + 1, none⟩ = some (.int .i64 k) := by rw [← hW0]; exact c1
 have c2 : W0.cell? (ad.add q) = some (.int .i64 x) := (hbw.cell (by rw [elm_block]; exact hadl)).trans cx
 have c6 : W0.cell? (bd.add t) = some (.int .i64 y) := (hbw.cell (by rw [elm_block]; exact hbdl)).trans cy
 have c7 : W0.cell? ⟨pr.block, pr.off + 5, none⟩ = some (.slice (some bd) nb b.dcap) := (hbw.cell (p := ⟨pr.block, pr.off + 5, none⟩) hprl).trans r5
 have HT1 : Hid ((i : Int) / (k : Int) = (t : Int)) := hide (by rw [← ht.out]; exact (Int.natCast_ediv i k).symm)
 have HT2 : Hid ((i : Int).tdiv (k : Int) = (t : Int)) := hide (by rw [Int.tdiv_eq_ediv_of_nonneg (by omega)]; exact HT1.out)
 have HT3 : Hid (IntKind.i64.wrap (t : Int) = (t : Int)) := hide (by rw [IntKind.wrap_i64]; have := htb; have := hm; have := Nat.le_mul_of_pos_right nb hk.1; omega)
 have HC1 : Hid ((i : Int) % (k : Int) = (C : Int)) := hide (by rw [← hC.out]; exact (Int.natCast_emod i k).symm)
 have HC2 : Hid ((i : Int).tmod (k : Int) = (C : Int)) := hide (by rw [Int.tmod_eq_emod_of_nonneg (by omega)]; exact HC1.out)
 have hqe := hq.out
 have HP1 : Hid (IntKind.i64.wrap ((R : Int) * (k : Int)) = (p1 : Int)) := hide (by
  rw [show (R : Int) * (k : Int) = (p1 : Int) by rw [← hp1.out, Int.natCast_mul], IntKind.wrap_i64]
  omega)
 have HP2 : Hid (IntKind.i64.wrap ((p1 : Int) + (C : Int)) = (q : Int)) := hide (by rw [IntKind.wrap_i64]; omega)
 have HN1 : Hid (IntKind.i64.wrap ((N : Int) - 1) = (N : Int) - 1) := hide (by rw [IntKind.wrap_i64]; omega)
 have HCT := hide (fun W => refcut_c y 0 ((N : Int) - 1) W)
 rw [Sf.cutv_is y N hN.1, hRr.out] at HCT
 have hkn : ¬ ((k : Int) = 0) := by omega
 have hkn2 : ¬ k = 0 := by omega
 have hq0 : (0 : Int) ≤ (q : Int) := by omega
 have hq1 : (q : Int) < (na : Int) := by omega
 have ht0 : (0 : Int) ≤ (t : Int) := by omega
 have ht1 : (t : Int) < (nb : Int) := by omega
 have HB0 := hide hbw
 have HW := hide hW0
 rw [HV.out]
 clear hz hN hk hl hm hi hR ha hb r0 r1 r2 r3 r4 r5 a0 a1 hra hpal hla epa htb hCk ey cy hbdl hBD hRN hqn hnb ex cx hadl hAD hqe hW0 hbw hx hbz hprl HV
 go_enter Tryz.func42, Tryz.ntmps42
 go_wp2_with fail
 rw [← HW.out]
 clear HW z0 z1 z2 e1
 have o1 := HT1.out
 have o2 := HT2.out
 have o3 := HT3.out
 have o4 := HN1.out
 go_quiet ((go_at_call 77; exact Calls.quiet_of_same (HCT.out _)))
 clear o1 o2 o3 o4
 have HB1 := hide (below_drewN HB0.out nq)
 have HBW := hide (below_drewN (Below.refl W0.heap.size W0) nq)
 generalize W0.drewN nq = W3 at *
 go_wp2_with fail
 replace c2 := (HBW.out.cell (World.block_lt_of_cell? _ _ c2)).trans c2
 replace c4 := (HBW.out.cell (World.block_lt_of_cell? _ _ c4)).trans c4
 have o1 := HC1.out
 have o2 := HC2.out
 have o3 := HP1.out
 have o4 := HP2.out
 go_quiet (fail)
 clear o1 o2 o3 o4 c2 c4
 have HB2 := hide (below_drewN HB1.out nq)
 generalize W3.drewN nq = W4 at *
 go_wp2_with fail
 go_ret
 exact ⟨rfl, HB2.out⟩
theorem Sf.top_step (V : Nat → Int) (j : Nat) : Pl.top V (j + 1) = max (Pl.top V j) (V j) := rfl
set_option maxRecDepth 100000 in
set_option maxHeartbeats 8000000 in
theorem rsoftmax_c (a b : Ten) (k m n : Nat) (hf : Sf.Rows a k m n) (hsa : ∀ z ∈ a.ds, -128 ≤ z ∧ z ≤ 127) (hbl : b.ds.length = 256) (hsb : ∀ z ∈ b.ds, -2147483648 ≤ z ∧ z ≤ 2147483647) (i : Nat) (w : World) (hi : i < m * n) (ha : a.In w) (hb : b.In w) :
  Calls Tryz.prog 76 #[.int .i64 i, .agg (tcells a.P a.zs.length a.cap a.u a.D a.ds.length a.dcap), .agg (tcells b.P b.zs.length b.cap b.u b.D b.ds.length b.dcap)] w fun e w' => e = .returned (.int .i64 (Sf.soft a.ds b.ds n i)) ∧ Below w.heap.size w w' := by
 have hk1 := hf.k1
 obtain ⟨K1, hK1⟩ : ∃ q, Hid (k - 1 = q) := ⟨_, hide rfl⟩
 have hK : k = K1 + 1 := by have := hK1.out; omega
 have hkz : a.zs.length = K1 + 1 := by rw [hf.zl, hK]
 have hk4 : K1 < 4 := by have := hf.k4; omega
 obtain ⟨pa, zl, epa, ez, cz⟩ := ri_at ha.shp K1 (by omega)
 have hzn : zl = (n : Int) := by
  have h := hf.last
  rw [hK1.out, ez.out] at h
  exact Option.some.inj h
 subst hzn
 have hpal : pa.block < w.heap.size := by have := World.block_lt_of_cell? _ _ cz; rwa [elm_block] at this
 have hn1 := hf.n1
 have hn2 := hf.n2
 have hmn := hf.len
 have hbig := hf.big
 have hil : i < a.ds.length := by rw [hmn]; exact hi
 have hne : a.ds ≠ [] := by intro h; rw [h] at hil; simp at hil
 have hneb : b.ds ≠ [] := by intro h; rw [h] at hbl; simp at hbl
 obtain ⟨ad, hAD, hadl, HC⟩ := ri_cells ha.dat hne
 obtain ⟨bd, hBD, hbdl, HD⟩ := ri_cells hb.dat hneb
 obtain ⟨r, hr⟩ : ∃ q_, Hid (i / n = q_) := ⟨_, hide rfl⟩
 obtain ⟨c, hc⟩ : ∃ q_, Hid (i % n = q_) := ⟨_, hide rfl⟩
 have hcn : c < n := by rw [← hc.out]; exact Nat.mod_lt _ hn1
 have hrm : r < m := by rw [← hr.out]; exact Nat.div_lt_of_lt_mul (by rw [Nat.mul_comm]; exact hi)
 obtain ⟨p, hp⟩ : ∃ q_, Hid (r * n = q_) := ⟨_, hide rfl⟩
 have hpc : p + c = i := by
  rw [← hp.out, ← hr.out, ← hc.out, Nat.mul_comm]
  exact Nat.div_add_mod i n
 obtain ⟨na, hna⟩ : ∃ q_, Hid (a.ds.length = q_) := ⟨_, hide rfl⟩
 have hpb : p + n ≤ na := by
  have h1 := Nat.mul_le_mul_right n (Nat.succ_le_of_lt hrm)
  rw [Nat.succ_mul, hp.out] at h1
  rw [← hna.out, hmn]
  exact h1
 have hnb : na ≤ 16384 := by rw [← hna.out]; exact hbig
 obtain ⟨V, hV⟩ : ∃ V : Nat → Int, Hid ((fun j => (Sf.row a.ds n r).getD j 0) = V) := ⟨_, hide rfl⟩
 have HVj : Hid (∀ j, j < n → a.ds[p + j]? = some (V j)) := hide (fun j hj => by
  have h1 : p + j < a.ds.length := by rw [hna.out]; omega
  rw [List.getElem?_eq_getElem h1, ← hV.out]
  show _ = some ((Sf.row a.ds n r).getD j 0)
  rw [List.getD_eq_getElem?_getD, Sf.row_at _ _ _ _ hj, hp.out, List.getElem?_eq_getElem h1]
  rfl)
 have HVb : Hid (∀ j, -128 ≤ V j ∧ V j ≤ 127) := hide (fun j => by
  rw [← hV.out]
  show -128 ≤ (Sf.row a.ds n r).getD j 0 ∧ (Sf.row a.ds n r).getD j 0 ≤ 127
  rw [List.getD_eq_getElem?_getD]
  cases e : (Sf.row a.ds n r)[j]? with
  | none => exact ⟨by decide, by decide⟩
  | some q =>
   have h := List.mem_of_getElem? e
   unfold Sf.row at h
   exact hsa q (List.mem_of_mem_drop (List.mem_of_mem_take h)))
 obtain ⟨M, hM⟩ : ∃ M, Hid (Pl.top V n = M) := ⟨_, hide rfl⟩
 have HMb : Hid (-128 ≤ M ∧ M ≤ 127) := hide (by rw [← hM.out]; exact Pl.top_le V (-128) 127 n (HVb.out 0) (fun i _ => HVb.out i))
 obtain ⟨E, hE⟩ : ∃ E : Nat → Nat, Hid ((fun j => Sf.by_ (Sf.row a.ds n r) n j) = E) := ⟨_, hide rfl⟩
 have HEj : Hid (∀ j, j < n → M - V j = (E j : Int) ∧ E j < 256) := hide (fun j hj => by
  have h := Sf.by_lt (row := Sf.row a.ds n r) (n := n) (j := j) (fun j => by have h := HVb.out j; rw [← hV.out] at h; exact h) hj
  have h1 : M = Pl.top (fun j => (Sf.row a.ds n r).getD j 0) n := by rw [← hM.out, ← hV.out]
  have h2 : V j = (Sf.row a.ds n r).getD j 0 := by rw [← hV.out]
  rw [h1, h2, ← hE.out]
  exact ⟨h.2, h.1⟩)
 obtain ⟨U, hU⟩ : ∃ U : Nat → Int, Hid ((fun j => Sf.wt b.ds (E j)) = U) := ⟨_, hide rfl⟩
 have HUj : Hid (∀ j, j < n → ∃ y, b.ds[E j]? = some y ∧ (if (0 : Int) < y then y else 0) = U j ∧ (if y < (0 : Int) then 0 else y) = U j) := hide (fun j hj => by
  have h1 : E j < b.ds.length := by rw [hbl]; exact (HEj.out j hj).2
  refine ⟨b.ds[E j], List.getElem?_eq_getElem h1, ?_⟩
  have h2 : U j = max 0 b.ds[E j] := by
   rw [← hU.out]
   show Sf.wt b.ds (E j) = _
   unfold Sf.wt
   rw [List.getD_eq_getElem?_getD, List.getElem?_eq_getElem h1]
   rfl
  rw [h2]
  generalize b.ds[E j] = y
  exact ⟨by split <;> omega, by split <;> omega⟩)
 have HUb : Hid (∀ j, 0 ≤ U j ∧ U j ≤ 2147483647) := hide (fun j => by rw [← hU.out]; exact Sf.wt_le hsb _)
 obtain ⟨S, hS⟩ : ∃ S, Hid (Pl.add U n = S) := ⟨_, hide rfl⟩
 have HRes : Hid (Sf.soft a.ds b.ds n i = Sf.of S (U c)) := hide (by
  unfold Sf.soft Sf.all
  rw [hr.out, hc.out, ← hS.out, ← hU.out, ← hE.out])
 have HSb : Hid (∀ j, j ≤ n → 0 ≤ Pl.add U j ∧ Pl.add U j ≤ 549755813888) := hide (fun j hj => by
  have h1 := Pl.add_pos U j (fun i _ => (HUb.out i).1)
  have h2 := Pl.add_le U 2147483648 j (fun i _ => by have := HUb.out i; omega)
  omega)
 obtain ⟨nz, hnz⟩ : ∃ q_, Hid (b.zs.length = q_) := ⟨_, hide rfl⟩
 obtain ⟨K, hKK⟩ : ∃ q, Hid (K1 + 1 = q) := ⟨_, hide rfl⟩
 rw [hkz, hKK.out, hna.out, hnz.out, hbl, epa, hAD, hBD]
 obtain ⟨W0, hW0⟩ : ∃ W, W = (w.alloc (.cells #[.slice (some pa) K a.cap, .bool a.u, .slice (some ad) na a.dcap] 26)).alloc (.cells #[.slice b.P nz b.cap, .bool b.u, .slice (some bd) 256 b.dcap] 26) := ⟨_, rfl⟩
 have hbw : Below w.heap.size w W0 := by rw [hW0]; exact ((Below.refl _ _).alloc (Nat.le_refl _) _).alloc (by simp) _
 have hxa : Has W0 w.heap.size 26 [.slice (some pa) K a.cap, .bool a.u, .slice (some ad) na a.dcap] := by rw [hW0]; exact (Has.new w 26 _).alloc _
 have hxb : Has W0 (w.heap.size + 1) 26 [.slice b.P nz b.cap, .bool b.u, .slice (some bd) 256 b.dcap] := by rw [hW0]; exact box_at _ _ _ _ (by simp)
 have cn : W0.cell? (pa.add K1) = some (.int .i64 n) := (hbw.cell (by rw [elm_block]; exact hpal)).trans cz
 have e0 : ((w.alloc (.cells #[.slice (some pa) K a.cap, .bool a.u, .slice (some ad) na a.dcap] 26)).alloc (.cells #[.slice b.P nz b.cap, .bool b.u, .slice (some bd) 256 b.dcap] 26)).cell? (pa.add K1) = some (.int .i64 n) := by rw [← hW0]; exact cn
 have HXA := hide hxa
 have HXB := hide hxb
 have HCW : Hid (∀ j, j < n → W0.cell? (ad.add (p + j)) = some (.int .i64 (V j))) := hide (fun j hj => (hbw.cell (by rw [elm_block]; exact hadl)).trans (HC.out _ _ (HVj.out j hj)))
 have HDW : Hid (∀ j y, b.ds[E j]? = some y → W0.cell? (bd.add (E j)) = some (.int .i64 y)) := hide (fun j y hy => (hbw.cell (by rw [elm_block]; exact hbdl)).trans (HD.out _ _ hy))
 have HB0 := hide hbw
 have HW := hide hW0
 have HK1 : Hid (wrap64 ((K : Int) - 1) = (K1 : Int)) := hide (by have := hKK.out; unfold wrap64; omega)
 have hkk0 : (0 : Int) ≤ (K1 : Int) := by omega
 have hkk1 : (K1 : Int) < (K : Int) := by have := hKK.out; omega
 have HR1 : Hid ((i : Int) / (n : Int) = (r : Int)) := hide (by rw [← hr.out]; exact (Int.natCast_ediv i n).symm)
 have HR2 : Hid ((i : Int).tdiv (n : Int) = (r : Int)) := hide (by rw [Int.tdiv_eq_ediv_of_nonneg (by omega)]; exact HR1.out)
 have hri : r ≤ i := by rw [← hr.out]; exact Nat.div_le_self _ _
 have HR3 : Hid (wrap64 (r : Int) = (r : Int)) := hide (by unfold wrap64; omega)
 have HP : Hid (wrap64 ((r : Int) * (n : Int)) = (p : Int)) := hide (by rw [← Int.natCast_mul, hp.out]; unfold wrap64; omega)
 have hnn : ¬ ((n : Int) = 0) := by omega
 have hnn2 : ¬ n = 0 := by omega
 have hp0 : (0 : Int) ≤ (p : Int) := by omega
 have hp1 : (p : Int) < (na : Int) := by omega
 have hi0 : (0 : Int) ≤ (i : Int) := by omega
 have hina : (i : Int) < (na : Int) := by omega
 have HBN : Hid (1 ≤ n ∧ n ≤ 256) := hide ⟨hn1, hn2⟩
 have HPB : Hid (p + n ≤ na ∧ na ≤ 16384) := hide ⟨hpb, hnb⟩
 have HIC : Hid (p + c = i) := hide hpc
 have HCN : Hid (c < n) := hide hcn
 have cp0 : W0.cell? (ad.add p) = some (.int .i64 (V 0)) := HCW.out 0 hn1
 have ep0 : ((w.alloc (.cells #[.slice (some pa) K a.cap, .bool a.u, .slice (some ad) na a.dcap] 26)).alloc (.cells #[.slice b.P nz b.cap, .bool b.u, .slice (some bd) 256 b.dcap] 26)).cell? (ad.add p) = some (.int .i64 (V 0)) := by rw [← hW0]; exact cp0
 rw [HRes.out]
 clear hf hsa hbl hsb hi ha hb hW0 hbw hxa hxb epa hkz hK hk1 hpal hne hneb hAD hBD hadl hbdl HC HD hmn hbig hpb hnb HRes cz ez hn1 hn2 hil hcn hrm hpc hri hk4 HVj
 go_enter Tryz.func76, Tryz.ntmps76
 have o1 := HK1.out
 have o2 := HR1.out
 have o3 := HR2.out
 have o4 := HR3.out
 have o5 := HP.out
 go_wp2_with fail
 rw [← HW.out, o5]
 clear HW e0 ep0 o1 o2 o3 o4 o5 hkk0 hkk1 cn cp0 hp0 hp1
 go_loopg [9, 10] n (fun gq v9 v10 wr => ∃ (j : Nat) (x : Int), gq + j = n ∧ v10 = .int .i64 j ∧ v9 = .int .i64 x ∧ Hid (Pl.top V j = x) ∧ W0 = wr)
 case atStart => exact ⟨0, V 0, by omega, rfl, rfl, hide rfl, rfl⟩
 case round =>
  obtain ⟨j, x, hj9, rfl, rfl, HX, hwr⟩ := hrel
  subst hwr
  by_cases hlt : j < n
  ·have hii : (j : Int) < (n : Int) := by omega
   have c2 := HXA.out.cell 2
   have x1 := HCW.out j hlt
   obtain ⟨q, hq⟩ : ∃ q, Hid (p + j = q) := ⟨_, hide rfl⟩
   obtain ⟨y, hy⟩ : ∃ q, Hid (V j = q) := ⟨_, hide rfl⟩
   rw [hq.out, hy.out] at x1
   have HQ : Hid (wrap64 ((p : Int) + (j : Int)) = (q : Int)) := hide (by have h1 := hq.out; have h2 := HPB.out; unfold wrap64; omega)
   have hq0 : (0 : Int) ≤ (q : Int) := by omega
   have hq1 : (q : Int) < (na : Int) := by have h1 := hq.out; have h2 := HPB.out; omega
   obtain ⟨z, hz⟩ : ∃ z, Hid (max x y = z) := ⟨_, hide rfl⟩
   have HT : Hid (Pl.top V (j + 1) = z) := hide (by rw [Sf.top_step, HX.out, hy.out, hz.out])
   have m1 : (if x < y then y else x) = z := by have := hz.out; split <;> omega
   have m2 : (if y < x then x else y) = z := by have := hz.out; split <;> omega
   have hj2 : (j : Int) + 1 ≤ 257 := by have := HBN.out; omega
   have hj3 : 0 ≤ (j : Int) + 1 := by omega
   have o1 := HQ.out
   go_wp2_with fail
   clear o1
   go_roundg (n - (j + 1))
   case measure => omega
   case rel => exact ⟨j + 1, z, by omega, by go_num, rfl, HT, rfl⟩
  ·obtain rfl : j = n := by omega
   have hii : ¬ (j : Int) < (j : Int) := by omega
   have HXM : Hid (x = M) := hide (by rw [← HX.out]; exact hM.out)
   obtain rfl := HXM.out
   clear HXM HX
   go_wp2_with fail
   have HBI := hide (Below.refl W0.heap.size W0)
   go_loopg [11, 12] j (fun gq v11 v12 wr => ∃ (q : Nat) (s : Int), gq + q = j ∧ v12 = .int .i64 q ∧ v11 = .int .i64 s ∧ Hid (Pl.add U q = s) ∧ Hid (Below W0.heap.size W0 wr))
   case atStart => exact ⟨0, 0, by omega, rfl, rfl, hide rfl, HBI⟩
   case round =>
    clear HBI
    obtain ⟨q, s, hq9, rfl, rfl, HS, HB⟩ := hrel
    have c2 := (HXA.out.below HB.out HXA.out.lt).cell 2
    have d2 := (HXB.out.below HB.out HXB.out.lt).cell 2
    by_cases hlt : q < j
    ·have hii : (q : Int) < (j : Int) := by omega
     obtain ⟨y, hy, m1, m2⟩ := HUj.out q hlt
     have x1 := (HB.out.cell (World.block_lt_of_cell? _ _ (HCW.out q hlt))).trans (HCW.out q hlt)
     have x2 := (HB.out.cell (World.block_lt_of_cell? _ _ (HDW.out q y hy))).trans (HDW.out q y hy)
     obtain ⟨h, hh⟩ : ∃ h, Hid (p + q = h) := ⟨_, hide rfl⟩
     obtain ⟨v, hv⟩ : ∃ h, Hid (V q = h) := ⟨_, hide rfl⟩
     obtain ⟨f, hf⟩ : ∃ h, Hid (E q = h) := ⟨_, hide rfl⟩
     obtain ⟨u, hu⟩ : ∃ h, Hid (U q = h) := ⟨_, hide rfl⟩
     have HEq := hide (HEj.out q hlt)
     rw [hh.out, hv.out] at x1
     rw [hf.out] at x2
     rw [hv.out, hf.out] at HEq
     rw [hu.out] at m1 m2
     have HQ : Hid (IntKind.i64.wrap ((p : Int) + (q : Int)) = (h : Int)) := hide (by have h1 := hh.out; have h2 := HPB.out; rw [IntKind.wrap_i64]; omega)
     have HE1 : Hid (IntKind.i64.wrap (x - v) = (f : Int)) := hide (by have h1 := HEq.out; rw [IntKind.wrap_i64]; omega)
     have hh0 : (0 : Int) ≤ (h : Int) := by omega
     have hh1 : (h : Int) < (na : Int) := by have h1 := hh.out; have h2 := HPB.out; omega
     have hf0 : (0 : Int) ≤ (f : Int) := by omega
     have hf1 : (f : Int) < 256 := by have h1 := HEq.out; omega
     have HAd : Hid (Pl.add U (q + 1) = s + u) := hide (by
      show Pl.add U q + U q = _
      rw [HS.out, hu.out])
     have HSu : Hid (IntKind.i64.wrap (s + u) = s + u) := hide (by
      have h1 := HSb.out (q + 1) (by omega)
      rw [HAd.out] at h1
      rw [IntKind.wrap_i64]
      omega)
     have hj2 : (q : Int) + 1 ≤ 257 := by have := HBN.out; omega
     have hj3 : 0 ≤ (q : Int) + 1 := by omega
     clear hy
     go_wp2_with fail
     have o1 := HQ.out
     have o2 := HE1.out
     have o3 := HSu.out
     go_quiet (fail)
     clear o1 o2 o3
     have HBq := hide (below_drewN HB.out nq)
     generalize wr.drewN nq = W3 at *
     go_wp2_with fail
     go_roundg (j - (q + 1))
     case measure => omega
     case rel => exact ⟨q + 1, s + u, by omega, by go_num, by first | rfl | rw [HSu.out], HAd, HBq⟩
    ·obtain rfl : q = j := by omega
     have hii : ¬ (q : Int) < (q : Int) := by omega
     obtain rfl : s = S := by rw [← HS.out]; exact hS.out
     have hs := HSb.out q (by omega)
     rw [HS.out] at hs
     have HBF := hide (HB0.out.trans (HB.out.mono HB0.out.size))
     by_cases hz : s = 0
     ·have HRR : Hid (Sf.of s (U c) = -128) := hide (by unfold Sf.of; rw [if_pos hz])
      have hz2 : (s == 0) = true := by simp [hz]
      clear hz hs
      go_wp2_with fail
      go_ret
      exact ⟨by rw [HRR.out]; rfl, HBF.out⟩
     ·have hz2 : (s == 0) = false := by simp [hz]
      have hzz : s ≠ 0 := hz
      obtain ⟨y, hy, m1, m2⟩ := HUj.out c HCN.out
      have x1 := (HB.out.cell (World.block_lt_of_cell? _ _ (HCW.out c HCN.out))).trans (HCW.out c HCN.out)
      have x2 := (HB.out.cell (World.block_lt_of_cell? _ _ (HDW.out c y hy))).trans (HDW.out c y hy)
      rw [HIC.out] at x1
      have HEq := hide (HEj.out c HCN.out)
      have hub := HUb.out c
      obtain ⟨v, hv⟩ : ∃ h, Hid (V c = h) := ⟨_, hide rfl⟩
      obtain ⟨f, hf⟩ : ∃ h, Hid (E c = h) := ⟨_, hide rfl⟩
      obtain ⟨u, hu⟩ : ∃ h, Hid (U c = h) := ⟨_, hide rfl⟩
      rw [hv.out] at x1
      rw [hf.out] at x2
      rw [hv.out, hf.out] at HEq
      rw [hu.out] at m1 m2 hub
      have HE1 : Hid (IntKind.i64.wrap (x - v) = (f : Int)) := hide (by have h1 := HEq.out; rw [IntKind.wrap_i64]; omega)
      have hf0 : (0 : Int) ≤ (f : Int) := by omega
      have hf1 : (f : Int) < 256 := by have h1 := HEq.out; omega
      obtain ⟨p1, hp1⟩ : ∃ x, Hid (255 * u = x) := ⟨_, hide rfl⟩
      obtain ⟨p3, hp3⟩ : ∃ x, Hid (s / 2 = x) := ⟨_, hide rfl⟩
      obtain ⟨p4, hp4⟩ : ∃ x, Hid (p1 + p3 = x) := ⟨_, hide rfl⟩
      obtain ⟨p5, hp5⟩ : ∃ x, Hid (p4 / s = x) := ⟨_, hide rfl⟩
      have HRR : Hid (Sf.of s (U c) = p5 - 128) := hide (by unfold Sf.of; rw [if_neg hzz, hu.out, hp1.out, hp3.out, hp4.out, hp5.out])
      have b1 : 0 ≤ p1 ∧ p1 ≤ 547608330240 := by rw [← hp1.out]; omega
      have b3 : 0 ≤ p3 ∧ p3 ≤ 274877906944 := by rw [← hp3.out]; omega
      have b4 : 0 ≤ p4 ∧ p4 ≤ 1099511627776 := by rw [← hp4.out]; omega
      have b5 : 0 ≤ p5 := by rw [← hp5.out]; exact Int.ediv_nonneg b4.1 (by omega)
      have b6 : p5 ≤ p4 := by rw [← hp5.out]; exact Int.ediv_le_self _ b4.1
      have e3 : s.tdiv 2 = p3 := by rw [Int.tdiv_eq_ediv_of_nonneg (by omega)]; exact hp3.out
      have e5 : p4.tdiv s = p5 := by rw [Int.tdiv_eq_ediv_of_nonneg b4.1]; exact hp5.out
      have O1 : Hid (wrap64 (255 * u) = p1) := hide (by rw [hp1.out]; unfold wrap64; omega)
      have O3 : Hid (wrap64 (s / 2) = p3) := hide (by rw [hp3.out]; unfold wrap64; omega)
      have O3b : Hid (wrap64 (s.tdiv 2) = p3) := hide (by rw [e3]; unfold wrap64; omega)
      have O4 : Hid (wrap64 (p1 + p3) = p4) := hide (by rw [hp4.out]; unfold wrap64; omega)
      have O5 : Hid (wrap64 (p4 / s) = p5) := hide (by rw [hp5.out]; unfold wrap64; omega)
      have O5b : Hid (wrap64 (p4.tdiv s) = p5) := hide (by rw [e5]; unfold wrap64; omega)
      have O6 : Hid (wrap64 (p5 - 128) = p5 - 128) := hide (by unfold wrap64; omega)
      have h20 : ¬ s = 0 := hzz
      clear hs hub b1 b3 b4 b5 b6 e3 e5 hy hz hzz
      go_wp2_with fail
      have o1 := HE1.out
      go_quiet (fail)
      clear o1
      have HBG := hide (below_drewN HBF.out nq)
      generalize wr.drewN nq = W3 at *
      have o1 := O1.out
      have o3 := O3.out
      have o3b := O3b.out
      have o4 := O4.out
      have o5 := O5.out
      have o5b := O5b.out
      have o6 := O6.out
      go_wp2_with fail
      clear o1 o3 o3b o4 o5 o5b o6
      go_ret
      exact ⟨by rw [HRR.out]; first | rfl | (rw [O6.out]; rfl), HBG.out⟩
set_option maxRecDepth 100000 in
set_option maxHeartbeats 4000000 in
theorem relem_soft (a b : Ten) (v : Int) (d : Dsc) (A B : Option Addr) (nq qcap cap i : Nat) (w : World) (hR : Row w B ([a, b].flatMap Ten.vals))
  (hS : ∀ W, Below w.heap.size w W → Calls Tryz.prog 76 #[.int .i64 i, .agg (tcells a.P a.zs.length a.cap a.u a.D a.ds.length a.dcap), .agg (tcells b.P b.zs.length b.cap b.u b.D b.ds.length b.dcap)] W fun e w' => e = .returned (.int .i64 v) ∧ Below W.heap.size W w') :
  Calls Tryz.prog 42 #[.int .i64 16, .slice A nq qcap, .int .i64 i, .slice B 2 cap, .agg (dcells d.P d.zs.length d.cap d.u)] w fun e w' => e = .returned (.int .i64 v) ∧ Below w.heap.size w w' := by
 obtain ⟨pr, hpr, hprl, r0, r1, r2, r3, r4, r5⟩ := row_two hR
 subst hpr
 obtain ⟨W0, hW0⟩ : ∃ W, W = (w.alloc (.cells #[.slice d.P d.zs.length d.cap, .bool d.u] 24)).alloc (.cells #[.slice a.P a.zs.length a.cap, .bool a.u, .slice a.D a.ds.length a.dcap] 26) := ⟨_, rfl⟩
 have hbw : Below w.heap.size w W0 := by rw [hW0]; exact ((Below.refl _ _).alloc (Nat.le_refl _) _).alloc (by simp) _
 have hx : Has W0 (w.heap.size + 1) 26 [.slice a.P a.zs.length a.cap, .bool a.u, .slice a.D a.ds.length a.dcap] := by rw [hW0]; exact box_at _ _ _ _ (by simp)
 have hbz : Below w.heap.size w (w.alloc (.cells #[.slice d.P d.zs.length d.cap, .bool d.u] 24)) := (Below.refl _ _).alloc (Nat.le_refl _) _
 have z0 : (w.alloc (.cells #[.slice d.P d.zs.length d.cap, .bool d.u] 24)).cell? pr = some (.slice a.P a.zs.length a.cap) := (hbz.cell hprl).trans r0
 have z1 : (w.alloc (.cells #[.slice d.P d.zs.length d.cap, .bool d.u] 24)).cell? ⟨pr.block, pr.off + 1, none⟩ = some (.bool a.u) := (hbz.cell (p := ⟨pr.block, pr.off + 1, none⟩) hprl).trans r1
 have z2 : (w.alloc (.cells #[.slice d.P d.zs.length d.cap, .bool d.u] 24)).cell? ⟨pr.block, pr.off + 2, none⟩ = some (.slice a.D a.ds.length a.dcap) := (hbz.cell (p := ⟨pr.block, pr.off + 2, none⟩) hprl).trans r2
 have c3 : W0.cell? ⟨w.heap.size + 1, 0, none⟩ = some (.slice a.P a.zs.length a.cap) := hx.cell 0
 have c4 : W0.cell? ⟨w.heap.size + 1, 2, none⟩ = some (.slice a.D a.ds.length a.dcap) := hx.cell 2
 have c5 : W0.cell? ⟨w.heap.size + 1, 1, none⟩ = some (.bool a.u) := hx.cell 1
 have c6 : W0.cell? ⟨pr.block, pr.off + 3, none⟩ = some (.slice b.P b.zs.length b.cap) := (hbw.cell (p := ⟨pr.block, pr.off + 3, none⟩) hprl).trans r3
 have c7 : W0.cell? ⟨pr.block, pr.off + 4, none⟩ = some (.bool b.u) := (hbw.cell (p := ⟨pr.block, pr.off + 4, none⟩) hprl).trans r4
 have c8 : W0.cell? ⟨pr.block, pr.off + 5, none⟩ = some (.slice b.D b.ds.length b.dcap) := (hbw.cell (p := ⟨pr.block, pr.off + 5, none⟩) hprl).trans r5
 have HBD := hide hbw.drew
 have HV := hide (hS W0.drew hbw.drew)
 have HW := hide hW0
 clear hR r0 r1 r2 r3 r4 r5 hW0 hbw hx hbz hprl hS
 go_enter Tryz.func42, Tryz.ntmps42
 go_wp2_with fail
 rw [← HW.out]
 clear HW z0 z1 z2
 go_region_law (first | (go_simp; go_at_call 76; refine HV.out.mono ?_; rintro e w2 ⟨rfl, hb⟩; have HB2 := hide (HBD.out.trans (hb.mono HBD.out.size)); clear hb))
 all_goals go_ways
 all_goals
  go_wp2_with fail
  go_ret
  exact ⟨rfl, HB2.out⟩
set_option maxRecDepth 100000 in
set_option maxHeartbeats 4000000 in
theorem relem_one (op : Int) (ho : 4 ≤ op ∧ op ≤ 11) (qs : List Int) (a : Ten) (x : Int) (hql : qs.length = Elm.nargs op) (hm : Elm.may op a.u qs = true) (d : Dsc) (A B : Option Addr) (qcap cap i : Nat) (w : World) (hxi : a.ds[i]? = some x) (hQ : Ri w A qs) (hR : Row w B ([a].flatMap Ten.vals)) (ha : a.In w) :
  Calls Tryz.prog 42 #[.int .i64 op, .slice A qs.length qcap, .int .i64 i, .slice B 1 cap, .agg (dcells d.P d.zs.length d.cap d.u)] w fun e w' => e = .returned (.int .i64 (Elm.val op a.u x 0 qs)) ∧ Below w.heap.size w w' := by
 obtain ⟨pr, hpr, hprl, r0, r1, r2⟩ := row_one hR
 subst hpr
 have hil := (List.getElem?_eq_some_iff.1 hxi).1
 obtain ⟨ad, x', hAD, ex, cx⟩ := ri_at ha.dat i hil
 obtain rfl : x' = x := Option.some.inj (ex.out.symm.trans hxi)
 have hadl : ad.block < w.heap.size := by have := World.block_lt_of_cell? _ _ cx; rwa [elm_block] at this
 have hld := ha.ld
 rw [hAD] at r2
 obtain ⟨na, hna⟩ : ∃ q_, Hid (a.ds.length = q_) := ⟨_, hide rfl⟩
 obtain ⟨nz, hnz⟩ : ∃ q_, Hid (a.zs.length = q_) := ⟨_, hide rfl⟩
 rw [hna.out] at r2 hil hld
 rw [hnz.out] at r0
 obtain ⟨W0, hW0⟩ : ∃ W, W = (w.alloc (.cells #[.slice d.P d.zs.length d.cap, .bool d.u] 24)).alloc (.cells #[.slice a.P nz a.cap, .bool a.u, .slice (some ad) na a.dcap] 26) := ⟨_, rfl⟩
 have hbw : Below w.heap.size w W0 := by rw [hW0]; exact ((Below.refl _ _).alloc (Nat.le_refl _) _).alloc (by simp) _
 have hx : Has W0 (w.heap.size + 1) 26 [.slice a.P nz a.cap, .bool a.u, .slice (some ad) na a.dcap] := by rw [hW0]; exact box_at _ _ _ _ (by simp)
 have hbz : Below w.heap.size w (w.alloc (.cells #[.slice d.P d.zs.length d.cap, .bool d.u] 24)) := (Below.refl _ _).alloc (Nat.le_refl _) _
 have z0 : (w.alloc (.cells #[.slice d.P d.zs.length d.cap, .bool d.u] 24)).cell? pr = some (.slice a.P nz a.cap) := (hbz.cell hprl).trans r0
 have z1 : (w.alloc (.cells #[.slice d.P d.zs.length d.cap, .bool d.u] 24)).cell? ⟨pr.block, pr.off + 1, none⟩ = some (.bool a.u) := (hbz.cell (p := ⟨pr.block, pr.off + 1, none⟩) hprl).trans r1
 have z2 : (w.alloc (.cells #[.slice d.P d.zs.length d.cap, .bool d.u] 24)).cell? ⟨pr.block, pr.off + 2, none⟩ = some (.slice (some ad) na a.dcap) := (hbz.cell (p := ⟨pr.block, pr.off + 2, none⟩) hprl).trans r2
 have c3 : W0.cell? ⟨w.heap.size + 1, 0, none⟩ = some (.slice a.P nz a.cap) := hx.cell 0
 have c4 : W0.cell? ⟨w.heap.size + 1, 2, none⟩ = some (.slice (some ad) na a.dcap) := hx.cell 2
 have c5 : W0.cell? ⟨w.heap.size + 1, 1, none⟩ = some (.bool a.u) := hx.cell 1
 have cn : W0.cell? (ad.add i) = some (.int .i64 x') := (hbw.cell (by rw [elm_block]; exact hadl)).trans cx
 have HB0 := hide hbw
 have HV := hide (rvalue_c op ho a.u x' 0 qs A qcap W0.drew hql (hQ.below hbw.drew) hm)
 have HW := hide hW0
 have hi0 : (0 : Int) ≤ (i : Int) := by omega
 have hi1 : (i : Int) < (na : Int) := by omega
 have ho1 : op ≤ 11 := ho.2
 obtain ⟨v, hv⟩ : ∃ v, Hid (Elm.val op a.u x' 0 qs = v) := ⟨_, hide rfl⟩
 rw [hv.out] at HV ⊢
 obtain ⟨nq, hnq⟩ : ∃ v, Hid (qs.length = v) := ⟨_, hide rfl⟩
 rw [hnq.out] at HV ⊢
 clear hxi hql hm hQ hR ha r0 r1 r2 hil ex cx hadl hld hAD hW0 hbw hx hbz hprl ho hna hnz
 go_enter Tryz.func42, Tryz.ntmps42
 go_wp2_with fail
 rw [← HW.out]
 clear HW z0 z1 z2
 go_region_law (first | (go_simp; go_at_call 72; refine HV.out.mono ?_; rintro e w2 ⟨rfl, kk, rfl⟩; have HB2 := hide (below_drewN HB0.out (1 + kk))))
 all_goals go_ways
 all_goals
  go_wp2_with fail
  go_ret
  exact ⟨rfl, HB2.out⟩
set_option maxRecDepth 100000 in
set_option maxHeartbeats 4000000 in
theorem relem_two (op : Int) (ho : 4 ≤ op ∧ op ≤ 11) (qs : List Int) (a b : Ten) (x y : Int) (hql : qs.length = Elm.nargs op) (hm : Elm.may op a.u qs = true) (d : Dsc) (A B : Option Addr) (qcap cap i : Nat) (w : World) (hxi : a.ds[i]? = some x) (hyi : b.ds[i]? = some y) (hQ : Ri w A qs) (hR : Row w B ([a, b].flatMap Ten.vals)) (ha : a.In w) (hb : b.In w) :
  Calls Tryz.prog 42 #[.int .i64 op, .slice A qs.length qcap, .int .i64 i, .slice B 2 cap, .agg (dcells d.P d.zs.length d.cap d.u)] w fun e w' => e = .returned (.int .i64 (Elm.val op a.u x y qs)) ∧ Below w.heap.size w w' := by
 obtain ⟨pr, hpr, hprl, r0, r1, r2, r3, r4, r5⟩ := row_two hR
 subst hpr
 have hil := (List.getElem?_eq_some_iff.1 hxi).1
 obtain ⟨ad, x', hAD, ex, cx⟩ := ri_at ha.dat i hil
 obtain rfl : x' = x := Option.some.inj (ex.out.symm.trans hxi)
 have hadl : ad.block < w.heap.size := by have := World.block_lt_of_cell? _ _ cx; rwa [elm_block] at this
 have hld := ha.ld
 rw [hAD] at r2
 obtain ⟨na, hna⟩ : ∃ q_, Hid (a.ds.length = q_) := ⟨_, hide rfl⟩
 obtain ⟨nz, hnz⟩ : ∃ q_, Hid (a.zs.length = q_) := ⟨_, hide rfl⟩
 rw [hna.out] at r2 hil hld
 rw [hnz.out] at r0
 have hjl := (List.getElem?_eq_some_iff.1 hyi).1
 obtain ⟨bd, y', hBD, ey, cy⟩ := ri_at hb.dat i hjl
 obtain rfl : y' = y := Option.some.inj (ey.out.symm.trans hyi)
 have hbdl : bd.block < w.heap.size := by have := World.block_lt_of_cell? _ _ cy; rwa [elm_block] at this
 rw [hBD] at r5
 obtain ⟨nb, hnb⟩ : ∃ q_, Hid (b.ds.length = q_) := ⟨_, hide rfl⟩
 rw [hnb.out] at r5 hjl
 obtain ⟨W0, hW0⟩ : ∃ W, W = (w.alloc (.cells #[.slice d.P d.zs.length d.cap, .bool d.u] 24)).alloc (.cells #[.slice a.P nz a.cap, .bool a.u, .slice (some ad) na a.dcap] 26) := ⟨_, rfl⟩
 have hbw : Below w.heap.size w W0 := by rw [hW0]; exact ((Below.refl _ _).alloc (Nat.le_refl _) _).alloc (by simp) _
 have hx : Has W0 (w.heap.size + 1) 26 [.slice a.P nz a.cap, .bool a.u, .slice (some ad) na a.dcap] := by rw [hW0]; exact box_at _ _ _ _ (by simp)
 have hbz : Below w.heap.size w (w.alloc (.cells #[.slice d.P d.zs.length d.cap, .bool d.u] 24)) := (Below.refl _ _).alloc (Nat.le_refl _) _
 have z0 : (w.alloc (.cells #[.slice d.P d.zs.length d.cap, .bool d.u] 24)).cell? pr = some (.slice a.P nz a.cap) := (hbz.cell hprl).trans r0
 have z1 : (w.alloc (.cells #[.slice d.P d.zs.length d.cap, .bool d.u] 24)).cell? ⟨pr.block, pr.off + 1, none⟩ = some (.bool a.u) := (hbz.cell (p := ⟨pr.block, pr.off + 1, none⟩) hprl).trans r1
 have z2 : (w.alloc (.cells #[.slice d.P d.zs.length d.cap, .bool d.u] 24)).cell? ⟨pr.block, pr.off + 2, none⟩ = some (.slice (some ad) na a.dcap) := (hbz.cell (p := ⟨pr.block, pr.off + 2, none⟩) hprl).trans r2
 have c3 : W0.cell? ⟨w.heap.size + 1, 0, none⟩ = some (.slice a.P nz a.cap) := hx.cell 0
 have c4 : W0.cell? ⟨w.heap.size + 1, 2, none⟩ = some (.slice (some ad) na a.dcap) := hx.cell 2
 have c5 : W0.cell? ⟨w.heap.size + 1, 1, none⟩ = some (.bool a.u) := hx.cell 1
 have cn : W0.cell? (ad.add i) = some (.int .i64 x') := (hbw.cell (by rw [elm_block]; exact hadl)).trans cx
 have cm : W0.cell? (bd.add i) = some (.int .i64 y') := (hbw.cell (by rw [elm_block]; exact hbdl)).trans cy
 have c8 : W0.cell? ⟨pr.block, pr.off + 5, none⟩ = some (.slice (some bd) nb b.dcap) := (hbw.cell (p := ⟨pr.block, pr.off + 5, none⟩) hprl).trans r5
 have e1 : ((w.alloc (.cells #[.slice d.P d.zs.length d.cap, .bool d.u] 24)).alloc (.cells #[.slice a.P nz a.cap, .bool a.u, .slice (some ad) na a.dcap] 26)).cell? (bd.add i) = some (.int .i64 y') := by rw [← hW0]; exact cm
 have e2 : ((w.alloc (.cells #[.slice d.P d.zs.length d.cap, .bool d.u] 24)).alloc (.cells #[.slice a.P nz a.cap, .bool a.u, .slice (some ad) na a.dcap] 26)).cell? ⟨pr.block, pr.off + 5, none⟩ = some (.slice (some bd) nb b.dcap) := by rw [← hW0]; exact c8
 have hj1 : (i : Int) < (nb : Int) := by omega
 have HB0 := hide hbw
 have HV := hide (rvalue_c op ho a.u x' y' qs A qcap W0.drew hql (hQ.below hbw.drew) hm)
 have HW := hide hW0
 have hi0 : (0 : Int) ≤ (i : Int) := by omega
 have hi1 : (i : Int) < (na : Int) := by omega
 have ho1 : op ≤ 11 := ho.2
 obtain ⟨v, hv⟩ : ∃ v, Hid (Elm.val op a.u x' y' qs = v) := ⟨_, hide rfl⟩
 rw [hv.out] at HV ⊢
 obtain ⟨nq, hnq⟩ : ∃ v, Hid (qs.length = v) := ⟨_, hide rfl⟩
 rw [hnq.out] at HV ⊢
 clear hxi hql hm hQ hR ha r0 r1 r2 hil ex cx hadl hld hAD hW0 hbw hx hbz hprl ho hna hnz hb hyi hjl ey cy hbdl hBD r3 r4 r5 hnb
 go_enter Tryz.func42, Tryz.ntmps42
 go_wp2_with fail
 rw [← HW.out]
 clear HW z0 z1 z2 e1 e2 cm c8
 go_region_law (first | (go_simp; go_at_call 72; refine HV.out.mono ?_; rintro e w2 ⟨rfl, kk, rfl⟩; have HB2 := hide (below_drewN HB0.out (1 + kk))))
 all_goals go_ways
 all_goals
  go_wp2_with fail
  go_ret
  exact ⟨rfl, HB2.out⟩
end Go.Proofs.YtgdcfjmpjhlndaaGreatDoor
