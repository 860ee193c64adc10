/-
  The law TensCopies, walked. By an AI agent. No person has read it.
-/
import Derived.Test.YtnbjcdmiehnceaaDoorTenG
import Derived.Test.YtnbjcdmiehnceaaDoorTenH
import Derived.Test.YtnbjcdmiehnceaaDoorTenX
import Derived.StillTailTactics
import Derived.Deep.RegionHeld3
namespace Go.Proofs.YtnbjcdmiehnceaaDoor
open Go.RowKit

/-- What is held through the law's last statement. -/
abbrev CopS (B Bc : Nat) (pa pg : Addr) (wr : World) (x1 x2 x3 y1 y2 y3 xv yv : Value) (W : World) : Prop :=
  W.cell? ⟨B, 0, none⟩ = some x1 ∧ W.cell? ⟨B, 1, none⟩ = some x2 ∧ W.cell? ⟨B, 2, none⟩ = some x3 ∧ W.cell? ⟨Bc, 0, none⟩ = some y1 ∧ W.cell? ⟨Bc, 1, none⟩ = some y2 ∧ W.cell? ⟨Bc, 2, none⟩ = some y3 ∧ W.cell? pa = some xv ∧ W.cell? pg = some yv ∧ Hid (Below wr.heap.size wr W)
theorem CopS.keep {B Bc : Nat} {pa pg : Addr} {wr : World} {x1 x2 x3 y1 y2 y3 xv yv : Value} {W W' : World} (h : CopS B Bc pa pg wr x1 x2 x3 y1 y2 y3 xv yv W) (hb : Below W.heap.size W W') : CopS B Bc pa pg wr x1 x2 x3 y1 y2 y3 xv yv W' := by
  obtain ⟨h1, h2, h3, h4, h5, h6, h7, h8, h9⟩ := h
  exact ⟨ten_kept h1 hb, ten_kept h2 hb, ten_kept h3 hb, ten_kept h4 hb, ten_kept h5 hb, ten_kept h6 hb, ten_kept h7 hb, ten_kept h8 hb, hide (h9.out.trans (hb.mono h9.out.size))⟩
theorem CopS.low {B Bc : Nat} {pa pg : Addr} {wr : World} {x1 x2 x3 y1 y2 y3 xv yv : Value} {W : World} (h : CopS B Bc pa pg wr x1 x2 x3 y1 y2 y3 xv yv W) : Below wr.heap.size wr W := h.2.2.2.2.2.2.2.2.out

set_option maxRecDepth 100000 in
set_option maxHeartbeats 4000000 in
theorem copies_short (zs ds : List Int) (P D : Option Addr) (cap dcap : Nat) (u : Bool) (at_ : Int) (ah am ar : Addr) (w : World) (hr : Ri w P zs) (hd : Ri w D ds) (hm : zs.length ≤ 8) (hdm : ds.length ≤ 300) (hE : E3 w ah am ar) :
    Calls Tryd.prog 11 #[.agg (tcells P zs.length cap u D ds.length dcap), .int .i64 at_] w fun e w' => e = .returned (.bool true) ∧ Below w.heap.size w w' := by
  have hb0 := (Below.refl _ w).alloc (Nat.le_refl _) (Obj.cells (tcells P zs.length cap u D ds.length dcap) 53)
  have HF := hide (first6_c ah am ar _ (hE.below hb0))
  have HT0 := hide (tens_row w P zs.length cap u D ds.length dcap)
  have HB0 := hide hb0
  have HCL := hide (fun W (hb : Below w.heap.size w W) => tclone_c zs ds P D cap dcap u W (hr.below hb) (hd.below hb) (by omega) (by omega))
  have HWT := hide (fun W => worldtensor_c P D zs.length cap ds.length dcap u W)
  have HSm := hide (fun W g c rest gd cd rd (hb : Below w.heap.size w W) (h1 : Has W g 3 (i64s zs ++ rest)) (h2 : Has W gd 3 (i64s ds ++ rd)) => tsame_c zs zs ds ds P (some ⟨g, 0, none⟩) D (some ⟨gd, 0, none⟩) cap c dcap cd u u W (hr.below hb) (h1.ri_app hr.1) (hd.below hb) (h2.ri_app hd.1) (by omega) (by omega) (by omega) (by omega))
  have HSt := hide (fun W g c rest gd cd rd (hb : Below w.heap.size w W) (h1 : Has W g 3 (i64s zs ++ rest)) (h2 : Has W gd 3 (i64s ds ++ rd)) => sametensor_c zs zs ds ds P (some ⟨g, 0, none⟩) D (some ⟨gd, 0, none⟩) cap c dcap cd u u W (hr.below hb) (h1.ri_app hr.1) (hd.below hb) (h2.ri_app hd.1) (by omega) (by omega) (by omega) (by omega))
  have HSw := hide (fun W g c rest gd cd rd (hb : Below w.heap.size w W) (h1 : Has W g 3 (i64s zs ++ rest)) (h2 : Has W gd 3 (i64s ds ++ rd)) => tsame_c zs zs ds ds P (some ⟨g, 0, none⟩) D (some ⟨gd, 0, none⟩) cap c dcap cd u (!u) W (hr.below hb) (h1.ri_app hr.1) (hd.below hb) (h2.ri_app hd.1) (by omega) (by omega) (by omega) (by omega))
  have HSs := hide (fun W g c rest gd cd rd (hb : Below w.heap.size w W) (h1 : Has W g 3 (i64s (zs ++ [1]) ++ rest)) (h2 : Has W gd 3 (i64s ds ++ rd)) => tsame_c zs (zs ++ [1]) ds ds P (some ⟨g, 0, none⟩) D (some ⟨gd, 0, none⟩) cap c dcap cd u u W (hr.below hb) (h1.ri_app (fun z hz => (List.mem_append.1 hz).elim (fun h => hr.1 z h) (fun h => by simp at h; subst h; decide))) (hd.below hb) (h2.ri_app hd.1) (by omega) (by simp; omega) (by omega) (by omega))
  have e3 : ((decide (zs = zs) && (u == !u)) && decide (ds = ds)) = false := by cases u <;> simp
  have e4 : ((decide (zs = zs ++ [1]) && (u == u)) && decide (ds = ds)) = false := by simp
  have e5 : (zs ++ [1]).length = zs.length + 1 := by simp
  rw [e3] at HSw
  rw [e4, e5] at HSs
  clear e3 e4 e5
  have e1 : ((decide (zs = zs) && (u == u)) && decide (ds = ds)) = true := by simp
  have e2 : (decide (zs.length ≤ 8) && decide (ds.length ≤ 300)) = true := by simp [hm, hdm]
  rw [e1] at HSm HSt
  rw [e2] at HWT
  clear e1 e2 hb0 hE
  have HR := hide hr
  have HD := hide hd
  clear hr hd
  obtain ⟨n, hn⟩ : ∃ n, Hid (zs.length = n) := ⟨_, hide rfl⟩
  obtain ⟨m, hm'⟩ : ∃ m, Hid (ds.length = m) := ⟨_, hide rfl⟩
  rw [hn.out] at HCL HWT HSm HSt HSw HSs hm
  rw [hm'.out] at HCL HWT HSm HSt HSw HSs hdm
  rw [hn.out, hm'.out] at HB0
  rw [hn.out, hm'.out] at HT0
  rw [hn.out, hm'.out] at HF
  rw [hn.out, hm'.out]
  obtain ⟨w0, hw0⟩ : ∃ w0, Hid (w.alloc (Obj.cells (tcells P n cap u D m dcap) 53) = w0) := ⟨_, hide rfl⟩
  rw [hw0.out] at HB0 HT0 HF
  go_enter Tryd.func11, Tryd.ntmps11
  go_wp2_with fail
  have hw0' := hw0.out
  rw [hw0']
  clear hw0 hw0'
  refine HF.out.mono ?_
  rintro e w1 ⟨rfl, hb⟩
  have hT := HT0.out.below hb HT0.out.lt
  have hB := HB0.out.trans (hb.mono HB0.out.size)
  have c0 : w1.cell? ⟨w.heap.size, 0, none⟩ = some (.slice P n cap) := by rw [hT.cell]; rfl
  have c1 : w1.cell? ⟨w.heap.size, 1, none⟩ = some (.bool u) := by rw [hT.cell]; rfl
  have c2 : w1.cell? ⟨w.heap.size, 2, none⟩ = some (.slice D m dcap) := by rw [hT.cell]; rfl
  have HT := hide hT
  have HB := hide hB
  clear hb hT hB HT0 HB0 HF
  go_wp2_with fail
  refine (HWT.out w1).mono ?_
  rintro e w2 ⟨rfl, hb⟩
  have hT := HT.out.below hb HT.out.lt
  have hB := HB.out.trans (hb.mono HB.out.size)
  clear c0 c1 c2 HT HB hb
  have c0 : w2.cell? ⟨w.heap.size, 0, none⟩ = some (.slice P n cap) := by rw [hT.cell]; rfl
  have c1 : w2.cell? ⟨w.heap.size, 1, none⟩ = some (.bool u) := by rw [hT.cell]; rfl
  have c2 : w2.cell? ⟨w.heap.size, 2, none⟩ = some (.slice D m dcap) := by rw [hT.cell]; rfl
  have HT := hide hT
  have HB := hide hB
  have HC1 := hide (HCL.out w2 hB)
  clear hT hB
  go_wp2_with fail
  refine HC1.out.mono ?_
  rintro e w3 ⟨⟨g, c, rest, gd, cd, rd, rfl, hg, hc1, hc2, hC, hgd, hd1, hd2, hDD, hne, hcl, hdl⟩, hb⟩
  have hT := HT.out
  have hB := HB.out
  have s0 := hT.lt
  clear HT HB c0 c1 c2 HC1
  replace hT := hT.below hb hT.lt
  replace hB := hB.trans (hb.mono hB.size)
  have q1 : w.heap.size < g := by omega
  have q2 : w.heap.size < gd := by omega
  have q3 := hC.lt
  have q4 := hDD.lt
  clear hb hg hgd s0 hc1 hc2 hd1 hd2
  have hk : Has (w3.alloc (Obj.cells #[.slice (some ⟨g, 0, none⟩) n c, .bool u, .slice (some ⟨gd, 0, none⟩) m cd] 53)) w3.heap.size 53 [.slice (some ⟨g, 0, none⟩) n c, .bool u, .slice (some ⟨gd, 0, none⟩) m cd] := Has.new w3 _ _
  replace hT := hT.alloc (Obj.cells #[.slice (some ⟨g, 0, none⟩) n c, .bool u, .slice (some ⟨gd, 0, none⟩) m cd] 53)
  replace hC := hC.alloc (Obj.cells #[.slice (some ⟨g, 0, none⟩) n c, .bool u, .slice (some ⟨gd, 0, none⟩) m cd] 53)
  replace hDD := hDD.alloc (Obj.cells #[.slice (some ⟨g, 0, none⟩) n c, .bool u, .slice (some ⟨gd, 0, none⟩) m cd] 53)
  replace hB := hB.alloc hB.size (Obj.cells #[.slice (some ⟨g, 0, none⟩) n c, .bool u, .slice (some ⟨gd, 0, none⟩) m cd] 53)
  have q5 : (w3.alloc (Obj.cells #[.slice (some ⟨g, 0, none⟩) n c, .bool u, .slice (some ⟨gd, 0, none⟩) m cd] 53)).heap.size = w3.heap.size + 1 := by simp
  have c0 : (w3.alloc (Obj.cells #[.slice (some ⟨g, 0, none⟩) n c, .bool u, .slice (some ⟨gd, 0, none⟩) m cd] 53)).cell? ⟨w.heap.size, 0, none⟩ = some (.slice P n cap) := by rw [hT.cell]; rfl
  have c1 : (w3.alloc (Obj.cells #[.slice (some ⟨g, 0, none⟩) n c, .bool u, .slice (some ⟨gd, 0, none⟩) m cd] 53)).cell? ⟨w.heap.size, 1, none⟩ = some (.bool u) := by rw [hT.cell]; rfl
  have c2 : (w3.alloc (Obj.cells #[.slice (some ⟨g, 0, none⟩) n c, .bool u, .slice (some ⟨gd, 0, none⟩) m cd] 53)).cell? ⟨w.heap.size, 2, none⟩ = some (.slice D m dcap) := by rw [hT.cell]; rfl
  have k0 : (w3.alloc (Obj.cells #[.slice (some ⟨g, 0, none⟩) n c, .bool u, .slice (some ⟨gd, 0, none⟩) m cd] 53)).cell? ⟨w3.heap.size, 0, none⟩ = some (.slice (some ⟨g, 0, none⟩) n c) := by rw [hk.cell]; rfl
  have k1 : (w3.alloc (Obj.cells #[.slice (some ⟨g, 0, none⟩) n c, .bool u, .slice (some ⟨gd, 0, none⟩) m cd] 53)).cell? ⟨w3.heap.size, 1, none⟩ = some (.bool u) := by rw [hk.cell]; rfl
  have k2 : (w3.alloc (Obj.cells #[.slice (some ⟨g, 0, none⟩) n c, .bool u, .slice (some ⟨gd, 0, none⟩) m cd] 53)).cell? ⟨w3.heap.size, 2, none⟩ = some (.slice (some ⟨gd, 0, none⟩) m cd) := by rw [hk.cell]; rfl
  go_wp2_with fail
  generalize w3.alloc (Obj.cells #[.slice (some ⟨g, 0, none⟩) n c, .bool u, .slice (some ⟨gd, 0, none⟩) m cd] 53) = W3 at *
  generalize w3.heap.size = Bc at *
  refine (HSm.out W3 g c rest gd cd rd hB hC hDD).mono ?_
  rintro e w4 ⟨rfl, hb⟩
  clear c0 c1 c2 k0 k1 k2
  have q6 := hb.size
  replace hT := hT.below hb hT.lt
  replace hC := hC.below hb hC.lt
  replace hDD := hDD.below hb hDD.lt
  replace hk := hk.below hb hk.lt
  replace hB := hB.trans (hb.mono hB.size)
  clear hb
  have c0 : (w4).cell? ⟨w.heap.size, 0, none⟩ = some (.slice P n cap) := by rw [hT.cell]; rfl
  have c1 : (w4).cell? ⟨w.heap.size, 1, none⟩ = some (.bool u) := by rw [hT.cell]; rfl
  have c2 : (w4).cell? ⟨w.heap.size, 2, none⟩ = some (.slice D m dcap) := by rw [hT.cell]; rfl
  have k0 : (w4).cell? ⟨Bc, 0, none⟩ = some (.slice (some ⟨g, 0, none⟩) n c) := by rw [hk.cell]; rfl
  have k1 : (w4).cell? ⟨Bc, 1, none⟩ = some (.bool u) := by rw [hk.cell]; rfl
  have k2 : (w4).cell? ⟨Bc, 2, none⟩ = some (.slice (some ⟨gd, 0, none⟩) m cd) := by rw [hk.cell]; rfl
  go_wp2_with fail
  refine (HSt.out w4 g c rest gd cd rd hB hC hDD).mono ?_
  rintro e w5 ⟨rfl, hb⟩
  clear c0 c1 c2 k0 k1 k2
  have q7 := hb.size
  replace hT := hT.below hb hT.lt
  replace hC := hC.below hb hC.lt
  replace hDD := hDD.below hb hDD.lt
  replace hk := hk.below hb hk.lt
  replace hB := hB.trans (hb.mono hB.size)
  clear hb HSt
  have c0 : (w5).cell? ⟨w.heap.size, 0, none⟩ = some (.slice P n cap) := by rw [hT.cell]; rfl
  have c1 : (w5).cell? ⟨w.heap.size, 1, none⟩ = some (.bool u) := by rw [hT.cell]; rfl
  have c2 : (w5).cell? ⟨w.heap.size, 2, none⟩ = some (.slice D m dcap) := by rw [hT.cell]; rfl
  go_wp2_with fail
  refine (HCL.out w5 hB).mono ?_
  rintro e w6 ⟨⟨g2, c2', rest2, gd2, cd2, rd2, rfl, hg2, hx1, hx2, hC2, hgd2, hx3, hx4, hD2, hx5, hx6, hx7⟩, hb⟩
  clear c0 c1 c2 hx1 hx2 hx3 hx4 hx5 hx6 hx7
  have q8 := hb.size
  replace hT := hT.below hb hT.lt
  replace hC := hC.below hb hC.lt
  replace hDD := hDD.below hb hDD.lt
  replace hk := hk.below hb hk.lt
  replace hB := hB.trans (hb.mono hB.size)
  clear hb
  have q9 := hC2.lt
  have q10 := hD2.lt
  have hv : Has (w6.alloc (Obj.cells #[.slice (some ⟨g2, 0, none⟩) n c2', .bool (!u), .slice (some ⟨gd2, 0, none⟩) m cd2] 53)) w6.heap.size 53 [.slice (some ⟨g2, 0, none⟩) n c2', .bool (!u), .slice (some ⟨gd2, 0, none⟩) m cd2] := Has.new w6 _ _
  replace hT := hT.alloc (Obj.cells #[.slice (some ⟨g2, 0, none⟩) n c2', .bool (!u), .slice (some ⟨gd2, 0, none⟩) m cd2] 53)
  replace hC := hC.alloc (Obj.cells #[.slice (some ⟨g2, 0, none⟩) n c2', .bool (!u), .slice (some ⟨gd2, 0, none⟩) m cd2] 53)
  replace hDD := hDD.alloc (Obj.cells #[.slice (some ⟨g2, 0, none⟩) n c2', .bool (!u), .slice (some ⟨gd2, 0, none⟩) m cd2] 53)
  replace hk := hk.alloc (Obj.cells #[.slice (some ⟨g2, 0, none⟩) n c2', .bool (!u), .slice (some ⟨gd2, 0, none⟩) m cd2] 53)
  replace hC2 := hC2.alloc (Obj.cells #[.slice (some ⟨g2, 0, none⟩) n c2', .bool (!u), .slice (some ⟨gd2, 0, none⟩) m cd2] 53)
  replace hD2 := hD2.alloc (Obj.cells #[.slice (some ⟨g2, 0, none⟩) n c2', .bool (!u), .slice (some ⟨gd2, 0, none⟩) m cd2] 53)
  replace hB := hB.alloc hB.size (Obj.cells #[.slice (some ⟨g2, 0, none⟩) n c2', .bool (!u), .slice (some ⟨gd2, 0, none⟩) m cd2] 53)
  have q11 : (w6.alloc (Obj.cells #[.slice (some ⟨g2, 0, none⟩) n c2', .bool (!u), .slice (some ⟨gd2, 0, none⟩) m cd2] 53)).heap.size = w6.heap.size + 1 := by simp
  have c0 : (w6.alloc (Obj.cells #[.slice (some ⟨g2, 0, none⟩) n c2', .bool (!u), .slice (some ⟨gd2, 0, none⟩) m cd2] 53)).cell? ⟨w.heap.size, 0, none⟩ = some (.slice P n cap) := by rw [hT.cell]; rfl
  have c1 : (w6.alloc (Obj.cells #[.slice (some ⟨g2, 0, none⟩) n c2', .bool (!u), .slice (some ⟨gd2, 0, none⟩) m cd2] 53)).cell? ⟨w.heap.size, 1, none⟩ = some (.bool u) := by rw [hT.cell]; rfl
  have c2 : (w6.alloc (Obj.cells #[.slice (some ⟨g2, 0, none⟩) n c2', .bool (!u), .slice (some ⟨gd2, 0, none⟩) m cd2] 53)).cell? ⟨w.heap.size, 2, none⟩ = some (.slice D m dcap) := by rw [hT.cell]; rfl
  go_wp2_with fail
  generalize w6.alloc (Obj.cells #[.slice (some ⟨g2, 0, none⟩) n c2', .bool (!u), .slice (some ⟨gd2, 0, none⟩) m cd2] 53) = W7 at *
  generalize w6.heap.size = Bw at *
  refine (HCL.out W7 hB).mono ?_
  rintro e w8 ⟨⟨g3, c3, rest3, gd3, cd3, rd3, rfl, hg3, hy1, hy2, hC3, hgd3, hy3, hy4, hD3, hy5, hy6, hy7⟩, hb⟩
  clear c0 c1 c2 hy3 hy4 hy7
  have q12 := hb.size
  replace hT := hT.below hb hT.lt
  replace hC := hC.below hb hC.lt
  replace hDD := hDD.below hb hDD.lt
  replace hk := hk.below hb hk.lt
  replace hC2 := hC2.below hb hC2.lt
  replace hD2 := hD2.below hb hD2.lt
  replace hv := hv.below hb hv.lt
  replace hB := hB.trans (hb.mono hB.size)
  clear hb
  have q13 := hC3.lt
  have q14 := hD3.lt
  have hs : Has (w8.alloc (Obj.cells #[.slice (some ⟨g3, 0, none⟩) n c3, .bool u, .slice (some ⟨gd3, 0, none⟩) m cd3] 53)) w8.heap.size 53 [.slice (some ⟨g3, 0, none⟩) n c3, .bool u, .slice (some ⟨gd3, 0, none⟩) m cd3] := Has.new w8 _ _
  replace hT := hT.alloc (Obj.cells #[.slice (some ⟨g3, 0, none⟩) n c3, .bool u, .slice (some ⟨gd3, 0, none⟩) m cd3] 53)
  replace hC := hC.alloc (Obj.cells #[.slice (some ⟨g3, 0, none⟩) n c3, .bool u, .slice (some ⟨gd3, 0, none⟩) m cd3] 53)
  replace hDD := hDD.alloc (Obj.cells #[.slice (some ⟨g3, 0, none⟩) n c3, .bool u, .slice (some ⟨gd3, 0, none⟩) m cd3] 53)
  replace hk := hk.alloc (Obj.cells #[.slice (some ⟨g3, 0, none⟩) n c3, .bool u, .slice (some ⟨gd3, 0, none⟩) m cd3] 53)
  replace hC2 := hC2.alloc (Obj.cells #[.slice (some ⟨g3, 0, none⟩) n c3, .bool u, .slice (some ⟨gd3, 0, none⟩) m cd3] 53)
  replace hD2 := hD2.alloc (Obj.cells #[.slice (some ⟨g3, 0, none⟩) n c3, .bool u, .slice (some ⟨gd3, 0, none⟩) m cd3] 53)
  replace hv := hv.alloc (Obj.cells #[.slice (some ⟨g3, 0, none⟩) n c3, .bool u, .slice (some ⟨gd3, 0, none⟩) m cd3] 53)
  replace hC3 := hC3.alloc (Obj.cells #[.slice (some ⟨g3, 0, none⟩) n c3, .bool u, .slice (some ⟨gd3, 0, none⟩) m cd3] 53)
  replace hD3 := hD3.alloc (Obj.cells #[.slice (some ⟨g3, 0, none⟩) n c3, .bool u, .slice (some ⟨gd3, 0, none⟩) m cd3] 53)
  replace hB := hB.alloc hB.size (Obj.cells #[.slice (some ⟨g3, 0, none⟩) n c3, .bool u, .slice (some ⟨gd3, 0, none⟩) m cd3] 53)
  have h1 : Has ((w8.alloc (Obj.cells #[.slice (some ⟨g3, 0, none⟩) n c3, .bool u, .slice (some ⟨gd3, 0, none⟩) m cd3] 53)).alloc (Obj.cells #[.int .i64 1] 3)) (w8.heap.size + 1) 3 [.int .i64 1] := by simpa using Has.new (w8.alloc (Obj.cells #[.slice (some ⟨g3, 0, none⟩) n c3, .bool u, .slice (some ⟨gd3, 0, none⟩) m cd3] 53)) 3 [.int .i64 1]
  replace hT := hT.alloc (Obj.cells #[.int .i64 1] 3)
  replace hC := hC.alloc (Obj.cells #[.int .i64 1] 3)
  replace hDD := hDD.alloc (Obj.cells #[.int .i64 1] 3)
  replace hk := hk.alloc (Obj.cells #[.int .i64 1] 3)
  replace hC2 := hC2.alloc (Obj.cells #[.int .i64 1] 3)
  replace hD2 := hD2.alloc (Obj.cells #[.int .i64 1] 3)
  replace hv := hv.alloc (Obj.cells #[.int .i64 1] 3)
  replace hC3 := hC3.alloc (Obj.cells #[.int .i64 1] 3)
  replace hD3 := hD3.alloc (Obj.cells #[.int .i64 1] 3)
  replace hs := hs.alloc (Obj.cells #[.int .i64 1] 3)
  replace hB := hB.alloc hB.size (Obj.cells #[.int .i64 1] 3)
  have q15 : ((w8.alloc (Obj.cells #[.slice (some ⟨g3, 0, none⟩) n c3, .bool u, .slice (some ⟨gd3, 0, none⟩) m cd3] 53)).alloc (Obj.cells #[.int .i64 1] 3)).heap.size = w8.heap.size + 2 := by simp
  have hown := hide (own_of_has hC3 (B := w.heap.size) hn.out hy6 hy1 hy2 (by omega))
  have hr1 := hide (h1.ri (zs := [1]) (by decide))
  have HNB := hide (show n + 1 ≤ 1000000000000 by omega)
  have HSZ := hide (show w.heap.size ≤ ((w8.alloc (Obj.cells #[.slice (some ⟨g3, 0, none⟩) n c3, .bool u, .slice (some ⟨gd3, 0, none⟩) m cd3] 53)).alloc (Obj.cells #[.int .i64 1] 3)).heap.size by omega)
  clear h1 hy1 hy2 hy6
  go_wp2_with (at_builtin; refine wpList_append_is rfl (.tmp 45) (.tmp 46) rfl w.heap.size _ n (i64s zs) rfl hown.out (some ⟨w8.heap.size + 1, 0, none⟩) 1 1 [1] rfl (hide rfl) hr1.out HNB.out HSZ.out ?_)
  intro v' w10 a1 a2 a3
  have a1' : w10.ownsRow w.heap.size 3 1 v' (n + 1) (i64s (zs ++ [1])) := by simpa [i64s] using a1
  obtain ⟨g4, c4, r4, rfl, -, hg4, hz1, hz2, hA4⟩ := own_has a1' (by rintro rfl; rcases a3 with h | h <;> cases h)
  have e0 : (Value.slice (some ⟨g3, 0, none⟩) n c3).ownBlock = some g3 := rfl
  rw [e0] at a2 a3
  have hg4' : g4 = g3 ∨ g4 = w8.heap.size + 2 := a3.elim (fun h => .inl (Option.some.inj h)) (fun h => .inr (Option.some.inj h))
  replace hT := hT.grown a2 (by intro h; have h := Option.some.inj h; omega)
  replace hC := hC.grown a2 (by intro h; have h := Option.some.inj h; omega)
  replace hDD := hDD.grown a2 (by intro h; have h := Option.some.inj h; omega)
  replace hk := hk.grown a2 (by intro h; have h := Option.some.inj h; omega)
  replace hC2 := hC2.grown a2 (by intro h; have h := Option.some.inj h; omega)
  replace hD2 := hD2.grown a2 (by intro h; have h := Option.some.inj h; omega)
  replace hv := hv.grown a2 (by intro h; have h := Option.some.inj h; omega)
  replace hD3 := hD3.grown a2 (by intro h; have h := Option.some.inj h; omega)
  replace hs := hs.grown a2 (by intro h; have h := Option.some.inj h; omega)
  replace hB := hB.grown a2 hB.size (fun k hk => by have h := Option.some.inj hk; omega)
  have q16 := a2.size
  clear a1 a1' a2 a3 e0 hown hr1 HNB HSZ hC3 hz1 hz2
  have d0 : w10.cell? ⟨w8.heap.size, 0, none⟩ = some (.slice (some ⟨g3, 0, none⟩) n c3) := by rw [hs.cell]; rfl
  have f0 := hs.frozen 0
  have hA5 := hA4.far (p := ⟨w8.heap.size, 0, none⟩) (by simp; omega) (.slice (some ⟨g4, 0, none⟩) (n + 1) c4)
  replace hT := hT.far (p := ⟨w8.heap.size, 0, none⟩) (by simp; omega) (.slice (some ⟨g4, 0, none⟩) (n + 1) c4)
  replace hC := hC.far (p := ⟨w8.heap.size, 0, none⟩) (by simp; omega) (.slice (some ⟨g4, 0, none⟩) (n + 1) c4)
  replace hDD := hDD.far (p := ⟨w8.heap.size, 0, none⟩) (by simp; omega) (.slice (some ⟨g4, 0, none⟩) (n + 1) c4)
  replace hk := hk.far (p := ⟨w8.heap.size, 0, none⟩) (by simp; omega) (.slice (some ⟨g4, 0, none⟩) (n + 1) c4)
  replace hC2 := hC2.far (p := ⟨w8.heap.size, 0, none⟩) (by simp; omega) (.slice (some ⟨g4, 0, none⟩) (n + 1) c4)
  replace hD2 := hD2.far (p := ⟨w8.heap.size, 0, none⟩) (by simp; omega) (.slice (some ⟨g4, 0, none⟩) (n + 1) c4)
  replace hv := hv.far (p := ⟨w8.heap.size, 0, none⟩) (by simp; omega) (.slice (some ⟨g4, 0, none⟩) (n + 1) c4)
  replace hD3 := hD3.far (p := ⟨w8.heap.size, 0, none⟩) (by simp; omega) (.slice (some ⟨g4, 0, none⟩) (n + 1) c4)
  replace hB := hB.setCell (p := ⟨w8.heap.size, 0, none⟩) (by simp; omega) (.slice (some ⟨g4, 0, none⟩) (n + 1) c4)
  replace hs := hs.set_ 0 (.slice (some ⟨g4, 0, none⟩) (n + 1) c4)
  replace hs : Has (w10.setCell ⟨w8.heap.size, 0, none⟩ (.slice (some ⟨g4, 0, none⟩) (n + 1) c4)) w8.heap.size 53 [.slice (some ⟨g4, 0, none⟩) (n + 1) c4, .bool u, .slice (some ⟨gd3, 0, none⟩) m cd3] := hs
  clear hA4
  have q17 : (w10.setCell ⟨w8.heap.size, 0, none⟩ (.slice (some ⟨g4, 0, none⟩) (n + 1) c4)).heap.size = w10.heap.size := by simp
  have c0 : (w10.setCell ⟨w8.heap.size, 0, none⟩ (.slice (some ⟨g4, 0, none⟩) (n + 1) c4)).cell? ⟨w.heap.size, 0, none⟩ = some (.slice P n cap) := by rw [hT.cell]; rfl
  have c1 : (w10.setCell ⟨w8.heap.size, 0, none⟩ (.slice (some ⟨g4, 0, none⟩) (n + 1) c4)).cell? ⟨w.heap.size, 1, none⟩ = some (.bool u) := by rw [hT.cell]; rfl
  have c2 : (w10.setCell ⟨w8.heap.size, 0, none⟩ (.slice (some ⟨g4, 0, none⟩) (n + 1) c4)).cell? ⟨w.heap.size, 2, none⟩ = some (.slice D m dcap) := by rw [hT.cell]; rfl
  have k0 : (w10.setCell ⟨w8.heap.size, 0, none⟩ (.slice (some ⟨g4, 0, none⟩) (n + 1) c4)).cell? ⟨Bw, 0, none⟩ = some (.slice (some ⟨g2, 0, none⟩) n c2') := by rw [hv.cell]; rfl
  have k1 : (w10.setCell ⟨w8.heap.size, 0, none⟩ (.slice (some ⟨g4, 0, none⟩) (n + 1) c4)).cell? ⟨Bw, 1, none⟩ = some (.bool (!u)) := by rw [hv.cell]; rfl
  have k2 : (w10.setCell ⟨w8.heap.size, 0, none⟩ (.slice (some ⟨g4, 0, none⟩) (n + 1) c4)).cell? ⟨Bw, 2, none⟩ = some (.slice (some ⟨gd2, 0, none⟩) m cd2) := by rw [hv.cell]; rfl
  go_wp2_with fail
  generalize w10.setCell ⟨w8.heap.size, 0, none⟩ (.slice (some ⟨g4, 0, none⟩) (n + 1) c4) = W11 at *
  clear d0 f0
  generalize w8.heap.size = Bs at *
  refine (HSw.out W11 g2 c2' rest2 gd2 cd2 rd2 hB hC2 hD2).mono ?_
  rintro e w12 ⟨rfl, hb⟩
  clear c0 c1 c2 k0 k1 k2 HSw
  replace hT := hT.below hb hT.lt
  replace hC := hC.below hb hC.lt
  replace hDD := hDD.below hb hDD.lt
  replace hk := hk.below hb hk.lt
  replace hC2 := hC2.below hb hC2.lt
  replace hD2 := hD2.below hb hD2.lt
  replace hv := hv.below hb hv.lt
  replace hD3 := hD3.below hb hD3.lt
  replace hs := hs.below hb hs.lt
  replace hA5 := hA5.below hb hA5.lt
  replace hB := hB.trans (hb.mono hB.size)
  clear hb
  have c0 : (w12).cell? ⟨w.heap.size, 0, none⟩ = some (.slice P n cap) := by rw [hT.cell]; rfl
  have c1 : (w12).cell? ⟨w.heap.size, 1, none⟩ = some (.bool u) := by rw [hT.cell]; rfl
  have c2 : (w12).cell? ⟨w.heap.size, 2, none⟩ = some (.slice D m dcap) := by rw [hT.cell]; rfl
  have k0 : (w12).cell? ⟨Bs, 0, none⟩ = some (.slice (some ⟨g4, 0, none⟩) (n + 1) c4) := by rw [hs.cell]; rfl
  have k1 : (w12).cell? ⟨Bs, 1, none⟩ = some (.bool u) := by rw [hs.cell]; rfl
  have k2 : (w12).cell? ⟨Bs, 2, none⟩ = some (.slice (some ⟨gd3, 0, none⟩) m cd3) := by rw [hs.cell]; rfl
  go_wp2_with fail
  refine (HSs.out w12 g4 c4 r4 gd3 cd3 rd3 hB hA5 hD3).mono ?_
  rintro e w13 ⟨rfl, hb⟩
  clear c0 c1 c2 k0 k1 k2 HSs
  replace hT := hT.below hb hT.lt
  replace hC := hC.below hb hC.lt
  replace hDD := hDD.below hb hDD.lt
  replace hk := hk.below hb hk.lt
  replace hC2 := hC2.below hb hC2.lt
  replace hD2 := hD2.below hb hD2.lt
  replace hv := hv.below hb hv.lt
  replace hD3 := hD3.below hb hD3.lt
  replace hs := hs.below hb hs.lt
  replace hA5 := hA5.below hb hA5.lt
  replace hB := hB.trans (hb.mono hB.size)
  clear hb
  clear hs hA5 hD3 hv hC2 hD2
  have k0 : (w13).cell? ⟨Bc, 0, none⟩ = some (.slice (some ⟨g, 0, none⟩) n c) := by rw [hk.cell]; rfl
  have k1 : (w13).cell? ⟨Bc, 1, none⟩ = some (.bool u) := by rw [hk.cell]; rfl
  have k2 : (w13).cell? ⟨Bc, 2, none⟩ = some (.slice (some ⟨gd, 0, none⟩) m cd) := by rw [hk.cell]; rfl
  by_cases hm0 : m = 0
  · subst hm0
    have HB := hide hB
    clear hT hC hDD hk hB
    go_wp2_with fail
    go_ret
    exact ⟨rfl, HB.out⟩
  have hmz : (m : Int) ≠ 0 := by omega
  have hmz2 : ((m : Int) == 0) = false := by simpa using hmz
  go_wp2_with fail
  refine (number_c at_ m (by omega) (by omega) m rfl w13).mono ?_
  rintro e w14 ⟨⟨k, hkm, rfl⟩, rfl⟩
  have hDw := HD.out.below hB
  obtain ⟨ad, x, rfl, ex, cx⟩ := ri_at hDw k (by rw [hm'.out]; exact hkm)
  have hxw := i64_wf (HD.out.1 x (List.mem_of_getElem? ex.out))
  obtain ⟨y, hy⟩ : ∃ y, Hid (flipI x = y) := ⟨_, hide rfl⟩
  have hx1 : bits .xor .i64 x 1 = y := by rw [xor_one, hy.out]
  have hx2 : bits .xor .i64 y 1 = x := by rw [xor_one, ← hy.out, flip_flip x hxw]
  have hyn : y ≠ x := by rw [← hy.out]; exact flip_ne x hxw
  have hyb : (Lit.int .i64 y).wf = true := wf_i64 y (by rw [← hy.out]; exact flip_bounds x)
  have cg : w14.cell? ⟨gd, k, none⟩ = some (.int .i64 x) := by rw [hDD.cell, List.getElem?_append_left (by simp [hm'.out]; exact hkm), List.getElem?_map, ex.out]; rfl
  have fg := hDD.frozen k
  have hki : (k : Int) < m := by omega
  have hki2 : (k : Int) < cd := by omega
  have hset : (i64s ds ++ rd).set k (.int .i64 y) = i64s (ds.set k y) ++ rd := by rw [List.set_append_left _ _ (by simp [hm'.out]; exact hkm)]; simp [i64s, List.map_set]
  replace hT := hT.far (p := ⟨gd, k, none⟩) (by simp; omega) (.int .i64 y)
  replace hk := hk.far (p := ⟨gd, k, none⟩) (by simp; omega) (.int .i64 y)
  replace hC := hC.far (p := ⟨gd, k, none⟩) (by simp; omega) (.int .i64 y)
  replace hDD := hDD.set_ k (.int .i64 y)
  rw [hset] at hDD
  replace hB := (hB.setCell (p := ⟨gd, k, none⟩) (by simp; omega) (.int .i64 y)).drew
  replace hT : Has ((w14.setCell ⟨gd, k, none⟩ (.int .i64 y)).drew) w.heap.size 53 [.slice P n cap, .bool u, .slice (some ad) m dcap] := hT.drewN 1
  replace hk : Has ((w14.setCell ⟨gd, k, none⟩ (.int .i64 y)).drew) Bc 53 [.slice (some ⟨g, 0, none⟩) n c, .bool u, .slice (some ⟨gd, 0, none⟩) m cd] := hk.drewN 1
  replace hC : Has ((w14.setCell ⟨gd, k, none⟩ (.int .i64 y)).drew) g 3 (i64s zs ++ rest) := hC.drewN 1
  replace hDD : Has ((w14.setCell ⟨gd, k, none⟩ (.int .i64 y)).drew) gd 3 (i64s (ds.set k y) ++ rd) := hDD.drewN 1
  replace hB : Below w.heap.size w ((w14.setCell ⟨gd, k, none⟩ (.int .i64 y)).drew) := hB
  have hwf : ∀ z ∈ ds.set k y, (Lit.int .i64 z).wf = true := fun z hz => (List.mem_or_eq_of_mem_set hz).elim (fun h => HD.out.1 z h) (fun h => by rw [h]; exact hyb)
  have hneq : decide (ds = ds.set k y) = false := decide_eq_false (fun h => hyn (by have h2 := congrArg (·[k]?) h; simp only [ex.out, List.getElem?_set_self (show k < ds.length by rw [hm'.out]; exact hkm)] at h2; exact (Option.some.inj h2).symm))
  obtain ⟨W15, hW15⟩ : ∃ W15, Hid ((w14.setCell ⟨gd, k, none⟩ (.int .i64 y)).drew = W15) := ⟨_, hide rfl⟩
  rw [hW15.out] at hT hk hC hDD hB
  have hDx := HD.out.below hB
  have hlen : (ds.set k y).length = m := by rw [List.length_set, hm'.out]
  have HSx := hide (fun W (hb : Below W15.heap.size W15 W) => tsame_c zs zs ds (ds.set k y) P (some ⟨g, 0, none⟩) (some ad) (some ⟨gd, 0, none⟩) cap c dcap cd u u W (HR.out.below (hB.trans (hb.mono hB.size))) ((hC.below hb hC.lt).ri_app HR.out.1) (HD.out.below (hB.trans (hb.mono hB.size))) ((hDD.below hb hDD.lt).ri_app hwf) (by rw [hn.out]; omega) (by rw [hn.out]; omega) (by rw [hm'.out]; omega) (by rw [hlen]; omega))
  have e9 : ((decide (zs = zs) && (u == u)) && decide (ds = ds.set k y)) = false := by rw [hneq]; simp
  rw [e9, hn.out, hm'.out, hlen] at HSx
  have cx2 : W15.cell? (ad.add k) = some (.int .i64 x) := by obtain ⟨ad', e', -, h⟩ := hDx.2 (fun h => by have h2 := ex.out; rw [h] at h2; simp at h2); cases e'; exact h k x ex.out
  have cg2 : W15.cell? ⟨gd, k, none⟩ = some (.int .i64 y) := by rw [hDD.cell, List.getElem?_append_left (by simp [hm'.out]; exact hkm), List.getElem?_map, List.getElem?_set_self (by rw [hm'.out]; exact hkm)]; rfl
  have c0 : (W15).cell? ⟨w.heap.size, 0, none⟩ = some (.slice P n cap) := by rw [hT.cell]; rfl
  have c1 : (W15).cell? ⟨w.heap.size, 1, none⟩ = some (.bool u) := by rw [hT.cell]; rfl
  have c2 : (W15).cell? ⟨w.heap.size, 2, none⟩ = some (.slice (some ad) m dcap) := by rw [hT.cell]; rfl
  have kk0 : W15.cell? ⟨Bc, 0, none⟩ = some (.slice (some ⟨g, 0, none⟩) n c) := by rw [hk.cell]; rfl
  have kk1 : W15.cell? ⟨Bc, 1, none⟩ = some (.bool u) := by rw [hk.cell]; rfl
  have kk2 : W15.cell? ⟨Bc, 2, none⟩ = some (.slice (some ⟨gd, 0, none⟩) m cd) := by rw [hk.cell]; rfl
  have hS0 : CopS w.heap.size Bc (ad.add k) ⟨gd, k, none⟩ W15 (.slice P n cap) (.bool u) (.slice (some ad) m dcap) (.slice (some ⟨g, 0, none⟩) n c) (.bool u) (.slice (some ⟨gd, 0, none⟩) m cd) (.int .i64 x) (.int .i64 y) W15.drew := ⟨c0, c1, c2, kk0, kk1, kk2, cx2, cg2, hide (Below.refl _ W15).drew⟩
  have HBB := hide hB
  have HFG := fg
  clear hT hk hC hDD hB hset hwf hneq hDx hlen e9 cx2 cg2 c0 c1 c2 kk0 kk1 kk2 hDw hyn hyb hxw cx HD HR hmz hmz2
  go_wp2_with fail
  go_still_tail 10, (by kernel_rfl)
  change wpList _ _ _ _ _ w14.drew
  go_wp2_with fail
  have hW15' := hW15.out
  rw [hW15']
  clear hW15 hW15' cg fg HFG k0 k1 k2
  go_region_held3 (fun W => W.cell? ⟨w.heap.size, 0, none⟩ = some (.slice P n cap) ∧ W.cell? ⟨w.heap.size, 1, none⟩ = some (.bool u) ∧ W.cell? ⟨w.heap.size, 2, none⟩ = some (.slice (some ad) m dcap) ∧ W.cell? ⟨Bc, 0, none⟩ = some (.slice (some ⟨g, 0, none⟩) n c) ∧ W.cell? ⟨Bc, 1, none⟩ = some (.bool u) ∧ W.cell? ⟨Bc, 2, none⟩ = some (.slice (some ⟨gd, 0, none⟩) m cd) ∧ W.cell? (ad.add k) = some (.int .i64 x) ∧ W.cell? ⟨gd, k, none⟩ = some (.int .i64 y) ∧ Hid (Below W15.heap.size W15 W))
    (first | exact hS0 | assumption | exact CopS.keep (by assumption) hb)
    (first
      | (go_at_call 63; refine (HSx.out _ (CopS.low (by assumption))).mono ?_; rintro e W2 ⟨rfl, hb⟩))
  go_wp2_with fail
  go_ret
  exact ⟨by first | rfl | simp, HBB.out.trans ((CopS.low (by assumption)).mono HBB.out.size)⟩
theorem copies_long (P D : Option Addr) (n cap m dcap : Nat) (u : Bool) (at_ : Int) (ah am ar : Addr) (w : World) (hlong : ¬ (n ≤ 8 ∧ m ≤ 300)) (hE : E3 w ah am ar) :
    Calls Tryd.prog 11 #[.agg (tcells P n cap u D m dcap), .int .i64 at_] w fun e w' => e = .returned (.bool true) ∧ Below w.heap.size w w' := by
  have hb0 := (Below.refl _ w).alloc (Nat.le_refl _) (Obj.cells (tcells P n cap u D m dcap) 53)
  have HF := hide (first6_c ah am ar _ (hE.below hb0))
  have HT0 := hide (tens_row w P n cap u D m dcap)
  have HB0 := hide hb0
  have HWT := hide (fun W => worldtensor_c P D n cap m dcap u W)
  have e2 : (decide (n ≤ 8) && decide (m ≤ 300)) = false := by
    rw [← Bool.decide_and]
    exact decide_eq_false hlong
  rw [e2] at HWT
  clear e2 hb0 hE hlong
  go_enter Tryd.func11, Tryd.ntmps11
  go_wp2_with fail
  refine HF.out.mono ?_
  rintro e w1 ⟨rfl, hb⟩
  have hT := HT0.out.below hb HT0.out.lt
  have hB := HB0.out.trans (hb.mono HB0.out.size)
  have c0 : w1.cell? ⟨w.heap.size, 0, none⟩ = some (.slice P n cap) := by rw [hT.cell]; rfl
  have c1 : w1.cell? ⟨w.heap.size, 1, none⟩ = some (.bool u) := by rw [hT.cell]; rfl
  have c2 : w1.cell? ⟨w.heap.size, 2, none⟩ = some (.slice D m dcap) := by rw [hT.cell]; rfl
  have HB := hide hB
  clear hb hT hB HT0 HB0 HF
  go_wp2_with fail
  refine (HWT.out w1).mono ?_
  rintro e w2 ⟨rfl, hb⟩
  have HFin := hide (HB.out.trans (hb.mono HB.out.size))
  clear hb HB
  go_wp2_with fail
  go_ret
  exact ⟨rfl, HFin.out⟩
theorem copies_any (zs ds : List Int) (P D : Option Addr) (cap dcap : Nat) (u : Bool) (at_ : Int) (ah am ar : Addr) (w : World) (hr : Ri w P zs) (hd : Ri w D ds) (hE : E3 w ah am ar) :
    Calls Tryd.prog 11 #[.agg (tcells P zs.length cap u D ds.length dcap), .int .i64 at_] w fun e w' => e = .returned (.bool true) ∧ Below w.heap.size w w' := by
  by_cases h : zs.length ≤ 8 ∧ ds.length ≤ 300
  · exact copies_short zs ds P D cap dcap u at_ ah am ar w hr hd h.1 h.2 hE
  · exact copies_long P D zs.length cap ds.length dcap u at_ ah am ar w h hE
end Go.Proofs.YtnbjcdmiehnceaaDoor
