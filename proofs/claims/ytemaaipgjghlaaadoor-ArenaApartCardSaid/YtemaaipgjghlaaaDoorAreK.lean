/-
  Arena.Add of a part for which there is no room, walked. By an AI agent. No person has read it.
-/
import Derived.Test.YtemaaipgjghlaaaDoorAreJ
namespace Go.Proofs.YtemaaipgjghlaaaDoor
open Go.RowKit

set_option maxRecDepth 100000 in
set_option maxHeartbeats 8000000 in
theorem add_full (id : Int) (size : Nat) (base a m off i : Nat) (v : Value) (mem : List Nat) (l : List Hd) (w : World) (hA : ArIn base w a m v mem l) (hl : l.length ≤ 1000) (hmem : mem.length ≤ 1048576) (hfit : ∀ h ∈ l, h.off + h.size ≤ mem.length) (hs : 1 ≤ size) (ar : Addr) (hE : ErrIs w 1 ar)
    (hf : Ar.find id 0 l = -1) (hg : Ar.gap (size : Int) mem.length 0 0 (l.map Hd.pr) = (off, i, false)) :
    Calls Tryd.prog 9 #[.pointer (some ⟨a, 0, none⟩), .int .i64 id, .int .i64 (size : Nat)] w (Ar.Bad ar w) := by
  have HE := hide hE
  have hs1 : ¬ ((size : Int) < 1) := by omega
  obtain ⟨A, c, rfl, hnc, hlie, -, -⟩ := own_lie hA.row
  obtain ⟨i0, hi0, hz0, hz1, hz2⟩ := blk_info
  have HI0 := hide hi0
  have HZI := hide hz0
  have HZ1 := hide hz1
  have HZ2 := hide hz2
  have HU := hide uds_blk
  have HA := hide hA
  have HR := hide hlie
  have hal := hA.box.lt
  have hne : a ≠ w.heap.size := by omega
  have HZ0 := hide (Has.new w 30 [.int .i64 0, .int .i64 0, .int .i64 0])
  have HB0 := hide ((Below.refl w.heap.size w).alloc (Nat.le_refl _) (.cells #[.int .i64 0, .int .i64 0, .int .i64 0] 30))
  have VF := hide (fun W (hb : Below w.heap.size w W) => find_c l A c a _ id W (hlie.below hb) (by omega) (hA.below hb).box)
  rw [hf] at VF
  obtain ⟨nd, hnd⟩ : ∃ n, Hid (l.length = n) := ⟨_, hide rfl⟩
  have HL := hide hl
  rw [hnd.out] at hl
  clear hi0 hz0 hz1 hz2 hlie hf hE
  go_enter Tryd.func9, Tryd.ntmps9
  go_wp2_with fail
  refine (VF.out _ HB0.out).mono ?_
  rintro e w1 ⟨rfl, hb⟩
  have HB1 := hide (HB0.out.trans (hb.mono HB0.out.size))
  have HZ := hide (HZ0.out.below hb HZ0.out.lt)
  have c1 : w1.cell? ⟨a, 1, none⟩ = some (.slice A nd c) := by
    rw [← hnd.out]
    exact ((HA.out.below HB1.out).box).cell 1
  clear HB0 HZ0 VF hb
  go_wp2_with fail
  have hO0 : Hid (w1.ownsRow w1.heap.size 64 2 (.slice none 0 0) 0 []) := hide ⟨rfl, .inl ⟨rfl, rfl⟩⟩
  go_loopw [8, 30] (fun s k wr => ∃ i : Nat, i ≤ nd ∧ k = .int .i64 i ∧ Hid (wr.ownsRow w1.heap.size 64 2 s i (((l.take i).map Hd.pr).flatMap Bk.vals)) ∧ Hid (Below w1.heap.size w1 wr)) (fun _ k _ => nd - (intOf k).toNat)
  case atStart => exact ⟨0, by omega, rfl, hO0, hide (Below.refl _ _)⟩
  case round =>
    obtain ⟨j, hj, rfl, HO, HBL⟩ := hrel
    by_cases hlt : j < nd
    · obtain ⟨ad, x, rfl, had, ht, c0, d1, d2, d3⟩ := lie_hd (HR.out.below (HB1.out.trans (HBL.out.mono HB1.out.size))) j (by rw [hnd.out]; exact hlt)
      have hown1 := hide (HO.out.alloc (.cells #[.int .i64 x.id, .int .i64 (x.off : Nat), .int .i64 (x.size : Nat), .slice x.A x.bs.length x.c] 62))
      have hown2 := hide (hown1.out.alloc (.cells #[.int .i64 (x.off : Nat), .int .i64 (x.size : Nat)] 64))
      have HB2 := hide ((HBL.out.alloc HBL.out.size (.cells #[.int .i64 x.id, .int .i64 (x.off : Nat), .int .i64 (x.size : Nat), .slice x.A x.bs.length x.c] 62)).alloc (by simp; have := HBL.out.size; omega) (.cells #[.int .i64 (x.off : Nat), .int .i64 (x.size : Nat)] 64))
      have hsz := hide HB2.out.size
      have hnw : Hid (∀ (j : Nat) (u : Value), [Value.int .i64 (x.off : Nat), .int .i64 (x.size : Nat)][j]? = some u → ((wr.alloc (.cells #[.int .i64 x.id, .int .i64 (x.off : Nat), .int .i64 (x.size : Nat), .slice x.A x.bs.length x.c] 62)).alloc (.cells #[.int .i64 (x.off : Nat), .int .i64 (x.size : Nat)] 64)).cell? ((⟨wr.heap.size + 1, 0, none⟩ : Addr).add j) = some u) := hide (by
        have h := new_cells (wr.alloc (.cells #[.int .i64 x.id, .int .i64 (x.off : Nat), .int .i64 (x.size : Nat), .slice x.A x.bs.length x.c] 62)) 64 [.int .i64 (x.off : Nat), .int .i64 (x.size : Nat)]
        rw [show (wr.alloc (.cells #[.int .i64 x.id, .int .i64 (x.off : Nat), .int .i64 (x.size : Nat), .slice x.A x.bs.length x.c] 62)).heap.size = wr.heap.size + 1 by simp] at h
        exact h)
      have h1w : Hid (∀ y ∈ [Value.int .i64 (x.off : Nat), .int .i64 (x.size : Nat)], y.oneCell' = true) := hide (by
        intro y hy
        simp at hy
        rcases hy with rfl | rfl
        all_goals rfl)
      clear HO hown1 HBL
      go_wp2_with (at_builtin; refine wpList_append_own_at _ rfl _ _ 60 rfl w1.heap.size 64 i0 (.agg #[.int .i64 0, .int .i64 0]) 2 16 HU.out HI0.out HZI.out HZ1.out HZ2.out rfl (by decide) _ j _ rfl hown2.out ⟨wr.heap.size + 1, 0, none⟩ 1 1 [.int .i64 (x.off : Nat), .int .i64 (x.size : Nat)] rfl rfl hnw.out h1w.out (by unfold maxLen; omega) (by omega) hsz.out ?_)
      intro s0 W0 hown' hgrow hnil hat
      have HBL : Hid (Below w1.heap.size w1 W0) := hide (HB2.out.grown hgrow HB2.out.size fun k hk => own_ge hown2.out k hk)
      have HO := hide hown'
      clear HB2 hown2 hown' hgrow hnw h1w hsz hnil hat c0 d1 d2 d3 had
      go_wp2_with fail
      go_roundw
      case rel =>
        refine ⟨j + 1, by omega, by go_num, hide ?_, HBL⟩
        have h := HO.out
        rw [List.take_add_one, ht.out, Option.toList_some, List.map_append, List.flatMap_append, List.map_cons, List.map_nil, List.flatMap_cons, List.flatMap_nil, List.append_nil, List.map_take]
        exact h
      case measure => simp [intOf]; omega
    · obtain rfl : j = nd := by omega
      have hl2 : l.take j = l := List.take_of_length_le (by rw [hnd.out]; exact Nat.le_refl _)
      have ho := HO.out
      rw [hl2] at ho
      clear HO hl2 hlt hj
      obtain ⟨A2, c2, rfl, -, hlie2, -, -⟩ := own_lie ho
      have HBw := hide (HB1.out.trans (HBL.out.mono HB1.out.size))
      have HZw := hide (HZ.out.below HBL.out HZ.out.lt)
      have c0 : wr.cell? ⟨a, 0, none⟩ = some (.slice (some ⟨m, 0, none⟩) mem.length mem.length) := ((HA.out.below HBw.out).box).cell 0
      have hgc := gap_c (l.map Hd.pr) A2 c2 (size : Int) mem.length wr hlie2 (by rw [List.length_map]; have := HL.out; omega) (fun b hb => by
        obtain ⟨h, hh, rfl⟩ := List.mem_map.1 hb
        have := hfit h hh
        show h.off + h.size ≤ _
        omega) (by omega)
      rw [hg, List.length_map, hnd.out] at hgc
      dsimp only at hgc
      have HG := hide hgc
      clear HZ HBL ho hlie2 hgc hfit hg hmem hs hnc
      go_wp2_with fail
      refine HG.out.mono ?_
      rintro e w3 ⟨rfl, hb3⟩
      have HB := hide (HBw.out.trans (hb3.mono HBw.out.size))
      have HZ := hide (HZw.out.below hb3 HZw.out.lt)
      clear HG HBw HZw hb3 c0
      obtain ⟨z0, z1, z2, zf0, zf1, zf2, HZf, HFf⟩ := part_twod HZ.out HB.out (Nat.le_refl _)
      have hs5 : w3.drew.cell? ⟨1, 0, none⟩ = some (errv ar) := (HE.out.below HB.out).1
      have hglt : 1 < w.heap.size := HE.out.2.1
      have hS9 := hide (HE.out.below HFf.out).1
      go_wp2_with fail
      go_region_held3 (fun W => W.cell? ⟨1, 0, none⟩ = some (errv ar))
        (first | exact hs5 | assumption | exact hS9.out)
        (first | fail)
      go_wp2_with fail
      refine bodyPost_ret (results_part rfl _ _ w.heap.size _ _ _ rfl HZf.out) rfl ?_
      exact ⟨rfl, HFf.out⟩
end Go.Proofs.YtemaaipgjghlaaaDoor
