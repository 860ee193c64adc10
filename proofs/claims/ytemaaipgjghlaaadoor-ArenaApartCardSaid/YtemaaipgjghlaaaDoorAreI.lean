/-
  Arena.Add of a part that fits, walked. By an AI agent. No person has read it.
-/
import Derived.Test.YtemaaipgjghlaaaDoorAreH
namespace Go.Proofs.YtemaaipgjghlaaaDoor
open Go.RowKit

/-- What parts take: place and length. -/
def Hd.pr (h : Hd) : Nat × Nat := (h.off, h.size)
/-- Behind Add of a part that fits. -/
def Ar.Added (base a m i : Nat) (v : Value) (mem : List Nat) (l : List Hd) (h : Hd) (w : World) (e : Ending) (w' : World) : Prop :=
  ∃ v', e = .returned (.tuple #[.agg #[.int .i64 h.id, .int .i64 (h.off : Nat), .int .i64 (h.size : Nat)], .nilIface]) ∧ ArIn base w' a m v' mem (l.take i ++ h :: l.drop i) ∧ Off (Ar.bl a m v l) w w' ∧ ∀ k ∈ Ar.bl a m v' (l.take i ++ h :: l.drop i), k ∈ Ar.bl a m v l ∨ w.heap.size ≤ k
theorem results_part {fn : Func} {p u : Tmp} (h : fn.results = #[.cell p 30, .tmp u]) (tmps : Array Value) (w : World) (g : Nat) (x y z : Value)
    (hp : tmps.getD p undef = .pointer (some ⟨g, 0, none⟩)) (hg : Has w g 30 [x, y, z]) : (results fn tmps).run Tryd.prog w = .ok (.tuple #[.agg #[x, y, z], tmps.getD u undef]) w := by
  rw [results_cell_tmp h, hp]
  have h1 := run_loadVar_row (P := Tryd.prog) w g 30 30 #[x, y, z] (0, 0) _ hg Tryd.underlying30 rfl (by kernel_rfl)
  simp [asAddr, h1, Result.andThen]

set_option maxRecDepth 100000 in
set_option maxHeartbeats 8000000 in
theorem add_ok (id : Int) (size : Nat) (base a m off i : Nat) (v : Value) (mem : List Nat) (l : List Hd) (w : World) (hA : ArIn base w a m v mem l) (hl : l.length ≤ 1000) (hmem : mem.length ≤ 1048576) (hfit : ∀ h ∈ l, h.off + h.size ≤ mem.length) (hs : 1 ≤ size) (hbase : base ≤ w.heap.size)
    (hi : i ≤ l.length) (hf : Ar.find id 0 l = -1) (hg : Ar.gap (size : Int) mem.length 0 0 (l.map Hd.pr) = (off, i, true)) :
    Calls Tryd.prog 9 #[.pointer (some ⟨a, 0, none⟩), .int .i64 id, .int .i64 (size : Nat)] w (Ar.Added base a m i v mem l ⟨id, off, size, none, [], 0⟩ w) := by
  have hs1 : ¬ ((size : Int) < 1) := by omega
  obtain ⟨A, c, rfl, hnc, hlie, -, -⟩ := own_lie hA.row
  obtain ⟨i0, hi0, hz0, hz1, hz2⟩ := blk_info
  have HI0 := hide hi0
  have HZI := hide hz0
  have HZ1 := hide hz1
  have HZ2 := hide hz2
  have HU := hide uds_blk
  have HA := hide hA
  have HR := hide hlie
  have hal := hA.box.lt
  have hne : a ≠ w.heap.size := by omega
  have HZ0 := hide (Has.new w 30 [.int .i64 0, .int .i64 0, .int .i64 0])
  have HB0 := hide ((Below.refl w.heap.size w).alloc (Nat.le_refl _) (.cells #[.int .i64 0, .int .i64 0, .int .i64 0] 30))
  have VF := hide (fun W (hb : Below w.heap.size w W) => find_c l A c a _ id W (hlie.below hb) (by omega) (hA.below hb).box)
  rw [hf] at VF
  obtain ⟨nd, hnd⟩ : ∃ n, Hid (l.length = n) := ⟨_, hide rfl⟩
  have HL := hide hl
  rw [hnd.out] at hl
  clear hi0 hz0 hz1 hz2 hlie hf
  go_enter Tryd.func9, Tryd.ntmps9
  go_wp2_with fail
  refine (VF.out _ HB0.out).mono ?_
  rintro e w1 ⟨rfl, hb⟩
  have HB1 := hide (HB0.out.trans (hb.mono HB0.out.size))
  have HZ := hide (HZ0.out.below hb HZ0.out.lt)
  have c1 : w1.cell? ⟨a, 1, none⟩ = some (.slice A nd c) := by
    rw [← hnd.out]
    exact ((HA.out.below HB1.out).box).cell 1
  clear HB0 HZ0 VF hb
  go_wp2_with fail
  have hO0 : Hid (w1.ownsRow w1.heap.size 64 2 (.slice none 0 0) 0 []) := hide ⟨rfl, .inl ⟨rfl, rfl⟩⟩
  go_loopw [8, 30] (fun s k wr => ∃ i : Nat, i ≤ nd ∧ k = .int .i64 i ∧ Hid (wr.ownsRow w1.heap.size 64 2 s i (((l.take i).map Hd.pr).flatMap Bk.vals)) ∧ Hid (Below w1.heap.size w1 wr)) (fun _ k _ => nd - (intOf k).toNat)
  case atStart => exact ⟨0, by omega, rfl, hO0, hide (Below.refl _ _)⟩
  case round =>
    obtain ⟨j, hj, rfl, HO, HBL⟩ := hrel
    by_cases hlt : j < nd
    · obtain ⟨ad, x, rfl, had, ht, c0, d1, d2, d3⟩ := lie_hd (HR.out.below (HB1.out.trans (HBL.out.mono HB1.out.size))) j (by rw [hnd.out]; exact hlt)
      have hown1 := hide (HO.out.alloc (.cells #[.int .i64 x.id, .int .i64 (x.off : Nat), .int .i64 (x.size : Nat), .slice x.A x.bs.length x.c] 62))
      have hown2 := hide (hown1.out.alloc (.cells #[.int .i64 (x.off : Nat), .int .i64 (x.size : Nat)] 64))
      have HB2 := hide ((HBL.out.alloc HBL.out.size (.cells #[.int .i64 x.id, .int .i64 (x.off : Nat), .int .i64 (x.size : Nat), .slice x.A x.bs.length x.c] 62)).alloc (by simp; have := HBL.out.size; omega) (.cells #[.int .i64 (x.off : Nat), .int .i64 (x.size : Nat)] 64))
      have hsz := hide HB2.out.size
      have hnw : Hid (∀ (j : Nat) (u : Value), [Value.int .i64 (x.off : Nat), .int .i64 (x.size : Nat)][j]? = some u → ((wr.alloc (.cells #[.int .i64 x.id, .int .i64 (x.off : Nat), .int .i64 (x.size : Nat), .slice x.A x.bs.length x.c] 62)).alloc (.cells #[.int .i64 (x.off : Nat), .int .i64 (x.size : Nat)] 64)).cell? ((⟨wr.heap.size + 1, 0, none⟩ : Addr).add j) = some u) := hide (by
        have h := new_cells (wr.alloc (.cells #[.int .i64 x.id, .int .i64 (x.off : Nat), .int .i64 (x.size : Nat), .slice x.A x.bs.length x.c] 62)) 64 [.int .i64 (x.off : Nat), .int .i64 (x.size : Nat)]
        rw [show (wr.alloc (.cells #[.int .i64 x.id, .int .i64 (x.off : Nat), .int .i64 (x.size : Nat), .slice x.A x.bs.length x.c] 62)).heap.size = wr.heap.size + 1 by simp] at h
        exact h)
      have h1w : Hid (∀ y ∈ [Value.int .i64 (x.off : Nat), .int .i64 (x.size : Nat)], y.oneCell' = true) := hide (by
        intro y hy
        simp at hy
        rcases hy with rfl | rfl
        all_goals rfl)
      clear HO hown1 HBL
      go_wp2_with (at_builtin; refine wpList_append_own_at _ rfl _ _ 60 rfl w1.heap.size 64 i0 (.agg #[.int .i64 0, .int .i64 0]) 2 16 HU.out HI0.out HZI.out HZ1.out HZ2.out rfl (by decide) _ j _ rfl hown2.out ⟨wr.heap.size + 1, 0, none⟩ 1 1 [.int .i64 (x.off : Nat), .int .i64 (x.size : Nat)] rfl rfl hnw.out h1w.out (by unfold maxLen; omega) (by omega) hsz.out ?_)
      intro s0 W0 hown' hgrow hnil hat
      have HBL : Hid (Below w1.heap.size w1 W0) := hide (HB2.out.grown hgrow HB2.out.size fun k hk => own_ge hown2.out k hk)
      have HO := hide hown'
      clear HB2 hown2 hown' hgrow hnw h1w hsz hnil hat c0 d1 d2 d3 had
      go_wp2_with fail
      go_roundw
      case rel =>
        refine ⟨j + 1, by omega, by go_num, hide ?_, HBL⟩
        have h := HO.out
        rw [List.take_add_one, ht.out, Option.toList_some, List.map_append, List.flatMap_append, List.map_cons, List.map_nil, List.flatMap_cons, List.flatMap_nil, List.append_nil, List.map_take]
        exact h
      case measure => simp [intOf]; omega
    · obtain rfl : j = nd := by omega
      have hl2 : l.take j = l := List.take_of_length_le (by rw [hnd.out]; exact Nat.le_refl _)
      have ho := HO.out
      rw [hl2] at ho
      clear HO hl2 hlt hj
      obtain ⟨A2, c2, rfl, -, hlie2, -, -⟩ := own_lie ho
      have HBw := hide (HB1.out.trans (HBL.out.mono HB1.out.size))
      have HZw := hide (HZ.out.below HBL.out HZ.out.lt)
      have c0 : wr.cell? ⟨a, 0, none⟩ = some (.slice (some ⟨m, 0, none⟩) mem.length mem.length) := ((HA.out.below HBw.out).box).cell 0
      have hgc := gap_c (l.map Hd.pr) A2 c2 (size : Int) mem.length wr hlie2 (by rw [List.length_map]; have := HL.out; omega) (fun b hb => by
        obtain ⟨h, hh, rfl⟩ := List.mem_map.1 hb
        have := hfit h hh
        show h.off + h.size ≤ _
        omega) (by omega)
      rw [hg, List.length_map, hnd.out] at hgc
      dsimp only at hgc
      have HG := hide hgc
      clear HZ HBL ho hlie2 hgc hfit hg hmem hs hnc
      go_wp2_with fail
      refine HG.out.mono ?_
      rintro e w3 ⟨rfl, hb3⟩
      have HB3 := hide (HBw.out.trans (hb3.mono HBw.out.size))
      have HZ3 := hide (HZw.out.below hb3 HZw.out.lt)
      clear HG HBw HZw hb3 c0
      have HP4 := hide (Has.new w3 30 [.int .i64 id, .int .i64 (off : Nat), .int .i64 (size : Nat)])
      have HZ4 := hide (HZ3.out.alloc (.cells #[.int .i64 id, .int .i64 (off : Nat), .int .i64 (size : Nat)] 30))
      have HB4 := hide (HB3.out.alloc HB3.out.size (.cells #[.int .i64 id, .int .i64 (off : Nat), .int .i64 (size : Nat)] 30))
      obtain ⟨D4, hD4⟩ : ∃ D4, D4 = w3.alloc (.cells #[.int .i64 id, .int .i64 (off : Nat), .int .i64 (size : Nat)] 30) := ⟨_, rfl⟩
      have hD4s : D4.heap.size = w3.heap.size + 1 := by rw [hD4]; simp
      rw [← hD4] at HP4 HZ4 HB4
      have HX := hide (Has.new D4 62 [.int .i64 id, .int .i64 (off : Nat), .int .i64 (size : Nat), .slice none 0 0])
      have HBX := hide ((Below.refl D4.heap.size D4).alloc (Nat.le_refl _) (.cells #[.int .i64 id, .int .i64 (off : Nat), .int .i64 (size : Nat), .slice none 0 0] 62))
      have hw3 := HB3.out.size
      have VI := hide (fun (W : World) (hb : Below D4.heap.size D4 W) (hx : Has W D4.heap.size 62 [.int .i64 id, .int .i64 (off : Nat), .int .i64 (size : Nat), .slice none 0 0]) =>
        inshold_c (.slice A l.length c) l.length i base (l.flatMap Hd.vals) [.int .i64 id, .int .i64 (off : Nat), .int .i64 (size : Nat), .slice none 0 0] D4.heap.size W ((HA.out.below (HB4.out.trans (hb.mono HB4.out.size))).row) hi (by have := HL.out; omega) hx rfl
          (by intro y hy; simp at hy; rcases hy with rfl | rfl | rfl | rfl <;> rfl)
          (by
            intro y hy
            obtain ⟨h, -, hh⟩ := List.mem_flatMap.1 hy
            simp [Hd.vals] at hh
            rcases hh with rfl | rfl | rfl | rfl <;> rfl)
          (fun e => by have := own_lt HA.out.row _ e; omega) (by have := hb.size; omega))
      have FIN := hide (fun (W : World) (hb : Below D4.heap.size D4 W) (v' : Value) (w5 : World) (hrow : w5.ownsRow base 62 4 v' (l.length + 1) ((l.flatMap Hd.vals).take (i * 4) ++ (Hd.mk id off size none [] 0).vals ++ (l.flatMap Hd.vals).drop (i * 4))) (hgr : W.grownBy w5 (Value.ownBlock (.slice A l.length c))) (hat : v'.ownBlock = (Value.ownBlock (.slice A l.length c)) ∨ v'.ownBlock = some W.heap.size) =>
        show ∃ A' c', v' = .slice A' (l.length + 1) c' ∧ w5.cell? ⟨a, 1, none⟩ = some (.slice A l.length c) ∧ w5.frozen? ⟨a, 1, none⟩ = false ∧ Hid (ArIn base (w5.setCell ⟨a, 1, none⟩ v') a m v' mem (l.take i ++ (Hd.mk id off size none [] 0) :: l.drop i)) ∧ Hid (Off (Ar.bl a m (.slice A l.length c) l) w (w5.setCell ⟨a, 1, none⟩ v')) ∧ Hid (∀ k ∈ Ar.bl a m v' (l.take i ++ (Hd.mk id off size none [] 0) :: l.drop i), k ∈ Ar.bl a m (.slice A l.length c) l ∨ w.heap.size < k) ∧
            Hid (Has (w5.setCell ⟨a, 1, none⟩ v') w3.heap.size 30 [.int .i64 id, .int .i64 (off : Nat), .int .i64 (size : Nat)]) ∧ Hid (Has (w5.setCell ⟨a, 1, none⟩ v') w.heap.size 30 [.int .i64 0, .int .i64 0, .int .i64 0]) from by
          have hAW := HA.out.below (HB4.out.trans (hb.mono HB4.out.size))
          obtain ⟨g1, g2, g3⟩ := hAW.added (h := ⟨id, off, size, none, [], 0⟩) hi ⟨rfl, rfl, rfl⟩ hrow hgr hat
          have hbs := hb.size
          have hvl : ∀ k, (Value.ownBlock (.slice A l.length c)) = some k → k < w.heap.size := fun k hk => own_lt HA.out.row k hk
          have hav := hAW.box.grown hgr (fun e => by
            have hd := HA.out.dis
            unfold Ar.bl at hd
            rw [List.nodup_cons] at hd
            exact hd.1 (List.mem_cons_of_mem _ (List.mem_append_left _ (by rw [← e]; simp))))
          obtain ⟨A', c', hv', -⟩ := own_lie hrow
          refine ⟨A', c', hv', hav.cell 1, hav.frozen 1, hide g1, hide ((Off.of_below (HB4.out.trans (hb.mono HB4.out.size))).trans g2 fun k hk => .inl hk), hide fun k hk => ?_, hide ?_, hide ?_⟩
          · rcases g3 k hk with h | h
            · exact .inl h
            · exact .inr (by omega)
          · exact ((HP4.out.below hb (by omega)).grown hgr (fun e => by have := hvl _ e.symm; omega)).far (p := ⟨a, 1, none⟩) (by show w3.heap.size ≠ a; omega) v'
          · exact ((HZ4.out.below hb (by omega)).grown hgr (fun e => by have := hvl _ e.symm; omega)).far (p := ⟨a, 1, none⟩) (by show w.heap.size ≠ a; omega) v')
      rw [hnd.out] at FIN
      have c4 : D4.cell? ⟨a, 1, none⟩ = some (.slice A j c) := by
        rw [← hnd.out]
        exact ((HA.out.below HB4.out).box).cell 1
      have c4' : (D4.alloc (.cells #[.int .i64 id, .int .i64 (off : Nat), .int .i64 (size : Nat), .slice none 0 0] 62)).cell? ⟨a, 1, none⟩ = some (.slice A j c) := by
        rw [← hnd.out]
        exact (((HA.out.below HB4.out).box).alloc _).cell 1
      have p0 : D4.cell? ⟨w3.heap.size, 0, none⟩ = some (.int .i64 id) := HP4.out.cell 0
      have p1 : D4.cell? ⟨w3.heap.size, 1, none⟩ = some (.int .i64 (off : Nat)) := HP4.out.cell 1
      have p2 : D4.cell? ⟨w3.heap.size, 2, none⟩ = some (.int .i64 (size : Nat)) := HP4.out.cell 2
      rw [hnd.out] at VI
      have HD4 := hide hD4
      clear HB3 HZ3 hw3 hD4 hD4s
      go_wp2_with fail
      rw [← HD4.out]
      go_region_law (go_simp; go_at_call 24; refine (VI.out _ (by first | exact HBX.out | exact HBX.out.drew) (by first | exact HX.out | exact HX.out.drewN 1)).mono ?_; rintro e w5 ⟨v', rfl, hrow, hgr, hat⟩; obtain ⟨A', c', rfl, e5, f5, h5⟩ := FIN.out _ (by first | exact HBX.out | exact HBX.out.drew) v' w5 hrow hgr hat; clear hrow hgr hat)
      all_goals
      obtain ⟨G1, G2, G3, G4, G5⟩ := h5
      clear e5 f5
      generalize w5.setCell ⟨a, 1, none⟩ (.slice A' (j + 1) c') = w6 at G1 G2 G3 G4 G5 ⊢
      have q0 : w6.cell? ⟨w3.heap.size, 0, none⟩ = some (.int .i64 id) := G4.out.cell 0
      have q1 : w6.cell? ⟨w3.heap.size, 1, none⟩ = some (.int .i64 (off : Nat)) := G4.out.cell 1
      have q2 : w6.cell? ⟨w3.heap.size, 2, none⟩ = some (.int .i64 (size : Nat)) := G4.out.cell 2
      have z0 : w6.cell? ⟨w.heap.size, 0, none⟩ = some (.int .i64 0) := G5.out.cell 0
      have z1 : w6.cell? ⟨w.heap.size, 1, none⟩ = some (.int .i64 0) := G5.out.cell 1
      have z2 : w6.cell? ⟨w.heap.size, 2, none⟩ = some (.int .i64 0) := G5.out.cell 2
      have y0 := G5.out.frozen 0
      have y1 := G5.out.frozen 1
      have y2 := G5.out.frozen 2
      have HF := hide (((G5.out.set_ 0 (.int .i64 id)).set_ 1 (.int .i64 (off : Nat))).set_ 2 (.int .i64 (size : Nat)))
      clear c4 c4' p0 p1 p2
      go_wp2_with fail
      refine bodyPost_ret (results_part rfl _ _ w.heap.size _ _ _ rfl HF.out) rfl ?_
      have G7 := (((Off.of_below (S := [w.heap.size]) (Below.refl w6.heap.size w6)).set_ (p := ⟨w.heap.size, 0, none⟩) (by simp) (.int .i64 id)).set_ (p := ⟨w.heap.size, 1, none⟩) (by simp) (.int .i64 (off : Nat))).set_ (p := ⟨w.heap.size, 2, none⟩) (by simp) (.int .i64 (size : Nat))
      have G8 := G2.out.trans G7 (fun k hk => .inr (by simp only [List.mem_singleton] at hk; omega))
      have G9 := G3.out
      rw [← hnd.out] at G8 G9
      refine ⟨.slice A' (j + 1) c', rfl, G1.out.off G7 (fun k hk hz => ?_), G8, fun k hk => ?_⟩
      · simp only [List.mem_singleton] at hz
        rw [← hnd.out] at hk
        rcases G9 k hk with h | h
        · have := (HA.out.lt k h).1
          omega
        · omega
      · rw [← hnd.out] at hk
        rcases G9 k hk with h | h
        · exact .inl h
        · exact .inr (by omega)
end Go.Proofs.YtemaaipgjghlaaaDoor
