/-
  Arena.Drop of a block that is there, walked. By an AI agent. No person has read it.
-/
import Derived.Test.YtemaaipgjghlaaaDoorAreU
namespace Go.Proofs.YtemaaipgjghlaaaDoor
open Go.RowKit

/-- Behind Drop of a block that is there. -/
def Ar.Dropped (base a m i at' off n : Nat) (v : Value) (mem : List Nat) (l : List Hd) (h : Hd) (w : World) (e : Ending) (w' : World) : Prop :=
  ∃ A' c', e = .returned (.bool true) ∧ ArIn base w' a m v (Ar.wipe mem (h.off + off) n) (l.set i (h.put A' (h.bs.take at' ++ h.bs.drop (at' + 1)) c')) ∧ Off (Ar.bl a m v l) w w' ∧ ∀ k ∈ Ar.bl a m v (l.set i (h.put A' (h.bs.take at' ++ h.bs.drop (at' + 1)) c')), k ∈ Ar.bl a m v l ∨ w.heap.size ≤ k

theorem own_bk {w : World} {base q N c j : Nat} {bs : List (Nat × Nat)} {b : Nat × Nat} (h : w.ownsRow base 64 2 (.slice (some ⟨q, 0, none⟩) N c) N (bs.flatMap Bk.vals)) (hj : bs[j]? = some b) : w.cell? ⟨q, j * 2, none⟩ = some (.int .i64 (b.1 : Nat)) ∧ w.cell? ⟨q, j * 2 + 1, none⟩ = some (.int .i64 (b.2 : Nat)) := by
  rcases h.2 with ⟨h1, -⟩ | ⟨g, c', cur, h1, -, h3, -, -, -, h7⟩
  · cases h1
  · cases h1
    have hc : ∀ (r : Nat) (x : Value), r < 2 → (Bk.vals b)[r]? = some x → w.cell? ⟨q, j * 2 + r, none⟩ = some x := fun r x hr hx => by
      rw [cell_of_row w q (j * 2 + r) cur _ (0, 0) h3, ← Array.getElem?_toList]
      have e := flat_at Bk.vals 2 bs (fun _ _ => rfl) j b hj r hr
      rw [hx, ← h7, List.getElem?_take] at e
      split at e
      · exact e
      · cases e
    exact ⟨hc 0 _ (by decide) rfl, hc 1 _ (by decide) rfl⟩

set_option maxRecDepth 100000 in
set_option maxHeartbeats 8000000 in
theorem drop_ok (id : Int) (base a m off n at' i : Nat) (v : Value) (mem : List Nat) (l : List Hd) (h : Hd) (w : World) (hA : ArIn base w a m v mem l) (hl : l.length ≤ 1000) (hmem : mem.length ≤ 1048576) (hi : l[i]? = some h) (hf : Ar.find id 0 l = (i : Int)) (hb : h.bs[at']? = some (off, n)) (hs : Ar.spot (off : Int) 0 h.bs = (at' : Int)) (hn : 1 ≤ n) (hfit : h.off + off + n ≤ mem.length) (hbl : h.bs.length ≤ 1000000) :
    Calls Tryd.prog 13 #[.pointer (some ⟨a, 0, none⟩), .int .i64 id, .int .i64 (off : Nat)] w (Ar.Dropped base a m i at' off n v mem l h w) := by
  have mixed : Tryd.prog.follows Departure.mixedOrders = true := by kernel_rfl
  have hil := (List.getElem?_eq_some_iff.1 hi).1
  have hal := (List.getElem?_eq_some_iff.1 hb).1
  obtain ⟨p, c, rfl, hnc⟩ := own_some hA.row (by omega)
  obtain ⟨A, c0, e0, -, hlie, -, -⟩ := own_lie hA.row
  cases e0
  have HA := hide hA
  have HI := hide hi
  obtain ⟨nd, hnd⟩ : ∃ n, Hid (l.length = n) := ⟨_, hide rfl⟩
  have VF := hide (fun W (hb : Below w.heap.size w W) => find_c l (some ⟨p, 0, none⟩) c a _ id W (hlie.below hb) (by omega) (hA.below hb).box)
  rw [hf] at VF
  have hin : i < nd := by rw [← hnd.out]; exact hil
  obtain ⟨hm, hmm⟩ : ∃ hm, Hid (h.bs.length = hm) := ⟨_, hide rfl⟩
  have HX := hide (Has.new w 3 [.int .i64 (off : Nat)])
  have HB0 := hide ((Below.refl w.heap.size w).alloc (Nat.le_refl _) (.cells #[.int .i64 (off : Nat)] 3))
  have VD := hide (fun W (hb' : Below w.heap.size w W) (hx : Has W w.heap.size 3 [.int .i64 (off : Nat)]) => by
    obtain ⟨A2, c2, e2, -, hl2, -, -⟩ := own_lie (((hA.below hb').bks h (List.mem_of_getElem? hi)))
    cases e2
    have hgc := dropi_c h.bs h.A h.c (off : Int) w.heap.size W hl2 hbl hx.lt (hx.cell 0)
    rw [hs, hmm.out] at hgc
    exact hgc)
  obtain ⟨q, cq, eq, -⟩ := own_some (hA.bks h (List.mem_of_getElem? hi)) (by omega)
  have HQ : Hid (h.A = some ⟨q, 0, none⟩) := hide (by injection eq)
  have VP := hide (fun W (hb' : Below w.heap.size w W) => piece_c base a m h.off h.size off n h.id _ mem l W (hA.below hb') hmem hfit (by omega))
  have VC := hide (fun W (hb' : Below w.heap.size w W) ty c => clear_mem W m (h.off + off) n c mem ty (hA.below hb').bytes hn hfit)
  have HAL := hide hal
  have hp : Hid ((Value.slice (some ⟨p, 0, none⟩) l.length c).ownBlock = some p) := hide rfl
  have FIN := hide (fun (W : World) (hX : ArIn base W a m (.slice (some ⟨p, 0, none⟩) l.length c) (Ar.wipe mem (h.off + off) n) l) (hO : Off (Ar.bl a m (.slice (some ⟨p, 0, none⟩) l.length c) l) w W) (v' : Value) (w5 : World) (hrow : w5.ownsRow base 64 2 v' (h.bs.length - 1) ((h.bs.flatMap Bk.vals).take (at' * 2) ++ (h.bs.flatMap Bk.vals).drop ((at' + 1) * 2))) (hgr : W.grownBy w5 (Value.ownBlock (.slice h.A h.bs.length h.c))) (hat : v'.ownBlock = (Value.ownBlock (.slice h.A h.bs.length h.c))) =>
    show ∃ A' c', v' = .slice A' (h.bs.length - 1) c' ∧ w5.cell? ⟨p, i * 4 + 3, none⟩ = some (.slice h.A h.bs.length h.c) ∧ w5.frozen? ⟨p, i * 4 + 3, none⟩ = false ∧ Hid (Ar.Dropped base a m i at' off n (.slice (some ⟨p, 0, none⟩) l.length c) mem l h w (.returned (.bool true)) (w5.setCell ⟨p, i * 4 + 3, none⟩ v')) from by
      have hmem := List.mem_of_getElem? HI.out
      have hob : ∀ (A : Option Addr) (n c : Nat), (Value.slice A n c).ownBlock = A.map (·.block) := fun A n c => by cases A <;> rfl
      obtain ⟨A', c', hv', -⟩ := own_lie hrow
      subst hv'
      rw [hob] at hgr hat
      rw [hob] at hat
      obtain ⟨e1, -⟩ := flat_take Bk.vals 2 h.bs (fun _ _ => rfl) at' (by have := HAL.out; omega)
      obtain ⟨-, e2⟩ := flat_take Bk.vals 2 h.bs (fun _ _ => rfl) (at' + 1) (by have := HAL.out; omega)
      have eb : (h.bs.take at' ++ h.bs.drop (at' + 1)).length = h.bs.length - 1 := by
        rw [List.length_append, List.length_take, List.length_drop]; have := HAL.out; omega
      have ef : (h.bs.take at' ++ h.bs.drop (at' + 1)).flatMap Bk.vals = (h.bs.flatMap Bk.vals).take (at' * 2) ++ (h.bs.flatMap Bk.vals).drop ((at' + 1) * 2) := by
        rw [e1, e2, List.flatMap_append]
      rw [← eb, ← ef] at hrow
      obtain ⟨g1, g2, g3⟩ := hX.put HI.out hp.out hrow hgr (.inl hat)
      have hpl := (hX.lt p (by simp [Ar.bl, hp.out])).1
      have hne := hX.part_ne hmem hp.out
      obtain ⟨-, -, -, k3, k4⟩ := hX.cells HI.out
      have hbk := hgr.block p hpl (fun e => hne e.symm)
      rw [← eb]
      exact ⟨A', c', rfl, (World.cell?_of_block (a := ⟨p, i * 4 + 3, none⟩) hbk).trans k3, (World.frozen?_of_block (a := ⟨p, i * 4 + 3, none⟩) hbk).trans k4, hide ⟨A', c', rfl, g1, hO.trans g2 fun k hk => .inl hk, fun k hk => by
        rcases g3 k hk with h1 | h1
        · exact .inl h1
        · exact .inr (Nat.le_trans hO.size h1)⟩⟩)
  have VDL := hide (fun (W : World) (hX : ArIn base W a m (.slice (some ⟨p, 0, none⟩) l.length c) (Ar.wipe mem (h.off + off) n) l) => delblk_c (.slice h.A h.bs.length h.c) h.bs.length at' base (h.bs.flatMap Bk.vals) W (hX.bks h (List.mem_of_getElem? HI.out)) HAL.out hbl (by
    intro y hy
    obtain ⟨b, -, hh⟩ := List.mem_flatMap.1 hy
    simp [Bk.vals] at hh
    rcases hh with rfl | rfl <;> rfl))
  rw [hmm.out, HQ.out] at VDL FIN
  have VW := hide (fun (W : World) (hb : Below w.heap.size w W) => (((hA.below hb).wrote (Ar.wipe_len mem (h.off + off) n (by omega)))))
  have hw1 : IntKind.i64.wrap ((at' : Int) + 1) = (at' : Int) + 1 := by
    rw [IntKind.wrap_i64]; omega
  clear hlie hf hs hil hal hbl hA eq hi
  go_enter Tryd.func13, Tryd.ntmps13
  go_wp2_with fail
  refine (VF.out _ HB0.out).mono ?_
  rintro e w1 ⟨rfl, hb1⟩
  have HB1 := hide (HB0.out.trans (hb1.mono HB0.out.size))
  have HX1 := hide (HX.out.below hb1 HX.out.lt)
  have c1 : w1.cell? ⟨a, 1, none⟩ = some (.slice (some ⟨p, 0, none⟩) nd c) := by
    rw [← hnd.out]
    exact ((HA.out.below HB1.out).box).cell 1
  obtain ⟨-, -, -, d3, -⟩ := (HA.out.below HB1.out).cells HI.out
  rw [hmm.out] at d3
  have hni : ¬ ((i : Int) < 0) := by omega
  have hna : ¬ ((at' : Int) < 0) := by omega
  have HD := hide (VD.out w1 HB1.out HX1.out)
  clear VF hb1 VD HB0 HX
  go_wp2_with fail
  refine HD.out.mono ?_
  rintro e w2 ⟨rfl, hb2⟩
  have HB2 := hide (HB1.out.trans (hb2.mono HB1.out.size))
  have HX2 := hide (HX1.out.below hb2 HX1.out.lt)
  clear HD HB1 HX1 c1 d3 hb2
  obtain ⟨k0, k1, k2, k3, -⟩ := (HA.out.below HB2.out).cells HI.out
  rw [hmm.out, HQ.out] at k3
  have hbk := (HA.out.below HB2.out).bks h (List.mem_of_getElem? HI.out)
  rw [HQ.out] at hbk
  obtain ⟨-, n1⟩ := own_bk hbk hb
  dsimp only at n1
  have x0 : w2.cell? ⟨w.heap.size, 0, none⟩ = some (.int .i64 (off : Nat)) := HX2.out.cell 0
  have hlm : at' < hm := by rw [← hmm.out]; exact HAL.out
  have HH := hide hb
  clear hbk hb
  go_wp2_with fail
  go_region_law_o (first
    | (go_simp; go_at_call 29; refine (VP.out _ (by first | exact HB2.out | exact HB2.out.drew)).mono ?_; rintro e w3 ⟨rfl, hb3⟩; have HB3 : Hid (Below w.heap.size w w3) := hide (HB2.out.drew.trans (hb3.mono HB2.out.size)); have HX3 : Hid (Has w3 w.heap.size 3 [.int .i64 (off : Nat)]) := hide ((HX2.out.drewN 1).below hb3 HX2.out.lt); clear hb3)
    | (refine step_clear_runI rfl _ 35 rfl (.slice (some ⟨m, h.off + off, none⟩) n (mem.length - (h.off + off))) (by simp [Act.eval]) (VC.out _ HB3.out _ _) ?_))
  all_goals
  obtain ⟨hW, hWo⟩ := VW.out _ HB3.out
  have hO : Off (Ar.bl a m (.slice (some ⟨p, 0, none⟩) l.length c) l) w _ := (Off.of_below HB3.out).trans hWo (fun k hk => .inl (by simp [Ar.bl] at hk ⊢; exact .inr (.inl hk)))
  have HL := hide (VDL.out _ hW)
  have HF := hide (FIN.out _ hW hO)
  obtain ⟨-, -, -, k3, -⟩ := hW.cells HI.out
  rw [hmm.out, HQ.out] at k3
  generalize World.setRow _ m _ = W4 at hW hWo hO HL HF k3 ⊢
  clear hW hWo hO HX3
  go_wp2_with fail
  refine HL.out.mono ?_
  rintro e w5 ⟨v', rfl, hrow, hgr, hat⟩
  obtain ⟨A', c', rfl, e5, f5, HFN⟩ := HF.out v' w5 hrow hgr hat
  clear hrow hgr hat HL HF k3
  go_wp2_with fail
  go_ret
  exact HFN.out
end Go.Proofs.YtemaaipgjghlaaaDoor
