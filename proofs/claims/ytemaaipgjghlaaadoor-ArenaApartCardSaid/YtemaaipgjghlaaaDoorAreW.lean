/-
  Arena.Remove of a part that is there, and of none, walked. By an AI agent. No person has read it.
-/
import Derived.Test.YtemaaipgjghlaaaDoorAreV
namespace Go.Proofs.YtemaaipgjghlaaaDoor
open Go.RowKit

/-- Behind Remove of a part that is there. -/
def Ar.Removed (base a m i : Nat) (v : Value) (mem : List Nat) (l : List Hd) (h : Hd) (w : World) (e : Ending) (w' : World) : Prop :=
  ∃ v', e = .returned (.bool true) ∧ ArIn base w' a m v' (Ar.wipe mem h.off h.size) (l.take i ++ l.drop (i + 1)) ∧ Off (Ar.bl a m v l) w w' ∧ ∀ k ∈ Ar.bl a m v' (l.take i ++ l.drop (i + 1)), k ∈ Ar.bl a m v l

set_option maxRecDepth 100000 in
set_option maxHeartbeats 4000000 in
theorem remove_none (id : Int) (base a m : Nat) (v : Value) (mem : List Nat) (l : List Hd) (w : World) (hA : ArIn base w a m v mem l) (hl : l.length ≤ 1000) (hf : Ar.find id 0 l = -1) :
    Calls Tryd.prog 17 #[.pointer (some ⟨a, 0, none⟩), .int .i64 id] w fun e w' => e = .returned (.bool false) ∧ Below w.heap.size w w' := by
  obtain ⟨A, c, rfl, -, hlie, -, -⟩ := own_lie hA.row
  have VF := hide (fun W (hb : Below w.heap.size w W) => find_c l A c a _ id W (hlie.below hb) (by omega) (hA.below hb).box)
  rw [hf] at VF
  clear hA hlie hf
  go_enter Tryd.func17, Tryd.ntmps17
  go_wp2_with fail
  refine (VF.out _ (Below.refl _ _)).mono ?_
  rintro e w1 ⟨rfl, hb⟩
  have HB := hide hb
  clear VF hb
  go_wp2_with fail
  go_ret
  exact ⟨rfl, HB.out⟩

set_option maxRecDepth 100000 in
set_option maxHeartbeats 8000000 in
theorem remove_ok (id : Int) (base a m i : Nat) (v : Value) (mem : List Nat) (l : List Hd) (h : Hd) (w : World) (hA : ArIn base w a m v mem l) (hl : l.length ≤ 1000) (hmem : mem.length ≤ 1048576) (hi : l[i]? = some h) (hf : Ar.find id 0 l = (i : Int)) (hn : 1 ≤ h.size) (hfit : h.off + h.size ≤ mem.length) :
    Calls Tryd.prog 17 #[.pointer (some ⟨a, 0, none⟩), .int .i64 id] w (Ar.Removed base a m i v mem l h w) := by
  have mixed : Tryd.prog.follows Departure.mixedOrders = true := by kernel_rfl
  have hil := (List.getElem?_eq_some_iff.1 hi).1
  obtain ⟨p, c, rfl, hnc⟩ := own_some hA.row (by omega)
  obtain ⟨A, c0, e0, -, hlie, -, -⟩ := own_lie hA.row
  cases e0
  have HA := hide hA
  have HI := hide hi
  obtain ⟨nd, hnd⟩ : ∃ n, Hid (l.length = n) := ⟨_, hide rfl⟩
  have VF := hide (fun W (hb : Below w.heap.size w W) => find_c l (some ⟨p, 0, none⟩) c a _ id W (hlie.below hb) (by omega) (hA.below hb).box)
  rw [hf] at VF
  have hin : i < nd := by rw [← hnd.out]; exact hil
  have HIL := hide hil
  obtain ⟨M, hM⟩ : ∃ M, Hid (mem.length = M) := ⟨_, hide rfl⟩
  obtain ⟨o, ho⟩ : ∃ o, Hid (h.off = o) := ⟨_, hide rfl⟩
  obtain ⟨s, hs⟩ : ∃ s, Hid (h.size = s) := ⟨_, hide rfl⟩
  have VC := hide (fun W (hb' : Below w.heap.size w W) ty c => clear_mem W m h.off h.size c mem ty (hA.below hb').bytes hn hfit)
  have VW := hide (fun (W : World) (hb : Below w.heap.size w W) => (((hA.below hb).wrote (Ar.wipe_len mem h.off h.size (by omega)))))
  have FIN := hide (fun (W : World) (hX : ArIn base W a m (.slice (some ⟨p, 0, none⟩) l.length c) (Ar.wipe mem h.off h.size) l) (hO : Off (Ar.bl a m (.slice (some ⟨p, 0, none⟩) l.length c) l) w W) (v' : Value) (w5 : World) (hrow : w5.ownsRow base 62 4 v' (l.length - 1) ((l.flatMap Hd.vals).take (i * 4) ++ (l.flatMap Hd.vals).drop ((i + 1) * 4))) (hgr : W.grownBy w5 (Value.ownBlock (.slice (some ⟨p, 0, none⟩) l.length c))) (hat : v'.ownBlock = (Value.ownBlock (.slice (some ⟨p, 0, none⟩) l.length c))) =>
    show ∃ A' c', v' = .slice A' (l.length - 1) c' ∧ w5.cell? ⟨a, 1, none⟩ = some (.slice (some ⟨p, 0, none⟩) l.length c) ∧ w5.frozen? ⟨a, 1, none⟩ = false ∧ Hid (Ar.Removed base a m i (.slice (some ⟨p, 0, none⟩) l.length c) mem l h w (.returned (.bool true)) (w5.setCell ⟨a, 1, none⟩ v')) from by
      obtain ⟨A', c', hv', -⟩ := own_lie hrow
      subst hv'
      have hav := hX.box.grown hgr (fun e => by
        have hd := hX.dis
        unfold Ar.bl at hd
        rw [← e] at hd
        simp at hd)
      obtain ⟨g1, g2, g3⟩ := hX.removed HIL.out hrow hgr hat
      exact ⟨A', c', rfl, hav.cell 1, by simp [World.frozen?, show w5.heap[a]? = _ from hav], hide ⟨_, rfl, g1, hO.trans g2 fun k hk => .inl hk, g3⟩⟩)
  have VDL := hide (fun (W : World) (hX : ArIn base W a m (.slice (some ⟨p, 0, none⟩) l.length c) (Ar.wipe mem h.off h.size) l) => delhold_c (.slice (some ⟨p, 0, none⟩) l.length c) l.length i base (l.flatMap Hd.vals) W hX.row HIL.out (by omega) (by
    intro y hy
    obtain ⟨h, -, hh⟩ := List.mem_flatMap.1 hy
    simp [Hd.vals] at hh
    rcases hh with rfl | rfl | rfl | rfl <;> rfl))
  rw [hnd.out] at VDL FIN
  rw [ho.out, hs.out] at VC VW VDL FIN
  rw [ho.out, hs.out, hM.out] at hfit
  rw [hs.out] at hn
  rw [hM.out] at hmem
  have hw1 : IntKind.i64.wrap ((i : Int) + 1) = (i : Int) + 1 := by
    rw [IntKind.wrap_i64]; omega
  have hw2 : IntKind.i64.wrap ((o : Int) + (s : Int)) = (o : Int) + (s : Int) := by rw [IntKind.wrap_i64]; omega
  have h2 : ((o : Int) + (s : Int)).toNat = o + s := by omega
  have h4 : (o : Int) + (s : Int) ≤ (M : Int) := by omega
  have h5 : (o : Int) ≤ (o : Int) + (s : Int) := by omega
  have h6 : ¬ (M = o) := by omega
  have h7 : o + s - o = s := by omega
  have hni : ¬ ((i : Int) < 0) := by omega
  clear hlie hf hil hA hi
  go_enter Tryd.func17, Tryd.ntmps17
  go_wp2_with fail
  refine (VF.out _ (Below.refl _ _)).mono ?_
  rintro e w1 ⟨rfl, hb1⟩
  have HB1 := hide hb1
  have c1 : w1.cell? ⟨a, 1, none⟩ = some (.slice (some ⟨p, 0, none⟩) nd c) := by
    rw [← hnd.out]
    exact ((HA.out.below HB1.out).box).cell 1
  obtain ⟨k0, k1, k2, k3, -⟩ := (HA.out.below HB1.out).cells HI.out
  rw [ho.out] at k1
  rw [hs.out] at k2
  have HB2 := hide (HB1.out.alloc HB1.out.size (.cells #[.int .i64 h.id, .int .i64 (o : Nat), .int .i64 (s : Nat), .slice h.A h.bs.length h.c] 62))
  have HX2 := hide (Has.new w1 62 [.int .i64 h.id, .int .i64 (o : Nat), .int .i64 (s : Nat), .slice h.A h.bs.length h.c])
  obtain ⟨W2, hW2⟩ : ∃ W2, Hid (W2 = w1.alloc (.cells #[.int .i64 h.id, .int .i64 (o : Nat), .int .i64 (s : Nat), .slice h.A h.bs.length h.c] 62)) := ⟨_, hide rfl⟩
  clear VF hb1
  go_wp2_with fail
  rw [← hW2.out]
  rw [← hW2.out] at HB2 HX2
  clear c1 k0 k1 k2 k3
  have c0 : W2.cell? ⟨a, 0, none⟩ = some (.slice (some ⟨m, 0, none⟩) M M) := by
    rw [← hM.out]
    exact ((HA.out.below HB2.out).box).cell 0
  have x1 : W2.cell? ⟨w1.heap.size, 1, none⟩ = some (.int .i64 (o : Nat)) := HX2.out.cell 1
  have x2 : W2.cell? ⟨w1.heap.size, 2, none⟩ = some (.int .i64 (s : Nat)) := HX2.out.cell 2
  go_region_law_o (refine step_clear_runI rfl _ 35 rfl (.slice (some ⟨m, o, none⟩) s (M - o)) (by simp [Act.eval, Act.put]) (VC.out _ HB2.out.drew _ _) ?_)
  all_goals
  obtain ⟨hW, hWo⟩ := VW.out _ HB2.out.drew
  have hO : Off (Ar.bl a m (.slice (some ⟨p, 0, none⟩) l.length c) l) w _ := (Off.of_below HB2.out.drew).trans hWo (fun k hk => .inl (by simp [Ar.bl] at hk ⊢; exact .inr (.inl hk)))
  rw [hnd.out] at hO
  have HL := hide (VDL.out _ (by rw [← hnd.out]; exact hW))
  have HF := hide (FIN.out _ (by rw [← hnd.out]; exact hW) hO)
  have c1 := hW.box.cell 1
  rw [hnd.out] at c1
  generalize World.setRow _ m _ = W4 at hW hWo hO HL HF c1 ⊢
  clear hW hWo hO c0 x1 x2 HX2
  go_wp2_with fail
  refine HL.out.mono ?_
  rintro e w5 ⟨v', rfl, hrow, hgr, hat⟩
  obtain ⟨A', c', rfl, e5, f5, HFN⟩ := HF.out v' w5 hrow hgr hat
  clear hrow hgr hat HL HF c1
  go_wp2_with fail
  go_ret
  exact HFN.out
end Go.Proofs.YtemaaipgjghlaaaDoor
