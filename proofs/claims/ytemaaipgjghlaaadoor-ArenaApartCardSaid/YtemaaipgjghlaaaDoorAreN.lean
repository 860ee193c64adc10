/-
  Arena.Take of a block that fits, walked. By an AI agent. No person has read it.
-/
import Derived.Test.YtemaaipgjghlaaaDoorAreM
import Derived.Test.YtemaaipgjghlaaaDoorAreJ
namespace Go.Proofs.YtemaaipgjghlaaaDoor
open Go.RowKit

/-- Behind Take of a block that fits. -/
def Ar.Taken (base a m i at' off n : Nat) (v : Value) (mem : List Nat) (l : List Hd) (h : Hd) (w : World) (e : Ending) (w' : World) : Prop :=
  ∃ A' c', e = .returned (.tuple #[.int .i64 (off : Nat), .nilIface]) ∧ ArIn base w' a m v mem (l.set i (h.put A' (h.bs.take at' ++ (off, n) :: h.bs.drop at') c')) ∧ Off (Ar.bl a m v l) w w' ∧ ∀ k ∈ Ar.bl a m v (l.set i (h.put A' (h.bs.take at' ++ (off, n) :: h.bs.drop at') c')), k ∈ Ar.bl a m v l ∨ w.heap.size ≤ k
theorem own_some {w : World} {base n s : Nat} {e : TypeId} {v : Value} {xs : List Value} (h : w.ownsRow base e s v n xs) (hn : 0 < n) : ∃ p c, v = .slice (some ⟨p, 0, none⟩) n c ∧ n ≤ c := by
  rcases h.2 with ⟨-, rfl⟩ | ⟨g, c, cur, rfl, -, -, h4, -⟩
  · omega
  · exact ⟨g, c, rfl, h4⟩
/-- A part's cells. -/
theorem ArIn.cells {base : Nat} {w : World} {a m p nd c i : Nat} {mem : List Nat} {l : List Hd} {h : Hd} (hA : ArIn base w a m (.slice (some ⟨p, 0, none⟩) nd c) mem l) (hi : l[i]? = some h) :
    w.cell? ⟨p, i * 4, none⟩ = some (.int .i64 h.id) ∧ w.cell? ⟨p, i * 4 + 1, none⟩ = some (.int .i64 (h.off : Nat)) ∧ w.cell? ⟨p, i * 4 + 2, none⟩ = some (.int .i64 (h.size : Nat)) ∧ w.cell? ⟨p, i * 4 + 3, none⟩ = some (.slice h.A h.bs.length h.c) ∧ w.frozen? ⟨p, i * 4 + 3, none⟩ = false := by
  rcases hA.row.2 with ⟨h1, -⟩ | ⟨g, c', cur, h1, -, h3, -, -, -, h7⟩
  · cases h1
  · cases h1
    have hl := (List.getElem?_eq_some_iff.1 hi).1
    have hc : ∀ (q : Nat) (x : Value), q < 4 → (Hd.vals h)[q]? = some x → w.cell? ⟨p, i * 4 + q, none⟩ = some x := fun q x hq hx => by
      rw [cell_of_row w p (i * 4 + q) cur _ (0, 0) h3, ← Array.getElem?_toList]
      have e := flat_at Hd.vals 4 l (fun _ _ => rfl) i h hi q hq
      rw [hx, ← h7, List.getElem?_take] at e
      split at e
      · exact e
      · cases e
    exact ⟨hc 0 _ (by decide) rfl, hc 1 _ (by decide) rfl, hc 2 _ (by decide) rfl, hc 3 _ (by decide) rfl, by simp [World.frozen?, h3]⟩

theorem ArIn.part_ne {base : Nat} {w : World} {a m p : Nat} {v : Value} {mem : List Nat} {l : List Hd} {h : Hd} (hA : ArIn base w a m v mem l) (hh : h ∈ l) (hp : v.ownBlock = some p) : h.A.map (·.block) ≠ some p := fun e => by
  have hd := hA.dis
  unfold Ar.bl at hd
  rw [hp] at hd
  simp only [Option.toList_some, List.singleton_append, List.nodup_cons] at hd
  exact hd.2.2.1 (List.mem_filterMap.2 ⟨h, hh, e⟩)

set_option maxRecDepth 100000 in
set_option maxHeartbeats 8000000 in
theorem take_ok (id : Int) (n : Nat) (base a m off at' i : Nat) (v : Value) (mem : List Nat) (l : List Hd) (h : Hd) (w : World) (hA : ArIn base w a m v mem l) (hl : l.length ≤ 1000) (hi : l[i]? = some h) (hf : Ar.find id 0 l = (i : Int)) (hn : 1 ≤ n) (hsz : h.size ≤ 1048576) (hfit : ∀ b ∈ h.bs, b.1 + b.2 ≤ h.size) (hbl : h.bs.length ≤ 1000000) (hbase : base ≤ w.heap.size)
    (hg : Ar.gap (n : Int) h.size 0 0 h.bs = (off, at', true)) (hat' : at' ≤ h.bs.length) :
    Calls Tryd.prog 11 #[.pointer (some ⟨a, 0, none⟩), .int .i64 id, .int .i64 (n : Nat)] w (Ar.Taken base a m i at' off n v mem l h w) := by
  have hn1 : ¬ ((n : Int) < 1) := by omega
  have hil := (List.getElem?_eq_some_iff.1 hi).1
  obtain ⟨p, c, rfl, hnc⟩ := own_some hA.row (by omega)
  obtain ⟨A, c0, e0, -, hlie, -, -⟩ := own_lie hA.row
  cases e0
  have HA := hide hA
  have HI := hide hi
  obtain ⟨nd, hnd⟩ : ∃ n, Hid (l.length = n) := ⟨_, hide rfl⟩
  have VF := hide (fun W (hb : Below w.heap.size w W) => find_c l (some ⟨p, 0, none⟩) c a _ id W (hlie.below hb) (by omega) (hA.below hb).box)
  rw [hf] at VF
  have hin : i < nd := by rw [← hnd.out]; exact hil
  have hp : Hid ((Value.slice (some ⟨p, 0, none⟩) l.length c).ownBlock = some p) := hide rfl
  obtain ⟨hm, hmm⟩ : ∃ hm, Hid (h.bs.length = hm) := ⟨_, hide rfl⟩
  have VG := hide (fun W (hb : Below w.heap.size w W) => by
    obtain ⟨A2, c2, e2, -, hl2, -, -⟩ := own_lie (((hA.below hb).bks h (List.mem_of_getElem? hi)))
    cases e2
    have hgc := gap_c h.bs h.A h.c (n : Int) h.size W hl2 hbl (fun b hb => by have := hfit b hb; omega) (by omega)
    rw [hg, hmm.out] at hgc
    exact hgc)
  clear hlie hf hfit hsz hg hil
  go_enter Tryd.func11, Tryd.ntmps11
  go_wp2_with fail
  refine (VF.out _ (Below.refl _ _)).mono ?_
  rintro e w1 ⟨rfl, hb⟩
  have HB1 := hide hb
  have c1 : w1.cell? ⟨a, 1, none⟩ = some (.slice (some ⟨p, 0, none⟩) nd c) := by
    rw [← hnd.out]
    exact ((HA.out.below HB1.out).box).cell 1
  obtain ⟨-, -, d2, d3, -⟩ := (HA.out.below HB1.out).cells HI.out
  rw [hmm.out] at d3
  have hni : ¬ ((i : Int) < 0) := by omega
  have VI := hide (fun (w2 : World) (hb : Below w.heap.size w w2) => insblk_c (.slice h.A h.bs.length h.c) h.bs.length at' base (h.bs.flatMap Bk.vals) [.int .i64 (off : Nat), .int .i64 (n : Nat)] w2.heap.size (w2.alloc (.cells #[.int .i64 (off : Nat), .int .i64 (n : Nat)] 64))
    ((((HA.out.below hb).below ((Below.refl _ _).alloc (Nat.le_refl _) _)).bks h (List.mem_of_getElem? HI.out))) hat' hbl (Has.new w2 64 [.int .i64 (off : Nat), .int .i64 (n : Nat)]) rfl
    (by intro y hy; simp at hy; rcases hy with rfl | rfl <;> rfl)
    (by
      intro y hy
      obtain ⟨b, -, hh⟩ := List.mem_flatMap.1 hy
      simp [Bk.vals] at hh
      rcases hh with rfl | rfl <;> rfl)
    (fun e => by have := own_lt (HA.out.bks h (List.mem_of_getElem? HI.out)) _ e; have := hb.size; omega) (by have := hb.size; simp; omega))
  have FIN := hide (fun (w2 : World) (hb : Below w.heap.size w w2) (v' : Value) (w5 : World) (hrow : w5.ownsRow base 64 2 v' (h.bs.length + 1) ((h.bs.flatMap Bk.vals).take (at' * 2) ++ [.int .i64 (off : Nat), .int .i64 (n : Nat)] ++ (h.bs.flatMap Bk.vals).drop (at' * 2))) (hgr : (w2.alloc (.cells #[.int .i64 (off : Nat), .int .i64 (n : Nat)] 64)).grownBy w5 (Value.ownBlock (.slice h.A h.bs.length h.c))) (hat : v'.ownBlock = (Value.ownBlock (.slice h.A h.bs.length h.c)) ∨ v'.ownBlock = some (w2.alloc (.cells #[.int .i64 (off : Nat), .int .i64 (n : Nat)] 64)).heap.size) =>
    show ∃ A' c', v' = .slice A' (h.bs.length + 1) c' ∧ w5.cell? ⟨p, i * 4 + 3, none⟩ = some (.slice h.A h.bs.length h.c) ∧ w5.frozen? ⟨p, i * 4 + 3, none⟩ = false ∧ Hid (Ar.Taken base a m i at' off n (.slice (some ⟨p, 0, none⟩) l.length c) mem l h w (.returned (.tuple #[.int .i64 (off : Nat), .nilIface])) (w5.setCell ⟨p, i * 4 + 3, none⟩ v')) from by
      have hbX := hb.alloc hb.size (.cells #[.int .i64 (off : Nat), .int .i64 (n : Nat)] 64)
      have hX := HA.out.below hbX
      have hmem := List.mem_of_getElem? HI.out
      have hob : ∀ (A : Option Addr) (n c : Nat), (Value.slice A n c).ownBlock = A.map (·.block) := fun A n c => by cases A <;> rfl
      obtain ⟨A', c', hv', -⟩ := own_lie hrow
      subst hv'
      rw [hob] at hgr hat
      rw [hob] at hat
      obtain ⟨e1, e2⟩ := flat_take Bk.vals 2 h.bs (fun _ _ => rfl) at' hat'
      have eb : (h.bs.take at' ++ (off, n) :: h.bs.drop at').length = h.bs.length + 1 := by
        rw [List.length_append, List.length_cons, List.length_take, List.length_drop]; omega
      have ef : (h.bs.take at' ++ (off, n) :: h.bs.drop at').flatMap Bk.vals = (h.bs.flatMap Bk.vals).take (at' * 2) ++ [.int .i64 (off : Nat), .int .i64 (n : Nat)] ++ (h.bs.flatMap Bk.vals).drop (at' * 2) := by
        rw [e1, e2, List.flatMap_append, List.flatMap_cons, List.append_assoc]; rfl
      rw [← eb, ← ef] at hrow
      obtain ⟨g1, g2, g3⟩ := hX.put HI.out hp.out hrow hgr hat
      have hpl := (hX.lt p (by simp [Ar.bl, hp.out])).1
      have hne := hX.part_ne hmem hp.out
      obtain ⟨-, -, -, k3, k4⟩ := hX.cells HI.out
      have hbk := hgr.block p hpl (fun e => hne e.symm)
      rw [← eb]
      exact ⟨A', c', rfl, (World.cell?_of_block (a := ⟨p, i * 4 + 3, none⟩) hbk).trans k3, (World.frozen?_of_block (a := ⟨p, i * 4 + 3, none⟩) hbk).trans k4, hide ⟨A', c', rfl, g1, (Off.of_below hbX).trans g2 fun k hk => .inl hk, fun k hk => by
        rcases g3 k hk with h1 | h1
        · exact .inl h1
        · exact .inr (Nat.le_trans hbX.size h1)⟩⟩)
  rw [hmm.out] at VI FIN
  clear VF hb
  go_wp2_with fail
  go_region_law (go_simp; go_at_call 23; refine (VG.out _ (by first | exact HB1.out | exact HB1.out.drew)).mono ?_; rintro e w2 ⟨rfl, hb2⟩; have HB2 : Hid (Below w.heap.size w w2) := hide ((HB1.out.drew).trans (hb2.mono HB1.out.size)); clear hb2)
  all_goals
  obtain ⟨-, -, -, k3, -⟩ := (HA.out.below HB2.out).cells HI.out
  rw [hmm.out] at k3
  have HI2 := hide (VI.out w2 HB2.out)
  have HF2 := hide (FIN.out w2 HB2.out)
  clear VI FIN VG
  go_wp2_with fail
  refine HI2.out.mono ?_
  rintro e w5 ⟨v', rfl, hrow, hgr, hat⟩
  obtain ⟨A', c', rfl, e5, f5, HFN⟩ := HF2.out v' w5 hrow hgr hat
  clear hrow hgr hat HI2 HF2 k3 c1 d2 d3
  go_wp2_with fail
  refine bodyPost_ret (results_two rfl _ _) rfl ?_
  exact HFN.out
end Go.Proofs.YtemaaipgjghlaaaDoor
