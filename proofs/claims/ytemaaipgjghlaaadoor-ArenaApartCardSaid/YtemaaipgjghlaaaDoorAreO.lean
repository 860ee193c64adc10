/-
  Arena.Take that is refused, walked. By an AI agent. No person has read it.
-/
import Derived.Test.YtemaaipgjghlaaaDoorAreN
namespace Go.Proofs.YtemaaipgjghlaaaDoor
open Go.RowKit

/-- No place, but an error. -/
def Ar.Not (ar : Addr) (w : World) (e : Ending) (w' : World) : Prop := e = .returned (.tuple #[.int .i64 0, errv ar]) ∧ Below w.heap.size w w'

set_option maxRecDepth 100000 in
set_option maxHeartbeats 8000000 in
theorem take_none (id n : Int) (base a m : Nat) (v : Value) (mem : List Nat) (l : List Hd) (ar : Addr) (w : World) (hA : ArIn base w a m v mem l) (hl : l.length ≤ 1000) (hf : Ar.find id 0 l < 0) (hE : ErrIs w 2 ar) :
    Calls Tryd.prog 11 #[.pointer (some ⟨a, 0, none⟩), .int .i64 id, .int .i64 n] w (Ar.Not ar w) := by
  obtain ⟨A, c, rfl, -, hlie, -, -⟩ := own_lie hA.row
  have HE := hide hE
  have VF := hide (find_c l A c a _ id w hlie (by omega) hA.box)
  obtain ⟨F, hF⟩ : ∃ F, Hid (Ar.find id 0 l = F) := ⟨_, hide rfl⟩
  rw [hF.out] at VF hf
  clear hE hlie hA
  go_enter Tryd.func11, Tryd.ntmps11
  go_wp2_with fail
  refine VF.out.mono ?_
  rintro e w1 ⟨rfl, hb⟩
  have HB := hide hb
  clear VF hb
  have hs5 : w1.drew.cell? ⟨2, 0, none⟩ = some (errv ar) := (HE.out.below HB.out).1
  have hglt : 2 < w.heap.size := HE.out.2.1
  go_wp2_with fail
  go_region_held3 (fun W => W.cell? ⟨2, 0, none⟩ = some (errv ar))
    (first | exact hs5 | assumption)
    (first | fail)
  go_wp2_with fail
  refine bodyPost_ret (results_two rfl _ _) rfl ?_
  exact ⟨rfl, HB.out.drew⟩

set_option maxRecDepth 100000 in
set_option maxHeartbeats 8000000 in
theorem take_small (id n : Int) (base a m : Nat) (v : Value) (mem : List Nat) (l : List Hd) (ar : Addr) (w : World) (hA : ArIn base w a m v mem l) (hl : l.length ≤ 1000) (hf : 0 ≤ Ar.find id 0 l) (hn : n < 1) (hE : ErrIs w 0 ar) :
    Calls Tryd.prog 11 #[.pointer (some ⟨a, 0, none⟩), .int .i64 id, .int .i64 n] w (Ar.Not ar w) := by
  obtain ⟨A, c, rfl, -, hlie, -, -⟩ := own_lie hA.row
  have HE := hide hE
  have VF := hide (find_c l A c a _ id w hlie (by omega) hA.box)
  obtain ⟨F, hF⟩ : ∃ F, Hid (Ar.find id 0 l = F) := ⟨_, hide rfl⟩
  rw [hF.out] at VF hf
  have hf1 : ¬ (F < 0) := by omega
  clear hE hlie hA
  go_enter Tryd.func11, Tryd.ntmps11
  go_wp2_with fail
  refine VF.out.mono ?_
  rintro e w1 ⟨rfl, hb⟩
  have HB := hide hb
  clear VF hb
  have hs5 : w1.drew.cell? ⟨0, 0, none⟩ = some (errv ar) := (HE.out.below HB.out).1
  have hglt : 0 < w.heap.size := HE.out.2.1
  go_wp2_with fail
  go_region_held3 (fun W => W.cell? ⟨0, 0, none⟩ = some (errv ar))
    (first | exact hs5 | assumption)
    (first | fail)
  go_wp2_with fail
  refine bodyPost_ret (results_two rfl _ _) rfl ?_
  exact ⟨rfl, HB.out.drew⟩

set_option maxRecDepth 100000 in
set_option maxHeartbeats 8000000 in
theorem take_full (id : Int) (n : Nat) (base a m off at' i : Nat) (v : Value) (mem : List Nat) (l : List Hd) (h : Hd) (w : World) (hA : ArIn base w a m v mem l) (hl : l.length ≤ 1000) (hi : l[i]? = some h) (hf : Ar.find id 0 l = (i : Int)) (hn : 1 ≤ n) (hsz : h.size ≤ 1048576) (hfit : ∀ b ∈ h.bs, b.1 + b.2 ≤ h.size) (hbl : h.bs.length ≤ 1000000)
    (hg : Ar.gap (n : Int) h.size 0 0 h.bs = (off, at', false)) (ar : Addr) (hE : ErrIs w 1 ar) :
    Calls Tryd.prog 11 #[.pointer (some ⟨a, 0, none⟩), .int .i64 id, .int .i64 (n : Nat)] w (Ar.Not ar w) := by
  have HE := hide hE
  have hn1 : ¬ ((n : Int) < 1) := by omega
  have hil := (List.getElem?_eq_some_iff.1 hi).1
  obtain ⟨p, c, rfl, hnc⟩ := own_some hA.row (by omega)
  obtain ⟨A, c0, e0, -, hlie, -, -⟩ := own_lie hA.row
  cases e0
  have HA := hide hA
  have HI := hide hi
  obtain ⟨nd, hnd⟩ : ∃ n, Hid (l.length = n) := ⟨_, hide rfl⟩
  have VF := hide (fun W (hb : Below w.heap.size w W) => find_c l (some ⟨p, 0, none⟩) c a _ id W (hlie.below hb) (by omega) (hA.below hb).box)
  rw [hf] at VF
  have hin : i < nd := by rw [← hnd.out]; exact hil
  obtain ⟨hm, hmm⟩ : ∃ hm, Hid (h.bs.length = hm) := ⟨_, hide rfl⟩
  have VG := hide (fun W (hb : Below w.heap.size w W) => by
    obtain ⟨A2, c2, e2, -, hl2, -, -⟩ := own_lie (((hA.below hb).bks h (List.mem_of_getElem? hi)))
    cases e2
    have hgc := gap_c h.bs h.A h.c (n : Int) h.size W hl2 hbl (fun b hb => by have := hfit b hb; omega) (by omega)
    rw [hg, hmm.out] at hgc
    exact hgc)
  clear hlie hf hfit hsz hg hil hE
  go_enter Tryd.func11, Tryd.ntmps11
  go_wp2_with fail
  refine (VF.out _ (Below.refl _ _)).mono ?_
  rintro e w1 ⟨rfl, hb⟩
  have HB1 := hide hb
  have c1 : w1.cell? ⟨a, 1, none⟩ = some (.slice (some ⟨p, 0, none⟩) nd c) := by
    rw [← hnd.out]
    exact ((HA.out.below HB1.out).box).cell 1
  obtain ⟨-, -, d2, d3, -⟩ := (HA.out.below HB1.out).cells HI.out
  rw [hmm.out] at d3
  have hni : ¬ ((i : Int) < 0) := by omega
  clear VF hb
  go_wp2_with fail
  go_region_law (go_simp; go_at_call 23; refine (VG.out _ (by first | exact HB1.out | exact HB1.out.drew)).mono ?_; rintro e w2 ⟨rfl, hb2⟩; have HB : Hid (Below w.heap.size w w2) := hide ((HB1.out.drew).trans (hb2.mono HB1.out.size)); clear hb2)
  all_goals
  clear VG c1 d2 d3
  have hs5 : w2.drew.cell? ⟨1, 0, none⟩ = some (errv ar) := (HE.out.below HB.out).1
  have hglt : 1 < w.heap.size := HE.out.2.1
  go_wp2_with fail
  go_region_held3 (fun W => W.cell? ⟨1, 0, none⟩ = some (errv ar))
    (first | exact hs5 | assumption)
    (first | fail)
  go_wp2_with fail
  refine bodyPost_ret (results_two rfl _ _) rfl ?_
  exact ⟨rfl, HB.out.drew⟩
end Go.Proofs.YtemaaipgjghlaaaDoor
