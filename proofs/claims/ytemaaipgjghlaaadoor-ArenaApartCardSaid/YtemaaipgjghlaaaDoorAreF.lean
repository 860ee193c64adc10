/-
  Arena.find, walked: where among the parts the one of an id stands. By an AI agent. No person has read it.
-/
import Derived.Test.YtemaaipgjghlaaaDoorAreA
import Derived.Shelf.GgClosure.Gives
namespace Go.Proofs.YtemaaipgjghlaaaDoor
open Go.RowKit

/-- A part with its blocks, as its four cells. -/
structure Hd where
  id : Int
  off : Nat
  size : Nat
  A : Option Addr
  bs : List (Nat × Nat)
  c : Nat
def Hd.vals (h : Hd) : List Value := [.int .i64 h.id, .int .i64 (h.off : Nat), .int .i64 (h.size : Nat), .slice h.A h.bs.length h.c]
theorem lie_hd {w : World} {A : Option Addr} {l : List Hd} (h : Lie w A (l.flatMap Hd.vals)) (i : Nat) (hi : i < l.length) : ∃ ad b, A = some ad ∧ ad.block < w.heap.size ∧ Hid (l[i]? = some b) ∧
    w.cell? (ad.add (i * 4)) = some (.int .i64 b.id) ∧ w.cell? ⟨(ad.add (i * 4)).block, (ad.add (i * 4)).off + 1, none⟩ = some (.int .i64 (b.off : Nat)) ∧ w.cell? ⟨(ad.add (i * 4)).block, (ad.add (i * 4)).off + 2, none⟩ = some (.int .i64 (b.size : Nat)) ∧ w.cell? ⟨(ad.add (i * 4)).block, (ad.add (i * 4)).off + 3, none⟩ = some (.slice b.A b.bs.length b.c) := by
  have hne : l.flatMap Hd.vals ≠ [] := fun hc => by
    have := flat_len Hd.vals 4 l (fun _ _ => rfl)
    rw [hc] at this
    simp at this
    omega
  obtain ⟨ad, h1, h2, h3⟩ := h hne
  have ht := List.getElem?_eq_getElem hi
  exact ⟨ad, l[i], h1, h2, hide ht, h3 (i * 4) _ (by rw [← Nat.add_zero (i * 4), flat_at Hd.vals 4 l (fun _ _ => rfl) i _ ht 0 (by decide)]; rfl), by rw [← add_more ad (i * 4) 0]; exact h3 (i * 4 + 1) _ (by rw [flat_at Hd.vals 4 l (fun _ _ => rfl) i _ ht 1 (by decide)]; rfl), by rw [← add_more ad (i * 4) 1]; exact h3 (i * 4 + 2) _ (by rw [flat_at Hd.vals 4 l (fun _ _ => rfl) i _ ht 2 (by decide)]; rfl), by rw [← add_more ad (i * 4) 2]; exact h3 (i * 4 + 3) _ (by rw [flat_at Hd.vals 4 l (fun _ _ => rfl) i _ ht 3 (by decide)]; rfl)⟩
/-- Where the one of an id stands; -1, if there is none. -/
def Ar.find (id : Int) : Nat → List Hd → Int
  | _, [] => -1
  | i, h :: l => if h.id = id then (i : Int) else Ar.find id (i + 1) l

set_option maxRecDepth 100000 in
set_option maxHeartbeats 4000000 in
theorem findp_c (h : Hd) (id : Int) (B : Nat) (w : World) (hB : B < w.heap.size) (hc : w.cell? ⟨B, 0, none⟩ = some (.int .i64 id)) :
    Calls Tryd.prog 38 #[.agg #[.int .i64 h.id, .int .i64 (h.off : Nat), .int .i64 (h.size : Nat), .slice h.A h.bs.length h.c], .pointer (some ⟨B, 0, none⟩)] w fun e w' => e = .returned (.bool (decide (h.id = id))) ∧ Below w.heap.size w w' := by
  obtain ⟨hid, ho, hs, hA, hbs, hcc⟩ := h
  have hne : B ≠ w.heap.size := by omega
  dsimp only
  generalize hbs.length = hn
  have hq : (hid == id) = decide (hid = id) := rfl
  have HB := hide ((Below.refl w.heap.size w).alloc (Nat.le_refl _) (.cells #[.int .i64 hid, .int .i64 (ho : Nat), .int .i64 (hs : Nat), .slice hA hn hcc] 62))
  go_enter Tryd.func38, Tryd.ntmps38
  go_wp2_with fail
  go_ret
  exact ⟨rfl, HB.out⟩

set_option maxRecDepth 100000 in
set_option maxHeartbeats 4000000 in
theorem findi_c (l : List Hd) (A : Option Addr) (cap : Nat) (id : Int) (B : Nat) (w : World) (hR : Lie w A (l.flatMap Hd.vals)) (hl : l.length ≤ 1000000) (hB : B < w.heap.size) (hc : w.cell? ⟨B, 0, none⟩ = some (.int .i64 id)) :
    Calls Tryd.prog 37 #[.slice A l.length cap, .func (.func 38) #[] #[.pointer (some ⟨B, 0, none⟩)]] w fun e w' => e = .returned (.int .i64 (Ar.find id 0 l)) ∧ Below w.heap.size w w' := by
  have eg : ∀ args w, (callFunc 38 args).run Tryd.prog w = .ok (.enter 38 args) w := enters_of Tryd.func38 (by kernel_rfl) rfl
  have HR := hide hR
  have HC := hide (fun (W : World) (hb : Below w.heap.size w W) => show B < W.heap.size ∧ W.cell? ⟨B, 0, none⟩ = some (.int .i64 id) from ⟨Nat.lt_of_lt_of_le hB hb.size, (hb.cell (p := ⟨B, 0, none⟩) hB).trans hc⟩)
  obtain ⟨nd, hnd⟩ : ∃ n, Hid (l.length = n) := ⟨_, hide rfl⟩
  obtain ⟨G, hG⟩ : ∃ G, Hid (Ar.find id 0 l = G) := ⟨_, hide rfl⟩
  rw [hG.out]
  rw [hnd.out] at hl ⊢
  clear hR hB hc
  go_enter Tryd.func37, Tryd.ntmps37
  go_wp2_with fail
  go_loopw [5, 8] (fun _ k wr => ∃ i : Nat, i ≤ nd ∧ k = .int .i64 i ∧ Hid (Below w.heap.size w wr) ∧ Hid (Ar.find id i (l.drop i) = G)) (fun _ k _ => nd - (intOf k).toNat)
  case atStart => exact ⟨0, by omega, rfl, hide (Below.refl _ _), hide hG.out⟩
  case round =>
    obtain ⟨i, hi, rfl, HB, HK⟩ := hrel
    by_cases hlt : i < nd
    · obtain ⟨ad, b, hBad, had, hd, c0, c1, c2, c3⟩ := lie_hd (HR.out.below HB.out) i (by rw [hnd.out]; exact hlt)
      subst hBad
      have hdr : l.drop i = b :: l.drop (i + 1) := by
        obtain ⟨h1, h2⟩ := List.getElem?_eq_some_iff.1 hd.out
        rw [List.drop_eq_getElem_cons h1, h2]
      have hk := HK.out
      rw [hdr, Ar.find] at hk
      have HP := hide (findp_c b id B wr (HC.out wr HB.out).1 (HC.out wr HB.out).2)
      clear had HK hdr
      by_cases hs : b.id = id
      · rw [if_pos hs] at hk
        rw [decide_eq_true hs] at HP
        have HKf := hide hk
        clear hk hs
        go_wp2_with (go_at_fn 38; refine HP.out.mono ?_; rintro e w' ⟨rfl, hb'⟩)
        go_ret
        rw [← HKf.out]
        exact ⟨rfl, HB.out.trans (hb'.mono HB.out.size)⟩
      · rw [if_neg hs] at hk
        rw [decide_eq_false hs] at HP
        have HKf := hide hk
        clear hk hs
        go_wp2_with (go_at_fn 38; refine HP.out.mono ?_; rintro e w' ⟨rfl, hb'⟩)
        go_roundw
        case rel => exact ⟨i + 1, by omega, by go_num, hide (HB.out.trans (hb'.mono HB.out.size)), HKf⟩
        case measure => simp [intOf]; omega
    · obtain rfl : i = nd := by omega
      have hk := HK.out
      rw [List.drop_eq_nil_of_le (by rw [hnd.out]; omega), Ar.find] at hk
      have HKf := hide hk
      clear HK hlt hi hk
      go_wp2_with fail
      go_ret
      rw [← HKf.out]
      exact ⟨rfl, HB.out⟩

set_option maxRecDepth 100000 in
set_option maxHeartbeats 4000000 in
theorem find_c (l : List Hd) (A : Option Addr) (cap a : Nat) (M : Value) (id : Int) (w : World) (hR : Lie w A (l.flatMap Hd.vals)) (hl : l.length ≤ 1000000) (ha : Has w a 59 [M, .slice A l.length cap]) :
    Calls Tryd.prog 22 #[.pointer (some ⟨a, 0, none⟩), .int .i64 id] w fun e w' => e = .returned (.int .i64 (Ar.find id 0 l)) ∧ Below w.heap.size w w' := by
  have hal := ha.lt
  have hne : a ≠ w.heap.size := by omega
  have c1 : w.cell? ⟨a, 1, none⟩ = some (.slice A l.length cap) := ha.cell 1
  have c1' : (w.alloc (.cells #[.int .i64 id] 3)).cell? ⟨a, 1, none⟩ = some (.slice A l.length cap) := (ha.alloc _).cell 1
  have HB := hide ((Below.refl w.heap.size w).alloc (Nat.le_refl _) (.cells #[.int .i64 id] 3))
  have HP := hide (findi_c l A cap id w.heap.size (w.alloc (.cells #[.int .i64 id] 3)) (hR.below (HB.out)) hl (by simp) (by simp))
  go_enter Tryd.func22, Tryd.ntmps22
  go_wp2_with fail
  refine HP.out.mono ?_
  rintro e w' ⟨rfl, hb'⟩
  go_wp2_with fail
  go_ret
  exact ⟨rfl, HB.out.trans (hb'.mono HB.out.size)⟩
end Go.Proofs.YtemaaipgjghlaaaDoor
