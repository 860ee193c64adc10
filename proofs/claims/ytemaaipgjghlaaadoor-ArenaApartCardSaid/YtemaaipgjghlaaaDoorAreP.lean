/-
  slices.IndexFunc with the closure of Arena.Drop, walked. By an AI agent. No person has read it.
-/
import Derived.Test.YtemaaipgjghlaaaDoorAreF
namespace Go.Proofs.YtemaaipgjghlaaaDoor
open Go.RowKit

/-- Where the block that begins at a place stands; -1, if there is none. -/
def Ar.spot (id : Int) : Nat → List (Nat × Nat) → Int
  | _, [] => -1
  | i, h :: l => if (h.1 : Int) = id then (i : Int) else Ar.spot id (i + 1) l

set_option maxRecDepth 100000 in
set_option maxHeartbeats 4000000 in
theorem dropp_c (h : Nat × Nat) (id : Int) (B : Nat) (w : World) (hB : B < w.heap.size) (hc : w.cell? ⟨B, 0, none⟩ = some (.int .i64 id)) :
    Calls Tryd.prog 28 #[.agg #[.int .i64 (h.1 : Nat), .int .i64 (h.2 : Nat)], .pointer (some ⟨B, 0, none⟩)] w fun e w' => e = .returned (.bool (decide ((h.1 : Int) = id))) ∧ Below w.heap.size w w' := by
  obtain ⟨hid, ho⟩ := h
  have hne : B ≠ w.heap.size := by omega
  dsimp only
  have hq : ((hid : Int) == id) = decide ((hid : Int) = id) := rfl
  have HB := hide ((Below.refl w.heap.size w).alloc (Nat.le_refl _) (.cells #[.int .i64 (hid : Nat), .int .i64 (ho : Nat)] 64))
  go_enter Tryd.func28, Tryd.ntmps28
  go_wp2_with fail
  go_ret
  exact ⟨rfl, HB.out⟩

set_option maxRecDepth 100000 in
set_option maxHeartbeats 4000000 in
theorem dropi_c (l : List (Nat × Nat)) (A : Option Addr) (cap : Nat) (id : Int) (B : Nat) (w : World) (hR : Lie w A (l.flatMap Bk.vals)) (hl : l.length ≤ 1000000) (hB : B < w.heap.size) (hc : w.cell? ⟨B, 0, none⟩ = some (.int .i64 id)) :
    Calls Tryd.prog 27 #[.slice A l.length cap, .func (.func 28) #[] #[.pointer (some ⟨B, 0, none⟩)]] w fun e w' => e = .returned (.int .i64 (Ar.spot id 0 l)) ∧ Below w.heap.size w w' := by
  have eg : ∀ args w, (callFunc 28 args).run Tryd.prog w = .ok (.enter 28 args) w := enters_of Tryd.func28 (by kernel_rfl) rfl
  have HR := hide hR
  have HC := hide (fun (W : World) (hb : Below w.heap.size w W) => show B < W.heap.size ∧ W.cell? ⟨B, 0, none⟩ = some (.int .i64 id) from ⟨Nat.lt_of_lt_of_le hB hb.size, (hb.cell (p := ⟨B, 0, none⟩) hB).trans hc⟩)
  obtain ⟨nd, hnd⟩ : ∃ n, Hid (l.length = n) := ⟨_, hide rfl⟩
  obtain ⟨G, hG⟩ : ∃ G, Hid (Ar.spot id 0 l = G) := ⟨_, hide rfl⟩
  rw [hG.out]
  rw [hnd.out] at hl ⊢
  clear hR hB hc
  go_enter Tryd.func27, Tryd.ntmps27
  go_wp2_with fail
  go_loopw [5, 8] (fun _ k wr => ∃ i : Nat, i ≤ nd ∧ k = .int .i64 i ∧ Hid (Below w.heap.size w wr) ∧ Hid (Ar.spot id i (l.drop i) = G)) (fun _ k _ => nd - (intOf k).toNat)
  case atStart => exact ⟨0, by omega, rfl, hide (Below.refl _ _), hide hG.out⟩
  case round =>
    obtain ⟨i, hi, rfl, HB, HK⟩ := hrel
    by_cases hlt : i < nd
    · obtain ⟨ad, b, hBad, had, hd, c0, c1⟩ := lie_bk (HR.out.below HB.out) i (by rw [hnd.out]; exact hlt)
      subst hBad
      have hdr : l.drop i = b :: l.drop (i + 1) := by
        obtain ⟨h1, h2⟩ := List.getElem?_eq_some_iff.1 hd.out
        rw [List.drop_eq_getElem_cons h1, h2]
      have hk := HK.out
      rw [hdr, Ar.spot] at hk
      have HP := hide (dropp_c b id B wr (HC.out wr HB.out).1 (HC.out wr HB.out).2)
      clear had HK hdr
      by_cases hs : (b.1 : Int) = id
      · rw [if_pos hs] at hk
        rw [decide_eq_true hs] at HP
        have HKf := hide hk
        clear hk hs
        go_wp2_with (go_at_fn 28; refine HP.out.mono ?_; rintro e w' ⟨rfl, hb'⟩)
        go_ret
        rw [← HKf.out]
        exact ⟨rfl, HB.out.trans (hb'.mono HB.out.size)⟩
      · rw [if_neg hs] at hk
        rw [decide_eq_false hs] at HP
        have HKf := hide hk
        clear hk hs
        go_wp2_with (go_at_fn 28; refine HP.out.mono ?_; rintro e w' ⟨rfl, hb'⟩)
        go_roundw
        case rel => exact ⟨i + 1, by omega, by go_num, hide (HB.out.trans (hb'.mono HB.out.size)), HKf⟩
        case measure => simp [intOf]; omega
    · obtain rfl : i = nd := by omega
      have hk := HK.out
      rw [List.drop_eq_nil_of_le (by rw [hnd.out]; omega), Ar.spot] at hk
      have HKf := hide hk
      clear HK hlt hi hk
      go_wp2_with fail
      go_ret
      rw [← HKf.out]
      exact ⟨rfl, HB.out⟩

end Go.Proofs.YtemaaipgjghlaaaDoor
