/-
  arena.gap, walked: the least place at which so many bytes lie over none of what is taken. By an AI agent. No person has read it.
-/
import Derived.Test.YtemaaipgjghlaaaDoorBasD
namespace Go.Proofs.YtemaaipgjghlaaaDoor
open Go.RowKit

/-- What lies from an address on. -/
def Lie (w : World) (A : Option Addr) (xs : List Value) : Prop := xs ≠ [] → ∃ ad, A = some ad ∧ ad.block < w.heap.size ∧ ∀ (j : Nat) (x : Value), xs[j]? = some x → w.cell? (ad.add j) = some x
theorem Lie.below {w w' : World} {A : Option Addr} {xs : List Value} (h : Lie w A xs) (hb : Below w.heap.size w w') : Lie w' A xs := fun hx => by
  obtain ⟨ad, e, h1, h2⟩ := h hx
  exact ⟨ad, e, Nat.lt_of_lt_of_le h1 hb.size, fun j x hj => (hb.cell (p := ad.add j) (by rw [ad_block]; exact h1)).trans (h2 j x hj)⟩
theorem Lie.nil (w : World) (A : Option Addr) : Lie w A [] := fun h => absurd rfl h
theorem flat_len {α : Type} (f : α → List Value) (n : Nat) (ts : List α) (hf : ∀ t ∈ ts, (f t).length = n) : (ts.flatMap f).length = ts.length * n := by
  induction ts with
  | nil => simp
  | cons x l ih => rw [List.flatMap_cons, List.length_append, hf x (by simp), ih (fun t ht => hf t (by simp [ht])), List.length_cons, Nat.succ_mul]; omega
theorem flat_at {α : Type} (f : α → List Value) (n : Nat) (ts : List α) (hf : ∀ t ∈ ts, (f t).length = n) (i : Nat) (t : α) (h : ts[i]? = some t) (j : Nat) (hj : j < n) : (ts.flatMap f)[i * n + j]? = (f t)[j]? := by
  induction ts generalizing i with
  | nil => simp at h
  | cons x l ih =>
    have hx := hf x (by simp)
    cases i with
    | zero =>
      simp at h
      subst h
      rw [List.flatMap_cons, Nat.zero_mul, Nat.zero_add, List.getElem?_append_left (by omega)]
    | succ i =>
      rw [List.flatMap_cons, List.getElem?_append_right (by rw [hx, Nat.succ_mul]; omega), hx, show (i + 1) * n + j - n = i * n + j by rw [Nat.succ_mul]; omega]
      exact ih (fun t ht => hf t (by simp [ht])) i (by simpa using h)
theorem add_more (a : Addr) (m k : Nat) : a.add (m + (k + 1)) = ⟨(a.add m).block, (a.add m).off + (k + 1), none⟩ := by
  unfold Addr.add
  by_cases hm : m = 0
  · simp [hm]
  · simp [hm, Nat.add_assoc]
theorem results_two {fn : Func} {p u : Tmp} (h : fn.results = #[.tmp p, .tmp u]) (tmps : Array Value) (w : World) : (results fn tmps).run Tryd.prog w = .ok (.tuple #[tmps.getD p undef, tmps.getD u undef]) w := by
  simp [results, h]
theorem results_three {fn : Func} {p u x : Tmp} (h : fn.results = #[.tmp p, .tmp u, .tmp x]) (tmps : Array Value) (w : World) : (results fn tmps).run Tryd.prog w = .ok (.tuple #[tmps.getD p undef, tmps.getD u undef, tmps.getD x undef]) w := by
  simp [results, h]
/-- A block's place and length, as its cells. -/
def Bk.vals (b : Nat × Nat) : List Value := [.int .i64 (b.1 : Nat), .int .i64 (b.2 : Nat)]
theorem lie_bk {w : World} {A : Option Addr} {l : List (Nat × Nat)} (h : Lie w A (l.flatMap Bk.vals)) (i : Nat) (hi : i < l.length) : ∃ ad b, A = some ad ∧ ad.block < w.heap.size ∧ Hid (l[i]? = some b) ∧
    w.cell? (ad.add (i * 2)) = some (.int .i64 (b.1 : Nat)) ∧ w.cell? ⟨(ad.add (i * 2)).block, (ad.add (i * 2)).off + 1, none⟩ = some (.int .i64 (b.2 : Nat)) := by
  have hne : l.flatMap Bk.vals ≠ [] := fun hc => by
    have := flat_len Bk.vals 2 l (fun _ _ => rfl)
    rw [hc] at this
    simp at this
    omega
  obtain ⟨ad, h1, h2, h3⟩ := h hne
  have ht := List.getElem?_eq_getElem hi
  exact ⟨ad, l[i], h1, h2, hide ht, h3 (i * 2) _ (by rw [← Nat.add_zero (i * 2), flat_at Bk.vals 2 l (fun _ _ => rfl) i _ ht 0 (by decide)]; rfl), by rw [← add_more ad (i * 2) 0]; exact h3 (i * 2 + 1) _ (by rw [flat_at Bk.vals 2 l (fun _ _ => rfl) i _ ht 1 (by decide)]; rfl)⟩
/-- The least place, how many lie ahead of it, and whether there is one. -/
def Ar.gap (size : Int) (room : Nat) : Nat → Nat → List (Nat × Nat) → Nat × Nat × Bool
  | at', i, [] => (at', i, decide (size ≤ (room : Int) - (at' : Int)))
  | at', i, b :: l => if size ≤ (b.1 : Int) - (at' : Int) then (at', i, true) else Ar.gap size room (b.1 + b.2) (i + 1) l

set_option maxRecDepth 100000 in
set_option maxHeartbeats 4000000 in
theorem gap_c (l : List (Nat × Nat)) (A : Option Addr) (cap : Nat) (size : Int) (room : Nat) (w : World) (hR : Lie w A (l.flatMap Bk.vals)) (hl : l.length ≤ 1000000) (hb : ∀ b ∈ l, b.1 + b.2 ≤ 4294967296) (hroom : room ≤ 4294967296) :
    Calls Tryd.prog 23 #[.slice A l.length cap, .int .i64 size, .int .i64 (room : Nat)] w fun e w' => e = .returned (.tuple #[.int .i64 ((Ar.gap size room 0 0 l).1 : Nat), .int .i64 ((Ar.gap size room 0 0 l).2.1 : Nat), .bool (Ar.gap size room 0 0 l).2.2]) ∧ Below w.heap.size w w' := by
  have HR := hide hR
  have HB0 := hide hb
  obtain ⟨nd, hnd⟩ : ∃ n, Hid (l.length = n) := ⟨_, hide rfl⟩
  obtain ⟨G, hG⟩ : ∃ G, Hid (Ar.gap size room 0 0 l = G) := ⟨_, hide rfl⟩
  rw [hG.out]
  rw [hnd.out] at hl ⊢
  clear hR hb
  go_enter Tryd.func23, Tryd.ntmps23
  go_wp2_with fail
  go_loopw [9, 14] (fun p k wr => ∃ (a i : Nat), i ≤ nd ∧ a ≤ 4294967296 ∧ p = .int .i64 a ∧ k = .int .i64 i ∧ Hid (Below w.heap.size w wr) ∧ Hid (Ar.gap size room a i (l.drop i) = G)) (fun _ k _ => nd - (intOf k).toNat)
  case atStart => exact ⟨0, 0, by omega, by omega, rfl, rfl, hide (Below.refl _ _), hide hG.out⟩
  case round =>
    obtain ⟨a, i, hi, ha, rfl, rfl, HB, HK⟩ := hrel
    by_cases hlt : i < nd
    · obtain ⟨ad, b, hBad, had, hd, c0, c1⟩ := lie_bk (HR.out.below HB.out) i (by rw [hnd.out]; exact hlt)
      subst hBad
      have hbb := HB0.out b (List.mem_of_getElem? hd.out)
      have hdr : l.drop i = b :: l.drop (i + 1) := by
        obtain ⟨h1, h2⟩ := List.getElem?_eq_some_iff.1 hd.out
        rw [List.drop_eq_getElem_cons h1, h2]
      have hk := HK.out
      rw [hdr, Ar.gap] at hk
      have HBa := hide (HB.out.alloc HB.out.size (.cells #[.int .i64 (b.1 : Nat), .int .i64 (b.2 : Nat)] 64))
      clear had HK hdr
      obtain ⟨b0, b1⟩ := b
      dsimp only at *
      have hw1 : IntKind.i64.wrap ((b0 : Int) - (a : Int)) = (b0 : Int) - (a : Int) := by rw [IntKind.wrap_i64]; omega
      have hw2 : IntKind.i64.wrap ((b0 : Int) + (b1 : Int)) = ((b0 + b1 : Nat) : Int) := by rw [IntKind.wrap_i64]; omega
      by_cases hs : size ≤ (b0 : Int) - (a : Int)
      · rw [if_pos hs] at hk
        have HKf := hide hk
        clear hk
        go_wp2_with fail
        refine bodyPost_ret (results_three rfl _ _) rfl ?_
        rw [← HKf.out]
        exact ⟨rfl, HBa.out⟩
      · rw [if_neg hs] at hk
        have HKf := hide hk
        clear hk
        have hs' : (b0 : Int) - (a : Int) < size := by omega
        go_wp2_with fail
        go_roundw
        case rel => exact ⟨b0 + b1, i + 1, by omega, by omega, by go_num, by go_num, HBa, HKf⟩
        case measure => simp [intOf]; omega
    · obtain rfl : i = nd := by omega
      have hk := HK.out
      rw [List.drop_eq_nil_of_le (by rw [hnd.out]; omega), Ar.gap] at hk
      have HKf := hide hk
      have hw1 : IntKind.i64.wrap ((room : Int) - (a : Int)) = (room : Int) - (a : Int) := by rw [IntKind.wrap_i64]; omega
      clear HK hlt hi hk
      go_wp2_with fail
      refine bodyPost_ret (results_three rfl _ _) rfl ?_
      rw [← HKf.out]
      exact ⟨rfl, HB.out⟩
end Go.Proofs.YtemaaipgjghlaaaDoor
