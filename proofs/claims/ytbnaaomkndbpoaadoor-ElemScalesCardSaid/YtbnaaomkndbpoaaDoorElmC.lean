/-
  What the answer of an operation of two looks like. By an AI agent. No person has read it.
-/
import Derived.Test.YtbnaaomkndbpoaaDoorElmB
import Derived.Test.YtbnaaomkndbpoaaDoorShpCl
import Derived.Deep.RegionLaw
namespace Go.Proofs.YtbnaaomkndbpoaaDoor
open Go.RowKit

/-- What lies from the beginning of a block on. -/
def Elm.Lies (w : World) (k : Nat) (xs : List Value) : Prop := k < w.heap.size ∧ ∀ (j : Nat) (x : Value), xs[j]? = some x → w.cell? ⟨k, j, none⟩ = some x
theorem Elm.Lies.below {w w' : World} {k : Nat} {xs : List Value} (h : Elm.Lies w k xs) (hb : Below w.heap.size w w') : Elm.Lies w' k xs :=
  ⟨Nat.lt_of_lt_of_le h.1 hb.size, fun j x hx => (hb.cell h.1).trans (h.2 j x hx)⟩
theorem Elm.lies_own {w : World} {base n s : Nat} {e : TypeId} {v : Value} {xs : List Value} (h : w.ownsRow base e s v n xs) (hn : n ≠ 0) : ∃ k c, v = .slice (some ⟨k, 0, none⟩) n c ∧ base ≤ k ∧ Elm.Lies w k xs := by
  rcases h.2 with ⟨-, h2⟩ | ⟨g, c, cur, rfl, h2, h3, -, -, -, h4⟩
  · exact absurd h2 hn
  · refine ⟨g, c, rfl, h2, (Array.getElem?_eq_some_iff.1 h3).1, fun j x hx => ?_⟩
    have hj := (List.getElem?_eq_some_iff.1 hx).1
    rw [← h4, List.getElem?_take] at hx
    split at hx
    · have : w.cell? ⟨g, j, none⟩ = cur[j]? := by simp [World.cell?, h3]
      rw [this, ← hx, Array.getElem?_toList]
    · cases hx
set_option maxRecDepth 100000 in
set_option maxHeartbeats 4000000 in
theorem looks_bin (op : Int) (ho : op = 4 ∨ op = 5 ∨ op = 6 ∨ op = 7) (zs : List Int) (P P2 : Option Addr) (cap cap2 k c : Nat) (u : Bool) (w : World)
    (hk : Elm.Lies w k [.slice P zs.length cap, .bool u, .slice P2 zs.length cap2, .bool u]) (hr : Ri w P zs) (hr2 : Ri w P2 zs) (hm : zs.length ≤ 1000000) :
    Calls Tryd.prog 35 #[.int .i64 op, .slice (some ⟨k, 0, none⟩) 2 c] w fun e w' => e = .returned (.bool true) ∧ Below w.heap.size w w' := by
  have hs := hide (fun W (hb : Below w.heap.size w W) => same_c zs zs P P2 cap cap2 u u W (hr.below hb) (hr2.below hb) hm hm)
  have e : (decide (zs = zs) && (u == u)) = true := by simp
  rw [e] at hs
  clear e hr hr2 hm
  obtain ⟨n, hn⟩ : ∃ n, zs.length = n := ⟨_, rfl⟩
  rw [hn] at hk hs
  clear hn
  have c0 : w.cell? ⟨k, 0, none⟩ = some (.slice P n cap) := hk.2 0 _ rfl
  have c1 : w.cell? ⟨k, 1, none⟩ = some (.bool u) := hk.2 1 _ rfl
  have c2 : w.cell? ⟨k, 2, none⟩ = some (.slice P2 n cap2) := hk.2 2 _ rfl
  have c3 : w.cell? ⟨k, 3, none⟩ = some (.bool u) := hk.2 3 _ rfl
  clear hk
  have n10 : op ≠ 10 := by omega
  have n11 : op ≠ 11 := by omega
  clear ho
  go_enter Tryd.func35, Tryd.ntmps35
  go_wp2_with fail
  go_region_law (first
    | (go_simp; go_at_call 58; refine (hs.out _ (by first | exact (Below.refl _ w).drew | exact Below.refl _ w)).mono ?_; rintro e W2 ⟨rfl, hb⟩))
  all_goals go_wp2_with fail
  all_goals go_ret
  all_goals exact ⟨rfl, (Below.refl _ w).drew.trans hb⟩
theorem may_bin (op : Int) (ho : op = 4 ∨ op = 5 ∨ op = 6 ∨ op = 7) (A : Option Addr) (n c : Nat) (u : Bool) (w : World) :
    Calls Tryd.prog 36 #[.int .i64 op, .slice A n c, .bool u] w fun e w' => e = .returned (.bool true) ∧ w' = w := by
  rcases ho with rfl | rfl | rfl | rfl
  all_goals
    go_enter Tryd.func36, Tryd.ntmps36
    go_wp2_with fail
    go_ret
    exact ⟨rfl, rfl⟩
end Go.Proofs.YtbnaaomkndbpoaaDoor
