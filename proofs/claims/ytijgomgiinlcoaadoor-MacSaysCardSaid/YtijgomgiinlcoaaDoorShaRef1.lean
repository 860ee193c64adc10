/-
  The document's own SHA-256 (package lodgeref1): a rotation, the constants, the first state. By an AI agent. No person has read it.
-/
import Derived.Test.YtijgomgiinlcoaaDoorShaAny
namespace Go.Proofs.YtijgomgiinlcoaaDoor
open Go.RowKit

theorem turn_eq (x k : Nat) (hx : x < 4294967296) : bits .or .u32 ((x : Int) / 2 ^ k) ((x : Int) * 2 ^ (32 - k) % 4294967296) = ((Sha.rotr x k : Nat) : Int) := by
  have e1 : (x : Int) * 2 ^ (32 - k) % 4294967296 = ((x * 2 ^ (32 - k) % 4294967296 : Nat) : Int) := by simp
  have e2 : (x : Int) / 2 ^ k = ((x / 2 ^ k : Nat) : Int) := by simp
  rw [e1, e2, u32_or_nat _ _ (Sha.div_lt k hx) (Nat.mod_lt _ (by decide)), Nat.or_comm]
  rfl
set_option maxRecDepth 100000 in
set_option maxHeartbeats 4000000 in
theorem turn_c (x k : Nat) (kI : Int) (hk : kI = k) (w : World) (hx : x < 4294967296) (h0 : 0 < k) (h1 : k < 32) :
    Calls Tryd.prog 37 #[.int .u32 x, .int .u64 kI] w fun e w' => e = .returned (.int .u32 (Sha.rotr x k : Nat)) ∧ w' = w := by
  subst hk
  have he := hide (turn_eq x k hx)
  have hs : IntKind.u64.wrap (32 - (k : Int)) = ((32 - k : Nat) : Int) := by rw [IntKind.wrap_u64]; omega
  go_enter Tryd.func37, Tryd.ntmps37
  go_wp2_with fail
  go_ret
  exact ⟨by rw [← he.out]; rfl, rfl⟩
theorem turn7_c (x : Nat) (w : World) (hx : x < 4294967296) : Calls Tryd.prog 37 #[.int .u32 x, .int .u64 7] w fun e w' => e = .returned (.int .u32 (Sha.rotr x 7 : Nat)) ∧ w' = w := turn_c x 7 7 rfl w hx (by decide) (by decide)
theorem turn18_c (x : Nat) (w : World) (hx : x < 4294967296) : Calls Tryd.prog 37 #[.int .u32 x, .int .u64 18] w fun e w' => e = .returned (.int .u32 (Sha.rotr x 18 : Nat)) ∧ w' = w := turn_c x 18 18 rfl w hx (by decide) (by decide)
theorem turn17_c (x : Nat) (w : World) (hx : x < 4294967296) : Calls Tryd.prog 37 #[.int .u32 x, .int .u64 17] w fun e w' => e = .returned (.int .u32 (Sha.rotr x 17 : Nat)) ∧ w' = w := turn_c x 17 17 rfl w hx (by decide) (by decide)
theorem turn19_c (x : Nat) (w : World) (hx : x < 4294967296) : Calls Tryd.prog 37 #[.int .u32 x, .int .u64 19] w fun e w' => e = .returned (.int .u32 (Sha.rotr x 19 : Nat)) ∧ w' = w := turn_c x 19 19 rfl w hx (by decide) (by decide)
theorem turn6_c (x : Nat) (w : World) (hx : x < 4294967296) : Calls Tryd.prog 37 #[.int .u32 x, .int .u64 6] w fun e w' => e = .returned (.int .u32 (Sha.rotr x 6 : Nat)) ∧ w' = w := turn_c x 6 6 rfl w hx (by decide) (by decide)
theorem turn11_c (x : Nat) (w : World) (hx : x < 4294967296) : Calls Tryd.prog 37 #[.int .u32 x, .int .u64 11] w fun e w' => e = .returned (.int .u32 (Sha.rotr x 11 : Nat)) ∧ w' = w := turn_c x 11 11 rfl w hx (by decide) (by decide)
theorem turn25_c (x : Nat) (w : World) (hx : x < 4294967296) : Calls Tryd.prog 37 #[.int .u32 x, .int .u64 25] w fun e w' => e = .returned (.int .u32 (Sha.rotr x 25 : Nat)) ∧ w' = w := turn_c x 25 25 rfl w hx (by decide) (by decide)
theorem turn2_c (x : Nat) (w : World) (hx : x < 4294967296) : Calls Tryd.prog 37 #[.int .u32 x, .int .u64 2] w fun e w' => e = .returned (.int .u32 (Sha.rotr x 2 : Nat)) ∧ w' = w := turn_c x 2 2 rfl w hx (by decide) (by decide)
theorem turn13_c (x : Nat) (w : World) (hx : x < 4294967296) : Calls Tryd.prog 37 #[.int .u32 x, .int .u64 13] w fun e w' => e = .returned (.int .u32 (Sha.rotr x 13 : Nat)) ∧ w' = w := turn_c x 13 13 rfl w hx (by decide) (by decide)
theorem turn22_c (x : Nat) (w : World) (hx : x < 4294967296) : Calls Tryd.prog 37 #[.int .u32 x, .int .u64 22] w fun e w' => e = .returned (.int .u32 (Sha.rotr x 22 : Nat)) ∧ w' = w := turn_c x 22 22 rfl w hx (by decide) (by decide)
set_option maxRecDepth 100000 in
set_option maxHeartbeats 4000000 in
theorem begin_c (w : World) :
    Calls Tryd.prog 36 #[] w fun e w' => e = .returned (.slice (some ⟨w.heap.size, 0, none⟩) 8 8) ∧ Has w' w.heap.size 28 (u32s Sha.H0) ∧ Below w.heap.size w w' := by
  go_enter Tryd.func36, Tryd.ntmps36
  go_wp2_with fail
  go_ret
  exact ⟨rfl, Has.new _ _ _, (Below.refl _ _).alloc (Nat.le_refl _) _⟩
set_option maxRecDepth 100000 in
set_option maxHeartbeats 4000000 in
theorem refrounds_c (w : World) :
    Calls Tryd.prog 15 #[] w fun e w' => e = .returned (.slice (some ⟨w.heap.size, 0, none⟩) 64 64) ∧ Has w' w.heap.size 28 (u32s Sha.K) ∧ Below w.heap.size w w' := by
  go_enter Tryd.func15, Tryd.ntmps15
  go_wp2_with fail
  go_ret
  exact ⟨rfl, Has.new _ _ _, (Below.refl _ _).alloc (Nat.le_refl _) _⟩
end Go.Proofs.YtijgomgiinlcoaaDoor
