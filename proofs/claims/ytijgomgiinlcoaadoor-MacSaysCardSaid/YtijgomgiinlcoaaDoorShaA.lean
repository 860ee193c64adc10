import Derived.Test.YtijgomgiinlcoaaDoorRows
import Derived.Test.YtijgomgiinlcoaaDoorShaSpec
import Derived.Handy
import Derived.WalkLawsBesides
import Derived.WalkSpells
import Derived.Deep.QuietTactic
import Derived.BigQuiet
import Derived.Deep.DeepFit
namespace Go.Proofs.YtijgomgiinlcoaaDoor
open Go.RowKit

theorem hide {p : Prop} (h : p) : Hid p := h

theorem rot_c (x k : Nat) (m : Int) (w : World) (hx : x < 4294967296) (hm : m = -(k : Int)) (h0 : 0 < k) (h1 : k < 32) :
    Calls Tryd.prog 42 #[.int .u32 x, .int .i64 m] w fun e w' => e = .returned (.int .u32 (Sha.rotr x k : Nat)) ∧ w' = w := by
  have hs : bits .and .u64 (IntKind.u64.wrap m) 31 = ((32 - k : Nat) : Int) := by rw [hm]; exact Sha.and31 k h0 h1
  have he := hide (Sha.rot_eq x k hx (by omega))
  clear hm
  go_enter Tryd.func42, Tryd.ntmps42
  go_wp2
  go_ret
  exact ⟨by rw [← he.out]; rfl, rfl⟩

theorem thin_c (x a b s : Nat) (w : World) (hx : x < 4294967296) (ha0 : 0 < a) (ha : a < 32) (hb0 : 0 < b) (hb : b < 32) (hs : s < 32) :
    Calls Tryd.prog 40 #[.int .u32 x, .int .i64 a, .int .i64 b, .int .i64 s] w fun e w' => e = .returned (.int .u32 (Sha.thin x a b s : Nat)) ∧ ∃ n, w' = w.drewN n := by
  have he := hide (Sha.thin_eq x a b s hx)
  go_enter Tryd.func40, Tryd.ntmps40
  go_wp2
  go_quiet ((go_at_call 42; exact Calls.quiet_of_same (rot_c x _ _ _ hx rfl (by assumption) (by assumption))))
  go_wp2
  go_ret
  exact ⟨by rw [← he.out]; rfl, _, rfl⟩

theorem stir_c (x a b s : Nat) (w : World) (hx : x < 4294967296) (ha0 : 0 < a) (ha : a < 32) (hb0 : 0 < b) (hb : b < 32) (hs0 : 0 < s) (hs : s < 32) :
    Calls Tryd.prog 41 #[.int .u32 x, .int .i64 a, .int .i64 b, .int .i64 s] w fun e w' => e = .returned (.int .u32 (Sha.stir x a b s : Nat)) ∧ w' = w := by
  have he := hide (Sha.stir_eq x a b s hx)
  go_enter Tryd.func41, Tryd.ntmps41
  go_wp2_with (go_at_call 42; refine (rot_c x _ _ _ hx rfl (by assumption) (by assumption)).mono ?_; rintro e w' ⟨rfl, rfl⟩)
  go_ret
  exact ⟨by rw [← he.out]; rfl, rfl⟩

theorem thin_a (x : Nat) (w : World) (hx : x < 4294967296) :
    Calls Tryd.prog 40 #[.int .u32 x, .int .i64 7, .int .i64 18, .int .i64 3] w fun e w' => e = .returned (.int .u32 (Sha.thin x 7 18 3 : Nat)) ∧ ∃ n, w' = w.drewN n :=
  thin_c x 7 18 3 w hx (by decide) (by decide) (by decide) (by decide) (by decide)
theorem thin_b (x : Nat) (w : World) (hx : x < 4294967296) :
    Calls Tryd.prog 40 #[.int .u32 x, .int .i64 17, .int .i64 19, .int .i64 10] w fun e w' => e = .returned (.int .u32 (Sha.thin x 17 19 10 : Nat)) ∧ ∃ n, w' = w.drewN n :=
  thin_c x 17 19 10 w hx (by decide) (by decide) (by decide) (by decide) (by decide)
theorem stir_a (x : Nat) (w : World) (hx : x < 4294967296) :
    Calls Tryd.prog 41 #[.int .u32 x, .int .i64 6, .int .i64 11, .int .i64 25] w fun e w' => e = .returned (.int .u32 (Sha.stir x 6 11 25 : Nat)) ∧ w' = w :=
  stir_c x 6 11 25 w hx (by decide) (by decide) (by decide) (by decide) (by decide) (by decide)
theorem stir_b (x : Nat) (w : World) (hx : x < 4294967296) :
    Calls Tryd.prog 41 #[.int .u32 x, .int .i64 2, .int .i64 13, .int .i64 22] w fun e w' => e = .returned (.int .u32 (Sha.stir x 2 13 22 : Nat)) ∧ w' = w :=
  stir_c x 2 13 22 w hx (by decide) (by decide) (by decide) (by decide) (by decide) (by decide)
end Go.Proofs.YtijgomgiinlcoaaDoor
