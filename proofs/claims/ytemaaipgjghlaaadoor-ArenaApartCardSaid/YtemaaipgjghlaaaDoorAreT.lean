/-
  Arena.piece, walked: the memory of some bytes of a part. By an AI agent. No person has read it.
-/
import Derived.Test.YtemaaipgjghlaaaDoorAreS
import Derived.Deep.RegionLaw
namespace Go.Proofs.YtemaaipgjghlaaaDoor
open Go.RowKit

set_option maxRecDepth 100000 in
set_option maxHeartbeats 4000000 in
theorem piece_c (base a m o s off n : Nat) (id : Int) (v : Value) (mem : List Nat) (l : List Hd) (w : World) (hA : ArIn base w a m v mem l) (hmem : mem.length ≤ 1048576) (hfit : o + off + n ≤ mem.length) (hlt : o + off < mem.length) :
    Calls Tryd.prog 29 #[.pointer (some ⟨a, 0, none⟩), .agg #[.int .i64 id, .int .i64 (o : Nat), .int .i64 (s : Nat)], .int .i64 (off : Nat), .int .i64 (n : Nat)] w fun e w' => e = .returned (.slice (some ⟨m, o + off, none⟩) n (mem.length - (o + off))) ∧ Below w.heap.size w w' := by
  have hal := hA.box.lt
  have hne : a ≠ w.heap.size := by omega
  obtain ⟨M, hM⟩ : ∃ M, Hid (mem.length = M) := ⟨_, hide rfl⟩
  have c0 : w.cell? ⟨a, 0, none⟩ = some (.slice (some ⟨m, 0, none⟩) M M) := by
    rw [← hM.out]
    exact hA.box.cell 0
  rw [hM.out] at hmem hfit hlt ⊢
  have hw1 : IntKind.i64.wrap ((o : Int) + (off : Int)) = (o : Int) + (off : Int) := by rw [IntKind.wrap_i64]; omega
  have hw2 : IntKind.i64.wrap ((o : Int) + (off : Int) + (n : Int)) = (o : Int) + (off : Int) + (n : Int) := by rw [IntKind.wrap_i64]; omega
  have h1 : (0 : Int) ≤ (o : Int) + (off : Int) := by omega
  have h2 : ((o : Int) + (off : Int)).toNat = o + off := by omega
  have h3 : ((o : Int) + (off : Int) + (n : Int)).toNat = o + off + n := by omega
  have h4 : (o : Int) + (off : Int) + (n : Int) ≤ (M : Int) := by omega
  have h5 : (o : Int) + (off : Int) ≤ (o : Int) + (off : Int) + (n : Int) := by omega
  have h6 : ¬ (M = o + off) := by omega
  have h7 : o + off + n - (o + off) = n := by omega
  have HB := hide ((Below.refl w.heap.size w).alloc (Nat.le_refl _) (.cells #[.int .i64 id, .int .i64 (o : Nat), .int .i64 (s : Nat)] 30))
  clear hA
  go_enter Tryd.func29, Tryd.ntmps29
  go_wp2_with fail
  go_region_law fail
  all_goals
  go_wp2_with fail
  go_ret
  exact ⟨rfl, by first | exact HB.out | exact HB.out.drew⟩
end Go.Proofs.YtemaaipgjghlaaaDoor
