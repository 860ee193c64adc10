/-
  Arena.Raw of all, walked. By an AI agent. No person has read it.
-/
import Derived.Test.YtemaaipgjghlaaaDoorAreWr
namespace Go.Proofs.YtemaaipgjghlaaaDoor
open Go.RowKit

set_option maxRecDepth 100000 in
set_option maxHeartbeats 4000000 in
theorem raw_ok (base a m : Nat) (v : Value) (mem : List Nat) (l : List Hd) (w : World) (hA : ArIn base w a m v mem l) (h1 : 1 ≤ mem.length) (hmem : mem.length ≤ 1048576) :
    Calls Tryd.prog 15 #[.pointer (some ⟨a, 0, none⟩), .int .i64 0, .int .i64 (mem.length : Nat)] w fun e w' => ∃ v', e = .returned v' ∧ w'.ownsRow w.heap.size 5 1 v' mem.length (u8s mem) ∧ Below w.heap.size w w' := by
  have HC := hide (cloneb_c ((mem.drop 0).take mem.length) ⟨m, 0, none⟩ mem.length mem.length w (mem_lie hA.bytes 0 _) (by simp) hmem)
  have e : (mem.drop 0).take mem.length = mem := by simp
  rw [e] at HC
  obtain ⟨M, hM⟩ : ∃ M, Hid (mem.length = M) := ⟨_, hide rfl⟩
  have c0 : w.cell? ⟨a, 0, none⟩ = some (.slice (some ⟨m, 0, none⟩) M M) := by
    rw [← hM.out]
    exact hA.box.cell 0
  rw [hM.out] at HC h1 hmem ⊢
  obtain ⟨X, hX⟩ : ∃ X, Hid (u8s mem = X) := ⟨_, hide rfl⟩
  rw [hX.out] at HC ⊢
  have f1 : ¬ ((M : Int) < 0) := by omega
  have f2 : (0 : Int) < (M : Int) := by omega
  have f3 : (0 : Int) ≤ (M : Int) := by omega
  have f4 : ¬ (M = 0) := by omega
  have f5 : IntKind.i64.wrap (M : Int) = (M : Int) := by rw [IntKind.wrap_i64]; omega
  have f6 : wrap64 (M : Int) = (M : Int) := by unfold wrap64; omega
  have g1 : min (0 : Int) (M : Int) = 0 := by omega
  have g2 : max (0 : Int) (M : Int) = (M : Int) := by omega
  clear hA e
  go_enter Tryd.func15, Tryd.ntmps15
  go_wp2_with fail
  refine HC.out.mono ?_
  rintro e w2 ⟨v', rfl, hrow, hb2⟩
  have HR := hide hrow
  have HB := hide hb2
  obtain ⟨A', c', rfl, -⟩ := own_lie hrow
  clear hrow hb2 HC
  go_wp2_with fail
  go_ret
  exact ⟨_, rfl, HR.out, HB.out⟩
end Go.Proofs.YtemaaipgjghlaaaDoor
