/-
  What the reference's Result functions answer, in one form; lodgeref3.seen, walked. lodgeref3.MatResult, walked. lodgeref3.descsOf, walked. lodgeref3.Known, Ins, Args; Result of MatMul and of Turn, walked. lodgeref3.element of MatMul and of Turn, walked. By an AI agent. No person has read it.
-/
import Derived.Test.YtgdcfjmpjhlndaaGreatDoorZFRefR
import Derived.Test.YtgdcfjmpjhlndaaGreatDoorZFElmN
import Derived.Test.YtgdcfjmpjhlndaaGreatDoorZFCelC
import Derived.Test.YtgdcfjmpjhlndaaGreatDoorZFMatN
namespace Go.Proofs.YtgdcfjmpjhlndaaGreatDoor
open Go.RowKit
set_option maxRecDepth 100000 in
set_option maxHeartbeats 8000000 in
theorem descsof_c (ts : List Ten) (B : Option Addr) (cap : Nat) (w : World) (hT : Row w B (ts.flatMap Ten.vals)) (hl : ts.length ≤ 1000000) :
    Calls Tryz.prog 39 #[.slice B ts.length cap] w fun e w' =>
      (∃ v, e = .returned v ∧ w'.ownsRow w.heap.size 24 2 v ts.length (ts.flatMap fun t => t.look.vals)) ∧ Below w.heap.size w w' := by
  have HR := hide hT
  obtain ⟨i0, hi0, hz0, hz1, hz2⟩ := descinfo
  have HI0 := hide hi0
  have HZ0 := hide hz0
  have HZ1 := hide hz1
  have HZ2 := hide hz2
  have HU := hide uds
  clear hi0 hz0 hz1 hz2 hT
  obtain ⟨n, hn⟩ : ∃ n, Hid (ts.length = n) := ⟨_, hide rfl⟩
  rw [hn.out] at hl ⊢
  go_enter Tryz.func39, Tryz.ntmps39
  go_wp2_with fail
  go_loopw [3, 4] (fun v k wr => ∃ i : Nat, i ≤ n ∧ k = .int .i64 i ∧ Hid (wr.ownsRow w.heap.size 24 2 v i ((ts.take i).flatMap fun t => t.look.vals)) ∧ Hid (Below w.heap.size w wr)) (fun _ k _ => n - (intOf k).toNat)
  case atStart => exact ⟨0, by omega, rfl, hide ⟨rfl, .inl ⟨rfl, rfl⟩⟩, hide (Below.refl _ _)⟩
  case round =>
    obtain ⟨i, hi, rfl, HO, HB⟩ := hrel
    by_cases hlt : i < n
    · obtain ⟨ad, t, rfl, had, ht, c0, c1, c2⟩ := row_ten (HR.out.below HB.out) i (by rw [hn.out]; exact hlt)
      have hown2 := hide (HO.out.alloc (.cells #[.slice t.P t.zs.length t.cap, .bool t.u] 24))
      have HB2 := hide (HB.out.alloc HB.out.size (.cells #[.slice t.P t.zs.length t.cap, .bool t.u] 24))
      have hsz := hide HB2.out.size
      have hnw := hide (new_cells wr 24 [.slice t.P t.zs.length t.cap, .bool t.u])
      have h1w : Hid (∀ x ∈ [Value.slice t.P t.zs.length t.cap, .bool t.u], x.oneCell' = true) := hide (by
        intro x hx
        simp at hx
        rcases hx with rfl | rfl
        all_goals rfl)
      clear HB HO had c2
      go_wp2_with (at_builtin; refine wpList_append_own_at _ rfl _ _ 45 rfl w.heap.size 24 i0 (.agg #[.slice none 0 0, .bool false]) 2 32 HU.out HI0.out HZ0.out HZ1.out HZ2.out rfl (by decide) _ i _ rfl hown2.out ⟨wr.heap.size, 0, none⟩ 1 1 [.slice t.P t.zs.length t.cap, .bool t.u] rfl rfl hnw.out h1w.out (by unfold maxLen; omega) (by omega) hsz.out ?_)
      intro s0 W0 hown' hgrow hnil hat
      have HB := hide (elm_grown HB2.out hown2.out HB2.out.size hgrow)
      have HO := hide hown'
      clear HB2 hown2 hown' hgrow hnw h1w hsz c0 c1 hnil hat
      go_wp2_with fail
      go_roundw
      case rel =>
        refine ⟨i + 1, by omega, by go_num, hide ?_, HB⟩
        have h := HO.out
        rw [List.take_add_one, ht.out, Option.toList_some, List.flatMap_append, List.flatMap_cons, List.flatMap_nil, List.append_nil]
        exact h
      case measure => simp [intOf]; omega
    · obtain rfl : i = n := by omega
      have hl2 : ts.take i = ts := List.take_of_length_le (by rw [hn.out]; exact Nat.le_refl _)
      rw [hl2] at HO
      clear hl2
      go_wp2_with fail
      go_ret
      exact ⟨⟨_, rfl, HO.out⟩, HB.out⟩
end Go.Proofs.YtgdcfjmpjhlndaaGreatDoor
