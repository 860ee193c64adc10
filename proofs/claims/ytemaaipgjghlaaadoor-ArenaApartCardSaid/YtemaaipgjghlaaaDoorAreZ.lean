/-
  slices.Clone of bytes and of blocks, walked. By an AI agent. No person has read it.
-/
import Derived.Test.YtemaaipgjghlaaaDoorAreL
import Derived.Laws.AppendOwn
import Derived.WalkKit
namespace Go.Proofs.YtemaaipgjghlaaaDoor
open Go.RowKit

set_option maxRecDepth 100000 in
set_option maxHeartbeats 4000000 in
theorem cloneb_c (bs : List Nat) (ad : Addr) (n cap : Nat) (w : World) (hr : Lie w (some ad) (u8s bs)) (hn : bs.length = n) (hl : n ≤ 1048576) :
    Calls Tryd.prog 31 #[.slice (some ad) n cap] w fun e w' => ∃ v', e = .returned v' ∧ w'.ownsRow w.heap.size 5 1 v' n (u8s bs) ∧ Below w.heap.size w w' := by
  obtain ⟨i0, hi0, hz0, hz1, hz2⟩ := u8info
  have HI0 := hide hi0
  have HZ0 := hide hz0
  have HZ1 := hide hz1
  have HZ2 := hide hz2
  have HR := hide hr
  have HL := hide hn
  have hb1 : Hid (0 + n ≤ maxLen) := hide (by unfold maxLen; omega)
  have hb2 : Hid ((0 + n) * 1 ≤ 140737488355328) := hide (by omega)
  clear hi0 hz0 hz1 hz2 hn hr
  have heq : ∀ w : World, (binOp .eql 35 (.slice (some ad) n cap) (.slice none 0 0)).run Tryd.prog w = .ok (.bool false) w := fun w => by kernel_rfl
  go_enter Tryd.func31, Tryd.ntmps31
  go_wp2_with (at_builtin; refine wpList_append_own _ rfl (.tmp 5) (.tmp 6) 35 rfl w.heap.size 5 i0 (.int .u8 0) 1 1 ubs HI0.out HZ0.out HZ1.out HZ2.out rfl (by decide) _ 0 [] rfl (World.ownsRow_made w #[] 0 (Nat.le_refl _) (Nat.zero_le _) (by simp)) ad n cap (u8s bs) rfl ?q1 ?q2 ?q3 hb1.out hb2.out ?q4 ?_)
  case q1 => simp [HL.out]
  case q2 =>
    intro j u hj
    have hne : u8s bs ≠ [] := fun e => by rw [e] at hj; cases hj
    obtain ⟨ad', e, h1, h2⟩ := HR.out hne
    obtain rfl : ad = ad' := Option.some.inj e
    rw [((Below.refl w.heap.size w).alloc (Nat.le_refl _) _).cell (p := ad.add j) (by rw [ad_block]; exact h1)]
    exact h2 j u hj
  case q3 =>
    intro u hu
    obtain ⟨y, -, rfl⟩ := List.mem_map.1 hu
    rfl
  case q4 => simp
  intro v' w1 hown hgrow hnil
  have HB : Hid (Below w.heap.size w w1) := hide (((Below.refl _ w).alloc (Nat.le_refl _) _).grown hgrow (by simp) (by intro k hk; simp [Value.ownBlock] at hk; omega))
  have HO := hide hown
  obtain ⟨A', c', rfl, -⟩ := own_lie hown
  clear hown hgrow hnil
  go_wp2_with fail
  go_ret
  exact ⟨_, rfl, HO.out, HB.out⟩

theorem blk_z : ∃ i : TypeInfo, Tryd.prog.info? 64 = some i ∧ i.zero = some (.agg #[.int .i64 0, .int .i64 0]) ∧ i.size = 2 ∧ i.bytes = 16 := blk_info

set_option maxRecDepth 100000 in
set_option maxHeartbeats 4000000 in
theorem cloneblk_c (bs : List (Nat × Nat)) (A : Option Addr) (n cap : Nat) (w : World) (hr : Lie w A (bs.flatMap Bk.vals)) (hn : bs.length = n) (h0 : A = none → n = 0 ∧ cap = 0) (hl : n ≤ 1000000) :
    Calls Tryd.prog 33 #[.slice A n cap] w fun e w' => ∃ v', e = .returned v' ∧ w'.ownsRow w.heap.size 64 2 v' n (bs.flatMap Bk.vals) ∧ Below w.heap.size w w' := by
  cases A with
  | none =>
    obtain ⟨rfl, rfl⟩ := h0 rfl
    have hb : bs = [] := List.eq_nil_of_length_eq_zero hn
    subst hb
    have hnil := fun W : World => Lib.run_eql_slice_nil (P := Tryd.prog) W 60 64 none 0 0 0 0 uds_blk
    clear hr h0 hn
    go_enter Tryd.func33, Tryd.ntmps33
    go_wp2_with fail
    go_ret
    exact ⟨_, rfl, ⟨rfl, .inl ⟨rfl, rfl⟩⟩, Below.refl _ _⟩
  | some ad =>
    obtain ⟨i0, hi0, hz0, hz1, hz2⟩ := blk_z
    have HI0 := hide hi0
    have HZ0 := hide hz0
    have HZ1 := hide hz1
    have HZ2 := hide hz2
    have HR := hide hr
    have HL := hide hn
    have hb1 : Hid (0 + n ≤ maxLen) := hide (by unfold maxLen; omega)
    have hb2 : Hid ((0 + n) * 16 ≤ 140737488355328) := hide (by omega)
    clear hi0 hz0 hz1 hz2 hn hr h0
    have heq : ∀ w : World, (binOp .eql 60 (.slice (some ad) n cap) (.slice none 0 0)).run Tryd.prog w = .ok (.bool false) w := fun w => by kernel_rfl
    go_enter Tryd.func33, Tryd.ntmps33
    go_wp2_with (at_builtin; refine wpList_append_own _ rfl (.tmp 5) (.tmp 6) 60 rfl w.heap.size 64 i0 (.agg #[.int .i64 0, .int .i64 0]) 2 16 uds_blk HI0.out HZ0.out HZ1.out HZ2.out rfl (by decide) _ 0 [] rfl (World.ownsRow_made w #[] 0 (Nat.le_refl _) (Nat.zero_le _) (by simp)) ad n cap (bs.flatMap Bk.vals) rfl ?q1 ?q2 ?q3 hb1.out hb2.out ?q4 ?_)
    case q1 => rw [flat_len Bk.vals 2 bs (fun _ _ => rfl), HL.out]
    case q2 =>
      intro j u hj
      have hne : bs.flatMap Bk.vals ≠ [] := fun e => by rw [e] at hj; cases hj
      obtain ⟨ad', e, h1, h2⟩ := HR.out hne
      obtain rfl : ad = ad' := Option.some.inj e
      rw [((Below.refl w.heap.size w).alloc (Nat.le_refl _) _).cell (p := ad.add j) (by rw [ad_block]; exact h1)]
      exact h2 j u hj
    case q3 =>
      intro y hy
      obtain ⟨b, -, hh⟩ := List.mem_flatMap.1 hy
      simp [Bk.vals] at hh
      rcases hh with rfl | rfl <;> rfl
    case q4 => simp
    intro v' w1 hown hgrow hnil
    have HB : Hid (Below w.heap.size w w1) := hide (((Below.refl _ w).alloc (Nat.le_refl _) _).grown hgrow (by simp) (by intro k hk; simp [Value.ownBlock] at hk; omega))
    have HO := hide hown
    obtain ⟨A', c', rfl, -⟩ := own_lie hown
    clear hown hgrow hnil
    go_wp2_with fail
    go_ret
    exact ⟨_, rfl, HO.out, HB.out⟩
end Go.Proofs.YtemaaipgjghlaaaDoor
