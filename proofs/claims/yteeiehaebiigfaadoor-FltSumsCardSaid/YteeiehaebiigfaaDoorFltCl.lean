/-
  slices.Clone of a row of floats. By an AI agent. No person has read it.
-/
import Derived.Test.YteeiehaebiigfaaDoorFltF
import Derived.Laws.AppendOwn
import Derived.WalkKit
namespace Go.Proofs.YteeiehaebiigfaaDoor
open Go.RowKit

abbrev f64s (xs : List Nat) : List Value := xs.map fun n => Value.float .f64 n
def vals (d : Array W64) : List Nat := d.toList.map (·.val)
theorem und_row : Tryd.prog.underlying 27 = some (.slice 22) := by kernel_rfl
theorem f64info : ∃ i : TypeInfo, Tryd.prog.info? 22 = some i ∧ i.zero = some (.float .f64 0) ∧ i.size = 1 ∧ i.bytes = 8 := by
  obtain ⟨i, hi⟩ : ∃ i, Tryd.prog.info? 22 = some i := by
    have h : (Tryd.prog.info? 22).isSome = true := by kernel_rfl
    exact Option.isSome_iff_exists.1 h
  have h1 : (Tryd.prog.info? 22).bind (·.zero) = some (.float .f64 0) := by kernel_rfl
  have h2 : (Tryd.prog.info? 22).map (·.size) = some 1 := by kernel_rfl
  have h3 : (Tryd.prog.info? 22).map (·.bytes) = some 8 := by kernel_rfl
  rw [hi] at h1 h2 h3
  exact ⟨i, hi, h1, Option.some.inj h2, Option.some.inj h3⟩
set_option maxRecDepth 100000 in
theorem clone_c (d : Array W64) (A : Option Addr) (cap : Nat) (w : World) (hr : Fl w A (vals d)) (h0 : 0 < d.size) (hl : d.size ≤ 1000000) :
    Calls Tryd.prog 54 #[.slice A d.size cap] w fun e w' => ∃ g c, e = .returned (.slice (some ⟨g, 0, none⟩) d.size c) ∧ w.heap.size ≤ g ∧ Sort.Holds encF w' g 0 d ∧ Below w.heap.size w w' := by
  obtain ⟨n, hsz⟩ : ∃ n, Hid (d.size = n) := ⟨_, hide rfl⟩
  have hlen : (vals d).length = n := by rw [← hsz.out]; simp [vals]
  rw [hsz.out] at h0 hl ⊢
  obtain ⟨ad, x, rfl, -, -, -⟩ := fl_at hr 0 (by omega)
  have HR := hide hr
  obtain ⟨i0, hi0, hz0, hz1, hz2⟩ := f64info
  have HI0 := hide hi0
  have HZ0 := hide hz0
  have HZ1 := hide hz1
  have HZ2 := hide hz2
  have HU := hide und_row
  have HL := hide hlen
  have hb1 : Hid (0 + n ≤ maxLen) := hide (by unfold maxLen; omega)
  have hb2 : Hid ((0 + n) * 8 ≤ 140737488355328) := hide (by omega)
  clear hi0 hz0 hz1 hz2 hlen
  have heq : ∀ w : World, (binOp .eql 27 (.slice (some ad) n cap) (.slice none 0 0)).run Tryd.prog w = .ok (.bool false) w := fun w => by kernel_rfl
  clear hr
  go_enter Tryd.func54, Tryd.ntmps54
  go_wp2_with (at_builtin; refine wpList_append_own _ rfl (.tmp 5) (.tmp 6) 27 rfl w.heap.size 22 i0 (.float .f64 0) 1 8 HU.out HI0.out HZ0.out HZ1.out HZ2.out rfl (by decide) _ 0 [] rfl (World.ownsRow_made w #[] 0 (Nat.le_refl _) (Nat.zero_le _) (by simp)) ad n cap (f64s (vals d)) rfl ?q1 ?q2 ?q3 hb1.out hb2.out ?q4 ?_)
  case q1 => simp [f64s, HL.out]
  case q2 =>
    intro j u hj
    obtain ⟨y, hy, rfl⟩ : ∃ y, (vals d)[j]? = some y ∧ Value.float .f64 y = u := by simpa [f64s] using hj
    obtain ⟨ad', e, h1, h2⟩ := HR.out.2 j y hy
    obtain rfl : ad = ad' := Option.some.inj e
    rw [((Below.refl w.heap.size w).alloc (Nat.le_refl _) _).cell (p := ad.add j) (by rw [ad_block]; exact h1)]
    exact h2
  case q3 =>
    intro u hu
    obtain ⟨y, -, rfl⟩ := List.mem_map.1 hu
    rfl
  case q4 => simp
  intro v' w1 hown hgrow hnil
  have HB : Below w.heap.size w w1 := ((Below.refl _ w).alloc (Nat.le_refl _) _).grown hgrow (by simp) (by intro k hk; simp [Value.ownBlock] at hk; omega)
  obtain ⟨-, ⟨-, rfl⟩ | ⟨g, c, cur, rfl, hg, hh, h1, h2, h3, h4⟩⟩ := hown
  · omega
  have HH : Hid (Sort.Holds encF w1 g 0 d) := by
    refine hide fun j hj => ⟨?_, by simp [World.frozen?, hh]⟩
    rw [cell_of_row w1 g (0 + j) cur _ (0, 0) hh, Nat.zero_add]
    have e : (cur.toList.take (n * 1))[j]? = (f64s (vals d))[j]? := by rw [h4]
    rw [List.getElem?_take, if_pos (by rw [hsz.out] at hj; omega)] at e
    rw [← Array.getElem?_toList, e]
    simp [f64s, vals, encF, hj]
  clear h4 hh h3 hgrow hnil
  go_wp2_with fail
  go_ret
  exact ⟨g, c, rfl, hg, HH.out, HB⟩
end Go.Proofs.YteeiehaebiigfaaDoor
