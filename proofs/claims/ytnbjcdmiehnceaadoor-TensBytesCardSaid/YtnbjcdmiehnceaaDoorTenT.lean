/-
  Package pack's Reader: Count, walked. By an AI agent. No person has read it.
-/
import Derived.Test.YtnbjcdmiehnceaaDoorTenR
namespace Go.Proofs.YtnbjcdmiehnceaaDoor
open Go.RowKit

/-- What is read is not more than may be, or nothing was read. -/
theorem count_of (g k most v : Nat) (at_ : Int) (x e0 ev : Value) (Q : World → Prop) (w : World) (h : Has w g 130 [x, .int .i64 at_, e0]) (hv : v ≤ most) (hN : Calls Tryd.prog 100 #[.pointer (some ⟨g, 0, none⟩), .int .i64 (k : Int)] w fun e w' => e = .returned (.int .i64 (v : Int)) ∧ Q w') :
    Calls Tryd.prog 99 #[.pointer (some ⟨g, 0, none⟩), .int .i64 (k : Int), .int .i64 (most : Int), ev] w fun e w' => e = .returned (.int .i64 (v : Int)) ∧ Q w' := by
  have c1 : w.cell? ⟨g, 1, none⟩ = some (.int .i64 at_) := by rw [h.cell]; rfl
  have HN := hide hN
  have hvm : (v : Int) ≤ most := by omega
  clear h hN hv
  go_enter Tryd.func99, Tryd.ntmps99
  go_wp2_with fail
  refine HN.out.mono ?_
  rintro e w1 ⟨rfl, hQ⟩
  have HQ := hide hQ
  clear hQ c1
  go_wp2_with fail
  go_ret
  exact ⟨rfl, HQ.out⟩
/-- More than may be: an error around the place. -/
theorem count_many (g k most v : Nat) (at_ at2 : Int) (x : Value) (a : Addr) (w : World) (h : Has w g 130 [x, .int .i64 at_, .nilIface]) (hv : most < v) (hN : Calls Tryd.prog 100 #[.pointer (some ⟨g, 0, none⟩), .int .i64 (k : Int)] w fun e w' => e = .returned (.int .i64 (v : Int)) ∧ Has w' g 130 [x, .int .i64 at2, .nilIface] ∧ w.grownBy w' (some g)) :
    Calls Tryd.prog 99 #[.pointer (some ⟨g, 0, none⟩), .int .i64 (k : Int), .int .i64 (most : Int), errv a] w fun e w' => e = .returned (.int .i64 0) ∧ (∃ g2, g2 ≠ g ∧ w.heap.size ≤ g2 ∧ Has w' g2 101 [.int .i64 at_, errv a] ∧ Has w' g 130 [x, .int .i64 at2, .iface 99 (.pointer (some ⟨g2, 0, none⟩))]) ∧ w.grownBy w' (some g) := by
  have c1 : w.cell? ⟨g, 1, none⟩ = some (.int .i64 at_) := by rw [h.cell]; rfl
  have HN := hide hN
  have hvm : (most : Int) < v := by omega
  clear h hN hv
  go_enter Tryd.func99, Tryd.ntmps99
  go_wp2_with fail
  refine HN.out.mono ?_
  rintro e w1 ⟨rfl, hH, hG⟩
  have HH := hide hH
  have HG := hide hG
  clear hH hG c1 HN
  go_wp2_with fail
  refine (at_of a at_ w1).mono ?_
  rintro e w2 ⟨rfl, hw2⟩
  have hA2 : Has w2 w1.heap.size 101 [.int .i64 at_, errv a] := by rw [hw2]; exact Has.new w1 _ _
  have hH2 : Has w2 g 130 [x, .int .i64 at2, .nilIface] := by rw [hw2]; exact HH.out.alloc _
  have hG2 : w.grownBy w2 (some g) := by rw [hw2]; exact HG.out.trans (World.grownBy_alloc w1 _ _)
  have hlt := HH.out.lt
  have HF := hide (fail_first g x (.int .i64 at2) (.iface 99 (.pointer (some ⟨w1.heap.size, 0, none⟩))) (.inr ⟨_, rfl⟩) w2 hH2)
  have HA3 := hide (hA2.far (p := ⟨g, 2, none⟩) (by simp; omega) (.iface 99 (.pointer (some ⟨w1.heap.size, 0, none⟩))))
  have HH3 := hide (hH2.set_ 2 (.iface 99 (.pointer (some ⟨w1.heap.size, 0, none⟩))))
  have HG3 := hide (grown_set hG2 ⟨g, 2, none⟩ rfl (.iface 99 (.pointer (some ⟨w1.heap.size, 0, none⟩))))
  have hne : w1.heap.size ≠ g := by omega
  have hle := HG.out.size
  clear hA2 hH2 hG2 hw2 HH HG hlt
  go_wp2_with fail
  refine HF.out.mono ?_
  rintro e w3 ⟨⟨r, rfl⟩, hw3⟩
  rw [← hw3] at HA3 HH3 HG3
  clear hw3 HF
  go_wp2_with fail
  go_ret
  exact ⟨rfl, ⟨_, hne, hle, HA3.out, HH3.out⟩, HG3.out⟩
end Go.Proofs.YtnbjcdmiehnceaaDoor
