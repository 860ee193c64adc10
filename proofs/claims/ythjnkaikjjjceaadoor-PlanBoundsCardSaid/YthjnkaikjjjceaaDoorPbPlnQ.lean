/-
  lodgelaw14.first, walked; how long what is read is. By an AI agent. No person has read it.
-/
import Derived.Test.YthjnkaikjjjceaaDoorPbPlnP
import Derived.Test.YthjnkaikjjjceaaDoorPbPlnH
import Derived.Test.YthjnkaikjjjceaaDoorPbBasA
import Derived.Laws.BitsAllLaws
namespace Go.Proofs.YthjnkaikjjjceaaDoor
open Go.RowKit
theorem Pl.read_len (bs : List Nat) : (Pl.read bs).vs.length ≤ 128 ∧ (Pl.read bs).cs.length ≤ 64 ∧ (Pl.read bs).ls.length ≤ 8 ∧ (Pl.read bs).is.length ≤ 2048 := by
  unfold Pl.read
  split
  · have l3 : (Pl.p3 bs).1.length = (Pl.p2 bs).1 := by unfold Pl.p3; exact Rs.rep_len _ _ _
    have l5 : (Pl.p5 bs).1.length = (Pl.p4 bs).1 := by unfold Pl.p5; exact Rs.rep_len _ _ _
    have l7 : (Pl.p7 bs).1.length = (Pl.p6 bs).1 := by unfold Pl.p7; exact Rs.rep_len _ _ _
    have l9 : (Pl.p9 bs).1.length = (Pl.p8 bs).1 := by unfold Pl.p9; exact Rs.rep_len _ _ _
    dsimp only
    rw [l3, l5, l7, l9]
    exact ⟨by unfold Pl.p2; exact Rs.count_le bs 2 128 3 _, by unfold Pl.p4; exact Rs.count_le bs 2 64 3 _, by unfold Pl.p6; exact Rs.count_le bs 2 8 3 _, by unfold Pl.p8; exact Rs.count_le bs 2 2048 3 _⟩
  · exact ⟨Nat.zero_le _, Nat.zero_le _, Nat.zero_le _, Nat.zero_le _⟩
theorem Pl.read_in {base : Nat} {w : World} {p : Pn} {bs : List Nat} (h : Pw base 0 w p) (hp : p.pl = Pl.read bs) : p.In w := by
  obtain ⟨a1, a2, a3, a4⟩ := Pl.read_len bs
  rw [← hp] at a1 a2 a3 a4
  have b1 : p.vs.length ≤ 128 := by rw [← List.length_map (f := Vw.pl)]; exact a1
  have b2 : p.cs.length ≤ 64 := by rw [← List.length_map (f := Ten.pl)]; exact a2
  have b3 : p.ls.length ≤ 8 := by rw [← List.length_map (f := Dsc.pl)]; exact a3
  have b4 : p.is.length ≤ 2048 := by rw [← List.length_map (f := Ins.pl)]; exact a4
  exact h.in_ (by omega) (by omega) (by omega) (by omega)
theorem Pl.zero_in (w : World) : (Pn.of 0).In w := (Pw.of 0 0 w 0).in_ (Nat.zero_le _) (Nat.zero_le _) (Nat.zero_le _) (Nat.zero_le _)
theorem Pl.zero_fault : Pl.fault (Pn.of 0) = none := by decide
theorem Pl.zero_len : (Pl.outs (Pn.of 0)).length = 22 := by
  unfold Pl.outs
  rw [if_pos Pl.zero_fault]
  decide
set_option maxRecDepth 100000 in
set_option maxHeartbeats 4000000 in
theorem first14_c (es : List Addr) (ah am ar ae ak : Addr) (hes : TErrs es ah am ar ae ak) (w : World) (hZ : E3 w ah am ar) :
    Calls Tryd.prog 8 #[] w fun e w' => e = .returned (.bool true) ∧ Below w.heap.size w w' := by
  have HB : Hid (Calls Tryd.prog 10 #[.agg #[.int .i64 0, .slice none 0 0, .slice none 0 0, .slice none 0 0, .slice none 0 0, .int .i64 0, .int .i64 0]] w fun e w' => (∃ (A : Option Addr) (c : Nat), e = .returned (.tuple #[.slice A 22 c, .nilIface])) ∧ Below w.heap.size w w') := hide (by
    have h := pbytes_c es ah am ar ae ak hes (Pn.of 0) w (Pl.zero_in w) hZ
    refine Calls.mono (h : Calls Tryd.prog 10 #[.agg #[.int .i64 0, .slice none 0 0, .slice none 0 0, .slice none 0 0, .slice none 0 0, .int .i64 0, .int .i64 0]] w _) ?_
    rintro e w' ⟨⟨b, ev, rfl, hev, ho⟩, hb⟩
    rw [Pl.zero_fault] at hev
    obtain rfl : ev = .nilIface := hev
    rw [Pl.zero_len] at ho
    obtain ⟨B, c, rfl, -⟩ := own_row ho
    exact ⟨⟨B, c, rfl⟩, hb⟩)
  clear hZ hes
  go_enter Tryd.func8, Tryd.ntmps8
  go_wp2_with fail
  refine HB.out.mono ?_
  rintro e w2 ⟨⟨A, c, rfl⟩, hb⟩
  have HB2 := hide hb
  clear HB hb
  go_wp2_with fail
  go_ret
  exact ⟨rfl, HB2.out⟩
end Go.Proofs.YthjnkaikjjjceaaDoor
