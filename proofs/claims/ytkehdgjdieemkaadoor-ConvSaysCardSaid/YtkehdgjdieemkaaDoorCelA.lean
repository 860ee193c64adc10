/-
  cells.Of and cells.One of any operation, given what fills the place. By an AI agent. No person has read it.
-/
import Derived.Test.YtkehdgjdieemkaaDoorCelU
namespace Go.Proofs.YtkehdgjdieemkaaDoor
open Go.RowKit

set_option maxRecDepth 100000 in
set_option maxHeartbeats 8000000 in
theorem of_any (rs : List Int) (op : Int) (A B : Option Addr) (nq qcap nt bcap f n : Nat) (w : World) (hm : n ≤ 1000000)
    (hV : ∀ (W : World) (g : Nat), Below w.heap.size w W → w.heap.size ≤ g → Has W g 3 (i64s (List.replicate n 0)) → Calls Tryd.prog 87 #[.slice (some ⟨g, 0, none⟩) n n, .int .i64 f, .int .i64 op, .slice A nq qcap, .slice B nt bcap] W fun e w' => e = .returned (.tuple #[]) ∧ Has w' g 3 (i64s rs) ∧ Below w.heap.size w w') :
    Calls Tryd.prog 70 #[.int .i64 op, .slice A nq qcap, .int .i64 f, .int .i64 ((f + n : Nat) : Int), .slice B nt bcap] w fun e w' => (∃ g, e = .returned (.slice (some ⟨g, 0, none⟩) n n) ∧ w.heap.size ≤ g ∧ Has w' g 3 (i64s rs)) ∧ Below w.heap.size w w' := by
  obtain ⟨Z, hZ, hmk⟩ := made_ints n hm
  have hG : Has (w.alloc (.cells Z 3)) w.heap.size 3 (i64s (List.replicate n 0)) := by
    rw [hZ.out]
    exact Has.new w _ _
  have hB := (Below.refl w.heap.size w).alloc (Nat.le_refl _) (.cells Z 3)
  have V := hide (hV _ w.heap.size hB (Nat.le_refl _) hG)
  clear hG hB hZ hV
  have hw1 : IntKind.i64.wrap (((f + n : Nat) : Int) - (f : Int)) = (n : Int) := by rw [IntKind.wrap_i64]; omega
  have hw0 : wrap64 (((f + n : Nat) : Int) - (f : Int)) = (n : Int) := by unfold wrap64; omega
  obtain ⟨s, hs⟩ : ∃ s, Hid (((f + n : Nat) : Int) = s) := ⟨_, hide rfl⟩
  rw [hs.out] at hw1 hw0 ⊢
  clear hs
  go_enter Tryd.func70, Tryd.ntmps70
  go_wp2_with fail
  refine V.out.mono ?_
  rintro e w1 ⟨rfl, h1, h2⟩
  go_wp2_with fail
  go_ret
  exact ⟨⟨_, rfl, Nat.le_refl _, h1⟩, h2⟩
set_option maxRecDepth 100000 in
set_option maxHeartbeats 8000000 in
theorem one_any (zs : List Int) (P : Option Addr) (cap : Nat) (u : Bool) (op i v : Int) (A B : Option Addr) (nq qcap nt bcap : Nat) (am ar : Addr) (w : World) (hr : Ri w P zs) (hl : zs.length ≤ 1000000) (hE : E2 w am ar) (hi1 : i ≤ 9223372036854775807) (hi2 : -9223372036854775808 ≤ i)
    (hv : ¬ (0 ≤ i ∧ i < Shp.elems zs) → v = 0)
    (hV : ∀ (k : Nat) W, i = k → i < Shp.elems zs → Below w.heap.size w W → Calls Tryd.prog 70 #[.int .i64 op, .slice A nq qcap, .int .i64 k, .int .i64 ((k + 1 : Nat) : Int), .slice B nt bcap] W fun e w' => (∃ g, e = .returned (.slice (some ⟨g, 0, none⟩) 1 1) ∧ W.heap.size ≤ g ∧ Has w' g 3 (i64s [v])) ∧ Below W.heap.size W w') :
    Calls Tryd.prog 57 #[.agg (dcells P zs.length cap u), .int .i64 i, .int .i64 op, .slice A nq qcap, .slice B nt bcap] w fun e w' => e = .returned (.int .i64 v) ∧ Below w.heap.size w w' := by
  have hb1 := (Below.refl w.heap.size w).alloc (Nat.le_refl _) (.cells #[.slice P zs.length cap, .bool u] 24)
  have hx := Has.new w 24 [.slice P zs.length cap, .bool u]
  have HI := hide (fun W (hb : Below w.heap.size w W) => elems_c zs P cap am ar W (hr.below hb) (by omega) (hE.below hb))
  have hEl := Shp.elems_le zs
  have hb2 := hide (hb1.drew)
  obtain ⟨m, hm⟩ : ∃ m, Hid (Shp.elems zs = m) := ⟨_, hide rfl⟩
  obtain ⟨n, hn⟩ : ∃ n, Hid (zs.length = n) := ⟨_, hide rfl⟩
  rw [hm.out] at HI hV hv hEl
  rw [hn.out] at HI hb1 hx hb2 ⊢
  have HV := hide hV
  have HVV := hide hv
  have HB := hide hb1
  have HX := hide hx
  clear hr hl hE hV hb1 hx hv
  by_cases h0 : i < 0
  · have hv0 := HVV.out (by omega)
    subst hv0
    go_enter Tryd.func57, Tryd.ntmps57
    go_wp2_with fail
    go_ret
    exact ⟨rfl, HB.out⟩
  · have hd : decide (i < 0) = false := by simpa using h0
    have c0 : (w.alloc (.cells #[.slice P n cap, .bool u] 24)).cell? ⟨w.heap.size, 0, none⟩ = some (.slice P n cap) := HX.out.cell 0
    by_cases hi : i < m
    · have hd2 : decide (i ≥ m) = false := by simp; omega
      have hd3 : decide (m ≤ i) = false := by simp; omega
      obtain ⟨k, hk⟩ : ∃ k : Nat, i = k := ⟨i.toNat, by omega⟩
      have HC := hide (fun W => HV.out k W hk hi)
      have hkb : i + 1 ≤ 1000000 := by omega
      have hk0 : 0 ≤ i := by omega
      have HK := hide hk
      have hks : Hid (((k + 1 : Nat) : Int) = i + 1) := hide (by omega)
      rw [hks.out, ← HK.out] at HC
      clear h0 hi hEl hks hk
      go_enter Tryd.func57, Tryd.ntmps57
      go_wp2_with fail
      refine (HI.out _ HB.out).mono ?_
      rintro e w1 ⟨rfl, hb⟩
      have hB1 := HB.out.trans (hb.mono HB.out.size)
      clear c0 HI hb
      have HB1 := hide hB1
      clear hB1
      go_wp2_with fail
      refine (HC.out _ HB1.out).mono ?_
      rintro e w2 ⟨⟨g, rfl, hg, hG⟩, hb⟩
      have hB2 := HB1.out.trans (hb.mono HB1.out.size)
      have c1 : w2.cell? ⟨g, 0, none⟩ = some (.int .i64 v) := hG.cell 0
      have HB2 := hide hB2
      clear HC hb hB2 hG
      go_wp2_with fail
      go_ret
      exact ⟨rfl, HB2.out⟩
    · have hv0 := HVV.out (by omega)
      subst hv0
      have hd2 : decide (i ≥ m) = true := by simp; omega
      clear hEl
      go_enter Tryd.func57, Tryd.ntmps57
      go_wp2_with fail
      refine (HI.out _ HB.out).mono ?_
      rintro e w1 ⟨rfl, hb⟩
      have hB1 := HB.out.trans (hb.mono HB.out.size)
      have HB1 := hide hB1
      clear c0 HI hb hB1
      go_wp2_with fail
      go_ret
      exact ⟨rfl, HB1.out⟩
end Go.Proofs.YtkehdgjdieemkaaDoor
