/-
  Package pack's Reader over any bytes: Desc. By an AI agent. No person has read it.
-/
import Derived.Test.YthjnkaikjjjceaaDoorPcTenU
namespace Go.Proofs.YthjnkaikjjjceaaDoor
open Go.RowKit
/-- The dimensions that a desc's bytes say. -/
def Pk.dims (n : Nat) (bs : List Nat) : List Int := (List.range n).map fun i => ((Pk.val ((bs.take (1 + 2 * i + 2)).drop (1 + 2 * i)) : Nat) : Int)
theorem ErrIs.grown {w wr : World} {g : Nat} {a : Addr} {row : Option Nat} (h : ErrIs w g a) (hb : w.grownBy wr row) (hr : ∀ k, row = some k → k ≠ g ∧ k ≠ a.block) : ErrIs wr g a := by
  obtain ⟨h1, h2, h3, c, t, h4⟩ := h
  have e1 : some g ≠ row := fun e => (hr g e.symm).1 rfl
  have e2 : some a.block ≠ row := fun e => (hr a.block e.symm).2 rfl
  exact ⟨(World.cell?_of_block (hb.block g h2 e1)).trans h1, Nat.lt_of_lt_of_le h2 hb.size, Nat.lt_of_lt_of_le h3 hb.size, c, t, (hb.block _ h3 e2).trans h4⟩
/-- The Reader in the midst of dimensions. -/
def RSt (g cap : Nat) (A : Option Addr) (bs : List Nat) (ae : Addr) (l : List Int) (W : World) : Prop :=
  Rb W A bs ∧ g < W.heap.size ∧ ErrIs W 3 ae ∧
  ((1 + 2 * l.length ≤ bs.length ∧ Has W g 118 [.slice A bs.length cap, .int .i64 ((1 + 2 * l.length : Nat) : Int), .nilIface] ∧ l = Pk.dims l.length bs) ∨
   (bs.length < 1 + 2 * l.length ∧ ∃ at_ : Nat, at_ ≤ bs.length ∧ Has W g 118 [.slice A bs.length cap, .int .i64 (at_ : Int), errv ae]))
theorem RSt.keep {g cap : Nat} {A : Option Addr} {bs : List Nat} {ae : Addr} {l : List Int} {w W W' : World} {row : Option Nat} (hw : g < w.heap.size) (h1 : 3 < g) (h2 : ae.block < g) (hA : bs ≠ [] → ∀ ad, A = some ad → ad.block < g)
    (h : RSt g cap A bs ae l W) (hb : W.grownBy W' row) (hr : ∀ k, row = some k → w.heap.size ≤ k) : RSt g cap A bs ae l W' := by
  obtain ⟨hB, hg, hE, hR⟩ := h
  have hgr : some g ≠ row := fun e => by have := hr g e.symm; omega
  refine ⟨?_, Nat.lt_of_lt_of_le hg hb.size, hE.grown hb fun k e => by have := hr k e; omega, ?_⟩
  · by_cases hn : bs = []
    · subst hn
      exact ⟨fun b hb => by simp at hb, fun h => absurd rfl h⟩
    · exact hB.grown hb fun ad e _ e2 => by have := hr _ e2.symm; have := hA hn ad e; omega
  · rcases hR with ⟨a, b, c⟩ | ⟨a, at_, b, c⟩
    · exact .inl ⟨a, b.grown hb hgr, c⟩
    · exact .inr ⟨a, at_, b, c.grown hb hgr⟩
end Go.Proofs.YthjnkaikjjjceaaDoor
namespace Go.Proofs.YthjnkaikjjjceaaDoor
open Go.RowKit
set_option maxRecDepth 100000 in
set_option maxHeartbeats 4000000 in
theorem rdrdesc_zero (g : Nat) (ak : Addr) (Q : World → Prop) (w : World) (hg : g < w.heap.size) (hk : ErrIs w 0 ak)
    (hC : ∀ W, w.grownBy W none → w.heap.size < W.heap.size → Calls Tryd.prog 36 #[.pointer (some ⟨g, 0, none⟩), .int .i64 1, .int .i64 15, errv ak] W fun e w' => e = .returned (.int .i64 0) ∧ Q w' ∧ W.grownBy w' (some g)) :
    Calls Tryd.prog 37 #[.pointer (some ⟨g, 0, none⟩)] w fun e w' => e = .returned (.agg (dcells none 0 0 false)) ∧ (∃ W0, Q W0 ∧ W0.grownBy w' (some w.heap.size)) ∧ w.grownBy w' (some g) := by
  have hb0 := World.grownBy_alloc w (Obj.cells #[.slice none 0 0, .bool false] 59) none
  have HC := hide (hC _ hb0 (by simp))
  have hR0 : Has (w.alloc (Obj.cells #[.slice none 0 0, .bool false] 59)) w.heap.size 59 [.slice none 0 0, .bool false] := Has.new w _ _
  have hkc : (w.alloc (Obj.cells #[.slice none 0 0, .bool false] 59)).cell? ⟨0, 0, none⟩ = some (errv ak) := (hk.below ((Below.refl _ w).alloc (Nat.le_refl _) _)).1
  have hG0 := World.grownBy_alloc w (Obj.cells #[.slice none 0 0, .bool false] 59) (some g)
  have HR0 := hide hR0
  have HG0 := hide hG0
  clear hb0 hC hR0 hk hG0
  go_enter Tryd.func37, Tryd.ntmps37
  go_wp2_with fail
  refine HC.out.mono ?_
  rintro e w1 ⟨rfl, hst, hg1⟩
  have hR1 := HR0.out.grown hg1 (by intro h; have h := Option.some.inj h; omega)
  have hG1 := HG0.out.trans hg1
  have hs1 := hG1.size
  have hlt1 := hR1.lt
  have HQ := hide hst
  have hR2 := hR1.alloc (Obj.cells #[.slice none 0 0, .bool false] 59)
  have hd2 : Has (w1.alloc (Obj.cells #[.slice none 0 0, .bool false] 59)) w1.heap.size 59 [.slice none 0 0, .bool false] := Has.new w1 _ _
  have HGQ := hide (grown_set (grown_set (World.grownBy_alloc w1 (Obj.cells #[.slice none 0 0, .bool false] 59) (some w.heap.size)) ⟨w.heap.size, 0, none⟩ rfl (.slice none 0 0)) ⟨w.heap.size, 1, none⟩ rfl (.bool false))
  have HG9 := hide (grown_setnew (grown_setnew (hG1.trans (World.grownBy_alloc w1 (Obj.cells #[.slice none 0 0, .bool false] 59) (some g))) ⟨w.heap.size, 0, none⟩ (Nat.le_refl _) (.slice none 0 0)) ⟨w.heap.size, 1, none⟩ (Nat.le_refl _) (.bool false))
  have HR9 := hide ((hR2.set_ 0 (.slice none 0 0)).set_ 1 (.bool false))
  have HR2 := hide hR2
  have HD2 := hide hd2
  clear hst hg1 hR1 hG1 hR2 hd2 HC HR0 HG0 hkc hs1 hlt1
  go_wp2_with fail
  generalize w1.alloc (Obj.cells #[.slice none 0 0, .bool false] 59) = W1 at *
  generalize w1.heap.size = Bd at *
  go_loopw [13] (fun k wr => k = .int .i64 0 ∧ wr = W1) (fun _ _ => 0)
  case atStart => exact ⟨rfl, rfl⟩
  case round =>
    obtain ⟨rfl, rfl⟩ := hrel
    have hd := HD2.out
    have hR := HR2.out
    have c0 : wr.cell? ⟨Bd, 0, none⟩ = some (.slice none 0 0) := by rw [hd.cell]; rfl
    have c1 : wr.cell? ⟨Bd, 1, none⟩ = some (.bool false) := by rw [hd.cell]; rfl
    have d0 : wr.cell? ⟨w.heap.size, 0, none⟩ = some (.slice none 0 0) := by rw [hR.cell]; rfl
    have d1 : wr.cell? ⟨w.heap.size, 1, none⟩ = some (.bool false) := by rw [hR.cell]; rfl
    have f0 := hR.frozen 0
    have f1 := hR.frozen 1
    clear hd hR
    go_wp2_with fail
    refine bodyPost_ret (results_cell_row rfl _ _ w.heap.size 59 #[.slice none 0 0, .bool false] (0, 0) _ rfl HR9.out Tryd.underlying59 rfl (by kernel_rfl)) rfl ?_
    exact ⟨rfl, ⟨_, HQ.out, HGQ.out⟩, HG9.out⟩
/-- An error, and what it is by itself. -/
def AloneV (W : World) (a : Addr) (v : Value) : Prop := v = errv a ∨ ∃ g2 i, v = .iface 119 (.pointer (some ⟨g2, 0, none⟩)) ∧ Has W g2 122 [.int .i64 i, errv a]
theorem AloneV.is {W : World} {a : Addr} {v : Value} (h : AloneV W a v) : IsErr v := h.elim (fun h => .inl ⟨a, h⟩) (fun ⟨g, _, h, _⟩ => .inr ⟨g, h⟩)
end Go.Proofs.YthjnkaikjjjceaaDoor
