/-
  Package pack's Reader over bytes that are no desc: Desc. By an AI agent. No person has read it.
-/
import Derived.Test.YthjnkaikjjjceaaDoorPbTenRd
namespace Go.Proofs.YthjnkaikjjjceaaDoor
open Go.RowKit
set_option maxRecDepth 100000 in
set_option maxHeartbeats 4000000 in
theorem rdrdesc_zero (g : Nat) (ak : Addr) (Q : World → Prop) (w : World) (hg : g < w.heap.size) (hk : ErrIs w 0 ak)
    (hC : ∀ W, w.grownBy W none → w.heap.size < W.heap.size → Calls Tryd.prog 36 #[.pointer (some ⟨g, 0, none⟩), .int .i64 1, .int .i64 15, errv ak] W fun e w' => e = .returned (.int .i64 0) ∧ Q w' ∧ W.grownBy w' (some g)) :
    Calls Tryd.prog 37 #[.pointer (some ⟨g, 0, none⟩)] w fun e w' => e = .returned (.agg (dcells none 0 0 false)) ∧ (∃ W0, Q W0 ∧ W0.grownBy w' (some w.heap.size)) ∧ w.grownBy w' (some g) := by
  have hb0 := World.grownBy_alloc w (Obj.cells #[.slice none 0 0, .bool false] 59) none
  have HC := hide (hC _ hb0 (by simp))
  have hR0 : Has (w.alloc (Obj.cells #[.slice none 0 0, .bool false] 59)) w.heap.size 59 [.slice none 0 0, .bool false] := Has.new w _ _
  have hkc : (w.alloc (Obj.cells #[.slice none 0 0, .bool false] 59)).cell? ⟨0, 0, none⟩ = some (errv ak) := (hk.below ((Below.refl _ w).alloc (Nat.le_refl _) _)).1
  have hG0 := World.grownBy_alloc w (Obj.cells #[.slice none 0 0, .bool false] 59) (some g)
  have HR0 := hide hR0
  have HG0 := hide hG0
  clear hb0 hC hR0 hk hG0
  go_enter Tryd.func37, Tryd.ntmps37
  go_wp2_with fail
  refine HC.out.mono ?_
  rintro e w1 ⟨rfl, hst, hg1⟩
  have hR1 := HR0.out.grown hg1 (by intro h; have h := Option.some.inj h; omega)
  have hG1 := HG0.out.trans hg1
  have hs1 := hG1.size
  have hlt1 := hR1.lt
  have HQ := hide hst
  have hR2 := hR1.alloc (Obj.cells #[.slice none 0 0, .bool false] 59)
  have hd2 : Has (w1.alloc (Obj.cells #[.slice none 0 0, .bool false] 59)) w1.heap.size 59 [.slice none 0 0, .bool false] := Has.new w1 _ _
  have HGQ := hide (grown_set (grown_set (World.grownBy_alloc w1 (Obj.cells #[.slice none 0 0, .bool false] 59) (some w.heap.size)) ⟨w.heap.size, 0, none⟩ rfl (.slice none 0 0)) ⟨w.heap.size, 1, none⟩ rfl (.bool false))
  have HG9 := hide (grown_setnew (grown_setnew (hG1.trans (World.grownBy_alloc w1 (Obj.cells #[.slice none 0 0, .bool false] 59) (some g))) ⟨w.heap.size, 0, none⟩ (Nat.le_refl _) (.slice none 0 0)) ⟨w.heap.size, 1, none⟩ (Nat.le_refl _) (.bool false))
  have HR9 := hide ((hR2.set_ 0 (.slice none 0 0)).set_ 1 (.bool false))
  have HR2 := hide hR2
  have HD2 := hide hd2
  clear hst hg1 hR1 hG1 hR2 hd2 HC HR0 HG0 hkc hs1 hlt1
  go_wp2_with fail
  generalize w1.alloc (Obj.cells #[.slice none 0 0, .bool false] 59) = W1 at *
  generalize w1.heap.size = Bd at *
  go_loopw [13] (fun k wr => k = .int .i64 0 ∧ wr = W1) (fun _ _ => 0)
  case atStart => exact ⟨rfl, rfl⟩
  case round =>
    obtain ⟨rfl, rfl⟩ := hrel
    have hd := HD2.out
    have hR := HR2.out
    have c0 : wr.cell? ⟨Bd, 0, none⟩ = some (.slice none 0 0) := by rw [hd.cell]; rfl
    have c1 : wr.cell? ⟨Bd, 1, none⟩ = some (.bool false) := by rw [hd.cell]; rfl
    have d0 : wr.cell? ⟨w.heap.size, 0, none⟩ = some (.slice none 0 0) := by rw [hR.cell]; rfl
    have d1 : wr.cell? ⟨w.heap.size, 1, none⟩ = some (.bool false) := by rw [hR.cell]; rfl
    have f0 := hR.frozen 0
    have f1 := hR.frozen 1
    clear hd hR
    go_wp2_with fail
    refine bodyPost_ret (results_cell_row rfl _ _ w.heap.size 59 #[.slice none 0 0, .bool false] (0, 0) _ rfl HR9.out Tryd.underlying59 rfl (by kernel_rfl)) rfl ?_
    exact ⟨rfl, ⟨_, HQ.out, HGQ.out⟩, HG9.out⟩
/-- An error, and what it is by itself. -/
def AloneV (W : World) (a : Addr) (v : Value) : Prop := v = errv a ∨ ∃ g2 i, v = .iface 119 (.pointer (some ⟨g2, 0, none⟩)) ∧ Has W g2 122 [.int .i64 i, errv a]
theorem AloneV.is {W : World} {a : Addr} {v : Value} (h : AloneV W a v) : IsErr v := h.elim (fun h => .inl ⟨a, h⟩) (fun ⟨g, _, h, _⟩ => .inr ⟨g, h⟩)
theorem alone_v {W : World} {a : Addr} {v : Value} (h : AloneV W a v) : Calls Tryd.prog 76 #[v] W fun e w' => e = .returned (errv a) ∧ w' = W := by
  rcases h with rfl | ⟨g2, i, rfl, h⟩
  · exact alone_err a W
  · exact alone_at a g2 i W h
/-- No bytes. -/
theorem rdr_none (g cap : Nat) (A : Option Addr) (ae ak : Addr) (w : World) (_h1 : 3 < g)
    (hH : Has w g 118 [.slice A 0 cap, .int .i64 ((0 : Nat) : Int), .nilIface]) (hE : ErrIs w 3 ae) (hk : ErrIs w 0 ak) :
    Calls Tryd.prog 37 #[.pointer (some ⟨g, 0, none⟩)] w fun e w' => e = .returned (.agg (dcells none 0 0 false)) ∧ (∃ at_ v, at_ ≤ 0 ∧ Has w' g 118 [.slice A 0 cap, .int .i64 ((at_ : Nat) : Int), v] ∧ AloneV w' ae v) ∧ w.grownBy w' (some g) := by
  refine (rdrdesc_zero g ak (fun W => Has W g 118 [.slice A 0 cap, .int .i64 ((0 : Nat) : Int), errv ae]) w hH.lt hk fun W hG hs => ?_).mono ?_
  · have hH2 := hH.grown hG (by simp)
    have hP := piece_end g 0 0 cap 1 A ae W hH2 (hE.grown hG (fun k e => by cases e)) (by omega) (by omega) (by omega) (by omega)
    have hN := number_of g 1 [] (fun w' => Has w' g 118 [.slice A 0 cap, .int .i64 ((0 : Nat) : Int), errv ae] ∧ W.grownBy w' (some g)) W (by simp) (by simp) (hP.mono (by
      rintro e w' ⟨rfl, hq⟩
      exact ⟨⟨none, 0, rfl, by simp, fun h => absurd rfl h⟩, hq⟩))
    exact count_of g 1 15 0 _ _ _ (errv ak) _ W hH2 (by omega) hN
  · rintro e w' ⟨rfl, ⟨W0, hq, hg0⟩, hg⟩
    have hlt := hH.lt
    exact ⟨rfl, ⟨0, errv ae, Nat.le_refl _, hq.grown hg0 (by intro h; injection h; omega), .inl rfl⟩, hg⟩
/-- Bytes that begin as no desc. -/
theorem rdr_kind (g cap h : Nat) (A : Option Addr) (t : List Nat) (_ae ak : Addr) (w : World) (hh : 15 < h) (_h1 : 3 < g) (hA : ∀ ad, A = some ad → ad.block < g) (hc : (h :: t).length ≤ cap) (hl : (h :: t).length ≤ 1000000000)
    (hH : Has w g 118 [.slice A (h :: t).length cap, .int .i64 ((0 : Nat) : Int), .nilIface]) (hB : Rb w A (h :: t)) (hk : ErrIs w 0 ak) :
    Calls Tryd.prog 37 #[.pointer (some ⟨g, 0, none⟩)] w fun e w' => e = .returned (.agg (dcells none 0 0 false)) ∧ (∃ at_ v, at_ ≤ (h :: t).length ∧ Has w' g 118 [.slice A (h :: t).length cap, .int .i64 ((at_ : Nat) : Int), v] ∧ AloneV w' ak v) ∧ w.grownBy w' (some g) := by
  have hlt := hH.lt
  refine (rdrdesc_zero g ak (fun W => ∃ g2, w.heap.size < g2 ∧ Has W g2 122 [.int .i64 ((0 : Nat) : Int), errv ak] ∧ Has W g 118 [.slice A (h :: t).length cap, .int .i64 ((1 : Nat) : Int), .iface 119 (.pointer (some ⟨g2, 0, none⟩))]) w hH.lt hk fun W hG hs => ?_).mono ?_
  · have hH2 := hH.grown hG (by simp)
    have hB2 : Rb W A (h :: t) := hB.grown hG (fun _ _ _ => by simp)
    have hb : h < 256 := hB2.1 h (by simp)
    have hP := piece_c g 0 cap 1 A (h :: t) W hH2 hB2 (fun ad e _ => by have := hA ad e; omega) (by simp) hc hl
    rw [show ((h :: t).take (0 + 1)).drop 0 = [h] by simp] at hP
    have hN := number_of g 1 [h] (fun w' => Has w' g 118 [.slice A (h :: t).length cap, .int .i64 ((1 : Nat) : Int), .nilIface] ∧ W.grownBy w' (some g)) W (by simpa using hb) (by simp) (hP.mono (by
      rintro e w' ⟨⟨A2, c2, rfl, -, hr⟩, hq⟩
      exact ⟨⟨A2, c2, rfl, hr⟩, hq⟩))
    rw [Pk.val_one] at hN
    refine (count_many g 1 15 h _ _ _ ak W hH2 hh hN).mono ?_
    rintro e w' ⟨rfl, ⟨g2, -, hle, hA2, hR2⟩, hgr⟩
    exact ⟨rfl, ⟨g2, by omega, hA2, hR2⟩, hgr⟩
  · rintro e w' ⟨rfl, ⟨W0, ⟨g2, hg2, hA2, hR2⟩, hg0⟩, hg⟩
    exact ⟨rfl, ⟨1, _, by simp, hR2.grown hg0 (by intro h; injection h; omega), .inr ⟨g2, _, rfl, hA2.grown hg0 (by intro h; injection h; omega)⟩⟩, hg⟩
end Go.Proofs.YthjnkaikjjjceaaDoor
