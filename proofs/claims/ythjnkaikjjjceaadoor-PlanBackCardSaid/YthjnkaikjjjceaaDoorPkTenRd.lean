/-
  Package pack's Reader over any bytes: Desc. By an AI agent. No person has read it.
-/
import Derived.Test.YthjnkaikjjjceaaDoorPkTenU
namespace Go.Proofs.YthjnkaikjjjceaaDoor
open Go.RowKit
/-- The dimensions that a desc's bytes say. -/
def Pk.dims (n : Nat) (bs : List Nat) : List Int := (List.range n).map fun i => ((Pk.val ((bs.take (1 + 2 * i + 2)).drop (1 + 2 * i)) : Nat) : Int)
theorem Pk.dims_succ (n : Nat) (bs : List Nat) : Pk.dims (n + 1) bs = Pk.dims n bs ++ [((Pk.val ((bs.take (1 + 2 * n + 2)).drop (1 + 2 * n)) : Nat) : Int)] := by simp [Pk.dims, List.range_succ]
theorem Pk.dims_length (n : Nat) (bs : List Nat) : (Pk.dims n bs).length = n := by simp [Pk.dims]
/-- A desc's bytes: the error's number. -/
def Pk.code : List Nat → Nat
  | [] => 105
  | h :: t => if 15 < h then 103 else if t.length < 2 * (h % 8) then 105 else 0
theorem ErrIs.grown {w wr : World} {g : Nat} {a : Addr} {row : Option Nat} (h : ErrIs w g a) (hb : w.grownBy wr row) (hr : ∀ k, row = some k → k ≠ g ∧ k ≠ a.block) : ErrIs wr g a := by
  obtain ⟨h1, h2, h3, c, t, h4⟩ := h
  have e1 : some g ≠ row := fun e => (hr g e.symm).1 rfl
  have e2 : some a.block ≠ row := fun e => (hr a.block e.symm).2 rfl
  exact ⟨(World.cell?_of_block (hb.block g h2 e1)).trans h1, Nat.lt_of_lt_of_le h2 hb.size, Nat.lt_of_lt_of_le h3 hb.size, c, t, (hb.block _ h3 e2).trans h4⟩
/-- The Reader in the midst of dimensions. -/
def RSt (g cap : Nat) (A : Option Addr) (bs : List Nat) (ae : Addr) (l : List Int) (W : World) : Prop :=
  Rb W A bs ∧ g < W.heap.size ∧ ErrIs W 3 ae ∧
  ((1 + 2 * l.length ≤ bs.length ∧ Has W g 118 [.slice A bs.length cap, .int .i64 ((1 + 2 * l.length : Nat) : Int), .nilIface] ∧ l = Pk.dims l.length bs) ∨
   (bs.length < 1 + 2 * l.length ∧ ∃ at_ : Nat, at_ ≤ bs.length ∧ Has W g 118 [.slice A bs.length cap, .int .i64 (at_ : Int), errv ae]))
theorem RSt.keep {g cap : Nat} {A : Option Addr} {bs : List Nat} {ae : Addr} {l : List Int} {w W W' : World} {row : Option Nat} (hw : g < w.heap.size) (h1 : 3 < g) (h2 : ae.block < g) (hA : bs ≠ [] → ∀ ad, A = some ad → ad.block < g)
    (h : RSt g cap A bs ae l W) (hb : W.grownBy W' row) (hr : ∀ k, row = some k → w.heap.size ≤ k) : RSt g cap A bs ae l W' := by
  obtain ⟨hB, hg, hE, hR⟩ := h
  have hgr : some g ≠ row := fun e => by have := hr g e.symm; omega
  refine ⟨?_, Nat.lt_of_lt_of_le hg hb.size, hE.grown hb fun k e => by have := hr k e; omega, ?_⟩
  · by_cases hn : bs = []
    · subst hn
      exact ⟨fun b hb => by simp at hb, fun h => absurd rfl h⟩
    · exact hB.grown hb fun ad e _ e2 => by have := hr _ e2.symm; have := hA hn ad e; omega
  · rcases hR with ⟨a, b, c⟩ | ⟨a, at_, b, c⟩
    · exact .inl ⟨a, b.grown hb hgr, c⟩
    · exact .inr ⟨a, at_, b, c.grown hb hgr⟩
set_option maxRecDepth 100000 in
/-- One dimension. -/
theorem rdim_c (g cap : Nat) (A : Option Addr) (bs : List Nat) (ae : Addr) (l : List Int) (W : World) (_hne : bs ≠ []) (h1 : 3 < g) (h2 : ae.block < g) (hA : ∀ ad, A = some ad → ad.block < g) (hc : bs.length ≤ cap) (hl : bs.length ≤ 1000000000) (h : RSt g cap A bs ae l W) :
    Calls Tryd.prog 78 #[.pointer (some ⟨g, 0, none⟩), .int .i64 2] W fun e w' => ∃ z, e = .returned (.int .i64 z) ∧ (Lit.int .i64 z).wf = true ∧ RSt g cap A bs ae (l ++ [z]) w' ∧ W.grownBy w' (some g) := by
  obtain ⟨hB, hg, hE, hR⟩ := h
  have hEk : ∀ W', W.grownBy W' (some g) → ErrIs W' 3 ae := fun W' hb => hE.grown hb fun k e => by cases e; omega
  have hBk : ∀ W', W.grownBy W' (some g) → Rb W' A bs := fun W' hb => hB.grown hb fun ad e _ e2 => by have := hA ad e; injection e2; omega
  have hlen : (l ++ [(0 : Int)]).length = l.length + 1 := by simp
  have hz : (Lit.int .i64 0).wf = true := wf_i64 0 (by omega)
  rcases hR with ⟨ha, hH, hD⟩ | ⟨ha, at_, hat, hH⟩
  · by_cases hmore : 1 + 2 * l.length + 2 ≤ bs.length
    · obtain ⟨cs, hcs⟩ : ∃ cs, Hid (((bs.take (1 + 2 * l.length + 2)).drop (1 + 2 * l.length)) = cs) := ⟨_, hide rfl⟩
      have hcl : cs.length = 2 := by rw [← hcs.out, List.length_drop, List.length_take]; omega
      have hcb : ∀ b ∈ cs, b < 256 := by rw [← hcs.out]; exact fun b hb => hB.1 b (List.mem_of_mem_take (List.mem_of_mem_drop hb))
      have hP := piece_c g (1 + 2 * l.length) cap 2 A bs W hH hB (fun ad e _ => by have := hA ad e; omega) hmore hc hl
      rw [hcs.out] at hP
      have hv := Pk.val_lt cs hcb (by omega)
      refine (number_of g 2 cs (fun w' => Has w' g 118 [.slice A bs.length cap, .int .i64 ((1 + 2 * l.length + 2 : Nat) : Int), .nilIface] ∧ W.grownBy w' (some g)) W hcb (by omega) (hP.mono ?_)).mono ?_
      · rintro e w' ⟨⟨A2, c2, rfl, -, hr⟩, hq⟩
        exact ⟨⟨A2, c2, by rw [hcl], hr⟩, hq⟩
      · rintro e w' ⟨rfl, hq, hgr⟩
        have hl1 : (l ++ [((Pk.val cs : Nat) : Int)]).length = l.length + 1 := by simp
        refine ⟨_, rfl, wf_i64 _ (by omega), ⟨hBk _ hgr, Nat.lt_of_lt_of_le hg hgr.size, hEk _ hgr, .inl ⟨by rw [hl1]; omega, ?_, ?_⟩⟩, hgr⟩
        · rw [hl1, show 1 + 2 * (l.length + 1) = 1 + 2 * l.length + 2 by omega]
          exact hq
        · rw [hl1, Pk.dims_succ, hcs.out, ← hD]
    · have hP := piece_end g (1 + 2 * l.length) bs.length cap 2 A ae W hH hE (by omega) (by omega) hl (by omega)
      refine (number_of g 2 [] (fun w' => Has w' g 118 [.slice A bs.length cap, .int .i64 ((1 + 2 * l.length : Nat) : Int), errv ae] ∧ W.grownBy w' (some g)) W (by simp) (by simp) (hP.mono ?_)).mono ?_
      · rintro e w' ⟨rfl, hq⟩
        exact ⟨⟨none, 0, rfl, by simp, fun h => absurd rfl h⟩, hq⟩
      · rintro e w' ⟨rfl, hq, hgr⟩
        exact ⟨0, rfl, hz, ⟨hBk _ hgr, Nat.lt_of_lt_of_le hg hgr.size, hEk _ hgr, .inr ⟨by rw [hlen]; omega, _, by omega, hq⟩⟩, hgr⟩
  · have hP := piece_bad g at_ bs.length cap 2 A ae (errv ae) (.inl ⟨ae, rfl⟩) W hH hE hat hl
    refine (number_of g 2 [] (fun w' => Has w' g 118 [.slice A bs.length cap, .int .i64 (at_ : Int), errv ae] ∧ W.grownBy w' (some g)) W (by simp) (by simp) (hP.mono ?_)).mono ?_
    · rintro e w' ⟨rfl, hq⟩
      exact ⟨⟨none, 0, rfl, by simp, fun h => absurd rfl h⟩, hq⟩
    · rintro e w' ⟨rfl, hq, hgr⟩
      exact ⟨0, rfl, hz, ⟨hBk _ hgr, Nat.lt_of_lt_of_le hg hgr.size, hEk _ hgr, .inr ⟨by rw [hlen]; omega, _, hat, hq⟩⟩, hgr⟩
/-- The first byte. -/
theorem rcount_c (g cap h : Nat) (A : Option Addr) (t : List Nat) (ae ak : Addr) (w W : World) (hh : h ≤ 15) (h1 : 3 < g) (h2 : ae.block < g) (hA : ∀ ad, A = some ad → ad.block < g) (hc : (h :: t).length ≤ cap) (hl : (h :: t).length ≤ 1000000000)
    (hH0 : Has w g 118 [.slice A (h :: t).length cap, .int .i64 ((0 : Nat) : Int), .nilIface]) (hB0 : Rb w A (h :: t)) (hE0 : ErrIs w 3 ae) (hG : w.grownBy W none) :
    Calls Tryd.prog 36 #[.pointer (some ⟨g, 0, none⟩), .int .i64 1, .int .i64 15, errv ak] W fun e w' => e = .returned (.int .i64 (h : Int)) ∧ RSt g cap A (h :: t) ae [] w' ∧ W.grownBy w' (some g) := by
  have hH := hH0.grown hG (by simp)
  have hB : Rb W A (h :: t) := hB0.grown hG (fun _ _ _ => by simp)
  have hE := hE0.grown hG (fun k e => by cases e)
  have hb : h < 256 := hB.1 h (by simp)
  have hP := piece_c g 0 cap 1 A (h :: t) W hH hB (fun ad e _ => by have := hA ad e; omega) (by simp) hc hl
  rw [show ((h :: t).take (0 + 1)).drop 0 = [h] by simp] at hP
  have hN := number_of g 1 [h] (fun w' => Has w' g 118 [.slice A (h :: t).length cap, .int .i64 ((0 + 1 : Nat) : Int), .nilIface] ∧ W.grownBy w' (some g)) W (by simpa using hb) (by simp) (hP.mono (by
    rintro e w' ⟨⟨A2, c2, rfl, -, hr⟩, hq⟩
    exact ⟨⟨A2, c2, rfl, hr⟩, hq⟩))
  rw [Pk.val_one] at hN
  refine (count_of g 1 15 h _ _ _ (errv ak) _ W hH hh hN).mono ?_
  rintro e w' ⟨rfl, hq, hgr⟩
  exact ⟨rfl, ⟨hB.grown hgr (fun ad e _ e2 => by have := hA ad e; injection e2; omega), Nat.lt_of_lt_of_le hH.lt hgr.size, hE.grown hgr (fun k e => by cases e; omega), .inl ⟨by simp, hq, rfl⟩⟩, hgr⟩
/-- A desc of bytes that begin as one. -/
theorem rdr_desc (g cap h : Nat) (A : Option Addr) (t : List Nat) (ae ak : Addr) (w : World) (hh : h ≤ 15) (h1 : 3 < g) (h2 : ae.block < g) (hA : ∀ ad, A = some ad → ad.block < g) (hc : (h :: t).length ≤ cap) (hl : (h :: t).length ≤ 1000000000)
    (hH : Has w g 118 [.slice A (h :: t).length cap, .int .i64 ((0 : Nat) : Int), .nilIface]) (hB : Rb w A (h :: t)) (hE : ErrIs w 3 ae) (hk : ErrIs w 0 ak) :
    Calls Tryd.prog 37 #[.pointer (some ⟨g, 0, none⟩)] w fun e w' => ∃ (l : List Int) (B : Option Addr) (c : Nat), e = .returned (.agg (dcells B l.length c (decide (8 ≤ h)))) ∧ Ri w' B l ∧ (∀ ad, B = some ad → w.heap.size ≤ ad.block) ∧ l.length = h % 8 ∧ RSt g cap A (h :: t) ae l w' ∧ w.grownBy w' (some g) := by
  refine (rdrdesc_of g h ak (RSt g cap A (h :: t) ae) w hH.lt hh hk (fun l W W' row a b c => RSt.keep hH.lt h1 h2 (fun _ => hA) a b c) (fun W hG => rcount_c g cap h A t ae ak w W hh h1 h2 hA hc hl hH hB hE hG) (fun l W _ hS => rdim_c g cap A (h :: t) ae l W (by simp) h1 h2 hA hc hl hS)).mono ?_
  rintro e w' ⟨l, sv, rfl, hll, hw, hO, hS, hG⟩
  by_cases hv : sv = .slice none 0 0
  · subst hv
    have hl0 : l = [] := by
      rcases hO.2 with ⟨-, hx⟩ | ⟨g, cap, cur, hx, -⟩
      · rw [hx] at hll; exact List.length_eq_zero_iff.1 hll
      · cases hx
    subst hl0
    exact ⟨[], none, 0, rfl, ⟨fun z hz => by simp at hz, fun h => absurd rfl h⟩, (fun _ h => (by cases h)), hll, hS, hG⟩
  · obtain ⟨g4, c4, rest, rfl, hl2, hg4, -, -, hH4⟩ := own_has hO hv
    exact ⟨l, some ⟨g4, 0, none⟩, c4, by rw [hll], hH4.ri_app hw, (fun ad e => (by cases e; exact hg4)), hll, hS, hG⟩
end Go.Proofs.YthjnkaikjjjceaaDoor
namespace Go.Proofs.YthjnkaikjjjceaaDoor
open Go.RowKit
set_option maxRecDepth 100000 in
set_option maxHeartbeats 4000000 in
theorem rdrdesc_zero (g : Nat) (ak : Addr) (Q : World → Prop) (w : World) (hg : g < w.heap.size) (hk : ErrIs w 0 ak)
    (hC : ∀ W, w.grownBy W none → w.heap.size < W.heap.size → Calls Tryd.prog 36 #[.pointer (some ⟨g, 0, none⟩), .int .i64 1, .int .i64 15, errv ak] W fun e w' => e = .returned (.int .i64 0) ∧ Q w' ∧ W.grownBy w' (some g)) :
    Calls Tryd.prog 37 #[.pointer (some ⟨g, 0, none⟩)] w fun e w' => e = .returned (.agg (dcells none 0 0 false)) ∧ (∃ W0, Q W0 ∧ W0.grownBy w' (some w.heap.size)) ∧ w.grownBy w' (some g) := by
  have hb0 := World.grownBy_alloc w (Obj.cells #[.slice none 0 0, .bool false] 59) none
  have HC := hide (hC _ hb0 (by simp))
  have hR0 : Has (w.alloc (Obj.cells #[.slice none 0 0, .bool false] 59)) w.heap.size 59 [.slice none 0 0, .bool false] := Has.new w _ _
  have hkc : (w.alloc (Obj.cells #[.slice none 0 0, .bool false] 59)).cell? ⟨0, 0, none⟩ = some (errv ak) := (hk.below ((Below.refl _ w).alloc (Nat.le_refl _) _)).1
  have hG0 := World.grownBy_alloc w (Obj.cells #[.slice none 0 0, .bool false] 59) (some g)
  have HR0 := hide hR0
  have HG0 := hide hG0
  clear hb0 hC hR0 hk hG0
  go_enter Tryd.func37, Tryd.ntmps37
  go_wp2_with fail
  refine HC.out.mono ?_
  rintro e w1 ⟨rfl, hst, hg1⟩
  have hR1 := HR0.out.grown hg1 (by intro h; have h := Option.some.inj h; omega)
  have hG1 := HG0.out.trans hg1
  have hs1 := hG1.size
  have hlt1 := hR1.lt
  have HQ := hide hst
  have hR2 := hR1.alloc (Obj.cells #[.slice none 0 0, .bool false] 59)
  have hd2 : Has (w1.alloc (Obj.cells #[.slice none 0 0, .bool false] 59)) w1.heap.size 59 [.slice none 0 0, .bool false] := Has.new w1 _ _
  have HGQ := hide (grown_set (grown_set (World.grownBy_alloc w1 (Obj.cells #[.slice none 0 0, .bool false] 59) (some w.heap.size)) ⟨w.heap.size, 0, none⟩ rfl (.slice none 0 0)) ⟨w.heap.size, 1, none⟩ rfl (.bool false))
  have HG9 := hide (grown_setnew (grown_setnew (hG1.trans (World.grownBy_alloc w1 (Obj.cells #[.slice none 0 0, .bool false] 59) (some g))) ⟨w.heap.size, 0, none⟩ (Nat.le_refl _) (.slice none 0 0)) ⟨w.heap.size, 1, none⟩ (Nat.le_refl _) (.bool false))
  have HR9 := hide ((hR2.set_ 0 (.slice none 0 0)).set_ 1 (.bool false))
  have HR2 := hide hR2
  have HD2 := hide hd2
  clear hst hg1 hR1 hG1 hR2 hd2 HC HR0 HG0 hkc hs1 hlt1
  go_wp2_with fail
  generalize w1.alloc (Obj.cells #[.slice none 0 0, .bool false] 59) = W1 at *
  generalize w1.heap.size = Bd at *
  go_loopw [13] (fun k wr => k = .int .i64 0 ∧ wr = W1) (fun _ _ => 0)
  case atStart => exact ⟨rfl, rfl⟩
  case round =>
    obtain ⟨rfl, rfl⟩ := hrel
    have hd := HD2.out
    have hR := HR2.out
    have c0 : wr.cell? ⟨Bd, 0, none⟩ = some (.slice none 0 0) := by rw [hd.cell]; rfl
    have c1 : wr.cell? ⟨Bd, 1, none⟩ = some (.bool false) := by rw [hd.cell]; rfl
    have d0 : wr.cell? ⟨w.heap.size, 0, none⟩ = some (.slice none 0 0) := by rw [hR.cell]; rfl
    have d1 : wr.cell? ⟨w.heap.size, 1, none⟩ = some (.bool false) := by rw [hR.cell]; rfl
    have f0 := hR.frozen 0
    have f1 := hR.frozen 1
    clear hd hR
    go_wp2_with fail
    refine bodyPost_ret (results_cell_row rfl _ _ w.heap.size 59 #[.slice none 0 0, .bool false] (0, 0) _ rfl HR9.out Tryd.underlying59 rfl (by kernel_rfl)) rfl ?_
    exact ⟨rfl, ⟨_, HQ.out, HGQ.out⟩, HG9.out⟩
/-- An error, and what it is by itself. -/
def AloneV (W : World) (a : Addr) (v : Value) : Prop := v = errv a ∨ ∃ g2 i, v = .iface 119 (.pointer (some ⟨g2, 0, none⟩)) ∧ Has W g2 122 [.int .i64 i, errv a]
theorem AloneV.is {W : World} {a : Addr} {v : Value} (h : AloneV W a v) : IsErr v := h.elim (fun h => .inl ⟨a, h⟩) (fun ⟨g, _, h, _⟩ => .inr ⟨g, h⟩)
theorem alone_v {W : World} {a : Addr} {v : Value} (h : AloneV W a v) : Calls Tryd.prog 76 #[v] W fun e w' => e = .returned (errv a) ∧ w' = W := by
  rcases h with rfl | ⟨g2, i, rfl, h⟩
  · exact alone_err a W
  · exact alone_at a g2 i W h
/-- No bytes. -/
theorem rdr_none (g cap : Nat) (A : Option Addr) (ae ak : Addr) (w : World) (_h1 : 3 < g)
    (hH : Has w g 118 [.slice A 0 cap, .int .i64 ((0 : Nat) : Int), .nilIface]) (hE : ErrIs w 3 ae) (hk : ErrIs w 0 ak) :
    Calls Tryd.prog 37 #[.pointer (some ⟨g, 0, none⟩)] w fun e w' => e = .returned (.agg (dcells none 0 0 false)) ∧ (∃ at_ v, at_ ≤ 0 ∧ Has w' g 118 [.slice A 0 cap, .int .i64 ((at_ : Nat) : Int), v] ∧ AloneV w' ae v) ∧ w.grownBy w' (some g) := by
  refine (rdrdesc_zero g ak (fun W => Has W g 118 [.slice A 0 cap, .int .i64 ((0 : Nat) : Int), errv ae]) w hH.lt hk fun W hG hs => ?_).mono ?_
  · have hH2 := hH.grown hG (by simp)
    have hP := piece_end g 0 0 cap 1 A ae W hH2 (hE.grown hG (fun k e => by cases e)) (by omega) (by omega) (by omega) (by omega)
    have hN := number_of g 1 [] (fun w' => Has w' g 118 [.slice A 0 cap, .int .i64 ((0 : Nat) : Int), errv ae] ∧ W.grownBy w' (some g)) W (by simp) (by simp) (hP.mono (by
      rintro e w' ⟨rfl, hq⟩
      exact ⟨⟨none, 0, rfl, by simp, fun h => absurd rfl h⟩, hq⟩))
    exact count_of g 1 15 0 _ _ _ (errv ak) _ W hH2 (by omega) hN
  · rintro e w' ⟨rfl, ⟨W0, hq, hg0⟩, hg⟩
    have hlt := hH.lt
    exact ⟨rfl, ⟨0, errv ae, Nat.le_refl _, hq.grown hg0 (by intro h; injection h; omega), .inl rfl⟩, hg⟩
/-- Bytes that begin as no desc. -/
theorem rdr_kind (g cap h : Nat) (A : Option Addr) (t : List Nat) (_ae ak : Addr) (w : World) (hh : 15 < h) (_h1 : 3 < g) (hA : ∀ ad, A = some ad → ad.block < g) (hc : (h :: t).length ≤ cap) (hl : (h :: t).length ≤ 1000000000)
    (hH : Has w g 118 [.slice A (h :: t).length cap, .int .i64 ((0 : Nat) : Int), .nilIface]) (hB : Rb w A (h :: t)) (hk : ErrIs w 0 ak) :
    Calls Tryd.prog 37 #[.pointer (some ⟨g, 0, none⟩)] w fun e w' => e = .returned (.agg (dcells none 0 0 false)) ∧ (∃ at_ v, at_ ≤ (h :: t).length ∧ Has w' g 118 [.slice A (h :: t).length cap, .int .i64 ((at_ : Nat) : Int), v] ∧ AloneV w' ak v) ∧ w.grownBy w' (some g) := by
  have hlt := hH.lt
  refine (rdrdesc_zero g ak (fun W => ∃ g2, w.heap.size < g2 ∧ Has W g2 122 [.int .i64 ((0 : Nat) : Int), errv ak] ∧ Has W g 118 [.slice A (h :: t).length cap, .int .i64 ((1 : Nat) : Int), .iface 119 (.pointer (some ⟨g2, 0, none⟩))]) w hH.lt hk fun W hG hs => ?_).mono ?_
  · have hH2 := hH.grown hG (by simp)
    have hB2 : Rb W A (h :: t) := hB.grown hG (fun _ _ _ => by simp)
    have hb : h < 256 := hB2.1 h (by simp)
    have hP := piece_c g 0 cap 1 A (h :: t) W hH2 hB2 (fun ad e _ => by have := hA ad e; omega) (by simp) hc hl
    rw [show ((h :: t).take (0 + 1)).drop 0 = [h] by simp] at hP
    have hN := number_of g 1 [h] (fun w' => Has w' g 118 [.slice A (h :: t).length cap, .int .i64 ((1 : Nat) : Int), .nilIface] ∧ W.grownBy w' (some g)) W (by simpa using hb) (by simp) (hP.mono (by
      rintro e w' ⟨⟨A2, c2, rfl, -, hr⟩, hq⟩
      exact ⟨⟨A2, c2, rfl, hr⟩, hq⟩))
    rw [Pk.val_one] at hN
    refine (count_many g 1 15 h _ _ _ ak W hH2 hh hN).mono ?_
    rintro e w' ⟨rfl, ⟨g2, -, hle, hA2, hR2⟩, hgr⟩
    exact ⟨rfl, ⟨g2, by omega, hA2, hR2⟩, hgr⟩
  · rintro e w' ⟨rfl, ⟨W0, ⟨g2, hg2, hA2, hR2⟩, hg0⟩, hg⟩
    exact ⟨rfl, ⟨1, _, by simp, hR2.grown hg0 (by intro h; injection h; omega), .inr ⟨g2, _, rfl, hA2.grown hg0 (by intro h; injection h; omega)⟩⟩, hg⟩
end Go.Proofs.YthjnkaikjjjceaaDoor
