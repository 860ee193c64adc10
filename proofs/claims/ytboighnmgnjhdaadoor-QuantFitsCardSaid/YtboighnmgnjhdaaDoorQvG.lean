/-
  The nine bytes of a scale. By an AI agent. No person has read it.
-/
import Derived.Test.YtboighnmgnjhdaaDoorQvB
import Derived.Test.YtboighnmgnjhdaaDoorFltBz
import Derived.Deep.RegionLaw
import Derived.Deep.RegionHeld3
namespace Go.Proofs.YtboighnmgnjhdaaDoor
open Go.RowKit
open Ieee

theorem qu8s_one (bs : List Nat) : ∀ u ∈ u8s bs, u.oneCell' = true := by
  intro u hu
  obtain ⟨x, _, rfl⟩ := List.mem_map.1 hu
  rfl
theorem qrun_append_bs (w : World) (ty : TypeId) (base : Nat) (v : Value) (n : Nat) (xs : List Value) (hown : w.ownsRow base 5 1 v n xs) (ad : Addr) (cap : Nat) (bs : List Nat) (hc : ∀ (i b : Nat), bs[i]? = some b → w.cell? (ad.add i) = some (.int .u8 b))
    (hs : n + bs.length ≤ 1000000000000) (hbase : base ≤ w.heap.size) :
    ∃ v' w', (Builtin.append_ #[53, 53] ty #[v, .slice (some ad) bs.length cap]).run Tryd.prog w = .ok v' w' ∧ w'.ownsRow base 5 1 v' (n + bs.length) (xs ++ u8s bs) ∧ w.grownBy w' v.ownBlock := by
  obtain ⟨i, hi, hz0, hz1, hz2⟩ := u8info
  obtain ⟨v', w', h1, h2, h3, _, -⟩ := run_append_own_at (P := Tryd.prog) w base 53 ty 5 i (.int .u8 0) 1 1 ubs hi hz0 hz1 hz2 rfl (by decide) v n xs hown ad bs.length cap (u8s bs) (by simp) (by
    intro j u hj
    rw [List.getElem?_map, Option.map_eq_some_iff] at hj
    obtain ⟨b, hb, rfl⟩ := hj
    exact hc j b hb) (qu8s_one bs) (by unfold maxLen; omega) (by omega) hbase
  exact ⟨v', w', h1, h2, h3⟩
theorem qstep_append_bs {w : World} {ops : Array Oper} {o : Oper} {a : Act} {K : Act → World → Prop} {Q : Exit → Act → World → Prop} {E : Prop} (hgd : o.guard = none) (s x : Operand)
    (ho : o.op = .call { callee := .builtin .append, args := #[s, x], argTypes := #[53, 53] })
    (base : Nat) (v : Value) (n : Nat) (xs : List Value) (hs : a.eval s = v) (hown : w.ownsRow base 5 1 v n xs) (ad : Addr) (m cap : Nat) (bs : List Nat) (hx : a.eval x = .slice (some ad) m cap) (hm : bs.length = m) (hc : ∀ (i b : Nat), bs[i]? = some b → w.cell? (ad.add i) = some (.int .u8 b))
    (hb : n + m ≤ 1000000000000) (hbase : base ≤ w.heap.size)
    (h : ∀ v' w', w'.ownsRow base 5 1 v' (n + m) (xs ++ u8s bs) → w.grownBy w' v.ownBlock → K (a.put o.dst v') w') :
    if Region.wanted o (yielded ops a.tmps) = true then Oper.wp Tryd.prog o a w K Q else E := by
  have hw : Region.wanted o (yielded ops a.tmps) = true := by simp [Region.wanted, hgd]
  rw [if_pos hw]
  subst hm
  obtain ⟨v', w', hrun, h2, h3⟩ := qrun_append_bs w o.type base v n xs hown ad cap bs hc hb hbase
  unfold Oper.wp
  simp only [execOp, ho, resolve, invoke, builtin, Sem.run_bind, Sem.run_pure, Result.andThen_ok, List.map_toArray, List.map_cons, List.map_nil, hs, hx, hrun]
  exact h v' w' h2 h3
theorem own_eight {w : World} {g base : Nat} {l : List Nat} (h : Has w g 5 (u8s l)) (hl : l.length = 8) (hb : base ≤ g) : w.ownsRow base 5 1 (.slice (some ⟨g, 0, none⟩) 8 8) 8 (u8s l) :=
  ⟨by simp [hl], .inr ⟨g, 8, (u8s l).toArray, rfl, hb, h, Nat.le_refl _, by decide, by simp [hl], by rw [List.take_of_length_le (by simp [hl])]⟩⟩
theorem lit_cell {w : World} {g : Nat} {t : TypeId} (c : Nat) (h : Has w g t [.int .u8 (c : Nat)]) : ∀ (i b : Nat), [c][i]? = some b → w.cell? ((⟨g, 0, none⟩ : Addr).add i) = some (.int .u8 b) := by
  intro i b hi
  rcases i with _ | i
  · simp at hi
    subst hi
    rw [Addr.add_lit]
    exact h.cell 0
  · simp at hi
theorem byt_kept {W W' : World} {p : Addr} {v : Value} (h : W.cell? p = some v) (hb : Below W.heap.size W W') : W'.cell? p = some v :=
  (hb.cell (World.block_lt_of_cell? W p h)).trans h
abbrev BytS (g : Nat) (wr : World) (x1 x2 : Value) (W : World) : Prop :=
  W.cell? ⟨g, 0, none⟩ = some x1 ∧ W.cell? ⟨g, 1, none⟩ = some x2 ∧ Hid (Below wr.heap.size wr W)
theorem BytS.keep {g : Nat} {wr : World} {x1 x2 : Value} {W W' : World} (h : BytS g wr x1 x2 W) (hb : Below W.heap.size W W') : BytS g wr x1 x2 W' := by
  obtain ⟨h1, h2, h⟩ := h
  exact ⟨byt_kept h1 hb, byt_kept h2 hb, hide (h.out.trans (hb.mono h.out.size))⟩
theorem BytS.of {g : Nat} {wr : World} {x1 x2 : Value} {W' : World} (h : wr.cell? ⟨g, 0, none⟩ = some x1 ∧ wr.cell? ⟨g, 1, none⟩ = some x2) (hb : Below wr.heap.size wr W') : BytS g wr x1 x2 W' :=
  ⟨byt_kept h.1 hb, byt_kept h.2 hb, hide hb⟩
theorem BytS.low {g : Nat} {wr : World} {x1 x2 : Value} {W : World} (h : BytS g wr x1 x2 W) : Below wr.heap.size wr W := h.2.2.out
set_option maxRecDepth 100000 in
set_option maxHeartbeats 4000000 in
theorem sbytes_c (b : Nat) (z : Int) (hb : b < 18446744073709551616) (hp : Qua.pos b = true) (c : Nat) (hc : c < 256) (hz : z = (c : Int) - 128) (w : World) :
    Calls Tryd.prog 38 #[.agg #[.float .f64 b, .int .i64 z]] w fun e w' => (∃ A cap, (9 ≤ cap ∧ cap ≤ 9223372036854775807) ∧ e = .returned (.slice A 9 cap) ∧ Rb w' A (Flt.by8 b ++ [c])) ∧ Below w.heap.size w w' := by
  have HF := hide (floatbytes_at b hb)
  have ht : Flt.told b = b := by
    unfold Flt.told
    rw [if_neg]
    unfold Flt.nanb
    unfold Qua.pos at hp
    simp at hp ⊢
    omega
  rw [ht] at HF
  have HB := hide ((Below.refl w.heap.size w).alloc (Nat.le_refl _) (.cells #[.float .f64 b, .int .i64 z] 33))
  have hn0 := scale_cells w b z
  have hS0 : BytS w.heap.size (w.alloc (.cells #[.float .f64 b, .int .i64 z] 33)) (.float .f64 b) (.int .i64 z) (w.alloc (.cells #[.float .f64 b, .int .i64 z] 33)).drew := ⟨hn0.1, hn0.2, hide (Below.refl _ _).drew⟩
  have HC := hide hn0
  clear hn0
  obtain ⟨l, hl⟩ : ∃ l, Hid (Flt.by8 b = l) := ⟨_, hide rfl⟩
  have hl8 : Hid (l.length = 8) := by rw [← hl.out]; exact hide rfl
  have hlb : Hid (∀ x ∈ l, x < 256) := by rw [← hl.out]; exact hide (Flt.by8_lt b)
  rw [hl.out] at HF ⊢
  have s1 : IntKind.i64.wrap (z + 128) = (c : Int) := by rw [iwrap_small _ (by omega) (by omega)]; omega
  have s1' : IntKind.i64.wrap (z - -128) = (c : Int) := by rw [iwrap_small _ (by omega) (by omega)]; omega
  have s2 : IntKind.u8.wrap (c : Int) = (c : Int) := by rw [IntKind.wrap_u8]; omega
  clear ht hl hp hb hz
  go_enter Tryd.func38, Tryd.ntmps38
  go_wp2_with fail
  generalize w.alloc (.cells #[.float .f64 b, .int .i64 z] 33) = W0 at *
  go_region_held3 (fun W => W.cell? ⟨w.heap.size, 0, none⟩ = some (.float .f64 b) ∧ W.cell? ⟨w.heap.size, 1, none⟩ = some (.int .i64 z) ∧ Hid (Below W0.heap.size W0 W))
    (first | exact hS0 | exact BytS.of HC.out hb3.out | assumption | exact BytS.keep (by assumption) hb | exact BytS.keep (by assumption) ((Below.refl _ _).alloc (Nat.le_refl _) _))
    (first
      | (go_at_call 73; refine (HF.out _).mono ?_; rintro e W2 ⟨rfl, hH, hb⟩)
      | (have hX : Below W0.heap.size W0 W2 := (Below.refl W0.heap.size W0).drew.trans hb; have hown0 := own_eight (base := W0.heap.size) (hH.alloc (.cells #[.int .u8 ((c : Nat) : Int)] 5)) hl8.out (Nat.le_refl _); have hXA := hX.alloc hX.size (.cells #[.int .u8 ((c : Nat) : Int)] 5); refine qstep_append_bs rfl (.tmp 5) (.tmp 10) rfl W0.heap.size _ 8 (u8s l) rfl hown0 ⟨_, 0, none⟩ 1 1 [c] rfl rfl (lit_cell c (Has.new W2 _ _)) (by decide) hXA.size ?_; intro v' w' hown hgrow; have hb3 := hide (hXA.grown hgrow hXA.size (fun k hk => (hown0.lt k hk).1)); clear hX hown0 hXA)
      | (have hV := ((Below.refl W0.heap.size W0).alloc (Nat.le_refl _) (.cells #[.int .u8 ((c : Nat) : Int)] 5)).drew; have hX := hV.trans (hb.mono hV.size); have hH' : Has W2 (W0.heap.size + 1) 5 (u8s l) := by { have h9 := hH; rw [show (W0.alloc (.cells #[.int .u8 ((c : Nat) : Int)] 5)).drew.heap.size = W0.heap.size + 1 from by { show (W0.alloc (.cells #[.int .u8 ((c : Nat) : Int)] 5)).heap.size = _; simp }] at h9; exact h9 }; have hown0 := own_eight (base := W0.heap.size) hH' hl8.out (Nat.le_succ _); have hZ0 := (Has.new W0 5 [.int .u8 ((c : Nat) : Int)]).drewN 1; refine qstep_append_bs rfl (.tmp 5) (.tmp 10) rfl W0.heap.size _ 8 (u8s l) rfl hown0 ⟨_, 0, none⟩ 1 1 [c] rfl rfl (lit_cell c (hZ0.below hb hZ0.lt)) (by decide) hX.size ?_; intro v' w' hown hgrow; have hb3 := hide (hX.grown hgrow hX.size (fun k hk => (hown0.lt k hk).1)); clear hV hX hown0 hH' hZ0))
  all_goals
    obtain ⟨A, cap, rfl, -, k1, k2, hRb⟩ := own_rb (bs := l ++ [c]) (by simpa using hown) (fun x hx => (List.mem_append.1 hx).elim (hlb.out x) (fun h => by simp at h; omega))
    have HR := hide hRb
    have HB3 := hide (HB.out.trans (hb3.out.mono HB.out.size))
    clear hown hgrow hRb
    go_wp2_with fail
    go_ret
    exact ⟨⟨A, cap, ⟨k1, k2⟩, rfl, HR.out⟩, HB3.out⟩
end Go.Proofs.YtboighnmgnjhdaaDoor
