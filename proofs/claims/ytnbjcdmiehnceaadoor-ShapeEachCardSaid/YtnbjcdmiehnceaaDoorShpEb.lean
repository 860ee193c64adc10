/-
  slices.Clone of ints, shape.Each and the function that it gives, walked. By an AI agent. No person has read it.
-/
import Derived.Test.YtnbjcdmiehnceaaDoorShpEa
import Derived.Test.YtnbjcdmiehnceaaDoorTenX
import Derived.Lib.SliceRun
namespace Go.Proofs.YtnbjcdmiehnceaaDoor
open Go.RowKit Go.Shelf

attribute [local go_sem] Oper.semAt_some

theorem own_each {w : World} {base n : Nat} {v : Value} {zs : List Int} (h : w.ownsRow base 3 1 v n (i64s zs)) (hb : ∀ z ∈ zs, (Lit.int .i64 z).wf = true) : ∃ A c G, v = .slice A n c ∧ Each.At w A G zs ∧ (zs = [] ∨ (base ≤ G ∧ G < w.heap.size)) := by
  by_cases hv : v = .slice none 0 0
  · subst hv
    have hl : zs.length = n := by simpa using h.1
    rcases h.2 with ⟨-, rfl⟩ | ⟨g, cap, cur, e, -⟩
    · obtain rfl : zs = [] := List.length_eq_zero_iff.1 hl
      exact ⟨none, 0, 0, rfl, ⟨fun z hz => by simp at hz, fun h => absurd rfl h⟩, .inl rfl⟩
    · cases e
  · obtain ⟨g, cap, rest, rfl, -, hg, -, -, hH⟩ := own_has h hv
    exact ⟨_, cap, g, rfl, ⟨hb, fun _ => ⟨rfl, rest, hH⟩⟩, .inr ⟨hg, hH.lt⟩⟩
theorem own_void (w : World) (base : Nat) (h : base ≤ w.heap.size) : (w.alloc (.cells #[] 3)).ownsRow base 3 1 (.slice (some ⟨w.heap.size, 0, none⟩) 0 0) 0 [] :=
  ⟨rfl, .inr ⟨_, 0, #[], rfl, h, heap_alloc_new w _, by omega, by unfold maxLen; omega, by simp, by simp⟩⟩
set_option maxRecDepth 100000 in
set_option maxHeartbeats 4000000 in
theorem cloned_c (zs : List Int) (P : Option Addr) (cap : Nat) (w : World) (hr : Ri w P zs) (hl : zs.length ≤ 1000000) :
    Calls Tryd.prog 71 #[.slice P zs.length cap] w fun e w' => (∃ A c G, e = .returned (.slice A zs.length c) ∧ Each.At w' A G zs ∧ (zs = [] ∨ (w.heap.size ≤ G ∧ G < w'.heap.size))) ∧ Below w.heap.size w w' := by
  have hwf := hr.1
  cases P with
  | none =>
    have hz : zs = [] := Classical.byContradiction fun h => by
      obtain ⟨ad, e, -⟩ := hr.2 h
      cases e
    subst hz
    rw [show ([] : List Int).length = 0 from rfl]
    have hnil := fun W : World => Lib.run_eql_slice_nil (P := Tryd.prog) W 22 3 none 0 cap 0 0 uis
    clear hr hwf hl
    go_enter Tryd.func71, Tryd.ntmps71
    go_wp2_with fail
    go_ret
    exact ⟨⟨none, 0, 0, rfl, ⟨fun z hz => by simp at hz, fun h => absurd rfl h⟩, by simp⟩, Below.refl _ _⟩
  | some ad =>
    have HOWN := hide (own_void w w.heap.size (Nat.le_refl _))
    have hb1 := (Below.refl _ w).alloc (Nat.le_refl _) (Obj.cells #[] 3)
    have HR := hide (hr.below hb1)
    have HB1 := hide hb1
    have HWF := hide hwf
    obtain ⟨n, hn⟩ : ∃ n, Hid (zs.length = n) := ⟨_, hide rfl⟩
    have HS := hide (show 0 + n ≤ 1000000000000 by have := hn.out; omega)
    rw [hn.out]
    have hnil := fun W : World => Lib.run_eql_slice_nil (P := Tryd.prog) W 22 3 (some ad) n cap 0 0 uis
    clear hr hb1 hwf hl
    go_enter Tryd.func71, Tryd.ntmps71
    go_wp2_with (at_builtin; refine wpList_append_is rfl (.tmp 5) (.tmp 6) rfl w.heap.size _ 0 [] rfl HOWN.out (some ad) n cap zs rfl hn HR.out HS.out HB1.out.size ?_)
    intro v' w' h1 h2 h3
    have HO : Hid (∃ A c G, v' = .slice A n c ∧ Each.At w' A G zs ∧ (zs = [] ∨ (w.heap.size ≤ G ∧ G < w'.heap.size))) := hide (own_each (by simpa using h1) HWF.out)
    have HBF : Hid (Below w.heap.size w w') := hide (HB1.out.grown h2 HB1.out.size (fun k e => by have e : w.heap.size = k := Option.some.inj e; omega))
    clear h1 h2 h3
    go_wp2_with fail
    go_ret
    obtain ⟨A, c, G, rfl, hA, hG⟩ := HO.out
    exact ⟨⟨A, c, G, rfl, hA, hG⟩, HBF.out⟩
set_option maxRecDepth 100000 in
set_option maxHeartbeats 4000000 in
/-- shape.Each. -/
theorem each_c (zs : List Int) (P : Option Addr) (cap : Nat) (w : World) (hr : Ri w P zs) (hl : zs.length ≤ 1000000) :
    Calls Tryd.prog 35 #[.slice P zs.length cap] w fun e w' => (∃ A c B G, e = .returned (.func (.func 72) #[] #[.pointer (some ⟨B, 0, none⟩)]) ∧ Boxed w' B 22 (.slice A zs.length c) ∧ Each.At w' A G zs ∧ w.heap.size ≤ B ∧ w.heap.size ≤ G ∧ G < w'.heap.size) ∧ Below w.heap.size w w' := by
  have HC := hide (cloned_c zs P cap w hr hl)
  obtain ⟨n, hn⟩ : ∃ n, Hid (zs.length = n) := ⟨_, hide rfl⟩
  rw [hn.out] at HC ⊢
  clear hr hl
  go_enter Tryd.func35, Tryd.ntmps35
  go_wp2_with fail
  refine HC.out.mono ?_
  rintro e w1 ⟨⟨A, c, G, rfl, hA, hG⟩, hb⟩
  have HB := hide (hb.alloc hb.size (Obj.cells #[.slice A n c] 22))
  have HBx := hide (Boxed.new w1 22 (.slice A n c))
  have hsz := hb.size
  have HL := hide hsz
  have HA : Hid (∃ G2, Each.At (w1.alloc (Obj.cells #[.slice A n c] 22)) A G2 zs ∧ w.heap.size ≤ G2 ∧ G2 < (w1.alloc (Obj.cells #[.slice A n c] 22)).heap.size) := hide (by
    rcases hG with rfl | ⟨h3, h2⟩
    · exact ⟨w1.heap.size, ⟨fun z hz => by simp at hz, fun h => absurd rfl h⟩, hsz, by simp⟩
    · exact ⟨G, hA.same (Below.heap_alloc _ _ _ h2), h3, by simp; omega⟩)
  clear hA hG hb hsz HC
  go_wp2_with fail
  go_ret
  obtain ⟨G2, h1, h3, h2⟩ := HA.out
  exact ⟨⟨A, c, w1.heap.size, G2, rfl, HBx.out, h1, HL.out, h3, h2⟩, HB.out⟩
set_option maxRecDepth 100000 in
set_option maxHeartbeats 4000000 in
/-- The function that it gives. -/
theorem each1_in (k : Nat) (hk : 1 ≤ k) (am ar : Addr) (l m B G c n E : Nat) (A : Option Addr) (zs : List Int) (hn : Hid (zs.length = n)) (hnl : n ≤ 1000000) (hE : Hid (Shp.elems zs = (E : Int))) (J Jx : Nat → World → Prop) (W : World) (hJ : AbidesFrom W.heap.size J)
    (hY : Each.Yields k E m B G (fun i => (Shp.at zs (i : Int)).1) l W.heap.size J Jx) (hB : W.cell? ⟨B, 0, none⟩ = some (.slice A n c)) (hA : Each.At W A G zs) (hm : m ≤ W.heap.size) (hBl : B < W.heap.size) (hGl : G < W.heap.size) (hE2 : Hid (∀ W', Below m W W' → E2 W' am ar)) (h0 : J 0 W) :
    CallsIn Fence.wide k Tryd.prog 72 #[.func (.yield l) #[] #[], .pointer (some ⟨B, 0, none⟩)] W fun e W' => (∃ v, e = .returned v) ∧ (J E W' ∨ ∃ i, i ≤ E ∧ Jx i W') := by
  have hEb := Shp.elems_le zs
  have HEl := hide (elems_c zs A c am ar W hA.ri (by rw [hn.out]; omega) (hE2.out W (Below.refl _ _)))
  have HAt := hide (fun wr (i : Nat) (hRi : Ri wr A zs) (hE' : E2 wr am ar) (hi : i < 1000000) => at_own zs A c (i : Int) am ar wr hRi (by rw [hn.out]; omega) hE' (by omega) (by omega))
  have HY : Hid (∀ i b W1, i < E → J i W1 → W.heap.size ≤ b → Has W1 b 3 (i64s (Shp.at zs (i : Int)).1) → YieldAt Fence.wide (k - 1) Tryd.prog l #[.int .i64 (i : Int), .slice (some ⟨b, 0, none⟩) n n] W1 fun e W' => (e = .returned (.bool true) ∧ J (i + 1) W' ∧ Each.Keeps m B G W1 W') ∨ (e = .returned (.bool false) ∧ Jx (i + 1) W')) := hide fun i b W1 h1 h2 h3 h4 => by
    have h := hY i b W1 h1 h2 h3 h4
    rw [Shp.at_length, hn.out] at h
    exact h
  rw [hE.out] at hEb
  rw [hn.out, hE.out] at HEl
  rw [hn.out, hE.out] at HAt
  have hE6 : E ≤ 1000000 := by omega
  have HA0 := hide hA
  clear hY hEb hA
  refine callsIn_of_wp Tryd.func72 rfl trivial ?_ rfl
  simp only [Tryd.ntmps72, List.size_toArray, List.length_cons, List.length_nil, Nat.reduceAdd, Nat.reduceSub, Array.replicate_succ, Array.replicate_zero, List.push_toArray, List.append_toArray, List.nil_append, List.cons_append]
  gi_wp2_with (refine ⟨trivial, ?_⟩; gi_at_call 20; refine (callsIn_wide.2 HEl.out).mono ?_; rintro e w1 ⟨rfl, hb⟩)
  have HJ1 := hide (hJ 0 W w1 none h0 (grown_of hb) (fun r e => by cases e))
  have HK1 := hide (Each.Keeps.of hb hm hBl hGl)
  have hsz1 := hb.size
  clear hb HEl
  gi_loopw [8] (fun v wr => ∃ i : Nat, i ≤ E ∧ v = .int .i64 (i : Int) ∧ J i wr ∧ Hid (Each.Keeps m B G W wr) ∧ Hid (W.heap.size ≤ wr.heap.size)) (fun v _ => E - (intOf v).toNat)
  case atStart => exact ⟨0, Nat.zero_le _, rfl, HJ1.out, HK1, hide hsz1⟩
  case round =>
    obtain ⟨i, hi, rfl, hJi, hKi, hszi⟩ := hrel
    by_cases hlt : i < E
    · have hie : (i : Int) < (E : Int) := by omega
      have hadd : IntKind.i64.wrap ((i : Int) + 1) = (i : Int) + 1 := by rw [IntKind.wrap_i64]; omega
      have cB : wr.cell? ⟨B, 0, none⟩ = some (.slice A n c) := (World.cell?_of_block (a := ⟨B, 0, none⟩) hKi.out.box).trans hB
      have HAw := hide (HAt.out wr i (HA0.out.same hKi.out.row).ri (hE2.out wr hKi.out.low) (by omega))
      gi_wp2_with (refine ⟨trivial, ?_⟩; gi_at_call 33; refine (callsIn_wide.2 HAw.out).mono ?_; rintro e w2 ⟨(⟨hge, -⟩ | ⟨-, g, rfl, hrow, hgl⟩), hb⟩; exact absurd hge (by omega); have hJ2 := hJ i wr w2 none hJi (grown_of hb) (fun r e => by cases e); have hK2 := hide (hKi.out.trans (Each.Keeps.of hb (Nat.le_trans hm hszi.out) (Nat.lt_of_lt_of_le hBl hszi.out) (Nat.lt_of_lt_of_le hGl hszi.out))); obtain ⟨fn, tmps, assign, body, hy, hR⟩ := HY.out i g w2 hlt hJ2 (Nat.le_trans hszi.out hgl) hrow; have hsz2 := hide (Nat.le_trans hszi.out hb.size); clear hb hrow hJi hKi)
      refine hR.mono ?_
      rintro e w3 (⟨rfl, hJ3, hk3⟩ | ⟨rfl, hJx3⟩)
      · have HK3 := hide (hK2.out.trans hk3)
        have HS3 := hide (Nat.le_trans hsz2.out hk3.low.size)
        clear hk3
        gi_wp2
        go_roundw
        case rel => exact ⟨i + 1, by omega, by go_num, hJ3, HK3, HS3⟩
        case measure => simp [intOf]; omega
      · gi_wp2
        refine bodyPost_ret (results_none rfl _ _ _) rfl ?_
        exact ⟨⟨_, rfl⟩, .inr ⟨i + 1, by omega, hJx3⟩⟩
    · obtain rfl : i = E := by omega
      gi_wp2
      go_end0
      exact ⟨⟨_, rfl⟩, .inl hJi⟩
end Go.Proofs.YtnbjcdmiehnceaaDoor
