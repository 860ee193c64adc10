/-
  shape.At, walked. By an AI agent. No person has read it.
-/
import Derived.Test.YtnbjcdmiehnceaaDoorShpU
import Derived.Test.YtnbjcdmiehnceaaDoorShpC
import Derived.Deep.QuietTactic
import Derived.BigQuiet
namespace Go.Proofs.YtnbjcdmiehnceaaDoor
open Go.RowKit Go.Shelf

attribute [local go_sem] Oper.semAt_some

/-- Ways that meet: the rest is walked once. -/
theorem meet {p : Prop} {A : World → Prop} (h : ∃ G : World → Prop, ((∀ w, A w → G w) → p) ∧ ∀ w, A w → G w) : p := by
  obtain ⟨G, h1, h2⟩ := h
  exact h1 h2
set_option maxRecDepth 100000 in
theorem at_neg (n cap : Nat) (P : Option Addr) (i : Int) (h : i < 0) (w : World) :
    Calls Tryd.prog 33 #[.slice P n cap, .int .i64 i] w fun e w' => e = .returned (.tuple #[.slice none 0 0, .bool false]) ∧ Below w.heap.size w w' := by
  have hb := (Below.refl _ w).alloc (Nat.le_refl _) (.cells #[.int .i64 i] 3)
  have hd : decide (i < 0) = true := decide_eq_true h
  go_enter Tryd.func33, Tryd.ntmps33
  go_wp2_with fail
  go_quiet (fail)
  go_wp2_with fail
  go_ret2
  exact ⟨rfl, below_drewN hb _⟩
set_option maxRecDepth 100000 in
set_option maxHeartbeats 4000000 in
theorem at_own (zs : List Int) (P : Option Addr) (cap : Nat) (i : Int) (am ar : Addr) (w : World) (hr : Ri w P zs) (hm : zs.length ≤ 9223372036854775807) (hE : E2 w am ar) (hi : 0 ≤ i) (hi2 : i ≤ 9223372036854775807) :
    Calls Tryd.prog 33 #[.slice P zs.length cap, .int .i64 i] w fun e w' =>
      ((Shp.elems zs ≤ i ∧ e = .returned (.tuple #[.slice none 0 0, .bool false])) ∨ (i < Shp.elems zs ∧ ∃ g, e = .returned (.tuple #[.slice (some ⟨g, 0, none⟩) zs.length zs.length, .bool true]) ∧ Has w' g 3 (i64s (Shp.at zs i).1) ∧ w.heap.size ≤ g)) ∧ Below w.heap.size w w' := by
  have hb1 := ((Below.refl _ w).alloc (Nat.le_refl _) (Obj.cells #[.int .i64 i] 3)).drew
  have HV := hide (elems_c zs P cap am ar _ (hr.below hb1) hm (hE.below hb1))
  have HR := hide hr
  obtain ⟨n, hn⟩ : ∃ n, Hid (zs.length = n) := ⟨_, hide rfl⟩
  rw [hn.out] at HV ⊢
  obtain ⟨E, hEl⟩ : ∃ E, Hid (Shp.elems zs = E) := ⟨_, hide rfl⟩
  rw [hEl.out] at HV ⊢
  have hEb := Shp.elems_le zs
  rw [hEl.out] at hEb
  have hbox : Hid (Boxed ((w.alloc (Obj.cells #[.int .i64 i] 3)).drew) w.heap.size 3 (.int .i64 i)) := hide (Boxed.new w _ _)
  have HB1 := hide hb1
  clear hb1 hr hE
  have hnd : decide (i < 0) = false := decide_eq_false (by omega)
  refine (callsIn_wide (n := 6)).1 ?_
  refine callsIn_of_wp_marks Tryd.func33 rfl trivial ?_ rfl
  simp only [Tryd.ntmps33, List.size_toArray, List.length_cons, List.length_nil, Nat.reduceAdd, Nat.reduceSub, Array.replicate_succ, Array.replicate_zero, List.push_toArray, List.append_toArray, List.nil_append, List.cons_append]
  refine wpIn_wide.2 ?_
  go_wp2_with fail
  refine wp_region_any (by kernel_rfl) ?_
  change wpAny _ _ _ _ _ _ _ (World.drew _)
  obtain ⟨w1, hw1⟩ : ∃ w1, Hid ((w.alloc (Obj.cells #[.int .i64 i] 3)).drew = w1) := ⟨_, hide rfl⟩
  rw [hw1.out] at HB1 HV hbox
  generalize hwg : World.drew _ = w1'
  have hwg' : (w.alloc (Obj.cells #[.int .i64 i] 3)).drew = w1' := hwg
  obtain rfl : w1 = w1' := hw1.out.symm.trans hwg'
  clear hw1 hwg hwg'
  have c0 := hbox.out.cell
  refine meet (A := fun w2 => Below w.heap.size w w2 ∧ Boxed w2 w.heap.size 3 (.int .i64 i)) ?_
  apply Exists.intro
  refine ⟨fun tail => ?_, fun w2 hA => ?_⟩
  · refine wpAny_ready (rs := [0]) (by kernel_rfl) (by simp) ?_
    refine AllReady.cons rfl (fun K hK => ?_) AllReady.nil
    go_simp
    refine hK _ _ ?_
    clear hK K
    refine wpAny_ready (rs := [1]) (by kernel_rfl) (by simp) ?_
    refine AllReady.cons rfl (fun K hK => ?_) AllReady.nil
    go_simp
    try rw [hnd]
    refine hK _ _ ?_
    clear hK K
    refine wpAny_ready (rs := [2]) (by kernel_rfl) (by simp) ?_
    refine AllReady.cons rfl (fun K hK => ?_) AllReady.nil
    go_simp
    refine hK _ _ ?_
    clear hK K
    refine wpAny_ready (rs := [3, 4]) (by kernel_rfl) (by simp) ?_
    refine AllReady.cons rfl (fun K hK => ?_) (AllReady.cons rfl (fun K hK => ?_) AllReady.nil)
    focus
      go_simp
      refine hK _ _ ?_
      clear hK K
      refine wpAny_ready (rs := [4]) (by kernel_rfl) (by simp) ?_
      refine AllReady.cons rfl (fun K hK => ?_) AllReady.nil
      go_simp
      refine hK _ _ ?_
      clear hK K
      refine wpAny_ready (rs := [5]) (by kernel_rfl) (by simp) ?_
      refine AllReady.cons rfl (fun K hK => ?_) AllReady.nil
      go_simp
      refine HV.out.mono ?_
      rintro e w2 ⟨rfl, hb2⟩
      refine hK _ _ ?_
      clear hK K
      have HB2 := hide (HB1.out.trans (hb2.mono HB1.out.size))
      have hbox2 : Boxed w2 w.heap.size 3 (.int .i64 i) := (hb2.block w.heap.size hbox.out.lt).trans hbox.out
      have c2 := hbox2.cell
      have HX2 := hide hbox2
      clear hb2 hbox2
      exact tail w2 ⟨HB2.out, HX2.out⟩
    focus
      go_simp
      refine hK _ _ ?_
      clear hK K
      refine wpAny_ready (rs := [3, 5]) (by kernel_rfl) (by simp) ?_
      refine AllReady.cons rfl (fun K hK => ?_) (AllReady.cons rfl (fun K hK => ?_) AllReady.nil)
      focus
        go_simp
        refine hK _ _ ?_
        clear hK K
        refine wpAny_ready (rs := [5]) (by kernel_rfl) (by simp) ?_
        refine AllReady.cons rfl (fun K hK => ?_) AllReady.nil
        go_simp
        refine HV.out.mono ?_
        rintro e w2 ⟨rfl, hb2⟩
        refine hK _ _ ?_
        clear hK K
        have HB2 := hide (HB1.out.trans (hb2.mono HB1.out.size))
        have hbox2 : Boxed w2 w.heap.size 3 (.int .i64 i) := (hb2.block w.heap.size hbox.out.lt).trans hbox.out
        have c2 := hbox2.cell
        have HX2 := hide hbox2
        clear hb2 hbox2
        exact tail w2 ⟨HB2.out, HX2.out⟩
      focus
        go_simp
        refine HV.out.mono ?_
        rintro e w2 ⟨rfl, hb2⟩
        refine hK _ _ ?_
        clear hK K
        have HB2 := hide (HB1.out.trans (hb2.mono HB1.out.size))
        have hbox2 : Boxed w2 w.heap.size 3 (.int .i64 i) := (hb2.block w.heap.size hbox.out.lt).trans hbox.out
        have c2 := hbox2.cell
        have HX2 := hide hbox2
        clear hb2 hbox2
        refine wpAny_ready (rs := [3]) (by kernel_rfl) (by simp) ?_
        refine AllReady.cons rfl (fun K hK => ?_) AllReady.nil
        go_simp
        refine hK _ _ ?_
        clear hK K
        exact tail w2 ⟨HB2.out, HX2.out⟩
  · have HB2 := hide hA.1
    have HX2 := hide hA.2
    clear hA
    refine wpAny_ready (rs := [6]) (by kernel_rfl) (by simp) ?_
    refine AllReady.cons rfl (fun K hK => ?_) AllReady.nil
    go_simp
    refine hK _ _ ?_
    clear hK K
    refine wpAny_ready (rs := [7]) (by kernel_rfl) (by simp) ?_
    refine AllReady.cons rfl (fun K hK => ?_) AllReady.nil
    go_simp
    refine hK _ _ ?_
    clear hK K
    refine wpAny_done (by kernel_rfl) ?_ _
    clear c0
    by_cases hge : E ≤ i
    · have hfin := HB2.out
      go_wp2_with fail
      exact ⟨_, results_tmp2 rfl _ _ _, .inl ⟨hge, rfl⟩, hfin⟩
    · have hok : Shp.ok zs = true := by
        have h := hge
        rw [← hEl.out] at h
        unfold Shp.elems at h
        split at h
        · assumption
        · omega
      have h4 : n ≤ 4 := by have := ((Shp.ok_iff zs).1 hok).1; rw [hn.out] at this; exact this
      obtain ⟨Z, hZ, hmk⟩ := made_ints n (by omega)
      go_wp2_with fail
      refine (callsIn_wide (n := 5)).1 ?_
      refine (back_in Fence.wide 5 trivial rfl _ _ _ _).mono ?_
      rintro e w' ⟨rfl, rfl⟩
      have hR : Has (w2.alloc (.cells Z 3)) w2.heap.size 3 (i64s (List.replicate n 0)) := by
        rw [hZ.out]
        exact Has.new w2 _ _
      have bS := Boxed.new (w2.alloc (.cells Z 3)) 22 (.slice (some ⟨w2.heap.size, 0, none⟩) n n)
      have bN := Boxed.new ((w2.alloc (.cells Z 3)).alloc (.cells #[.slice (some ⟨w2.heap.size, 0, none⟩) n n] 22)) 22 (.slice P n cap)
      have hBw := HB2.out.size
      have hBx := HX2.out.lt
      have hB0 : Below w.heap.size w (((w2.alloc (.cells Z 3)).alloc (.cells #[.slice (some ⟨w2.heap.size, 0, none⟩) n n] 22)).alloc (.cells #[.slice P n cap] 22)) :=
        ((HB2.out.alloc hBw _).alloc (by simp; omega) _).alloc (by simp; omega) _
      have hIn := HR.out.ints.below hB0
      go_wp2_with fail
      refine (wpIn_wide (n := 6)).1 ?_
      refine wpIn_rangeFunc_ownG (F := Fence.wide) rfl (by decide) (gf := 92) (lb := #[.pointer (some ⟨w2.heap.size + 1 + 1, 0, none⟩)]) rfl trivial (enters_of Tryd.func92 (by kernel_rfl) rfl)
        (back_stops Fence.wide 5 trivial rfl (by decide) (w2.heap.size + 1 + 1) w.heap.size n cap P zs hn (by omega) _ (by simp) (by simp; omega) (by simpa using bN.cell) hIn) (fun h k => h.trans k) (Rf.kb_b (by simp; omega) (by simp)) (Below.refl _ _) (fun _ => rfl)
        (fun pre W => (Has W w2.heap.size 3 (i64s (Shp.fat n i (pre.map (·.1))).1) ∧ Boxed W (w2.heap.size + 1) 22 (.slice (some ⟨w2.heap.size, 0, none⟩) n n) ∧ Boxed W w.heap.size 3 (.int .i64 (Shp.fat n i (pre.map (·.1))).2)) ∧ Below w.heap.size w W)
        (fun _ _ _ => False)
        (OwnFrom.and (Own.from (fun s A B row hs hg hr => ⟨has_own _ _ (fun pre : List (Rf.Pair zs) => i64s (Shp.fat n i (pre.map (·.1))).1) s A B row hs.1 hg hr, box_own _ _ (fun _ : List (Rf.Pair zs) => Value.slice (some ⟨w2.heap.size, 0, none⟩) n n) s A B row hs.2.1 hg hr, box_own _ _ (fun pre : List (Rf.Pair zs) => Value.int .i64 (Shp.fat n i (pre.map (·.1))).2) s A B row hs.2.2 hg hr⟩) _) (ownFrom_below (Nat.le_refl _) (by simp; omega)))
        (fun _ _ _ _ _ hs _ _ => hs)
        ⟨⟨(hR.alloc _).alloc _, by simpa using bS.alloc _, ((HX2.out.alloc _).alloc _).alloc _⟩, hB0⟩
        (fun x => { tmps := #[.slice P n cap, .int .i64 i, undef, .pointer (some ⟨w.heap.size, 0, none⟩), .slice none 0 0, .bool false, .pointer (some ⟨w2.heap.size + 1, 0, none⟩), .int .i64 (x.1.1 : Int), .int .i64 x.1.2, .int .i64 i, .bool false, .bool false, .int .i64 i, .slice P n cap, .int .i64 E, .bool (decide (E ≤ i)), .bool (decide (E ≤ i)), .slice P n cap, .int .i64 n, .slice (some ⟨w2.heap.size, 0, none⟩) n n, .slice P n cap, .func (.func 92) #[] #[.pointer (some ⟨w2.heap.size + 1 + 1, 0, none⟩)], .int .i64 (x.1.1 : Int), .int .i64 x.1.2, undef, undef, undef, undef, undef, undef, undef, undef, undef, undef], defers := [] }) ?assign ?body ?done ?stop
      case assign =>
        intro l x W K hK
        gi_wp2
        exact hK
      case body =>
        rintro l pre ⟨⟨j, z⟩, hx⟩ W ⟨⟨hRw, hSw, hTw⟩, hB⟩ _
        have hj : j < n := by
          have h := (List.getElem?_eq_some_iff.1 hx).1
          rw [hn.out] at h
          exact h
        have hji : (j : Int) < n := by omega
        have hzb := Shp.dims zs hok j z hx
        have hlen := Shp.fat_length n i (pre.map (·.1))
        have hSb := Shp.fat_bound n i hi (pre.map (·.1)) (fun x hx => by
          obtain ⟨y, -, rfl⟩ := List.mem_map.1 hx
          exact (Shp.dims zs hok _ _ y.2).1)
        obtain ⟨L, hL⟩ : ∃ L, (Shp.fat n i (pre.map (·.1))).1 = L := ⟨_, rfl⟩
        obtain ⟨S, hS⟩ : ∃ S, (Shp.fat n i (pre.map (·.1))).2 = S := ⟨_, rfl⟩
        rw [hL] at hRw hlen
        rw [hS] at hTw hSb
        obtain ⟨u, hu⟩ : ∃ u, L[j]? = some u := ⟨_, List.getElem?_eq_getElem (by omega)⟩
        have c1 := hSw.cell
        have c2 := hTw.cell
        have c3 : W.cell? ⟨w2.heap.size, j, none⟩ = some (.int .i64 u) := by rw [hRw.cell, List.getElem?_map, hu]; rfl
        have f2 := hTw.frozen
        have f3 := hRw.frozen j
        have hz0 : (z == 0) = false := by simp; omega
        have hmx : Tryd.prog.follows .mixedOrders = true := by kernel_rfl
        have e : Shp.fat n i ((pre ++ [(⟨(j, z), hx⟩ : Rf.Pair zs)]).map (·.1)) = (L.set j (S % z), S / z) := by
          rw [List.map_append, List.map_cons, List.map_nil, Shp.fat_snoc, hL, hS, Int.tmod_eq_emod_of_nonneg hSb.1, Int.tdiv_eq_ediv_of_nonneg hSb.1]
        have hGB : w2.heap.size ≠ w.heap.size := by omega
        have h1 : Has (W.setCell ⟨w2.heap.size, j, none⟩ (.int .i64 (S % z))) w2.heap.size 3 (i64s (L.set j (S % z))) := by
          have h := hRw.set_ j (.int .i64 (S % z))
          rw [show (Value.int .i64 (S % z)) = (fun z => Value.int .i64 z) (S % z) from rfl, ← List.map_set] at h
          exact h
        have h2 : Boxed (W.setCell ⟨w2.heap.size, j, none⟩ (.int .i64 (S % z))) (w2.heap.size + 1) 22 (.slice (some ⟨w2.heap.size, 0, none⟩) n n) := (Below.heap_setCell W ⟨w2.heap.size, j, none⟩ _ (w2.heap.size + 1) (by simp)).trans hSw
        have h3 : Boxed (W.setCell ⟨w2.heap.size, j, none⟩ (.int .i64 (S % z))) w.heap.size 3 (.int .i64 S) := (Below.heap_setCell W ⟨w2.heap.size, j, none⟩ _ w.heap.size (by show ¬ w.heap.size = w2.heap.size; omega)).trans hTw
        have HK1 : Hid (∀ B, KeepsFrom B W ((W.setCell ⟨w2.heap.size, j, none⟩ (.int .i64 (S % z))).setCell ⟨w.heap.size, 0, none⟩ (.int .i64 (S / z))).drew) := hide fun B => (((KeepsOthers.setCell _ _ _).trans (KeepsOthers.setCell _ _ _)).trans (KeepsOthers.drew _)).from _
        have HK2 : Hid (Rf.KB w.heap.size (w2.heap.size + 1 + 1) W ((W.setCell ⟨w2.heap.size, j, none⟩ (.int .i64 (S % z))).setCell ⟨w.heap.size, 0, none⟩ (.int .i64 (S / z))).drew) := hide
          ⟨(((Below.refl w.heap.size W).setCell (p := ⟨w2.heap.size, j, none⟩) hBw _).setCell (p := ⟨w.heap.size, 0, none⟩) (Nat.le_refl _) _).drew,
            (Below.heap_setCell _ ⟨w.heap.size, 0, none⟩ _ (w2.heap.size + 1 + 1) (by show ¬ w2.heap.size + 1 + 1 = w.heap.size; omega)).trans (Below.heap_setCell W ⟨w2.heap.size, j, none⟩ _ (w2.heap.size + 1 + 1) (by show ¬ w2.heap.size + 1 + 1 = w2.heap.size; omega))⟩
        have HK3 : Hid (Has ((W.setCell ⟨w2.heap.size, j, none⟩ (.int .i64 (S % z))).setCell ⟨w.heap.size, 0, none⟩ (.int .i64 (S / z))).drew w2.heap.size 3 (i64s (Shp.fat n i ((pre ++ [(⟨(j, z), hx⟩ : Rf.Pair zs)]).map (·.1))).1)) := hide (by
          rw [e]
          exact h1.far (p := ⟨w.heap.size, 0, none⟩) hGB _)
        have HK4 : Hid (Boxed ((W.setCell ⟨w2.heap.size, j, none⟩ (.int .i64 (S % z))).setCell ⟨w.heap.size, 0, none⟩ (.int .i64 (S / z))).drew (w2.heap.size + 1) 22 (.slice (some ⟨w2.heap.size, 0, none⟩) n n)) := hide (h2.other (by omega) _)
        have HK5 : Hid (Boxed ((W.setCell ⟨w2.heap.size, j, none⟩ (.int .i64 (S % z))).setCell ⟨w.heap.size, 0, none⟩ (.int .i64 (S / z))).drew w.heap.size 3 (.int .i64 (Shp.fat n i ((pre ++ [(⟨(j, z), hx⟩ : Rf.Pair zs)]).map (·.1))).2)) := hide (by
          rw [e]
          exact h3.set _)
        have HK6 : Hid (Below w.heap.size w ((W.setCell ⟨w2.heap.size, j, none⟩ (.int .i64 (S % z))).setCell ⟨w.heap.size, 0, none⟩ (.int .i64 (S / z))).drew) := hide ((hB.setCell (p := ⟨w2.heap.size, j, none⟩) hBw _).setCell (p := ⟨w.heap.size, 0, none⟩) (Nat.le_refl _) _).drew
        clear e h1 h2 h3 hlen hu hL hS hB
        gi_wp2
        gi_region_with_o (fail)
        all_goals
          gi_wp2
          exact ⟨HK1.out _, HK2.out, ⟨HK3.out, HK4.out, HK5.out⟩, HK6.out⟩
      case done =>
        rintro D ys W hD hys ⟨⟨hRw, hSw, hTw⟩, hB⟩ hK
        have hf : Shp.fat n i (ys.map (·.1)) = ((Shp.at zs i).1, (Shp.at zs i).2) := by
          have h := Shp.fat_upto zs i n (by rw [hn.out]; exact Nat.le_refl _)
          rw [hn.out, Nat.sub_self] at h
          rw [show ys.map (·.1) = Rf.upto (Rf.back zs) n from hys, h]
          rfl
        rw [hf] at hRw
        have c1 := hSw.cell
        have hDs : w2.heap.size < D := by simp at hD; omega
        go_wp2_with fail
        refine ⟨by simp, .inl ⟨_, _, rfl, run_takeDeferred hK, ?_⟩⟩
        exact ⟨_, results_tmp2 rfl _ _ _, .inr ⟨w2.heap.size, rfl, (World.putObj_heap_other (by omega)).trans hRw, hBw⟩, hB.trans (belowK_b (w := w) (Nat.le_refl _) W D _ _ (by omega) hK rfl rfl)⟩
      case stop =>
        rintro D c pre W _ _ h _
        exact h.elim
theorem at_c (zs : List Int) (P : Option Addr) (cap : Nat) (i : Int) (am ar : Addr) (w : World) (hr : Ri w P zs) (hm : zs.length ≤ 9223372036854775807) (hE : E2 w am ar) (hi : 0 ≤ i) (hi2 : i ≤ 9223372036854775807) :
    Calls Tryd.prog 33 #[.slice P zs.length cap, .int .i64 i] w fun e w' =>
      ((Shp.elems zs ≤ i ∧ e = .returned (.tuple #[.slice none 0 0, .bool false])) ∨ (i < Shp.elems zs ∧ ∃ g, e = .returned (.tuple #[.slice (some ⟨g, 0, none⟩) zs.length zs.length, .bool true]) ∧ Has w' g 3 (i64s (Shp.at zs i).1))) ∧ Below w.heap.size w w' := by
  refine (at_own zs P cap i am ar w hr hm hE hi hi2).mono ?_
  rintro e w' ⟨h | ⟨h1, g, h2, h3, -⟩, hb⟩
  · exact ⟨.inl h, hb⟩
  · exact ⟨.inr ⟨h1, g, h2, h3⟩, hb⟩
end Go.Proofs.YtnbjcdmiehnceaaDoor
