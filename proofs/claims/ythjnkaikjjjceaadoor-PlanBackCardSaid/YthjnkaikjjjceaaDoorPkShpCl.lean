/-
  shape.Clone, walked. By an AI agent. No person has read it.
-/
import Derived.Test.YthjnkaikjjjceaaDoorPkShpC
import Derived.Maps.AppendAt
import Derived.Laws.MakeOwn
import Derived.Deep.RegionLaw
namespace Go.Proofs.YthjnkaikjjjceaaDoor
open Go.RowKit
theorem i64s_one (zs : List Int) : ∀ u ∈ i64s zs, u.oneCell' = true := by
  intro u hu
  obtain ⟨x, _, rfl⟩ := List.mem_map.1 hu
  rfl
/-- The run of an append of ints. -/
theorem run_append_is (w : World) (ty : TypeId) (base : Nat) (v : Value) (n : Nat) (xs : List Value) (hown : w.ownsRow base 3 1 v n xs) (A : Option Addr) (cap : Nat) (zs : List Int) (hr : Ri w A zs)
    (hs : n + zs.length ≤ 1000000000000) (hbase : base ≤ w.heap.size) :
    ∃ v' w', (Builtin.append_ #[46, 46] ty #[v, .slice A zs.length cap]).run Tryd.prog w = .ok v' w' ∧ w'.ownsRow base 3 1 v' (n + zs.length) (xs ++ i64s zs) ∧ w.grownBy w' v.ownBlock ∧
      (v'.ownBlock = v.ownBlock ∨ v'.ownBlock = some w.heap.size) := by
  obtain ⟨i, hi, hz0, hz1, hz2⟩ := i64info
  have nil : zs = [] → ∃ v' w', (Builtin.append_ #[46, 46] ty #[v, .slice A zs.length cap]).run Tryd.prog w = .ok v' w' ∧ w'.ownsRow base 3 1 v' (n + zs.length) (xs ++ i64s zs) ∧ w.grownBy w' v.ownBlock ∧
      (v'.ownBlock = v.ownBlock ∨ v'.ownBlock = some w.heap.size) := by
    rintro rfl
    refine ⟨v, w, ?_, by simpa using hown, World.grownBy.refl w _, .inl rfl⟩
    rcases hown.2 with ⟨rfl, rfl⟩ | ⟨g, c, cur, rfl, _, _, hnc, _⟩
    · cases A <;> simp [Builtin.append_, run_underlying uis, sizeOf, typeInfo, hi, Builtin.lenOf, Builtin.firstCells, loadCells, loadCellsFrom]
    · cases A <;> simp [Builtin.append_, run_underlying uis, sizeOf, typeInfo, hi, Builtin.lenOf, Builtin.firstCells, hnc, storeCells, loadCells, loadCellsFrom]
  by_cases hz : zs = []
  · exact nil hz
  · obtain ⟨ad, rfl, -, hc⟩ := hr.2 hz
    obtain ⟨v', w', h1, h2, h3, _, h5⟩ := run_append_own_at (P := Tryd.prog) w base 46 ty 3 i (.int .i64 0) 1 8 uis hi hz0 hz1 hz2 rfl (by decide) v n xs hown ad zs.length cap (i64s zs) (by simp) (by
      intro j u hj
      rw [List.getElem?_map, Option.map_eq_some_iff] at hj
      obtain ⟨b, hb, rfl⟩ := hj
      exact hc j b hb) (i64s_one zs) (by unfold maxLen; omega) (by omega) hbase
    exact ⟨v', w', h1, h2, h3, h5⟩
/-- .. as a step of a region that draws its order. -/
theorem step_append_is {w : World} {ops : Array Oper} {o : Oper} {a : Act} {K : Act → World → Prop} {Q : Exit → Act → World → Prop} {E : Prop} (hgd : o.guard = none) (s x : Operand)
    (ho : o.op = .call { callee := .builtin .append, args := #[s, x], argTypes := #[46, 46] })
    (base : Nat) (v : Value) (n : Nat) (xs : List Value) (hs : a.eval s = v) (hown : w.ownsRow base 3 1 v n xs) (A : Option Addr) (m cap : Nat) (zs : List Int) (hx : a.eval x = .slice A m cap) (hm : Hid (zs.length = m)) (hr : Ri w A zs)
    (hb : n + m ≤ 1000000000000) (hbase : base ≤ w.heap.size)
    (h : ∀ v' w', w'.ownsRow base 3 1 v' (n + m) (xs ++ i64s zs) → w.grownBy w' v.ownBlock → (v'.ownBlock = v.ownBlock ∨ v'.ownBlock = some w.heap.size) → K (a.put o.dst v') w') :
    if Region.wanted o (yielded ops a.tmps) = true then Oper.wp Tryd.prog o a w K Q else E := by
  have hw : Region.wanted o (yielded ops a.tmps) = true := by simp [Region.wanted, hgd]
  rw [if_pos hw]
  obtain rfl := hm.out
  obtain ⟨v', w', hrun, h2, h3, h5⟩ := run_append_is w o.type base v n xs hown A cap zs hr hb hbase
  unfold Oper.wp
  simp only [execOp, ho, resolve, invoke, builtin, Sem.run_bind, Sem.run_pure, Result.andThen_ok, List.map_toArray, List.map_cons, List.map_nil, hs, hx, hrun]
  exact h v' w' h2 h3 h5
/-- What an append behind a row of one's own leaves of two blocks ahead of it. -/
theorem clone_grown {w W w' : World} {wide : Bool} {d : Value} (hb : Below w.heap.size w W) (hd : Has W w.heap.size 59 [d, .bool wide]) (he : Has W (w.heap.size + 1) 59 [.slice none 0 0, .bool false])
    (hg : W.grownBy w' (Value.slice (some ⟨w.heap.size + 2, 0, none⟩) 0 0).ownBlock) :
    w'.cell? ⟨w.heap.size, 1, none⟩ = some (.bool wide) ∧ Has w' (w.heap.size + 1) 59 [.slice none 0 0, .bool false] ∧ Below w.heap.size w w' := by
  have h1 := hd.grown hg (by intro h; have h : w.heap.size + 0 = w.heap.size + 2 := Option.some.inj h; omega)
  have h2 := he.grown hg (by intro h; have h : w.heap.size + 1 = w.heap.size + 2 := Option.some.inj h; omega)
  exact ⟨by rw [h1.cell]; rfl, h2, hb.grown hg hb.size (fun k hk => by have h : w.heap.size + 2 = k := Option.some.inj hk; omega)⟩
/-- A row of ints of the call's own, and how long its block is. -/
theorem own_has2 {w : World} {base n : Nat} {t : TypeId} {v : Value} {zs : List Int} (h : w.ownsRow base t 1 v n (i64s zs)) (hv : v ≠ .slice none 0 0) :
    ∃ g cap rest, v = .slice (some ⟨g, 0, none⟩) n cap ∧ zs.length = n ∧ base ≤ g ∧ n ≤ cap ∧ cap ≤ 9223372036854775807 ∧ Has w g t (i64s zs ++ rest) ∧ n + rest.length = cap := by
  have hl : zs.length = n := by simpa using h.1
  rcases h.2 with ⟨rfl, rfl⟩ | ⟨g, cap, cur, rfl, h2, h3, h4, h5, h6, h7⟩
  · exact absurd rfl hv
  · refine ⟨g, cap, cur.toList.drop (n * 1), rfl, hl, h2, h4, by unfold maxLen at h5; omega, ?_, ?_⟩
    · unfold Has
      rw [← h7, List.take_append_drop]
      exact h3
    · rw [List.length_drop, Array.length_toList]
      omega
theorem clone_row {B n : Nat} {W w' : World} {zs : List Int} {v' : Value} (hs : W.heap.size = B + 3) (h1 : w'.ownsRow B 3 1 v' (0 + n) ([] ++ i64s zs))
    (h3 : v'.ownBlock = (Value.slice (some ⟨B + 2, 0, none⟩) 0 0).ownBlock ∨ v'.ownBlock = some W.heap.size) :
    ∃ g c rest, v' = .slice (some ⟨g, 0, none⟩) n c ∧ B ≤ g ∧ n ≤ c ∧ c ≤ 9223372036854775807 ∧ Hid (Has w' g 3 (i64s zs ++ rest)) ∧ Hid (g ≠ B + 1) ∧ Hid (n + rest.length = c) := by
  rw [Nat.zero_add, List.nil_append] at h1
  obtain ⟨g, c, rest, rfl, -, hBg, h4, h5, h6, h7⟩ := own_has2 h1 (by
    rintro rfl
    rcases h3 with h | h <;> cases h)
  refine ⟨g, c, rest, rfl, hBg, h4, h5, hide h6, hide ?_, hide h7⟩
  rcases h3 with h | h
  · have h : g = B + 2 := Option.some.inj h
    omega
  · have h : g = W.heap.size := Option.some.inj h
    omega
set_option maxRecDepth 100000 in
set_option maxHeartbeats 4000000 in
theorem clone_own (zs : List Int) (P : Option Addr) (cap : Nat) (wide : Bool) (w : World) (hr : Ri w P zs) (hl : zs.length ≤ 1000000) :
    Calls Tryd.prog 63 #[.agg (dcells P zs.length cap wide)] w fun e w' => (∃ g c rest, e = .returned (.agg (dcells (some ⟨g, 0, none⟩) zs.length c wide)) ∧ w.heap.size ≤ g ∧ zs.length ≤ c ∧ c ≤ 9223372036854775807 ∧ Has w' g 3 (i64s zs ++ rest) ∧ zs.length + rest.length = c) ∧ Below w.heap.size w w' := by
  obtain ⟨n, hn⟩ : ∃ n, Hid (zs.length = n) := ⟨_, hide rfl⟩
  have HR := hide hr
  rw [hn.out] at hl ⊢
  clear hr
  go_enter Tryd.func63, Tryd.ntmps63
  go_wp2_with fail
  have hb0 := (((Below.refl _ w).alloc (Nat.le_refl _) (Obj.cells (dcells P n cap wide) 59)).alloc (by simp) (Obj.cells #[.slice none 0 0, .bool false] 59)).drew
  have hd0 := ((desc_row w P n cap wide).alloc (Obj.cells #[.slice none 0 0, .bool false] 59)).drewN 1
  have he0 : Has (((w.alloc (Obj.cells (dcells P n cap wide) 59)).alloc (Obj.cells #[.slice none 0 0, .bool false] 59)).drew) (w.heap.size + 1) 59 [.slice none 0 0, .bool false] := by
    have h : Has ((w.alloc (Obj.cells (dcells P n cap wide) 59)).alloc (Obj.cells #[.slice none 0 0, .bool false] 59)) (w.heap.size + 1) 59 [.slice none 0 0, .bool false] := by
      simpa using Has.new (w.alloc (Obj.cells (dcells P n cap wide) 59)) 59 [.slice none 0 0, .bool false]
    exact h
  have hsz0 : (((w.alloc (Obj.cells (dcells P n cap wide) 59)).alloc (Obj.cells #[.slice none 0 0, .bool false] 59)).drew).heap.size = w.heap.size + 2 := by simp [World.drew]
  have hr0 := HR.out.below hb0
  refine wp_region_any (by kernel_rfl) ?_
  change wpAny _ _ _ _ _ _ _ (World.drew _)
  obtain ⟨wd, hwd⟩ : ∃ wd, Hid (((w.alloc (Obj.cells (dcells P n cap wide) 59)).alloc (Obj.cells #[.slice none 0 0, .bool false] 59)).drew = wd) := ⟨_, hide rfl⟩
  replace hd0 : Has (((w.alloc (Obj.cells (dcells P n cap wide) 59)).alloc (Obj.cells #[.slice none 0 0, .bool false] 59)).drew) w.heap.size 59 [.slice P n cap, .bool wide] := hd0
  rw [hwd.out] at hb0 hd0 he0 hsz0 hr0
  generalize hwg : World.drew _ = wd'
  obtain rfl : wd = wd' := hwd.out.symm.trans hwg
  clear hwd hwg
  have c0 : wd.cell? ⟨w.heap.size, 0, none⟩ = some (.slice P n cap) := by rw [hd0.cell]; rfl
  have c1 : wd.cell? ⟨w.heap.size, 1, none⟩ = some (.bool wide) := by rw [hd0.cell]; rfl
  have hba := hb0.alloc hb0.size (Obj.cells #[] 3)
  have hda := hd0.alloc (Obj.cells #[] 3)
  have hea := he0.alloc (Obj.cells #[] 3)
  have c0a : (wd.alloc (Obj.cells #[] 3)).cell? ⟨w.heap.size, 0, none⟩ = some (.slice P n cap) := by rw [hda.cell]; rfl
  have c1a : (wd.alloc (Obj.cells #[] 3)).cell? ⟨w.heap.size, 1, none⟩ = some (.bool wide) := by rw [hda.cell]; rfl
  have HRA := hide (hr0.below ((Below.refl wd.heap.size wd).alloc (Nat.le_refl _) (Obj.cells #[] 3)))
  have HOWN : Hid ((wd.alloc (Obj.cells #[] 3)).ownsRow w.heap.size 3 1 (.slice (some ⟨w.heap.size + 2, 0, none⟩) 0 0) 0 []) := hide (by
    rw [← hsz0]
    refine ⟨rfl, .inr ⟨_, 0, #[], rfl, by omega, heap_alloc_new wd _, by omega, by unfold maxLen; omega, by simp, by simp⟩⟩)
  have hnb : 0 + n ≤ 1000000000000 := by omega
  have hbs : w.heap.size ≤ (wd.alloc (Obj.cells #[] 3)).heap.size := by simp; omega
  have HBA := hide hba
  have hHA := hide hda
  have hDA := hide hea
  have HSZ := hide (show (wd.alloc (Obj.cells #[] 3)).heap.size = w.heap.size + 3 by simp [hsz0])
  clear hba hda hea hd0 he0 hr0
  refine wpAny_take (i := 1) (v := .pointer (some ⟨w.heap.size, 0, none⟩)) rfl (by kernel_rfl) (by kernel_rfl) (by kernel_rfl) (fun _ _ _ h => h) (Or.inl ⟨by rfl, by intro w; go_simp⟩) ?_
  refine wpAny_take (i := 4) (v := .pointer (some ⟨w.heap.size, 1, none⟩)) rfl (by kernel_rfl) (by kernel_rfl) (by kernel_rfl) (fun _ _ _ h => h) (Or.inl ⟨by rfl, by intro w; go_simp⟩) ?_
  refine wpAny_ready (rs := [0, 2, 5]) (by kernel_rfl) (by simp) ?_
  refine AllReady.cons rfl (fun K hK => ?_) (AllReady.cons rfl (fun K hK => ?_) (AllReady.cons rfl (fun K hK => ?_) AllReady.nil))
  focus
    go_simp
    refine hK _ _ ?_
    clear hK K
    refine wpAny_ready (rs := [2, 5]) (by kernel_rfl) (by simp) ?_
    refine AllReady.cons rfl (fun K hK => ?_) (AllReady.cons rfl (fun K hK => ?_) AllReady.nil)
    focus
      go_simp
      refine hK _ _ ?_
      clear hK K
      refine wpAny_ready (rs := [3, 5]) (by kernel_rfl) (by simp) ?_
      refine AllReady.cons rfl (fun K hK => ?_) (AllReady.cons rfl (fun K hK => ?_) AllReady.nil)
      focus
        refine step_append_is rfl (.tmp 3) (.tmp 5) rfl w.heap.size (.slice (some ⟨w.heap.size + 2, 0, none⟩) 0 0) 0 [] rfl HOWN.out P n cap zs rfl hn HRA.out hnb hbs fun v' w' h1 h2 h3 => ?_
        have H1 := hide h1
        have H2 := hide h2
        have H3 := hide h3
        have hgw := hide (clone_grown HBA.out hHA.out hDA.out h2)
        have c1' := hgw.out.1
        clear h1 h2 h3
        refine hK _ _ ?_
        clear hK K
        refine wpAny_ready (rs := [5]) (by kernel_rfl) (by simp) ?_
        refine AllReady.cons rfl (fun K hK => ?_) AllReady.nil
        go_simp
        refine hK _ _ ?_
        clear hK K
        have hE := hgw.out.2.1
        have d0 : w'.cell? ⟨w.heap.size + 1, 0, none⟩ = some (.slice none 0 0) := by rw [hE.cell]; rfl
        have d1 : w'.cell? ⟨w.heap.size + 1, 1, none⟩ = some (.bool false) := by rw [hE.cell]; rfl
        have f0 := hE.frozen 0
        have f1 := hE.frozen 1
        have HE := hide hE
        obtain ⟨g, c, rest, rfl, hBg, hc1, hc2, hrow, hgn, hrl⟩ := clone_row HSZ.out H1.out H3.out
        clear hE H1 H2 H3
        refine wpAny_ready (rs := [6]) (by kernel_rfl) (by simp) ?_
        refine AllReady.cons rfl (fun K hK => ?_) AllReady.nil
        go_simp
        refine hK _ _ ?_
        clear hK K
        refine wpAny_ready (rs := [7]) (by kernel_rfl) (by simp) ?_
        refine AllReady.cons rfl (fun K hK => ?_) AllReady.nil
        go_simp
        refine hK _ _ ?_
        clear hK K
        refine wpAny_done (by kernel_rfl) ?_ _
        go_wp2_with fail
        have hz := (HE.out.set_ 0 (.slice (some ⟨g, 0, none⟩) n c)).set_ 1 (.bool wide)
        have hfin := (hgw.out.2.2.setCell (p := ⟨w.heap.size + 1, 0, none⟩) (Nat.le_succ _) (.slice (some ⟨g, 0, none⟩) n c)).setCell (p := ⟨w.heap.size + 1, 1, none⟩) (Nat.le_succ _) (.bool wide)
        have hrow2 := (hrow.out.far (p := ⟨w.heap.size + 1, 0, none⟩) hgn.out (.slice (some ⟨g, 0, none⟩) n c)).far (p := ⟨w.heap.size + 1, 1, none⟩) hgn.out (.bool wide)
        refine bodyPost_ret (results_cell_row rfl _ _ (w.heap.size + 1) 59 (dcells (some ⟨g, 0, none⟩) n c wide) (0, 0) _ rfl hz Tryd.underlying59 rfl (by kernel_rfl)) rfl ?_
        exact ⟨⟨g, c, rest, rfl, hBg, hc1, hc2, hrow2, hrl.out⟩, hfin⟩
      focus
        go_simp
        refine hK _ _ ?_
        clear hK K
        refine wpAny_ready (rs := [3]) (by kernel_rfl) (by simp) ?_
        refine AllReady.cons rfl (fun K hK => ?_) AllReady.nil
        refine step_append_is rfl (.tmp 3) (.tmp 5) rfl w.heap.size (.slice (some ⟨w.heap.size + 2, 0, none⟩) 0 0) 0 [] rfl HOWN.out P n cap zs rfl hn HRA.out hnb hbs fun v' w' h1 h2 h3 => ?_
        have H1 := hide h1
        have H2 := hide h2
        have H3 := hide h3
        have hgw := hide (clone_grown HBA.out hHA.out hDA.out h2)
        have c1' := hgw.out.1
        clear h1 h2 h3
        refine hK _ _ ?_
        clear hK K
        have hE := hgw.out.2.1
        have d0 : w'.cell? ⟨w.heap.size + 1, 0, none⟩ = some (.slice none 0 0) := by rw [hE.cell]; rfl
        have d1 : w'.cell? ⟨w.heap.size + 1, 1, none⟩ = some (.bool false) := by rw [hE.cell]; rfl
        have f0 := hE.frozen 0
        have f1 := hE.frozen 1
        have HE := hide hE
        obtain ⟨g, c, rest, rfl, hBg, hc1, hc2, hrow, hgn, hrl⟩ := clone_row HSZ.out H1.out H3.out
        clear hE H1 H2 H3
        refine wpAny_ready (rs := [6]) (by kernel_rfl) (by simp) ?_
        refine AllReady.cons rfl (fun K hK => ?_) AllReady.nil
        go_simp
        refine hK _ _ ?_
        clear hK K
        refine wpAny_ready (rs := [7]) (by kernel_rfl) (by simp) ?_
        refine AllReady.cons rfl (fun K hK => ?_) AllReady.nil
        go_simp
        refine hK _ _ ?_
        clear hK K
        refine wpAny_done (by kernel_rfl) ?_ _
        go_wp2_with fail
        have hz := (HE.out.set_ 0 (.slice (some ⟨g, 0, none⟩) n c)).set_ 1 (.bool wide)
        have hfin := (hgw.out.2.2.setCell (p := ⟨w.heap.size + 1, 0, none⟩) (Nat.le_succ _) (.slice (some ⟨g, 0, none⟩) n c)).setCell (p := ⟨w.heap.size + 1, 1, none⟩) (Nat.le_succ _) (.bool wide)
        have hrow2 := (hrow.out.far (p := ⟨w.heap.size + 1, 0, none⟩) hgn.out (.slice (some ⟨g, 0, none⟩) n c)).far (p := ⟨w.heap.size + 1, 1, none⟩) hgn.out (.bool wide)
        refine bodyPost_ret (results_cell_row rfl _ _ (w.heap.size + 1) 59 (dcells (some ⟨g, 0, none⟩) n c wide) (0, 0) _ rfl hz Tryd.underlying59 rfl (by kernel_rfl)) rfl ?_
        exact ⟨⟨g, c, rest, rfl, hBg, hc1, hc2, hrow2, hrl.out⟩, hfin⟩
    focus
      go_simp
      refine hK _ _ ?_
      clear hK K
      refine wpAny_ready (rs := [2]) (by kernel_rfl) (by simp) ?_
      refine AllReady.cons rfl (fun K hK => ?_) AllReady.nil
      go_simp
      refine hK _ _ ?_
      clear hK K
      refine wpAny_ready (rs := [3]) (by kernel_rfl) (by simp) ?_
      refine AllReady.cons rfl (fun K hK => ?_) AllReady.nil
      refine step_append_is rfl (.tmp 3) (.tmp 5) rfl w.heap.size (.slice (some ⟨w.heap.size + 2, 0, none⟩) 0 0) 0 [] rfl HOWN.out P n cap zs rfl hn HRA.out hnb hbs fun v' w' h1 h2 h3 => ?_
      have H1 := hide h1
      have H2 := hide h2
      have H3 := hide h3
      have hgw := hide (clone_grown HBA.out hHA.out hDA.out h2)
      have c1' := hgw.out.1
      clear h1 h2 h3
      refine hK _ _ ?_
      clear hK K
      have hE := hgw.out.2.1
      have d0 : w'.cell? ⟨w.heap.size + 1, 0, none⟩ = some (.slice none 0 0) := by rw [hE.cell]; rfl
      have d1 : w'.cell? ⟨w.heap.size + 1, 1, none⟩ = some (.bool false) := by rw [hE.cell]; rfl
      have f0 := hE.frozen 0
      have f1 := hE.frozen 1
      have HE := hide hE
      obtain ⟨g, c, rest, rfl, hBg, hc1, hc2, hrow, hgn, hrl⟩ := clone_row HSZ.out H1.out H3.out
      clear hE H1 H2 H3
      refine wpAny_ready (rs := [6]) (by kernel_rfl) (by simp) ?_
      refine AllReady.cons rfl (fun K hK => ?_) AllReady.nil
      go_simp
      refine hK _ _ ?_
      clear hK K
      refine wpAny_ready (rs := [7]) (by kernel_rfl) (by simp) ?_
      refine AllReady.cons rfl (fun K hK => ?_) AllReady.nil
      go_simp
      refine hK _ _ ?_
      clear hK K
      refine wpAny_done (by kernel_rfl) ?_ _
      go_wp2_with fail
      have hz := (HE.out.set_ 0 (.slice (some ⟨g, 0, none⟩) n c)).set_ 1 (.bool wide)
      have hfin := (hgw.out.2.2.setCell (p := ⟨w.heap.size + 1, 0, none⟩) (Nat.le_succ _) (.slice (some ⟨g, 0, none⟩) n c)).setCell (p := ⟨w.heap.size + 1, 1, none⟩) (Nat.le_succ _) (.bool wide)
      have hrow2 := (hrow.out.far (p := ⟨w.heap.size + 1, 0, none⟩) hgn.out (.slice (some ⟨g, 0, none⟩) n c)).far (p := ⟨w.heap.size + 1, 1, none⟩) hgn.out (.bool wide)
      refine bodyPost_ret (results_cell_row rfl _ _ (w.heap.size + 1) 59 (dcells (some ⟨g, 0, none⟩) n c wide) (0, 0) _ rfl hz Tryd.underlying59 rfl (by kernel_rfl)) rfl ?_
      exact ⟨⟨g, c, rest, rfl, hBg, hc1, hc2, hrow2, hrl.out⟩, hfin⟩
  focus
    go_simp
    refine hK _ _ ?_
    clear hK K
    refine wpAny_ready (rs := [0, 5]) (by kernel_rfl) (by simp) ?_
    refine AllReady.cons rfl (fun K hK => ?_) (AllReady.cons rfl (fun K hK => ?_) AllReady.nil)
    focus
      go_simp
      refine hK _ _ ?_
      clear hK K
      refine wpAny_ready (rs := [3, 5]) (by kernel_rfl) (by simp) ?_
      refine AllReady.cons rfl (fun K hK => ?_) (AllReady.cons rfl (fun K hK => ?_) AllReady.nil)
      focus
        refine step_append_is rfl (.tmp 3) (.tmp 5) rfl w.heap.size (.slice (some ⟨w.heap.size + 2, 0, none⟩) 0 0) 0 [] rfl HOWN.out P n cap zs rfl hn HRA.out hnb hbs fun v' w' h1 h2 h3 => ?_
        have H1 := hide h1
        have H2 := hide h2
        have H3 := hide h3
        have hgw := hide (clone_grown HBA.out hHA.out hDA.out h2)
        have c1' := hgw.out.1
        clear h1 h2 h3
        refine hK _ _ ?_
        clear hK K
        refine wpAny_ready (rs := [5]) (by kernel_rfl) (by simp) ?_
        refine AllReady.cons rfl (fun K hK => ?_) AllReady.nil
        go_simp
        refine hK _ _ ?_
        clear hK K
        have hE := hgw.out.2.1
        have d0 : w'.cell? ⟨w.heap.size + 1, 0, none⟩ = some (.slice none 0 0) := by rw [hE.cell]; rfl
        have d1 : w'.cell? ⟨w.heap.size + 1, 1, none⟩ = some (.bool false) := by rw [hE.cell]; rfl
        have f0 := hE.frozen 0
        have f1 := hE.frozen 1
        have HE := hide hE
        obtain ⟨g, c, rest, rfl, hBg, hc1, hc2, hrow, hgn, hrl⟩ := clone_row HSZ.out H1.out H3.out
        clear hE H1 H2 H3
        refine wpAny_ready (rs := [6]) (by kernel_rfl) (by simp) ?_
        refine AllReady.cons rfl (fun K hK => ?_) AllReady.nil
        go_simp
        refine hK _ _ ?_
        clear hK K
        refine wpAny_ready (rs := [7]) (by kernel_rfl) (by simp) ?_
        refine AllReady.cons rfl (fun K hK => ?_) AllReady.nil
        go_simp
        refine hK _ _ ?_
        clear hK K
        refine wpAny_done (by kernel_rfl) ?_ _
        go_wp2_with fail
        have hz := (HE.out.set_ 0 (.slice (some ⟨g, 0, none⟩) n c)).set_ 1 (.bool wide)
        have hfin := (hgw.out.2.2.setCell (p := ⟨w.heap.size + 1, 0, none⟩) (Nat.le_succ _) (.slice (some ⟨g, 0, none⟩) n c)).setCell (p := ⟨w.heap.size + 1, 1, none⟩) (Nat.le_succ _) (.bool wide)
        have hrow2 := (hrow.out.far (p := ⟨w.heap.size + 1, 0, none⟩) hgn.out (.slice (some ⟨g, 0, none⟩) n c)).far (p := ⟨w.heap.size + 1, 1, none⟩) hgn.out (.bool wide)
        refine bodyPost_ret (results_cell_row rfl _ _ (w.heap.size + 1) 59 (dcells (some ⟨g, 0, none⟩) n c wide) (0, 0) _ rfl hz Tryd.underlying59 rfl (by kernel_rfl)) rfl ?_
        exact ⟨⟨g, c, rest, rfl, hBg, hc1, hc2, hrow2, hrl.out⟩, hfin⟩
      focus
        go_simp
        refine hK _ _ ?_
        clear hK K
        refine wpAny_ready (rs := [3]) (by kernel_rfl) (by simp) ?_
        refine AllReady.cons rfl (fun K hK => ?_) AllReady.nil
        refine step_append_is rfl (.tmp 3) (.tmp 5) rfl w.heap.size (.slice (some ⟨w.heap.size + 2, 0, none⟩) 0 0) 0 [] rfl HOWN.out P n cap zs rfl hn HRA.out hnb hbs fun v' w' h1 h2 h3 => ?_
        have H1 := hide h1
        have H2 := hide h2
        have H3 := hide h3
        have hgw := hide (clone_grown HBA.out hHA.out hDA.out h2)
        have c1' := hgw.out.1
        clear h1 h2 h3
        refine hK _ _ ?_
        clear hK K
        have hE := hgw.out.2.1
        have d0 : w'.cell? ⟨w.heap.size + 1, 0, none⟩ = some (.slice none 0 0) := by rw [hE.cell]; rfl
        have d1 : w'.cell? ⟨w.heap.size + 1, 1, none⟩ = some (.bool false) := by rw [hE.cell]; rfl
        have f0 := hE.frozen 0
        have f1 := hE.frozen 1
        have HE := hide hE
        obtain ⟨g, c, rest, rfl, hBg, hc1, hc2, hrow, hgn, hrl⟩ := clone_row HSZ.out H1.out H3.out
        clear hE H1 H2 H3
        refine wpAny_ready (rs := [6]) (by kernel_rfl) (by simp) ?_
        refine AllReady.cons rfl (fun K hK => ?_) AllReady.nil
        go_simp
        refine hK _ _ ?_
        clear hK K
        refine wpAny_ready (rs := [7]) (by kernel_rfl) (by simp) ?_
        refine AllReady.cons rfl (fun K hK => ?_) AllReady.nil
        go_simp
        refine hK _ _ ?_
        clear hK K
        refine wpAny_done (by kernel_rfl) ?_ _
        go_wp2_with fail
        have hz := (HE.out.set_ 0 (.slice (some ⟨g, 0, none⟩) n c)).set_ 1 (.bool wide)
        have hfin := (hgw.out.2.2.setCell (p := ⟨w.heap.size + 1, 0, none⟩) (Nat.le_succ _) (.slice (some ⟨g, 0, none⟩) n c)).setCell (p := ⟨w.heap.size + 1, 1, none⟩) (Nat.le_succ _) (.bool wide)
        have hrow2 := (hrow.out.far (p := ⟨w.heap.size + 1, 0, none⟩) hgn.out (.slice (some ⟨g, 0, none⟩) n c)).far (p := ⟨w.heap.size + 1, 1, none⟩) hgn.out (.bool wide)
        refine bodyPost_ret (results_cell_row rfl _ _ (w.heap.size + 1) 59 (dcells (some ⟨g, 0, none⟩) n c wide) (0, 0) _ rfl hz Tryd.underlying59 rfl (by kernel_rfl)) rfl ?_
        exact ⟨⟨g, c, rest, rfl, hBg, hc1, hc2, hrow2, hrl.out⟩, hfin⟩
    focus
      go_simp
      refine hK _ _ ?_
      clear hK K
      refine wpAny_ready (rs := [0]) (by kernel_rfl) (by simp) ?_
      refine AllReady.cons rfl (fun K hK => ?_) AllReady.nil
      go_simp
      refine hK _ _ ?_
      clear hK K
      refine wpAny_ready (rs := [3]) (by kernel_rfl) (by simp) ?_
      refine AllReady.cons rfl (fun K hK => ?_) AllReady.nil
      refine step_append_is rfl (.tmp 3) (.tmp 5) rfl w.heap.size (.slice (some ⟨w.heap.size + 2, 0, none⟩) 0 0) 0 [] rfl HOWN.out P n cap zs rfl hn HRA.out hnb hbs fun v' w' h1 h2 h3 => ?_
      have H1 := hide h1
      have H2 := hide h2
      have H3 := hide h3
      have hgw := hide (clone_grown HBA.out hHA.out hDA.out h2)
      have c1' := hgw.out.1
      clear h1 h2 h3
      refine hK _ _ ?_
      clear hK K
      have hE := hgw.out.2.1
      have d0 : w'.cell? ⟨w.heap.size + 1, 0, none⟩ = some (.slice none 0 0) := by rw [hE.cell]; rfl
      have d1 : w'.cell? ⟨w.heap.size + 1, 1, none⟩ = some (.bool false) := by rw [hE.cell]; rfl
      have f0 := hE.frozen 0
      have f1 := hE.frozen 1
      have HE := hide hE
      obtain ⟨g, c, rest, rfl, hBg, hc1, hc2, hrow, hgn, hrl⟩ := clone_row HSZ.out H1.out H3.out
      clear hE H1 H2 H3
      refine wpAny_ready (rs := [6]) (by kernel_rfl) (by simp) ?_
      refine AllReady.cons rfl (fun K hK => ?_) AllReady.nil
      go_simp
      refine hK _ _ ?_
      clear hK K
      refine wpAny_ready (rs := [7]) (by kernel_rfl) (by simp) ?_
      refine AllReady.cons rfl (fun K hK => ?_) AllReady.nil
      go_simp
      refine hK _ _ ?_
      clear hK K
      refine wpAny_done (by kernel_rfl) ?_ _
      go_wp2_with fail
      have hz := (HE.out.set_ 0 (.slice (some ⟨g, 0, none⟩) n c)).set_ 1 (.bool wide)
      have hfin := (hgw.out.2.2.setCell (p := ⟨w.heap.size + 1, 0, none⟩) (Nat.le_succ _) (.slice (some ⟨g, 0, none⟩) n c)).setCell (p := ⟨w.heap.size + 1, 1, none⟩) (Nat.le_succ _) (.bool wide)
      have hrow2 := (hrow.out.far (p := ⟨w.heap.size + 1, 0, none⟩) hgn.out (.slice (some ⟨g, 0, none⟩) n c)).far (p := ⟨w.heap.size + 1, 1, none⟩) hgn.out (.bool wide)
      refine bodyPost_ret (results_cell_row rfl _ _ (w.heap.size + 1) 59 (dcells (some ⟨g, 0, none⟩) n c wide) (0, 0) _ rfl hz Tryd.underlying59 rfl (by kernel_rfl)) rfl ?_
      exact ⟨⟨g, c, rest, rfl, hBg, hc1, hc2, hrow2, hrl.out⟩, hfin⟩
  focus
    go_simp
    refine hK _ _ ?_
    clear hK K
    refine wpAny_ready (rs := [0, 2]) (by kernel_rfl) (by simp) ?_
    refine AllReady.cons rfl (fun K hK => ?_) (AllReady.cons rfl (fun K hK => ?_) AllReady.nil)
    focus
      go_simp
      refine hK _ _ ?_
      clear hK K
      refine wpAny_ready (rs := [2]) (by kernel_rfl) (by simp) ?_
      refine AllReady.cons rfl (fun K hK => ?_) AllReady.nil
      go_simp
      refine hK _ _ ?_
      clear hK K
      refine wpAny_ready (rs := [3]) (by kernel_rfl) (by simp) ?_
      refine AllReady.cons rfl (fun K hK => ?_) AllReady.nil
      refine step_append_is rfl (.tmp 3) (.tmp 5) rfl w.heap.size (.slice (some ⟨w.heap.size + 2, 0, none⟩) 0 0) 0 [] rfl HOWN.out P n cap zs rfl hn HRA.out hnb hbs fun v' w' h1 h2 h3 => ?_
      have H1 := hide h1
      have H2 := hide h2
      have H3 := hide h3
      have hgw := hide (clone_grown HBA.out hHA.out hDA.out h2)
      have c1' := hgw.out.1
      clear h1 h2 h3
      refine hK _ _ ?_
      clear hK K
      have hE := hgw.out.2.1
      have d0 : w'.cell? ⟨w.heap.size + 1, 0, none⟩ = some (.slice none 0 0) := by rw [hE.cell]; rfl
      have d1 : w'.cell? ⟨w.heap.size + 1, 1, none⟩ = some (.bool false) := by rw [hE.cell]; rfl
      have f0 := hE.frozen 0
      have f1 := hE.frozen 1
      have HE := hide hE
      obtain ⟨g, c, rest, rfl, hBg, hc1, hc2, hrow, hgn, hrl⟩ := clone_row HSZ.out H1.out H3.out
      clear hE H1 H2 H3
      refine wpAny_ready (rs := [6]) (by kernel_rfl) (by simp) ?_
      refine AllReady.cons rfl (fun K hK => ?_) AllReady.nil
      go_simp
      refine hK _ _ ?_
      clear hK K
      refine wpAny_ready (rs := [7]) (by kernel_rfl) (by simp) ?_
      refine AllReady.cons rfl (fun K hK => ?_) AllReady.nil
      go_simp
      refine hK _ _ ?_
      clear hK K
      refine wpAny_done (by kernel_rfl) ?_ _
      go_wp2_with fail
      have hz := (HE.out.set_ 0 (.slice (some ⟨g, 0, none⟩) n c)).set_ 1 (.bool wide)
      have hfin := (hgw.out.2.2.setCell (p := ⟨w.heap.size + 1, 0, none⟩) (Nat.le_succ _) (.slice (some ⟨g, 0, none⟩) n c)).setCell (p := ⟨w.heap.size + 1, 1, none⟩) (Nat.le_succ _) (.bool wide)
      have hrow2 := (hrow.out.far (p := ⟨w.heap.size + 1, 0, none⟩) hgn.out (.slice (some ⟨g, 0, none⟩) n c)).far (p := ⟨w.heap.size + 1, 1, none⟩) hgn.out (.bool wide)
      refine bodyPost_ret (results_cell_row rfl _ _ (w.heap.size + 1) 59 (dcells (some ⟨g, 0, none⟩) n c wide) (0, 0) _ rfl hz Tryd.underlying59 rfl (by kernel_rfl)) rfl ?_
      exact ⟨⟨g, c, rest, rfl, hBg, hc1, hc2, hrow2, hrl.out⟩, hfin⟩
    focus
      go_simp
      refine hK _ _ ?_
      clear hK K
      refine wpAny_ready (rs := [0]) (by kernel_rfl) (by simp) ?_
      refine AllReady.cons rfl (fun K hK => ?_) AllReady.nil
      go_simp
      refine hK _ _ ?_
      clear hK K
      refine wpAny_ready (rs := [3]) (by kernel_rfl) (by simp) ?_
      refine AllReady.cons rfl (fun K hK => ?_) AllReady.nil
      refine step_append_is rfl (.tmp 3) (.tmp 5) rfl w.heap.size (.slice (some ⟨w.heap.size + 2, 0, none⟩) 0 0) 0 [] rfl HOWN.out P n cap zs rfl hn HRA.out hnb hbs fun v' w' h1 h2 h3 => ?_
      have H1 := hide h1
      have H2 := hide h2
      have H3 := hide h3
      have hgw := hide (clone_grown HBA.out hHA.out hDA.out h2)
      have c1' := hgw.out.1
      clear h1 h2 h3
      refine hK _ _ ?_
      clear hK K
      have hE := hgw.out.2.1
      have d0 : w'.cell? ⟨w.heap.size + 1, 0, none⟩ = some (.slice none 0 0) := by rw [hE.cell]; rfl
      have d1 : w'.cell? ⟨w.heap.size + 1, 1, none⟩ = some (.bool false) := by rw [hE.cell]; rfl
      have f0 := hE.frozen 0
      have f1 := hE.frozen 1
      have HE := hide hE
      obtain ⟨g, c, rest, rfl, hBg, hc1, hc2, hrow, hgn, hrl⟩ := clone_row HSZ.out H1.out H3.out
      clear hE H1 H2 H3
      refine wpAny_ready (rs := [6]) (by kernel_rfl) (by simp) ?_
      refine AllReady.cons rfl (fun K hK => ?_) AllReady.nil
      go_simp
      refine hK _ _ ?_
      clear hK K
      refine wpAny_ready (rs := [7]) (by kernel_rfl) (by simp) ?_
      refine AllReady.cons rfl (fun K hK => ?_) AllReady.nil
      go_simp
      refine hK _ _ ?_
      clear hK K
      refine wpAny_done (by kernel_rfl) ?_ _
      go_wp2_with fail
      have hz := (HE.out.set_ 0 (.slice (some ⟨g, 0, none⟩) n c)).set_ 1 (.bool wide)
      have hfin := (hgw.out.2.2.setCell (p := ⟨w.heap.size + 1, 0, none⟩) (Nat.le_succ _) (.slice (some ⟨g, 0, none⟩) n c)).setCell (p := ⟨w.heap.size + 1, 1, none⟩) (Nat.le_succ _) (.bool wide)
      have hrow2 := (hrow.out.far (p := ⟨w.heap.size + 1, 0, none⟩) hgn.out (.slice (some ⟨g, 0, none⟩) n c)).far (p := ⟨w.heap.size + 1, 1, none⟩) hgn.out (.bool wide)
      refine bodyPost_ret (results_cell_row rfl _ _ (w.heap.size + 1) 59 (dcells (some ⟨g, 0, none⟩) n c wide) (0, 0) _ rfl hz Tryd.underlying59 rfl (by kernel_rfl)) rfl ?_
      exact ⟨⟨g, c, rest, rfl, hBg, hc1, hc2, hrow2, hrl.out⟩, hfin⟩
end Go.Proofs.YthjnkaikjjjceaaDoor
