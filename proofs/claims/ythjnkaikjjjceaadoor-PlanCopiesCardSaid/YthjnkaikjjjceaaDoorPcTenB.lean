/-
  Package tens's Clone, walked. By an AI agent. No person has read it.
-/
import Derived.Test.YthjnkaikjjjceaaDoorPcShpCl
import Derived.Test.YthjnkaikjjjceaaDoorPcTenA
namespace Go.Proofs.YthjnkaikjjjceaaDoor
open Go.RowKit
theorem tcl_empty (W : World) (g : Nat) {B : Nat} (h : Has W g 3 []) (hb : B ≤ g) : W.ownsRow B 3 1 (.slice (some ⟨g, 0, none⟩) 0 0) 0 [] :=
  ⟨rfl, .inr ⟨g, 0, #[], rfl, hb, h, by omega, by unfold maxLen; omega, by simp, by simp⟩⟩
theorem ten_of {B : Nat} {w W : World} {x1 x2 x3 : Value} (hT : Has W B 70 [x1, x2, x3]) (hb : Below w.heap.size w W) : TenS B w x1 x2 x3 W :=
  ⟨by rw [hT.cell]; rfl, by rw [hT.cell]; rfl, by rw [hT.cell]; rfl, hide hb⟩
theorem tcl_after {w W w' : World} {B g g0 m : Nat} {ts us cs : List Value} {ds : List Int} {v' : Value} (hT : Has W B 70 ts) (hZ : Has W (B + 1) 70 us) (hC : Has W g 3 cs)
    (hb : Below B w W) (hs : B + 2 ≤ W.heap.size) (hg0 : B + 2 ≤ g0) (hne : g ≠ g0) (h1 : w'.ownsRow B 3 1 v' (0 + m) ([] ++ i64s ds)) (h2 : W.grownBy w' (Value.slice (some ⟨g0, 0, none⟩) 0 0).ownBlock)
    (h3 : v'.ownBlock = (Value.slice (some ⟨g0, 0, none⟩) 0 0).ownBlock ∨ v'.ownBlock = some W.heap.size) :
    ∃ gd cd rd, v' = .slice (some ⟨gd, 0, none⟩) m cd ∧ m ≤ cd ∧ cd ≤ 9223372036854775807 ∧ Has w' gd 3 (i64s ds ++ rd) ∧ B + 2 ≤ gd ∧ g ≠ gd ∧ Has w' B 70 ts ∧ Has w' (B + 1) 70 us ∧ Has w' g 3 cs ∧ Below B w w' ∧ m + rd.length = cd := by
  rw [Nat.zero_add, List.nil_append] at h1
  have e0 : (Value.slice (some ⟨g0, 0, none⟩) 0 0).ownBlock = some g0 := rfl
  rw [e0] at h2 h3
  obtain ⟨gd, cd, rd, rfl, -, -, h4, h5, h6, h7⟩ := own_has2 h1 (by
    rintro rfl
    rcases h3 with h | h <;> cases h)
  have hlt := hC.lt
  have hgd : gd = g0 ∨ gd = W.heap.size := by
    rcases h3 with h | h
    · exact .inl (Option.some.inj h)
    · exact .inr (Option.some.inj h)
  refine ⟨gd, cd, rd, rfl, h4, h5, h6, by omega, by omega, hT.grown h2 ?_, hZ.grown h2 ?_, hC.grown h2 ?_, hb.grown h2 (by omega) (fun k hk => ?_), h7⟩
  · intro h; have h := Option.some.inj h; omega
  · intro h; have h := Option.some.inj h; omega
  · intro h; have h := Option.some.inj h; omega
  · have h := Option.some.inj hk; omega

set_option maxRecDepth 100000 in
set_option maxHeartbeats 4000000 in
theorem tclone_c (zs ds : List Int) (P D : Option Addr) (cap dcap : Nat) (u : Bool) (w : World) (hr : Ri w P zs) (hd : Ri w D ds) (hl : zs.length ≤ 1000000) (hdl : ds.length ≤ 1000000) :
    Calls Tryd.prog 61 #[.agg (tcells P zs.length cap u D ds.length dcap)] w fun e w' => (∃ g c rest gd cd rd, e = .returned (.agg (tcells (some ⟨g, 0, none⟩) zs.length c u (some ⟨gd, 0, none⟩) ds.length cd)) ∧
      w.heap.size ≤ g ∧ zs.length ≤ c ∧ c ≤ 9223372036854775807 ∧ Has w' g 3 (i64s zs ++ rest) ∧ w.heap.size ≤ gd ∧ ds.length ≤ cd ∧ cd ≤ 9223372036854775807 ∧ Has w' gd 3 (i64s ds ++ rd) ∧ g ≠ gd ∧ zs.length + rest.length = c ∧ ds.length + rd.length = cd) ∧ Below w.heap.size w w' := by
  have HCL := hide (fun W (hb : Below w.heap.size w W) => clone_own zs P cap u W (hr.below hb) hl)
  have HD := hide hd
  obtain ⟨n, hn⟩ : ∃ n, Hid (zs.length = n) := ⟨_, hide rfl⟩
  obtain ⟨m, hm⟩ : ∃ m, Hid (ds.length = m) := ⟨_, hide rfl⟩
  rw [hn.out] at HCL hl ⊢
  rw [hm.out] at hdl ⊢
  have hmb : 0 + m ≤ 1000000000000 := by omega
  clear hr hd hn
  go_enter Tryd.func61, Tryd.ntmps61
  go_wp2_with fail
  have hbw := (((Below.refl _ w).alloc (Nat.le_refl _) (Obj.cells (tcells P n cap u D m dcap) 70)).alloc (by simp) (Obj.cells #[.slice none 0 0, .bool false, .slice none 0 0] 70)).drew
  have hT0 : Has (((w.alloc (Obj.cells (tcells P n cap u D m dcap) 70)).alloc (Obj.cells #[.slice none 0 0, .bool false, .slice none 0 0] 70)).drew) w.heap.size 70 [.slice P n cap, .bool u, .slice D m dcap] :=
    ((tens_row w P n cap u D m dcap).alloc (Obj.cells #[.slice none 0 0, .bool false, .slice none 0 0] 70)).drewN 1
  have hZ0 : Has (((w.alloc (Obj.cells (tcells P n cap u D m dcap) 70)).alloc (Obj.cells #[.slice none 0 0, .bool false, .slice none 0 0] 70)).drew) (w.heap.size + 1) 70 [.slice none 0 0, .bool false, .slice none 0 0] := by
    have h : Has ((w.alloc (Obj.cells (tcells P n cap u D m dcap) 70)).alloc (Obj.cells #[.slice none 0 0, .bool false, .slice none 0 0] 70)) (w.heap.size + 1) 70 [.slice none 0 0, .bool false, .slice none 0 0] := by
      simpa using Has.new (w.alloc (Obj.cells (tcells P n cap u D m dcap) 70)) 70 [.slice none 0 0, .bool false, .slice none 0 0]
    exact h
  have hsz : (((w.alloc (Obj.cells (tcells P n cap u D m dcap) 70)).alloc (Obj.cells #[.slice none 0 0, .bool false, .slice none 0 0] 70)).drew).heap.size = w.heap.size + 2 := by simp [World.drew]
  refine wp_region_held_drew (S := fun W => W.cell? ⟨w.heap.size, 0, none⟩ = some (.slice P n cap) ∧ W.cell? ⟨w.heap.size, 1, none⟩ = some (.bool u) ∧ W.cell? ⟨w.heap.size, 2, none⟩ = some (.slice D m dcap) ∧ Hid (Below w.heap.size w W)) (by kernel_rfl) (ten_of hT0 hbw) (fun hH0 => ?_)
  generalize World.drew _ = wd at *
  refine wpAnyH_take (i := 0) (oi := { dst := some 3, op := Op.fieldAddr 70 (Operand.tmp 1) 0, type := 0, pos := "tens.go:74", after := #[], guard := none }) (v := ?v0) rfl (by kernel_rfl) (by kernel_rfl) (by kernel_rfl) (fun _ _ _ h => h) (Or.inl ⟨by rfl, ?hy0⟩) (by assumption) ?r0
  case hy0 =>
    intro w hSw
    (try dsimp only at hSw)
    go_simp
    all_goals with_reducible rfl
  (try simp only [Act.put, List.setIfInBounds_toArray, List.set_cons_zero, List.set_cons_succ])
  refine wpAnyH_take (i := 1) (oi := { dst := some 4, op := Op.load 59 (Operand.tmp 3), type := 59, pos := "tens.go:74", after := #[{ on := 0, ground := Ground.data }], guard := none }) (v := ?v1) rfl (by kernel_rfl) (by kernel_rfl) (by kernel_rfl) (fun _ _ _ h => h) (Or.inl ⟨by rfl, ?hy1⟩) (by assumption) ?r1
  case hy1 =>
    intro w hSw
    (try dsimp only at hSw)
    go_simp
    all_goals with_reducible rfl
  (try simp only [Act.put, List.setIfInBounds_toArray, List.set_cons_zero, List.set_cons_succ])
  refine wpAnyH_take (i := 4) (oi := { dst := some 7, op := Op.fieldAddr 70 (Operand.tmp 1) 1, type := 0, pos := "tens.go:74", after := #[], guard := none }) (v := ?v4) rfl (by kernel_rfl) (by kernel_rfl) (by kernel_rfl) (fun _ _ _ h => h) (Or.inl ⟨by rfl, ?hy4⟩) (by assumption) ?r4
  case hy4 =>
    intro w hSw
    (try dsimp only at hSw)
    go_simp
    all_goals with_reducible rfl
  (try simp only [Act.put, List.setIfInBounds_toArray, List.set_cons_zero, List.set_cons_succ])
  refine wpAnyH_take (i := 5) (oi := { dst := some 8, op := Op.load 46 (Operand.tmp 7), type := 46, pos := "tens.go:74", after := #[{ on := 4, ground := Ground.data }], guard := none }) (v := ?v5) rfl (by kernel_rfl) (by kernel_rfl) (by kernel_rfl) (fun _ _ _ h => h) (Or.inl ⟨by rfl, ?hy5⟩) (by assumption) ?r5
  case hy5 =>
    intro w hSw
    (try dsimp only at hSw)
    go_simp
    all_goals with_reducible rfl
  (try simp only [Act.put, List.setIfInBounds_toArray, List.set_cons_zero, List.set_cons_succ])
  refine wpAnyH_ready (rs := [2, 3]) (by kernel_rfl) (by simp) ?_
  refine AllReadyH.cons (o := { dst := some 5, op := Op.call { callee := Callee.value (Operand.func 63), args := #[Operand.tmp 4], argTypes := #[59] }, type := 59, pos := "tens.go:74", after := #[{ on := 1, ground := Ground.data }], guard := none }) rfl (fun K hK => ?_) (AllReadyH.cons (o := { dst := some 6, op := Op.buildSlice 46 0 #[], type := 46, pos := "tens.go:74", after := #[], guard := none }) rfl (fun K hK => ?_) AllReadyH.nil)
  focus
    go_simp
    refine (HCL.out _ hbw).mono ?_
    rintro e W2 ⟨⟨g, c, rest, rfl, hg, hc1, hc2, hC, hcl⟩, hb⟩
    go_wp2_with fail
    have hT := hT0.below hb hT0.lt
    have hZ := hZ0.below hb hZ0.lt
    have hbw2 := hbw.trans (hb.mono hbw.size)
    refine hK.out _ _ ?_ (fun hH1 => ?_)
    · exact ten_of hT hbw2
    clear hK K
    (try simp only [Act.put, List.setIfInBounds_toArray, List.set_cons_zero, List.set_cons_succ])
    clear hH0 hT0 hZ0 hbw
    refine wpAnyH_ready (rs := [3]) (by kernel_rfl) (by simp) ?_
    refine AllReadyH.cons (o := { dst := some 6, op := Op.buildSlice 46 0 #[], type := 46, pos := "tens.go:74", after := #[], guard := none }) rfl (fun K hK => ?_) AllReadyH.nil
    go_simp
    replace hT := hT.alloc (Obj.cells #[] 3)
    replace hZ := hZ.alloc (Obj.cells #[] 3)
    have hE : Has (W2.alloc (Obj.cells #[] 3)) W2.heap.size 3 [] := Has.new W2 3 []
    have hlt := hC.lt
    replace hC := hC.alloc (Obj.cells #[] 3)
    have hbw := hbw2.alloc hbw2.size (Obj.cells #[] 3)
    have hsz2 := hb.size
    have hws : w.heap.size + 2 ≤ (W2.alloc (Obj.cells #[] 3)).heap.size := by simp; omega
    have hg2 : w.heap.size + 2 ≤ W2.heap.size := by omega
    have hne : g ≠ W2.heap.size := by omega
    replace hg : w.heap.size + 2 ≤ g := by omega
    refine hK.out _ _ ?_ (fun hH2 => ?_)
    · exact ten_of hT hbw
    clear hK K
    (try simp only [Act.put, List.setIfInBounds_toArray, List.set_cons_zero, List.set_cons_succ])
    clear hH1 hb hbw2 hlt hsz2 hsz
    generalize W2.alloc (Obj.cells #[] 3) = W at *
    generalize W2.heap.size = g0 at *
    have hHp := hH2
    clear hH2
    have hown := tcl_empty W g0 (B := w.heap.size) hE (by omega)
    have hrd := HD.out.below hbw
    refine wpAnyH_ready (rs := [6]) (by kernel_rfl) (by simp) ?_
    refine AllReadyH.cons (o := { dst := some 9, op := Op.call { callee := Callee.builtin Builtin.append, args := #[Operand.tmp 6, Operand.tmp 8], argTypes := #[46, 46] }, type := 46, pos := "tens.go:74", after := #[{ on := 3, ground := Ground.data }, { on := 5, ground := Ground.data }, { on := 2, ground := Ground.chain }], guard := none }) rfl (fun K hK => ?_) AllReadyH.nil
    refine step_append_is rfl (.tmp 6) (.tmp 8) rfl w.heap.size (.slice (some ⟨g0, 0, none⟩) 0 0) 0 [] rfl hown D m dcap ds rfl hm hrd hmb (by omega) fun v' w' h1 h2 h3 => ?_
    obtain ⟨gd, cd, rd, rfl, hd1, hd2, hDD, hgd, hdn, hT', hZ', hC', hbw', hdl⟩ := tcl_after hT hZ hC hbw (by omega) (by omega) hne h1 h2 h3
    clear h1 h2 h3 hown hrd hT hZ hC hE hbw
    refine hK.out _ _ ?_ (fun hH8 => ?_)
    · exact ten_of hT' hbw'
    clear hK K
    (try simp only [Act.put, List.setIfInBounds_toArray, List.set_cons_zero, List.set_cons_succ])
    clear hHp
    refine wpAnyH_take (i := 7) (oi := { dst := some 10, op := Op.build 70 #[(0, Operand.tmp 5), (1, Operand.tmp 9)], type := 70, pos := "tens.go:74", after := #[{ on := 2, ground := Ground.data }, { on := 6, ground := Ground.data }], guard := none }) (v := ?v7) rfl (by kernel_rfl) (by kernel_rfl) (by kernel_rfl) (fun _ _ _ h => h) (Or.inl ⟨by rfl, ?hy7⟩) (by assumption) ?r7
    case hy7 =>
      intro w hSw
      (try dsimp only at hSw)
      go_simp
      all_goals with_reducible rfl
    (try simp only [Act.put, List.setIfInBounds_toArray, List.set_cons_zero, List.set_cons_succ])
    have d0 : w'.cell? ⟨w.heap.size + 1, 0, none⟩ = some (.slice none 0 0) := by rw [hZ'.cell]; rfl
    have d1 : w'.cell? ⟨w.heap.size + 1, 1, none⟩ = some (.bool false) := by rw [hZ'.cell]; rfl
    have d2 : w'.cell? ⟨w.heap.size + 1, 2, none⟩ = some (.slice none 0 0) := by rw [hZ'.cell]; rfl
    have f0 := hZ'.frozen 0
    have f1 := hZ'.frozen 1
    have f2 := hZ'.frozen 2
    have HZ := hide hZ'
    have HT := hide hT'
    have HC := hide hC'
    have HDD := hide hDD
    have HB := hide hbw'
    clear hZ' hT' hC' hDD hbw' hH8
    refine wpAnyH_ready (rs := [8]) (by kernel_rfl) (by simp) ?_
    refine AllReadyH.cons (o := { dst := none, op := Op.store 70 (Operand.tmp 2) (Operand.tmp 10), type := 0, pos := "tens.go:74", after := #[{ on := 7, ground := Ground.data }, { on := 6, ground := Ground.chain }, { on := 0, ground := Ground.phase }, { on := 1, ground := Ground.phase }, { on := 2, ground := Ground.phase }, { on := 3, ground := Ground.phase }, { on := 4, ground := Ground.phase }, { on := 5, ground := Ground.phase }, { on := 6, ground := Ground.phase }, { on := 7, ground := Ground.phase }], guard := none }) rfl (fun K hK => ?_) AllReadyH.nil
    go_simp
    have hz := ((HZ.out.set_ 0 (.slice (some ⟨g, 0, none⟩) n c)).set_ 1 (.bool u)).set_ 2 (.slice (some ⟨gd, 0, none⟩) m cd)
    have hfin := ((HB.out.setCell (p := ⟨w.heap.size + 1, 0, none⟩) (Nat.le_succ _) (.slice (some ⟨g, 0, none⟩) n c)).setCell (p := ⟨w.heap.size + 1, 1, none⟩) (Nat.le_succ _) (.bool u)).setCell (p := ⟨w.heap.size + 1, 2, none⟩) (Nat.le_succ _) (.slice (some ⟨gd, 0, none⟩) m cd)
    have hTT := ((HT.out.far (p := ⟨w.heap.size + 1, 0, none⟩) (by simp) (.slice (some ⟨g, 0, none⟩) n c)).far (p := ⟨w.heap.size + 1, 1, none⟩) (by simp) (.bool u)).far (p := ⟨w.heap.size + 1, 2, none⟩) (by simp) (.slice (some ⟨gd, 0, none⟩) m cd)
    have hCC := ((HC.out.far (p := ⟨w.heap.size + 1, 0, none⟩) (by simp; omega) (.slice (some ⟨g, 0, none⟩) n c)).far (p := ⟨w.heap.size + 1, 1, none⟩) (by simp; omega) (.bool u)).far (p := ⟨w.heap.size + 1, 2, none⟩) (by simp; omega) (.slice (some ⟨gd, 0, none⟩) m cd)
    have hEE := ((HDD.out.far (p := ⟨w.heap.size + 1, 0, none⟩) (by simp; omega) (.slice (some ⟨g, 0, none⟩) n c)).far (p := ⟨w.heap.size + 1, 1, none⟩) (by simp; omega) (.bool u)).far (p := ⟨w.heap.size + 1, 2, none⟩) (by simp; omega) (.slice (some ⟨gd, 0, none⟩) m cd)
    clear d0 d1 d2 f0 f1 f2
    refine hK.out _ _ ?_ (fun hH9 => ?_)
    · exact ten_of hTT hfin
    clear hK K
    (try simp only [Act.put, List.setIfInBounds_toArray, List.set_cons_zero, List.set_cons_succ])
    refine wpAnyH_done (by kernel_rfl) ?_ _
    go_wp2_with fail
    refine bodyPost_ret (results_cell_row rfl _ _ (w.heap.size + 1) 70 (tcells (some ⟨g, 0, none⟩) n c u (some ⟨gd, 0, none⟩) m cd) (0, 0) _ rfl hz Tryd.underlying70 rfl (by kernel_rfl)) rfl ?_
    exact ⟨⟨g, c, rest, gd, cd, rd, rfl, by omega, hc1, hc2, hCC, by omega, hd1, hd2, hEE, hdn, hcl, hdl⟩, hfin⟩
  focus
    go_simp
    have hT := hT0.alloc (Obj.cells #[] 3)
    have hZ := hZ0.alloc (Obj.cells #[] 3)
    have hE0 : Has (wd.alloc (Obj.cells #[] 3)) wd.heap.size 3 [] := Has.new wd 3 []
    have hbw2 := hbw.alloc hbw.size (Obj.cells #[] 3)
    have hsa : (wd.alloc (Obj.cells #[] 3)).heap.size = wd.heap.size + 1 := by simp
    refine hK.out _ _ ?_ (fun hH1 => ?_)
    · exact ten_of hT hbw2
    clear hK K
    (try simp only [Act.put, List.setIfInBounds_toArray, List.set_cons_zero, List.set_cons_succ])
    clear hH0 hT0 hZ0 hbw
    have hbw := hbw2
    clear hbw2
    generalize wd.alloc (Obj.cells #[] 3) = wa at *
    refine wpAnyH_ready (rs := [2]) (by kernel_rfl) (by simp) ?_
    refine AllReadyH.cons (o := { dst := some 5, op := Op.call { callee := Callee.value (Operand.func 63), args := #[Operand.tmp 4], argTypes := #[59] }, type := 59, pos := "tens.go:74", after := #[{ on := 1, ground := Ground.data }], guard := none }) rfl (fun K hK => ?_) AllReadyH.nil
    go_simp
    refine (HCL.out _ hbw).mono ?_
    rintro e W2 ⟨⟨g, c, rest, rfl, hg, hc1, hc2, hC, hcl⟩, hb⟩
    go_wp2_with fail
    replace hT := hT.below hb hT.lt
    replace hZ := hZ.below hb hZ.lt
    have hE := hE0.below hb hE0.lt
    have hlt0 := hE0.lt
    have hbw2 := hbw.trans (hb.mono hbw.size)
    have hws : w.heap.size + 2 ≤ W2.heap.size := by have := hb.size; omega
    refine hK.out _ _ ?_ (fun hH2 => ?_)
    · exact ten_of hT hbw2
    clear hK K
    (try simp only [Act.put, List.setIfInBounds_toArray, List.set_cons_zero, List.set_cons_succ])
    clear hH1 hb hbw hE0
    have hbw := hbw2
    clear hbw2
    generalize W2 = W at *
    have hg2 : w.heap.size + 2 ≤ wd.heap.size := by omega
    have hne : g ≠ wd.heap.size := by omega
    replace hg : w.heap.size + 2 ≤ g := by omega
    rw [hsz] at hE hne hg2
    clear hsa hsz hlt0
    have hHp := hH2
    clear hH2
    have hown := tcl_empty W (w.heap.size + 2) (B := w.heap.size) hE (by omega)
    have hrd := HD.out.below hbw
    refine wpAnyH_ready (rs := [6]) (by kernel_rfl) (by simp) ?_
    refine AllReadyH.cons (o := { dst := some 9, op := Op.call { callee := Callee.builtin Builtin.append, args := #[Operand.tmp 6, Operand.tmp 8], argTypes := #[46, 46] }, type := 46, pos := "tens.go:74", after := #[{ on := 3, ground := Ground.data }, { on := 5, ground := Ground.data }, { on := 2, ground := Ground.chain }], guard := none }) rfl (fun K hK => ?_) AllReadyH.nil
    refine step_append_is rfl (.tmp 6) (.tmp 8) rfl w.heap.size (.slice (some ⟨w.heap.size + 2, 0, none⟩) 0 0) 0 [] rfl hown D m dcap ds rfl hm hrd hmb (by omega) fun v' w' h1 h2 h3 => ?_
    obtain ⟨gd, cd, rd, rfl, hd1, hd2, hDD, hgd, hdn, hT', hZ', hC', hbw', hdl⟩ := tcl_after hT hZ hC hbw (by omega) (by omega) hne h1 h2 h3
    clear h1 h2 h3 hown hrd hT hZ hC hE hbw
    refine hK.out _ _ ?_ (fun hH8 => ?_)
    · exact ten_of hT' hbw'
    clear hK K
    (try simp only [Act.put, List.setIfInBounds_toArray, List.set_cons_zero, List.set_cons_succ])
    clear hHp
    refine wpAnyH_take (i := 7) (oi := { dst := some 10, op := Op.build 70 #[(0, Operand.tmp 5), (1, Operand.tmp 9)], type := 70, pos := "tens.go:74", after := #[{ on := 2, ground := Ground.data }, { on := 6, ground := Ground.data }], guard := none }) (v := ?v7b) rfl (by kernel_rfl) (by kernel_rfl) (by kernel_rfl) (fun _ _ _ h => h) (Or.inl ⟨by rfl, ?hy7b⟩) (by assumption) ?r7b
    case hy7b =>
      intro w hSw
      (try dsimp only at hSw)
      go_simp
      all_goals with_reducible rfl
    (try simp only [Act.put, List.setIfInBounds_toArray, List.set_cons_zero, List.set_cons_succ])
    have d0 : w'.cell? ⟨w.heap.size + 1, 0, none⟩ = some (.slice none 0 0) := by rw [hZ'.cell]; rfl
    have d1 : w'.cell? ⟨w.heap.size + 1, 1, none⟩ = some (.bool false) := by rw [hZ'.cell]; rfl
    have d2 : w'.cell? ⟨w.heap.size + 1, 2, none⟩ = some (.slice none 0 0) := by rw [hZ'.cell]; rfl
    have f0 := hZ'.frozen 0
    have f1 := hZ'.frozen 1
    have f2 := hZ'.frozen 2
    have HZ := hide hZ'
    have HT := hide hT'
    have HC := hide hC'
    have HDD := hide hDD
    have HB := hide hbw'
    clear hZ' hT' hC' hDD hbw' hH8
    refine wpAnyH_ready (rs := [8]) (by kernel_rfl) (by simp) ?_
    refine AllReadyH.cons (o := { dst := none, op := Op.store 70 (Operand.tmp 2) (Operand.tmp 10), type := 0, pos := "tens.go:74", after := #[{ on := 7, ground := Ground.data }, { on := 6, ground := Ground.chain }, { on := 0, ground := Ground.phase }, { on := 1, ground := Ground.phase }, { on := 2, ground := Ground.phase }, { on := 3, ground := Ground.phase }, { on := 4, ground := Ground.phase }, { on := 5, ground := Ground.phase }, { on := 6, ground := Ground.phase }, { on := 7, ground := Ground.phase }], guard := none }) rfl (fun K hK => ?_) AllReadyH.nil
    go_simp
    have hz := ((HZ.out.set_ 0 (.slice (some ⟨g, 0, none⟩) n c)).set_ 1 (.bool u)).set_ 2 (.slice (some ⟨gd, 0, none⟩) m cd)
    have hfin := ((HB.out.setCell (p := ⟨w.heap.size + 1, 0, none⟩) (Nat.le_succ _) (.slice (some ⟨g, 0, none⟩) n c)).setCell (p := ⟨w.heap.size + 1, 1, none⟩) (Nat.le_succ _) (.bool u)).setCell (p := ⟨w.heap.size + 1, 2, none⟩) (Nat.le_succ _) (.slice (some ⟨gd, 0, none⟩) m cd)
    have hTT := ((HT.out.far (p := ⟨w.heap.size + 1, 0, none⟩) (by simp) (.slice (some ⟨g, 0, none⟩) n c)).far (p := ⟨w.heap.size + 1, 1, none⟩) (by simp) (.bool u)).far (p := ⟨w.heap.size + 1, 2, none⟩) (by simp) (.slice (some ⟨gd, 0, none⟩) m cd)
    have hCC := ((HC.out.far (p := ⟨w.heap.size + 1, 0, none⟩) (by simp; omega) (.slice (some ⟨g, 0, none⟩) n c)).far (p := ⟨w.heap.size + 1, 1, none⟩) (by simp; omega) (.bool u)).far (p := ⟨w.heap.size + 1, 2, none⟩) (by simp; omega) (.slice (some ⟨gd, 0, none⟩) m cd)
    have hEE := ((HDD.out.far (p := ⟨w.heap.size + 1, 0, none⟩) (by simp; omega) (.slice (some ⟨g, 0, none⟩) n c)).far (p := ⟨w.heap.size + 1, 1, none⟩) (by simp; omega) (.bool u)).far (p := ⟨w.heap.size + 1, 2, none⟩) (by simp; omega) (.slice (some ⟨gd, 0, none⟩) m cd)
    clear d0 d1 d2 f0 f1 f2
    refine hK.out _ _ ?_ (fun hH9 => ?_)
    · exact ten_of hTT hfin
    clear hK K
    (try simp only [Act.put, List.setIfInBounds_toArray, List.set_cons_zero, List.set_cons_succ])
    refine wpAnyH_done (by kernel_rfl) ?_ _
    go_wp2_with fail
    refine bodyPost_ret (results_cell_row rfl _ _ (w.heap.size + 1) 70 (tcells (some ⟨g, 0, none⟩) n c u (some ⟨gd, 0, none⟩) m cd) (0, 0) _ rfl hz Tryd.underlying70 rfl (by kernel_rfl)) rfl ?_
    exact ⟨⟨g, c, rest, gd, cd, rd, rfl, by omega, hc1, hc2, hCC, by omega, hd1, hd2, hEE, hdn, hcl, hdl⟩, hfin⟩
end Go.Proofs.YthjnkaikjjjceaaDoor
