/-
  Package tens's Read over bytes that begin with a desc. By an AI agent. No person has read it.
-/
import Derived.Test.YthjnkaikjjjceaaDoorPkTenOf
namespace Go.Proofs.YthjnkaikjjjceaaDoor
open Go.RowKit
theorem Has.apart {w : World} {g g2 : Nat} {t t2 : TypeId} {cs cs2 : List Value} (h : Has w g t cs) (h2 : Has w g2 t2 cs2) (ht : t ≠ t2) : g ≠ g2 := by
  rintro rfl
  have e : w.heap[g]? = _ := h
  have e2 : w.heap[g]? = _ := h2
  rw [e] at e2
  simp at e2
  exact ht e2.2
abbrev DeS (g : Nat) (x y : Value) (W : World) : Prop := W.cell? ⟨g, 0, none⟩ = some x ∧ W.cell? ⟨g, 1, none⟩ = some y
theorem DeS.of {g : Nat} {x y : Value} {W : World} {t : TypeId} (h : Has W g t [x, y]) : DeS g x y W := ⟨by rw [h.cell]; rfl, by rw [h.cell]; rfl⟩
abbrev TeS (g : Nat) (x y z : Value) (W : World) : Prop := W.cell? ⟨g, 0, none⟩ = some x ∧ W.cell? ⟨g, 1, none⟩ = some y ∧ W.cell? ⟨g, 2, none⟩ = some z
theorem TeS.of {g : Nat} {x y z : Value} {W : World} {t : TypeId} (h : Has W g t [x, y, z]) : TeS g x y z W := ⟨by rw [h.cell]; rfl, by rw [h.cell]; rfl, by rw [h.cell]; rfl⟩
set_option maxRecDepth 100000 in
set_option maxHeartbeats 8000000 in
theorem tread_err (A : Option Addr) (len cap M : Nat) (l : List Int) (u : Bool) (at_ at2 S : Int) (cs : List Nat) (a : Addr) (w : World)
    (HD : Hid (Calls Tryd.prog 37 #[.pointer (some ⟨w.heap.size + 1, 0, none⟩)] ((w.alloc (Obj.cells #[.slice none 0 0, .bool false, .slice none 0 0] 70)).alloc (Obj.cells #[.slice A len cap, .int .i64 0, .nilIface] 118)) fun e w' => (∃ B c, e = .returned (.agg (dcells B l.length c u)) ∧ Ri w' B l ∧ ∀ ad, B = some ad → w.heap.size + 2 ≤ ad.block) ∧ Has w' (w.heap.size + 1) 118 [.slice A len cap, .int .i64 at_, .nilIface] ∧ ((w.alloc (Obj.cells #[.slice none 0 0, .bool false, .slice none 0 0] 70)).alloc (Obj.cells #[.slice A len cap, .int .i64 0, .nilIface] 118)).grownBy w' (some (w.heap.size + 1))))
    (HBy : Hid (∀ W B c, Ri W B l → Below w.heap.size w W → Calls Tryd.prog 80 #[.agg (dcells B l.length c u)] W fun e w' => e = .returned (.int .i64 S) ∧ Below W.heap.size W w'))
    (HP : Hid (∀ W, Below w.heap.size w W → Has W (w.heap.size + 1) 118 [.slice A len cap, .int .i64 at_, .nilIface] → Calls Tryd.prog 32 #[.pointer (some ⟨w.heap.size + 1, 0, none⟩), .int .i64 S] W fun e w' => (∃ A2 c2, e = .returned (.slice A2 M c2) ∧ Rb w' A2 cs ∧ M ≤ c2) ∧ (∃ v, Has w' (w.heap.size + 1) 118 [.slice A len cap, .int .i64 at2, v]) ∧ W.grownBy w' (some (w.heap.size + 1))))
    (HO : Hid (∀ W B c A2 c2, Ri W B l → Rb W A2 cs → M ≤ c2 → Below w.heap.size w W → Calls Tryd.prog 79 #[.agg (dcells B l.length c u), .slice A2 M c2] W fun e w' => e = .returned (.tuple #[.agg (tcells none 0 0 false none 0 0), errv a]) ∧ Below W.heap.size W w')) :
    Calls Tryd.prog 38 #[.slice A len cap] w fun e w' => e = .returned (.tuple #[.agg (tcells none 0 0 false none 0 0), .int .i64 0, errv a]) ∧ Below w.heap.size w w' := by
  obtain ⟨hb1, hT, -⟩ := tread_two w (.slice A len cap)
  have HB := hide hb1
  have HT := hide hT
  clear hb1 hT
  go_enter Tryd.func38, Tryd.ntmps38
  go_wp2_with fail
  refine (read_c A len cap _).mono ?_
  rintro e w1 ⟨rfl, hw1⟩
  rw [← hw1] at HD HB HT
  have hs0 : (w.alloc (Obj.cells #[.slice none 0 0, .bool false, .slice none 0 0] 70)).heap.size = w.heap.size + 1 := by simp
  have hs1 : w1.heap.size = w.heap.size + 2 := by rw [hw1]; simp
  rw [hs0]
  clear hw1 hs0
  go_wp2_with fail
  refine HD.out.mono ?_
  rintro e w2 ⟨⟨B, c, rfl, hri0, hBl⟩, hR, hg⟩
  have hB2 := HB.out.grown hg (by omega) (fun k e => by cases e; omega)
  have hT2 := HT.out.grown hg (by intro h; injection h; omega)
  have hsz := hg.size
  have hd3 : Has (w2.alloc (Obj.cells #[.slice B l.length c, .bool u] 59)) w2.heap.size 59 [.slice B l.length c, .bool u] := Has.new w2 _ _
  have hR3 := hide (hR.alloc (Obj.cells #[.slice B l.length c, .bool u] 59))
  have hT3 := hide (hT2.alloc (Obj.cells #[.slice B l.length c, .bool u] 59))
  have hB3 := hide (hB2.alloc hB2.size (Obj.cells #[.slice B l.length c, .bool u] 59))
  have hri3 := hide (hri0.below ((Below.refl _ w2).alloc (Nat.le_refl _) (Obj.cells #[.slice B l.length c, .bool u] 59)))
  have hDd : w.heap.size + 2 ≤ w2.heap.size := by omega
  have hd4 := hide hd3
  clear HD HB HT hR hg hB2 hT2 hri0 hs1 hsz hd3
  go_wp2_with fail
  generalize w2.alloc (Obj.cells #[.slice B l.length c, .bool u] 59) = W at *
  generalize w2.heap.size = Dd at *
  refine (rerr_c _ _ _ _ _ hR3.out).mono ?_
  rintro e w3 ⟨rfl, rfl⟩
  go_wp2_with fail
  refine (alone_nil _).mono ?_
  rintro e w4 ⟨rfl, rfl⟩
  have hd : Has w4.drew Dd 59 [.slice B l.length c, .bool u] := hd4.out.drewN 1
  have hT : Has w4.drew w.heap.size 70 [.slice none 0 0, .bool false, .slice none 0 0] := hT3.out.drewN 1
  have hR : Has w4.drew (w.heap.size + 1) 118 [.slice A len cap, .int .i64 at_, .nilIface] := hR3.out.drewN 1
  have hB : Below w.heap.size w w4.drew := hB3.out.drew
  have hri : Ri w4.drew B l := hri3.out.below (show Below w4.heap.size w4 w4.drew from (Below.refl _ _).drew)
  clear hd4 hT3 hR3 hB3 hri3
  go_wp2_with fail
  refine wp_region_held_drew (S := DeS Dd (.slice B l.length c) (.bool u)) (by kernel_rfl) (DeS.of hd) (fun hH0 => ?_)
  have hWW : ∃ W1, W1 = w4.drew := ⟨_, rfl⟩
  obtain ⟨W1, hW1⟩ := hWW
  simp only [← hW1] at hd hT hR hB hri hH0 ⊢
  clear hW1
  refine wpAnyH_take (i := 0) (oi := { dst := some 22, op := Op.load 59 (Operand.tmp 6), type := 59, pos := "tens.go:153", after := #[], guard := none }) (v := ?v0) rfl (by kernel_rfl) (by kernel_rfl) (by kernel_rfl) (fun _ _ _ h => h) (Or.inl ⟨by rfl, ?hy0⟩) (by assumption) ?r0
  case hy0 =>
    intro w hSw
    (try dsimp only at hSw)
    go_simp
    all_goals with_reducible rfl
  (try simp only [Act.put, List.setIfInBounds_toArray, List.set_cons_zero, List.set_cons_succ])
  refine wpAnyH_take (i := 1) (oi := { dst := some 23, op := Op.move (Operand.tmp 5), type := 73, pos := "tens.go:153", after := #[], guard := none }) (v := ?v1) rfl (by kernel_rfl) (by kernel_rfl) (by kernel_rfl) (fun _ _ _ h => h) (Or.inl ⟨by rfl, ?hy1⟩) (by assumption) ?r1
  case hy1 =>
    intro w hSw
    (try dsimp only at hSw)
    go_simp
    all_goals with_reducible rfl
  (try simp only [Act.put, List.setIfInBounds_toArray, List.set_cons_zero, List.set_cons_succ])
  refine wpAnyH_take (i := 2) (oi := { dst := some 24, op := Op.load 59 (Operand.tmp 6), type := 59, pos := "tens.go:153", after := #[], guard := none }) (v := ?v2) rfl (by kernel_rfl) (by kernel_rfl) (by kernel_rfl) (fun _ _ _ h => h) (Or.inl ⟨by rfl, ?hy2⟩) (by assumption) ?r2
  case hy2 =>
    intro w hSw
    (try dsimp only at hSw)
    go_simp
    all_goals with_reducible rfl
  (try simp only [Act.put, List.setIfInBounds_toArray, List.set_cons_zero, List.set_cons_succ])
  refine wpAnyH_ready (rs := [3, 9]) (by kernel_rfl) (by simp) ?_
  refine AllReadyH.cons (o := { dst := some 25, op := Op.call { callee := Callee.value (Operand.func 80), args := #[Operand.tmp 24], argTypes := #[59] }, type := 3, pos := "tens.go:153", after := #[{ on := 2, ground := Ground.data }], guard := none }) rfl (fun K hK => ?_) (AllReadyH.cons (o := { dst := some 8, op := Op.alloc 70, type := 0, pos := "tens.go:153", after := #[], guard := none }) rfl (fun K hK => ?_) AllReadyH.nil)
  focus
    go_simp
    refine (HBy.out _ _ _ hri hB).mono ?_
    rintro e W2 ⟨rfl, hb⟩
    go_wp2_with fail
    replace hd := hd.below hb hd.lt
    replace hT := hT.below hb hT.lt
    replace hR := hR.below hb hR.lt
    replace hri := hri.below hb
    replace hB := hB.trans (hb.mono hB.size)
    clear hb
    refine hK.out _ _ ?_ (fun hH1 => ?_)
    · exact DeS.of hd
    clear hK K
    (try simp only [Act.put, List.setIfInBounds_toArray, List.set_cons_zero, List.set_cons_succ])
    refine wpAnyH_ready (rs := [4, 9]) (by kernel_rfl) (by simp) ?_
    refine AllReadyH.cons (o := { dst := some 26, op := Op.call { callee := Callee.value (Operand.func 32), args := #[Operand.tmp 23, Operand.tmp 25], argTypes := #[73, 3] }, type := 30, pos := "tens.go:153", after := #[{ on := 1, ground := Ground.data }, { on := 3, ground := Ground.data }, { on := 3, ground := Ground.chain }], guard := none }) rfl (fun K hK => ?_) (AllReadyH.cons (o := { dst := some 8, op := Op.alloc 70, type := 0, pos := "tens.go:153", after := #[], guard := none }) rfl (fun K hK => ?_) AllReadyH.nil)
    focus
      go_simp
      refine (HP.out _ hB hR).mono ?_
      rintro e W3 ⟨⟨A2, c2, rfl, hrb, hmc⟩, ⟨v2, hR2⟩, hg⟩
      go_wp2_with fail
      have hri2 := hri.grown hg (fun ad e _ e2 => by have := hBl ad e; injection e2; omega)
      replace hd := hd.grown hg (by intro h; injection h; omega)
      replace hT := hT.grown hg (by intro h; injection h; omega)
      replace hB := hB.grown hg hB.size (fun k e => by cases e; omega)
      replace hri := hri2
      replace hR := hR2
      clear hri2 hR2 hg
      refine hK.out _ _ ?_ (fun hH2 => ?_)
      · exact DeS.of hd
      clear hK K
      (try simp only [Act.put, List.setIfInBounds_toArray, List.set_cons_zero, List.set_cons_succ])
      refine wpAnyH_ready (rs := [5, 9]) (by kernel_rfl) (by simp) ?_
      refine AllReadyH.cons (o := { dst := some 27, op := Op.call { callee := Callee.value (Operand.func 79), args := #[Operand.tmp 22, Operand.tmp 26], argTypes := #[59, 30] }, type := 125, pos := "tens.go:153", after := #[{ on := 0, ground := Ground.data }, { on := 4, ground := Ground.data }, { on := 4, ground := Ground.chain }], guard := none }) rfl (fun K hK => ?_) (AllReadyH.cons (o := { dst := some 8, op := Op.alloc 70, type := 0, pos := "tens.go:153", after := #[], guard := none }) rfl (fun K hK => ?_) AllReadyH.nil)
      focus
        go_simp
        refine (HO.out _ _ _ _ _ hri hrb hmc hB).mono ?_
        rintro e W4 ⟨rfl, hb⟩
        go_wp2_with fail
        replace hd := hd.below hb hd.lt
        replace hT := hT.below hb hT.lt
        replace hR := hR.below hb hR.lt
        replace hB := hB.trans (hb.mono hB.size)
        clear hb hri hrb hmc
        refine hK.out _ _ ?_ (fun hH3 => ?_)
        · exact DeS.of hd
        clear hK K
        (try simp only [Act.put, List.setIfInBounds_toArray, List.set_cons_zero, List.set_cons_succ])
        refine wpAnyH_take (i := 6) (oi := { dst := some 21, op := Op.move (Operand.tmp 27), type := 125, pos := "tens.go:153", after := #[{ on := 5, ground := Ground.data }], guard := none }) (v := ?v6x4) rfl (by kernel_rfl) (by kernel_rfl) (by kernel_rfl) (fun _ _ _ h => h) (Or.inl ⟨by rfl, ?hy6x4⟩) (by assumption) ?r6x4
        case hy6x4 =>
          intro w hSw
          (try dsimp only at hSw)
          go_simp
          all_goals with_reducible rfl
        (try simp only [Act.put, List.setIfInBounds_toArray, List.set_cons_zero, List.set_cons_succ])
        refine wpAnyH_take (i := 7) (oi := { dst := some 28, op := Op.extract (Operand.tmp 21) 0, type := 70, pos := "tens.go:153", after := #[{ on := 6, ground := Ground.data }], guard := none }) (v := ?v7x4) rfl (by kernel_rfl) (by kernel_rfl) (by kernel_rfl) (fun _ _ _ h => h) (Or.inl ⟨by rfl, ?hy7x4⟩) (by assumption) ?r7x4
        case hy7x4 =>
          intro w hSw
          (try dsimp only at hSw)
          go_simp
          all_goals with_reducible rfl
        (try simp only [Act.put, List.setIfInBounds_toArray, List.set_cons_zero, List.set_cons_succ])
        refine wpAnyH_take (i := 8) (oi := { dst := some 29, op := Op.extract (Operand.tmp 21) 1, type := 32, pos := "tens.go:153", after := #[{ on := 6, ground := Ground.data }, { on := 10, ground := Ground.gcOnly Departure.lateStores }], guard := none }) (v := ?v8x4) rfl (by kernel_rfl) (by kernel_rfl) (by kernel_rfl) (fun _ _ _ h => h) (Or.inl ⟨by rfl, ?hy8x4⟩) (by assumption) ?r8x4
        case hy8x4 =>
          intro w hSw
          (try dsimp only at hSw)
          go_simp
          all_goals with_reducible rfl
        (try simp only [Act.put, List.setIfInBounds_toArray, List.set_cons_zero, List.set_cons_succ])
        refine wpAnyH_ready (rs := [9]) (by kernel_rfl) (by simp) ?_
        refine AllReadyH.cons (o := { dst := some 8, op := Op.alloc 70, type := 0, pos := "tens.go:153", after := #[], guard := none }) rfl (fun K hK => ?_) AllReadyH.nil
        go_simp
        have hb9 : Below W4.heap.size W4 (W4.alloc (Obj.cells #[.slice none 0 0, .bool false, .slice none 0 0] 70)) := (Below.refl _ _).alloc (Nat.le_refl _) _
        have ht8 := hd.lt
        replace hd := hd.below hb9 hd.lt
        replace hT := hT.below hb9 hT.lt
        replace hR := hR.below hb9 hR.lt
        replace hB := hB.trans (hb9.mono hB.size)
        have h8 : Has (W4.alloc (Obj.cells #[.slice none 0 0, .bool false, .slice none 0 0] 70)) W4.heap.size 70 [.slice none 0 0, .bool false, .slice none 0 0] := Has.new W4 _ _
        clear hb9
        refine hK.out _ _ ?_ (fun hH5 => ?_)
        · exact DeS.of hd
        clear hK K
        (try simp only [Act.put, List.setIfInBounds_toArray, List.set_cons_zero, List.set_cons_succ])
        obtain ⟨Wn, hWn⟩ : ∃ Wn, Wn = (W4.alloc (Obj.cells #[.slice none 0 0, .bool false, .slice none 0 0] 70)) := ⟨_, rfl⟩
        simp only [← hWn] at hd hT hR h8 hB hH5 ⊢
        clear hWn
        have d0 : Wn.cell? ⟨W4.heap.size, 0, none⟩ = some (.slice none 0 0) := by rw [h8.cell]; rfl
        have f0 := h8.frozen 0
        have d1 : Wn.cell? ⟨W4.heap.size, 1, none⟩ = some (.bool false) := by rw [h8.cell]; rfl
        have f1 := h8.frozen 1
        have d2 : Wn.cell? ⟨W4.heap.size, 2, none⟩ = some (.slice none 0 0) := by rw [h8.cell]; rfl
        have f2 := h8.frozen 2
        have hd9 := ((hd.far (p := ⟨W4.heap.size, 0, none⟩) (by simp; omega) (.slice none 0 0)).far (p := ⟨W4.heap.size, 1, none⟩) (by simp; omega) (.bool false)).far (p := ⟨W4.heap.size, 2, none⟩) (by simp; omega) (.slice none 0 0)
        have hT9 := ((hT.far (p := ⟨W4.heap.size, 0, none⟩) (by simp; omega) (.slice none 0 0)).far (p := ⟨W4.heap.size, 1, none⟩) (by simp; omega) (.bool false)).far (p := ⟨W4.heap.size, 2, none⟩) (by simp; omega) (.slice none 0 0)
        have hR9 := ((hR.far (p := ⟨W4.heap.size, 0, none⟩) (by simp; omega) (.slice none 0 0)).far (p := ⟨W4.heap.size, 1, none⟩) (by simp; omega) (.bool false)).far (p := ⟨W4.heap.size, 2, none⟩) (by simp; omega) (.slice none 0 0)
        have h89 := ((h8.set_ 0 (.slice none 0 0)).set_ 1 (.bool false)).set_ 2 (.slice none 0 0)
        have hB9 := ((hB.setCell (p := ⟨W4.heap.size, 0, none⟩) (by simp; omega) (.slice none 0 0)).setCell (p := ⟨W4.heap.size, 1, none⟩) (by simp; omega) (.bool false)).setCell (p := ⟨W4.heap.size, 2, none⟩) (by simp; omega) (.slice none 0 0)
        refine wpAnyH_ready (rs := [10]) (by kernel_rfl) (by simp) ?_
        refine AllReadyH.cons (o := { dst := none, op := Op.store 70 (Operand.tmp 8) (Operand.tmp 28), type := 0, pos := "tens.go:153", after := #[{ on := 9, ground := Ground.data }, { on := 7, ground := Ground.data }, { on := 5, ground := Ground.chain }, { on := 0, ground := Ground.phase }, { on := 1, ground := Ground.phase }, { on := 2, ground := Ground.phase }, { on := 3, ground := Ground.phase }, { on := 4, ground := Ground.phase }, { on := 5, ground := Ground.phase }, { on := 6, ground := Ground.phase }, { on := 7, ground := Ground.phase }, { on := 8, ground := Ground.textOnly Departure.lateStores }, { on := 9, ground := Ground.phase }], guard := none }) rfl (fun K hK => ?_) AllReadyH.nil
        go_simp
        replace hd := hd9
        refine hK.out _ _ ?_ (fun hH6 => ?_)
        · exact DeS.of hd
        clear hK K
        (try simp only [Act.put, List.setIfInBounds_toArray, List.set_cons_zero, List.set_cons_succ])
        clear hd hT hR h8 hB d0 d1 d2 f0 f1 f2
        have hWW : ∃ W9, W9 = ((Wn.setCell ⟨W4.heap.size, 0, none⟩ (.slice none 0 0)).setCell ⟨W4.heap.size, 1, none⟩ (.bool false)).setCell ⟨W4.heap.size, 2, none⟩ (.slice none 0 0) := ⟨_, rfl⟩
        obtain ⟨W9, hW9⟩ := hWW
        simp only [← hW9] at hT9 hR9 h89 hB9 hH6 ⊢
        refine wpAnyH_take (i := 11) (oi := { dst := some 9, op := Op.assign (Operand.tmp 29), type := 32, pos := "tens.go:153", after := #[{ on := 8, ground := Ground.data }, { on := 10, ground := Ground.chain }, { on := 0, ground := Ground.phase }, { on := 1, ground := Ground.phase }, { on := 2, ground := Ground.phase }, { on := 3, ground := Ground.phase }, { on := 4, ground := Ground.phase }, { on := 5, ground := Ground.phase }, { on := 6, ground := Ground.phase }, { on := 7, ground := Ground.phase }, { on := 8, ground := Ground.phase }, { on := 9, ground := Ground.phase }, { on := 10, ground := Ground.phase }], guard := none }) (v := ?v11x4) rfl (by kernel_rfl) (by kernel_rfl) (by kernel_rfl) (fun _ _ _ h => h) (Or.inl ⟨by rfl, ?hy11x4⟩) (by assumption) ?r11x4
        case hy11x4 =>
          intro w hSw
          (try dsimp only at hSw)
          go_simp
          all_goals with_reducible rfl
        (try simp only [Act.put, List.setIfInBounds_toArray, List.set_cons_zero, List.set_cons_succ])
        refine wpAnyH_done (by kernel_rfl) ?_ _
        have q00 : W9.cell? ⟨w.heap.size, 0, none⟩ = some (.slice none 0 0) := by rw [hT9.cell]; rfl
        have qf0 := hT9.frozen 0
        have q01 : W9.cell? ⟨w.heap.size, 1, none⟩ = some (.bool false) := by rw [hT9.cell]; rfl
        have qf1 := hT9.frozen 1
        have q02 : W9.cell? ⟨w.heap.size, 2, none⟩ = some (.slice none 0 0) := by rw [hT9.cell]; rfl
        have qf2 := hT9.frozen 2
        have HZ := hide (((hT9.set_ 0 (.slice none 0 0)).set_ 1 (.bool false)).set_ 2 (.slice none 0 0))
        have HB := hide (((hB9.setCell (p := ⟨w.heap.size, 0, none⟩) (Nat.le_refl _) (.slice none 0 0)).setCell (p := ⟨w.heap.size, 1, none⟩) (Nat.le_refl _) (.bool false)).setCell (p := ⟨w.heap.size, 2, none⟩) (Nat.le_refl _) (.slice none 0 0))
        have c8 : W9.cell? ⟨W4.heap.size, 0, none⟩ = some (.slice none 0 0) := by rw [h89.cell]; rfl
        clear h89 hR9 hT9 hB9 hH6 hW9
        go_wp2_with fail
        refine bodyPost_ret (results_tens3 rfl _ _ w.heap.size _ _ _ rfl HZ.out) rfl ?_
        exact ⟨rfl, HB.out⟩
      focus
        go_simp
        have hb9 : Below W3.heap.size W3 (W3.alloc (Obj.cells #[.slice none 0 0, .bool false, .slice none 0 0] 70)) := (Below.refl _ _).alloc (Nat.le_refl _) _
        have ht8 := hd.lt
        replace hd := hd.below hb9 hd.lt
        replace hT := hT.below hb9 hT.lt
        replace hR := hR.below hb9 hR.lt
        replace hri := hri.below hb9
        replace hrb := hrb.below hb9
        replace hB := hB.trans (hb9.mono hB.size)
        have h8 : Has (W3.alloc (Obj.cells #[.slice none 0 0, .bool false, .slice none 0 0] 70)) W3.heap.size 70 [.slice none 0 0, .bool false, .slice none 0 0] := Has.new W3 _ _
        clear hb9
        refine hK.out _ _ ?_ (fun hH7 => ?_)
        · exact DeS.of hd
        clear hK K
        (try simp only [Act.put, List.setIfInBounds_toArray, List.set_cons_zero, List.set_cons_succ])
        obtain ⟨Wn, hWn⟩ : ∃ Wn, Wn = (W3.alloc (Obj.cells #[.slice none 0 0, .bool false, .slice none 0 0] 70)) := ⟨_, rfl⟩
        simp only [← hWn] at hd hT hR h8 hB hri hrb hH7 ⊢
        clear hWn
        refine wpAnyH_ready (rs := [5]) (by kernel_rfl) (by simp) ?_
        refine AllReadyH.cons (o := { dst := some 27, op := Op.call { callee := Callee.value (Operand.func 79), args := #[Operand.tmp 22, Operand.tmp 26], argTypes := #[59, 30] }, type := 125, pos := "tens.go:153", after := #[{ on := 0, ground := Ground.data }, { on := 4, ground := Ground.data }, { on := 4, ground := Ground.chain }], guard := none }) rfl (fun K hK => ?_) AllReadyH.nil
        go_simp
        refine (HO.out _ _ _ _ _ hri hrb hmc hB).mono ?_
        rintro e W4 ⟨rfl, hb⟩
        go_wp2_with fail
        replace hd := hd.below hb hd.lt
        replace hT := hT.below hb hT.lt
        replace hR := hR.below hb hR.lt
        replace h8 := h8.below hb h8.lt
        replace hB := hB.trans (hb.mono hB.size)
        clear hb hri hrb hmc
        refine hK.out _ _ ?_ (fun hH8 => ?_)
        · exact DeS.of hd
        clear hK K
        (try simp only [Act.put, List.setIfInBounds_toArray, List.set_cons_zero, List.set_cons_succ])
        refine wpAnyH_take (i := 6) (oi := { dst := some 21, op := Op.move (Operand.tmp 27), type := 125, pos := "tens.go:153", after := #[{ on := 5, ground := Ground.data }], guard := none }) (v := ?v6x9) rfl (by kernel_rfl) (by kernel_rfl) (by kernel_rfl) (fun _ _ _ h => h) (Or.inl ⟨by rfl, ?hy6x9⟩) (by assumption) ?r6x9
        case hy6x9 =>
          intro w hSw
          (try dsimp only at hSw)
          go_simp
          all_goals with_reducible rfl
        (try simp only [Act.put, List.setIfInBounds_toArray, List.set_cons_zero, List.set_cons_succ])
        refine wpAnyH_take (i := 7) (oi := { dst := some 28, op := Op.extract (Operand.tmp 21) 0, type := 70, pos := "tens.go:153", after := #[{ on := 6, ground := Ground.data }], guard := none }) (v := ?v7x9) rfl (by kernel_rfl) (by kernel_rfl) (by kernel_rfl) (fun _ _ _ h => h) (Or.inl ⟨by rfl, ?hy7x9⟩) (by assumption) ?r7x9
        case hy7x9 =>
          intro w hSw
          (try dsimp only at hSw)
          go_simp
          all_goals with_reducible rfl
        (try simp only [Act.put, List.setIfInBounds_toArray, List.set_cons_zero, List.set_cons_succ])
        refine wpAnyH_take (i := 8) (oi := { dst := some 29, op := Op.extract (Operand.tmp 21) 1, type := 32, pos := "tens.go:153", after := #[{ on := 6, ground := Ground.data }, { on := 10, ground := Ground.gcOnly Departure.lateStores }], guard := none }) (v := ?v8x9) rfl (by kernel_rfl) (by kernel_rfl) (by kernel_rfl) (fun _ _ _ h => h) (Or.inl ⟨by rfl, ?hy8x9⟩) (by assumption) ?r8x9
        case hy8x9 =>
          intro w hSw
          (try dsimp only at hSw)
          go_simp
          all_goals with_reducible rfl
        (try simp only [Act.put, List.setIfInBounds_toArray, List.set_cons_zero, List.set_cons_succ])
        have d0 : W4.cell? ⟨W3.heap.size, 0, none⟩ = some (.slice none 0 0) := by rw [h8.cell]; rfl
        have f0 := h8.frozen 0
        have d1 : W4.cell? ⟨W3.heap.size, 1, none⟩ = some (.bool false) := by rw [h8.cell]; rfl
        have f1 := h8.frozen 1
        have d2 : W4.cell? ⟨W3.heap.size, 2, none⟩ = some (.slice none 0 0) := by rw [h8.cell]; rfl
        have f2 := h8.frozen 2
        have hd9 := ((hd.far (p := ⟨W3.heap.size, 0, none⟩) (by simp; omega) (.slice none 0 0)).far (p := ⟨W3.heap.size, 1, none⟩) (by simp; omega) (.bool false)).far (p := ⟨W3.heap.size, 2, none⟩) (by simp; omega) (.slice none 0 0)
        have hT9 := ((hT.far (p := ⟨W3.heap.size, 0, none⟩) (by simp; omega) (.slice none 0 0)).far (p := ⟨W3.heap.size, 1, none⟩) (by simp; omega) (.bool false)).far (p := ⟨W3.heap.size, 2, none⟩) (by simp; omega) (.slice none 0 0)
        have hR9 := ((hR.far (p := ⟨W3.heap.size, 0, none⟩) (by simp; omega) (.slice none 0 0)).far (p := ⟨W3.heap.size, 1, none⟩) (by simp; omega) (.bool false)).far (p := ⟨W3.heap.size, 2, none⟩) (by simp; omega) (.slice none 0 0)
        have h89 := ((h8.set_ 0 (.slice none 0 0)).set_ 1 (.bool false)).set_ 2 (.slice none 0 0)
        have hB9 := ((hB.setCell (p := ⟨W3.heap.size, 0, none⟩) (by simp; omega) (.slice none 0 0)).setCell (p := ⟨W3.heap.size, 1, none⟩) (by simp; omega) (.bool false)).setCell (p := ⟨W3.heap.size, 2, none⟩) (by simp; omega) (.slice none 0 0)
        refine wpAnyH_ready (rs := [10]) (by kernel_rfl) (by simp) ?_
        refine AllReadyH.cons (o := { dst := none, op := Op.store 70 (Operand.tmp 8) (Operand.tmp 28), type := 0, pos := "tens.go:153", after := #[{ on := 9, ground := Ground.data }, { on := 7, ground := Ground.data }, { on := 5, ground := Ground.chain }, { on := 0, ground := Ground.phase }, { on := 1, ground := Ground.phase }, { on := 2, ground := Ground.phase }, { on := 3, ground := Ground.phase }, { on := 4, ground := Ground.phase }, { on := 5, ground := Ground.phase }, { on := 6, ground := Ground.phase }, { on := 7, ground := Ground.phase }, { on := 8, ground := Ground.textOnly Departure.lateStores }, { on := 9, ground := Ground.phase }], guard := none }) rfl (fun K hK => ?_) AllReadyH.nil
        go_simp
        replace hd := hd9
        refine hK.out _ _ ?_ (fun hH10 => ?_)
        · exact DeS.of hd
        clear hK K
        (try simp only [Act.put, List.setIfInBounds_toArray, List.set_cons_zero, List.set_cons_succ])
        clear hd hT hR h8 hB d0 d1 d2 f0 f1 f2
        have hWW : ∃ W9, W9 = ((W4.setCell ⟨W3.heap.size, 0, none⟩ (.slice none 0 0)).setCell ⟨W3.heap.size, 1, none⟩ (.bool false)).setCell ⟨W3.heap.size, 2, none⟩ (.slice none 0 0) := ⟨_, rfl⟩
        obtain ⟨W9, hW9⟩ := hWW
        simp only [← hW9] at hT9 hR9 h89 hB9 hH10 ⊢
        refine wpAnyH_take (i := 11) (oi := { dst := some 9, op := Op.assign (Operand.tmp 29), type := 32, pos := "tens.go:153", after := #[{ on := 8, ground := Ground.data }, { on := 10, ground := Ground.chain }, { on := 0, ground := Ground.phase }, { on := 1, ground := Ground.phase }, { on := 2, ground := Ground.phase }, { on := 3, ground := Ground.phase }, { on := 4, ground := Ground.phase }, { on := 5, ground := Ground.phase }, { on := 6, ground := Ground.phase }, { on := 7, ground := Ground.phase }, { on := 8, ground := Ground.phase }, { on := 9, ground := Ground.phase }, { on := 10, ground := Ground.phase }], guard := none }) (v := ?v11x9) rfl (by kernel_rfl) (by kernel_rfl) (by kernel_rfl) (fun _ _ _ h => h) (Or.inl ⟨by rfl, ?hy11x9⟩) (by assumption) ?r11x9
        case hy11x9 =>
          intro w hSw
          (try dsimp only at hSw)
          go_simp
          all_goals with_reducible rfl
        (try simp only [Act.put, List.setIfInBounds_toArray, List.set_cons_zero, List.set_cons_succ])
        refine wpAnyH_done (by kernel_rfl) ?_ _
        have q00 : W9.cell? ⟨w.heap.size, 0, none⟩ = some (.slice none 0 0) := by rw [hT9.cell]; rfl
        have qf0 := hT9.frozen 0
        have q01 : W9.cell? ⟨w.heap.size, 1, none⟩ = some (.bool false) := by rw [hT9.cell]; rfl
        have qf1 := hT9.frozen 1
        have q02 : W9.cell? ⟨w.heap.size, 2, none⟩ = some (.slice none 0 0) := by rw [hT9.cell]; rfl
        have qf2 := hT9.frozen 2
        have HZ := hide (((hT9.set_ 0 (.slice none 0 0)).set_ 1 (.bool false)).set_ 2 (.slice none 0 0))
        have HB := hide (((hB9.setCell (p := ⟨w.heap.size, 0, none⟩) (Nat.le_refl _) (.slice none 0 0)).setCell (p := ⟨w.heap.size, 1, none⟩) (Nat.le_refl _) (.bool false)).setCell (p := ⟨w.heap.size, 2, none⟩) (Nat.le_refl _) (.slice none 0 0))
        have c8 : W9.cell? ⟨W3.heap.size, 0, none⟩ = some (.slice none 0 0) := by rw [h89.cell]; rfl
        clear h89 hR9 hT9 hB9 hH10 hW9
        go_wp2_with fail
        refine bodyPost_ret (results_tens3 rfl _ _ w.heap.size _ _ _ rfl HZ.out) rfl ?_
        exact ⟨rfl, HB.out⟩
    focus
      go_simp
      have hb9 : Below W2.heap.size W2 (W2.alloc (Obj.cells #[.slice none 0 0, .bool false, .slice none 0 0] 70)) := (Below.refl _ _).alloc (Nat.le_refl _) _
      have ht8 := hd.lt
      replace hd := hd.below hb9 hd.lt
      replace hT := hT.below hb9 hT.lt
      replace hR := hR.below hb9 hR.lt
      replace hri := hri.below hb9
      replace hB := hB.trans (hb9.mono hB.size)
      have h8 : Has (W2.alloc (Obj.cells #[.slice none 0 0, .bool false, .slice none 0 0] 70)) W2.heap.size 70 [.slice none 0 0, .bool false, .slice none 0 0] := Has.new W2 _ _
      clear hb9
      refine hK.out _ _ ?_ (fun hH11 => ?_)
      · exact DeS.of hd
      clear hK K
      (try simp only [Act.put, List.setIfInBounds_toArray, List.set_cons_zero, List.set_cons_succ])
      obtain ⟨Wn, hWn⟩ : ∃ Wn, Wn = (W2.alloc (Obj.cells #[.slice none 0 0, .bool false, .slice none 0 0] 70)) := ⟨_, rfl⟩
      simp only [← hWn] at hd hT hR h8 hB hri hH11 ⊢
      clear hWn
      refine wpAnyH_ready (rs := [4]) (by kernel_rfl) (by simp) ?_
      refine AllReadyH.cons (o := { dst := some 26, op := Op.call { callee := Callee.value (Operand.func 32), args := #[Operand.tmp 23, Operand.tmp 25], argTypes := #[73, 3] }, type := 30, pos := "tens.go:153", after := #[{ on := 1, ground := Ground.data }, { on := 3, ground := Ground.data }, { on := 3, ground := Ground.chain }], guard := none }) rfl (fun K hK => ?_) AllReadyH.nil
      go_simp
      refine (HP.out _ hB hR).mono ?_
      rintro e W3 ⟨⟨A2, c2, rfl, hrb, hmc⟩, ⟨v2, hR2⟩, hg⟩
      go_wp2_with fail
      have hri2 := hri.grown hg (fun ad e _ e2 => by have := hBl ad e; injection e2; omega)
      replace hd := hd.grown hg (by intro h; injection h; omega)
      replace hT := hT.grown hg (by intro h; injection h; omega)
      replace h8 := h8.grown hg (by intro h; injection h; omega)
      replace hB := hB.grown hg hB.size (fun k e => by cases e; omega)
      replace hri := hri2
      replace hR := hR2
      clear hri2 hR2 hg
      refine hK.out _ _ ?_ (fun hH12 => ?_)
      · exact DeS.of hd
      clear hK K
      (try simp only [Act.put, List.setIfInBounds_toArray, List.set_cons_zero, List.set_cons_succ])
      refine wpAnyH_ready (rs := [5]) (by kernel_rfl) (by simp) ?_
      refine AllReadyH.cons (o := { dst := some 27, op := Op.call { callee := Callee.value (Operand.func 79), args := #[Operand.tmp 22, Operand.tmp 26], argTypes := #[59, 30] }, type := 125, pos := "tens.go:153", after := #[{ on := 0, ground := Ground.data }, { on := 4, ground := Ground.data }, { on := 4, ground := Ground.chain }], guard := none }) rfl (fun K hK => ?_) AllReadyH.nil
      go_simp
      refine (HO.out _ _ _ _ _ hri hrb hmc hB).mono ?_
      rintro e W4 ⟨rfl, hb⟩
      go_wp2_with fail
      replace hd := hd.below hb hd.lt
      replace hT := hT.below hb hT.lt
      replace hR := hR.below hb hR.lt
      replace h8 := h8.below hb h8.lt
      replace hB := hB.trans (hb.mono hB.size)
      clear hb hri hrb hmc
      refine hK.out _ _ ?_ (fun hH13 => ?_)
      · exact DeS.of hd
      clear hK K
      (try simp only [Act.put, List.setIfInBounds_toArray, List.set_cons_zero, List.set_cons_succ])
      refine wpAnyH_take (i := 6) (oi := { dst := some 21, op := Op.move (Operand.tmp 27), type := 125, pos := "tens.go:153", after := #[{ on := 5, ground := Ground.data }], guard := none }) (v := ?v6x14) rfl (by kernel_rfl) (by kernel_rfl) (by kernel_rfl) (fun _ _ _ h => h) (Or.inl ⟨by rfl, ?hy6x14⟩) (by assumption) ?r6x14
      case hy6x14 =>
        intro w hSw
        (try dsimp only at hSw)
        go_simp
        all_goals with_reducible rfl
      (try simp only [Act.put, List.setIfInBounds_toArray, List.set_cons_zero, List.set_cons_succ])
      refine wpAnyH_take (i := 7) (oi := { dst := some 28, op := Op.extract (Operand.tmp 21) 0, type := 70, pos := "tens.go:153", after := #[{ on := 6, ground := Ground.data }], guard := none }) (v := ?v7x14) rfl (by kernel_rfl) (by kernel_rfl) (by kernel_rfl) (fun _ _ _ h => h) (Or.inl ⟨by rfl, ?hy7x14⟩) (by assumption) ?r7x14
      case hy7x14 =>
        intro w hSw
        (try dsimp only at hSw)
        go_simp
        all_goals with_reducible rfl
      (try simp only [Act.put, List.setIfInBounds_toArray, List.set_cons_zero, List.set_cons_succ])
      refine wpAnyH_take (i := 8) (oi := { dst := some 29, op := Op.extract (Operand.tmp 21) 1, type := 32, pos := "tens.go:153", after := #[{ on := 6, ground := Ground.data }, { on := 10, ground := Ground.gcOnly Departure.lateStores }], guard := none }) (v := ?v8x14) rfl (by kernel_rfl) (by kernel_rfl) (by kernel_rfl) (fun _ _ _ h => h) (Or.inl ⟨by rfl, ?hy8x14⟩) (by assumption) ?r8x14
      case hy8x14 =>
        intro w hSw
        (try dsimp only at hSw)
        go_simp
        all_goals with_reducible rfl
      (try simp only [Act.put, List.setIfInBounds_toArray, List.set_cons_zero, List.set_cons_succ])
      have d0 : W4.cell? ⟨W2.heap.size, 0, none⟩ = some (.slice none 0 0) := by rw [h8.cell]; rfl
      have f0 := h8.frozen 0
      have d1 : W4.cell? ⟨W2.heap.size, 1, none⟩ = some (.bool false) := by rw [h8.cell]; rfl
      have f1 := h8.frozen 1
      have d2 : W4.cell? ⟨W2.heap.size, 2, none⟩ = some (.slice none 0 0) := by rw [h8.cell]; rfl
      have f2 := h8.frozen 2
      have hd9 := ((hd.far (p := ⟨W2.heap.size, 0, none⟩) (by simp; omega) (.slice none 0 0)).far (p := ⟨W2.heap.size, 1, none⟩) (by simp; omega) (.bool false)).far (p := ⟨W2.heap.size, 2, none⟩) (by simp; omega) (.slice none 0 0)
      have hT9 := ((hT.far (p := ⟨W2.heap.size, 0, none⟩) (by simp; omega) (.slice none 0 0)).far (p := ⟨W2.heap.size, 1, none⟩) (by simp; omega) (.bool false)).far (p := ⟨W2.heap.size, 2, none⟩) (by simp; omega) (.slice none 0 0)
      have hR9 := ((hR.far (p := ⟨W2.heap.size, 0, none⟩) (by simp; omega) (.slice none 0 0)).far (p := ⟨W2.heap.size, 1, none⟩) (by simp; omega) (.bool false)).far (p := ⟨W2.heap.size, 2, none⟩) (by simp; omega) (.slice none 0 0)
      have h89 := ((h8.set_ 0 (.slice none 0 0)).set_ 1 (.bool false)).set_ 2 (.slice none 0 0)
      have hB9 := ((hB.setCell (p := ⟨W2.heap.size, 0, none⟩) (by simp; omega) (.slice none 0 0)).setCell (p := ⟨W2.heap.size, 1, none⟩) (by simp; omega) (.bool false)).setCell (p := ⟨W2.heap.size, 2, none⟩) (by simp; omega) (.slice none 0 0)
      refine wpAnyH_ready (rs := [10]) (by kernel_rfl) (by simp) ?_
      refine AllReadyH.cons (o := { dst := none, op := Op.store 70 (Operand.tmp 8) (Operand.tmp 28), type := 0, pos := "tens.go:153", after := #[{ on := 9, ground := Ground.data }, { on := 7, ground := Ground.data }, { on := 5, ground := Ground.chain }, { on := 0, ground := Ground.phase }, { on := 1, ground := Ground.phase }, { on := 2, ground := Ground.phase }, { on := 3, ground := Ground.phase }, { on := 4, ground := Ground.phase }, { on := 5, ground := Ground.phase }, { on := 6, ground := Ground.phase }, { on := 7, ground := Ground.phase }, { on := 8, ground := Ground.textOnly Departure.lateStores }, { on := 9, ground := Ground.phase }], guard := none }) rfl (fun K hK => ?_) AllReadyH.nil
      go_simp
      replace hd := hd9
      refine hK.out _ _ ?_ (fun hH15 => ?_)
      · exact DeS.of hd
      clear hK K
      (try simp only [Act.put, List.setIfInBounds_toArray, List.set_cons_zero, List.set_cons_succ])
      clear hd hT hR h8 hB d0 d1 d2 f0 f1 f2
      have hWW : ∃ W9, W9 = ((W4.setCell ⟨W2.heap.size, 0, none⟩ (.slice none 0 0)).setCell ⟨W2.heap.size, 1, none⟩ (.bool false)).setCell ⟨W2.heap.size, 2, none⟩ (.slice none 0 0) := ⟨_, rfl⟩
      obtain ⟨W9, hW9⟩ := hWW
      simp only [← hW9] at hT9 hR9 h89 hB9 hH15 ⊢
      refine wpAnyH_take (i := 11) (oi := { dst := some 9, op := Op.assign (Operand.tmp 29), type := 32, pos := "tens.go:153", after := #[{ on := 8, ground := Ground.data }, { on := 10, ground := Ground.chain }, { on := 0, ground := Ground.phase }, { on := 1, ground := Ground.phase }, { on := 2, ground := Ground.phase }, { on := 3, ground := Ground.phase }, { on := 4, ground := Ground.phase }, { on := 5, ground := Ground.phase }, { on := 6, ground := Ground.phase }, { on := 7, ground := Ground.phase }, { on := 8, ground := Ground.phase }, { on := 9, ground := Ground.phase }, { on := 10, ground := Ground.phase }], guard := none }) (v := ?v11x14) rfl (by kernel_rfl) (by kernel_rfl) (by kernel_rfl) (fun _ _ _ h => h) (Or.inl ⟨by rfl, ?hy11x14⟩) (by assumption) ?r11x14
      case hy11x14 =>
        intro w hSw
        (try dsimp only at hSw)
        go_simp
        all_goals with_reducible rfl
      (try simp only [Act.put, List.setIfInBounds_toArray, List.set_cons_zero, List.set_cons_succ])
      refine wpAnyH_done (by kernel_rfl) ?_ _
      have q00 : W9.cell? ⟨w.heap.size, 0, none⟩ = some (.slice none 0 0) := by rw [hT9.cell]; rfl
      have qf0 := hT9.frozen 0
      have q01 : W9.cell? ⟨w.heap.size, 1, none⟩ = some (.bool false) := by rw [hT9.cell]; rfl
      have qf1 := hT9.frozen 1
      have q02 : W9.cell? ⟨w.heap.size, 2, none⟩ = some (.slice none 0 0) := by rw [hT9.cell]; rfl
      have qf2 := hT9.frozen 2
      have HZ := hide (((hT9.set_ 0 (.slice none 0 0)).set_ 1 (.bool false)).set_ 2 (.slice none 0 0))
      have HB := hide (((hB9.setCell (p := ⟨w.heap.size, 0, none⟩) (Nat.le_refl _) (.slice none 0 0)).setCell (p := ⟨w.heap.size, 1, none⟩) (Nat.le_refl _) (.bool false)).setCell (p := ⟨w.heap.size, 2, none⟩) (Nat.le_refl _) (.slice none 0 0))
      have c8 : W9.cell? ⟨W2.heap.size, 0, none⟩ = some (.slice none 0 0) := by rw [h89.cell]; rfl
      clear h89 hR9 hT9 hB9 hH15 hW9
      go_wp2_with fail
      refine bodyPost_ret (results_tens3 rfl _ _ w.heap.size _ _ _ rfl HZ.out) rfl ?_
      exact ⟨rfl, HB.out⟩
  focus
    go_simp
    have hb9 : Below W1.heap.size W1 (W1.alloc (Obj.cells #[.slice none 0 0, .bool false, .slice none 0 0] 70)) := (Below.refl _ _).alloc (Nat.le_refl _) _
    have ht8 := hd.lt
    replace hd := hd.below hb9 hd.lt
    replace hT := hT.below hb9 hT.lt
    replace hR := hR.below hb9 hR.lt
    replace hri := hri.below hb9
    replace hB := hB.trans (hb9.mono hB.size)
    have h8 : Has (W1.alloc (Obj.cells #[.slice none 0 0, .bool false, .slice none 0 0] 70)) W1.heap.size 70 [.slice none 0 0, .bool false, .slice none 0 0] := Has.new W1 _ _
    clear hb9
    refine hK.out _ _ ?_ (fun hH16 => ?_)
    · exact DeS.of hd
    clear hK K
    (try simp only [Act.put, List.setIfInBounds_toArray, List.set_cons_zero, List.set_cons_succ])
    obtain ⟨Wn, hWn⟩ : ∃ Wn, Wn = (W1.alloc (Obj.cells #[.slice none 0 0, .bool false, .slice none 0 0] 70)) := ⟨_, rfl⟩
    simp only [← hWn] at hd hT hR h8 hB hri hH16 ⊢
    clear hWn
    refine wpAnyH_ready (rs := [3]) (by kernel_rfl) (by simp) ?_
    refine AllReadyH.cons (o := { dst := some 25, op := Op.call { callee := Callee.value (Operand.func 80), args := #[Operand.tmp 24], argTypes := #[59] }, type := 3, pos := "tens.go:153", after := #[{ on := 2, ground := Ground.data }], guard := none }) rfl (fun K hK => ?_) AllReadyH.nil
    go_simp
    refine (HBy.out _ _ _ hri hB).mono ?_
    rintro e W2 ⟨rfl, hb⟩
    go_wp2_with fail
    replace hd := hd.below hb hd.lt
    replace hT := hT.below hb hT.lt
    replace hR := hR.below hb hR.lt
    replace h8 := h8.below hb h8.lt
    replace hri := hri.below hb
    replace hB := hB.trans (hb.mono hB.size)
    clear hb
    refine hK.out _ _ ?_ (fun hH17 => ?_)
    · exact DeS.of hd
    clear hK K
    (try simp only [Act.put, List.setIfInBounds_toArray, List.set_cons_zero, List.set_cons_succ])
    refine wpAnyH_ready (rs := [4]) (by kernel_rfl) (by simp) ?_
    refine AllReadyH.cons (o := { dst := some 26, op := Op.call { callee := Callee.value (Operand.func 32), args := #[Operand.tmp 23, Operand.tmp 25], argTypes := #[73, 3] }, type := 30, pos := "tens.go:153", after := #[{ on := 1, ground := Ground.data }, { on := 3, ground := Ground.data }, { on := 3, ground := Ground.chain }], guard := none }) rfl (fun K hK => ?_) AllReadyH.nil
    go_simp
    refine (HP.out _ hB hR).mono ?_
    rintro e W3 ⟨⟨A2, c2, rfl, hrb, hmc⟩, ⟨v2, hR2⟩, hg⟩
    go_wp2_with fail
    have hri2 := hri.grown hg (fun ad e _ e2 => by have := hBl ad e; injection e2; omega)
    replace hd := hd.grown hg (by intro h; injection h; omega)
    replace hT := hT.grown hg (by intro h; injection h; omega)
    replace h8 := h8.grown hg (by intro h; injection h; omega)
    replace hB := hB.grown hg hB.size (fun k e => by cases e; omega)
    replace hri := hri2
    replace hR := hR2
    clear hri2 hR2 hg
    refine hK.out _ _ ?_ (fun hH18 => ?_)
    · exact DeS.of hd
    clear hK K
    (try simp only [Act.put, List.setIfInBounds_toArray, List.set_cons_zero, List.set_cons_succ])
    refine wpAnyH_ready (rs := [5]) (by kernel_rfl) (by simp) ?_
    refine AllReadyH.cons (o := { dst := some 27, op := Op.call { callee := Callee.value (Operand.func 79), args := #[Operand.tmp 22, Operand.tmp 26], argTypes := #[59, 30] }, type := 125, pos := "tens.go:153", after := #[{ on := 0, ground := Ground.data }, { on := 4, ground := Ground.data }, { on := 4, ground := Ground.chain }], guard := none }) rfl (fun K hK => ?_) AllReadyH.nil
    go_simp
    refine (HO.out _ _ _ _ _ hri hrb hmc hB).mono ?_
    rintro e W4 ⟨rfl, hb⟩
    go_wp2_with fail
    replace hd := hd.below hb hd.lt
    replace hT := hT.below hb hT.lt
    replace hR := hR.below hb hR.lt
    replace h8 := h8.below hb h8.lt
    replace hB := hB.trans (hb.mono hB.size)
    clear hb hri hrb hmc
    refine hK.out _ _ ?_ (fun hH19 => ?_)
    · exact DeS.of hd
    clear hK K
    (try simp only [Act.put, List.setIfInBounds_toArray, List.set_cons_zero, List.set_cons_succ])
    refine wpAnyH_take (i := 6) (oi := { dst := some 21, op := Op.move (Operand.tmp 27), type := 125, pos := "tens.go:153", after := #[{ on := 5, ground := Ground.data }], guard := none }) (v := ?v6x20) rfl (by kernel_rfl) (by kernel_rfl) (by kernel_rfl) (fun _ _ _ h => h) (Or.inl ⟨by rfl, ?hy6x20⟩) (by assumption) ?r6x20
    case hy6x20 =>
      intro w hSw
      (try dsimp only at hSw)
      go_simp
      all_goals with_reducible rfl
    (try simp only [Act.put, List.setIfInBounds_toArray, List.set_cons_zero, List.set_cons_succ])
    refine wpAnyH_take (i := 7) (oi := { dst := some 28, op := Op.extract (Operand.tmp 21) 0, type := 70, pos := "tens.go:153", after := #[{ on := 6, ground := Ground.data }], guard := none }) (v := ?v7x20) rfl (by kernel_rfl) (by kernel_rfl) (by kernel_rfl) (fun _ _ _ h => h) (Or.inl ⟨by rfl, ?hy7x20⟩) (by assumption) ?r7x20
    case hy7x20 =>
      intro w hSw
      (try dsimp only at hSw)
      go_simp
      all_goals with_reducible rfl
    (try simp only [Act.put, List.setIfInBounds_toArray, List.set_cons_zero, List.set_cons_succ])
    refine wpAnyH_take (i := 8) (oi := { dst := some 29, op := Op.extract (Operand.tmp 21) 1, type := 32, pos := "tens.go:153", after := #[{ on := 6, ground := Ground.data }, { on := 10, ground := Ground.gcOnly Departure.lateStores }], guard := none }) (v := ?v8x20) rfl (by kernel_rfl) (by kernel_rfl) (by kernel_rfl) (fun _ _ _ h => h) (Or.inl ⟨by rfl, ?hy8x20⟩) (by assumption) ?r8x20
    case hy8x20 =>
      intro w hSw
      (try dsimp only at hSw)
      go_simp
      all_goals with_reducible rfl
    (try simp only [Act.put, List.setIfInBounds_toArray, List.set_cons_zero, List.set_cons_succ])
    have d0 : W4.cell? ⟨W1.heap.size, 0, none⟩ = some (.slice none 0 0) := by rw [h8.cell]; rfl
    have f0 := h8.frozen 0
    have d1 : W4.cell? ⟨W1.heap.size, 1, none⟩ = some (.bool false) := by rw [h8.cell]; rfl
    have f1 := h8.frozen 1
    have d2 : W4.cell? ⟨W1.heap.size, 2, none⟩ = some (.slice none 0 0) := by rw [h8.cell]; rfl
    have f2 := h8.frozen 2
    have hd9 := ((hd.far (p := ⟨W1.heap.size, 0, none⟩) (by simp; omega) (.slice none 0 0)).far (p := ⟨W1.heap.size, 1, none⟩) (by simp; omega) (.bool false)).far (p := ⟨W1.heap.size, 2, none⟩) (by simp; omega) (.slice none 0 0)
    have hT9 := ((hT.far (p := ⟨W1.heap.size, 0, none⟩) (by simp; omega) (.slice none 0 0)).far (p := ⟨W1.heap.size, 1, none⟩) (by simp; omega) (.bool false)).far (p := ⟨W1.heap.size, 2, none⟩) (by simp; omega) (.slice none 0 0)
    have hR9 := ((hR.far (p := ⟨W1.heap.size, 0, none⟩) (by simp; omega) (.slice none 0 0)).far (p := ⟨W1.heap.size, 1, none⟩) (by simp; omega) (.bool false)).far (p := ⟨W1.heap.size, 2, none⟩) (by simp; omega) (.slice none 0 0)
    have h89 := ((h8.set_ 0 (.slice none 0 0)).set_ 1 (.bool false)).set_ 2 (.slice none 0 0)
    have hB9 := ((hB.setCell (p := ⟨W1.heap.size, 0, none⟩) (by simp; omega) (.slice none 0 0)).setCell (p := ⟨W1.heap.size, 1, none⟩) (by simp; omega) (.bool false)).setCell (p := ⟨W1.heap.size, 2, none⟩) (by simp; omega) (.slice none 0 0)
    refine wpAnyH_ready (rs := [10]) (by kernel_rfl) (by simp) ?_
    refine AllReadyH.cons (o := { dst := none, op := Op.store 70 (Operand.tmp 8) (Operand.tmp 28), type := 0, pos := "tens.go:153", after := #[{ on := 9, ground := Ground.data }, { on := 7, ground := Ground.data }, { on := 5, ground := Ground.chain }, { on := 0, ground := Ground.phase }, { on := 1, ground := Ground.phase }, { on := 2, ground := Ground.phase }, { on := 3, ground := Ground.phase }, { on := 4, ground := Ground.phase }, { on := 5, ground := Ground.phase }, { on := 6, ground := Ground.phase }, { on := 7, ground := Ground.phase }, { on := 8, ground := Ground.textOnly Departure.lateStores }, { on := 9, ground := Ground.phase }], guard := none }) rfl (fun K hK => ?_) AllReadyH.nil
    go_simp
    replace hd := hd9
    refine hK.out _ _ ?_ (fun hH21 => ?_)
    · exact DeS.of hd
    clear hK K
    (try simp only [Act.put, List.setIfInBounds_toArray, List.set_cons_zero, List.set_cons_succ])
    clear hd hT hR h8 hB d0 d1 d2 f0 f1 f2
    have hWW : ∃ W9, W9 = ((W4.setCell ⟨W1.heap.size, 0, none⟩ (.slice none 0 0)).setCell ⟨W1.heap.size, 1, none⟩ (.bool false)).setCell ⟨W1.heap.size, 2, none⟩ (.slice none 0 0) := ⟨_, rfl⟩
    obtain ⟨W9, hW9⟩ := hWW
    simp only [← hW9] at hT9 hR9 h89 hB9 hH21 ⊢
    refine wpAnyH_take (i := 11) (oi := { dst := some 9, op := Op.assign (Operand.tmp 29), type := 32, pos := "tens.go:153", after := #[{ on := 8, ground := Ground.data }, { on := 10, ground := Ground.chain }, { on := 0, ground := Ground.phase }, { on := 1, ground := Ground.phase }, { on := 2, ground := Ground.phase }, { on := 3, ground := Ground.phase }, { on := 4, ground := Ground.phase }, { on := 5, ground := Ground.phase }, { on := 6, ground := Ground.phase }, { on := 7, ground := Ground.phase }, { on := 8, ground := Ground.phase }, { on := 9, ground := Ground.phase }, { on := 10, ground := Ground.phase }], guard := none }) (v := ?v11x20) rfl (by kernel_rfl) (by kernel_rfl) (by kernel_rfl) (fun _ _ _ h => h) (Or.inl ⟨by rfl, ?hy11x20⟩) (by assumption) ?r11x20
    case hy11x20 =>
      intro w hSw
      (try dsimp only at hSw)
      go_simp
      all_goals with_reducible rfl
    (try simp only [Act.put, List.setIfInBounds_toArray, List.set_cons_zero, List.set_cons_succ])
    refine wpAnyH_done (by kernel_rfl) ?_ _
    have q00 : W9.cell? ⟨w.heap.size, 0, none⟩ = some (.slice none 0 0) := by rw [hT9.cell]; rfl
    have qf0 := hT9.frozen 0
    have q01 : W9.cell? ⟨w.heap.size, 1, none⟩ = some (.bool false) := by rw [hT9.cell]; rfl
    have qf1 := hT9.frozen 1
    have q02 : W9.cell? ⟨w.heap.size, 2, none⟩ = some (.slice none 0 0) := by rw [hT9.cell]; rfl
    have qf2 := hT9.frozen 2
    have HZ := hide (((hT9.set_ 0 (.slice none 0 0)).set_ 1 (.bool false)).set_ 2 (.slice none 0 0))
    have HB := hide (((hB9.setCell (p := ⟨w.heap.size, 0, none⟩) (Nat.le_refl _) (.slice none 0 0)).setCell (p := ⟨w.heap.size, 1, none⟩) (Nat.le_refl _) (.bool false)).setCell (p := ⟨w.heap.size, 2, none⟩) (Nat.le_refl _) (.slice none 0 0))
    have c8 : W9.cell? ⟨W1.heap.size, 0, none⟩ = some (.slice none 0 0) := by rw [h89.cell]; rfl
    clear h89 hR9 hT9 hB9 hH21 hW9
    go_wp2_with fail
    refine bodyPost_ret (results_tens3 rfl _ _ w.heap.size _ _ _ rfl HZ.out) rfl ?_
    exact ⟨rfl, HB.out⟩
set_option maxRecDepth 100000 in
set_option maxHeartbeats 8000000 in
theorem tread_ok (A : Option Addr) (len cap M : Nat) (l : List Int) (u : Bool) (at_ at2 S : Int) (cs : List Nat) (ns : List Int) (w : World)
    (HD : Hid (Calls Tryd.prog 37 #[.pointer (some ⟨w.heap.size + 1, 0, none⟩)] ((w.alloc (Obj.cells #[.slice none 0 0, .bool false, .slice none 0 0] 70)).alloc (Obj.cells #[.slice A len cap, .int .i64 0, .nilIface] 118)) fun e w' => (∃ B c, e = .returned (.agg (dcells B l.length c u)) ∧ Ri w' B l ∧ ∀ ad, B = some ad → w.heap.size + 2 ≤ ad.block) ∧ Has w' (w.heap.size + 1) 118 [.slice A len cap, .int .i64 at_, .nilIface] ∧ ((w.alloc (Obj.cells #[.slice none 0 0, .bool false, .slice none 0 0] 70)).alloc (Obj.cells #[.slice A len cap, .int .i64 0, .nilIface] 118)).grownBy w' (some (w.heap.size + 1))))
    (HBy : Hid (∀ W B c, Ri W B l → Below w.heap.size w W → Calls Tryd.prog 80 #[.agg (dcells B l.length c u)] W fun e w' => e = .returned (.int .i64 S) ∧ Below W.heap.size W w'))
    (HP : Hid (∀ W, Below w.heap.size w W → Has W (w.heap.size + 1) 118 [.slice A len cap, .int .i64 at_, .nilIface] → Calls Tryd.prog 32 #[.pointer (some ⟨w.heap.size + 1, 0, none⟩), .int .i64 S] W fun e w' => (∃ A2 c2, e = .returned (.slice A2 M c2) ∧ Rb w' A2 cs ∧ M ≤ c2) ∧ (∃ v, Has w' (w.heap.size + 1) 118 [.slice A len cap, .int .i64 at2, v]) ∧ W.grownBy w' (some (w.heap.size + 1))))
    (HO : Hid (∀ W B c A2 c2, Ri W B l → Rb W A2 cs → M ≤ c2 → Below w.heap.size w W → Calls Tryd.prog 79 #[.agg (dcells B l.length c u), .slice A2 M c2] W fun e w' => (∃ g c rest gd, e = .returned (.tuple #[.agg (tcells (some ⟨g, 0, none⟩) l.length c u (some ⟨gd, 0, none⟩) ns.length ns.length), .nilIface]) ∧ Has w' g 3 (i64s l ++ rest) ∧ Has w' gd 3 (i64s ns)) ∧ Below W.heap.size W w')) :
    Calls Tryd.prog 38 #[.slice A len cap] w fun e w' => (∃ g c rest gd, e = .returned (.tuple #[.agg (tcells (some ⟨g, 0, none⟩) l.length c u (some ⟨gd, 0, none⟩) ns.length ns.length), .int .i64 at2, .nilIface]) ∧ Has w' g 3 (i64s l ++ rest) ∧ Has w' gd 3 (i64s ns)) ∧ Below w.heap.size w w' := by
  obtain ⟨hb1, hT, -⟩ := tread_two w (.slice A len cap)
  have HB := hide hb1
  have HT := hide hT
  clear hb1 hT
  go_enter Tryd.func38, Tryd.ntmps38
  go_wp2_with fail
  refine (read_c A len cap _).mono ?_
  rintro e w1 ⟨rfl, hw1⟩
  rw [← hw1] at HD HB HT
  have hs0 : (w.alloc (Obj.cells #[.slice none 0 0, .bool false, .slice none 0 0] 70)).heap.size = w.heap.size + 1 := by simp
  have hs1 : w1.heap.size = w.heap.size + 2 := by rw [hw1]; simp
  rw [hs0]
  clear hw1 hs0
  go_wp2_with fail
  refine HD.out.mono ?_
  rintro e w2 ⟨⟨B, c, rfl, hri0, hBl⟩, hR, hg⟩
  have hB2 := HB.out.grown hg (by omega) (fun k e => by cases e; omega)
  have hT2 := HT.out.grown hg (by intro h; injection h; omega)
  have hsz := hg.size
  have hd3 : Has (w2.alloc (Obj.cells #[.slice B l.length c, .bool u] 59)) w2.heap.size 59 [.slice B l.length c, .bool u] := Has.new w2 _ _
  have hR3 := hide (hR.alloc (Obj.cells #[.slice B l.length c, .bool u] 59))
  have hT3 := hide (hT2.alloc (Obj.cells #[.slice B l.length c, .bool u] 59))
  have hB3 := hide (hB2.alloc hB2.size (Obj.cells #[.slice B l.length c, .bool u] 59))
  have hri3 := hide (hri0.below ((Below.refl _ w2).alloc (Nat.le_refl _) (Obj.cells #[.slice B l.length c, .bool u] 59)))
  have hDd : w.heap.size + 2 ≤ w2.heap.size := by omega
  have hd4 := hide hd3
  clear HD HB HT hR hg hB2 hT2 hri0 hs1 hsz hd3
  go_wp2_with fail
  generalize w2.alloc (Obj.cells #[.slice B l.length c, .bool u] 59) = W at *
  generalize w2.heap.size = Dd at *
  refine (rerr_c _ _ _ _ _ hR3.out).mono ?_
  rintro e w3 ⟨rfl, rfl⟩
  go_wp2_with fail
  refine (alone_nil _).mono ?_
  rintro e w4 ⟨rfl, rfl⟩
  have hd : Has w4.drew Dd 59 [.slice B l.length c, .bool u] := hd4.out.drewN 1
  have hT : Has w4.drew w.heap.size 70 [.slice none 0 0, .bool false, .slice none 0 0] := hT3.out.drewN 1
  have hR : Has w4.drew (w.heap.size + 1) 118 [.slice A len cap, .int .i64 at_, .nilIface] := hR3.out.drewN 1
  have hB : Below w.heap.size w w4.drew := hB3.out.drew
  have hri : Ri w4.drew B l := hri3.out.below (show Below w4.heap.size w4 w4.drew from (Below.refl _ _).drew)
  clear hd4 hT3 hR3 hB3 hri3
  go_wp2_with fail
  refine wp_region_held_drew (S := DeS Dd (.slice B l.length c) (.bool u)) (by kernel_rfl) (DeS.of hd) (fun hH0 => ?_)
  have hWW : ∃ W1, W1 = w4.drew := ⟨_, rfl⟩
  obtain ⟨W1, hW1⟩ := hWW
  simp only [← hW1] at hd hT hR hB hri hH0 ⊢
  clear hW1
  refine wpAnyH_take (i := 0) (oi := { dst := some 22, op := Op.load 59 (Operand.tmp 6), type := 59, pos := "tens.go:153", after := #[], guard := none }) (v := ?v0) rfl (by kernel_rfl) (by kernel_rfl) (by kernel_rfl) (fun _ _ _ h => h) (Or.inl ⟨by rfl, ?hy0⟩) (by assumption) ?r0
  case hy0 =>
    intro w hSw
    (try dsimp only at hSw)
    go_simp
    all_goals with_reducible rfl
  (try simp only [Act.put, List.setIfInBounds_toArray, List.set_cons_zero, List.set_cons_succ])
  refine wpAnyH_take (i := 1) (oi := { dst := some 23, op := Op.move (Operand.tmp 5), type := 73, pos := "tens.go:153", after := #[], guard := none }) (v := ?v1) rfl (by kernel_rfl) (by kernel_rfl) (by kernel_rfl) (fun _ _ _ h => h) (Or.inl ⟨by rfl, ?hy1⟩) (by assumption) ?r1
  case hy1 =>
    intro w hSw
    (try dsimp only at hSw)
    go_simp
    all_goals with_reducible rfl
  (try simp only [Act.put, List.setIfInBounds_toArray, List.set_cons_zero, List.set_cons_succ])
  refine wpAnyH_take (i := 2) (oi := { dst := some 24, op := Op.load 59 (Operand.tmp 6), type := 59, pos := "tens.go:153", after := #[], guard := none }) (v := ?v2) rfl (by kernel_rfl) (by kernel_rfl) (by kernel_rfl) (fun _ _ _ h => h) (Or.inl ⟨by rfl, ?hy2⟩) (by assumption) ?r2
  case hy2 =>
    intro w hSw
    (try dsimp only at hSw)
    go_simp
    all_goals with_reducible rfl
  (try simp only [Act.put, List.setIfInBounds_toArray, List.set_cons_zero, List.set_cons_succ])
  refine wpAnyH_ready (rs := [3, 9]) (by kernel_rfl) (by simp) ?_
  refine AllReadyH.cons (o := { dst := some 25, op := Op.call { callee := Callee.value (Operand.func 80), args := #[Operand.tmp 24], argTypes := #[59] }, type := 3, pos := "tens.go:153", after := #[{ on := 2, ground := Ground.data }], guard := none }) rfl (fun K hK => ?_) (AllReadyH.cons (o := { dst := some 8, op := Op.alloc 70, type := 0, pos := "tens.go:153", after := #[], guard := none }) rfl (fun K hK => ?_) AllReadyH.nil)
  focus
    go_simp
    refine (HBy.out _ _ _ hri hB).mono ?_
    rintro e W2 ⟨rfl, hb⟩
    go_wp2_with fail
    replace hd := hd.below hb hd.lt
    replace hT := hT.below hb hT.lt
    replace hR := hR.below hb hR.lt
    replace hri := hri.below hb
    replace hB := hB.trans (hb.mono hB.size)
    clear hb
    refine hK.out _ _ ?_ (fun hH1 => ?_)
    · exact DeS.of hd
    clear hK K
    (try simp only [Act.put, List.setIfInBounds_toArray, List.set_cons_zero, List.set_cons_succ])
    refine wpAnyH_ready (rs := [4, 9]) (by kernel_rfl) (by simp) ?_
    refine AllReadyH.cons (o := { dst := some 26, op := Op.call { callee := Callee.value (Operand.func 32), args := #[Operand.tmp 23, Operand.tmp 25], argTypes := #[73, 3] }, type := 30, pos := "tens.go:153", after := #[{ on := 1, ground := Ground.data }, { on := 3, ground := Ground.data }, { on := 3, ground := Ground.chain }], guard := none }) rfl (fun K hK => ?_) (AllReadyH.cons (o := { dst := some 8, op := Op.alloc 70, type := 0, pos := "tens.go:153", after := #[], guard := none }) rfl (fun K hK => ?_) AllReadyH.nil)
    focus
      go_simp
      refine (HP.out _ hB hR).mono ?_
      rintro e W3 ⟨⟨A2, c2, rfl, hrb, hmc⟩, ⟨v2, hR2⟩, hg⟩
      go_wp2_with fail
      have hri2 := hri.grown hg (fun ad e _ e2 => by have := hBl ad e; injection e2; omega)
      replace hd := hd.grown hg (by intro h; injection h; omega)
      replace hT := hT.grown hg (by intro h; injection h; omega)
      replace hB := hB.grown hg hB.size (fun k e => by cases e; omega)
      replace hri := hri2
      replace hR := hR2
      clear hri2 hR2 hg
      refine hK.out _ _ ?_ (fun hH2 => ?_)
      · exact DeS.of hd
      clear hK K
      (try simp only [Act.put, List.setIfInBounds_toArray, List.set_cons_zero, List.set_cons_succ])
      refine wpAnyH_ready (rs := [5, 9]) (by kernel_rfl) (by simp) ?_
      refine AllReadyH.cons (o := { dst := some 27, op := Op.call { callee := Callee.value (Operand.func 79), args := #[Operand.tmp 22, Operand.tmp 26], argTypes := #[59, 30] }, type := 125, pos := "tens.go:153", after := #[{ on := 0, ground := Ground.data }, { on := 4, ground := Ground.data }, { on := 4, ground := Ground.chain }], guard := none }) rfl (fun K hK => ?_) (AllReadyH.cons (o := { dst := some 8, op := Op.alloc 70, type := 0, pos := "tens.go:153", after := #[], guard := none }) rfl (fun K hK => ?_) AllReadyH.nil)
      focus
        go_simp
        refine (HO.out _ _ _ _ _ hri hrb hmc hB).mono ?_
        rintro e W4 ⟨⟨g4, c4, rest, gd, rfl, hC, hDt⟩, hb⟩
        go_wp2_with fail
        replace hd := hd.below hb hd.lt
        replace hT := hT.below hb hT.lt
        replace hR := hR.below hb hR.lt
        replace hB := hB.trans (hb.mono hB.size)
        clear hb hri hrb hmc
        refine hK.out _ _ ?_ (fun hH3 => ?_)
        · exact DeS.of hd
        clear hK K
        (try simp only [Act.put, List.setIfInBounds_toArray, List.set_cons_zero, List.set_cons_succ])
        refine wpAnyH_take (i := 6) (oi := { dst := some 21, op := Op.move (Operand.tmp 27), type := 125, pos := "tens.go:153", after := #[{ on := 5, ground := Ground.data }], guard := none }) (v := ?v6x4) rfl (by kernel_rfl) (by kernel_rfl) (by kernel_rfl) (fun _ _ _ h => h) (Or.inl ⟨by rfl, ?hy6x4⟩) (by assumption) ?r6x4
        case hy6x4 =>
          intro w hSw
          (try dsimp only at hSw)
          go_simp
          all_goals with_reducible rfl
        (try simp only [Act.put, List.setIfInBounds_toArray, List.set_cons_zero, List.set_cons_succ])
        refine wpAnyH_take (i := 7) (oi := { dst := some 28, op := Op.extract (Operand.tmp 21) 0, type := 70, pos := "tens.go:153", after := #[{ on := 6, ground := Ground.data }], guard := none }) (v := ?v7x4) rfl (by kernel_rfl) (by kernel_rfl) (by kernel_rfl) (fun _ _ _ h => h) (Or.inl ⟨by rfl, ?hy7x4⟩) (by assumption) ?r7x4
        case hy7x4 =>
          intro w hSw
          (try dsimp only at hSw)
          go_simp
          all_goals with_reducible rfl
        (try simp only [Act.put, List.setIfInBounds_toArray, List.set_cons_zero, List.set_cons_succ])
        refine wpAnyH_take (i := 8) (oi := { dst := some 29, op := Op.extract (Operand.tmp 21) 1, type := 32, pos := "tens.go:153", after := #[{ on := 6, ground := Ground.data }, { on := 10, ground := Ground.gcOnly Departure.lateStores }], guard := none }) (v := ?v8x4) rfl (by kernel_rfl) (by kernel_rfl) (by kernel_rfl) (fun _ _ _ h => h) (Or.inl ⟨by rfl, ?hy8x4⟩) (by assumption) ?r8x4
        case hy8x4 =>
          intro w hSw
          (try dsimp only at hSw)
          go_simp
          all_goals with_reducible rfl
        (try simp only [Act.put, List.setIfInBounds_toArray, List.set_cons_zero, List.set_cons_succ])
        refine wpAnyH_ready (rs := [9]) (by kernel_rfl) (by simp) ?_
        refine AllReadyH.cons (o := { dst := some 8, op := Op.alloc 70, type := 0, pos := "tens.go:153", after := #[], guard := none }) rfl (fun K hK => ?_) AllReadyH.nil
        go_simp
        have hb9 : Below W4.heap.size W4 (W4.alloc (Obj.cells #[.slice none 0 0, .bool false, .slice none 0 0] 70)) := (Below.refl _ _).alloc (Nat.le_refl _) _
        have ht8 := hd.lt
        replace hd := hd.below hb9 hd.lt
        replace hT := hT.below hb9 hT.lt
        replace hR := hR.below hb9 hR.lt
        replace hC := hC.below hb9 hC.lt
        replace hDt := hDt.below hb9 hDt.lt
        replace hB := hB.trans (hb9.mono hB.size)
        have h8 : Has (W4.alloc (Obj.cells #[.slice none 0 0, .bool false, .slice none 0 0] 70)) W4.heap.size 70 [.slice none 0 0, .bool false, .slice none 0 0] := Has.new W4 _ _
        clear hb9
        refine hK.out _ _ ?_ (fun hH5 => ?_)
        · exact DeS.of hd
        clear hK K
        (try simp only [Act.put, List.setIfInBounds_toArray, List.set_cons_zero, List.set_cons_succ])
        obtain ⟨Wn, hWn⟩ : ∃ Wn, Wn = (W4.alloc (Obj.cells #[.slice none 0 0, .bool false, .slice none 0 0] 70)) := ⟨_, rfl⟩
        simp only [← hWn] at hd hT hR h8 hC hDt hB hH5 ⊢
        clear hWn
        have d0 : Wn.cell? ⟨W4.heap.size, 0, none⟩ = some (.slice none 0 0) := by rw [h8.cell]; rfl
        have f0 := h8.frozen 0
        have d1 : Wn.cell? ⟨W4.heap.size, 1, none⟩ = some (.bool false) := by rw [h8.cell]; rfl
        have f1 := h8.frozen 1
        have d2 : Wn.cell? ⟨W4.heap.size, 2, none⟩ = some (.slice none 0 0) := by rw [h8.cell]; rfl
        have f2 := h8.frozen 2
        have hd9 := ((hd.far (p := ⟨W4.heap.size, 0, none⟩) (by simp; omega) (.slice (some ⟨g4, 0, none⟩) l.length c4)).far (p := ⟨W4.heap.size, 1, none⟩) (by simp; omega) (.bool u)).far (p := ⟨W4.heap.size, 2, none⟩) (by simp; omega) (.slice (some ⟨gd, 0, none⟩) ns.length ns.length)
        have hT9 := ((hT.far (p := ⟨W4.heap.size, 0, none⟩) (by simp; omega) (.slice (some ⟨g4, 0, none⟩) l.length c4)).far (p := ⟨W4.heap.size, 1, none⟩) (by simp; omega) (.bool u)).far (p := ⟨W4.heap.size, 2, none⟩) (by simp; omega) (.slice (some ⟨gd, 0, none⟩) ns.length ns.length)
        have hR9 := ((hR.far (p := ⟨W4.heap.size, 0, none⟩) (by simp; omega) (.slice (some ⟨g4, 0, none⟩) l.length c4)).far (p := ⟨W4.heap.size, 1, none⟩) (by simp; omega) (.bool u)).far (p := ⟨W4.heap.size, 2, none⟩) (by simp; omega) (.slice (some ⟨gd, 0, none⟩) ns.length ns.length)
        have ne_hC := hC.apart h8 (by decide)
        have hC9 := ((hC.far (p := ⟨W4.heap.size, 0, none⟩) (ne_hC) (.slice (some ⟨g4, 0, none⟩) l.length c4)).far (p := ⟨W4.heap.size, 1, none⟩) (ne_hC) (.bool u)).far (p := ⟨W4.heap.size, 2, none⟩) (ne_hC) (.slice (some ⟨gd, 0, none⟩) ns.length ns.length)
        have ne_hDt := hDt.apart h8 (by decide)
        have hDt9 := ((hDt.far (p := ⟨W4.heap.size, 0, none⟩) (ne_hDt) (.slice (some ⟨g4, 0, none⟩) l.length c4)).far (p := ⟨W4.heap.size, 1, none⟩) (ne_hDt) (.bool u)).far (p := ⟨W4.heap.size, 2, none⟩) (ne_hDt) (.slice (some ⟨gd, 0, none⟩) ns.length ns.length)
        have h89 := ((h8.set_ 0 (.slice (some ⟨g4, 0, none⟩) l.length c4)).set_ 1 (.bool u)).set_ 2 (.slice (some ⟨gd, 0, none⟩) ns.length ns.length)
        have hB9 := ((hB.setCell (p := ⟨W4.heap.size, 0, none⟩) (by simp; omega) (.slice (some ⟨g4, 0, none⟩) l.length c4)).setCell (p := ⟨W4.heap.size, 1, none⟩) (by simp; omega) (.bool u)).setCell (p := ⟨W4.heap.size, 2, none⟩) (by simp; omega) (.slice (some ⟨gd, 0, none⟩) ns.length ns.length)
        refine wpAnyH_ready (rs := [10]) (by kernel_rfl) (by simp) ?_
        refine AllReadyH.cons (o := { dst := none, op := Op.store 70 (Operand.tmp 8) (Operand.tmp 28), type := 0, pos := "tens.go:153", after := #[{ on := 9, ground := Ground.data }, { on := 7, ground := Ground.data }, { on := 5, ground := Ground.chain }, { on := 0, ground := Ground.phase }, { on := 1, ground := Ground.phase }, { on := 2, ground := Ground.phase }, { on := 3, ground := Ground.phase }, { on := 4, ground := Ground.phase }, { on := 5, ground := Ground.phase }, { on := 6, ground := Ground.phase }, { on := 7, ground := Ground.phase }, { on := 8, ground := Ground.textOnly Departure.lateStores }, { on := 9, ground := Ground.phase }], guard := none }) rfl (fun K hK => ?_) AllReadyH.nil
        go_simp
        replace hd := hd9
        refine hK.out _ _ ?_ (fun hH6 => ?_)
        · exact DeS.of hd
        clear hK K
        (try simp only [Act.put, List.setIfInBounds_toArray, List.set_cons_zero, List.set_cons_succ])
        clear hd hT hR h8 hB d0 d1 d2 f0 f1 f2 hC hDt
        have hWW : ∃ W9, W9 = ((Wn.setCell ⟨W4.heap.size, 0, none⟩ (.slice (some ⟨g4, 0, none⟩) l.length c4)).setCell ⟨W4.heap.size, 1, none⟩ (.bool u)).setCell ⟨W4.heap.size, 2, none⟩ (.slice (some ⟨gd, 0, none⟩) ns.length ns.length) := ⟨_, rfl⟩
        obtain ⟨W9, hW9⟩ := hWW
        simp only [← hW9] at hT9 hR9 h89 hB9 hC9 hDt9 hH6 ⊢
        refine wpAnyH_take (i := 11) (oi := { dst := some 9, op := Op.assign (Operand.tmp 29), type := 32, pos := "tens.go:153", after := #[{ on := 8, ground := Ground.data }, { on := 10, ground := Ground.chain }, { on := 0, ground := Ground.phase }, { on := 1, ground := Ground.phase }, { on := 2, ground := Ground.phase }, { on := 3, ground := Ground.phase }, { on := 4, ground := Ground.phase }, { on := 5, ground := Ground.phase }, { on := 6, ground := Ground.phase }, { on := 7, ground := Ground.phase }, { on := 8, ground := Ground.phase }, { on := 9, ground := Ground.phase }, { on := 10, ground := Ground.phase }], guard := none }) (v := ?v11x4) rfl (by kernel_rfl) (by kernel_rfl) (by kernel_rfl) (fun _ _ _ h => h) (Or.inl ⟨by rfl, ?hy11x4⟩) (by assumption) ?r11x4
        case hy11x4 =>
          intro w hSw
          (try dsimp only at hSw)
          go_simp
          all_goals with_reducible rfl
        (try simp only [Act.put, List.setIfInBounds_toArray, List.set_cons_zero, List.set_cons_succ])
        refine wpAnyH_done (by kernel_rfl) ?_ _
        have h8d : Has W9.drew _ _ _ := h89.drewN 1
        have hRd : Has W9.drew _ _ _ := hR9.drewN 1
        have hTd : Has W9.drew w.heap.size 70 [.slice none 0 0, .bool false, .slice none 0 0] := hT9.drewN 1
        have hS0 := TeS.of h8d
        have q00 : W9.cell? ⟨w.heap.size, 0, none⟩ = some (.slice none 0 0) := by rw [hT9.cell]; rfl
        have qf0 := hT9.frozen 0
        have q01 : W9.cell? ⟨w.heap.size, 1, none⟩ = some (.bool false) := by rw [hT9.cell]; rfl
        have qf1 := hT9.frozen 1
        have q02 : W9.cell? ⟨w.heap.size, 2, none⟩ = some (.slice none 0 0) := by rw [hT9.cell]; rfl
        have qf2 := hT9.frozen 2
        have hS9 := hide (TeS.of (((h8d.far (p := ⟨w.heap.size, 0, none⟩) (by simp; omega) (.slice (some ⟨g4, 0, none⟩) l.length c4)).far (p := ⟨w.heap.size, 1, none⟩) (by simp; omega) (.bool u)).far (p := ⟨w.heap.size, 2, none⟩) (by simp; omega) (.slice (some ⟨gd, 0, none⟩) ns.length ns.length)))
        have HZ := hide (((hTd.set_ 0 (.slice (some ⟨g4, 0, none⟩) l.length c4)).set_ 1 (.bool u)).set_ 2 (.slice (some ⟨gd, 0, none⟩) ns.length ns.length))
        have HB := hide (((hB9.drew.setCell (p := ⟨w.heap.size, 0, none⟩) (Nat.le_refl _) (.slice (some ⟨g4, 0, none⟩) l.length c4)).setCell (p := ⟨w.heap.size, 1, none⟩) (Nat.le_refl _) (.bool u)).setCell (p := ⟨w.heap.size, 2, none⟩) (Nat.le_refl _) (.slice (some ⟨gd, 0, none⟩) ns.length ns.length))
        have hC9d : Has W9.drew _ _ _ := hC9.drewN 1
        have ne_HC := hC9.apart hT9 (by decide)
        have HC := hide (((hC9d.far (p := ⟨w.heap.size, 0, none⟩) (ne_HC) (.slice (some ⟨g4, 0, none⟩) l.length c4)).far (p := ⟨w.heap.size, 1, none⟩) (ne_HC) (.bool u)).far (p := ⟨w.heap.size, 2, none⟩) (ne_HC) (.slice (some ⟨gd, 0, none⟩) ns.length ns.length))
        have hDt9d : Has W9.drew _ _ _ := hDt9.drewN 1
        have ne_HDt := hDt9.apart hT9 (by decide)
        have HDt := hide (((hDt9d.far (p := ⟨w.heap.size, 0, none⟩) (ne_HDt) (.slice (some ⟨g4, 0, none⟩) l.length c4)).far (p := ⟨w.heap.size, 1, none⟩) (ne_HDt) (.bool u)).far (p := ⟨w.heap.size, 2, none⟩) (ne_HDt) (.slice (some ⟨gd, 0, none⟩) ns.length ns.length))
        clear h89 hR9 hT9 hB9 hC9 hDt9 hTd hC9d hDt9d h8d hH6 hW9
        go_wp2_with fail
        go_region_held3 (fun W => W.cell? ⟨W4.heap.size, 0, none⟩ = some (.slice (some ⟨g4, 0, none⟩) l.length c4) ∧ W.cell? ⟨W4.heap.size, 1, none⟩ = some (.bool u) ∧ W.cell? ⟨W4.heap.size, 2, none⟩ = some (.slice (some ⟨gd, 0, none⟩) ns.length ns.length))
          (first | exact hS0 | assumption | exact hS9.out)
          (first | (go_at_call 56; refine (rat_c _ _ _ _ _ hRd).mono ?_; rintro e W5 ⟨rfl, rfl⟩))
        go_wp2_with fail
        refine bodyPost_ret (results_tens3 rfl _ _ w.heap.size _ _ _ rfl HZ.out) rfl ?_
        exact ⟨⟨g4, c4, rest, gd, rfl, HC.out, HDt.out⟩, HB.out⟩
      focus
        go_simp
        have hb9 : Below W3.heap.size W3 (W3.alloc (Obj.cells #[.slice none 0 0, .bool false, .slice none 0 0] 70)) := (Below.refl _ _).alloc (Nat.le_refl _) _
        have ht8 := hd.lt
        replace hd := hd.below hb9 hd.lt
        replace hT := hT.below hb9 hT.lt
        replace hR := hR.below hb9 hR.lt
        replace hri := hri.below hb9
        replace hrb := hrb.below hb9
        replace hB := hB.trans (hb9.mono hB.size)
        have h8 : Has (W3.alloc (Obj.cells #[.slice none 0 0, .bool false, .slice none 0 0] 70)) W3.heap.size 70 [.slice none 0 0, .bool false, .slice none 0 0] := Has.new W3 _ _
        clear hb9
        refine hK.out _ _ ?_ (fun hH7 => ?_)
        · exact DeS.of hd
        clear hK K
        (try simp only [Act.put, List.setIfInBounds_toArray, List.set_cons_zero, List.set_cons_succ])
        obtain ⟨Wn, hWn⟩ : ∃ Wn, Wn = (W3.alloc (Obj.cells #[.slice none 0 0, .bool false, .slice none 0 0] 70)) := ⟨_, rfl⟩
        simp only [← hWn] at hd hT hR h8 hB hri hrb hH7 ⊢
        clear hWn
        refine wpAnyH_ready (rs := [5]) (by kernel_rfl) (by simp) ?_
        refine AllReadyH.cons (o := { dst := some 27, op := Op.call { callee := Callee.value (Operand.func 79), args := #[Operand.tmp 22, Operand.tmp 26], argTypes := #[59, 30] }, type := 125, pos := "tens.go:153", after := #[{ on := 0, ground := Ground.data }, { on := 4, ground := Ground.data }, { on := 4, ground := Ground.chain }], guard := none }) rfl (fun K hK => ?_) AllReadyH.nil
        go_simp
        refine (HO.out _ _ _ _ _ hri hrb hmc hB).mono ?_
        rintro e W4 ⟨⟨g4, c4, rest, gd, rfl, hC, hDt⟩, hb⟩
        go_wp2_with fail
        replace hd := hd.below hb hd.lt
        replace hT := hT.below hb hT.lt
        replace hR := hR.below hb hR.lt
        replace h8 := h8.below hb h8.lt
        replace hB := hB.trans (hb.mono hB.size)
        clear hb hri hrb hmc
        refine hK.out _ _ ?_ (fun hH8 => ?_)
        · exact DeS.of hd
        clear hK K
        (try simp only [Act.put, List.setIfInBounds_toArray, List.set_cons_zero, List.set_cons_succ])
        refine wpAnyH_take (i := 6) (oi := { dst := some 21, op := Op.move (Operand.tmp 27), type := 125, pos := "tens.go:153", after := #[{ on := 5, ground := Ground.data }], guard := none }) (v := ?v6x9) rfl (by kernel_rfl) (by kernel_rfl) (by kernel_rfl) (fun _ _ _ h => h) (Or.inl ⟨by rfl, ?hy6x9⟩) (by assumption) ?r6x9
        case hy6x9 =>
          intro w hSw
          (try dsimp only at hSw)
          go_simp
          all_goals with_reducible rfl
        (try simp only [Act.put, List.setIfInBounds_toArray, List.set_cons_zero, List.set_cons_succ])
        refine wpAnyH_take (i := 7) (oi := { dst := some 28, op := Op.extract (Operand.tmp 21) 0, type := 70, pos := "tens.go:153", after := #[{ on := 6, ground := Ground.data }], guard := none }) (v := ?v7x9) rfl (by kernel_rfl) (by kernel_rfl) (by kernel_rfl) (fun _ _ _ h => h) (Or.inl ⟨by rfl, ?hy7x9⟩) (by assumption) ?r7x9
        case hy7x9 =>
          intro w hSw
          (try dsimp only at hSw)
          go_simp
          all_goals with_reducible rfl
        (try simp only [Act.put, List.setIfInBounds_toArray, List.set_cons_zero, List.set_cons_succ])
        refine wpAnyH_take (i := 8) (oi := { dst := some 29, op := Op.extract (Operand.tmp 21) 1, type := 32, pos := "tens.go:153", after := #[{ on := 6, ground := Ground.data }, { on := 10, ground := Ground.gcOnly Departure.lateStores }], guard := none }) (v := ?v8x9) rfl (by kernel_rfl) (by kernel_rfl) (by kernel_rfl) (fun _ _ _ h => h) (Or.inl ⟨by rfl, ?hy8x9⟩) (by assumption) ?r8x9
        case hy8x9 =>
          intro w hSw
          (try dsimp only at hSw)
          go_simp
          all_goals with_reducible rfl
        (try simp only [Act.put, List.setIfInBounds_toArray, List.set_cons_zero, List.set_cons_succ])
        have d0 : W4.cell? ⟨W3.heap.size, 0, none⟩ = some (.slice none 0 0) := by rw [h8.cell]; rfl
        have f0 := h8.frozen 0
        have d1 : W4.cell? ⟨W3.heap.size, 1, none⟩ = some (.bool false) := by rw [h8.cell]; rfl
        have f1 := h8.frozen 1
        have d2 : W4.cell? ⟨W3.heap.size, 2, none⟩ = some (.slice none 0 0) := by rw [h8.cell]; rfl
        have f2 := h8.frozen 2
        have hd9 := ((hd.far (p := ⟨W3.heap.size, 0, none⟩) (by simp; omega) (.slice (some ⟨g4, 0, none⟩) l.length c4)).far (p := ⟨W3.heap.size, 1, none⟩) (by simp; omega) (.bool u)).far (p := ⟨W3.heap.size, 2, none⟩) (by simp; omega) (.slice (some ⟨gd, 0, none⟩) ns.length ns.length)
        have hT9 := ((hT.far (p := ⟨W3.heap.size, 0, none⟩) (by simp; omega) (.slice (some ⟨g4, 0, none⟩) l.length c4)).far (p := ⟨W3.heap.size, 1, none⟩) (by simp; omega) (.bool u)).far (p := ⟨W3.heap.size, 2, none⟩) (by simp; omega) (.slice (some ⟨gd, 0, none⟩) ns.length ns.length)
        have hR9 := ((hR.far (p := ⟨W3.heap.size, 0, none⟩) (by simp; omega) (.slice (some ⟨g4, 0, none⟩) l.length c4)).far (p := ⟨W3.heap.size, 1, none⟩) (by simp; omega) (.bool u)).far (p := ⟨W3.heap.size, 2, none⟩) (by simp; omega) (.slice (some ⟨gd, 0, none⟩) ns.length ns.length)
        have ne_hC := hC.apart h8 (by decide)
        have hC9 := ((hC.far (p := ⟨W3.heap.size, 0, none⟩) (ne_hC) (.slice (some ⟨g4, 0, none⟩) l.length c4)).far (p := ⟨W3.heap.size, 1, none⟩) (ne_hC) (.bool u)).far (p := ⟨W3.heap.size, 2, none⟩) (ne_hC) (.slice (some ⟨gd, 0, none⟩) ns.length ns.length)
        have ne_hDt := hDt.apart h8 (by decide)
        have hDt9 := ((hDt.far (p := ⟨W3.heap.size, 0, none⟩) (ne_hDt) (.slice (some ⟨g4, 0, none⟩) l.length c4)).far (p := ⟨W3.heap.size, 1, none⟩) (ne_hDt) (.bool u)).far (p := ⟨W3.heap.size, 2, none⟩) (ne_hDt) (.slice (some ⟨gd, 0, none⟩) ns.length ns.length)
        have h89 := ((h8.set_ 0 (.slice (some ⟨g4, 0, none⟩) l.length c4)).set_ 1 (.bool u)).set_ 2 (.slice (some ⟨gd, 0, none⟩) ns.length ns.length)
        have hB9 := ((hB.setCell (p := ⟨W3.heap.size, 0, none⟩) (by simp; omega) (.slice (some ⟨g4, 0, none⟩) l.length c4)).setCell (p := ⟨W3.heap.size, 1, none⟩) (by simp; omega) (.bool u)).setCell (p := ⟨W3.heap.size, 2, none⟩) (by simp; omega) (.slice (some ⟨gd, 0, none⟩) ns.length ns.length)
        refine wpAnyH_ready (rs := [10]) (by kernel_rfl) (by simp) ?_
        refine AllReadyH.cons (o := { dst := none, op := Op.store 70 (Operand.tmp 8) (Operand.tmp 28), type := 0, pos := "tens.go:153", after := #[{ on := 9, ground := Ground.data }, { on := 7, ground := Ground.data }, { on := 5, ground := Ground.chain }, { on := 0, ground := Ground.phase }, { on := 1, ground := Ground.phase }, { on := 2, ground := Ground.phase }, { on := 3, ground := Ground.phase }, { on := 4, ground := Ground.phase }, { on := 5, ground := Ground.phase }, { on := 6, ground := Ground.phase }, { on := 7, ground := Ground.phase }, { on := 8, ground := Ground.textOnly Departure.lateStores }, { on := 9, ground := Ground.phase }], guard := none }) rfl (fun K hK => ?_) AllReadyH.nil
        go_simp
        replace hd := hd9
        refine hK.out _ _ ?_ (fun hH10 => ?_)
        · exact DeS.of hd
        clear hK K
        (try simp only [Act.put, List.setIfInBounds_toArray, List.set_cons_zero, List.set_cons_succ])
        clear hd hT hR h8 hB d0 d1 d2 f0 f1 f2 hC hDt
        have hWW : ∃ W9, W9 = ((W4.setCell ⟨W3.heap.size, 0, none⟩ (.slice (some ⟨g4, 0, none⟩) l.length c4)).setCell ⟨W3.heap.size, 1, none⟩ (.bool u)).setCell ⟨W3.heap.size, 2, none⟩ (.slice (some ⟨gd, 0, none⟩) ns.length ns.length) := ⟨_, rfl⟩
        obtain ⟨W9, hW9⟩ := hWW
        simp only [← hW9] at hT9 hR9 h89 hB9 hC9 hDt9 hH10 ⊢
        refine wpAnyH_take (i := 11) (oi := { dst := some 9, op := Op.assign (Operand.tmp 29), type := 32, pos := "tens.go:153", after := #[{ on := 8, ground := Ground.data }, { on := 10, ground := Ground.chain }, { on := 0, ground := Ground.phase }, { on := 1, ground := Ground.phase }, { on := 2, ground := Ground.phase }, { on := 3, ground := Ground.phase }, { on := 4, ground := Ground.phase }, { on := 5, ground := Ground.phase }, { on := 6, ground := Ground.phase }, { on := 7, ground := Ground.phase }, { on := 8, ground := Ground.phase }, { on := 9, ground := Ground.phase }, { on := 10, ground := Ground.phase }], guard := none }) (v := ?v11x9) rfl (by kernel_rfl) (by kernel_rfl) (by kernel_rfl) (fun _ _ _ h => h) (Or.inl ⟨by rfl, ?hy11x9⟩) (by assumption) ?r11x9
        case hy11x9 =>
          intro w hSw
          (try dsimp only at hSw)
          go_simp
          all_goals with_reducible rfl
        (try simp only [Act.put, List.setIfInBounds_toArray, List.set_cons_zero, List.set_cons_succ])
        refine wpAnyH_done (by kernel_rfl) ?_ _
        have h8d : Has W9.drew _ _ _ := h89.drewN 1
        have hRd : Has W9.drew _ _ _ := hR9.drewN 1
        have hTd : Has W9.drew w.heap.size 70 [.slice none 0 0, .bool false, .slice none 0 0] := hT9.drewN 1
        have hS0 := TeS.of h8d
        have q00 : W9.cell? ⟨w.heap.size, 0, none⟩ = some (.slice none 0 0) := by rw [hT9.cell]; rfl
        have qf0 := hT9.frozen 0
        have q01 : W9.cell? ⟨w.heap.size, 1, none⟩ = some (.bool false) := by rw [hT9.cell]; rfl
        have qf1 := hT9.frozen 1
        have q02 : W9.cell? ⟨w.heap.size, 2, none⟩ = some (.slice none 0 0) := by rw [hT9.cell]; rfl
        have qf2 := hT9.frozen 2
        have hS9 := hide (TeS.of (((h8d.far (p := ⟨w.heap.size, 0, none⟩) (by simp; omega) (.slice (some ⟨g4, 0, none⟩) l.length c4)).far (p := ⟨w.heap.size, 1, none⟩) (by simp; omega) (.bool u)).far (p := ⟨w.heap.size, 2, none⟩) (by simp; omega) (.slice (some ⟨gd, 0, none⟩) ns.length ns.length)))
        have HZ := hide (((hTd.set_ 0 (.slice (some ⟨g4, 0, none⟩) l.length c4)).set_ 1 (.bool u)).set_ 2 (.slice (some ⟨gd, 0, none⟩) ns.length ns.length))
        have HB := hide (((hB9.drew.setCell (p := ⟨w.heap.size, 0, none⟩) (Nat.le_refl _) (.slice (some ⟨g4, 0, none⟩) l.length c4)).setCell (p := ⟨w.heap.size, 1, none⟩) (Nat.le_refl _) (.bool u)).setCell (p := ⟨w.heap.size, 2, none⟩) (Nat.le_refl _) (.slice (some ⟨gd, 0, none⟩) ns.length ns.length))
        have hC9d : Has W9.drew _ _ _ := hC9.drewN 1
        have ne_HC := hC9.apart hT9 (by decide)
        have HC := hide (((hC9d.far (p := ⟨w.heap.size, 0, none⟩) (ne_HC) (.slice (some ⟨g4, 0, none⟩) l.length c4)).far (p := ⟨w.heap.size, 1, none⟩) (ne_HC) (.bool u)).far (p := ⟨w.heap.size, 2, none⟩) (ne_HC) (.slice (some ⟨gd, 0, none⟩) ns.length ns.length))
        have hDt9d : Has W9.drew _ _ _ := hDt9.drewN 1
        have ne_HDt := hDt9.apart hT9 (by decide)
        have HDt := hide (((hDt9d.far (p := ⟨w.heap.size, 0, none⟩) (ne_HDt) (.slice (some ⟨g4, 0, none⟩) l.length c4)).far (p := ⟨w.heap.size, 1, none⟩) (ne_HDt) (.bool u)).far (p := ⟨w.heap.size, 2, none⟩) (ne_HDt) (.slice (some ⟨gd, 0, none⟩) ns.length ns.length))
        clear h89 hR9 hT9 hB9 hC9 hDt9 hTd hC9d hDt9d h8d hH10 hW9
        go_wp2_with fail
        go_region_held3 (fun W => W.cell? ⟨W3.heap.size, 0, none⟩ = some (.slice (some ⟨g4, 0, none⟩) l.length c4) ∧ W.cell? ⟨W3.heap.size, 1, none⟩ = some (.bool u) ∧ W.cell? ⟨W3.heap.size, 2, none⟩ = some (.slice (some ⟨gd, 0, none⟩) ns.length ns.length))
          (first | exact hS0 | assumption | exact hS9.out)
          (first | (go_at_call 56; refine (rat_c _ _ _ _ _ hRd).mono ?_; rintro e W5 ⟨rfl, rfl⟩))
        go_wp2_with fail
        refine bodyPost_ret (results_tens3 rfl _ _ w.heap.size _ _ _ rfl HZ.out) rfl ?_
        exact ⟨⟨g4, c4, rest, gd, rfl, HC.out, HDt.out⟩, HB.out⟩
    focus
      go_simp
      have hb9 : Below W2.heap.size W2 (W2.alloc (Obj.cells #[.slice none 0 0, .bool false, .slice none 0 0] 70)) := (Below.refl _ _).alloc (Nat.le_refl _) _
      have ht8 := hd.lt
      replace hd := hd.below hb9 hd.lt
      replace hT := hT.below hb9 hT.lt
      replace hR := hR.below hb9 hR.lt
      replace hri := hri.below hb9
      replace hB := hB.trans (hb9.mono hB.size)
      have h8 : Has (W2.alloc (Obj.cells #[.slice none 0 0, .bool false, .slice none 0 0] 70)) W2.heap.size 70 [.slice none 0 0, .bool false, .slice none 0 0] := Has.new W2 _ _
      clear hb9
      refine hK.out _ _ ?_ (fun hH11 => ?_)
      · exact DeS.of hd
      clear hK K
      (try simp only [Act.put, List.setIfInBounds_toArray, List.set_cons_zero, List.set_cons_succ])
      obtain ⟨Wn, hWn⟩ : ∃ Wn, Wn = (W2.alloc (Obj.cells #[.slice none 0 0, .bool false, .slice none 0 0] 70)) := ⟨_, rfl⟩
      simp only [← hWn] at hd hT hR h8 hB hri hH11 ⊢
      clear hWn
      refine wpAnyH_ready (rs := [4]) (by kernel_rfl) (by simp) ?_
      refine AllReadyH.cons (o := { dst := some 26, op := Op.call { callee := Callee.value (Operand.func 32), args := #[Operand.tmp 23, Operand.tmp 25], argTypes := #[73, 3] }, type := 30, pos := "tens.go:153", after := #[{ on := 1, ground := Ground.data }, { on := 3, ground := Ground.data }, { on := 3, ground := Ground.chain }], guard := none }) rfl (fun K hK => ?_) AllReadyH.nil
      go_simp
      refine (HP.out _ hB hR).mono ?_
      rintro e W3 ⟨⟨A2, c2, rfl, hrb, hmc⟩, ⟨v2, hR2⟩, hg⟩
      go_wp2_with fail
      have hri2 := hri.grown hg (fun ad e _ e2 => by have := hBl ad e; injection e2; omega)
      replace hd := hd.grown hg (by intro h; injection h; omega)
      replace hT := hT.grown hg (by intro h; injection h; omega)
      replace h8 := h8.grown hg (by intro h; injection h; omega)
      replace hB := hB.grown hg hB.size (fun k e => by cases e; omega)
      replace hri := hri2
      replace hR := hR2
      clear hri2 hR2 hg
      refine hK.out _ _ ?_ (fun hH12 => ?_)
      · exact DeS.of hd
      clear hK K
      (try simp only [Act.put, List.setIfInBounds_toArray, List.set_cons_zero, List.set_cons_succ])
      refine wpAnyH_ready (rs := [5]) (by kernel_rfl) (by simp) ?_
      refine AllReadyH.cons (o := { dst := some 27, op := Op.call { callee := Callee.value (Operand.func 79), args := #[Operand.tmp 22, Operand.tmp 26], argTypes := #[59, 30] }, type := 125, pos := "tens.go:153", after := #[{ on := 0, ground := Ground.data }, { on := 4, ground := Ground.data }, { on := 4, ground := Ground.chain }], guard := none }) rfl (fun K hK => ?_) AllReadyH.nil
      go_simp
      refine (HO.out _ _ _ _ _ hri hrb hmc hB).mono ?_
      rintro e W4 ⟨⟨g4, c4, rest, gd, rfl, hC, hDt⟩, hb⟩
      go_wp2_with fail
      replace hd := hd.below hb hd.lt
      replace hT := hT.below hb hT.lt
      replace hR := hR.below hb hR.lt
      replace h8 := h8.below hb h8.lt
      replace hB := hB.trans (hb.mono hB.size)
      clear hb hri hrb hmc
      refine hK.out _ _ ?_ (fun hH13 => ?_)
      · exact DeS.of hd
      clear hK K
      (try simp only [Act.put, List.setIfInBounds_toArray, List.set_cons_zero, List.set_cons_succ])
      refine wpAnyH_take (i := 6) (oi := { dst := some 21, op := Op.move (Operand.tmp 27), type := 125, pos := "tens.go:153", after := #[{ on := 5, ground := Ground.data }], guard := none }) (v := ?v6x14) rfl (by kernel_rfl) (by kernel_rfl) (by kernel_rfl) (fun _ _ _ h => h) (Or.inl ⟨by rfl, ?hy6x14⟩) (by assumption) ?r6x14
      case hy6x14 =>
        intro w hSw
        (try dsimp only at hSw)
        go_simp
        all_goals with_reducible rfl
      (try simp only [Act.put, List.setIfInBounds_toArray, List.set_cons_zero, List.set_cons_succ])
      refine wpAnyH_take (i := 7) (oi := { dst := some 28, op := Op.extract (Operand.tmp 21) 0, type := 70, pos := "tens.go:153", after := #[{ on := 6, ground := Ground.data }], guard := none }) (v := ?v7x14) rfl (by kernel_rfl) (by kernel_rfl) (by kernel_rfl) (fun _ _ _ h => h) (Or.inl ⟨by rfl, ?hy7x14⟩) (by assumption) ?r7x14
      case hy7x14 =>
        intro w hSw
        (try dsimp only at hSw)
        go_simp
        all_goals with_reducible rfl
      (try simp only [Act.put, List.setIfInBounds_toArray, List.set_cons_zero, List.set_cons_succ])
      refine wpAnyH_take (i := 8) (oi := { dst := some 29, op := Op.extract (Operand.tmp 21) 1, type := 32, pos := "tens.go:153", after := #[{ on := 6, ground := Ground.data }, { on := 10, ground := Ground.gcOnly Departure.lateStores }], guard := none }) (v := ?v8x14) rfl (by kernel_rfl) (by kernel_rfl) (by kernel_rfl) (fun _ _ _ h => h) (Or.inl ⟨by rfl, ?hy8x14⟩) (by assumption) ?r8x14
      case hy8x14 =>
        intro w hSw
        (try dsimp only at hSw)
        go_simp
        all_goals with_reducible rfl
      (try simp only [Act.put, List.setIfInBounds_toArray, List.set_cons_zero, List.set_cons_succ])
      have d0 : W4.cell? ⟨W2.heap.size, 0, none⟩ = some (.slice none 0 0) := by rw [h8.cell]; rfl
      have f0 := h8.frozen 0
      have d1 : W4.cell? ⟨W2.heap.size, 1, none⟩ = some (.bool false) := by rw [h8.cell]; rfl
      have f1 := h8.frozen 1
      have d2 : W4.cell? ⟨W2.heap.size, 2, none⟩ = some (.slice none 0 0) := by rw [h8.cell]; rfl
      have f2 := h8.frozen 2
      have hd9 := ((hd.far (p := ⟨W2.heap.size, 0, none⟩) (by simp; omega) (.slice (some ⟨g4, 0, none⟩) l.length c4)).far (p := ⟨W2.heap.size, 1, none⟩) (by simp; omega) (.bool u)).far (p := ⟨W2.heap.size, 2, none⟩) (by simp; omega) (.slice (some ⟨gd, 0, none⟩) ns.length ns.length)
      have hT9 := ((hT.far (p := ⟨W2.heap.size, 0, none⟩) (by simp; omega) (.slice (some ⟨g4, 0, none⟩) l.length c4)).far (p := ⟨W2.heap.size, 1, none⟩) (by simp; omega) (.bool u)).far (p := ⟨W2.heap.size, 2, none⟩) (by simp; omega) (.slice (some ⟨gd, 0, none⟩) ns.length ns.length)
      have hR9 := ((hR.far (p := ⟨W2.heap.size, 0, none⟩) (by simp; omega) (.slice (some ⟨g4, 0, none⟩) l.length c4)).far (p := ⟨W2.heap.size, 1, none⟩) (by simp; omega) (.bool u)).far (p := ⟨W2.heap.size, 2, none⟩) (by simp; omega) (.slice (some ⟨gd, 0, none⟩) ns.length ns.length)
      have ne_hC := hC.apart h8 (by decide)
      have hC9 := ((hC.far (p := ⟨W2.heap.size, 0, none⟩) (ne_hC) (.slice (some ⟨g4, 0, none⟩) l.length c4)).far (p := ⟨W2.heap.size, 1, none⟩) (ne_hC) (.bool u)).far (p := ⟨W2.heap.size, 2, none⟩) (ne_hC) (.slice (some ⟨gd, 0, none⟩) ns.length ns.length)
      have ne_hDt := hDt.apart h8 (by decide)
      have hDt9 := ((hDt.far (p := ⟨W2.heap.size, 0, none⟩) (ne_hDt) (.slice (some ⟨g4, 0, none⟩) l.length c4)).far (p := ⟨W2.heap.size, 1, none⟩) (ne_hDt) (.bool u)).far (p := ⟨W2.heap.size, 2, none⟩) (ne_hDt) (.slice (some ⟨gd, 0, none⟩) ns.length ns.length)
      have h89 := ((h8.set_ 0 (.slice (some ⟨g4, 0, none⟩) l.length c4)).set_ 1 (.bool u)).set_ 2 (.slice (some ⟨gd, 0, none⟩) ns.length ns.length)
      have hB9 := ((hB.setCell (p := ⟨W2.heap.size, 0, none⟩) (by simp; omega) (.slice (some ⟨g4, 0, none⟩) l.length c4)).setCell (p := ⟨W2.heap.size, 1, none⟩) (by simp; omega) (.bool u)).setCell (p := ⟨W2.heap.size, 2, none⟩) (by simp; omega) (.slice (some ⟨gd, 0, none⟩) ns.length ns.length)
      refine wpAnyH_ready (rs := [10]) (by kernel_rfl) (by simp) ?_
      refine AllReadyH.cons (o := { dst := none, op := Op.store 70 (Operand.tmp 8) (Operand.tmp 28), type := 0, pos := "tens.go:153", after := #[{ on := 9, ground := Ground.data }, { on := 7, ground := Ground.data }, { on := 5, ground := Ground.chain }, { on := 0, ground := Ground.phase }, { on := 1, ground := Ground.phase }, { on := 2, ground := Ground.phase }, { on := 3, ground := Ground.phase }, { on := 4, ground := Ground.phase }, { on := 5, ground := Ground.phase }, { on := 6, ground := Ground.phase }, { on := 7, ground := Ground.phase }, { on := 8, ground := Ground.textOnly Departure.lateStores }, { on := 9, ground := Ground.phase }], guard := none }) rfl (fun K hK => ?_) AllReadyH.nil
      go_simp
      replace hd := hd9
      refine hK.out _ _ ?_ (fun hH15 => ?_)
      · exact DeS.of hd
      clear hK K
      (try simp only [Act.put, List.setIfInBounds_toArray, List.set_cons_zero, List.set_cons_succ])
      clear hd hT hR h8 hB d0 d1 d2 f0 f1 f2 hC hDt
      have hWW : ∃ W9, W9 = ((W4.setCell ⟨W2.heap.size, 0, none⟩ (.slice (some ⟨g4, 0, none⟩) l.length c4)).setCell ⟨W2.heap.size, 1, none⟩ (.bool u)).setCell ⟨W2.heap.size, 2, none⟩ (.slice (some ⟨gd, 0, none⟩) ns.length ns.length) := ⟨_, rfl⟩
      obtain ⟨W9, hW9⟩ := hWW
      simp only [← hW9] at hT9 hR9 h89 hB9 hC9 hDt9 hH15 ⊢
      refine wpAnyH_take (i := 11) (oi := { dst := some 9, op := Op.assign (Operand.tmp 29), type := 32, pos := "tens.go:153", after := #[{ on := 8, ground := Ground.data }, { on := 10, ground := Ground.chain }, { on := 0, ground := Ground.phase }, { on := 1, ground := Ground.phase }, { on := 2, ground := Ground.phase }, { on := 3, ground := Ground.phase }, { on := 4, ground := Ground.phase }, { on := 5, ground := Ground.phase }, { on := 6, ground := Ground.phase }, { on := 7, ground := Ground.phase }, { on := 8, ground := Ground.phase }, { on := 9, ground := Ground.phase }, { on := 10, ground := Ground.phase }], guard := none }) (v := ?v11x14) rfl (by kernel_rfl) (by kernel_rfl) (by kernel_rfl) (fun _ _ _ h => h) (Or.inl ⟨by rfl, ?hy11x14⟩) (by assumption) ?r11x14
      case hy11x14 =>
        intro w hSw
        (try dsimp only at hSw)
        go_simp
        all_goals with_reducible rfl
      (try simp only [Act.put, List.setIfInBounds_toArray, List.set_cons_zero, List.set_cons_succ])
      refine wpAnyH_done (by kernel_rfl) ?_ _
      have h8d : Has W9.drew _ _ _ := h89.drewN 1
      have hRd : Has W9.drew _ _ _ := hR9.drewN 1
      have hTd : Has W9.drew w.heap.size 70 [.slice none 0 0, .bool false, .slice none 0 0] := hT9.drewN 1
      have hS0 := TeS.of h8d
      have q00 : W9.cell? ⟨w.heap.size, 0, none⟩ = some (.slice none 0 0) := by rw [hT9.cell]; rfl
      have qf0 := hT9.frozen 0
      have q01 : W9.cell? ⟨w.heap.size, 1, none⟩ = some (.bool false) := by rw [hT9.cell]; rfl
      have qf1 := hT9.frozen 1
      have q02 : W9.cell? ⟨w.heap.size, 2, none⟩ = some (.slice none 0 0) := by rw [hT9.cell]; rfl
      have qf2 := hT9.frozen 2
      have hS9 := hide (TeS.of (((h8d.far (p := ⟨w.heap.size, 0, none⟩) (by simp; omega) (.slice (some ⟨g4, 0, none⟩) l.length c4)).far (p := ⟨w.heap.size, 1, none⟩) (by simp; omega) (.bool u)).far (p := ⟨w.heap.size, 2, none⟩) (by simp; omega) (.slice (some ⟨gd, 0, none⟩) ns.length ns.length)))
      have HZ := hide (((hTd.set_ 0 (.slice (some ⟨g4, 0, none⟩) l.length c4)).set_ 1 (.bool u)).set_ 2 (.slice (some ⟨gd, 0, none⟩) ns.length ns.length))
      have HB := hide (((hB9.drew.setCell (p := ⟨w.heap.size, 0, none⟩) (Nat.le_refl _) (.slice (some ⟨g4, 0, none⟩) l.length c4)).setCell (p := ⟨w.heap.size, 1, none⟩) (Nat.le_refl _) (.bool u)).setCell (p := ⟨w.heap.size, 2, none⟩) (Nat.le_refl _) (.slice (some ⟨gd, 0, none⟩) ns.length ns.length))
      have hC9d : Has W9.drew _ _ _ := hC9.drewN 1
      have ne_HC := hC9.apart hT9 (by decide)
      have HC := hide (((hC9d.far (p := ⟨w.heap.size, 0, none⟩) (ne_HC) (.slice (some ⟨g4, 0, none⟩) l.length c4)).far (p := ⟨w.heap.size, 1, none⟩) (ne_HC) (.bool u)).far (p := ⟨w.heap.size, 2, none⟩) (ne_HC) (.slice (some ⟨gd, 0, none⟩) ns.length ns.length))
      have hDt9d : Has W9.drew _ _ _ := hDt9.drewN 1
      have ne_HDt := hDt9.apart hT9 (by decide)
      have HDt := hide (((hDt9d.far (p := ⟨w.heap.size, 0, none⟩) (ne_HDt) (.slice (some ⟨g4, 0, none⟩) l.length c4)).far (p := ⟨w.heap.size, 1, none⟩) (ne_HDt) (.bool u)).far (p := ⟨w.heap.size, 2, none⟩) (ne_HDt) (.slice (some ⟨gd, 0, none⟩) ns.length ns.length))
      clear h89 hR9 hT9 hB9 hC9 hDt9 hTd hC9d hDt9d h8d hH15 hW9
      go_wp2_with fail
      go_region_held3 (fun W => W.cell? ⟨W2.heap.size, 0, none⟩ = some (.slice (some ⟨g4, 0, none⟩) l.length c4) ∧ W.cell? ⟨W2.heap.size, 1, none⟩ = some (.bool u) ∧ W.cell? ⟨W2.heap.size, 2, none⟩ = some (.slice (some ⟨gd, 0, none⟩) ns.length ns.length))
        (first | exact hS0 | assumption | exact hS9.out)
        (first | (go_at_call 56; refine (rat_c _ _ _ _ _ hRd).mono ?_; rintro e W5 ⟨rfl, rfl⟩))
      go_wp2_with fail
      refine bodyPost_ret (results_tens3 rfl _ _ w.heap.size _ _ _ rfl HZ.out) rfl ?_
      exact ⟨⟨g4, c4, rest, gd, rfl, HC.out, HDt.out⟩, HB.out⟩
  focus
    go_simp
    have hb9 : Below W1.heap.size W1 (W1.alloc (Obj.cells #[.slice none 0 0, .bool false, .slice none 0 0] 70)) := (Below.refl _ _).alloc (Nat.le_refl _) _
    have ht8 := hd.lt
    replace hd := hd.below hb9 hd.lt
    replace hT := hT.below hb9 hT.lt
    replace hR := hR.below hb9 hR.lt
    replace hri := hri.below hb9
    replace hB := hB.trans (hb9.mono hB.size)
    have h8 : Has (W1.alloc (Obj.cells #[.slice none 0 0, .bool false, .slice none 0 0] 70)) W1.heap.size 70 [.slice none 0 0, .bool false, .slice none 0 0] := Has.new W1 _ _
    clear hb9
    refine hK.out _ _ ?_ (fun hH16 => ?_)
    · exact DeS.of hd
    clear hK K
    (try simp only [Act.put, List.setIfInBounds_toArray, List.set_cons_zero, List.set_cons_succ])
    obtain ⟨Wn, hWn⟩ : ∃ Wn, Wn = (W1.alloc (Obj.cells #[.slice none 0 0, .bool false, .slice none 0 0] 70)) := ⟨_, rfl⟩
    simp only [← hWn] at hd hT hR h8 hB hri hH16 ⊢
    clear hWn
    refine wpAnyH_ready (rs := [3]) (by kernel_rfl) (by simp) ?_
    refine AllReadyH.cons (o := { dst := some 25, op := Op.call { callee := Callee.value (Operand.func 80), args := #[Operand.tmp 24], argTypes := #[59] }, type := 3, pos := "tens.go:153", after := #[{ on := 2, ground := Ground.data }], guard := none }) rfl (fun K hK => ?_) AllReadyH.nil
    go_simp
    refine (HBy.out _ _ _ hri hB).mono ?_
    rintro e W2 ⟨rfl, hb⟩
    go_wp2_with fail
    replace hd := hd.below hb hd.lt
    replace hT := hT.below hb hT.lt
    replace hR := hR.below hb hR.lt
    replace h8 := h8.below hb h8.lt
    replace hri := hri.below hb
    replace hB := hB.trans (hb.mono hB.size)
    clear hb
    refine hK.out _ _ ?_ (fun hH17 => ?_)
    · exact DeS.of hd
    clear hK K
    (try simp only [Act.put, List.setIfInBounds_toArray, List.set_cons_zero, List.set_cons_succ])
    refine wpAnyH_ready (rs := [4]) (by kernel_rfl) (by simp) ?_
    refine AllReadyH.cons (o := { dst := some 26, op := Op.call { callee := Callee.value (Operand.func 32), args := #[Operand.tmp 23, Operand.tmp 25], argTypes := #[73, 3] }, type := 30, pos := "tens.go:153", after := #[{ on := 1, ground := Ground.data }, { on := 3, ground := Ground.data }, { on := 3, ground := Ground.chain }], guard := none }) rfl (fun K hK => ?_) AllReadyH.nil
    go_simp
    refine (HP.out _ hB hR).mono ?_
    rintro e W3 ⟨⟨A2, c2, rfl, hrb, hmc⟩, ⟨v2, hR2⟩, hg⟩
    go_wp2_with fail
    have hri2 := hri.grown hg (fun ad e _ e2 => by have := hBl ad e; injection e2; omega)
    replace hd := hd.grown hg (by intro h; injection h; omega)
    replace hT := hT.grown hg (by intro h; injection h; omega)
    replace h8 := h8.grown hg (by intro h; injection h; omega)
    replace hB := hB.grown hg hB.size (fun k e => by cases e; omega)
    replace hri := hri2
    replace hR := hR2
    clear hri2 hR2 hg
    refine hK.out _ _ ?_ (fun hH18 => ?_)
    · exact DeS.of hd
    clear hK K
    (try simp only [Act.put, List.setIfInBounds_toArray, List.set_cons_zero, List.set_cons_succ])
    refine wpAnyH_ready (rs := [5]) (by kernel_rfl) (by simp) ?_
    refine AllReadyH.cons (o := { dst := some 27, op := Op.call { callee := Callee.value (Operand.func 79), args := #[Operand.tmp 22, Operand.tmp 26], argTypes := #[59, 30] }, type := 125, pos := "tens.go:153", after := #[{ on := 0, ground := Ground.data }, { on := 4, ground := Ground.data }, { on := 4, ground := Ground.chain }], guard := none }) rfl (fun K hK => ?_) AllReadyH.nil
    go_simp
    refine (HO.out _ _ _ _ _ hri hrb hmc hB).mono ?_
    rintro e W4 ⟨⟨g4, c4, rest, gd, rfl, hC, hDt⟩, hb⟩
    go_wp2_with fail
    replace hd := hd.below hb hd.lt
    replace hT := hT.below hb hT.lt
    replace hR := hR.below hb hR.lt
    replace h8 := h8.below hb h8.lt
    replace hB := hB.trans (hb.mono hB.size)
    clear hb hri hrb hmc
    refine hK.out _ _ ?_ (fun hH19 => ?_)
    · exact DeS.of hd
    clear hK K
    (try simp only [Act.put, List.setIfInBounds_toArray, List.set_cons_zero, List.set_cons_succ])
    refine wpAnyH_take (i := 6) (oi := { dst := some 21, op := Op.move (Operand.tmp 27), type := 125, pos := "tens.go:153", after := #[{ on := 5, ground := Ground.data }], guard := none }) (v := ?v6x20) rfl (by kernel_rfl) (by kernel_rfl) (by kernel_rfl) (fun _ _ _ h => h) (Or.inl ⟨by rfl, ?hy6x20⟩) (by assumption) ?r6x20
    case hy6x20 =>
      intro w hSw
      (try dsimp only at hSw)
      go_simp
      all_goals with_reducible rfl
    (try simp only [Act.put, List.setIfInBounds_toArray, List.set_cons_zero, List.set_cons_succ])
    refine wpAnyH_take (i := 7) (oi := { dst := some 28, op := Op.extract (Operand.tmp 21) 0, type := 70, pos := "tens.go:153", after := #[{ on := 6, ground := Ground.data }], guard := none }) (v := ?v7x20) rfl (by kernel_rfl) (by kernel_rfl) (by kernel_rfl) (fun _ _ _ h => h) (Or.inl ⟨by rfl, ?hy7x20⟩) (by assumption) ?r7x20
    case hy7x20 =>
      intro w hSw
      (try dsimp only at hSw)
      go_simp
      all_goals with_reducible rfl
    (try simp only [Act.put, List.setIfInBounds_toArray, List.set_cons_zero, List.set_cons_succ])
    refine wpAnyH_take (i := 8) (oi := { dst := some 29, op := Op.extract (Operand.tmp 21) 1, type := 32, pos := "tens.go:153", after := #[{ on := 6, ground := Ground.data }, { on := 10, ground := Ground.gcOnly Departure.lateStores }], guard := none }) (v := ?v8x20) rfl (by kernel_rfl) (by kernel_rfl) (by kernel_rfl) (fun _ _ _ h => h) (Or.inl ⟨by rfl, ?hy8x20⟩) (by assumption) ?r8x20
    case hy8x20 =>
      intro w hSw
      (try dsimp only at hSw)
      go_simp
      all_goals with_reducible rfl
    (try simp only [Act.put, List.setIfInBounds_toArray, List.set_cons_zero, List.set_cons_succ])
    have d0 : W4.cell? ⟨W1.heap.size, 0, none⟩ = some (.slice none 0 0) := by rw [h8.cell]; rfl
    have f0 := h8.frozen 0
    have d1 : W4.cell? ⟨W1.heap.size, 1, none⟩ = some (.bool false) := by rw [h8.cell]; rfl
    have f1 := h8.frozen 1
    have d2 : W4.cell? ⟨W1.heap.size, 2, none⟩ = some (.slice none 0 0) := by rw [h8.cell]; rfl
    have f2 := h8.frozen 2
    have hd9 := ((hd.far (p := ⟨W1.heap.size, 0, none⟩) (by simp; omega) (.slice (some ⟨g4, 0, none⟩) l.length c4)).far (p := ⟨W1.heap.size, 1, none⟩) (by simp; omega) (.bool u)).far (p := ⟨W1.heap.size, 2, none⟩) (by simp; omega) (.slice (some ⟨gd, 0, none⟩) ns.length ns.length)
    have hT9 := ((hT.far (p := ⟨W1.heap.size, 0, none⟩) (by simp; omega) (.slice (some ⟨g4, 0, none⟩) l.length c4)).far (p := ⟨W1.heap.size, 1, none⟩) (by simp; omega) (.bool u)).far (p := ⟨W1.heap.size, 2, none⟩) (by simp; omega) (.slice (some ⟨gd, 0, none⟩) ns.length ns.length)
    have hR9 := ((hR.far (p := ⟨W1.heap.size, 0, none⟩) (by simp; omega) (.slice (some ⟨g4, 0, none⟩) l.length c4)).far (p := ⟨W1.heap.size, 1, none⟩) (by simp; omega) (.bool u)).far (p := ⟨W1.heap.size, 2, none⟩) (by simp; omega) (.slice (some ⟨gd, 0, none⟩) ns.length ns.length)
    have ne_hC := hC.apart h8 (by decide)
    have hC9 := ((hC.far (p := ⟨W1.heap.size, 0, none⟩) (ne_hC) (.slice (some ⟨g4, 0, none⟩) l.length c4)).far (p := ⟨W1.heap.size, 1, none⟩) (ne_hC) (.bool u)).far (p := ⟨W1.heap.size, 2, none⟩) (ne_hC) (.slice (some ⟨gd, 0, none⟩) ns.length ns.length)
    have ne_hDt := hDt.apart h8 (by decide)
    have hDt9 := ((hDt.far (p := ⟨W1.heap.size, 0, none⟩) (ne_hDt) (.slice (some ⟨g4, 0, none⟩) l.length c4)).far (p := ⟨W1.heap.size, 1, none⟩) (ne_hDt) (.bool u)).far (p := ⟨W1.heap.size, 2, none⟩) (ne_hDt) (.slice (some ⟨gd, 0, none⟩) ns.length ns.length)
    have h89 := ((h8.set_ 0 (.slice (some ⟨g4, 0, none⟩) l.length c4)).set_ 1 (.bool u)).set_ 2 (.slice (some ⟨gd, 0, none⟩) ns.length ns.length)
    have hB9 := ((hB.setCell (p := ⟨W1.heap.size, 0, none⟩) (by simp; omega) (.slice (some ⟨g4, 0, none⟩) l.length c4)).setCell (p := ⟨W1.heap.size, 1, none⟩) (by simp; omega) (.bool u)).setCell (p := ⟨W1.heap.size, 2, none⟩) (by simp; omega) (.slice (some ⟨gd, 0, none⟩) ns.length ns.length)
    refine wpAnyH_ready (rs := [10]) (by kernel_rfl) (by simp) ?_
    refine AllReadyH.cons (o := { dst := none, op := Op.store 70 (Operand.tmp 8) (Operand.tmp 28), type := 0, pos := "tens.go:153", after := #[{ on := 9, ground := Ground.data }, { on := 7, ground := Ground.data }, { on := 5, ground := Ground.chain }, { on := 0, ground := Ground.phase }, { on := 1, ground := Ground.phase }, { on := 2, ground := Ground.phase }, { on := 3, ground := Ground.phase }, { on := 4, ground := Ground.phase }, { on := 5, ground := Ground.phase }, { on := 6, ground := Ground.phase }, { on := 7, ground := Ground.phase }, { on := 8, ground := Ground.textOnly Departure.lateStores }, { on := 9, ground := Ground.phase }], guard := none }) rfl (fun K hK => ?_) AllReadyH.nil
    go_simp
    replace hd := hd9
    refine hK.out _ _ ?_ (fun hH21 => ?_)
    · exact DeS.of hd
    clear hK K
    (try simp only [Act.put, List.setIfInBounds_toArray, List.set_cons_zero, List.set_cons_succ])
    clear hd hT hR h8 hB d0 d1 d2 f0 f1 f2 hC hDt
    have hWW : ∃ W9, W9 = ((W4.setCell ⟨W1.heap.size, 0, none⟩ (.slice (some ⟨g4, 0, none⟩) l.length c4)).setCell ⟨W1.heap.size, 1, none⟩ (.bool u)).setCell ⟨W1.heap.size, 2, none⟩ (.slice (some ⟨gd, 0, none⟩) ns.length ns.length) := ⟨_, rfl⟩
    obtain ⟨W9, hW9⟩ := hWW
    simp only [← hW9] at hT9 hR9 h89 hB9 hC9 hDt9 hH21 ⊢
    refine wpAnyH_take (i := 11) (oi := { dst := some 9, op := Op.assign (Operand.tmp 29), type := 32, pos := "tens.go:153", after := #[{ on := 8, ground := Ground.data }, { on := 10, ground := Ground.chain }, { on := 0, ground := Ground.phase }, { on := 1, ground := Ground.phase }, { on := 2, ground := Ground.phase }, { on := 3, ground := Ground.phase }, { on := 4, ground := Ground.phase }, { on := 5, ground := Ground.phase }, { on := 6, ground := Ground.phase }, { on := 7, ground := Ground.phase }, { on := 8, ground := Ground.phase }, { on := 9, ground := Ground.phase }, { on := 10, ground := Ground.phase }], guard := none }) (v := ?v11x20) rfl (by kernel_rfl) (by kernel_rfl) (by kernel_rfl) (fun _ _ _ h => h) (Or.inl ⟨by rfl, ?hy11x20⟩) (by assumption) ?r11x20
    case hy11x20 =>
      intro w hSw
      (try dsimp only at hSw)
      go_simp
      all_goals with_reducible rfl
    (try simp only [Act.put, List.setIfInBounds_toArray, List.set_cons_zero, List.set_cons_succ])
    refine wpAnyH_done (by kernel_rfl) ?_ _
    have h8d : Has W9.drew _ _ _ := h89.drewN 1
    have hRd : Has W9.drew _ _ _ := hR9.drewN 1
    have hTd : Has W9.drew w.heap.size 70 [.slice none 0 0, .bool false, .slice none 0 0] := hT9.drewN 1
    have hS0 := TeS.of h8d
    have q00 : W9.cell? ⟨w.heap.size, 0, none⟩ = some (.slice none 0 0) := by rw [hT9.cell]; rfl
    have qf0 := hT9.frozen 0
    have q01 : W9.cell? ⟨w.heap.size, 1, none⟩ = some (.bool false) := by rw [hT9.cell]; rfl
    have qf1 := hT9.frozen 1
    have q02 : W9.cell? ⟨w.heap.size, 2, none⟩ = some (.slice none 0 0) := by rw [hT9.cell]; rfl
    have qf2 := hT9.frozen 2
    have hS9 := hide (TeS.of (((h8d.far (p := ⟨w.heap.size, 0, none⟩) (by simp; omega) (.slice (some ⟨g4, 0, none⟩) l.length c4)).far (p := ⟨w.heap.size, 1, none⟩) (by simp; omega) (.bool u)).far (p := ⟨w.heap.size, 2, none⟩) (by simp; omega) (.slice (some ⟨gd, 0, none⟩) ns.length ns.length)))
    have HZ := hide (((hTd.set_ 0 (.slice (some ⟨g4, 0, none⟩) l.length c4)).set_ 1 (.bool u)).set_ 2 (.slice (some ⟨gd, 0, none⟩) ns.length ns.length))
    have HB := hide (((hB9.drew.setCell (p := ⟨w.heap.size, 0, none⟩) (Nat.le_refl _) (.slice (some ⟨g4, 0, none⟩) l.length c4)).setCell (p := ⟨w.heap.size, 1, none⟩) (Nat.le_refl _) (.bool u)).setCell (p := ⟨w.heap.size, 2, none⟩) (Nat.le_refl _) (.slice (some ⟨gd, 0, none⟩) ns.length ns.length))
    have hC9d : Has W9.drew _ _ _ := hC9.drewN 1
    have ne_HC := hC9.apart hT9 (by decide)
    have HC := hide (((hC9d.far (p := ⟨w.heap.size, 0, none⟩) (ne_HC) (.slice (some ⟨g4, 0, none⟩) l.length c4)).far (p := ⟨w.heap.size, 1, none⟩) (ne_HC) (.bool u)).far (p := ⟨w.heap.size, 2, none⟩) (ne_HC) (.slice (some ⟨gd, 0, none⟩) ns.length ns.length))
    have hDt9d : Has W9.drew _ _ _ := hDt9.drewN 1
    have ne_HDt := hDt9.apart hT9 (by decide)
    have HDt := hide (((hDt9d.far (p := ⟨w.heap.size, 0, none⟩) (ne_HDt) (.slice (some ⟨g4, 0, none⟩) l.length c4)).far (p := ⟨w.heap.size, 1, none⟩) (ne_HDt) (.bool u)).far (p := ⟨w.heap.size, 2, none⟩) (ne_HDt) (.slice (some ⟨gd, 0, none⟩) ns.length ns.length))
    clear h89 hR9 hT9 hB9 hC9 hDt9 hTd hC9d hDt9d h8d hH21 hW9
    go_wp2_with fail
    go_region_held3 (fun W => W.cell? ⟨W1.heap.size, 0, none⟩ = some (.slice (some ⟨g4, 0, none⟩) l.length c4) ∧ W.cell? ⟨W1.heap.size, 1, none⟩ = some (.bool u) ∧ W.cell? ⟨W1.heap.size, 2, none⟩ = some (.slice (some ⟨gd, 0, none⟩) ns.length ns.length))
      (first | exact hS0 | assumption | exact hS9.out)
      (first | (go_at_call 56; refine (rat_c _ _ _ _ _ hRd).mono ?_; rintro e W5 ⟨rfl, rfl⟩))
    go_wp2_with fail
    refine bodyPost_ret (results_tens3 rfl _ _ w.heap.size _ _ _ rfl HZ.out) rfl ?_
    exact ⟨⟨g4, c4, rest, gd, rfl, HC.out, HDt.out⟩, HB.out⟩
end Go.Proofs.YthjnkaikjjjceaaDoor
