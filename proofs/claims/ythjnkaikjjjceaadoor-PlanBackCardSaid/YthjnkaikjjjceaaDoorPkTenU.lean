/-
  Package pack's Reader: Desc, walked. By an AI agent. No person has read it.
-/
import Derived.Test.YthjnkaikjjjceaaDoorPkTenQ
import Derived.Deep.RegionHeld3
namespace Go.Proofs.YthjnkaikjjjceaaDoor
open Go.RowKit
theorem grown_one (w : World) (p : Addr) (v : Value) : w.grownBy (w.setCell p v) (some p.block) := grown_set (World.grownBy.refl w _) p rfl v
theorem grown_setnew {w w' : World} {row : Option Nat} (h : w.grownBy w' row) (p : Addr) (hp : w.heap.size ≤ p.block) (v : Value) : w.grownBy (w'.setCell p v) row :=
  h.andThen (grown_one w' p v) (fun j hj => by cases hj; exact .inl hp)
/-- How far the dimensions have come. -/
structure DInv (w : World) (g Bd : Nat) (u : Bool) (St : List Int → World → Prop) (i : Nat) (W : World) : Prop where mk ::
  ex : ∃ (l : List Int) (sv : Value), l.length = i ∧ (∀ z ∈ l, (Lit.int .i64 z).wf = true) ∧ W.ownsRow w.heap.size 3 1 sv i (i64s l) ∧ Has W Bd 59 [sv, .bool u] ∧ Has W w.heap.size 59 [.slice none 0 0, .bool false] ∧ St l W ∧ w.grownBy W (some g) ∧ sv.ownBlock ≠ some Bd ∧ sv.ownBlock ≠ some w.heap.size ∧ sv.ownBlock ≠ some g

set_option maxRecDepth 100000 in
set_option maxHeartbeats 4000000 in
theorem rdrdesc_of (g h : Nat) (ak : Addr) (St : List Int → World → Prop) (w : World) (hg : g < w.heap.size) (hh : h ≤ 15) (hk : ErrIs w 0 ak)
    (hSt : ∀ l W W' row, St l W → W.grownBy W' row → (∀ k, row = some k → w.heap.size ≤ k) → St l W')
    (hC : ∀ W, w.grownBy W none → Calls Tryd.prog 36 #[.pointer (some ⟨g, 0, none⟩), .int .i64 1, .int .i64 15, errv ak] W fun e w' => e = .returned (.int .i64 (h : Int)) ∧ St [] w' ∧ W.grownBy w' (some g))
    (hN : ∀ l W, l.length < h % 8 → St l W → Calls Tryd.prog 78 #[.pointer (some ⟨g, 0, none⟩), .int .i64 2] W fun e w' => ∃ z, e = .returned (.int .i64 z) ∧ (Lit.int .i64 z).wf = true ∧ St (l ++ [z]) w' ∧ W.grownBy w' (some g)) :
    Calls Tryd.prog 37 #[.pointer (some ⟨g, 0, none⟩)] w fun e w' => ∃ (l : List Int) (sv : Value), e = .returned (.agg #[sv, .bool (decide (8 ≤ h))]) ∧ l.length = h % 8 ∧ (∀ z ∈ l, (Lit.int .i64 z).wf = true) ∧ w'.ownsRow w.heap.size 3 1 sv (h % 8) (i64s l) ∧ St l w' ∧ w.grownBy w' (some g) := by
  have HN := hide hN
  have HSt := hide hSt
  have hb0 := World.grownBy_alloc w (Obj.cells #[.slice none 0 0, .bool false] 59) none
  have HC := hide (hC _ hb0)
  have hR0 : Has (w.alloc (Obj.cells #[.slice none 0 0, .bool false] 59)) w.heap.size 59 [.slice none 0 0, .bool false] := Has.new w _ _
  have hkc : (w.alloc (Obj.cells #[.slice none 0 0, .bool false] 59)).cell? ⟨0, 0, none⟩ = some (errv ak) := (hk.below ((Below.refl _ w).alloc (Nat.le_refl _) _)).1
  have hG0 := World.grownBy_alloc w (Obj.cells #[.slice none 0 0, .bool false] 59) (some g)
  have HR0 := hide hR0
  have HG0 := hide hG0
  obtain ⟨u, hu⟩ : ∃ u, Hid (decide (8 ≤ h) = u) := ⟨_, hide rfl⟩
  have hu8 : decide ((8 : Int) ≤ h) = u := by rw [← hu.out, decide_eq_decide]; omega
  obtain ⟨n, hn⟩ : ∃ n, Hid (h % 8 = n) := ⟨_, hide rfl⟩
  have hrem : (h : Int).tmod 8 = (n : Int) := by rw [Int.tmod_eq_emod_of_nonneg (by omega), ← hn.out]; omega
  have hn8 : n < 8 := by rw [← hn.out]; omega
  rw [hn.out] at HN ⊢
  rw [hu.out]
  clear hN hSt hb0 hC hR0 hk hG0 hh
  go_enter Tryd.func37, Tryd.ntmps37
  go_wp2_with fail
  refine HC.out.mono ?_
  rintro e w1 ⟨rfl, hst, hg1⟩
  have hR1 := HR0.out.grown hg1 (by intro h; have h := Option.some.inj h; omega)
  have hG1 := HG0.out.trans hg1
  have hs1 := hG1.size
  have hlt1 := hR1.lt
  have hd1 : Has (w1.alloc (Obj.cells #[.slice none 0 0, .bool u] 59)) w1.heap.size 59 [.slice none 0 0, .bool u] := Has.new w1 _ _
  have HI := hide (DInv.mk (w := w) (g := g) (Bd := w1.heap.size) (u := u) (St := St) (i := 0) (W := w1.alloc (Obj.cells #[.slice none 0 0, .bool u] 59)) ⟨[], .slice none 0 0, rfl, (fun z hz => by simp at hz), World.ownsRow_nil _ _ _ _, hd1, hR1.alloc _, HSt.out _ _ _ none hst (World.grownBy_alloc w1 _ _) (fun k hk => by cases hk), hG1.trans (World.grownBy_alloc w1 _ _), by simp [Value.ownBlock], by simp [Value.ownBlock], by simp [Value.ownBlock]⟩)
  have hBd : w.heap.size ≤ (⟨w1.heap.size, 0, none⟩ : Addr).block := hs1
  have hBn : w1.heap.size ≠ w.heap.size := by omega
  have hBg : w1.heap.size ≠ g := by omega
  have hwg : w.heap.size ≠ g := by omega
  clear hst hg1 hR1 hG1 hd1 HC HR0 HG0 hkc hs1 hlt1
  go_wp2_with fail
  generalize w1.alloc (Obj.cells #[.slice none 0 0, .bool u] 59) = W1 at *
  generalize w1.heap.size = Bd at *
  go_loopw [13] (fun k wr => ∃ i : Nat, i ≤ n ∧ k = .int .i64 i ∧ Hid (DInv w g Bd u St i wr)) (fun k _ => n - (intOf k).toNat)
  case atStart => exact ⟨0, Nat.zero_le _, rfl, HI⟩
  case round =>
    clear HI
    obtain ⟨i, hi, rfl, hI⟩ := hrel
    by_cases hlt : i < n
    · obtain ⟨l, sv, hli, hlw, hrow0, hd0, hR0, hst0, hG0, hdo', hRo', hgo'⟩ := hI.out.ex
      have hin : (i : Int) < n := by omega
      have hadd : IntKind.i64.wrap ((i : Int) + 1) = (i : Int) + 1 := by rw [IntKind.wrap_i64]; omega
      have hdg : some Bd ≠ some g := by intro h; exact hBg (Option.some.inj h)
      have hRg : some w.heap.size ≠ some g := by intro h; exact hwg (Option.some.inj h)
      have hrg : sv.ownBlock = none ∨ sv.ownBlock ≠ some g := .inr hgo'
      have hdo := Ne.symm hdo'
      have hRo := Ne.symm hRo'
      have hgo := Ne.symm hgo'
      have hll : l.length < n := by omega
      clear hI hdo' hRo' hgo'
      have hd : Has wr.drew Bd 59 [sv, .bool u] := hd0.drewN 1
      have hR : Has wr.drew w.heap.size 59 [.slice none 0 0, .bool false] := hR0.drewN 1
      have hG : w.grownBy wr.drew (some g) := grown_drew hG0
      have hst : St l wr.drew := HSt.out _ _ _ none hst0 (grown_drew (World.grownBy.refl wr none)) (fun k hk => by cases hk)
      have hrow : wr.drew.ownsRow w.heap.size 3 1 sv i (i64s l) := hrow0.kept (grown_drew (World.grownBy.refl wr none)) (by cases h : sv.ownBlock <;> simp)
      have c0 : wr.drew.cell? ⟨Bd, 0, none⟩ = some sv := by rw [hd.cell]; rfl
      clear hd0 hR0 hG0 hst0 hrow0
      go_wp2_with fail
      refine wp_region_held_drew (S := fun _ => True) (by kernel_rfl) trivial (fun hH0 => ?_)
      refine wpAnyH_take (i := 0) (oi := { dst := some 15, op := Op.fieldAddr 59 (Operand.tmp 4) 0, type := 0, pos := "pack.go:122", after := #[], guard := none }) (v := ?v0) rfl (by kernel_rfl) (by kernel_rfl) (by kernel_rfl) (fun _ _ _ h => h) (Or.inl ⟨by rfl, ?hy0⟩) (by assumption) ?r0
      case hy0 =>
        intro w hSw
        (try dsimp only at hSw)
        go_simp
        all_goals with_reducible rfl
      (try simp only [Act.put, List.setIfInBounds_toArray, List.set_cons_zero, List.set_cons_succ])
      refine wpAnyH_take (i := 2) (oi := { dst := some 17, op := Op.move (Operand.tmp 0), type := 73, pos := "pack.go:122", after := #[], guard := none }) (v := ?v2) rfl (by kernel_rfl) (by kernel_rfl) (by kernel_rfl) (fun _ _ _ h => h) (Or.inl ⟨by rfl, ?hy2⟩) (by assumption) ?r2
      case hy2 =>
        intro w hSw
        (try dsimp only at hSw)
        go_simp
        all_goals with_reducible rfl
      (try simp only [Act.put, List.setIfInBounds_toArray, List.set_cons_zero, List.set_cons_succ])
      refine wpAnyH_ready (rs := [1, 3]) (by kernel_rfl) (by simp) ?_
      refine AllReadyH.cons (o := { dst := some 16, op := Op.load 46 (Operand.tmp 15), type := 46, pos := "pack.go:122", after := #[{ on := 0, ground := Ground.data }], guard := none }) rfl (fun K hK => ?_) (AllReadyH.cons (o := { dst := some 18, op := Op.call { callee := Callee.value (Operand.func 78), args := #[Operand.tmp 17, Operand.const (Value.int IntKind.i64 2)], argTypes := #[73, 3] }, type := 3, pos := "pack.go:122", after := #[{ on := 2, ground := Ground.data }], guard := none }) rfl (fun K hK => ?_) AllReadyH.nil)
      focus
        go_simp
        refine hK.out _ _ trivial (fun _ => ?_)
        clear hK K
        (try simp only [Act.put, List.setIfInBounds_toArray, List.set_cons_zero, List.set_cons_succ])
        refine wpAnyH_ready (rs := [3]) (by kernel_rfl) (by simp) ?_
        refine AllReadyH.cons (o := { dst := some 18, op := Op.call { callee := Callee.value (Operand.func 78), args := #[Operand.tmp 17, Operand.const (Value.int IntKind.i64 2)], argTypes := #[73, 3] }, type := 3, pos := "pack.go:122", after := #[{ on := 2, ground := Ground.data }], guard := none }) rfl (fun K hK => ?_) AllReadyH.nil
        go_simp
        refine (HN.out _ _ hll hst).mono ?_
        rintro e W2 ⟨z, rfl, hzw, hst2, hg2⟩
        go_wp2_with fail
        replace hst := hst2
        clear hst2
        replace hd := hd.grown hg2 hdg
        replace hR := hR.grown hg2 hRg
        replace hrow := hrow.kept hg2 hrg
        replace hG := hG.trans hg2
        clear hg2
        have c0 : W2.cell? ⟨Bd, 0, none⟩ = some sv := by rw [hd.cell]; rfl
        refine hK.out _ _ trivial (fun _ => ?_)
        clear hK K
        (try simp only [Act.put, List.setIfInBounds_toArray, List.set_cons_zero, List.set_cons_succ])
        refine wpAnyH_ready (rs := [4]) (by kernel_rfl) (by simp) ?_
        refine AllReadyH.cons (o := { dst := some 19, op := Op.buildSlice 46 1 #[(0, Operand.tmp 18)], type := 46, pos := "pack.go:122", after := #[{ on := 3, ground := Ground.data }], guard := none }) rfl (fun K hK => ?_) AllReadyH.nil
        go_simp
        replace hd := hd.alloc (Obj.cells #[.int .i64 z] 3)
        replace hR := hR.alloc (Obj.cells #[.int .i64 z] 3)
        replace hst := HSt.out _ _ _ none hst (World.grownBy_alloc W2 (Obj.cells #[.int .i64 z] 3) none) (fun k hk => by cases hk)
        replace hrow := hrow.alloc (Obj.cells #[.int .i64 z] 3)
        replace hG := hG.trans (World.grownBy_alloc W2 (Obj.cells #[.int .i64 z] 3) (some g))
        have hz1 := (Has.new W2 3 (i64s [z])).ri (zs := [z]) (fun y hy => by simp at hy; rw [hy]; exact hzw)
        have hsz4 : (W2.alloc (Obj.cells #[.int .i64 z] 3)).heap.size = W2.heap.size + 1 := by simp
        have c0 : (W2.alloc (Obj.cells #[.int .i64 z] 3)).cell? ⟨Bd, 0, none⟩ = some sv := by rw [hd.cell]; rfl
        refine hK.out _ _ trivial (fun _ => ?_)
        clear hK K
        (try simp only [Act.put, List.setIfInBounds_toArray, List.set_cons_zero, List.set_cons_succ])
        refine wpAnyH_ready (rs := [5]) (by kernel_rfl) (by simp) ?_
        refine AllReadyH.cons (o := { dst := some 20, op := Op.call { callee := Callee.builtin Builtin.append, args := #[Operand.tmp 16, Operand.tmp 19], argTypes := #[46, 46] }, type := 46, pos := "pack.go:122", after := #[{ on := 1, ground := Ground.data }, { on := 4, ground := Ground.data }, { on := 3, ground := Ground.chain }], guard := none }) rfl (fun K hK => ?_) AllReadyH.nil
        have hsz0 := hG.size
        have hq1 := hd.lt
        have hq2 := hR.lt
        refine step_append_is rfl (.tmp 16) (.tmp 19) rfl w.heap.size sv i (i64s l) rfl hrow (some ⟨W2.heap.size, 0, none⟩) 1 1 [z] rfl (hide rfl) hz1 (by omega) hsz0 fun v' W3 a1 a2 a3 => ?_
        have a4 : ∀ k, sv.ownBlock = some k → w.heap.size ≤ k := fun k hk => (hrow.lt k hk).1
        replace hst := HSt.out _ _ _ _ hst a2 a4
        replace hd := hd.grown a2 hdo
        replace hR := hR.grown a2 hRo
        replace hG := hG.andThen a2 (fun j hj => .inl (a4 j hj))
        have hrow2 : W3.ownsRow w.heap.size 3 1 v' (i + 1) (i64s (l ++ [z])) := by simpa [i64s] using a1
        have hvo : v'.ownBlock ≠ some Bd ∧ v'.ownBlock ≠ some w.heap.size ∧ v'.ownBlock ≠ some g := by rcases a3 with h | h <;> rw [h] <;> refine ⟨?_, ?_, ?_⟩ <;> first | exact Ne.symm hdo | exact Ne.symm hRo | exact Ne.symm hgo | (intro h2; have h2 := Option.some.inj h2; omega)
        obtain ⟨g4, c4, r4, rfl, -, -, -, -, -⟩ := own_has hrow2 (by rintro rfl; obtain ⟨-, h⟩ := hrow2; rcases h with ⟨-, h⟩ | ⟨g, cap, cur, h, -⟩ <;> first | omega | cases h)
        clear hrow a1 a2 a3 a4 c0 hq1 hq2 hsz0
        refine hK.out _ _ trivial (fun _ => ?_)
        clear hK K
        (try simp only [Act.put, List.setIfInBounds_toArray, List.set_cons_zero, List.set_cons_succ])
        refine wpAnyH_take (i := 6) (oi := { dst := some 21, op := Op.fieldAddr 59 (Operand.tmp 4) 0, type := 0, pos := "pack.go:122", after := #[{ on := 0, ground := Ground.phase }, { on := 1, ground := Ground.phase }, { on := 2, ground := Ground.phase }, { on := 3, ground := Ground.phase }, { on := 4, ground := Ground.phase }, { on := 5, ground := Ground.phase }], guard := none }) (v := ?v6x1) rfl (by kernel_rfl) (by kernel_rfl) (by kernel_rfl) (fun _ _ _ h => h) (Or.inl ⟨by rfl, ?hy6x1⟩) (by assumption) ?r6x1
        case hy6x1 =>
          intro w hSw
          (try dsimp only at hSw)
          go_simp
          all_goals with_reducible rfl
        (try simp only [Act.put, List.setIfInBounds_toArray, List.set_cons_zero, List.set_cons_succ])
        have d0 : W3.cell? ⟨Bd, 0, none⟩ = some sv := by rw [hd.cell]; rfl
        have f0 := hd.frozen 0
        refine wpAnyH_ready (rs := [7]) (by kernel_rfl) (by simp) ?_
        refine AllReadyH.cons (o := { dst := none, op := Op.store 46 (Operand.tmp 21) (Operand.tmp 20), type := 0, pos := "pack.go:122", after := #[{ on := 6, ground := Ground.data }, { on := 5, ground := Ground.data }, { on := 5, ground := Ground.chain }, { on := 0, ground := Ground.phase }, { on := 1, ground := Ground.phase }, { on := 2, ground := Ground.phase }, { on := 3, ground := Ground.phase }, { on := 4, ground := Ground.phase }, { on := 5, ground := Ground.phase }], guard := none }) rfl (fun K hK => ?_) AllReadyH.nil
        go_simp
        have hgs := grown_setnew hG ⟨Bd, 0, none⟩ hBd (.slice (some ⟨g4, 0, none⟩) (i + 1) c4)
        have hd3 := hd.set_ 0 (.slice (some ⟨g4, 0, none⟩) (i + 1) c4)
        have hR3 := hR.far (p := ⟨Bd, 0, none⟩) (Ne.symm hBn) (.slice (some ⟨g4, 0, none⟩) (i + 1) c4)
        have hst3 := HSt.out _ _ _ _ hst (grown_one W3 ⟨Bd, 0, none⟩ (.slice (some ⟨g4, 0, none⟩) (i + 1) c4)) (fun k hk => by cases hk; exact hBd)
        have hrow3 := hrow2.kept (grown_one W3 ⟨Bd, 0, none⟩ (.slice (some ⟨g4, 0, none⟩) (i + 1) c4)) (.inr hvo.1)
        clear d0 f0
        refine hK.out _ _ trivial (fun _ => ?_)
        clear hK K
        (try simp only [Act.put, List.setIfInBounds_toArray, List.set_cons_zero, List.set_cons_succ])
        refine wpAnyH_done (by kernel_rfl) ?_ _
        have HI2 := hide (DInv.mk ⟨l ++ [z], _, by simp [hli], (fun y hy => (List.mem_append.1 hy).elim (hlw y) (fun h => by simp at h; rw [h]; exact hzw)), hrow3, hd3, hR3, hst3, hgs, hvo.1, hvo.2.1, hvo.2.2⟩)
        clear hst3 hrow3 hd3 hR3 hgs hst hd hR hG hrow2 hvo hz1 hzw
        go_wp2_with fail
        go_roundw
        case rel => exact ⟨i + 1, by omega, by go_num, HI2⟩
        case measure => simp [intOf]; omega
      focus
        go_simp
        refine (HN.out _ _ hll hst).mono ?_
        rintro e W2 ⟨z, rfl, hzw, hst2, hg2⟩
        go_wp2_with fail
        replace hst := hst2
        clear hst2
        replace hd := hd.grown hg2 hdg
        replace hR := hR.grown hg2 hRg
        replace hrow := hrow.kept hg2 hrg
        replace hG := hG.trans hg2
        clear hg2
        have c0 : W2.cell? ⟨Bd, 0, none⟩ = some sv := by rw [hd.cell]; rfl
        refine hK.out _ _ trivial (fun _ => ?_)
        clear hK K
        (try simp only [Act.put, List.setIfInBounds_toArray, List.set_cons_zero, List.set_cons_succ])
        refine wpAnyH_ready (rs := [1, 4]) (by kernel_rfl) (by simp) ?_
        refine AllReadyH.cons (o := { dst := some 16, op := Op.load 46 (Operand.tmp 15), type := 46, pos := "pack.go:122", after := #[{ on := 0, ground := Ground.data }], guard := none }) rfl (fun K hK => ?_) (AllReadyH.cons (o := { dst := some 19, op := Op.buildSlice 46 1 #[(0, Operand.tmp 18)], type := 46, pos := "pack.go:122", after := #[{ on := 3, ground := Ground.data }], guard := none }) rfl (fun K hK => ?_) AllReadyH.nil)
        focus
          go_simp
          refine hK.out _ _ trivial (fun _ => ?_)
          clear hK K
          (try simp only [Act.put, List.setIfInBounds_toArray, List.set_cons_zero, List.set_cons_succ])
          refine wpAnyH_ready (rs := [4]) (by kernel_rfl) (by simp) ?_
          refine AllReadyH.cons (o := { dst := some 19, op := Op.buildSlice 46 1 #[(0, Operand.tmp 18)], type := 46, pos := "pack.go:122", after := #[{ on := 3, ground := Ground.data }], guard := none }) rfl (fun K hK => ?_) AllReadyH.nil
          go_simp
          replace hd := hd.alloc (Obj.cells #[.int .i64 z] 3)
          replace hR := hR.alloc (Obj.cells #[.int .i64 z] 3)
          replace hst := HSt.out _ _ _ none hst (World.grownBy_alloc W2 (Obj.cells #[.int .i64 z] 3) none) (fun k hk => by cases hk)
          replace hrow := hrow.alloc (Obj.cells #[.int .i64 z] 3)
          replace hG := hG.trans (World.grownBy_alloc W2 (Obj.cells #[.int .i64 z] 3) (some g))
          have hz1 := (Has.new W2 3 (i64s [z])).ri (zs := [z]) (fun y hy => by simp at hy; rw [hy]; exact hzw)
          have hsz4 : (W2.alloc (Obj.cells #[.int .i64 z] 3)).heap.size = W2.heap.size + 1 := by simp
          have c0 : (W2.alloc (Obj.cells #[.int .i64 z] 3)).cell? ⟨Bd, 0, none⟩ = some sv := by rw [hd.cell]; rfl
          refine hK.out _ _ trivial (fun _ => ?_)
          clear hK K
          (try simp only [Act.put, List.setIfInBounds_toArray, List.set_cons_zero, List.set_cons_succ])
          refine wpAnyH_ready (rs := [5]) (by kernel_rfl) (by simp) ?_
          refine AllReadyH.cons (o := { dst := some 20, op := Op.call { callee := Callee.builtin Builtin.append, args := #[Operand.tmp 16, Operand.tmp 19], argTypes := #[46, 46] }, type := 46, pos := "pack.go:122", after := #[{ on := 1, ground := Ground.data }, { on := 4, ground := Ground.data }, { on := 3, ground := Ground.chain }], guard := none }) rfl (fun K hK => ?_) AllReadyH.nil
          have hsz0 := hG.size
          have hq1 := hd.lt
          have hq2 := hR.lt
          refine step_append_is rfl (.tmp 16) (.tmp 19) rfl w.heap.size sv i (i64s l) rfl hrow (some ⟨W2.heap.size, 0, none⟩) 1 1 [z] rfl (hide rfl) hz1 (by omega) hsz0 fun v' W3 a1 a2 a3 => ?_
          have a4 : ∀ k, sv.ownBlock = some k → w.heap.size ≤ k := fun k hk => (hrow.lt k hk).1
          replace hst := HSt.out _ _ _ _ hst a2 a4
          replace hd := hd.grown a2 hdo
          replace hR := hR.grown a2 hRo
          replace hG := hG.andThen a2 (fun j hj => .inl (a4 j hj))
          have hrow2 : W3.ownsRow w.heap.size 3 1 v' (i + 1) (i64s (l ++ [z])) := by simpa [i64s] using a1
          have hvo : v'.ownBlock ≠ some Bd ∧ v'.ownBlock ≠ some w.heap.size ∧ v'.ownBlock ≠ some g := by rcases a3 with h | h <;> rw [h] <;> refine ⟨?_, ?_, ?_⟩ <;> first | exact Ne.symm hdo | exact Ne.symm hRo | exact Ne.symm hgo | (intro h2; have h2 := Option.some.inj h2; omega)
          obtain ⟨g4, c4, r4, rfl, -, -, -, -, -⟩ := own_has hrow2 (by rintro rfl; obtain ⟨-, h⟩ := hrow2; rcases h with ⟨-, h⟩ | ⟨g, cap, cur, h, -⟩ <;> first | omega | cases h)
          clear hrow a1 a2 a3 a4 c0 hq1 hq2 hsz0
          refine hK.out _ _ trivial (fun _ => ?_)
          clear hK K
          (try simp only [Act.put, List.setIfInBounds_toArray, List.set_cons_zero, List.set_cons_succ])
          refine wpAnyH_take (i := 6) (oi := { dst := some 21, op := Op.fieldAddr 59 (Operand.tmp 4) 0, type := 0, pos := "pack.go:122", after := #[{ on := 0, ground := Ground.phase }, { on := 1, ground := Ground.phase }, { on := 2, ground := Ground.phase }, { on := 3, ground := Ground.phase }, { on := 4, ground := Ground.phase }, { on := 5, ground := Ground.phase }], guard := none }) (v := ?v6x2) rfl (by kernel_rfl) (by kernel_rfl) (by kernel_rfl) (fun _ _ _ h => h) (Or.inl ⟨by rfl, ?hy6x2⟩) (by assumption) ?r6x2
          case hy6x2 =>
            intro w hSw
            (try dsimp only at hSw)
            go_simp
            all_goals with_reducible rfl
          (try simp only [Act.put, List.setIfInBounds_toArray, List.set_cons_zero, List.set_cons_succ])
          have d0 : W3.cell? ⟨Bd, 0, none⟩ = some sv := by rw [hd.cell]; rfl
          have f0 := hd.frozen 0
          refine wpAnyH_ready (rs := [7]) (by kernel_rfl) (by simp) ?_
          refine AllReadyH.cons (o := { dst := none, op := Op.store 46 (Operand.tmp 21) (Operand.tmp 20), type := 0, pos := "pack.go:122", after := #[{ on := 6, ground := Ground.data }, { on := 5, ground := Ground.data }, { on := 5, ground := Ground.chain }, { on := 0, ground := Ground.phase }, { on := 1, ground := Ground.phase }, { on := 2, ground := Ground.phase }, { on := 3, ground := Ground.phase }, { on := 4, ground := Ground.phase }, { on := 5, ground := Ground.phase }], guard := none }) rfl (fun K hK => ?_) AllReadyH.nil
          go_simp
          have hgs := grown_setnew hG ⟨Bd, 0, none⟩ hBd (.slice (some ⟨g4, 0, none⟩) (i + 1) c4)
          have hd3 := hd.set_ 0 (.slice (some ⟨g4, 0, none⟩) (i + 1) c4)
          have hR3 := hR.far (p := ⟨Bd, 0, none⟩) (Ne.symm hBn) (.slice (some ⟨g4, 0, none⟩) (i + 1) c4)
          have hst3 := HSt.out _ _ _ _ hst (grown_one W3 ⟨Bd, 0, none⟩ (.slice (some ⟨g4, 0, none⟩) (i + 1) c4)) (fun k hk => by cases hk; exact hBd)
          have hrow3 := hrow2.kept (grown_one W3 ⟨Bd, 0, none⟩ (.slice (some ⟨g4, 0, none⟩) (i + 1) c4)) (.inr hvo.1)
          clear d0 f0
          refine hK.out _ _ trivial (fun _ => ?_)
          clear hK K
          (try simp only [Act.put, List.setIfInBounds_toArray, List.set_cons_zero, List.set_cons_succ])
          refine wpAnyH_done (by kernel_rfl) ?_ _
          have HI2 := hide (DInv.mk ⟨l ++ [z], _, by simp [hli], (fun y hy => (List.mem_append.1 hy).elim (hlw y) (fun h => by simp at h; rw [h]; exact hzw)), hrow3, hd3, hR3, hst3, hgs, hvo.1, hvo.2.1, hvo.2.2⟩)
          clear hst3 hrow3 hd3 hR3 hgs hst hd hR hG hrow2 hvo hz1 hzw
          go_wp2_with fail
          go_roundw
          case rel => exact ⟨i + 1, by omega, by go_num, HI2⟩
          case measure => simp [intOf]; omega
        focus
          go_simp
          replace hd := hd.alloc (Obj.cells #[.int .i64 z] 3)
          replace hR := hR.alloc (Obj.cells #[.int .i64 z] 3)
          replace hst := HSt.out _ _ _ none hst (World.grownBy_alloc W2 (Obj.cells #[.int .i64 z] 3) none) (fun k hk => by cases hk)
          replace hrow := hrow.alloc (Obj.cells #[.int .i64 z] 3)
          replace hG := hG.trans (World.grownBy_alloc W2 (Obj.cells #[.int .i64 z] 3) (some g))
          have hz1 := (Has.new W2 3 (i64s [z])).ri (zs := [z]) (fun y hy => by simp at hy; rw [hy]; exact hzw)
          have hsz4 : (W2.alloc (Obj.cells #[.int .i64 z] 3)).heap.size = W2.heap.size + 1 := by simp
          have c0 : (W2.alloc (Obj.cells #[.int .i64 z] 3)).cell? ⟨Bd, 0, none⟩ = some sv := by rw [hd.cell]; rfl
          refine hK.out _ _ trivial (fun _ => ?_)
          clear hK K
          (try simp only [Act.put, List.setIfInBounds_toArray, List.set_cons_zero, List.set_cons_succ])
          refine wpAnyH_ready (rs := [1]) (by kernel_rfl) (by simp) ?_
          refine AllReadyH.cons (o := { dst := some 16, op := Op.load 46 (Operand.tmp 15), type := 46, pos := "pack.go:122", after := #[{ on := 0, ground := Ground.data }], guard := none }) rfl (fun K hK => ?_) AllReadyH.nil
          go_simp
          refine hK.out _ _ trivial (fun _ => ?_)
          clear hK K
          (try simp only [Act.put, List.setIfInBounds_toArray, List.set_cons_zero, List.set_cons_succ])
          refine wpAnyH_ready (rs := [5]) (by kernel_rfl) (by simp) ?_
          refine AllReadyH.cons (o := { dst := some 20, op := Op.call { callee := Callee.builtin Builtin.append, args := #[Operand.tmp 16, Operand.tmp 19], argTypes := #[46, 46] }, type := 46, pos := "pack.go:122", after := #[{ on := 1, ground := Ground.data }, { on := 4, ground := Ground.data }, { on := 3, ground := Ground.chain }], guard := none }) rfl (fun K hK => ?_) AllReadyH.nil
          have hsz0 := hG.size
          have hq1 := hd.lt
          have hq2 := hR.lt
          refine step_append_is rfl (.tmp 16) (.tmp 19) rfl w.heap.size sv i (i64s l) rfl hrow (some ⟨W2.heap.size, 0, none⟩) 1 1 [z] rfl (hide rfl) hz1 (by omega) hsz0 fun v' W3 a1 a2 a3 => ?_
          have a4 : ∀ k, sv.ownBlock = some k → w.heap.size ≤ k := fun k hk => (hrow.lt k hk).1
          replace hst := HSt.out _ _ _ _ hst a2 a4
          replace hd := hd.grown a2 hdo
          replace hR := hR.grown a2 hRo
          replace hG := hG.andThen a2 (fun j hj => .inl (a4 j hj))
          have hrow2 : W3.ownsRow w.heap.size 3 1 v' (i + 1) (i64s (l ++ [z])) := by simpa [i64s] using a1
          have hvo : v'.ownBlock ≠ some Bd ∧ v'.ownBlock ≠ some w.heap.size ∧ v'.ownBlock ≠ some g := by rcases a3 with h | h <;> rw [h] <;> refine ⟨?_, ?_, ?_⟩ <;> first | exact Ne.symm hdo | exact Ne.symm hRo | exact Ne.symm hgo | (intro h2; have h2 := Option.some.inj h2; omega)
          obtain ⟨g4, c4, r4, rfl, -, -, -, -, -⟩ := own_has hrow2 (by rintro rfl; obtain ⟨-, h⟩ := hrow2; rcases h with ⟨-, h⟩ | ⟨g, cap, cur, h, -⟩ <;> first | omega | cases h)
          clear hrow a1 a2 a3 a4 c0 hq1 hq2 hsz0
          refine hK.out _ _ trivial (fun _ => ?_)
          clear hK K
          (try simp only [Act.put, List.setIfInBounds_toArray, List.set_cons_zero, List.set_cons_succ])
          refine wpAnyH_take (i := 6) (oi := { dst := some 21, op := Op.fieldAddr 59 (Operand.tmp 4) 0, type := 0, pos := "pack.go:122", after := #[{ on := 0, ground := Ground.phase }, { on := 1, ground := Ground.phase }, { on := 2, ground := Ground.phase }, { on := 3, ground := Ground.phase }, { on := 4, ground := Ground.phase }, { on := 5, ground := Ground.phase }], guard := none }) (v := ?v6x3) rfl (by kernel_rfl) (by kernel_rfl) (by kernel_rfl) (fun _ _ _ h => h) (Or.inl ⟨by rfl, ?hy6x3⟩) (by assumption) ?r6x3
          case hy6x3 =>
            intro w hSw
            (try dsimp only at hSw)
            go_simp
            all_goals with_reducible rfl
          (try simp only [Act.put, List.setIfInBounds_toArray, List.set_cons_zero, List.set_cons_succ])
          have d0 : W3.cell? ⟨Bd, 0, none⟩ = some sv := by rw [hd.cell]; rfl
          have f0 := hd.frozen 0
          refine wpAnyH_ready (rs := [7]) (by kernel_rfl) (by simp) ?_
          refine AllReadyH.cons (o := { dst := none, op := Op.store 46 (Operand.tmp 21) (Operand.tmp 20), type := 0, pos := "pack.go:122", after := #[{ on := 6, ground := Ground.data }, { on := 5, ground := Ground.data }, { on := 5, ground := Ground.chain }, { on := 0, ground := Ground.phase }, { on := 1, ground := Ground.phase }, { on := 2, ground := Ground.phase }, { on := 3, ground := Ground.phase }, { on := 4, ground := Ground.phase }, { on := 5, ground := Ground.phase }], guard := none }) rfl (fun K hK => ?_) AllReadyH.nil
          go_simp
          have hgs := grown_setnew hG ⟨Bd, 0, none⟩ hBd (.slice (some ⟨g4, 0, none⟩) (i + 1) c4)
          have hd3 := hd.set_ 0 (.slice (some ⟨g4, 0, none⟩) (i + 1) c4)
          have hR3 := hR.far (p := ⟨Bd, 0, none⟩) (Ne.symm hBn) (.slice (some ⟨g4, 0, none⟩) (i + 1) c4)
          have hst3 := HSt.out _ _ _ _ hst (grown_one W3 ⟨Bd, 0, none⟩ (.slice (some ⟨g4, 0, none⟩) (i + 1) c4)) (fun k hk => by cases hk; exact hBd)
          have hrow3 := hrow2.kept (grown_one W3 ⟨Bd, 0, none⟩ (.slice (some ⟨g4, 0, none⟩) (i + 1) c4)) (.inr hvo.1)
          clear d0 f0
          refine hK.out _ _ trivial (fun _ => ?_)
          clear hK K
          (try simp only [Act.put, List.setIfInBounds_toArray, List.set_cons_zero, List.set_cons_succ])
          refine wpAnyH_done (by kernel_rfl) ?_ _
          have HI2 := hide (DInv.mk ⟨l ++ [z], _, by simp [hli], (fun y hy => (List.mem_append.1 hy).elim (hlw y) (fun h => by simp at h; rw [h]; exact hzw)), hrow3, hd3, hR3, hst3, hgs, hvo.1, hvo.2.1, hvo.2.2⟩)
          clear hst3 hrow3 hd3 hR3 hgs hst hd hR hG hrow2 hvo hz1 hzw
          go_wp2_with fail
          go_roundw
          case rel => exact ⟨i + 1, by omega, by go_num, HI2⟩
          case measure => simp [intOf]; omega
    · obtain rfl : i = n := by omega
      obtain ⟨l, sv, hli, hlw, hrow, hd, hR, hst, hG, hdo, hRo, hgo⟩ := hI.out.ex
      clear hI
      have c0 : wr.cell? ⟨Bd, 0, none⟩ = some sv := by rw [hd.cell]; rfl
      have c1 : wr.cell? ⟨Bd, 1, none⟩ = some (.bool u) := by rw [hd.cell]; rfl
      have d0 : wr.cell? ⟨w.heap.size, 0, none⟩ = some (.slice none 0 0) := by rw [hR.cell]; rfl
      have d1 : wr.cell? ⟨w.heap.size, 1, none⟩ = some (.bool false) := by rw [hR.cell]; rfl
      have f0 := hR.frozen 0
      have f1 := hR.frozen 1
      have svc : sv = .slice none 0 0 ∨ ∃ g4 c4, sv = .slice (some ⟨g4, 0, none⟩) i c4 := by
        rcases hrow.2 with ⟨h, -⟩ | ⟨g4, c4, cur, h, -⟩
        · exact .inl h
        · exact .inr ⟨g4, c4, h⟩
      have HR9 := hide ((hR.set_ 0 sv).set_ 1 (.bool u))
      have HG9 := hide (grown_setnew (grown_setnew hG ⟨w.heap.size, 0, none⟩ (Nat.le_refl _) sv) ⟨w.heap.size, 1, none⟩ (Nat.le_refl _) (.bool u))
      have HS9 := hide (HSt.out _ _ _ _ (HSt.out _ _ _ _ hst (grown_one wr ⟨w.heap.size, 0, none⟩ sv) (fun k hk => by cases hk; exact Nat.le_refl _)) (grown_one (wr.setCell ⟨w.heap.size, 0, none⟩ sv) ⟨w.heap.size, 1, none⟩ (.bool u)) (fun k hk => by cases hk; exact Nat.le_refl _))
      have HO9 := hide ((hrow.kept (grown_one wr ⟨w.heap.size, 0, none⟩ sv) (.inr hRo)).kept (grown_one (wr.setCell ⟨w.heap.size, 0, none⟩ sv) ⟨w.heap.size, 1, none⟩ (.bool u)) (.inr hRo))
      clear hrow hd hR hst hG
      rcases svc with rfl | ⟨g4, c4, rfl⟩
      · go_wp2_with fail
        refine bodyPost_ret (results_cell_row rfl _ _ w.heap.size 59 #[.slice none 0 0, .bool u] (0, 0) _ rfl HR9.out Tryd.underlying59 rfl (by kernel_rfl)) rfl ?_
        exact ⟨l, _, rfl, hli, hlw, HO9.out, HS9.out, HG9.out⟩
      · go_wp2_with fail
        refine bodyPost_ret (results_cell_row rfl _ _ w.heap.size 59 #[.slice (some ⟨g4, 0, none⟩) i c4, .bool u] (0, 0) _ rfl HR9.out Tryd.underlying59 rfl (by kernel_rfl)) rfl ?_
        exact ⟨l, _, rfl, hli, hlw, HO9.out, HS9.out, HG9.out⟩
end Go.Proofs.YthjnkaikjjjceaaDoor
