/-
  The law QuantNears of package lodgelaw4. By an AI agent. No person has read it.
-/
import Derived.Test.YtboighnmgnjhdaaDoorQuaY
import Derived.Test.YtboighnmgnjhdaaDoorFltLd
import Derived.Deep.RegionHeld3
namespace Go.Proofs.YtboighnmgnjhdaaDoor
open Go.RowKit
open Ieee
theorem nea_kept {W W' : World} {p : Addr} {v : Value} (h : W.cell? p = some v) (hb : Below W.heap.size W W') : W'.cell? p = some v :=
  (hb.cell (World.block_lt_of_cell? W p h)).trans h
abbrev NeaS (g : Nat) (wr : World) (x1 x2 : Value) (W : World) : Prop :=
  W.cell? ⟨g, 0, none⟩ = some x1 ∧ W.cell? ⟨g, 1, none⟩ = some x2 ∧ Hid (Below wr.heap.size wr W)
theorem NeaS.keep {g : Nat} {wr : World} {x1 x2 : Value} {W W' : World} (h : NeaS g wr x1 x2 W) (hb : Below W.heap.size W W') : NeaS g wr x1 x2 W' := by
  obtain ⟨h1, h2, h⟩ := h
  exact ⟨nea_kept h1 hb, nea_kept h2 hb, hide (h.out.trans (hb.mono h.out.size))⟩
theorem NeaS.low {g : Nat} {wr : World} {x1 x2 : Value} {W : World} (h : NeaS g wr x1 x2 W) : Below wr.heap.size wr W := h.2.2.out
theorem ldexp_p2 (e : Int) (h1 : -1000 ≤ e) (h2 : e ≤ 1000) (w : World) : Calls Tryd.prog 44 #[.float .f64 4607182418800017408, .int .i64 e] w fun e' w' => e' = .returned (.float .f64 (Qua.p2 e)) ∧ w' = w := by
  have h := ldexp_c 4607182418800017408 e (by decide) (by decide) (by decide) (1023 + e).toNat (by rw [show Flt.expo 4607182418800017408 = 1023 by decide]; omega) (by omega) (by omega) (by omega) (by omega) w
  rw [show Flt.neg 4607182418800017408 = false by decide, show Flt.frac 4607182418800017408 = 0 by decide, if_neg (by decide), Nat.zero_add, Nat.add_zero] at h
  exact h
set_option maxRecDepth 100000 in
set_option maxHeartbeats 8000000 in
theorem nearslaw_c (n0 n1 n2 n3 : Int) (w : World) :
    Calls Tryd.prog 7 #[.int .i64 n0, .int .i64 n1, .int .i64 n2, .int .i64 n3] w fun e w' => e = .returned (.bool true) ∧ Below w.heap.size w w' := by
  have HF := hide qfirst_c
  have N0 := hide (number_c n0 256 (by decide) (by decide) 256 rfl)
  have N1 := hide (number_c n1 256 (by decide) (by decide) 256 rfl)
  have N2 := hide (number_c n2 256 (by decide) (by decide) 256 rfl)
  have N3 := hide (number_c n3 40 (by decide) (by decide) 40 rfl)
  go_enter Tryd.func7, Tryd.ntmps7
  go_wp2_with fail
  refine (HF.out _).mono ?_
  rintro e w1 ⟨rfl, rfl⟩
  go_wp2_with fail
  refine (N0.out _).mono ?_
  rintro e w1 ⟨⟨k0, hk0, rfl⟩, rfl⟩
  obtain ⟨z, hz⟩ : ∃ a : Int, Hid ((k0 : Int) - 128 = a) := ⟨_, hide rfl⟩
  have hzb : -128 ≤ z ∧ z ≤ 127 := by have := hz.out; omega
  have s0 : IntKind.i64.wrap ((k0 : Int) - 128) = z := by rw [hz.out]; exact iwrap_small _ (by omega) (by omega)
  clear hz
  go_wp2_with fail
  refine (N1.out _).mono ?_
  rintro e w1 ⟨⟨k1, hk1, rfl⟩, rfl⟩
  obtain ⟨q, hq⟩ : ∃ a : Int, Hid ((k1 : Int) - 128 = a) := ⟨_, hide rfl⟩
  have hqb : -128 ≤ q ∧ q ≤ 127 := by have := hq.out; omega
  have s1 : IntKind.i64.wrap ((k1 : Int) - 128) = q := by rw [hq.out]; exact iwrap_small _ (by omega) (by omega)
  clear hq
  go_wp2_with fail
  refine (N2.out _).mono ?_
  rintro e w1 ⟨⟨k2, hk2, rfl⟩, rfl⟩
  obtain ⟨k, hk⟩ : ∃ a : Int, Hid ((k2 : Int) - 128 = a) := ⟨_, hide rfl⟩
  have hkb : -128 ≤ k ∧ k ≤ 127 := by have := hk.out; omega
  have s2 : IntKind.i64.wrap ((k2 : Int) - 128) = k := by rw [hk.out]; exact iwrap_small _ (by omega) (by omega)
  clear hk
  go_wp2_with fail
  refine (N3.out _).mono ?_
  rintro e w1 ⟨⟨k3, hk3, rfl⟩, rfl⟩
  obtain ⟨e, he⟩ : ∃ a : Int, Hid ((k3 : Int) - 20 = a) := ⟨_, hide rfl⟩
  have heb : -20 ≤ e ∧ e ≤ 19 := by have := he.out; omega
  have s3 : IntKind.i64.wrap ((k3 : Int) - 20) = e := by rw [he.out]; exact iwrap_small _ (by omega) (by omega)
  clear he HF N0 N1 N2 N3
  have HL := hide (ldexp_p2 e (by omega) (by omega))
  obtain ⟨l1, -, hp, -, -, -⟩ := p2_facts e (by omega) (by omega)
  have HN := hide (new_good (Qua.p2 e) (by omega) z (by unfold Qua.good; rw [hp]; simp; omega))
  have B1 := hide (back_c (Qua.p2 e) z q hzb hp)
  have B2 := hide (back_c (Qua.p2 e) z k hzb hp)
  have cq : Flt.clamp q (-128) 127 = q := by unfold Flt.clamp; split <;> split <;> omega
  have ck : Flt.clamp k (-128) 127 = k := by unfold Flt.clamp; split <;> split <;> omega
  have hm1 := mul_p2' (q - z) e (by omega) (by omega) (by omega)
  have hm2 := mul_p2' (k - z) e (by omega) (by omega) (by omega)
  have e1 : Qua.back (Qua.p2 e) z q = Flt.mk (q - z) e := by unfold Qua.back; rw [cq, hm1]; rfl
  have e2 : Qua.back (Qua.p2 e) z k = Flt.mk (k - z) e := by unfold Qua.back; rw [ck, hm2]; rfl
  rw [e1] at B1
  rw [e2] at B2
  have hfo := float_of_any (q - z)
  have sqz : IntKind.i64.wrap (q - z) = q - z := iwrap_small _ (by omega) (by omega)
  have hdv := div_p2 1 e 2 (by decide) (by decide) (by decide) (by decide) (by omega) (by omega)
  rw [mk_one e (by omega) (by omega), show Qua.p2 2 = 4616189618054758400 by decide] at hdv
  have had := quarter_add (q - z) e (by omega) (by omega) (by omega)
  have hsu := quarter_sub (q - z) e (by omega) (by omega) (by omega)
  have v1 := of_exact _ _ z _ q (val_whole (q - z) e (by omega) (by omega) (by omega)) rfl hzb hqb
  have v2 := of_exact _ _ z _ k (val_whole (k - z) e (by omega) (by omega) (by omega)) rfl hzb hkb
  have v3 := of_exact _ _ z _ q (val_quarter (4 * (q - z) + 1) (q - z) e (by omega) (by omega) (by omega) (by omega) (by omega)) rfl hzb hqb
  have v4 := of_exact _ _ z _ q (val_quarter (4 * (q - z) - 1) (q - z) e (by omega) (by omega) (by omega) (by omega) (by omega)) rfl hzb hqb
  have HO1 := hide (of_c (Qua.p2 e) (Flt.mk (q - z) e) z hzb)
  have HO2 := hide (of_c (Qua.p2 e) (Flt.mk (k - z) e) z hzb)
  have HO3 := hide (of_c (Qua.p2 e) (Flt.mk (4 * (q - z) + 1) (e - 2)) z hzb)
  have HO4 := hide (of_c (Qua.p2 e) (Flt.mk (4 * (q - z) - 1) (e - 2)) z hzb)
  rw [v1] at HO1
  rw [v2] at HO2
  rw [v3] at HO3
  rw [v4] at HO4
  have hor := order_mk (q - z) (k - z) e (by omega) (by omega) (by omega) (by omega)
  have hxx := order_mk (q - z) (q - z) e (by omega) (by omega) (by omega) (by omega)
  rw [show compare (q - z) (q - z) = .eq from Int.compare_eq_eq.2 rfl] at hxx
  clear hp l1 cq ck hm2 e1 e2 v1 v2 v3 v4
  generalize Qua.p2 e = P at *
  generalize Flt.mk (q - z) e = X at *
  generalize Flt.mk (k - z) e = Y at *
  generalize Flt.mk (4 * (q - z) + 1) (e - 2) = A at *
  generalize Flt.mk (4 * (q - z) - 1) (e - 2) = B at *
  generalize Flt.mk 1 (e - 2) = R at *
  generalize Flt.mk (q - z) 0 = f at *
  have hmul : ∀ W : World, (binOp .mul 27 (.float .f64 P) (.float .f64 f)).run Tryd.prog W = .ok (.float .f64 X) W := fun W => run_float_arith (P := Tryd.prog) W .mul 27 .f64 _ _ _ hm1
  have hquo : ∀ W : World, (binOp .quo 27 (.float .f64 P) (.float .f64 4616189618054758400)).run Tryd.prog W = .ok (.float .f64 R) W := fun W => run_float_arith (P := Tryd.prog) W .quo 27 .f64 _ _ _ hdv
  have hadd : ∀ W : World, (binOp .add 27 (.float .f64 X) (.float .f64 R)).run Tryd.prog W = .ok (.float .f64 A) W := fun W => run_float_arith (P := Tryd.prog) W .add 27 .f64 _ _ _ had
  have hsub : ∀ W : World, (binOp .sub 27 (.float .f64 X) (.float .f64 R)).run Tryd.prog W = .ok (.float .f64 B) W := fun W => run_float_arith (P := Tryd.prog) W .sub 27 .f64 _ _ _ hsu
  clear hm1 hdv had hsu
  have hcs : Hid ((q < k ∧ ¬ k < q ∧ q ≤ k ∧ FloatKind.f64.format.order X Y = some .lt) ∨ (¬ q < k ∧ ¬ k < q ∧ q ≤ k ∧ FloatKind.f64.format.order X Y = some .eq) ∨ (¬ q < k ∧ k < q ∧ ¬ q ≤ k ∧ FloatKind.f64.format.order X Y = some .gt)) := by
    rcases Int.lt_trichotomy q k with h | h | h
    · exact hide (.inl ⟨h, by omega, by omega, hor.trans (congrArg some (Int.compare_eq_lt.2 (by omega)))⟩)
    · exact hide (.inr (.inl ⟨by omega, by omega, by omega, hor.trans (congrArg some (Int.compare_eq_eq.2 (by omega)))⟩))
    · exact hide (.inr (.inr ⟨by omega, h, by omega, hor.trans (congrArg some (Int.compare_eq_gt.2 (by omega)))⟩))
  clear hor hzb hqb hkb heb hk0 hk1 hk2 hk3
  have hsf := store_f P
  go_wp2_with fail
  refine (HL.out _).mono ?_
  rintro e' w1 ⟨rfl, rfl⟩
  go_wp2_with fail
  refine (HN.out _).mono ?_
  rintro e' w1 ⟨rfl, hb⟩
  have hs := Has.new w1 33 [.float .f64 P, .int .i64 z]
  have HB := hide ((((Below.refl w.heap.size w).drew).trans hb).alloc ((((Below.refl w.heap.size w).drew).trans hb).size) (.cells #[.float .f64 P, .int .i64 z] 33))
  have c0 : (w1.alloc (.cells #[.float .f64 P, .int .i64 z] 33)).cell? ⟨w1.heap.size, 0, none⟩ = some (.float .f64 P) := hs.cell 0
  have c1 : (w1.alloc (.cells #[.float .f64 P, .int .i64 z] 33)).cell? ⟨w1.heap.size, 1, none⟩ = some (.int .i64 z) := hs.cell 1
  clear hb hs HL HN
  go_wp2_with fail
  refine (B1.out _).mono ?_
  rintro e' w2 ⟨rfl, hb⟩
  have c2 := nea_kept c0 hb
  have c3 := nea_kept c1 hb
  have HB2 := hide (HB.out.trans (hb.mono HB.out.size))
  clear hb HB c0 c1 B1
  go_wp2_with fail
  refine (B2.out _).mono ?_
  rintro e' w3 ⟨rfl, hb⟩
  have c0 := nea_kept c2 hb
  have c1 := nea_kept c3 hb
  have HB := hide (HB2.out.trans (hb.mono HB2.out.size))
  clear hb HB2 c2 c3 B2
  go_wp2_with fail
  refine (HO1.out _).mono ?_
  rintro e' w4 ⟨rfl, hb⟩
  have hS0 : NeaS w1.heap.size w4 (.float .f64 P) (.int .i64 z) w4.drew := ⟨nea_kept c0 hb.drew, nea_kept c1 hb.drew, hide (Below.refl _ _).drew⟩
  have HB4 := hide (HB.out.trans (hb.mono HB.out.size))
  clear hb HB c0 c1
  generalize w1.heap.size = g at *
  rcases hcs.out with h | h | ⟨h1, h2, h3, o1⟩
  case' inl => obtain ⟨h1, h2, h3, o1⟩ := h
  case' inr.inl => obtain ⟨h1, h2, h3, o1⟩ := h
  case inr.inr =>
    go_wp2_with fail
    refine wp_region_held_drew (S := (fun W => W.cell? ⟨g, 0, none⟩ = some (.float .f64 P) ∧ W.cell? ⟨g, 1, none⟩ = some (.int .i64 z) ∧ Hid (Below w4.heap.size w4 W))) (by kernel_rfl) hS0 (fun hH0 => ?_)
    clear hS0
    refine wpAnyH_take (i := 0) (oi := { dst := some 69, op := Op.move (Operand.tmp 9), type := 4, pos := "law.go:108", after := #[], guard := none }) (v := ?v0) rfl (by kernel_rfl) (by kernel_rfl) (by kernel_rfl) (fun _ _ _ h => h) (Or.inl ⟨by rfl, ?hy0⟩) (by assumption) ?r0
    case hy0 =>
      intro w hSw
      (try dsimp only at hSw)
      go_simp
      all_goals with_reducible rfl
    (try simp only [Act.put, List.setIfInBounds_toArray, List.set_cons_zero, List.set_cons_succ])
    refine wpAnyH_take (i := 1) (oi := { dst := some 70, op := Op.move (Operand.tmp 69), type := 4, pos := "law.go:108", after := #[{ on := 0, ground := Ground.data }], guard := none }) (v := ?v1) rfl (by kernel_rfl) (by kernel_rfl) (by kernel_rfl) (fun _ _ _ h => h) (Or.inl ⟨by rfl, ?hy1⟩) (by assumption) ?r1
    case hy1 =>
      intro w hSw
      (try dsimp only at hSw)
      go_simp
      all_goals with_reducible rfl
    (try simp only [Act.put, List.setIfInBounds_toArray, List.set_cons_zero, List.set_cons_succ])
    refine wpAnyH_take (i := 2) (oi := { dst := some 71, op := Op.load 33 (Operand.tmp 11), type := 33, pos := "law.go:108", after := #[{ on := 1, ground := Ground.guard }], guard := some (1, true) }) (v := ?v2) rfl (by kernel_rfl) (by kernel_rfl) (by kernel_rfl) (fun _ _ _ h => h) (Or.inl ⟨by rfl, ?hy2⟩) (by assumption) ?r2
    case hy2 =>
      intro w hSw
      (try dsimp only at hSw)
      go_simp
      all_goals with_reducible rfl
    (try simp only [Act.put, List.setIfInBounds_toArray, List.set_cons_zero, List.set_cons_succ])
    refine wpAnyH_take (i := 3) (oi := { dst := some 72, op := Op.move (Operand.tmp 13), type := 27, pos := "law.go:108", after := #[{ on := 1, ground := Ground.guard }], guard := some (1, true) }) (v := ?v3) rfl (by kernel_rfl) (by kernel_rfl) (by kernel_rfl) (fun _ _ _ h => h) (Or.inl ⟨by rfl, ?hy3⟩) (by assumption) ?r3
    case hy3 =>
      intro w hSw
      (try dsimp only at hSw)
      go_simp
      all_goals with_reducible rfl
    (try simp only [Act.put, List.setIfInBounds_toArray, List.set_cons_zero, List.set_cons_succ])
    refine wpAnyH_take (i := 4) (oi := { dst := some 73, op := Op.move (Operand.tmp 10), type := 27, pos := "law.go:108", after := #[{ on := 1, ground := Ground.guard }], guard := some (1, true) }) (v := ?v4) rfl (by kernel_rfl) (by kernel_rfl) (by kernel_rfl) (fun _ _ _ h => h) (Or.inl ⟨by rfl, ?hy4⟩) (by assumption) ?r4
    case hy4 =>
      intro w hSw
      (try dsimp only at hSw)
      go_simp
      all_goals with_reducible rfl
    (try simp only [Act.put, List.setIfInBounds_toArray, List.set_cons_zero, List.set_cons_succ])
    refine wpAnyH_take (i := 5) (oi := { dst := some 74, op := Op.binOp BinOp.quo 27 (Operand.tmp 73) (Operand.const (Value.float FloatKind.f64 4616189618054758400)) 27, type := 27, pos := "law.go:108", after := #[{ on := 4, ground := Ground.data }, { on := 1, ground := Ground.guard }], guard := some (1, true) }) (v := ?v5) rfl (by kernel_rfl) (by kernel_rfl) (by kernel_rfl) (fun _ _ _ h => h) (Or.inl ⟨by rfl, ?hy5⟩) (by assumption) ?r5
    case hy5 =>
      intro w hSw
      (try dsimp only at hSw)
      go_simp
      all_goals with_reducible rfl
    (try simp only [Act.put, List.setIfInBounds_toArray, List.set_cons_zero, List.set_cons_succ])
    refine wpAnyH_take (i := 6) (oi := { dst := some 75, op := Op.binOp BinOp.add 27 (Operand.tmp 72) (Operand.tmp 74) 27, type := 27, pos := "law.go:108", after := #[{ on := 3, ground := Ground.data }, { on := 5, ground := Ground.data }, { on := 1, ground := Ground.guard }], guard := some (1, true) }) (v := ?v6) rfl (by kernel_rfl) (by kernel_rfl) (by kernel_rfl) (fun _ _ _ h => h) (Or.inl ⟨by rfl, ?hy6⟩) (by assumption) ?r6
    case hy6 =>
      intro w hSw
      (try dsimp only at hSw)
      go_simp
      all_goals with_reducible rfl
    (try simp only [Act.put, List.setIfInBounds_toArray, List.set_cons_zero, List.set_cons_succ])
    refine wpAnyH_take (i := 8) (oi := { dst := some 77, op := Op.move (Operand.tmp 1), type := 3, pos := "law.go:108", after := #[{ on := 1, ground := Ground.guard }], guard := some (1, true) }) (v := ?v8) rfl (by kernel_rfl) (by kernel_rfl) (by kernel_rfl) (fun _ _ _ h => h) (Or.inl ⟨by rfl, ?hy8⟩) (by assumption) ?r8
    case hy8 =>
      intro w hSw
      (try dsimp only at hSw)
      go_simp
      all_goals with_reducible rfl
    (try simp only [Act.put, List.setIfInBounds_toArray, List.set_cons_zero, List.set_cons_succ])
    refine wpAnyH_ready (rs := [7]) (by kernel_rfl) (by simp) ?_
    refine AllReadyH.cons (o := { dst := some 76, op := Op.call { callee := Callee.value (Operand.func 27), args := #[Operand.tmp 71, Operand.tmp 75], argTypes := #[33, 27] }, type := 3, pos := "law.go:108", after := #[{ on := 2, ground := Ground.data }, { on := 6, ground := Ground.data }, { on := 1, ground := Ground.chain }, { on := 1, ground := Ground.guard }], guard := some (1, true) }) rfl (fun K hK => ?_) AllReadyH.nil
    go_simp
    refine (HO3.out _).mono ?_
    rintro e W6 ⟨rfl, hb⟩
    go_wp2_with fail
    refine hK.out _ _ ?_ (fun hH1 => ?_)
    · exact NeaS.keep (by assumption) hb
    clear hK K hb hH0
    (try simp only [Act.put, List.setIfInBounds_toArray, List.set_cons_zero, List.set_cons_succ])
    refine wpAnyH_take (i := 9) (oi := { dst := some 78, op := Op.binOp BinOp.eql 3 (Operand.tmp 76) (Operand.tmp 77) 3, type := 4, pos := "law.go:108", after := #[{ on := 7, ground := Ground.data }, { on := 8, ground := Ground.data }, { on := 1, ground := Ground.guard }], guard := some (1, true) }) (v := ?v9) rfl (by kernel_rfl) (by kernel_rfl) (by kernel_rfl) (fun _ _ _ h => h) (Or.inl ⟨by rfl, ?hy9⟩) (by assumption) ?r9
    case hy9 =>
      intro w hSw
      (try dsimp only at hSw)
      go_simp
      all_goals with_reducible rfl
    (try simp only [Act.put, List.setIfInBounds_toArray, List.set_cons_zero, List.set_cons_succ])
    refine wpAnyH_take (i := 10) (oi := { dst := some 79, op := Op.pick (Operand.tmp 70) (Operand.tmp 78) (Operand.const (Value.bool false)), type := 4, pos := "law.go:108", after := #[{ on := 1, ground := Ground.data }, { on := 9, ground := Ground.data }], guard := none }) (v := ?v10) rfl (by kernel_rfl) (by kernel_rfl) (by kernel_rfl) (fun _ _ _ h => h) (Or.inl ⟨by rfl, ?hy10⟩) (by assumption) ?r10
    case hy10 =>
      intro w hSw
      (try dsimp only at hSw)
      go_simp
      all_goals with_reducible rfl
    (try simp only [Act.put, List.setIfInBounds_toArray, List.set_cons_zero, List.set_cons_succ])
    refine wpAnyH_take (i := 11) (oi := { dst := some 80, op := Op.move (Operand.tmp 79), type := 4, pos := "law.go:108", after := #[{ on := 10, ground := Ground.data }, { on := 7, ground := Ground.chain }], guard := none }) (v := ?v11) rfl (by kernel_rfl) (by kernel_rfl) (by kernel_rfl) (fun _ _ _ h => h) (Or.inl ⟨by rfl, ?hy11⟩) (by assumption) ?r11
    case hy11 =>
      intro w hSw
      (try dsimp only at hSw)
      go_simp
      all_goals with_reducible rfl
    (try simp only [Act.put, List.setIfInBounds_toArray, List.set_cons_zero, List.set_cons_succ])
    refine wpAnyH_take (i := 12) (oi := { dst := some 81, op := Op.load 33 (Operand.tmp 11), type := 33, pos := "law.go:108", after := #[{ on := 11, ground := Ground.guard }], guard := some (11, true) }) (v := ?v12) rfl (by kernel_rfl) (by kernel_rfl) (by kernel_rfl) (fun _ _ _ h => h) (Or.inl ⟨by rfl, ?hy12⟩) (by assumption) ?r12
    case hy12 =>
      intro w hSw
      (try dsimp only at hSw)
      go_simp
      all_goals with_reducible rfl
    (try simp only [Act.put, List.setIfInBounds_toArray, List.set_cons_zero, List.set_cons_succ])
    refine wpAnyH_take (i := 13) (oi := { dst := some 82, op := Op.move (Operand.tmp 13), type := 27, pos := "law.go:108", after := #[{ on := 11, ground := Ground.guard }], guard := some (11, true) }) (v := ?v13) rfl (by kernel_rfl) (by kernel_rfl) (by kernel_rfl) (fun _ _ _ h => h) (Or.inl ⟨by rfl, ?hy13⟩) (by assumption) ?r13
    case hy13 =>
      intro w hSw
      (try dsimp only at hSw)
      go_simp
      all_goals with_reducible rfl
    (try simp only [Act.put, List.setIfInBounds_toArray, List.set_cons_zero, List.set_cons_succ])
    refine wpAnyH_take (i := 14) (oi := { dst := some 83, op := Op.move (Operand.tmp 10), type := 27, pos := "law.go:108", after := #[{ on := 11, ground := Ground.guard }], guard := some (11, true) }) (v := ?v14) rfl (by kernel_rfl) (by kernel_rfl) (by kernel_rfl) (fun _ _ _ h => h) (Or.inl ⟨by rfl, ?hy14⟩) (by assumption) ?r14
    case hy14 =>
      intro w hSw
      (try dsimp only at hSw)
      go_simp
      all_goals with_reducible rfl
    (try simp only [Act.put, List.setIfInBounds_toArray, List.set_cons_zero, List.set_cons_succ])
    refine wpAnyH_take (i := 15) (oi := { dst := some 84, op := Op.binOp BinOp.quo 27 (Operand.tmp 83) (Operand.const (Value.float FloatKind.f64 4616189618054758400)) 27, type := 27, pos := "law.go:108", after := #[{ on := 14, ground := Ground.data }, { on := 11, ground := Ground.guard }], guard := some (11, true) }) (v := ?v15) rfl (by kernel_rfl) (by kernel_rfl) (by kernel_rfl) (fun _ _ _ h => h) (Or.inl ⟨by rfl, ?hy15⟩) (by assumption) ?r15
    case hy15 =>
      intro w hSw
      (try dsimp only at hSw)
      go_simp
      all_goals with_reducible rfl
    (try simp only [Act.put, List.setIfInBounds_toArray, List.set_cons_zero, List.set_cons_succ])
    refine wpAnyH_take (i := 16) (oi := { dst := some 85, op := Op.binOp BinOp.sub 27 (Operand.tmp 82) (Operand.tmp 84) 27, type := 27, pos := "law.go:108", after := #[{ on := 13, ground := Ground.data }, { on := 15, ground := Ground.data }, { on := 11, ground := Ground.guard }], guard := some (11, true) }) (v := ?v16) rfl (by kernel_rfl) (by kernel_rfl) (by kernel_rfl) (fun _ _ _ h => h) (Or.inl ⟨by rfl, ?hy16⟩) (by assumption) ?r16
    case hy16 =>
      intro w hSw
      (try dsimp only at hSw)
      go_simp
      all_goals with_reducible rfl
    (try simp only [Act.put, List.setIfInBounds_toArray, List.set_cons_zero, List.set_cons_succ])
    refine wpAnyH_take (i := 18) (oi := { dst := some 87, op := Op.move (Operand.tmp 1), type := 3, pos := "law.go:108", after := #[{ on := 11, ground := Ground.guard }], guard := some (11, true) }) (v := ?v18) rfl (by kernel_rfl) (by kernel_rfl) (by kernel_rfl) (fun _ _ _ h => h) (Or.inl ⟨by rfl, ?hy18⟩) (by assumption) ?r18
    case hy18 =>
      intro w hSw
      (try dsimp only at hSw)
      go_simp
      all_goals with_reducible rfl
    (try simp only [Act.put, List.setIfInBounds_toArray, List.set_cons_zero, List.set_cons_succ])
    refine wpAnyH_ready (rs := [17]) (by kernel_rfl) (by simp) ?_
    refine AllReadyH.cons (o := { dst := some 86, op := Op.call { callee := Callee.value (Operand.func 27), args := #[Operand.tmp 81, Operand.tmp 85], argTypes := #[33, 27] }, type := 3, pos := "law.go:108", after := #[{ on := 12, ground := Ground.data }, { on := 16, ground := Ground.data }, { on := 11, ground := Ground.chain }, { on := 11, ground := Ground.guard }], guard := some (11, true) }) rfl (fun K hK => ?_) AllReadyH.nil
    go_simp
    refine (HO4.out _).mono ?_
    rintro e W6 ⟨rfl, hb⟩
    go_wp2_with fail
    refine hK.out _ _ ?_ (fun hH2 => ?_)
    · exact NeaS.keep (by assumption) hb
    clear hK K hb hH1
    (try simp only [Act.put, List.setIfInBounds_toArray, List.set_cons_zero, List.set_cons_succ])
    refine wpAnyH_take (i := 19) (oi := { dst := some 88, op := Op.binOp BinOp.eql 3 (Operand.tmp 86) (Operand.tmp 87) 3, type := 4, pos := "law.go:108", after := #[{ on := 17, ground := Ground.data }, { on := 18, ground := Ground.data }, { on := 11, ground := Ground.guard }], guard := some (11, true) }) (v := ?v19) rfl (by kernel_rfl) (by kernel_rfl) (by kernel_rfl) (fun _ _ _ h => h) (Or.inl ⟨by rfl, ?hy19⟩) (by assumption) ?r19
    case hy19 =>
      intro w hSw
      (try dsimp only at hSw)
      go_simp
      all_goals with_reducible rfl
    (try simp only [Act.put, List.setIfInBounds_toArray, List.set_cons_zero, List.set_cons_succ])
    refine wpAnyH_take (i := 20) (oi := { dst := some 89, op := Op.pick (Operand.tmp 80) (Operand.tmp 88) (Operand.const (Value.bool false)), type := 4, pos := "law.go:108", after := #[{ on := 11, ground := Ground.data }, { on := 19, ground := Ground.data }], guard := none }) (v := ?v20) rfl (by kernel_rfl) (by kernel_rfl) (by kernel_rfl) (fun _ _ _ h => h) (Or.inl ⟨by rfl, ?hy20⟩) (by assumption) ?r20
    case hy20 =>
      intro w hSw
      (try dsimp only at hSw)
      go_simp
      all_goals with_reducible rfl
    (try simp only [Act.put, List.setIfInBounds_toArray, List.set_cons_zero, List.set_cons_succ])
    refine wpAnyH_take (i := 21) (oi := { dst := some 90, op := Op.move (Operand.tmp 89), type := 4, pos := "law.go:108", after := #[{ on := 20, ground := Ground.data }, { on := 17, ground := Ground.chain }], guard := none }) (v := ?v21) rfl (by kernel_rfl) (by kernel_rfl) (by kernel_rfl) (fun _ _ _ h => h) (Or.inl ⟨by rfl, ?hy21⟩) (by assumption) ?r21
    case hy21 =>
      intro w hSw
      (try dsimp only at hSw)
      go_simp
      all_goals with_reducible rfl
    (try simp only [Act.put, List.setIfInBounds_toArray, List.set_cons_zero, List.set_cons_succ])
    refine wpAnyH_take (i := 22) (oi := { dst := some 91, op := Op.move (Operand.tmp 1), type := 3, pos := "law.go:108", after := #[{ on := 21, ground := Ground.guard }], guard := some (21, true) }) (v := ?v22) rfl (by kernel_rfl) (by kernel_rfl) (by kernel_rfl) (fun _ _ _ h => h) (Or.inl ⟨by rfl, ?hy22⟩) (by assumption) ?r22
    case hy22 =>
      intro w hSw
      (try dsimp only at hSw)
      go_simp
      all_goals with_reducible rfl
    (try simp only [Act.put, List.setIfInBounds_toArray, List.set_cons_zero, List.set_cons_succ])
    refine wpAnyH_take (i := 23) (oi := { dst := some 92, op := Op.move (Operand.tmp 2), type := 3, pos := "law.go:108", after := #[{ on := 21, ground := Ground.guard }], guard := some (21, true) }) (v := ?v23) rfl (by kernel_rfl) (by kernel_rfl) (by kernel_rfl) (fun _ _ _ h => h) (Or.inl ⟨by rfl, ?hy23⟩) (by assumption) ?r23
    case hy23 =>
      intro w hSw
      (try dsimp only at hSw)
      go_simp
      all_goals with_reducible rfl
    (try simp only [Act.put, List.setIfInBounds_toArray, List.set_cons_zero, List.set_cons_succ])
    refine wpAnyH_take (i := 24) (oi := { dst := some 93, op := Op.binOp BinOp.gtr 3 (Operand.tmp 91) (Operand.tmp 92) 3, type := 4, pos := "law.go:108", after := #[{ on := 22, ground := Ground.data }, { on := 23, ground := Ground.data }, { on := 21, ground := Ground.guard }], guard := some (21, true) }) (v := ?v24) rfl (by kernel_rfl) (by kernel_rfl) (by kernel_rfl) (fun _ _ _ h => h) (Or.inl ⟨by rfl, ?hy24⟩) (by assumption) ?r24
    case hy24 =>
      intro w hSw
      (try dsimp only at hSw)
      go_simp
      all_goals with_reducible rfl
    (try simp only [Act.put, List.setIfInBounds_toArray, List.set_cons_zero, List.set_cons_succ])
    refine wpAnyH_take (i := 25) (oi := { dst := some 94, op := Op.move (Operand.tmp 93), type := 4, pos := "law.go:108", after := #[{ on := 24, ground := Ground.data }, { on := 21, ground := Ground.chain }, { on := 21, ground := Ground.guard }], guard := some (21, true) }) (v := ?v25) rfl (by kernel_rfl) (by kernel_rfl) (by kernel_rfl) (fun _ _ _ h => h) (Or.inl ⟨by rfl, ?hy25⟩) (by assumption) ?r25
    case hy25 =>
      intro w hSw
      (try dsimp only at hSw)
      go_simp
      all_goals with_reducible rfl
    (try simp only [Act.put, List.setIfInBounds_toArray, List.set_cons_zero, List.set_cons_succ])
    refine wpAnyH_take (i := 26) (oi := { dst := some 95, op := Op.load 33 (Operand.tmp 11), type := 33, pos := "law.go:108", after := #[{ on := 25, ground := Ground.guard }], guard := some (25, false) }) (v := undef) rfl (by kernel_rfl) (by kernel_rfl) (by kernel_rfl) (fun _ _ _ h => h) (Or.inr ⟨by rfl, rfl⟩) (by assumption) ?_
    (try simp only [Act.put, List.setIfInBounds_toArray, List.set_cons_zero, List.set_cons_succ])
    refine wpAnyH_take (i := 27) (oi := { dst := some 96, op := Op.move (Operand.tmp 13), type := 27, pos := "law.go:108", after := #[{ on := 25, ground := Ground.guard }], guard := some (25, false) }) (v := undef) rfl (by kernel_rfl) (by kernel_rfl) (by kernel_rfl) (fun _ _ _ h => h) (Or.inr ⟨by rfl, rfl⟩) (by assumption) ?_
    (try simp only [Act.put, List.setIfInBounds_toArray, List.set_cons_zero, List.set_cons_succ])
    refine wpAnyH_take (i := 28) (oi := { dst := some 97, op := Op.call { callee := Callee.value (Operand.func 27), args := #[Operand.tmp 95, Operand.tmp 96], argTypes := #[33, 27] }, type := 3, pos := "law.go:108", after := #[{ on := 26, ground := Ground.data }, { on := 27, ground := Ground.data }, { on := 25, ground := Ground.chain }, { on := 25, ground := Ground.guard }], guard := some (25, false) }) (v := undef) rfl (by kernel_rfl) (by kernel_rfl) (by kernel_rfl) (fun _ _ _ h => h) (Or.inr ⟨by rfl, rfl⟩) (by assumption) ?_
    (try simp only [Act.put, List.setIfInBounds_toArray, List.set_cons_zero, List.set_cons_succ])
    refine wpAnyH_take (i := 29) (oi := { dst := some 98, op := Op.load 33 (Operand.tmp 11), type := 33, pos := "law.go:108", after := #[{ on := 25, ground := Ground.guard }], guard := some (25, false) }) (v := undef) rfl (by kernel_rfl) (by kernel_rfl) (by kernel_rfl) (fun _ _ _ h => h) (Or.inr ⟨by rfl, rfl⟩) (by assumption) ?_
    (try simp only [Act.put, List.setIfInBounds_toArray, List.set_cons_zero, List.set_cons_succ])
    refine wpAnyH_take (i := 30) (oi := { dst := some 99, op := Op.move (Operand.tmp 14), type := 27, pos := "law.go:108", after := #[{ on := 25, ground := Ground.guard }], guard := some (25, false) }) (v := undef) rfl (by kernel_rfl) (by kernel_rfl) (by kernel_rfl) (fun _ _ _ h => h) (Or.inr ⟨by rfl, rfl⟩) (by assumption) ?_
    (try simp only [Act.put, List.setIfInBounds_toArray, List.set_cons_zero, List.set_cons_succ])
    refine wpAnyH_take (i := 31) (oi := { dst := some 100, op := Op.call { callee := Callee.value (Operand.func 27), args := #[Operand.tmp 98, Operand.tmp 99], argTypes := #[33, 27] }, type := 3, pos := "law.go:108", after := #[{ on := 29, ground := Ground.data }, { on := 30, ground := Ground.data }, { on := 28, ground := Ground.chain }, { on := 25, ground := Ground.guard }], guard := some (25, false) }) (v := undef) rfl (by kernel_rfl) (by kernel_rfl) (by kernel_rfl) (fun _ _ _ h => h) (Or.inr ⟨by rfl, rfl⟩) (by assumption) ?_
    (try simp only [Act.put, List.setIfInBounds_toArray, List.set_cons_zero, List.set_cons_succ])
    refine wpAnyH_take (i := 32) (oi := { dst := some 101, op := Op.binOp BinOp.leq 3 (Operand.tmp 97) (Operand.tmp 100) 3, type := 4, pos := "law.go:108", after := #[{ on := 28, ground := Ground.data }, { on := 31, ground := Ground.data }, { on := 25, ground := Ground.guard }], guard := some (25, false) }) (v := undef) rfl (by kernel_rfl) (by kernel_rfl) (by kernel_rfl) (fun _ _ _ h => h) (Or.inr ⟨by rfl, rfl⟩) (by assumption) ?_
    (try simp only [Act.put, List.setIfInBounds_toArray, List.set_cons_zero, List.set_cons_succ])
    refine wpAnyH_take (i := 33) (oi := { dst := some 102, op := Op.pick (Operand.tmp 94) (Operand.const (Value.bool true)) (Operand.tmp 101), type := 4, pos := "law.go:108", after := #[{ on := 25, ground := Ground.data }, { on := 32, ground := Ground.data }, { on := 21, ground := Ground.guard }], guard := some (21, true) }) (v := ?v33) rfl (by kernel_rfl) (by kernel_rfl) (by kernel_rfl) (fun _ _ _ h => h) (Or.inl ⟨by rfl, ?hy33⟩) (by assumption) ?r33
    case hy33 =>
      intro w hSw
      (try dsimp only at hSw)
      go_simp
      all_goals with_reducible rfl
    (try simp only [Act.put, List.setIfInBounds_toArray, List.set_cons_zero, List.set_cons_succ])
    refine wpAnyH_take (i := 34) (oi := { dst := some 103, op := Op.pick (Operand.tmp 90) (Operand.tmp 102) (Operand.const (Value.bool false)), type := 4, pos := "law.go:108", after := #[{ on := 21, ground := Ground.data }, { on := 33, ground := Ground.data }], guard := none }) (v := ?v34) rfl (by kernel_rfl) (by kernel_rfl) (by kernel_rfl) (fun _ _ _ h => h) (Or.inl ⟨by rfl, ?hy34⟩) (by assumption) ?r34
    case hy34 =>
      intro w hSw
      (try dsimp only at hSw)
      go_simp
      all_goals with_reducible rfl
    (try simp only [Act.put, List.setIfInBounds_toArray, List.set_cons_zero, List.set_cons_succ])
    refine wpAnyH_take (i := 35) (oi := { dst := some 8, op := Op.assign (Operand.tmp 103), type := 4, pos := "law.go:108", after := #[{ on := 34, ground := Ground.data }, { on := 31, ground := Ground.chain }, { on := 0, ground := Ground.phase }, { on := 1, ground := Ground.phase }, { on := 2, ground := Ground.phase }, { on := 3, ground := Ground.phase }, { on := 4, ground := Ground.phase }, { on := 5, ground := Ground.phase }, { on := 6, ground := Ground.phase }, { on := 7, ground := Ground.phase }, { on := 8, ground := Ground.phase }, { on := 9, ground := Ground.phase }, { on := 10, ground := Ground.phase }, { on := 11, ground := Ground.phase }, { on := 12, ground := Ground.phase }, { on := 13, ground := Ground.phase }, { on := 14, ground := Ground.phase }, { on := 15, ground := Ground.phase }, { on := 16, ground := Ground.phase }, { on := 17, ground := Ground.phase }, { on := 18, ground := Ground.phase }, { on := 19, ground := Ground.phase }, { on := 20, ground := Ground.phase }, { on := 21, ground := Ground.phase }, { on := 22, ground := Ground.phase }, { on := 23, ground := Ground.phase }, { on := 24, ground := Ground.phase }, { on := 25, ground := Ground.phase }, { on := 26, ground := Ground.phase }, { on := 27, ground := Ground.phase }, { on := 28, ground := Ground.phase }, { on := 29, ground := Ground.phase }, { on := 30, ground := Ground.phase }, { on := 31, ground := Ground.phase }, { on := 32, ground := Ground.phase }, { on := 33, ground := Ground.phase }, { on := 34, ground := Ground.phase }], guard := none }) (v := ?v35) rfl (by kernel_rfl) (by kernel_rfl) (by kernel_rfl) (fun _ _ _ h => h) (Or.inl ⟨by rfl, ?hy35⟩) (by assumption) ?r35
    case hy35 =>
      intro w hSw
      (try dsimp only at hSw)
      go_simp
      all_goals with_reducible rfl
    (try simp only [Act.put, List.setIfInBounds_toArray, List.set_cons_zero, List.set_cons_succ])
    refine wpAnyH_done (by kernel_rfl) ?_ _
    go_wp2_with fail
    go_ret
    have hb9 := NeaS.low (by assumption : NeaS g w4 (.float .f64 P) (.int .i64 z) W6)
    exact ⟨rfl, HB4.out.trans (hb9.mono HB4.out.size)⟩
  all_goals
    go_wp2_with fail
    have hdk : decide (k < q) = false := decide_eq_false (by omega)
    go_region_held3 (fun W => W.cell? ⟨g, 0, none⟩ = some (.float .f64 P) ∧ W.cell? ⟨g, 1, none⟩ = some (.int .i64 z) ∧ Hid (Below w4.heap.size w4 W))
      (first | exact hS0 | assumption | exact NeaS.keep (by assumption) hb)
      (first
        | (go_at_call 27; with_reducible refine (HO1.out _).mono ?_; rintro e W6 ⟨rfl, hb⟩)
        | (go_at_call 27; with_reducible refine (HO2.out _).mono ?_; rintro e W6 ⟨rfl, hb⟩)
        | (go_at_call 27; with_reducible refine (HO3.out _).mono ?_; rintro e W6 ⟨rfl, hb⟩)
        | (go_at_call 27; with_reducible refine (HO4.out _).mono ?_; rintro e W6 ⟨rfl, hb⟩))
    go_wp2_with fail
    go_ret
    have hb9 := NeaS.low (by assumption : NeaS g w4 (.float .f64 P) (.int .i64 z) W6)
    exact ⟨rfl, HB4.out.trans (hb9.mono HB4.out.size)⟩
end Go.Proofs.YtboighnmgnjhdaaDoor
