/-
  For every int, every slice of numbers, every slice of tensors, every int the law OpSays of package lodgelaw12 returns true, never panics, and leaves its arguments as they were.
  Conditions: those of the given card; the package-level variables that it lists hold what their text lays. By an AI agent. No person has read it.
-/
import Derived.Test.YtgdcfjmpjhlndaaGreatDoorZOBasCard
import Derived.Test.YtgdcfjmpjhlndaaGreatDoorZOElmOpen
import Derived.Test.YtgdcfjmpjhlndaaGreatDoorZOOpSays
namespace Go.Proofs.YtgdcfjmpjhlndaaGreatDoor.opSays
open Go.ChangeShapes Go.WideShapes Go.ChangeAt Go.RowKit
noncomputable def laidWorld (os : Os) : World := World.laidAll Tryz.prog os Rows.opSaysRow.laid
theorem laid_met (os : Os) : laidMet Tryz.prog Rows.opSaysRow.laid ((laidWorld os).forCall (fun _ _ => 0) ⟨#[], #[.int .i64 0, .slice none 0 0, .slice none 0 0, .int .i64 0], []⟩).memory :=
 laidMet_laidAll _ (by kernel_rfl) (by kernel_rfl)
theorem reads (os : Os) {H : Type} (enc : TypeId × Value → H) : ∃ places, DataW.whole enc Tryz.prog ((laidWorld os).forCall (fun _ _ => 0) ⟨#[], #[.int .i64 0, .slice none 0 0, .slice none 0 0, .int .i64 0], []⟩).memory Tryz.f4.params.toList Rows.opSaysSpec.vars false #[Value.int .i64 0, Value.slice none 0 0, Value.slice none 0 0, Value.int .i64 0].toList 8 = some ([.lit (.int .i64 0), .nil, .nil, .lit (.int .i64 0)], [], places) :=
 ⟨[], by kernel_rfl⟩
set_option maxRecDepth 100000 in
theorem lifted (os : Os) (started : os.Started) (H : Type) (enc : TypeId × Value → H) (F : Stop.Interp) :
  ReturnsInHanded {} Tryz.checked os 4 .any ((OpenSpec.ofChange Rows.opSaysSpec).preRow enc Tryz.prog Tryz.f4 Rows.opSaysRow.domain false Rows.opSaysRow.laid) (((OpenSpec.ofChange Rows.opSaysSpec).at F).post enc Tryz.prog Tryz.f4 false true false false) := by
 obtain ⟨places, hx⟩ := reads os enc
 refine returnsInHanded_of_row (C := Tryz.checked) (s := OpenSpec.ofChange Rows.opSaysSpec) own started (by kernel_rfl) Tryz.func4
  (witness_row_atRef (enc := enc) (C := Tryz.checked) false (laidWorld os) #[.int .i64 0, .slice none 0 0, .slice none 0 0, .int .i64 0] rfl (by kernel_rfl) (by kernel_rfl) (by kernel_rfl)
   (OpenSpec.preRow_of_cond 8 hx (by kernel_rfl) (fun k hk => by cases hk) (by kernel_rfl) (laid_met os))) ?_
 intro W base args ds gs before hval hW _ _ _ hL _ _
 have hW' := hW
 obtain ⟨p, q, hA0, hV, rfl, hfz, hnd⟩ := hW
 have hA : DataW.TrodAll enc Tryz.prog W 0 (fun _ => true) true Tryz.f4.params.toList args.toList ds p := hA0
 rw [Tryz.params4] at hA hval
 obtain ⟨v0, vs0, d0, ds0, p0, q0, hargs, rfl, rfl, h0, r0⟩ := trodAll_cons hA
 obtain ⟨v1, vs1, d1, ds1, p1, q1, rfl, rfl, rfl, h1, r1⟩ := trodAll_cons r0
 obtain ⟨v2, vs2, d2, ds2, p2, q2, rfl, rfl, rfl, h2, r2⟩ := trodAll_cons r1
 obtain ⟨v3, vs3, d3, ds3, p3, q3, rfl, rfl, rfl, h3, r3⟩ := trodAll_cons r2
 obtain ⟨rfl, rfl, rfl⟩ := trodAll_nil r3
 obtain rfl : args = #[v0, v1, v2, v3] := by cases args; simp_all
 obtain ⟨rfl, rfl⟩ := trodVars_none hV
 have k0 := h0
 have k1 := h1
 have k2 := h2
 have k3 := h3
 have lt0 : ∀ x ∈ p0, x.block < W.heap.size := by obtain ⟨m, hm⟩ := k0; exact DataW.trod_lt m _ _ _ hm
 have lt1 : ∀ x ∈ p1, x.block < W.heap.size := by obtain ⟨m, hm⟩ := k1; exact DataW.trod_lt m _ _ _ hm
 have lt2 : ∀ x ∈ p2, x.block < W.heap.size := by obtain ⟨m, hm⟩ := k2; exact DataW.trod_lt m _ _ _ hm
 have lt3 : ∀ x ∈ p3, x.block < W.heap.size := by obtain ⟨m, hm⟩ := k3; exact DataW.trod_lt m _ _ _ hm
 obtain ⟨n0, rfl, -, -, hn0⟩ := open_int uInt (hval 0 3 v0 rfl rfl) h0
 obtain ⟨a1, len1, cap1, rfl⟩ := okWide_slice uNums (hval 1 22 v1 rfl rfl)
 obtain ⟨xs1, rfl, hR1, hc1, hd1⟩ : ∃ xs : List Int, xs.length = len1 ∧ Ri W a1 xs ∧ len1 ≤ cap1 ∧ cap1 ≤ 9223372036854775807 := by
  obtain ⟨fuel, hf⟩ := h1; exact open_nums hf
 obtain ⟨a2, len2, cap2, rfl⟩ := okWide_slice uTensors (hval 2 29 v2 rfl rfl)
 obtain ⟨xs2, rfl, hR2, hI2, hc2, hd2⟩ : ∃ xs : List Ten, xs.length = len2 ∧ Row W a2 (xs.flatMap Ten.vals) ∧ (∀ t ∈ xs, (Ri W t.P t.zs ∧ Ri W t.D t.ds) ∧ t.zs.length ≤ t.cap ∧ t.ds.length ≤ t.dcap) ∧ len2 ≤ cap2 ∧ cap2 ≤ 9223372036854775807 := by
  obtain ⟨fuel, hf⟩ := h2; exact open_tcaps hf
 obtain ⟨n3, rfl, -, -, hn3⟩ := open_int uInt (hval 3 3 v3 rfl rfl) h3
 clear hA0
 obtain ⟨es, hZ, hK⟩ := errops_laid hL
 refine (opsays_c n0 xs1 xs2 a1 a2 cap1 cap2 n3 hn3 es W hR1 hR2 hI2 hZ hK).mono fun e W' ⟨he, bel⟩ => ?_
 subst he
 exact ⟨_, rfl, _, _, _, [], _, [], hW', trodAll_mk1 (shut_bool Tryz.underlying4 _), (trodAll_cons_mk (Below.trod laidOut (by kernel_rfl) (of_decide_eq_true (by kernel_rfl)) k0 bel lt0) (trodAll_cons_mk (Below.trod laidOut (by kernel_rfl) (of_decide_eq_true (by kernel_rfl)) k1 bel lt1) (trodAll_cons_mk (Below.trod laidOut (by kernel_rfl) (of_decide_eq_true (by kernel_rfl)) k2 bel lt2) (trodAll_cons_mk (Below.trod laidOut (by kernel_rfl) (of_decide_eq_true (by kernel_rfl)) k3 bel lt3) trodAll_mk0)))), rfl, bel.frame _, fun h => by cases h⟩
theorem said : Rows.OpSaysSaid :=
 OpenClaim.holds_of_cond 4 Tryz.f4 rfl rfl rfl rfl rfl rfl rfl ⟨rfl, rfl, rfl, rfl, rfl⟩ rfl rfl rfl rfl rfl (by kernel_rfl) Tryz.func4 (by kernel_rfl)
  (of_decide_eq_true (by kernel_rfl)) (by unfold Func.isWrapper; first | (rw [if_pos (by decide +kernel)]; kernel_rfl) | (rw [if_neg (by decide +kernel)]; exact ⟨rfl, rfl⟩))
  (fun os started H enc _ F => by rw [OpenClaim.pre_eq_preRow]; exact lifted os started H enc F)
theorem plain (f : FuncId) (fn : Func) (hf : Tryz.pinned.checked.prog.funcNamed "lodge/lodgelaw12.OpSays" = some f) (hfn : Tryz.pinned.checked.prog.funcs[f]? = some fn) :
  true = Tryz.pinned.checked.prog.looks [] ∧ ∀ (j : Nat) t, fn.params[j]? = some t → Tryz.pinned.checked.prog.wantsStandIn t = false := by
 obtain rfl : f = 4 := Option.some.inj ((show Tryz.prog.funcNamed "lodge/lodgelaw12.OpSays" = some 4 by kernel_rfl).symm.trans hf) |>.symm
 obtain rfl : fn = Tryz.f4 := (Option.some.inj (Tryz.func4.symm.trans hfn)).symm
 refine ⟨by kernel_rfl, fun j t ht => ?_⟩
 rw [Tryz.params4] at ht
 have g0 : Tryz.prog.wantsStandIn 3 = false := by kernel_rfl
 have g1 : Tryz.prog.wantsStandIn 22 = false := by kernel_rfl
 have g2 : Tryz.prog.wantsStandIn 29 = false := by kernel_rfl
 rcases j with _ | _ | _ | _ | j
 ·obtain rfl := Option.some.inj (show some 3 = some t from ht)
  exact g0
 ·obtain rfl := Option.some.inj (show some 22 = some t from ht)
  exact g1
 ·obtain rfl := Option.some.inj (show some 29 = some t from ht)
  exact g2
 ·obtain rfl := Option.some.inj (show some 3 = some t from ht)
  exact g0
 ·simp at ht
theorem card : Rows.OpSaysCardSaid :=
 Claim7.holds_tied_plain_at .later [] _ _ _ _ said (fun _ h => by cases h) (by kernel_rfl) (fun _ h => by cases h) opSays_row_tie rfl ⟨rfl, rfl⟩ (by kernel_rfl) rfl plain (by kernel_rfl)
end Go.Proofs.YtgdcfjmpjhlndaaGreatDoor.opSays
