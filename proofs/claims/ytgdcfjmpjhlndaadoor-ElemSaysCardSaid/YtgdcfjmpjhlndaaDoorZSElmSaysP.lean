/-
  For every int, every tensor, every tensor, every slice of numbers the law ElemSays of package lodgelaw7 returns true, never panics, and leaves its arguments as they were.
  Conditions: those of the given card; the package-level variables that it lists hold what their text lays. By an AI agent. No person has read it.
-/
import Derived.Test.YtgdcfjmpjhlndaaDoorZSTenCard
import Derived.Test.YtgdcfjmpjhlndaaDoorZSBasCard
import Derived.Test.YtgdcfjmpjhlndaaDoorZSElmSays
namespace Go.Proofs.YtgdcfjmpjhlndaaDoor.elemSays
open Go.ChangeShapes Go.WideShapes Go.ChangeAt Go.RowKit
noncomputable def laidWorld (os : Os) : World := World.laidAll Tryd.prog os Rows.elemSaysRow.laid
theorem laid_met (os : Os) : laidMet Tryd.prog Rows.elemSaysRow.laid ((laidWorld os).forCall (fun _ _ => 0) ⟨#[], #[.int .i64 0, .agg #[.slice none 0 0, .bool false, .slice none 0 0], .agg #[.slice none 0 0, .bool false, .slice none 0 0], .slice none 0 0], []⟩).memory :=
  laidMet_laidAll _ (by kernel_rfl) (by kernel_rfl)
theorem reads (os : Os) {H : Type} (enc : TypeId × Value → H) : ∃ places, DataW.whole enc Tryd.prog ((laidWorld os).forCall (fun _ _ => 0) ⟨#[], #[.int .i64 0, .agg #[.slice none 0 0, .bool false, .slice none 0 0], .agg #[.slice none 0 0, .bool false, .slice none 0 0], .slice none 0 0], []⟩).memory Tryd.f3.params.toList Rows.elemSaysSpec.vars false #[Value.int .i64 0, Value.agg #[.slice none 0 0, .bool false, .slice none 0 0], Value.agg #[.slice none 0 0, .bool false, .slice none 0 0], Value.slice none 0 0].toList 8 = some ([.lit (.int .i64 0), .agg [.agg [.nil, .lit (.bool false)], .nil], .agg [.agg [.nil, .lit (.bool false)], .nil], .nil], [], places) :=
  ⟨[], by kernel_rfl⟩

set_option maxRecDepth 100000 in
theorem lifted (os : Os) (started : os.Started) (H : Type) (enc : TypeId × Value → H) (F : Stop.Interp) :
    ReturnsInHanded {} Tryd.checked os 3 .any ((OpenSpec.ofChange Rows.elemSaysSpec).preRow enc Tryd.prog Tryd.f3 Rows.elemSaysRow.domain false Rows.elemSaysRow.laid) (((OpenSpec.ofChange Rows.elemSaysSpec).at F).post enc Tryd.prog Tryd.f3 false true false false) := by
  obtain ⟨places, hx⟩ := reads os enc
  refine returnsInHanded_of_row (C := Tryd.checked) (s := OpenSpec.ofChange Rows.elemSaysSpec) own started (by kernel_rfl) Tryd.func3
    (witness_row_atRef (enc := enc) (C := Tryd.checked) false (laidWorld os) #[.int .i64 0, .agg #[.slice none 0 0, .bool false, .slice none 0 0], .agg #[.slice none 0 0, .bool false, .slice none 0 0], .slice none 0 0] rfl (by kernel_rfl) (by kernel_rfl) (by kernel_rfl)
      (OpenSpec.preRow_of_cond 8 hx (by kernel_rfl) (fun k hk => by cases hk) (by kernel_rfl) (laid_met os))) ?_
  intro W base args ds gs before hval hW _ _ _ hL _ _
  have hW' := hW
  obtain ⟨p, q, hA0, hV, rfl, hfz, hnd⟩ := hW
  have hA : DataW.TrodAll enc Tryd.prog W 0 (fun _ => true) true Tryd.f3.params.toList args.toList ds p := hA0
  rw [Tryd.params3] at hA hval
  obtain ⟨v0, vs0, d0, ds0, p0, q0, hargs, rfl, rfl, h0, r0⟩ := trodAll_cons hA
  obtain ⟨v1, vs1, d1, ds1, p1, q1, rfl, rfl, rfl, h1, r1⟩ := trodAll_cons r0
  obtain ⟨v2, vs2, d2, ds2, p2, q2, rfl, rfl, rfl, h2, r2⟩ := trodAll_cons r1
  obtain ⟨v3, vs3, d3, ds3, p3, q3, rfl, rfl, rfl, h3, r3⟩ := trodAll_cons r2
  obtain ⟨rfl, rfl, rfl⟩ := trodAll_nil r3
  obtain rfl : args = #[v0, v1, v2, v3] := by cases args; simp_all
  obtain ⟨rfl, rfl⟩ := trodVars_none hV
  have k0 := h0
  have k1 := h1
  have k2 := h2
  have k3 := h3
  have lt0 : ∀ x ∈ p0, x.block < W.heap.size := by obtain ⟨m, hm⟩ := k0; exact DataW.trod_lt m _ _ _ hm
  have lt1 : ∀ x ∈ p1, x.block < W.heap.size := by obtain ⟨m, hm⟩ := k1; exact DataW.trod_lt m _ _ _ hm
  have lt2 : ∀ x ∈ p2, x.block < W.heap.size := by obtain ⟨m, hm⟩ := k2; exact DataW.trod_lt m _ _ _ hm
  have lt3 : ∀ x ∈ p3, x.block < W.heap.size := by obtain ⟨m, hm⟩ := k3; exact DataW.trod_lt m _ _ _ hm
  obtain ⟨n0, rfl, -, -, hn0⟩ := open_int uInt (hval 0 3 v0 rfl rfl) h0
  obtain ⟨xs1, a1, cap1, u1, ys1, b1, dcap1, rfl, hR1, hc1, hd1, hS1, hcc1, hdd1⟩ := open_tensor (hval 1 26 v1 rfl rfl) h1
  obtain ⟨xs2, a2, cap2, u2, ys2, b2, dcap2, rfl, hR2, hc2, hd2, hS2, hcc2, hdd2⟩ := open_tensor (hval 2 26 v2 rfl rfl) h2
  obtain ⟨a3, len3, cap3, rfl⟩ := okWide_slice uNums (hval 3 22 v3 rfl rfl)
  obtain ⟨xs3, rfl, hR3, hc3, hd3⟩ : ∃ xs : List Int, xs.length = len3 ∧ Ri W a3 xs ∧ len3 ≤ cap3 ∧ cap3 ≤ 9223372036854775807 := by
    obtain ⟨fuel, hf⟩ := h3; exact open_nums hf
  clear hA0
  obtain ⟨es, hE⟩ := errs_laid hL
  refine (elmsays_c n0 ⟨a1, xs1, cap1, u1, b1, ys1, dcap1⟩ ⟨a2, xs2, cap2, u2, b2, ys2, dcap2⟩ xs3 a3 cap3 es W ⟨hR1, hS1⟩ ⟨hR2, hS2⟩ ⟨hc1, hcc1⟩ ⟨hc2, hcc2⟩ hR3 hE).mono fun e W' ⟨he, bel⟩ => ?_
  subst he
  exact ⟨_, rfl, _, _, _, [], _, [], hW', trodAll_mk1 (shut_bool Tryd.underlying4 _), (trodAll_cons_mk (Below.trod laidOut (by kernel_rfl) (of_decide_eq_true (by kernel_rfl)) k0 bel lt0) (trodAll_cons_mk (Below.trod laidOut (by kernel_rfl) (of_decide_eq_true (by kernel_rfl)) k1 bel lt1) (trodAll_cons_mk (Below.trod laidOut (by kernel_rfl) (of_decide_eq_true (by kernel_rfl)) k2 bel lt2) (trodAll_cons_mk (Below.trod laidOut (by kernel_rfl) (of_decide_eq_true (by kernel_rfl)) k3 bel lt3) trodAll_mk0)))), rfl, bel.frame _, fun h => by cases h⟩

theorem said : Rows.ElemSaysSaid :=
  OpenClaim.holds_of_cond 3 Tryd.f3 rfl rfl rfl rfl rfl rfl rfl ⟨rfl, rfl, rfl, rfl, rfl⟩ rfl rfl rfl rfl rfl (by kernel_rfl) Tryd.func3 (by kernel_rfl)
    (of_decide_eq_true (by kernel_rfl)) (by unfold Func.isWrapper; first | (rw [if_pos (by decide +kernel)]; kernel_rfl) | (rw [if_neg (by decide +kernel)]; exact ⟨rfl, rfl⟩))
    (fun os started H enc _ F => by rw [OpenClaim.pre_eq_preRow]; exact lifted os started H enc F)

/-- No parameter wants a stand-in; the program's own looks are off. -/
theorem plain (f : FuncId) (fn : Func) (hf : Tryd.pinned.checked.prog.funcNamed "lodge/lodgelaw7.ElemSays" = some f) (hfn : Tryd.pinned.checked.prog.funcs[f]? = some fn) :
    true = Tryd.pinned.checked.prog.looks [] ∧ ∀ (j : Nat) t, fn.params[j]? = some t → Tryd.pinned.checked.prog.wantsStandIn t = false := by
  obtain rfl : f = 3 := Option.some.inj ((show Tryd.prog.funcNamed "lodge/lodgelaw7.ElemSays" = some 3 by kernel_rfl).symm.trans hf) |>.symm
  obtain rfl : fn = Tryd.f3 := (Option.some.inj (Tryd.func3.symm.trans hfn)).symm
  refine ⟨by kernel_rfl, fun j t ht => ?_⟩
  rw [Tryd.params3] at ht
  have g0 : Tryd.prog.wantsStandIn 3 = false := by kernel_rfl
  have g1 : Tryd.prog.wantsStandIn 26 = false := by kernel_rfl
  have g2 : Tryd.prog.wantsStandIn 22 = false := by kernel_rfl
  rcases j with _ | _ | _ | _ | j
  · obtain rfl := Option.some.inj (show some 3 = some t from ht)
    exact g0
  · obtain rfl := Option.some.inj (show some 26 = some t from ht)
    exact g1
  · obtain rfl := Option.some.inj (show some 26 = some t from ht)
    exact g1
  · obtain rfl := Option.some.inj (show some 22 = some t from ht)
    exact g2
  · simp at ht

/-- ████ THE CARD ████ -/
theorem card : Rows.ElemSaysCardSaid :=
  Claim7.holds_tied_plain_at .later [] _ _ _ _ said (fun _ h => by cases h) (by kernel_rfl) (fun _ h => by cases h) elemSays_row_tie rfl ⟨rfl, rfl⟩ (by kernel_rfl) rfl plain (by kernel_rfl)
end Go.Proofs.YtgdcfjmpjhlndaaDoor.elemSays
