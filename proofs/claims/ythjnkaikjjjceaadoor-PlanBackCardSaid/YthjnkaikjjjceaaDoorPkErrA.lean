/-
  The errors of package api, as the row's list lays them: each variable holds a pointer of its own. By an AI agent. No person has read it.
-/
import Derived.Test.YthjnkaikjjjceaaDoorPkBasA
import Derived.Test.YthjnkaikjjjceaaDoorRows
import Derived.Test.YthjnkaikjjjceaaDoorChecked
import Derived.ProofKit
import Derived.LaidLaws
import Derived.LaidSub
import Derived.MakeChecks
import Derived.LaidEql
import Derived.Lib.Hide
import Derived.Stop.LaidErr
import Derived.Test.YthjnkaikjjjceaaDoorCards
import Derived.Test.YthjnkaikjjjceaaDoorTie
import Derived.OpenShut
import Derived.ChangeOld
import Derived.Deep.DeepHandedRow
import Derived.Lay
import Derived.Deep.DeepWitnessRowRef
namespace Go.Proofs.YthjnkaikjjjceaaDoor
open Go.RowKit Go.ChangeShapes
theorem hidE {p : Prop} (h : p) : Hid p := h
/-- The variables' numbers, in the order of the errors' own. -/
def egs : List Nat := [4, 2, 0, 1, 3, 5, 6, 7, 8, 9, 10, 11, 12, 13, 14, 15, 16, 17, 18, 19, 20]
/-- The value of such a variable. -/
abbrev errv (a : Addr) : Value := .iface 154 (.pointer (some a))
/-- One of them holds a pointer to a. -/
def ErrIs (w : World) (g : Nat) (a : Addr) : Prop := w.cell? ⟨g, 0, none⟩ = some (errv a) ∧ g < w.heap.size ∧ a.block < w.heap.size ∧ ∃ c t, w.heap[a.block]? = some (.cells c t (0, 0))
def Ez (w : World) (es : List Addr) : Prop := es.length = 21 ∧ es.Nodup ∧ ∀ (i g : Nat) (a : Addr), egs[i]? = some g → es[i]? = some a → ErrIs w g a

theorem ErrIs.below {w wr : World} {g : Nat} {a : Addr} (h : ErrIs w g a) (hb : Below w.heap.size w wr) : ErrIs wr g a := by
  obtain ⟨h1, h2, h3, c, t, h4⟩ := h
  refine ⟨(hb.cell (p := ⟨g, 0, none⟩) h2).trans h1, Nat.lt_of_lt_of_le h2 hb.size, Nat.lt_of_lt_of_le h3 hb.size, c, t, (hb.block _ h3).trans h4⟩
theorem Ez.below {w wr : World} {es : List Addr} (h : Ez w es) (hb : Below w.heap.size w wr) : Ez wr es :=
  ⟨h.1, h.2.1, fun i g a h1 h2 => (h.2.2 i g a h1 h2).below hb⟩

theorem und_err : Tryd.prog.underlying 32 = some (.interface #[("Error", 155)]) := by kernel_rfl
theorem star_errs : "*" ++ "errors.errorString" = "*errors.errorString" := by decide
theorem row_errs (u : TypeId) (h : Tryd.prog.typeName? 3 u = some "*errors.errorString") : u = 154 :=
  typeName_ptr_named (nm := "errors.errorString") (by rw [star_errs]; kernel_rfl) (by kernel_rfl) (by decide) u (by rw [star_errs]; exact h)
theorem und_perrs : Tryd.prog.underlying 154 = some (.pointer 170) := by kernel_rfl
theorem und_str : Tryd.prog.underlying 9 = some .string := by kernel_rfl
theorem cells_errs : Tryd.prog.cellsOf 170 = 1 := by kernel_rfl
theorem cells_str : Tryd.prog.cellsOf 9 = 1 := by kernel_rfl
theorem und_errs : ∃ f : Field, Tryd.prog.underlying 170 = some (.struct #[f]) ∧ f.type = 9 ∧ f.offset = 0 := ⟨_, Tryd.underlying170, rfl, rfl⟩

set_option maxRecDepth 100000 in
/-- What a list of such variables gives: to each an address of its own. -/
theorem errs_of {W : World} : ∀ (L : List (String × DataW Unit)) (ps : List MemPlace), DataW.LaidVars Tryd.prog W L ps → ps.Nodup →
    (∀ b off, MemPlace.cell b off ∈ ps → (∃ c t, W.heap[b]? = some (.cells c t (0, 0))) ∧ ∀ u v, W.cell? ⟨b, off, none⟩ = some (.iface u v) → Value.okWide Tryd.prog W .any 0 u v) →
    (∀ x ∈ L, ∃ text, x.2 = .iface "*errors.errorString" (.ptr (.agg [.lit (.string text)]))) → (∀ x ∈ L, ∃ g, Tryd.prog.globalNamed x.1 = some g ∧ (Tryd.prog.globals[g]?).map (·.type) = some 32) →
    ∃ es : List Addr, es.length = L.length ∧ es.Nodup ∧ (∀ a ∈ es, MemPlace.cell a.block a.off ∈ ps) ∧ ∀ (i : Nat) (x : String × DataW Unit) (a : Addr), L[i]? = some x → es[i]? = some a → ∃ g, Tryd.prog.globalNamed x.1 = some g ∧ ErrIs W g a
  | [], ps, _, _, _, _, _ => ⟨[], rfl, List.nodup_nil, fun a h => by simp at h, fun i x a h => by simp at h⟩
  | (n, d) :: r, ps, hl, hnd, hrows, hd, hg => by
    obtain ⟨g0, t0, cs0, f0, p0, q0, hg0, ht0, hv0, hd0, hq, e0⟩ := hl
    obtain ⟨text, htx⟩ := hd _ (List.mem_cons_self ..)
    obtain ⟨g1, hg1, ht1⟩ := hg _ (List.mem_cons_self ..)
    obtain rfl := Option.some.inj (hg1.symm.trans hg0)
    obtain rfl := Option.some.inj (ht1.symm.trans ht0)
    subst e0
    have htx' : d = .iface "*errors.errorString" (.ptr (.agg [.lit (.string text)])) := htx
    rw [htx'] at hd0
    obtain ⟨l0⟩ := cs0
    have ok0 : ∀ u v, l0 = [.iface u v] → Value.okWide Tryd.prog W .any 0 u v := fun u v e => by
      subst e
      exact (hrows g1 0 (by simp [MemPlace.row])).2 u v (by simpa using World.var?_cell hg1 hv0 0)
    obtain ⟨fd, he, hft, hfo⟩ := und_errs
    obtain ⟨a0, s0, rfl, hc0, hs0, hz0, rfl⟩ := errorString_of_trod und_err row_errs und_perrs he hft hfo und_str cells_errs cells_str hd0 ok0
    obtain ⟨es, h1, h2, h3, h4⟩ := errs_of r q0 hq (hnd.sublist (List.sublist_append_right _ _)) (fun b off hm => hrows b off (List.mem_append_right _ hm)) (fun x hx => hd x (List.mem_cons_of_mem _ hx)) (fun x hx => hg x (List.mem_cons_of_mem _ hx))
    have hpa : MemPlace.cell a0.block a0.off ∈ MemPlace.row a0 1 := by simp [MemPlace.row]
    refine ⟨a0 :: es, by simp [h1], ?_, fun a ha => ?_, fun i x a hx ha => ?_⟩
    · rw [List.nodup_cons]
      refine ⟨fun hm => ?_, h2⟩
      rw [List.append_assoc] at hnd
      have h5 := (List.nodup_append.1 (List.nodup_append.1 hnd).2.1).2.2 _ hpa _ (h3 a0 hm)
      exact h5 rfl
    · rcases List.mem_cons.1 ha with rfl | ha
      · exact List.mem_append_left _ (List.mem_append_right _ hpa)
      · exact List.mem_append_right _ (h3 a ha)
    · match i, hx, ha with
      | 0, hx, ha =>
        obtain rfl := Option.some.inj hx
        obtain rfl := Option.some.inj ha
        have hb := (hrows a0.block a0.off (List.mem_append_left _ (List.mem_append_right _ hpa))).1
        have hlt : ∀ {b : Nat}, (∃ c t, W.heap[b]? = some (.cells c t (0, 0))) → b < W.heap.size := fun {b} ⟨c, t, h⟩ => by
          rcases Nat.lt_or_ge b W.heap.size with h' | h'
          · exact h'
          · rw [Array.getElem?_eq_none h'] at h; cases h
        refine ⟨g1, hg1, by simpa using World.var?_cell hg1 hv0 0, hlt (hrows g1 0 (by simp [MemPlace.row])).1, hlt hb, hb⟩
      | i + 1, hx, ha => exact h4 i x a (by simpa using hx) (by simpa using ha)

/-- The errors' part of a row's list. -/
def laidErrs : List (String × DataW Unit) := [("lodge/api.ErrShape", Rows.laid_lodge_api_ErrShape), ("lodge/api.ErrRange", Rows.laid_lodge_api_ErrRange), ("lodge/api.ErrKind", Rows.laid_lodge_api_ErrKind), ("lodge/api.ErrMany", Rows.laid_lodge_api_ErrMany), ("lodge/api.ErrEnd", Rows.laid_lodge_api_ErrEnd), ("lodge/api.ErrRoom", Rows.laid_lodge_api_ErrRoom), ("lodge/api.ErrNone", Rows.laid_lodge_api_ErrNone), ("lodge/api.ErrAlias", Rows.laid_lodge_api_ErrAlias), ("lodge/api.ErrCost", Rows.laid_lodge_api_ErrCost), ("lodge/api.ErrJump", Rows.laid_lodge_api_ErrJump), ("lodge/api.ErrCycle", Rows.laid_lodge_api_ErrCycle), ("lodge/api.ErrFuel", Rows.laid_lodge_api_ErrFuel), ("lodge/api.ErrFull", Rows.laid_lodge_api_ErrFull), ("lodge/api.ErrQuota", Rows.laid_lodge_api_ErrQuota), ("lodge/api.ErrCap", Rows.laid_lodge_api_ErrCap), ("lodge/api.ErrStale", Rows.laid_lodge_api_ErrStale), ("lodge/api.ErrTag", Rows.laid_lodge_api_ErrTag), ("lodge/api.ErrOld", Rows.laid_lodge_api_ErrOld), ("lodge/api.ErrTenant", Rows.laid_lodge_api_ErrTenant), ("lodge/api.ErrWord", Rows.laid_lodge_api_ErrWord), ("lodge/api.ErrNumber", Rows.laid_lodge_api_ErrNumber)]
theorem errs_glob : (laidErrs.map fun x => Tryd.prog.globalNamed x.1) = egs.map some := by kernel_rfl
theorem errs_type : (egs.map fun g => (Tryd.prog.globals[g]?).map (·.type)) = egs.map fun _ => some 32 := by kernel_rfl
theorem errs_data : ∀ x ∈ laidErrs, ∃ text, x.2 = .iface "*errors.errorString" (.ptr (.agg [.lit (.string text)])) := by
  intro x hx
  unfold laidErrs at hx
  simp only [List.mem_cons, List.not_mem_nil, or_false] at hx
  rcases hx with rfl | rfl | rfl | rfl | rfl | rfl | rfl | rfl | rfl | rfl | rfl | rfl | rfl | rfl | rfl | rfl | rfl | rfl | rfl | rfl | rfl <;> exact ⟨_, rfl⟩
theorem errs_at (i : Nat) (x : String × DataW Unit) (h : laidErrs[i]? = some x) : ∃ g, egs[i]? = some g ∧ Tryd.prog.globalNamed x.1 = some g ∧ (Tryd.prog.globals[g]?).map (·.type) = some 32 := by
  have h1 := congrArg (fun l => l[i]?) errs_glob
  simp only [List.getElem?_map, h, Option.map_some] at h1
  cases hg : egs[i]? with
  | none => rw [hg] at h1; simp at h1
  | some g =>
    rw [hg] at h1
    have h2 := congrArg (fun l => l[i]?) errs_type
    simp only [List.getElem?_map, hg, Option.map_some] at h2
    exact ⟨g, rfl, Option.some.inj h1, Option.some.inj h2⟩
theorem ez_of {W : World} (h : laidMet Tryd.prog laidErrs W) : ∃ es, Ez W es := by
  obtain ⟨ps, hl, hnd, hrows⟩ := h
  obtain ⟨es, h1, h2, -, h4⟩ := errs_of laidErrs ps hl hnd hrows errs_data (fun x hx => by
    obtain ⟨i, hi⟩ := List.mem_iff_getElem?.1 hx
    obtain ⟨g, -, hg⟩ := errs_at i x hi
    exact ⟨g, hg⟩)
  refine ⟨es, h1, h2, fun i g a hg ha => ?_⟩
  have hil : i < laidErrs.length := by rw [← h1]; exact (List.getElem?_eq_some_iff.1 ha).1
  obtain ⟨g', hg', hn, -⟩ := errs_at i _ (List.getElem?_eq_getElem hil)
  obtain rfl := Option.some.inj (hg.symm.trans hg')
  obtain ⟨g2, hn2, he⟩ := h4 i _ a (List.getElem?_eq_getElem hil) ha
  obtain rfl := Option.some.inj (hn.symm.trans hn2)
  exact he
end Go.Proofs.YthjnkaikjjjceaaDoor
namespace Go.Proofs.YthjnkaikjjjceaaDoor
open Go.ChangeShapes Go.WideShapes Go.ChangeAt Go.RowKit
theorem own : ownKnob Tryd.prog.godebug = none := by kernel_rfl
theorem laidOut : laidOutB Tryd.prog = true := by kernel_rfl
theorem uInt : Tryd.prog.underlying 3 = some (.int .i64) := by kernel_rfl
theorem uNums : Tryd.prog.underlying 46 = some (.slice 3) := uis
/-- A slice of numbers that came in, as the walks ask for it. -/
theorem open_nums {H : Type} {enc : TypeId × Value → H} {W : World} {A : Option Addr} {len cap fuel : Nat} {x : DataW H × List MemPlace} {sp : Nat → Bool} {held : Bool} {base : Nat}
    (h : DataW.trod enc Tryd.prog W base sp held fuel 46 [.slice A len cap] = some x) :
    ∃ zs : List Int, zs.length = len ∧ Ri W A zs ∧ len ≤ cap ∧ cap ≤ 9223372036854775807 := by
  have hlt := DataW.trod_lt _ _ _ _ h
  rcases open_ints uNums uInt (by kernel_rfl) h with ⟨hcs, _⟩ | ⟨a, l, c, zs, hcs, _, hl, hm, hz, hx, hcell, hwz⟩
  · simp at hcs
    obtain ⟨rfl, rfl, rfl⟩ := hcs
    exact ⟨[], rfl, Ri.nil W none, by omega, by omega⟩
  · simp at hcs
    obtain ⟨rfl, rfl, rfl⟩ := hcs
    have hzl : len ≤ zs.length := by rw [hz]; split <;> omega
    refine ⟨zs.take len, by simp; omega, ⟨fun z hb => hwz z (List.mem_of_mem_take hb), fun hn => ⟨a, rfl, ?_, fun i z hi => ?_⟩⟩, hl, by unfold maxLen at hm; omega⟩
    · subst hx
      have hpos : 0 < zs.length := by
        rcases Nat.eq_zero_or_pos zs.length with h0 | h0
        · exact absurd (by rw [List.length_eq_zero_iff.1 h0]; simp) hn
        · exact h0
      exact hlt (MemPlace.cell a.block (a.off + 0)) (MemPlace.mem_row.2 ⟨0, hpos, rfl⟩)
    · rw [List.getElem?_take] at hi
      split at hi
      · have h1 := (List.getElem?_eq_some_iff.1 hi).1
        rw [hcell i h1, List.getD_eq_getElem?_getD, hi, Option.getD_some]
      · cases hi
/-- What the errors' list gives. -/
theorem errs_laid {W : World} (h : laidMetH Tryd.prog laidErrs W) : ∃ es, Ez W es := ez_of (show laidMet Tryd.prog laidErrs W from h)
end Go.Proofs.YthjnkaikjjjceaaDoor
