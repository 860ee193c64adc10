/-
  What the cards of a seat share. By an AI agent. No person has read it.
-/
import Derived.Test.YtgdcfjmpjhlndaaGreatDoorZOBasA
import Derived.Test.YtgdcfjmpjhlndaaGreatDoorZOErrA
import Derived.Test.YtgdcfjmpjhlndaaGreatDoorZOTenA
import Derived.Test.YtgdcfjmpjhlndaaGreatDoorZOOpA
import Derived.Test.YtgdcfjmpjhlndaaGreatDoorZOElmR
import Derived.Test.YtgdcfjmpjhlndaaGreatDoorCards
import Derived.Test.YtgdcfjmpjhlndaaGreatDoorTie
import Derived.ProofKit
import Derived.OpenShut
import Derived.ChangeOld
import Derived.Deep.DeepHandedRow
import Derived.Lay
import Derived.Deep.DeepWitnessRowRef
import Derived.ChangeSame
import Derived.Deep.Strs
namespace Go.Proofs.YtgdcfjmpjhlndaaGreatDoor
open Go.ChangeShapes Go.WideShapes Go.ChangeAt Go.RowKit
theorem own : ownKnob Tryz.prog.godebug = none := by kernel_rfl
theorem laidOut : laidOutB Tryz.prog = true := by kernel_rfl
theorem uInt : Tryz.prog.underlying 3 = some (.int .i64) := by kernel_rfl
theorem uNums : Tryz.prog.underlying 22 = some (.slice 3) := uis
theorem open_nums {H : Type} {enc : TypeId × Value → H} {W : World} {A : Option Addr} {len cap fuel : Nat} {x : DataW H × List MemPlace} {sp : Nat → Bool} {held : Bool} {base : Nat}
  (h : DataW.trod enc Tryz.prog W base sp held fuel 22 [.slice A len cap] = some x) :
  ∃ zs : List Int, zs.length = len ∧ Ri W A zs ∧ len ≤ cap ∧ cap ≤ 9223372036854775807 := by
 have hlt := DataW.trod_lt _ _ _ _ h
 rcases open_ints uNums uInt (by kernel_rfl) h with ⟨hcs, _⟩ | ⟨a, l, c, zs, hcs, _, hl, hm, hz, hx, hcell, hwz⟩
 ·simp at hcs
  obtain ⟨rfl, rfl, rfl⟩ := hcs
  exact ⟨[], rfl, Ri.nil W none, by omega, by omega⟩
 ·simp at hcs
  obtain ⟨rfl, rfl, rfl⟩ := hcs
  have hzl : len ≤ zs.length := by rw [hz]; split <;> omega
  refine ⟨zs.take len, by simp; omega, ⟨fun z hb => hwz z (List.mem_of_mem_take hb), fun hn => ⟨a, rfl, ?_, fun i z hi => ?_⟩⟩, hl, by unfold maxLen at hm; omega⟩
  ·subst hx
   have hpos : 0 < zs.length := by
    rcases Nat.eq_zero_or_pos zs.length with h0 | h0
    ·exact absurd (by rw [List.length_eq_zero_iff.1 h0]; simp) hn
    ·exact h0
   exact hlt (MemPlace.cell a.block (a.off + 0)) (MemPlace.mem_row.2 ⟨0, hpos, rfl⟩)
  ·rw [List.getElem?_take] at hi
   split at hi
   ·have h1 := (List.getElem?_eq_some_iff.1 hi).1
    rw [hcell i h1, List.getD_eq_getElem?_getD, hi, Option.getD_some]
   ·cases hi
theorem errs_laid {W : World} (h : laidMetH Tryz.prog laidErrs W) : ∃ es, Ez W es := ez_of (show laidMet Tryz.prog laidErrs W from h)
end Go.Proofs.YtgdcfjmpjhlndaaGreatDoor
namespace Go.Proofs.YtgdcfjmpjhlndaaGreatDoor
open Go.ChangeShapes Go.WideShapes Go.ChangeAt Go.RowKit
theorem ten_c2 : Tryz.prog.cellsOf 24 = 2 := by kernel_rfl
theorem ten_c3 : Tryz.prog.cellsOf 26 = 3 := by kernel_rfl
theorem ten_n1 : Tryz.prog.cellsOf 22 = 1 := by kernel_rfl
theorem ten_b1 : Tryz.prog.cellsOf 4 = 1 := by kernel_rfl
theorem uBool : Tryz.prog.underlying 4 = some .bool := by kernel_rfl
theorem nums_cell {H : Type} {enc : TypeId × Value → H} {W : World} {c : Value} {fuel : Nat} {x : DataW H × List MemPlace} {sp : Nat → Bool} {held : Bool} {base : Nat}
  (h : DataW.trod enc Tryz.prog W base sp held fuel 22 [c] = some x) : ∃ (zs : List Int) (A : Option Addr) (cap : Nat), c = .slice A zs.length cap ∧ Ri W A zs ∧ zs.length ≤ cap ∧ cap ≤ 9223372036854775807 := by
 obtain ⟨A, len, cap, rfl⟩ : ∃ A len cap, c = .slice A len cap := by
  rcases open_ints uNums uInt (by kernel_rfl) h with ⟨hcs, _⟩ | ⟨a, l, c, zs, hcs, _⟩
  ·exact ⟨none, 0, 0, by simpa using hcs⟩
  ·exact ⟨some a, l, c, by simpa using hcs⟩
 obtain ⟨zs, rfl, hR, hc, hd⟩ := open_nums h
 exact ⟨zs, A, cap, rfl, hR, hc, hd⟩
set_option maxRecDepth 100000 in
theorem desc_cells {H : Type} {enc : TypeId × Value → H} {W : World} {c0 c1 : Value} {fuel : Nat} {x : DataW H × List MemPlace} {sp : Nat → Bool} {held : Bool} {base : Nat}
  (h : DataW.trod enc Tryz.prog W base sp held fuel 24 [c0, c1] = some x) : ∃ (zs : List Int) (A : Option Addr) (cap : Nat) (u : Bool), c0 = .slice A zs.length cap ∧ c1 = .bool u ∧ Ri W A zs ∧ zs.length ≤ cap ∧ cap ≤ 9223372036854775807 := by
 obtain ⟨y0, y1, n, -, -, h0, h1⟩ := trod_struct2 Tryz.underlying24 h
 dsimp only at h0 h1
 rw [ten_n1] at h0
 rw [ten_b1] at h1
 simp only [List.drop_zero, List.take_succ_cons, List.take_zero, List.drop_succ_cons] at h0 h1
 obtain ⟨u, hu, -⟩ := DataW.trod_bool uBool h1
 obtain ⟨zs, A, cap, rfl, hR, hc, hd⟩ := nums_cell h0
 exact ⟨zs, A, cap, u, rfl, by simpa using hu, hR, hc, hd⟩
end Go.Proofs.YtgdcfjmpjhlndaaGreatDoor
namespace Go.Proofs.YtgdcfjmpjhlndaaGreatDoor
open Go.ChangeShapes Go.WideShapes Go.ChangeAt Go.RowKit
theorem laid_split {P : Program} {W : World} : ∀ (L M : List (String × DataW Unit)) (ps : List MemPlace), DataW.LaidVars P W (L ++ M) ps → ∃ p q, ps = p ++ q ∧ DataW.LaidVars P W L p ∧ DataW.LaidVars P W M q
 | [], _, ps, h => ⟨[], ps, rfl, rfl, h⟩
 | (_, _) :: L, M, ps, ⟨g, t, cs, f, p, q, h1, h2, h3, h4, h5, e⟩ => by
  obtain ⟨q1, q2, rfl, h6, h7⟩ := laid_split L M q h5
  exact ⟨MemPlace.row ⟨g, 0, none⟩ cs.size ++ p ++ q1, q2, by rw [e, List.append_assoc _ q1 q2], ⟨g, t, cs, f, p, q1, h1, h2, h3, h4, h6, rfl⟩, h7⟩
def Op.kdata : List (DataW Unit) := (List.range 18).map fun i => .agg [.lit (.string (Op.names.getD i [])), .lit (.int .i64 (Op.nin.getD i 0 : Nat)), .lit (.int .i64 (Op.narg.getD i 0 : Nat))]
theorem laid_is : (Rows.laid_lodge_op_kinds : DataW Unit) = .agg Op.kdata := by kernel_rfl
theorem und_kinds : Tryz.prog.underlying 91 = some (.array 18 90) := Tryz.underlying91
theorem und_string : Tryz.prog.underlying 9 = some .string := by kernel_rfl
theorem und_int : Tryz.prog.underlying 3 = some (.int .i64) := by kernel_rfl
theorem cof_kind : Tryz.prog.cellsOf 90 = 3 := by kernel_rfl
theorem cof_kinds : Tryz.prog.cellsOf 91 = 54 := by kernel_rfl
theorem cof_string : Tryz.prog.cellsOf 9 = 1 := by kernel_rfl
theorem cof_int : Tryz.prog.cellsOf 3 = 1 := by kernel_rfl
theorem und_kind : ∃ f0 f1 f2 : Field, Tryz.prog.underlying 90 = some (.struct #[f0, f1, f2]) ∧ (f0.type = 9 ∧ f0.offset = 0) ∧ (f1.type = 3 ∧ f1.offset = 1) ∧ f2.type = 3 ∧ f2.offset = 2 :=
 ⟨_, _, _, Tryz.underlying90, ⟨rfl, rfl⟩, ⟨rfl, rfl⟩, rfl, rfl⟩
theorem take_one {L : List Value} {j : Nat} {v : Value} (h : (L.drop j).take 1 = [v]) : L[j]? = some v := by
 have := congrArg (·[0]?) h
 simpa [List.getElem?_take, List.getElem?_drop] using this
theorem kind_cells {W : World} {fuel : Nat} {L : List Value} {y : DataW Unit × List MemPlace} {bs : List UInt8} {a b : Int}
  (h : DataW.trod (fun _ => ()) Tryz.prog W 0 (fun _ => true) false fuel 90 L = some y) (hy : y.1 = .agg [.lit (.string bs), .lit (.int .i64 a), .lit (.int .i64 b)]) :
  L[0]? = some (.string ⟨bs.toArray⟩) ∧ L[1]? = some (.int .i64 a) ∧ L[2]? = some (.int .i64 b) := by
 obtain ⟨f0, f1, f2, hu, ⟨t0, o0⟩, ⟨t1, o1⟩, t2, o2⟩ := und_kind
 obtain ⟨y0, y1, y2, n, rfl, -, h0, h1, h2⟩ := Go.Deep.trod_struct3 hu h
 rw [t0, o0, cof_string] at h0
 rw [t1, o1, cof_int] at h1
 rw [t2, o2, cof_int] at h2
 obtain ⟨s, e0, rfl, -⟩ := DataW.trod_string und_string h0
 obtain ⟨x1, e1, rfl, -⟩ := DataW.trod_int und_int h1
 obtain ⟨x2, e2, rfl, -⟩ := DataW.trod_int und_int h2
 simp only [DataW.agg.injEq, List.cons.injEq, DataW.lit.injEq, Lit.string.injEq, Lit.int.injEq, and_true, true_and] at hy
 obtain ⟨rfl, rfl, rfl⟩ := hy
 exact ⟨take_one e0, take_one e1, take_one e2⟩
theorem kinds_cells {W : World} {fuel : Nat} {cs : List Value} {p : List MemPlace} (h : DataW.trod (fun _ => ()) Tryz.prog W 0 (fun _ => true) false fuel 91 cs = some (Rows.laid_lodge_op_kinds, p)) : cs = Op.kcells := by
 obtain ⟨xs, m, -, hx, hl, hn, hi⟩ := DataW.trod_array und_kinds h
 rw [cof_kinds] at hl
 rw [laid_is] at hx
 have hxs : xs.map (·.1) = Op.kdata := by
  have := congrArg Prod.fst hx
  simp only [DataW.agg.injEq] at this
  exact this.symm
 have hat : ∀ i, i < 18 → cs[i * 3]? = Op.kcells[i * 3]? ∧ cs[i * 3 + 1]? = Op.kcells[i * 3 + 1]? ∧ cs[i * 3 + 2]? = Op.kcells[i * 3 + 2]? := fun i hlt => by
  have h1 := hi i hlt
  rw [cof_kind] at h1
  obtain ⟨y, hy⟩ : ∃ y, xs[i]? = some y := ⟨_, List.getElem?_eq_getElem (by omega)⟩
  rw [hy] at h1
  have h2 : (xs.map (·.1))[i]? = some y.1 := by rw [List.getElem?_map, hy]; rfl
  rw [hxs] at h2
  unfold Op.kdata at h2
  rw [List.getElem?_map, List.getElem?_range hlt] at h2
  obtain ⟨k0, k1, k2⟩ := kind_cells h1 (Option.some.inj h2).symm
  obtain ⟨c0, c1, c2⟩ := Op.cells_at i hlt
  rw [List.getElem?_take, if_pos (by decide), List.getElem?_drop] at k0 k1 k2
  rw [c0, c1, c2]
  exact ⟨k0, k1, k2⟩
 refine List.ext_getElem? fun q => ?_
 rcases Nat.lt_or_ge q 54 with hq | hq
 ·obtain ⟨a1, a2, a3⟩ := hat (q / 3) (by omega)
  have h3 := Nat.div_add_mod q 3
  have h4 := Nat.mod_lt q (show 0 < 3 by decide)
  have h5 : q = q / 3 * 3 + q % 3 := by omega
  have h6 : q % 3 = 0 ∨ q % 3 = 1 ∨ q % 3 = 2 := by omega
  rcases h6 with e | e | e
  ·rw [h5, e]; exact a1
  ·rw [h5, e]; exact a2
  ·rw [h5, e]; exact a3
 ·rw [List.getElem?_eq_none (by omega), List.getElem?_eq_none (by show 54 ≤ q; exact hq)]
theorem kinds_glob : Tryz.prog.globalNamed "lodge/op.kinds" = some 2 := by kernel_rfl
theorem kinds_type : (Tryz.prog.globals[2]?).map (·.type) = some 91 := by kernel_rfl
theorem kinds_of {W : World} {p : List MemPlace} (h : DataW.LaidVars Tryz.prog W [("lodge/op.kinds", Rows.laid_lodge_op_kinds)] p) (hrows : ∀ b off, MemPlace.cell b off ∈ p → ∃ c t, W.heap[b]? = some (.cells c t (0, 0))) : Kz W := by
 obtain ⟨g, t, cs, f, p1, q, hg, htt, hv, hd, -, rfl⟩ := h
 obtain rfl := Option.some.inj (kinds_glob.symm.trans hg)
 obtain rfl := Option.some.inj (kinds_type.symm.trans htt)
 have hc := kinds_cells hd
 have hcs : cs = Op.kcells.toArray := by rw [← hc]
 subst hcs
 obtain ⟨c, t, hh⟩ := hrows 2 0 (List.mem_append_left _ (List.mem_append_left _ (MemPlace.mem_row.2 ⟨0, by decide, rfl⟩)))
 have h2 := hv
 simp only [World.var?, kinds_glob, Option.bind_some, hh] at h2
 obtain rfl := Option.some.inj h2
 exact ⟨t, hh⟩
def laidErrOps : List (String × DataW Unit) := laidErrs ++ [("lodge/op.kinds", Rows.laid_lodge_op_kinds)]
theorem errops_laid {W : World} (h : laidMetH Tryz.prog laidErrOps W) : ∃ es, Ez W es ∧ Kz W := by
 have h : laidMet Tryz.prog laidErrOps W := h
 obtain ⟨ps, hl, hnd, hrows⟩ := h
 obtain ⟨p, q, rfl, h1, h2⟩ := laid_split laidErrs [("lodge/op.kinds", Rows.laid_lodge_op_kinds)] ps hl
 obtain ⟨es, hE⟩ := errs_laid (W := W) (show laidMet Tryz.prog laidErrs W from ⟨p, h1, hnd.sublist (List.sublist_append_left _ _), fun b off hm => hrows b off (List.mem_append_left _ hm)⟩)
 exact ⟨es, hE, kinds_of h2 (fun b off hm => (hrows b off (List.mem_append_right _ hm)).1)⟩
end Go.Proofs.YtgdcfjmpjhlndaaGreatDoor
