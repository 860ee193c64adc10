/-
  cells.One and op.Element of a lawful operation, given cells.Of. By an AI agent. No person has read it.
-/
import Derived.Test.YtgdcfjmpjhlndaaDoorZEOpK
import Derived.Test.YtgdcfjmpjhlndaaDoorZECnvD
namespace Go.Proofs.YtgdcfjmpjhlndaaDoor
open Go.RowKit
/-- A number of some, 0 of a place that is none. -/
def Op.at (rs : List Int) (i : Int) : Int := if 0 ≤ i then rs.getD i.toNat 0 else 0
theorem opone_any (op : Int) (zs rs : List Int) (P : Option Addr) (cap : Nat) (u : Bool) (i : Int) (A B : Option Addr) (nq qcap nt bcap : Nat) (am ar : Addr) (w : World) (hr : Ri w P zs) (hl : zs.length ≤ 1000000) (hE : E2 w am ar) (hi1 : i ≤ 9223372036854775807) (hi2 : -9223372036854775808 ≤ i) (hn : (rs.length : Int) = Shp.elems zs)
    (hOf : ∀ (k : Nat) W, k < rs.length → Below w.heap.size w W → Calls Tryd.prog 97 #[.int .i64 op, .slice A nq qcap, .int .i64 k, .int .i64 ((k + 1 : Nat) : Int), .slice B nt bcap] W fun e w' => (∃ g, e = .returned (.slice (some ⟨g, 0, none⟩) 1 1) ∧ W.heap.size ≤ g ∧ Has w' g 3 (i64s [rs.getD k 0])) ∧ Below W.heap.size W w') :
    Calls Tryd.prog 73 #[.agg (dcells P zs.length cap u), .int .i64 i, .int .i64 op, .slice A nq qcap, .slice B nt bcap] w fun e w' => e = .returned (.int .i64 (Op.at rs i)) ∧ Below w.heap.size w w' := by
  refine one_any zs P cap u op i (Op.at rs i) A B nq qcap nt bcap am ar w hr hl hE hi1 hi2 (fun h => ?_) (fun k W hk hlt hb => ?_)
  · unfold Op.at
    split
    · rw [List.getD_eq_getElem?_getD, List.getElem?_eq_none (by omega)]
      rfl
    · rfl
  · have h := hOf k W (by omega) hb
    have e : Op.at rs i = rs.getD k 0 := by
      unfold Op.at
      rw [if_pos (by omega), hk, Int.toNat_natCast]
    rw [e]
    exact h
theorem opelement_good (op : Int) (qs : List Int) (ts : List Ten) (rs X : List Int) (Y : Bool) (hl : Op.look op qs (ts.map Ten.look) = (0, X, Y)) (hO : Op.fault op qs ts = (0, none)) (hn : (rs.length : Int) = Shp.elems X) (hX : X.length ≤ 1000000) (i : Int) (hi1 : i ≤ 9223372036854775807) (hi2 : -9223372036854775808 ≤ i) (A B : Option Addr) (qcap cap : Nat) (ah am ar ak : Addr) (w : World) (hQ : Ri w A qs) (hql : qs.length ≤ 1000000) (hR : Row w B (ts.flatMap Ten.vals)) (hI : ∀ t ∈ ts, t.In w) (hnt : ts.length ≤ 1000000) (hE : E4 w ah am ar ak) (hK : Kz w)
    (hOf : ∀ (k : Nat) W, k < rs.length → Below w.heap.size w W → Calls Tryd.prog 97 #[.int .i64 op, .slice A qs.length qcap, .int .i64 k, .int .i64 ((k + 1 : Nat) : Int), .slice B ts.length cap] W fun e w' => (∃ g, e = .returned (.slice (some ⟨g, 0, none⟩) 1 1) ∧ W.heap.size ≤ g ∧ Has w' g 3 (i64s [rs.getD k 0])) ∧ Below W.heap.size W w') :
    Calls Tryd.prog 30 #[.int .i64 op, .slice A qs.length qcap, .int .i64 i, .slice B ts.length cap] w fun e w' => e = .returned (.int .i64 (Op.at rs i)) ∧ Below w.heap.size w w' := by
  refine opelement_c op qs ts i (Op.at rs i) A B qcap cap ah am ar ak w hQ hql hR hI hnt hE hK (fun h => absurd hO h) (fun _ P c u W hb hr => ?_)
  rw [hl] at hr ⊢
  exact opone_any op X rs P c u i A B qs.length qcap ts.length cap am ar W hr hX (hE.below hb).1.2 hi1 hi2 hn (fun k W2 hk hb2 => hOf k W2 hk (hb.trans (hb2.mono hb.size)))
/-- Of an unlawful one it is 0. -/
theorem opelement_bad (op : Int) (qs : List Int) (ts : List Ten) (hO : Op.fault op qs ts ≠ (0, none)) (i : Int) (A B : Option Addr) (qcap cap : Nat) (ah am ar ak : Addr) (w : World) (hQ : Ri w A qs) (hql : qs.length ≤ 1000000) (hR : Row w B (ts.flatMap Ten.vals)) (hI : ∀ t ∈ ts, t.In w) (hnt : ts.length ≤ 1000000) (hE : E4 w ah am ar ak) (hK : Kz w) :
    Calls Tryd.prog 30 #[.int .i64 op, .slice A qs.length qcap, .int .i64 i, .slice B ts.length cap] w fun e w' => e = .returned (.int .i64 0) ∧ Below w.heap.size w w' :=
  opelement_c op qs ts i 0 A B qcap cap ah am ar ak w hQ hql hR hI hnt hE hK (fun _ => rfl) (fun h => absurd h hO)
end Go.Proofs.YtgdcfjmpjhlndaaDoor
