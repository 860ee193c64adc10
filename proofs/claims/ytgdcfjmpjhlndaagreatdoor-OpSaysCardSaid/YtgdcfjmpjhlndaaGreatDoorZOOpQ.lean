/-
  cells.One and op.Element of a lawful operation, given cells.Of. By an AI agent. No person has read it.
-/
import Derived.Test.YtgdcfjmpjhlndaaGreatDoorZOOpK
namespace Go.Proofs.YtgdcfjmpjhlndaaGreatDoor
open Go.RowKit
def Op.at (rs : List Int) (i : Int) : Int := if 0 ≤ i then rs.getD i.toNat 0 else 0
theorem opone_any (op : Int) (zs rs : List Int) (P : Option Addr) (cap : Nat) (u : Bool) (i : Int) (A B : Option Addr) (nq qcap nt bcap : Nat) (am ar : Addr) (w : World) (hr : Ri w P zs) (hl : zs.length ≤ 1000000) (hE : E2 w am ar) (hi1 : i ≤ 9223372036854775807) (hi2 : -9223372036854775808 ≤ i) (hn : (rs.length : Int) = Shp.elems zs)
  (hOf : ∀ (k : Nat) W, k < rs.length → Below w.heap.size w W → Calls Tryz.prog 83 #[.int .i64 op, .slice A nq qcap, .int .i64 k, .int .i64 ((k + 1 : Nat) : Int), .slice B nt bcap] W fun e w' => (∃ g, e = .returned (.slice (some ⟨g, 0, none⟩) 1 1) ∧ W.heap.size ≤ g ∧ Has w' g 3 (i64s [rs.getD k 0])) ∧ Below W.heap.size W w') :
  Calls Tryz.prog 52 #[.agg (dcells P zs.length cap u), .int .i64 i, .int .i64 op, .slice A nq qcap, .slice B nt bcap] w fun e w' => e = .returned (.int .i64 (Op.at rs i)) ∧ Below w.heap.size w w' := by
 refine one_any zs P cap u op i (Op.at rs i) A B nq qcap nt bcap am ar w hr hl hE hi1 hi2 (fun h => ?_) (fun k W hk hlt hb => ?_)
 ·unfold Op.at
  split
  ·rw [List.getD_eq_getElem?_getD, List.getElem?_eq_none (by omega)]
   rfl
  ·rfl
 ·have h := hOf k W (by omega) hb
  have e : Op.at rs i = rs.getD k 0 := by
   unfold Op.at
   rw [if_pos (by omega), hk, Int.toNat_natCast]
  rw [e]
  exact h
theorem opelement_good (op : Int) (qs : List Int) (ts : List Ten) (rs X : List Int) (Y : Bool) (hl : Op.look op qs (ts.map Ten.look) = (0, X, Y)) (hO : Op.fault op qs ts = (0, none)) (hn : (rs.length : Int) = Shp.elems X) (hX : X.length ≤ 1000000) (i : Int) (hi1 : i ≤ 9223372036854775807) (hi2 : -9223372036854775808 ≤ i) (A B : Option Addr) (qcap cap : Nat) (ah am ar ak : Addr) (w : World) (hQ : Ri w A qs) (hql : qs.length ≤ 1000000) (hR : Row w B (ts.flatMap Ten.vals)) (hI : ∀ t ∈ ts, t.In w) (hnt : ts.length ≤ 1000000) (hE : E4 w ah am ar ak) (hK : Kz w)
  (hOf : ∀ (k : Nat) W, k < rs.length → Below w.heap.size w W → Calls Tryz.prog 83 #[.int .i64 op, .slice A qs.length qcap, .int .i64 k, .int .i64 ((k + 1 : Nat) : Int), .slice B ts.length cap] W fun e w' => (∃ g, e = .returned (.slice (some ⟨g, 0, none⟩) 1 1) ∧ W.heap.size ≤ g ∧ Has w' g 3 (i64s [rs.getD k 0])) ∧ Below W.heap.size W w') :
  Calls Tryz.prog 32 #[.int .i64 op, .slice A qs.length qcap, .int .i64 i, .slice B ts.length cap] w fun e w' => e = .returned (.int .i64 (Op.at rs i)) ∧ Below w.heap.size w w' := by
 refine opelement_c op qs ts i (Op.at rs i) A B qcap cap ah am ar ak w hQ hql hR hI hnt hE hK (fun h => absurd hO h) (fun _ P c u W hb hr => ?_)
 rw [hl] at hr ⊢
 exact opone_any op X rs P c u i A B qs.length qcap ts.length cap am ar W hr hX (hE.below hb).1.2 hi1 hi2 hn (fun k W2 hk hb2 => hOf k W2 hk (hb.trans (hb2.mono hb.size)))
theorem opelement_bad (op : Int) (qs : List Int) (ts : List Ten) (hO : Op.fault op qs ts ≠ (0, none)) (i : Int) (A B : Option Addr) (qcap cap : Nat) (ah am ar ak : Addr) (w : World) (hQ : Ri w A qs) (hql : qs.length ≤ 1000000) (hR : Row w B (ts.flatMap Ten.vals)) (hI : ∀ t ∈ ts, t.In w) (hnt : ts.length ≤ 1000000) (hE : E4 w ah am ar ak) (hK : Kz w) :
  Calls Tryz.prog 32 #[.int .i64 op, .slice A qs.length qcap, .int .i64 i, .slice B ts.length cap] w fun e w' => e = .returned (.int .i64 0) ∧ Below w.heap.size w w' :=
 opelement_c op qs ts i 0 A B qcap cap ah am ar ak w hQ hql hR hI hnt hE hK (fun _ => rfl) (fun h => absurd h hO)
end Go.Proofs.YtgdcfjmpjhlndaaGreatDoor
namespace Go.Proofs.YtgdcfjmpjhlndaaGreatDoor
open Go.RowKit
theorem Op.cut_part (g : Nat → Int) (N f n : Nat) (h : f + n ≤ N) : Op.cut ((List.range N).map fun i => g (0 + i)) f n = (List.range n).map fun i => g (f + i) := by
 unfold Op.cut
 refine List.ext_getElem? fun i => ?_
 rw [List.getElem?_take]
 by_cases hi : i < n
 ·rw [if_pos hi, List.getElem?_drop, List.getElem?_map, List.getElem?_range (by omega), List.getElem?_map, List.getElem?_range hi]
  simp
 ·rw [if_neg hi, List.getElem?_eq_none (by simp; omega)]
def OpOf (op : Int) (qs : List Int) (ts : List Ten) (rs : List Int) (A B : Option Addr) (qcap cap : Nat) (w : World) : Prop :=
 ∀ (f n : Nat) W, 1 ≤ n → f + n ≤ rs.length → Below w.heap.size w W → Calls Tryz.prog 83 #[.int .i64 op, .slice A qs.length qcap, .int .i64 f, .int .i64 ((f + n : Nat) : Int), .slice B ts.length cap] W fun e w' => (∃ g, e = .returned (.slice (some ⟨g, 0, none⟩) n n) ∧ W.heap.size ≤ g ∧ Has w' g 3 (i64s (Op.cut rs f n))) ∧ Below W.heap.size W w'
theorem opof_mat {za zb : Int} {a b : Ten} {M K N : Nat} (hF : Mat.Fine za zb a b M K N) (A B : Option Addr) (qcap cap : Nat) (w : World) (hQ : Ri w A [za, zb]) (hR : Row w B ([a, b].flatMap Ten.vals)) (ha : a.In w) (hb : b.In w) : OpOf 12 [za, zb] [a, b] (Mat.part a.ds b.ds za zb K N 0 (M * N)) A B qcap cap w := fun f n W h1 h2 hw => by
 rw [Mat.part_length] at h2
 have e : Op.cut (Mat.part a.ds b.ds za zb K N 0 (M * N)) f n = Mat.part a.ds b.ds za zb K N f n := Op.cut_part (fun i => Tens.wide (Mat.dot a.ds b.ds za zb K N (i / N) (i % N) K)) (M * N) f n h2
 rw [e]
 exact mof_c za zb a b M K N hF A B qcap cap f n W (hQ.below hw) (hR.below hw) (ha.below hw) (hb.below hw) h2
theorem opof_turn {a : Ten} {M N : Nat} (hF : Mat.TFine a M N) (A B : Option Addr) (qcap cap : Nat) (w : World) (hR : Row w B ([a].flatMap Ten.vals)) (ha : a.In w) : OpOf 21 [] [a] (Mat.turn a.ds M N 0 (N * M)) A B qcap cap w := fun f n W h1 h2 hw => by
 rw [Mat.turn_length] at h2
 have e : Op.cut (Mat.turn a.ds M N 0 (N * M)) f n = Mat.turn a.ds M N f n := Op.cut_part (fun i => a.ds.getD (i % M * N + i / M) 0) (N * M) f n h2
 rw [e]
 exact tof_turn a M N hF A B 0 qcap cap f n W (hR.below hw) (ha.below hw) (by rw [Nat.mul_comm M N]; exact h2)
theorem opof_conv {qs : List Int} {a b : Ten} {c : Cv} (hF : Cv.Fine qs a b c) (A B : Option Addr) (qcap cap : Nat) (w : World) (hQ : Ri w A qs) (hR : Row w B ([a, b].flatMap Ten.vals)) (ha : a.In w) (hb : b.In w) : OpOf 13 qs [a, b] (c.part a.ds b.ds 0 (c.oh * c.ow * c.N)) A B qcap cap w := fun f n W h1 h2 hw => by
 rw [Cv.part_length] at h2
 have e : Op.cut (c.part a.ds b.ds 0 (c.oh * c.ow * c.N)) f n = c.part a.ds b.ds f n := Op.cut_part (fun i => Tens.wide (c.el a.ds b.ds (i / c.N / c.ow) (i / c.N % c.ow) (i % c.N))) (c.oh * c.ow * c.N) f n h2
 rw [e, show qs.length = 3 from by rw [hF.qz]; rfl]
 exact cvof_c qs a b c hF A B qcap cap f n W (hQ.below hw) (hR.below hw) (ha.below hw) (hb.below hw) h2
theorem opof_pool {op : Int} {avg : Bool} (hop : Pl.isOp op avg) {qs : List Int} {a : Ten} {c : Pl} (hF : Pl.Fine qs a c) (A B : Option Addr) (qcap cap : Nat) (w : World) (hQ : Ri w A qs) (hR : Row w B ([a].flatMap Ten.vals)) (ha : a.In w) : OpOf op qs [a] (c.part avg a.ds 0 (c.oh * c.ow * c.C)) A B qcap cap w := fun f n W h1 h2 hw => by
 rw [Pl.part_length] at h2
 have e : Op.cut (c.part avg a.ds 0 (c.oh * c.ow * c.C)) f n = c.part avg a.ds f n := Op.cut_part (fun i => c.el avg a.ds (c.at i)) (c.oh * c.ow * c.C) f n h2
 rw [e, show qs.length = 2 from by rw [hF.qz]; rfl]
 exact plof_c op avg hop qs a c hF A B qcap cap f n W (hQ.below hw) (hR.below hw) (ha.below hw) h2
theorem opof_soft {op : Int} {ts : List Ten} (hF : Sf.Fine op ts) (A B : Option Addr) (qcap cap : Nat) (w : World) (hR : Row w B (ts.flatMap Ten.vals)) (hI : ∀ t ∈ ts, t.In w) : OpOf op [] ts (Sf.ds op ts) A B qcap cap w := fun f n W h1 h2 hw => by
 rw [Sf.ds_length] at h2
 have e : Op.cut (Sf.ds op ts) f n = Sf.part (Sf.el op ts) f n := Op.cut_part (Sf.el op ts) (Sf.size op ts) f n h2
 rw [e]
 exact sfof_c op ts hF A B 0 qcap cap f n W (hR.below hw) (fun t ht => (hI t ht).below hw) h2
theorem opof_shape {qs : List Int} {a : Ten} (hd : a.ds.length ≤ a.dcap) (A B : Option Addr) (qcap cap : Nat) (w : World) (hR : Row w B ([a].flatMap Ten.vals)) (ha : a.In w) : OpOf 18 qs [a] a.ds A B qcap cap w := fun f n W h1 h2 hw =>
 shof_c a A B qs.length qcap cap f n W (hR.below hw) (ha.below hw) hd h1 h2
theorem opof_elm {op : Int} (ho : 4 ≤ op ∧ op ≤ 11) {qs : List Int} (hql : qs.length = Elm.nargs op) {ts : List Ten} {a b : Ten} (hts : (ts = [a] ∧ b = a) ∨ ts = [a, b]) (heq : b.ds.length = a.ds.length) (A B : Option Addr) (qcap cap : Nat) (w : World) (hQ : Ri w A qs) (hR : Row w B (ts.flatMap Ten.vals)) (ha : a.In w) (hb : b.In w) : OpOf op qs ts (Elm.part op a.u qs a.ds b.ds 0 a.ds.length) A B qcap cap w := fun f n W h1 h2 hw => by
 rw [Elm.part_length] at h2
 have e : Op.cut (Elm.part op a.u qs a.ds b.ds 0 a.ds.length) f n = Elm.part op a.u qs a.ds b.ds f n := Op.cut_part (fun i => Elm.val op a.u (a.ds.getD i 0) (b.ds.getD i 0) qs) a.ds.length f n h2
 rw [e]
 exact cof_c op ho qs ts a b hts A B qcap cap f n W hql (hQ.below hw) (ha.below hw) (hb.below hw) h2 (by omega) (hR.below hw)
theorem OpOf.one {op : Int} {qs : List Int} {ts : List Ten} {rs : List Int} {A B : Option Addr} {qcap cap : Nat} {w : World} (h : OpOf op qs ts rs A B qcap cap w) (k : Nat) (W : World) (hk : k < rs.length) (hw : Below w.heap.size w W) :
  Calls Tryz.prog 83 #[.int .i64 op, .slice A qs.length qcap, .int .i64 k, .int .i64 ((k + 1 : Nat) : Int), .slice B ts.length cap] W fun e w' => (∃ g, e = .returned (.slice (some ⟨g, 0, none⟩) 1 1) ∧ W.heap.size ≤ g ∧ Has w' g 3 (i64s [rs.getD k 0])) ∧ Below W.heap.size W w' := by
 have h2 := h k 1 W (by omega) (by omega) hw
 have e : Op.cut rs k 1 = [rs.getD k 0] := by
  unfold Op.cut
  rw [List.drop_eq_getElem_cons hk, List.getD_eq_getElem?_getD, List.getElem?_eq_getElem hk]
  rfl
 rw [e] at h2
 exact h2
end Go.Proofs.YtgdcfjmpjhlndaaGreatDoor
