/-
  op.Apply of a lawful Turn, of a lawful Reshape. By an AI agent. No person has read it.
-/
import Derived.Test.YtgdcfjmpjhlndaaDoorOpF
import Derived.Test.YtgdcfjmpjhlndaaDoorOpK
namespace Go.Proofs.YtgdcfjmpjhlndaaDoor
open Go.RowKit

/-- Behind each other: a tensor that is lawful, what op.Apply answers then. -/
def OpG (w : World) (zs : List Int) (u : Bool) (rs : List Int) (e : Ending) (w' : World) : Prop :=
  (∃ t : Ten, e = .returned (.tuple #[.agg (tcells t.P t.zs.length t.cap t.u t.D t.ds.length t.dcap), .nilIface]) ∧ t.In w' ∧ t.zs = zs ∧ t.u = u ∧ t.ds = rs ∧ t.ds.length ≤ t.dcap) ∧ Below w.heap.size w w'
theorem OpT.good {w w' : World} {ah am ar ak : Addr} {zs : List Int} {u : Bool} {rs : List Int} {e : Ending} (h : OpT w ah am ar ak (0, none) (0, zs, u) rs e w') : OpG w zs u rs e w' := by
  obtain ⟨⟨t, x, rfl, h1, h2, -, h3⟩, hb⟩ := h
  obtain ⟨e1, e2, e3, e4⟩ := h2 rfl
  obtain rfl : x = .nilIface := h3
  exact ⟨⟨t, rfl, h1, e1, e2, e3, e4⟩, hb⟩
theorem opapply_turn {a : Ten} {M N : Nat} {u : Bool} (ha : Mat.Is a M N u) (h1 : 1 ≤ M ∧ M ≤ 100) (h2 : 1 ≤ N ∧ N ≤ 100) (B : Option Addr) (cap : Nat) (ah am ar ak : Addr) (w : World) (hR : Row w B ([a].flatMap Ten.vals)) (ia : a.In w) (hE : E4 w ah am ar ak) (hK : Kz w) :
    Calls Tryd.prog 28 #[.int .i64 21, .slice none 0 0, .slice B 1 cap] w (OpG w [(N : Int), (M : Int)] u (Mat.turn a.ds M N 0 (N * M))) := by
  have fa := ha.fault h1.1 h1.2 h2.1 h2.2
  have hmn : M * N ≤ 100 * 100 := Nat.mul_le_mul h1.2 h2.2
  have hc := (Mat.prod_two M N h1.1 (by omega) h2.1 (by omega) (by omega)).1
  have hz : a.look.zs = [(M : Int), (N : Int)] := ha.zs
  have hk : Op.tcode a.look = 0 := by
    unfold Op.tcode
    rw [hz, if_neg (by rw [hc]; simp), if_neg (by simp)]
  have hl : Op.look 21 [] [a.look] = (0, [(N : Int), (M : Int)], u) := by
    rw [Op.look_of (by decide) ⟨rfl, fun _ => rfl⟩]
    show (Op.tcode a.look, Op.tshape a.look, Op.tkind a.look) = _
    unfold Op.tshape Op.tkind
    rw [if_pos hk, if_pos hk, hk, hz, show a.look.u = u from ha.hu]
    rfl
  have hf : Op.fault 21 [] [a] = (0, none) := by
    unfold Op.fault
    rw [Cel.one_good fa]
    show ((Op.look 21 [] [a.look]).1, none) = _
    rw [hl]
  have tf : Mat.TFine a M N := ⟨ha.zs, h1.1, by omega, h2.1, by omega, ha.len, by omega, fun z hz => by rw [ha.hu]; exact ha.ft z hz⟩
  have hnm : N * M ≤ 1000000 := by rw [Nat.mul_comm]; omega
  have h := opapply_c 21 [] [a] (Mat.turn a.ds M N 0 (N * M)) none B 0 cap ah am ar ak w (Ri.nil _ _) (by simp) hR (fun t ht => by rw [List.mem_singleton.1 ht]; exact ia) (by simp) hE hK (fun _ => ⟨Mat.turn_wf a.ds u M N 0 (N * M) ha.ft, by rw [Mat.turn_length]; exact hnm, fun P c v W hb hr => by
    have hr : Ri W P [(N : Int), (M : Int)] := by
      have h3 : Ri W P (Op.look 21 [] [a.look]).2.1 := hr
      rw [hl] at h3
      exact h3
    have h4 := tall_c a M N tf P c v none B 0 0 cap am ar W hr (hE.below hb).1.2 (hR.below hb) (ia.below hb)
    show Calls Tryd.prog _ #[.agg (dcells P (Op.look 21 [] [a.look]).2.1.length c v), _, _, _] W _
    rw [Mat.turn_length]
    rw [show (Op.look 21 [] (List.map Ten.look [a])).2.1 = [(N : Int), (M : Int)] from by show (Op.look 21 [] [a.look]).2.1 = _; rw [hl]]
    rw [show (Op.look 21 [] [a.look]).2.1 = [(N : Int), (M : Int)] from by rw [hl]]
    exact h4⟩)
  rw [hf, show Op.look 21 [] (List.map Ten.look [a]) = (0, [(N : Int), (M : Int)], u) from hl] at h
  exact h.mono fun e w' h => h.good
theorem opapply_shape {a : Ten} {zs : List Int} (fa : a.fault = (0, none)) (hzs : Shp.code zs = 0) (he : (a.ds.length : Int) = Shp.elems zs) (h1 : 1 ≤ a.ds.length) (hd : a.ds.length ≤ a.dcap) (A B : Option Addr) (n qcap cap : Nat) (hn : zs.length = n) (ah am ar ak : Addr) (w : World) (hQ : Ri w A zs) (hR : Row w B ([a].flatMap Ten.vals)) (ia : a.In w) (hE : E4 w ah am ar ak) (hK : Kz w) :
    Calls Tryd.prog 28 #[.int .i64 18, .slice A n qcap, .slice B 1 cap] w (OpG w zs a.u a.ds) := by
  subst hn
  have hfl := fine_len (show Tens.fault a.zs a.u a.ds = (0, none) from fa)
  have hk : Op.rcode zs a.look = 0 := by
    unfold Op.rcode
    rw [if_neg (by rw [show Shp.code a.look.zs = 0 from hfl.2]; simp), if_neg (by rw [hzs]; simp), if_neg (by rw [← he, show Shp.elems a.look.zs = a.ds.length from hfl.1.symm]; simp)]
  have hl : Op.look 18 zs [a.look] = (0, zs, a.u) := by
    rw [Op.look_of (by decide) ⟨rfl, fun h => absurd rfl h⟩]
    show (Op.rcode zs a.look, Op.rshape zs a.look, Op.rkind zs a.look) = _
    unfold Op.rshape Op.rkind
    rw [if_pos hk, if_pos hk, hk]
    rfl
  have hf : Op.fault 18 zs [a] = (0, none) := by
    unfold Op.fault
    rw [Cel.one_good fa]
    show ((Op.look 18 zs [a.look]).1, none) = _
    rw [hl]
  have hzl : zs.length ≤ 1000000 := by have := (Shp.whole hzs).1; omega
  have h := opapply_c 18 zs [a] a.ds A B qcap cap ah am ar ak w hQ hzl hR (fun t ht => by rw [List.mem_singleton.1 ht]; exact ia) (by simp) hE hK (fun _ => ⟨ia.dat.1, ia.ld, fun P c v W hb hr => by
    have hr : Ri W P zs := by
      have h3 : Ri W P (Op.look 18 zs [a.look]).2.1 := hr
      rw [hl] at h3
      exact h3
    have h4 := shall_c a zs P c v A B zs.length qcap cap am ar W hr hzl (hE.below hb).1.2 (hR.below hb) (ia.below hb) hd he h1
    rw [show (Op.look 18 zs (List.map Ten.look [a])).2.1 = zs from by show (Op.look 18 zs [a.look]).2.1 = _; rw [hl]]
    exact h4⟩)
  rw [hf, show Op.look 18 zs (List.map Ten.look [a]) = (0, zs, a.u) from hl] at h
  exact h.mono fun e w' h => h.good
end Go.Proofs.YtgdcfjmpjhlndaaDoor
