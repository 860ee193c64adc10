/-
  op.Apply of a lawful operation element by element, of a lawful product. By an AI agent. No person has read it.
-/
import Derived.Test.YtgdcfjmpjhlndaaDoorOpL
namespace Go.Proofs.YtgdcfjmpjhlndaaDoor
open Go.RowKit

theorem opapply_elm (op : Int) (qs : List Int) (ts : List Ten) (hc : Elm.code op qs (ts.map Ten.look) = 0) (hf : Tens.first ts = (0, none)) (A B : Option Addr) (qcap cap : Nat) (ah am ar ak : Addr) (w : World) (hQ : Ri w A qs) (hR : Row w B (ts.flatMap Ten.vals)) (hI : ∀ t ∈ ts, t.In w) (hE : E4 w ah am ar ak) (hK : Kz w) :
    Calls Tryd.prog 28 #[.int .i64 op, .slice A qs.length qcap, .slice B ts.length cap] w (OpG w (Elm.ozs op qs ts) (Elm.ou op qs ts) (Elm.ods op qs ts)) := by
  have hni : (ts.map Ten.look).length = Elm.nins op := Classical.byContradiction fun h => by
    unfold Elm.code at hc
    split at hc
    · cases hc
    · rw [if_pos (.inl h)] at hc
      cases hc
  obtain ⟨ho, hql, a, b, hts, hcz⟩ := Elm.code_zero hc
  have hfa : Elm.fault op qs ts = (0, none) := by unfold Elm.fault; rw [if_pos hf, hc]
  have hmem := Tens.first_fine ts hf
  have hha : ts.head? = some a := by rcases hts with ⟨rfl, -⟩ | ⟨rfl, -, -⟩ <;> rfl
  have hlb : ts.getLast? = some b := by
    rcases hts with ⟨rfl, rfl⟩ | ⟨rfl, -, -⟩
    · rfl
    · rfl
  have hma : a ∈ ts := by rcases hts with ⟨rfl, -⟩ | ⟨rfl, -, -⟩ <;> simp
  have hmb : b ∈ ts := by
    rcases hts with ⟨rfl, rfl⟩ | ⟨rfl, -, -⟩
    · simp
    · simp
  have hzz : a.zs = b.zs := by
    rcases hts with ⟨-, rfl⟩ | ⟨-, h, -⟩
    · rfl
    · exact h
  have hts' : (ts = [a] ∧ b = a) ∨ ts = [a, b] := by
    rcases hts with h | ⟨h, -, -⟩
    · exact .inl h
    · exact .inr h
  have hla := (fine_len (hmem a hma)).1
  have hlb2 := (fine_len (hmem b hmb)).1
  rw [← hzz] at hlb2
  have heq : b.ds.length = a.ds.length := by omega
  have hod : Elm.ods op qs ts = Elm.part op a.u qs a.ds b.ds 0 a.ds.length := by
    unfold Elm.ods
    rw [if_pos hfa, hha, hlb]
    rfl
  have hoz : Elm.ozs op qs ts = a.zs := by
    unfold Elm.ozs
    rw [if_pos hfa, hha]
    rfl
  have hsh : Elm.shape op qs (ts.map Ten.look) = a.zs := by
    unfold Elm.shape
    rw [if_pos hc, List.head?_map, hha]
    rfl
  have hou : Elm.kind op qs (ts.map Ten.look) = Elm.ou op qs ts := by
    unfold Elm.ou Elm.kind
    rw [if_pos hfa, if_pos hc, List.head?_map, hha]
    rfl
  have hIa := hI a hma
  have hIb := hI b hmb
  obtain ⟨l1, l2⟩ := Op.elem_lens op ho
  have hl : Op.look op qs (ts.map Ten.look) = (0, a.zs, Elm.ou op qs ts) := by
    rw [Op.look_of ⟨ho.1, by omega⟩ ⟨by rw [hni, l1], fun _ => by rw [hql, l2]⟩]
    have e : Op.look2 op qs (ts.map Ten.look) = (Elm.code op qs (ts.map Ten.look), Elm.shape op qs (ts.map Ten.look), Elm.kind op qs (ts.map Ten.look)) := if_pos ho.2
    rw [e, hc, hsh, hou]
  have hF : Op.fault op qs ts = (0, none) := by
    unfold Op.fault
    rw [Cel.fault_code hf, hl]
  have hnl : ts.length ≤ 1000000 := by
    rcases hts' with ⟨rfl, -⟩ | rfl <;> simp
  have hqn : qs.length ≤ 1000000 := by
    rw [hql]
    unfold Elm.nargs
    split <;> (try split) <;> (try split) <;> omega
  rw [hoz, hod]
  have h := opapply_c op qs ts (Elm.part op a.u qs a.ds b.ds 0 a.ds.length) A B qcap cap ah am ar ak w hQ hqn hR hI hnl hE hK (fun _ => ⟨Elm.part_wf op a.u qs a.ds b.ds 0 _ hIa.dat.1 hIb.dat.1 hQ.1, by rw [Elm.part_length]; exact hIa.ld, fun P c v W hb hr => by
    rw [hl] at hr ⊢
    have hr : Ri W P a.zs := hr
    show Calls Tryd.prog _ #[.agg (dcells P a.zs.length c v), _, _, _] W _
    refine all_c a.zs (Elm.part op a.u qs a.ds b.ds 0 a.ds.length) P c v op A B qs.length qcap ts.length cap am ar W hr hIa.ls (hE.1.2.below hb) (by rw [Elm.part_length]; exact hla) fun W2 hb2 => ?_
    have hb3 := hb.trans (hb2.mono hb.size)
    have h := cof_c op ho qs ts a b hts' A B qcap cap 0 a.ds.length W2 hql (hQ.below hb3) (hIa.below hb3) (hIb.below hb3) (by omega) (by omega) (hR.below hb3)
    rw [Nat.zero_add] at h
    rw [Elm.part_length]
    exact h⟩)
  rw [hF, hl] at h
  exact h.mono fun e w' h => h.good
theorem opapply_mat (za zb : Int) (a b : Ten) (hf : Cel.fault [a, b] (Mat.code za zb a.look b.look) = (0, none)) (A B : Option Addr) (qcap cap : Nat) (ah am ar ak : Addr) (w : World) (hQ : Ri w A [za, zb]) (hR : Row w B ([a, b].flatMap Ten.vals)) (ha : a.In w) (hb : b.In w) (hE : E4 w ah am ar ak) (hK : Kz w) :
    Calls Tryd.prog 28 #[.int .i64 12, .slice A 2 qcap, .slice B 2 cap] w (OpG w (Mat.shape za zb a.look b.look) (Mat.kind za zb a.look b.look) (Mat.ds za zb a b)) := by
  obtain ⟨M, K, N, hF⟩ := Mat.fine hf
  have hc := (Cel.fine hf).2
  have hl : Op.look 12 [za, zb] [a.look, b.look] = (0, Mat.shape za zb a.look b.look, Mat.kind za zb a.look b.look) := by
    rw [Op.look_of (by decide) ⟨rfl, fun _ => rfl⟩]
    show (Mat.code za zb a.look b.look, Mat.shape za zb a.look b.look, Mat.kind za zb a.look b.look) = _
    rw [hc]
  have hO : Op.fault 12 [za, zb] [a, b] = (0, none) := by
    unfold Op.fault
    show Cel.fault [a, b] (Op.look 12 [za, zb] [a.look, b.look]).1 = _
    rw [hl]
    have h := hf
    rw [hc] at h
    exact h
  have hmn := hF.mn
  rw [hF.sh] at hl
  rw [hF.sh, hF.ds]
  have h := opapply_c 12 [za, zb] [a, b] (Mat.part a.ds b.ds za zb K N 0 (M * N)) A B qcap cap ah am ar ak w hQ (by simp) hR (fun t ht => by
    simp only [List.mem_cons, List.not_mem_nil, or_false] at ht
    rcases ht with rfl | rfl
    · exact ha
    · exact hb) (by simp) hE hK (fun _ => ⟨Mat.part_wf _ _ _ _ _ _ _ _, by rw [Mat.part_length]; omega, fun P c v W hw hr => by
    have hr : Ri W P [(M : Int), (N : Int)] := by
      have h3 : Ri W P (Op.look 12 [za, zb] [a.look, b.look]).2.1 := hr
      rw [hl] at h3
      exact h3
    have h4 := mall_c za zb a b M K N hF P c v A B qcap cap am ar W hr (hE.below hw).1.2 (hQ.below hw) (hR.below hw) (ha.below hw) (hb.below hw)
    rw [show (Op.look 12 [za, zb] (List.map Ten.look [a, b])).2.1 = [(M : Int), (N : Int)] from by show (Op.look 12 [za, zb] [a.look, b.look]).2.1 = _; rw [hl]]
    rw [Mat.part_length]
    exact h4⟩)
  rw [hO, show Op.look 12 [za, zb] (List.map Ten.look [a, b]) = (0, [(M : Int), (N : Int)], Mat.kind za zb a.look b.look) from hl] at h
  exact h.mono fun e w' h => h.good
theorem opapply_soft (op : Int) (hop : Sf.isOp op) (ts : List Ten) (hF : Cel.fault ts (Sf.code op (ts.map Ten.look)) = (0, none)) (hd : ∀ t ∈ ts, t.ds.length ≤ t.dcap) (B : Option Addr) (cap : Nat) (ah am ar ak : Addr) (w : World) (hR : Row w B (ts.flatMap Ten.vals)) (hI : ∀ t ∈ ts, t.In w) (hl : ts.length ≤ 1000000) (hE : E4 w ah am ar ak) (hK : Kz w) :
    Calls Tryd.prog 28 #[.int .i64 op, .slice none 0 0, .slice B ts.length cap] w (OpG w (Sf.shape op (ts.map Ten.look)) (Sf.kind op (ts.map Ten.look)) (Sf.ds op ts)) := by
  have hc := (Cel.fine hF).2
  have hf := Sf.fine hop hd hF
  have hni : (ts.map Ten.look).length = Sf.nins op := Classical.byContradiction fun h => by
    unfold Sf.code at hc
    rw [if_pos h] at hc
    cases hc
  have hlk : Op.look op [] (ts.map Ten.look) = (0, Sf.shape op (ts.map Ten.look), Sf.kind op (ts.map Ten.look)) := by
    have e : Op.look op [] (ts.map Ten.look) = (Sf.code op (ts.map Ten.look), Sf.shape op (ts.map Ten.look), Sf.kind op (ts.map Ten.look)) := by
      rcases hop with rfl | rfl | rfl | rfl <;> (rw [Op.look_of (by decide) ⟨hni, fun _ => rfl⟩]; rfl)
    rw [e, hc]
  have hO : Op.fault op [] ts = (0, none) := by
    unfold Op.fault
    rw [hlk]
    have h := hF
    rw [hc] at h
    exact h
  have h := opapply_c op [] ts (Sf.ds op ts) none B 0 cap ah am ar ak w (Ri.nil _ _) (by simp) hR hI hl hE hK (fun _ => ⟨Sf.part_wf 0 _ (fun i hi => by rw [Nat.zero_add]; exact hf.wf i hi), by rw [Sf.ds_length]; have := (Sf.size_le hf).1; omega, fun P c u W hb hr => by
    rw [hlk] at hr ⊢
    exact sfall_c op ts hf P _ rfl c u none B 0 0 cap am ar W hr (hE.below hb).1.2 (hR.below hb) (fun t ht => (hI t ht).below hb)⟩)
  rw [hO, hlk] at h
  exact h.mono fun e w' h => h.good
end Go.Proofs.YtgdcfjmpjhlndaaDoor
