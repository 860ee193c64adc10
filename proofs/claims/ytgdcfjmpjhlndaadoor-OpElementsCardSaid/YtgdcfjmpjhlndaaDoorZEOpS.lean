/-
  op.Apply and op.Element of anything, walked. By an AI agent. No person has read it.
-/
import Derived.Test.YtgdcfjmpjhlndaaDoorZEOpR
import Derived.Test.YtgdcfjmpjhlndaaDoorZEOpFit
namespace Go.Proofs.YtgdcfjmpjhlndaaDoor
open Go.RowKit
/-- A lawful operation has numbers, and cells.Of tells them. -/
def OpHas (op : Int) (qs : List Int) (ts : List Ten) (rs X : List Int) (Y : Bool) : Prop :=
  Op.look op qs (ts.map Ten.look) = (0, X, Y) ∧ (rs.length : Int) = Shp.elems X ∧ Shp.code X = 0 ∧ (∀ z ∈ rs, Tens.fit Y z = true) ∧ ∀ (A B : Option Addr) (qcap cap : Nat) (w : World), Ri w A qs → Row w B (ts.flatMap Ten.vals) → (∀ t ∈ ts, t.In w) → (∀ z ∈ rs, (Lit.int .i64 z).wf = true) ∧ OpOf op qs ts rs A B qcap cap w
theorem Op.known_of {op : Int} {qs : List Int} {ts : List Ten} (hf : Op.fault op qs ts = (0, none)) : Tens.first ts = (0, none) ∧ Op.known op ∧ Op.fits op qs (ts.map Ten.look) ∧ (Op.look2 op qs (ts.map Ten.look)).1 = 0 ∧ Op.look op qs (ts.map Ten.look) = Op.look2 op qs (ts.map Ten.look) := by
  obtain ⟨h1, h2⟩ := Cel.fine hf
  obtain ⟨h3, h4, h5⟩ := Op.look_zero h2
  exact ⟨h1, h3, h4, h5, Op.look_of h3 h4⟩
theorem op_has_elm {op : Int} {qs : List Int} {ts : List Ten} (hf : Op.fault op qs ts = (0, none)) (h11 : op ≤ 11) : ∃ rs X Y, OpHas op qs ts rs X Y := by
  obtain ⟨h1, hk, -, hc, hl⟩ := Op.known_of hf
  have e : Op.look2 op qs (ts.map Ten.look) = (Elm.code op qs (ts.map Ten.look), Elm.shape op qs (ts.map Ten.look), Elm.kind op qs (ts.map Ten.look)) := if_pos h11
  rw [e] at hc hl
  have hc : Elm.code op qs (ts.map Ten.look) = 0 := hc
  obtain ⟨ho, hql, a, b, hts, hcz⟩ := Elm.code_zero hc
  have hmem := Tens.first_fine ts h1
  have hma : a ∈ ts := by rcases hts with ⟨rfl, -⟩ | ⟨rfl, -, -⟩ <;> simp
  have hmb : b ∈ ts := by
    rcases hts with ⟨rfl, rfl⟩ | ⟨rfl, -, -⟩
    · simp
    · simp
  have hzz : a.zs = b.zs := by
    rcases hts with ⟨-, rfl⟩ | ⟨-, h, -⟩
    · rfl
    · exact h
  have hts' : (ts = [a] ∧ b = a) ∨ ts = [a, b] := by
    rcases hts with h | ⟨h, -, -⟩
    · exact .inl h
    · exact .inr h
  have hha : ts.head? = some a := by rcases hts with ⟨rfl, -⟩ | ⟨rfl, -, -⟩ <;> rfl
  have hla := (fine_len (hmem a hma)).1
  have hlb2 := (fine_len (hmem b hmb)).1
  rw [← hzz] at hlb2
  have heq : b.ds.length = a.ds.length := by omega
  have hsh : Elm.shape op qs (ts.map Ten.look) = a.zs := by
    unfold Elm.shape
    rw [if_pos hc, List.head?_map, hha]
    rfl
  refine ⟨Elm.part op a.u qs a.ds b.ds 0 a.ds.length, a.zs, Elm.kind op qs (ts.map Ten.look), by rw [hl, hc, hsh], by rw [Elm.part_length]; exact hla, hcz, Elm.fits hc hts (hmem a hma) (hmem b hmb) _, fun A B qcap cap w hQ hR hI => ⟨?_, opof_elm ho hql hts' heq A B qcap cap w hQ hR (hI a hma) (hI b hmb)⟩⟩
  exact Elm.part_wf op a.u qs a.ds b.ds 0 _ (hI a hma).dat.1 (hI b hmb).dat.1 hQ.1
theorem op_has {op : Int} {qs : List Int} {ts : List Ten} (hf : Op.fault op qs ts = (0, none)) (hd : ∀ t ∈ ts, t.ds.length ≤ t.dcap) : ∃ rs X Y, OpHas op qs ts rs X Y := by
  by_cases h11 : op ≤ 11
  · exact op_has_elm hf h11
  obtain ⟨h1, hk, ⟨hi, ha⟩, hc, hl⟩ := Op.known_of hf
  rw [List.length_map] at hi
  have hk2 := hk.2
  have : op = 12 ∨ op = 13 ∨ op = 14 ∨ op = 15 ∨ op = 16 ∨ op = 17 ∨ op = 18 ∨ op = 19 ∨ op = 20 ∨ op = 21 := by omega
  clear h11 hk hk2
  have soft : ∀ {op : Int}, Sf.isOp op → qs = [] → Op.look2 op qs (ts.map Ten.look) = (Sf.code op (ts.map Ten.look), Sf.shape op (ts.map Ten.look), Sf.kind op (ts.map Ten.look)) → (Op.look2 op qs (ts.map Ten.look)).1 = 0 → Op.look op qs (ts.map Ten.look) = Op.look2 op qs (ts.map Ten.look) → ∃ rs X Y, OpHas op qs ts rs X Y := by
    intro op hop hq e hc hl
    subst hq
    rw [e] at hc hl
    have hc : Sf.code op (ts.map Ten.look) = 0 := hc
    have hF := Sf.fine hop hd (by rw [Cel.fault_code h1, hc])
    refine ⟨Sf.ds op ts, _, _, by rw [hl, hc], by rw [Sf.ds_length]; exact (Sf.size_le hF).2, hF.cd, Sf.fits hop hd (by rw [Cel.fault_code h1, hc]), fun A B qcap cap w hQ hR hI => ⟨Sf.part_wf 0 _ (fun i hi => by rw [Nat.zero_add]; exact hF.wf i hi), opof_soft hF A B qcap cap w hR hI⟩⟩
  have pool : ∀ {op : Int} {avg : Bool}, Pl.isOp op avg → ∀ {a : Ten}, ts = [a] → Op.look2 op qs [a.look] = (Pl.code qs a.look, Pl.shape qs a.look, Pl.kind qs a.look) → (Op.look2 op qs (ts.map Ten.look)).1 = 0 → Op.look op qs (ts.map Ten.look) = Op.look2 op qs (ts.map Ten.look) → ∃ rs X Y, OpHas op qs ts rs X Y := by
    intro op avg hop a hts e hc hl
    subst hts
    have hc : (Op.look2 op qs [a.look]).1 = 0 := hc
    have hl : Op.look op qs [a.look] = Op.look2 op qs [a.look] := hl
    rw [e] at hc hl
    have hc : Pl.code qs a.look = 0 := hc
    obtain ⟨c, hF⟩ := Pl.fine (show Cel.fault [a] (Pl.code qs a.look) = (0, none) by rw [Cel.fault_code h1, hc])
    refine ⟨c.part avg a.ds 0 (c.oh * c.ow * c.C), [(c.oh : Int), (c.ow : Int), (c.C : Int)], Pl.kind qs a.look, by show Op.look op qs [a.look] = _; rw [hl, hc, hF.sh], by rw [(Shp.whole hF.cd).2.2.1, Pl.part_length, Pl.prod3], hF.cd, (by rw [show Pl.kind qs a.look = a.u by unfold Pl.kind; rw [if_pos hc]; rfl]; exact Pl.fits hF.ok.s1 avg (Tens.whole (Tens.first_fine _ h1 a (by simp))).2.2 0 _), fun A B qcap cap w hQ hR hI => ⟨Pl.part_wf hF.ok _ _ _ _ hF.sa, opof_pool hop hF A B qcap cap w hQ hR (hI a (by simp))⟩⟩
  rcases this with rfl | rfl | rfl | rfl | rfl | rfl | rfl | rfl | rfl | rfl
  · have hi : ts.length = 2 := hi
    have ha : qs.length = 2 := ha (by decide)
    match ts, hi, qs, ha with
    | [a, b], _, [za, zb], _ =>
      have hc : Mat.code za zb a.look b.look = 0 := hc
      obtain ⟨M, K, N, hF⟩ := Mat.fine (show Cel.fault [a, b] (Mat.code za zb a.look b.look) = (0, none) by rw [Cel.fault_code h1, hc])
      have hl : Op.look 12 [za, zb] [a.look, b.look] = (Mat.code za zb a.look b.look, Mat.shape za zb a.look b.look, Mat.kind za zb a.look b.look) := hl
      have h2 := Mat.prod_two M N hF.m1 hF.m2 hF.n1 hF.n2 hF.mn
      exact ⟨Mat.part a.ds b.ds za zb K N 0 (M * N), [(M : Int), (N : Int)], Mat.kind za zb a.look b.look, by show Op.look 12 [za, zb] [a.look, b.look] = _; rw [hl, hc, hF.sh], by rw [Mat.part_length, h2.2], h2.1, (by rw [show Mat.kind za zb a.look b.look = true from decide_eq_true hc]; exact Mat.fits _ _ _ _ _ _ _ _), fun A B qcap cap w hQ hR hI => ⟨Mat.part_wf _ _ _ _ _ _ _ _, opof_mat hF A B qcap cap w hQ hR (hI a (by simp)) (hI b (by simp))⟩⟩
  · have hi : ts.length = 2 := hi
    match ts, hi with
    | [a, b], _ =>
      have hc : Cv.code qs a.look b.look = 0 := hc
      obtain ⟨c, hF⟩ := Cv.fine (show Cel.fault [a, b] (Cv.code qs a.look b.look) = (0, none) by rw [Cel.fault_code h1, hc])
      have hl : Op.look 13 qs [a.look, b.look] = (Cv.code qs a.look b.look, Cv.shape qs a.look b.look, Cv.kind qs a.look b.look) := hl
      exact ⟨c.part a.ds b.ds 0 (c.oh * c.ow * c.N), [(c.oh : Int), (c.ow : Int), (c.N : Int)], Cv.kind qs a.look b.look, by show Op.look 13 qs [a.look, b.look] = _; rw [hl, hc, hF.sh], by rw [(Shp.whole hF.cd).2.2.1, Cv.part_length, Cv.prod3], hF.cd, (by rw [show Cv.kind qs a.look b.look = true from decide_eq_true hc]; exact Cv.fits _ _ _ _ _), fun A B qcap cap w hQ hR hI => ⟨Cv.part_wf _ _ _ _ _, opof_conv hF A B qcap cap w hQ hR (hI a (by simp)) (hI b (by simp))⟩⟩
  · have hi : ts.length = 1 := hi
    obtain ⟨a, hts⟩ : ∃ a, ts = [a] := List.length_eq_one_iff.1 hi
    exact pool (.inl ⟨rfl, rfl⟩) hts rfl hc hl
  · have hi : ts.length = 1 := hi
    obtain ⟨a, hts⟩ : ∃ a, ts = [a] := List.length_eq_one_iff.1 hi
    exact pool (.inr ⟨rfl, rfl⟩) hts rfl hc hl
  · exact soft (.inl rfl) (List.length_eq_zero_iff.1 (ha (by decide))) rfl hc hl
  · exact soft (.inr (.inl rfl)) (List.length_eq_zero_iff.1 (ha (by decide))) rfl hc hl
  · have hi : ts.length = 1 := hi
    obtain ⟨a, hts⟩ : ∃ a, ts = [a] := List.length_eq_one_iff.1 hi
    subst hts
    have hc : Op.rcode qs a.look = 0 := hc
    have hl : Op.look 18 qs [a.look] = (Op.rcode qs a.look, Op.rshape qs a.look, Op.rkind qs a.look) := hl
    have hsh : Op.rshape qs a.look = qs := if_pos hc
    have hfa := fine_len (show Tens.fault a.zs a.u a.ds = (0, none) from Tens.first_fine _ h1 a (by simp))
    have hq : Shp.code qs = 0 ∧ Shp.elems qs = Shp.elems a.zs := by
      unfold Op.rcode at hc
      rw [if_neg (by rw [show Shp.code a.look.zs = 0 from hfa.2]; simp)] at hc
      split at hc
      · rename_i h; exact absurd hc h
      · rename_i h
        split at hc
        · cases hc
        · rename_i h2
          exact ⟨Classical.byContradiction h, Classical.byContradiction h2⟩
    exact ⟨a.ds, qs, Op.rkind qs a.look, by show Op.look 18 qs [a.look] = _; rw [hl, hc, hsh], by rw [hq.2]; exact hfa.1, hq.1, (by rw [show Op.rkind qs a.look = a.u by unfold Op.rkind; rw [if_pos hc]; rfl]; exact (Tens.whole (Tens.first_fine _ h1 a (by simp))).2.2), fun A B qcap cap w hQ hR hI => ⟨(hI a (by simp)).dat.1, opof_shape (hd a (by simp)) A B qcap cap w hR (hI a (by simp))⟩⟩
  · exact soft (.inr (.inr (.inl rfl))) (List.length_eq_zero_iff.1 (ha (by decide))) rfl hc hl
  · exact soft (.inr (.inr (.inr rfl))) (List.length_eq_zero_iff.1 (ha (by decide))) rfl hc hl
  · have hi : ts.length = 1 := hi
    have ha : qs = [] := List.length_eq_zero_iff.1 (ha (by decide))
    obtain ⟨a, hts⟩ : ∃ a, ts = [a] := List.length_eq_one_iff.1 hi
    subst hts ha
    have hc : Op.tcode a.look = 0 := hc
    have hl : Op.look 21 [] [a.look] = (Op.tcode a.look, Op.tshape a.look, Op.tkind a.look) := hl
    obtain ⟨M, N, hF⟩ := Mat.tfine (show Cel.fault [a] (Mat.tcode a.look) = (0, none) by rw [Cel.fault_code h1]; show (Op.tcode a.look, none) = _; rw [hc])
    have hsh : Op.tshape a.look = [(N : Int), (M : Int)] := by
      unfold Op.tshape
      rw [if_pos hc, show a.look.zs = [(M : Int), (N : Int)] from hF.az]
      rfl
    have h2 := Mat.prod_two N M hF.n1 hF.n2 hF.m1 hF.m2 (by rw [Nat.mul_comm]; exact hF.mn)
    exact ⟨Mat.turn a.ds M N 0 (N * M), [(N : Int), (M : Int)], Op.tkind a.look, by show Op.look 21 [] [a.look] = _; rw [hl, hc, hsh], by rw [Mat.turn_length, h2.2], h2.1, (by rw [show Op.tkind a.look = a.u by unfold Op.tkind; rw [if_pos hc]; rfl]; exact Mat.turn_fits hF.ft _ _ _ _), fun A B qcap cap w hQ hR hI => ⟨Mat.turn_wf a.ds a.u M N 0 (N * M) hF.ft, opof_turn hF A B qcap cap w hR (hI a (by simp))⟩⟩
theorem opapply_has {op : Int} {qs : List Int} {ts : List Ten} {rs X : List Int} {Y : Bool} (h : OpHas op qs ts rs X Y) (hf : Op.fault op qs ts = (0, none)) (A B : Option Addr) (qcap cap : Nat) (ah am ar ak : Addr) (w : World) (hQ : Ri w A qs) (hql : qs.length ≤ 1000000) (hR : Row w B (ts.flatMap Ten.vals)) (hI : ∀ t ∈ ts, t.In w) (hnt : ts.length ≤ 1000000) (hE : E4 w ah am ar ak) (hK : Kz w) :
    Calls Tryd.prog 28 #[.int .i64 op, .slice A qs.length qcap, .slice B ts.length cap] w (OpG w X Y rs) := by
  obtain ⟨hl, hn, hX, -, hO⟩ := h
  obtain ⟨hwf, hOf⟩ := hO A B qcap cap w hQ hR hI
  have hw := Shp.whole hX
  have hle := Shp.elems_le X
  have h1 : 1 ≤ rs.length := by have := hw.2.2.1; omega
  have h := opapply_c op qs ts rs A B qcap cap ah am ar ak w hQ hql hR hI hnt hE hK (fun _ => ⟨hwf, by omega, fun P c u W hb hr => by
    rw [hl] at hr ⊢
    refine all_c X rs P c u op A B qs.length qcap ts.length cap am ar W hr (by omega) (hE.below hb).1.2 hn fun W2 hb2 => ?_
    have h4 := hOf 0 rs.length W2 h1 (by omega) (hb.trans (hb2.mono hb.size))
    rw [Nat.zero_add] at h4
    unfold Op.cut at h4
    rw [List.drop_zero, List.take_length] at h4
    exact h4⟩)
  rw [hf, hl] at h
  exact h.mono fun e w' h => h.good
theorem opelement_has {op : Int} {qs : List Int} {ts : List Ten} {rs X : List Int} {Y : Bool} (h : OpHas op qs ts rs X Y) (hf : Op.fault op qs ts = (0, none)) (i : Int) (hi1 : i ≤ 9223372036854775807) (hi2 : -9223372036854775808 ≤ i) (A B : Option Addr) (qcap cap : Nat) (ah am ar ak : Addr) (w : World) (hQ : Ri w A qs) (hql : qs.length ≤ 1000000) (hR : Row w B (ts.flatMap Ten.vals)) (hI : ∀ t ∈ ts, t.In w) (hnt : ts.length ≤ 1000000) (hE : E4 w ah am ar ak) (hK : Kz w) :
    Calls Tryd.prog 30 #[.int .i64 op, .slice A qs.length qcap, .int .i64 i, .slice B ts.length cap] w fun e w' => e = .returned (.int .i64 (Op.at rs i)) ∧ Below w.heap.size w w' := by
  obtain ⟨hl, hn, hX, -, hO⟩ := h
  obtain ⟨-, hOf⟩ := hO A B qcap cap w hQ hR hI
  have hw := Shp.whole hX
  exact opelement_good op qs ts rs X Y hl hf hn (by omega) i hi1 hi2 A B qcap cap ah am ar ak w hQ hql hR hI hnt hE hK (fun k W hk hb => hOf.one k W hk hb)
end Go.Proofs.YtgdcfjmpjhlndaaDoor
