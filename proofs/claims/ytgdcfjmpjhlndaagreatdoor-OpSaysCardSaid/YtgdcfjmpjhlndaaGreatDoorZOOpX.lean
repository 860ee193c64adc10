/-
  A lawful operation: its numbers on both sides, the program's and the reference's; the reference's Apply and Element of anything. By an AI agent. No person has read it.
-/
import Derived.Test.YtgdcfjmpjhlndaaGreatDoorZOOpFit
import Derived.Test.YtgdcfjmpjhlndaaGreatDoorZOOpH
import Derived.Test.YtgdcfjmpjhlndaaGreatDoorZORefI
import Derived.Test.YtgdcfjmpjhlndaaGreatDoorZORefQ
import Derived.Test.YtgdcfjmpjhlndaaGreatDoorZOPolF
import Derived.Test.YtgdcfjmpjhlndaaGreatDoorZOSftR
namespace Go.Proofs.YtgdcfjmpjhlndaaGreatDoor
open Go.RowKit
def OpEl (op : Int) (qs : List Int) (ts : List Ten) (rs X : List Int) (Y : Bool) : Prop :=
 ∀ (A B : Option Addr) (qcap cap : Nat) (w : World), Ri w A qs → Row w B (ts.flatMap Ten.vals) → (∀ t ∈ ts, t.In w) → ∀ (i : Nat) (v : Int) (d : Dsc), rs[i]? = some v → d.In w → d.zs = X → d.u = Y → Calls Tryz.prog 42 #[.int .i64 op, .slice A qs.length qcap, .int .i64 i, .slice B ts.length cap, .agg (dcells d.P d.zs.length d.cap d.u)] w fun e w' => e = .returned (.int .i64 v) ∧ Below w.heap.size w w'
def OpBoth (op : Int) (qs : List Int) (ts : List Ten) (rs X : List Int) (Y : Bool) : Prop := OpHas op qs ts rs X Y ∧ OpEl op qs ts rs X Y
theorem Elm.val_one {op : Int} (h : 8 ≤ op) (u : Bool) (x y z : Int) (qs : List Int) (ho : op ≤ 11) : Elm.val op u x y qs = Elm.val op u x z qs := by
 have : op = 8 ∨ op = 9 ∨ op = 10 ∨ op = 11 := by omega
 rcases this with rfl | rfl | rfl | rfl <;> rfl
theorem op_both_elm2 {op : Int} {qs : List Int} {ts : List Ten} (hf : Op.fault op qs ts = (0, none)) (h11 : op ≤ 11) : OpBoth op qs ts (Elm.ods op qs ts) (Elm.ozs op qs ts) (Elm.ou op qs ts) := by
 obtain ⟨h1, hk, -, hc, hl⟩ := Op.known_of hf
 have e : Op.look2 op qs (ts.map Ten.look) = (Elm.code op qs (ts.map Ten.look), Elm.shape op qs (ts.map Ten.look), Elm.kind op qs (ts.map Ten.look)) := if_pos h11
 rw [e] at hc hl
 have hc : Elm.code op qs (ts.map Ten.look) = 0 := hc
 obtain ⟨ho, hql, a, b, hts, hcz⟩ := Elm.code_zero hc
 have hmem := Tens.first_fine ts h1
 have hma : a ∈ ts := by rcases hts with ⟨rfl, -⟩ | ⟨rfl, -, -⟩ <;> simp
 have hmb : b ∈ ts := by
  rcases hts with ⟨rfl, rfl⟩ | ⟨rfl, -, -⟩
  ·simp
  ·simp
 have hzz : a.zs = b.zs := by
  rcases hts with ⟨-, rfl⟩ | ⟨-, h, -⟩
  ·rfl
  ·exact h
 have hts' : (ts = [a] ∧ b = a) ∨ ts = [a, b] := by
  rcases hts with h | ⟨h, -, -⟩
  ·exact .inl h
  ·exact .inr h
 have hha : ts.head? = some a := by rcases hts with ⟨rfl, -⟩ | ⟨rfl, -, -⟩ <;> rfl
 have hla := (fine_len (hmem a hma)).1
 have hlb2 := (fine_len (hmem b hmb)).1
 rw [← hzz] at hlb2
 have heq : b.ds.length = a.ds.length := by omega
 have hsh : Elm.shape op qs (ts.map Ten.look) = a.zs := by
  unfold Elm.shape
  rw [if_pos hc, List.head?_map, hha]
  rfl
 have hmay : Elm.may op a.u qs = true := by
  have h := (Elm.code_may hc).1
  rwa [show (((ts.map Ten.look).head?.map (·.u)).getD false) = a.u by rcases hts with ⟨rfl, -⟩ | ⟨rfl, -, -⟩ <;> rfl] at h
 have hni : ts.length = Elm.nins op := by
  have h : (ts.map Ten.look).length = Elm.nins op := Classical.byContradiction fun h => by
   unfold Elm.code at hc
   split at hc
   ·cases hc
   ·rw [if_pos (.inl h)] at hc
    cases hc
  rwa [List.length_map] at h
 have hfa : Elm.fault op qs ts = (0, none) := by unfold Elm.fault; rw [if_pos h1, hc]
 have hlb : ts.getLast? = some b := by
  rcases hts with ⟨rfl, rfl⟩ | ⟨rfl, -, -⟩
  ·rfl
  ·rfl
 have hod : Elm.ods op qs ts = Elm.part op a.u qs a.ds b.ds 0 a.ds.length := by
  unfold Elm.ods
  rw [if_pos hfa, hha, hlb]
  rfl
 have hoz : Elm.ozs op qs ts = a.zs := by
  unfold Elm.ozs
  rw [if_pos hfa, hha]
  rfl
 have hou : Elm.ou op qs ts = Elm.kind op qs (ts.map Ten.look) := by
  unfold Elm.ou Elm.kind
  rw [if_pos hfa, if_pos hc, List.head?_map, hha]
  rfl
 rw [hod, hoz, hou]
 refine ⟨⟨by rw [hl, hc, hsh], by rw [Elm.part_length]; exact hla, hcz, Elm.fits hc hts (hmem a hma) (hmem b hmb) _, fun A B qcap cap w hQ hR hI => ⟨?_, opof_elm ho hql hts' heq A B qcap cap w hQ hR (hI a hma) (hI b hmb)⟩⟩, fun A B qcap cap w hQ hR hI i v d hv hd hz hu => ?_⟩
 ·exact Elm.part_wf op a.u qs a.ds b.ds 0 _ (hI a hma).dat.1 (hI b hmb).dat.1 hQ.1
 ·have hil := (List.getElem?_eq_some_iff.1 hv).1
  rw [Elm.part_length] at hil
  rw [Elm.part_getD _ _ _ _ _ _ _ hil] at hv
  rw [← Option.some.inj hv]
  have hx : a.ds[i]? = some (a.ds.getD i 0) := by rw [List.getD_eq_getElem?_getD, List.getElem?_eq_getElem hil]; rfl
  have hy : b.ds[i]? = some (b.ds.getD i 0) := by rw [List.getD_eq_getElem?_getD, List.getElem?_eq_getElem (by omega)]; rfl
  rcases hts' with ⟨rfl, rfl⟩ | rfl
  ·have h8 : 8 ≤ op := by
    unfold Elm.nins at hni
    split at hni
    ·simp at hni
    ·omega
   rw [Elm.val_one h8 b.u _ _ 0 qs h11]
   exact relem_one op ho qs b _ hql hmay d A B qcap cap i w hx hQ hR (hI b hma)
  ·exact relem_two op ho qs a b _ _ hql hmay d A B qcap cap i w hx hy hQ hR (hI a hma) (hI b hmb)
theorem op_both_elm {op : Int} {qs : List Int} {ts : List Ten} (hf : Op.fault op qs ts = (0, none)) (h11 : op ≤ 11) : ∃ rs X Y, OpBoth op qs ts rs X Y := ⟨_, _, _, op_both_elm2 hf h11⟩
theorem relem_sf {op : Int} (hop : Sf.isOp op) {ts : List Ten} (hd : ∀ t ∈ ts, t.ds.length ≤ t.dcap) (hF : Cel.fault ts (Sf.code op (ts.map Ten.look)) = (0, none)) (A B : Option Addr) (nq qcap cap : Nat) (w : World) (hR : Row w B (ts.flatMap Ten.vals)) (hI : ∀ t ∈ ts, t.In w) (i : Nat) (v : Int) (d : Dsc) (hv : (Sf.ds op ts)[i]? = some v)
  (hnq : nq = 0 := by rfl) :
  Calls Tryz.prog 42 #[.int .i64 op, .slice A nq qcap, .int .i64 i, .slice B ts.length cap, .agg (dcells d.P d.zs.length d.cap d.u)] w fun e w' => e = .returned (.int .i64 v) ∧ Below w.heap.size w w' := by
 subst hnq
 have hil := (List.getElem?_eq_some_iff.1 hv).1
 rw [Sf.ds_length] at hil
 have he : v = Sf.el op ts i := by
  unfold Sf.ds at hv
  rw [Sf.part_at _ _ _ _ hil, Nat.zero_add] at hv
  exact (Option.some.inj hv).symm
 subst he
 obtain ⟨hf, hn, -⟩ := Sf.zero hF
 rcases hop with rfl | rfl | rfl | rfl
 ·match ts, hn with
  | [a, b], _ =>
   obtain ⟨-, hz, hau, hbz, hbu, -, -, hs⟩ := Sf.fine_soft a b (hd a (by simp)) hF
   obtain ⟨hr, -, -⟩ := Sf.rows_of (hf a (by simp)) hz (hd a (by simp))
   have wa := (Tens.whole (hf a (by simp))).2.2
   have wb := Tens.whole (hf b (by simp))
   rw [hs] at hil
   refine relem_soft a b _ d A B 0 qcap cap i w hR (fun W hb => rsoftmax_c a b _ _ _ hr (fun z hz => ?_) ?_ (fun z hz => ?_) i W (by rw [← hr.len]; exact hil) ((hI a (by simp)).below hb) ((hI b (by simp)).below hb))
   ·have := wa z hz
    rw [hau] at this
    exact fit_narrow rfl this
   ·have := wb.2.1
    rw [hbz] at this
    simp [Shp.prod] at this
    omega
   ·exact Sf.fits_wide (wb.2.2 z hz)
 ·match ts, hn with
  | [a, b], _ =>
   obtain ⟨-, haz, hbz, -, -, -, hs⟩ := Sf.fine_gath a b (hd a (by simp)) hF
   rw [hs] at hil
   have wa := Tens.whole (hf a (by simp))
   have wm := (Shp.whole wa.1).2.1
   have b0 := wm (Sf.dim0 a : Int) (by rw [haz]; simp)
   have b1 := wm (Sf.last a : Int) (by rw [haz]; simp)
   have hm := (Sf.size_le (Sf.fine_gath a b (hd a (by simp)) hF).1).1
   rw [hs] at hm
   exact relem_gather a b (Sf.dim0 a) (Sf.last a) haz ⟨by omega, by omega⟩ ⟨by omega, by omega⟩ (by
    have := wa.2.1
    rw [haz] at this
    simp only [Shp.prod, Int.mul_one] at this
    rw [← Int.natCast_mul] at this
    omega) (by omega) d A B 0 qcap cap i w hil hR (hI a (by simp)) (hI b (by simp))
 ·match ts, hn with
  | [a], _ =>
   obtain ⟨-, hz, -, -, hs⟩ := Sf.fine_row 19 (.inl rfl) a (hd a (by simp)) hF
   obtain ⟨hr, -, -⟩ := Sf.rows_of (hf a (by simp)) hz (hd a (by simp))
   rw [hs] at hil
   exact relem_rows 19 (.inl rfl) a _ _ _ hr (fun z hz => Sf.fits_wide ((Tens.whole (hf a (by simp))).2.2 z hz)) d A B qcap cap i w hil hR (hI a (by simp))
 ·match ts, hn with
  | [a], _ =>
   obtain ⟨-, hz, -, -, hs⟩ := Sf.fine_row 20 (.inr rfl) a (hd a (by simp)) hF
   obtain ⟨hr, -, -⟩ := Sf.rows_of (hf a (by simp)) hz (hd a (by simp))
   rw [hs] at hil
   exact relem_rows 20 (.inr rfl) a _ _ _ hr (fun z hz => Sf.fits_wide ((Tens.whole (hf a (by simp))).2.2 z hz)) d A B qcap cap i w hil hR (hI a (by simp))
theorem relem_pl {op : Int} {avg : Bool} (hop : Pl.isOp op avg) {qs : List Int} {a : Ten} {c : Pl} (hF : Pl.Fine qs a c) (d : Dsc) (A B : Option Addr) (qcap cap i : Nat) (v : Int) (w : World) (hv : (c.part avg a.ds 0 (c.oh * c.ow * c.C))[i]? = some v) (hQ : Ri w A qs) (hR : Row w B ([a].flatMap Ten.vals)) (ha : a.In w) (hd : d.In w) (hdz : d.zs = [(c.oh : Int), (c.ow : Int), (c.C : Int)]) :
  Calls Tryz.prog 42 #[.int .i64 op, .slice A qs.length qcap, .int .i64 i, .slice B [a].length cap, .agg (dcells d.P d.zs.length d.cap d.u)] w fun e w' => e = .returned (.int .i64 v) ∧ Below w.heap.size w w' := by
 have hl : i < c.oh * c.ow * c.C := by
  have := (List.getElem?_eq_some_iff.1 hv).1
  rw [Pl.part_length] at this
  exact this
 rw [Pl.part_at _ _ _ _ _ _ hl, Nat.zero_add] at hv
 have hq : qs.length = 2 := by rw [hF.qz]; rfl
 rw [← Option.some.inj hv, hq]
 rcases hop with ⟨rfl, rfl⟩ | ⟨rfl, rfl⟩
 ·exact relem_pool14 a d A B qcap cap i _ w hR (fun W' h' => rpl_c false qs a c hF d A qcap i W' hl (hQ.below h') (ha.below h') (hd.below h') hdz)
 ·exact relem_pool15 a d A B qcap cap i _ w hR (fun W' h' => rpl_c true qs a c hF d A qcap i W' hl (hQ.below h') (ha.below h') (hd.below h') hdz)
theorem op_both {op : Int} {qs : List Int} {ts : List Ten} (hf : Op.fault op qs ts = (0, none)) (hd : ∀ t ∈ ts, t.ds.length ≤ t.dcap) : ∃ rs X Y, OpBoth op qs ts rs X Y := by
 by_cases h11 : op ≤ 11
 ·exact op_both_elm hf h11
 obtain ⟨h1, hk, ⟨hi, ha⟩, hc, hl⟩ := Op.known_of hf
 rw [List.length_map] at hi
 have hk2 := hk.2
 have : op = 12 ∨ op = 13 ∨ op = 14 ∨ op = 15 ∨ op = 16 ∨ op = 17 ∨ op = 18 ∨ op = 19 ∨ op = 20 ∨ op = 21 := by omega
 clear h11 hk hk2
 have soft : ∀ {op : Int}, Sf.isOp op → qs = [] → Op.look2 op qs (ts.map Ten.look) = (Sf.code op (ts.map Ten.look), Sf.shape op (ts.map Ten.look), Sf.kind op (ts.map Ten.look)) → (Op.look2 op qs (ts.map Ten.look)).1 = 0 → Op.look op qs (ts.map Ten.look) = Op.look2 op qs (ts.map Ten.look) → ∃ rs X Y, OpBoth op qs ts rs X Y := by
  intro op hop hq e hc hl
  subst hq
  rw [e] at hc hl
  have hc : Sf.code op (ts.map Ten.look) = 0 := hc
  have hF := Sf.fine hop hd (by rw [Cel.fault_code h1, hc])
  have hFF : Cel.fault ts (Sf.code op (ts.map Ten.look)) = (0, none) := by rw [Cel.fault_code h1, hc]
  refine ⟨Sf.ds op ts, _, _, ⟨by rw [hl, hc], by rw [Sf.ds_length]; exact (Sf.size_le hF).2, hF.cd, Sf.fits hop hd (by rw [Cel.fault_code h1, hc]), fun A B qcap cap w hQ hR hI => ⟨Sf.part_wf 0 _ (fun i hi => by rw [Nat.zero_add]; exact hF.wf i hi), opof_soft hF A B qcap cap w hR hI⟩⟩, fun A B qcap cap w hQ hR hI i v d hv hd2 hz hu => relem_sf hop hd hFF A B 0 qcap cap w hR hI i v d hv⟩
 have pool : ∀ {op : Int} {avg : Bool}, Pl.isOp op avg → ∀ {a : Ten}, ts = [a] → Op.look2 op qs [a.look] = (Pl.code qs a.look, Pl.shape qs a.look, Pl.kind qs a.look) → (Op.look2 op qs (ts.map Ten.look)).1 = 0 → Op.look op qs (ts.map Ten.look) = Op.look2 op qs (ts.map Ten.look) → ∃ rs X Y, OpBoth op qs ts rs X Y := by
  intro op avg hop a hts e hc hl
  subst hts
  have hc : (Op.look2 op qs [a.look]).1 = 0 := hc
  have hl : Op.look op qs [a.look] = Op.look2 op qs [a.look] := hl
  rw [e] at hc hl
  have hc : Pl.code qs a.look = 0 := hc
  obtain ⟨c, hF⟩ := Pl.fine (show Cel.fault [a] (Pl.code qs a.look) = (0, none) by rw [Cel.fault_code h1, hc])
  refine ⟨c.part avg a.ds 0 (c.oh * c.ow * c.C), [(c.oh : Int), (c.ow : Int), (c.C : Int)], Pl.kind qs a.look, ⟨by show Op.look op qs [a.look] = _; rw [hl, hc, hF.sh], by rw [(Shp.whole hF.cd).2.2.1, Pl.part_length, Pl.prod3], hF.cd, (by rw [show Pl.kind qs a.look = a.u by unfold Pl.kind; rw [if_pos hc]; rfl]; exact Pl.fits hF.ok.s1 avg (Tens.whole (Tens.first_fine _ h1 a (by simp))).2.2 0 _), fun A B qcap cap w hQ hR hI => ⟨Pl.part_wf hF.ok _ _ _ _ hF.sa, opof_pool hop hF A B qcap cap w hQ hR (hI a (by simp))⟩⟩, fun A B qcap cap w hQ hR hI i v d hv hd2 hz hu => relem_pl hop hF d A B qcap cap i v w hv hQ hR (hI a (by simp)) hd2 hz⟩
 rcases this with rfl | rfl | rfl | rfl | rfl | rfl | rfl | rfl | rfl | rfl
 ·have hi : ts.length = 2 := hi
  have ha : qs.length = 2 := ha (by decide)
  match ts, hi, qs, ha with
  | [a, b], _, [za, zb], _ =>
   have hc : Mat.code za zb a.look b.look = 0 := hc
   obtain ⟨M, K, N, hF⟩ := Mat.fine (show Cel.fault [a, b] (Mat.code za zb a.look b.look) = (0, none) by rw [Cel.fault_code h1, hc])
   have hl : Op.look 12 [za, zb] [a.look, b.look] = (Mat.code za zb a.look b.look, Mat.shape za zb a.look b.look, Mat.kind za zb a.look b.look) := hl
   have h2 := Mat.prod_two M N hF.m1 hF.m2 hF.n1 hF.n2 hF.mn
   exact ⟨Mat.part a.ds b.ds za zb K N 0 (M * N), [(M : Int), (N : Int)], Mat.kind za zb a.look b.look, ⟨by show Op.look 12 [za, zb] [a.look, b.look] = _; rw [hl, hc, hF.sh], by rw [Mat.part_length, h2.2], h2.1, (by rw [show Mat.kind za zb a.look b.look = true from decide_eq_true hc]; exact Mat.fits _ _ _ _ _ _ _ _), fun A B qcap cap w hQ hR hI => ⟨Mat.part_wf _ _ _ _ _ _ _ _, opof_mat hF A B qcap cap w hQ hR (hI a (by simp)) (hI b (by simp))⟩⟩, fun A B qcap cap w hQ hR hI i v d hv hd2 hz hu => by
    have hl : i < M * N := by
     have := (List.getElem?_eq_some_iff.1 hv).1
     rw [Mat.part_length] at this
     exact this
    rw [Mat.part_at _ _ _ _ _ _ _ _ _ hl, Nat.zero_add] at hv
    rw [← Option.some.inj hv]
    exact relem_mat za zb a b M K N hF d A B qcap cap i w hl hQ hR (hI a (by simp)) (hI b (by simp))⟩
 ·have hi : ts.length = 2 := hi
  match ts, hi with
  | [a, b], _ =>
   have hc : Cv.code qs a.look b.look = 0 := hc
   obtain ⟨c, hF⟩ := Cv.fine (show Cel.fault [a, b] (Cv.code qs a.look b.look) = (0, none) by rw [Cel.fault_code h1, hc])
   have hl : Op.look 13 qs [a.look, b.look] = (Cv.code qs a.look b.look, Cv.shape qs a.look b.look, Cv.kind qs a.look b.look) := hl
   exact ⟨c.part a.ds b.ds 0 (c.oh * c.ow * c.N), [(c.oh : Int), (c.ow : Int), (c.N : Int)], Cv.kind qs a.look b.look, ⟨by show Op.look 13 qs [a.look, b.look] = _; rw [hl, hc, hF.sh], by rw [(Shp.whole hF.cd).2.2.1, Cv.part_length, Cv.prod3], hF.cd, (by rw [show Cv.kind qs a.look b.look = true from decide_eq_true hc]; exact Cv.fits _ _ _ _ _), fun A B qcap cap w hQ hR hI => ⟨Cv.part_wf _ _ _ _ _, opof_conv hF A B qcap cap w hQ hR (hI a (by simp)) (hI b (by simp))⟩⟩, fun A B qcap cap w hQ hR hI i v d hv hd2 hz hu => by
    have hl : i < c.oh * c.ow * c.N := by
     have := (List.getElem?_eq_some_iff.1 hv).1
     rw [Cv.part_length] at this
     exact this
    rw [Cv.part_at _ _ _ _ _ _ hl, Nat.zero_add] at hv
    rw [← Option.some.inj hv]
    have hql : qs.length = 3 := by rw [hF.qz]; rfl
    have h := relem_conv qs a b d A B qcap cap i _ w hql hR (fun W' h' => rcv_c qs a b c hF d A qcap i W' hl (hQ.below h') ((hI a (by simp)).below h') ((hI b (by simp)).below h') (hd2.below h') hz)
    exact h⟩
 ·have hi : ts.length = 1 := hi
  obtain ⟨a, hts⟩ : ∃ a, ts = [a] := List.length_eq_one_iff.1 hi
  exact pool (.inl ⟨rfl, rfl⟩) hts rfl hc hl
 ·have hi : ts.length = 1 := hi
  obtain ⟨a, hts⟩ : ∃ a, ts = [a] := List.length_eq_one_iff.1 hi
  exact pool (.inr ⟨rfl, rfl⟩) hts rfl hc hl
 ·exact soft (.inl rfl) (List.length_eq_zero_iff.1 (ha (by decide))) rfl hc hl
 ·exact soft (.inr (.inl rfl)) (List.length_eq_zero_iff.1 (ha (by decide))) rfl hc hl
 ·have hi : ts.length = 1 := hi
  obtain ⟨a, hts⟩ : ∃ a, ts = [a] := List.length_eq_one_iff.1 hi
  subst hts
  have hc : Op.rcode qs a.look = 0 := hc
  have hl : Op.look 18 qs [a.look] = (Op.rcode qs a.look, Op.rshape qs a.look, Op.rkind qs a.look) := hl
  have hsh : Op.rshape qs a.look = qs := if_pos hc
  have hfa := fine_len (show Tens.fault a.zs a.u a.ds = (0, none) from Tens.first_fine _ h1 a (by simp))
  have hq : Shp.code qs = 0 ∧ Shp.elems qs = Shp.elems a.zs := by
   unfold Op.rcode at hc
   rw [if_neg (by rw [show Shp.code a.look.zs = 0 from hfa.2]; simp)] at hc
   split at hc
   ·rename_i h; exact absurd hc h
   ·rename_i h
    split at hc
    ·cases hc
    ·rename_i h2
     exact ⟨Classical.byContradiction h, Classical.byContradiction h2⟩
  exact ⟨a.ds, qs, Op.rkind qs a.look, ⟨by show Op.look 18 qs [a.look] = _; rw [hl, hc, hsh], by rw [hq.2]; exact hfa.1, hq.1, (by rw [show Op.rkind qs a.look = a.u by unfold Op.rkind; rw [if_pos hc]; rfl]; exact (Tens.whole (Tens.first_fine _ h1 a (by simp))).2.2), fun A B qcap cap w hQ hR hI => ⟨(hI a (by simp)).dat.1, opof_shape (hd a (by simp)) A B qcap cap w hR (hI a (by simp))⟩⟩, fun A B qcap cap w hQ hR hI i v d hv hd2 hz hu => relem_shape a d A B qs.length qcap cap i v w hv hR (hI a (by simp))⟩
 ·exact soft (.inr (.inr (.inl rfl))) (List.length_eq_zero_iff.1 (ha (by decide))) rfl hc hl
 ·exact soft (.inr (.inr (.inr rfl))) (List.length_eq_zero_iff.1 (ha (by decide))) rfl hc hl
 ·have hi : ts.length = 1 := hi
  have ha : qs = [] := List.length_eq_zero_iff.1 (ha (by decide))
  obtain ⟨a, hts⟩ : ∃ a, ts = [a] := List.length_eq_one_iff.1 hi
  subst hts ha
  have hc : Op.tcode a.look = 0 := hc
  have hl : Op.look 21 [] [a.look] = (Op.tcode a.look, Op.tshape a.look, Op.tkind a.look) := hl
  obtain ⟨M, N, hF⟩ := Mat.tfine (show Cel.fault [a] (Mat.tcode a.look) = (0, none) by rw [Cel.fault_code h1]; show (Op.tcode a.look, none) = _; rw [hc])
  have hsh : Op.tshape a.look = [(N : Int), (M : Int)] := by
   unfold Op.tshape
   rw [if_pos hc, show a.look.zs = [(M : Int), (N : Int)] from hF.az]
   rfl
  have h2 := Mat.prod_two N M hF.n1 hF.n2 hF.m1 hF.m2 (by rw [Nat.mul_comm]; exact hF.mn)
  exact ⟨Mat.turn a.ds M N 0 (N * M), [(N : Int), (M : Int)], Op.tkind a.look, ⟨by show Op.look 21 [] [a.look] = _; rw [hl, hc, hsh], by rw [Mat.turn_length, h2.2], h2.1, (by rw [show Op.tkind a.look = a.u by unfold Op.tkind; rw [if_pos hc]; rfl]; exact Mat.turn_fits hF.ft _ _ _ _), fun A B qcap cap w hQ hR hI => ⟨Mat.turn_wf a.ds a.u M N 0 (N * M) hF.ft, opof_turn hF A B qcap cap w hR (hI a (by simp))⟩⟩, fun A B qcap cap w hQ hR hI i v d hv hd2 hz hu => by
   have hl : i < N * M := by
    have := (List.getElem?_eq_some_iff.1 hv).1
    rw [Mat.turn_length] at this
    exact this
   rw [Mat.turn_at _ _ _ _ _ _ hl, Nat.zero_add] at hv
   rw [← Option.some.inj hv]
   exact relem_turn a M N hF d A B qcap cap i w hl hR (hI a (by simp))⟩
theorem rapply_any (op : Int) (qs : List Int) (ts : List Ten) (A B : Option Addr) (qcap cap : Nat) (w : World) (hQ : Ri w A qs) (hql : qs.length ≤ 1000000) (hR : Row w B (ts.flatMap Ten.vals)) (hI : ∀ t ∈ ts, t.In w) (hl : ts.length ≤ 1000000) (hz : ∀ t ∈ ts, t.zs.length ≤ t.cap) (rs X : List Int) (Y : Bool) (hb : Op.fault op qs ts = (0, none) → OpBoth op qs ts rs X Y) :
  Calls Tryz.prog 11 #[.int .i64 op, .slice A qs.length qcap, .slice B ts.length cap] w (RTenE w (Op.fault op qs ts) (if Op.fault op qs ts = (0, none) then X else []) (if Op.fault op qs ts = (0, none) then Y else false) (if Op.fault op qs ts = (0, none) then rs else [])) := by
 have hd : ∀ W, Below w.heap.size w W → ∀ d ∈ ts.map Ten.look, d.In W := fun W hb d hd => by
  obtain ⟨t, ht, rfl⟩ := List.mem_map.1 hd
  exact ((hI t ht).below hb).look
 have hc : ∀ d ∈ ts.map Ten.look, d.zs.length ≤ d.cap := fun d hd => by
  obtain ⟨t, ht, rfl⟩ := List.mem_map.1 hd
  exact hz t ht
 have hlk : ∀ h : Op.fault op qs ts = (0, none), Op.look op qs (ts.map Ten.look) = (0, X, Y) := fun h => (hb h).1.1
 have h := rapply_d op ts A B qs.length qcap cap (Op.look op qs (ts.map Ten.look)).2.1 (Op.look op qs (ts.map Ten.look)).2.2 (Op.look op qs (ts.map Ten.look)).1 rs w hR hI hl (fun W B' cap' hb hr => by
  have h := rres_c op qs (ts.map Ten.look) A B' qcap cap' W (hQ.below hb) hql (by rw [Ten.flat_look]; exact hr) (hd W hb) (by rw [List.length_map]; exact hl) hc
  rw [List.length_map] at h
  exact h) (fun h => by
  have h : Op.fault op qs ts = (0, none) := h
  obtain ⟨-, hn, hX, -, hO⟩ := (hb h).1
  rw [hlk h]
  have hw := Shp.whole hX
  have hle := Shp.elems_le X
  exact ⟨by show rs.length = (Shp.elems X).toNat; omega, (hO A B qcap cap w hQ hR hI).1, by omega⟩) (fun h i v W d hv hB hdi hdz hdu => by
  have h : Op.fault op qs ts = (0, none) := h
  rw [hlk h] at hdz hdu
  exact (hb h).2 A B qcap cap W (hQ.below hB) (hR.below hB) (fun t ht => (hI t ht).below hB) i v d hv hdi hdz hdu)
 have e : Cel.fault ts (Op.look op qs (ts.map Ten.look)).1 = Op.fault op qs ts := rfl
 unfold Cel.or at h
 rw [e] at h
 by_cases h0 : Op.fault op qs ts = (0, none)
 ·rw [if_pos h0, if_pos h0, if_pos h0, hlk h0] at h
  rw [if_pos h0, if_pos h0, if_pos h0]
  exact h
 ·rw [if_neg h0, if_neg h0, if_neg h0] at h
  rw [if_neg h0, if_neg h0, if_neg h0]
  exact h
theorem relement_any (op : Int) (qs : List Int) (ts : List Ten) (i : Int) (A B : Option Addr) (qcap cap : Nat) (w : World) (hQ : Ri w A qs) (hql : qs.length ≤ 1000000) (hR : Row w B (ts.flatMap Ten.vals)) (hI : ∀ t ∈ ts, t.In w) (hl : ts.length ≤ 1000000) (hz : ∀ t ∈ ts, t.zs.length ≤ t.cap) (rs X : List Int) (Y : Bool) (hb : Op.fault op qs ts = (0, none) → OpBoth op qs ts rs X Y) :
  Calls Tryz.prog 19 #[.int .i64 op, .slice A qs.length qcap, .int .i64 i, .slice B ts.length cap] w fun e w' => e = .returned (.int .i64 (if Op.fault op qs ts = (0, none) then Op.at rs i else 0)) ∧ Below w.heap.size w w' := by
 have hd : ∀ W, Below w.heap.size w W → ∀ d ∈ ts.map Ten.look, d.In W := fun W hb d hd => by
  obtain ⟨t, ht, rfl⟩ := List.mem_map.1 hd
  exact ((hI t ht).below hb).look
 have hc : ∀ d ∈ ts.map Ten.look, d.zs.length ≤ d.cap := fun d hd => by
  obtain ⟨t, ht, rfl⟩ := List.mem_map.1 hd
  exact hz t ht
 have hlk : ∀ h : Op.fault op qs ts = (0, none), Op.look op qs (ts.map Ten.look) = (0, X, Y) := fun h => (hb h).1.1
 exact relement_d op ts A B qs.length qcap cap (Op.look op qs (ts.map Ten.look)).2.1 (Op.look op qs (ts.map Ten.look)).2.2 (Op.look op qs (ts.map Ten.look)).1 rs i w hR hI hl (fun W B' cap' hb hr => by
  have h := rres_c op qs (ts.map Ten.look) A B' qcap cap' W (hQ.below hb) hql (by rw [Ten.flat_look]; exact hr) (hd W hb) (by rw [List.length_map]; exact hl) hc
  rw [List.length_map] at h
  exact h) (fun h => by
  have h : Op.fault op qs ts = (0, none) := h
  obtain ⟨-, hn, hX, -, -⟩ := (hb h).1
  rw [hlk h]
  have hw := Shp.whole hX
  show rs.length = (Shp.elems X).toNat
  omega) (fun h i v W d hv hB hdi hdz hdu => by
  have h : Op.fault op qs ts = (0, none) := h
  rw [hlk h] at hdz hdu
  exact (hb h).2 A B qcap cap W (hQ.below hB) (hR.below hB) (fun t ht => (hI t ht).below hB) i v d hv hdi hdz hdu)
theorem opapply_any (op : Int) (qs : List Int) (ts : List Ten) (A B : Option Addr) (qcap cap : Nat) (ah am ar ak : Addr) (w : World) (hQ : Ri w A qs) (hql : qs.length ≤ 1000000) (hR : Row w B (ts.flatMap Ten.vals)) (hI : ∀ t ∈ ts, t.In w) (hl : ts.length ≤ 1000000) (hE : E4 w ah am ar ak) (hK : Kz w) (rs X : List Int) (Y : Bool) (hb : Op.fault op qs ts = (0, none) → OpBoth op qs ts rs X Y) :
  Calls Tryz.prog 22 #[.int .i64 op, .slice A qs.length qcap, .slice B ts.length cap] w fun e w' => (∃ (t : Ten) (x : Value), e = .returned (.tuple #[.agg (tcells t.P t.zs.length t.cap t.u t.D t.ds.length t.dcap), x]) ∧ t.In w' ∧ t.zs = (if Op.fault op qs ts = (0, none) then X else []) ∧ t.u = (if Op.fault op qs ts = (0, none) then Y else false) ∧ t.ds = (if Op.fault op qs ts = (0, none) then rs else []) ∧ Elm.Err w' ah am ar ak x (Op.fault op qs ts)) ∧ Below w.heap.size w w' := by
 by_cases h0 : Op.fault op qs ts = (0, none)
 ·refine (opapply_has (hb h0).1 h0 A B qcap cap ah am ar ak w hQ hql hR hI hl hE hK).mono ?_
  rintro e w' ⟨⟨t, rfl, h1, h2, h3, h4, -⟩, hB⟩
  rw [if_pos h0, if_pos h0, if_pos h0, h0]
  exact ⟨⟨t, _, rfl, h1, h2, h3, h4, Elm.Err.code 0⟩, hB⟩
 ·refine (opapply_c op qs ts [] A B qcap cap ah am ar ak w hQ hql hR hI hl hE hK (fun h => absurd h h0)).mono ?_
  rintro e w' ⟨⟨t, x, rfl, h1, -, h2, h3⟩, hB⟩
  obtain ⟨h4, h5, h6⟩ := h2 h0
  rw [if_neg h0, if_neg h0, if_neg h0]
  exact ⟨⟨t, x, rfl, h1, h5, h6, h4, h3⟩, hB⟩
theorem opelement_any (op : Int) (qs : List Int) (ts : List Ten) (i : Int) (hi1 : i ≤ 9223372036854775807) (hi2 : -9223372036854775808 ≤ i) (A B : Option Addr) (qcap cap : Nat) (ah am ar ak : Addr) (w : World) (hQ : Ri w A qs) (hql : qs.length ≤ 1000000) (hR : Row w B (ts.flatMap Ten.vals)) (hI : ∀ t ∈ ts, t.In w) (hl : ts.length ≤ 1000000) (hE : E4 w ah am ar ak) (hK : Kz w) (rs X : List Int) (Y : Bool) (hb : Op.fault op qs ts = (0, none) → OpBoth op qs ts rs X Y) :
  Calls Tryz.prog 32 #[.int .i64 op, .slice A qs.length qcap, .int .i64 i, .slice B ts.length cap] w fun e w' => e = .returned (.int .i64 (if Op.fault op qs ts = (0, none) then Op.at rs i else 0)) ∧ Below w.heap.size w w' := by
 by_cases h0 : Op.fault op qs ts = (0, none)
 ·rw [if_pos h0]
  exact opelement_has (hb h0).1 h0 i hi1 hi2 A B qcap cap ah am ar ak w hQ hql hR hI hl hE hK
 ·rw [if_neg h0]
  exact opelement_bad op qs ts h0 i A B qcap cap ah am ar ak w hQ hql hR hI hl hE hK
end Go.Proofs.YtgdcfjmpjhlndaaGreatDoor
