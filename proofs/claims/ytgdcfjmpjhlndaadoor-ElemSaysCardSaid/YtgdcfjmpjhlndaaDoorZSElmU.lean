/-
  elem.do, Two, One of any operation, walked. By an AI agent. No person has read it.
-/
import Derived.Test.YtgdcfjmpjhlndaaDoorZSElmN
import Derived.Test.YtgdcfjmpjhlndaaDoorZSElmR
namespace Go.Proofs.YtgdcfjmpjhlndaaDoor
open Go.RowKit
set_option maxRecDepth 100000 in
set_option maxHeartbeats 8000000 in
theorem do_c (op : Int) (qs : List Int) (ts : List Ten) (A B : Option Addr) (qcap cap : Nat) (ah am ar ak : Addr) (w : World) (hQ : Ri w A qs) (hR : Row w B (ts.flatMap Ten.vals)) (hI : ∀ t ∈ ts, t.In w) (hl : ts.length ≤ 1000000) (hE : E4 w ah am ar ak) :
    Calls Tryd.prog 38 #[.int .i64 op, .slice A qs.length qcap, .slice B ts.length cap] w fun e w' =>
      (∃ (t : Ten) (x : Value), e = .returned (.tuple #[.agg (tcells t.P t.zs.length t.cap t.u t.D t.ds.length t.dcap), x]) ∧ t.In w' ∧ t.Fresh w.heap.size ∧ t.zs = Elm.ozs op qs ts ∧ t.u = Elm.ou op qs ts ∧ t.ds = Elm.ods op qs ts ∧ Elm.Err w' ah am ar ak x (Elm.fault op qs ts)) ∧ Below w.heap.size w w' := by
  have hb0 := (Below.refl w.heap.size w).alloc (Nat.le_refl _) (.cells #[.slice none 0 0, .bool false, .slice none 0 0] 26)
  have hz0 := Has.new w 26 [.slice none 0 0, .bool false, .slice none 0 0]
  have HV := hide (looks_c ts B cap ah am ar _ (hR.below hb0) (fun t ht => (hI t ht).below hb0) hl (hE.1.below hb0))
  have HB := hide hb0
  have HZ := hide hz0
  have HR : Hid (∀ (C : Option Addr) (c : Nat) W, Below w.heap.size w W → Row W C (ts.flatMap fun t => t.look.vals) → Calls Tryd.prog 57 #[.int .i64 op, .slice A qs.length qcap, .slice C ts.length c] W fun e w' =>
      (∃ Q c x, e = .returned (.tuple #[.agg (dcells Q (Elm.shape op qs (ts.map Ten.look)).length c (Elm.kind op qs (ts.map Ten.look))), x]) ∧ x = Elm.err ah am ar ak (Elm.code op qs (ts.map Ten.look)) ∧
        (Elm.code op qs (ts.map Ten.look) = 0 → ∃ g rest, Q = some ⟨g, 0, none⟩ ∧ W.heap.size < g ∧ (Elm.shape op qs (ts.map Ten.look)).length ≤ c ∧ c ≤ 9223372036854775807 ∧ Has w' g 3 (i64s (Elm.shape op qs (ts.map Ten.look)) ++ rest))) ∧ Below W.heap.size W w') := hide fun C c W hb hr => by
    have h := result_c op qs (ts.map Ten.look) A C qcap c ah am ar ak W (hQ.below hb) (by rw [Ten.flat_look]; exact hr) (fun d hd => by
      obtain ⟨t, ht, rfl⟩ := List.mem_map.1 hd
      exact ((hI t ht).below hb).look) (by rw [List.length_map]; exact hl) (hE.below hb)
    rw [List.length_map] at h
    exact h
  -- the whole answer
  have HA : Hid (Tens.first ts = (0, none) → Elm.code op qs (ts.map Ten.look) = 0 → ∃ a b : Ten, ts.head? = some a ∧ ts.getLast? = some b ∧ a.In w ∧ Shp.code a.zs = 0 ∧ (Elm.ods op qs ts).length = a.ds.length ∧ a.ds.length ≤ 1000000 ∧ (∀ z ∈ Elm.ods op qs ts, (Lit.int .i64 z).wf = true) ∧
      Elm.ozs op qs ts = a.zs ∧ Elm.shape op qs (ts.map Ten.look) = a.zs ∧ Elm.ou op qs ts = Elm.kind op qs (ts.map Ten.look) ∧
      ∀ (Q : Option Addr) (c : Nat) (k : Bool) W, Below w.heap.size w W → Ri W Q a.zs → Calls Tryd.prog 72 #[.agg (dcells Q a.zs.length c k), .int .i64 op, .slice A qs.length qcap, .slice B ts.length cap] W fun e w' => (∃ g, e = .returned (.agg (tcells Q a.zs.length c k (some ⟨g, 0, none⟩) (Elm.ods op qs ts).length (Elm.ods op qs ts).length)) ∧ W.heap.size < g ∧ Has w' g 3 (i64s (Elm.ods op qs ts))) ∧ Below W.heap.size W w') := hide fun hf hc => by
    obtain ⟨ho, hql, a, b, hts, hcz⟩ := Elm.code_zero hc
    have hfa : Elm.fault op qs ts = (0, none) := by unfold Elm.fault; rw [if_pos hf, hc]
    have hmem := Tens.first_fine ts hf
    have hha : ts.head? = some a := by rcases hts with ⟨rfl, -⟩ | ⟨rfl, -, -⟩ <;> rfl
    have hlb : ts.getLast? = some b := by
      rcases hts with ⟨rfl, rfl⟩ | ⟨rfl, -, -⟩
      · rfl
      · rfl
    have hma : a ∈ ts := by rcases hts with ⟨rfl, -⟩ | ⟨rfl, -, -⟩ <;> simp
    have hmb : b ∈ ts := by
      rcases hts with ⟨rfl, rfl⟩ | ⟨rfl, -, -⟩
      · simp
      · simp
    have hzz : a.zs = b.zs := by
      rcases hts with ⟨-, rfl⟩ | ⟨-, h, -⟩
      · rfl
      · exact h
    have hts' : (ts = [a] ∧ b = a) ∨ ts = [a, b] := by
      rcases hts with h | ⟨h, -, -⟩
      · exact .inl h
      · exact .inr h
    have hla := (fine_len (hmem a hma)).1
    have hlb2 := (fine_len (hmem b hmb)).1
    rw [← hzz] at hlb2
    have heq : b.ds.length = a.ds.length := by omega
    have hod : Elm.ods op qs ts = Elm.part op a.u qs a.ds b.ds 0 a.ds.length := by
      unfold Elm.ods
      rw [if_pos hfa, hha, hlb]
      rfl
    have hIa := hI a hma
    have hIb := hI b hmb
    refine ⟨a, b, hha, hlb, hIa, hcz, by rw [hod, Elm.part_length], hIa.ld, ?_, ?_, ?_, ?_, ?_⟩
    · rw [hod]
      exact Elm.part_wf op a.u qs a.ds b.ds 0 _ hIa.dat.1 hIb.dat.1 hQ.1
    · unfold Elm.ozs
      rw [if_pos hfa, hha]
      rfl
    · unfold Elm.shape
      rw [if_pos hc, List.head?_map, hha]
      rfl
    · unfold Elm.ou Elm.kind
      rw [if_pos hfa, if_pos hc, List.head?_map, hha]
      rfl
    · intro Q c k W hb hr
      rw [hod]
      refine all_c a.zs (Elm.part op a.u qs a.ds b.ds 0 a.ds.length) Q c k op A B qs.length qcap ts.length cap am ar W hr hIa.ls (hE.1.2.below hb) (by rw [Elm.part_length]; exact hla) fun W2 hb2 => ?_
      have hb3 := hb.trans (hb2.mono hb.size)
      have h := cof_c op ho qs ts a b hts' A B qcap cap 0 a.ds.length W2 hql (hQ.below hb3) (hIa.below hb3) (hIb.below hb3) (by omega) (by omega) (hR.below hb3)
      rw [Nat.zero_add] at h
      rw [Elm.part_length]
      exact h
  have hfc := Tens.first_cases ts
  have hcc := Elm.code_cases op qs (ts.map Ten.look)
  have HF1 : Hid (Tens.first ts ≠ (0, none) → Elm.fault op qs ts = Tens.first ts ∧ Elm.ozs op qs ts = [] ∧ Elm.ou op qs ts = false ∧ Elm.ods op qs ts = []) := hide fun h => by
    have e : Elm.fault op qs ts = Tens.first ts := by unfold Elm.fault; rw [if_neg h]
    refine ⟨e, ?_, ?_, ?_⟩
    · unfold Elm.ozs; rw [e, if_neg h]
    · unfold Elm.ou; rw [e, if_neg h]
    · unfold Elm.ods; rw [e, if_neg h]
  have HF2 : Hid (Tens.first ts = (0, none) → Elm.code op qs (ts.map Ten.look) ≠ 0 → Elm.fault op qs ts = (Elm.code op qs (ts.map Ten.look), none) ∧ Elm.ozs op qs ts = [] ∧ Elm.ou op qs ts = false ∧ Elm.ods op qs ts = []) := hide fun h hc => by
    have e : Elm.fault op qs ts = (Elm.code op qs (ts.map Ten.look), none) := by unfold Elm.fault; rw [if_pos h]
    have hn : Elm.fault op qs ts ≠ (0, none) := by rw [e]; intro h; exact hc (congrArg Prod.fst h)
    refine ⟨e, ?_, ?_, ?_⟩
    · unfold Elm.ozs; rw [if_neg hn]
    · unfold Elm.ou; rw [if_neg hn]
    · unfold Elm.ods; rw [if_neg hn]
  have HF3 : Hid (Tens.first ts = (0, none) → Elm.code op qs (ts.map Ten.look) = 0 → Elm.fault op qs ts = (0, none)) := hide fun h hc => by
    unfold Elm.fault; rw [if_pos h, hc]
  clear hQ hR hI hl hE hb0 hz0
  obtain ⟨nt, hnt⟩ : ∃ n, Hid (ts.length = n) := ⟨_, hide rfl⟩
  obtain ⟨nq, hnq⟩ : ∃ n, Hid (qs.length = n) := ⟨_, hide rfl⟩
  obtain ⟨ds, hds⟩ : ∃ n, Hid (ts.map Ten.look = n) := ⟨_, hide rfl⟩
  obtain ⟨F, hF⟩ : ∃ n, Hid (Tens.first ts = n) := ⟨_, hide rfl⟩
  obtain ⟨vs, hvs⟩ : ∃ n, Hid ((ts.flatMap fun t => t.look.vals) = n) := ⟨_, hide rfl⟩
  rw [hds.out] at HR HA hcc HF2 HF3
  obtain ⟨K, hK⟩ : ∃ n, Hid (Elm.code op qs ds = n) := ⟨_, hide rfl⟩
  obtain ⟨X, hX⟩ : ∃ n, Hid (Elm.shape op qs ds = n) := ⟨_, hide rfl⟩
  obtain ⟨Y, hY⟩ : ∃ n, Hid (Elm.kind op qs ds = n) := ⟨_, hide rfl⟩
  obtain ⟨oz, hoz⟩ : ∃ n, Hid (Elm.ozs op qs ts = n) := ⟨_, hide rfl⟩
  obtain ⟨ou, hou⟩ : ∃ n, Hid (Elm.ou op qs ts = n) := ⟨_, hide rfl⟩
  obtain ⟨od, hod⟩ : ∃ n, Hid (Elm.ods op qs ts = n) := ⟨_, hide rfl⟩
  obtain ⟨R, hRR⟩ : ∃ n, Hid (Elm.fault op qs ts = n) := ⟨_, hide rfl⟩
  rw [hF.out] at HV HA hfc HF1 HF2 HF3
  rw [hK.out, hX.out, hY.out] at HR HA
  rw [hK.out] at HF2 HF3 hcc
  rw [hoz.out, hou.out, hod.out] at HA HF1 HF2 ⊢
  rw [hRR.out] at HF1 HF2 HF3 ⊢
  rw [hnt.out] at HV HR HA ⊢
  rw [hnq.out] at HR HA ⊢
  rw [hvs.out] at HV HR
  clear hnt hnq hds hF hvs hK hX hY hoz hou hod hRR
  go_enter Tryd.func38, Tryd.ntmps38
  go_wp2_with fail
  generalize (w.alloc (.cells #[.slice none 0 0, .bool false, .slice none 0 0] 26)) = W0 at *
  refine HV.out.mono ?_
  rintro e w1 ⟨⟨v, x, rfl, h1, h2⟩, hb⟩
  have hB1 := HB.out.trans (hb.mono HB.out.size)
  have hZ1 := HZ.out.below hb HZ.out.lt
  clear HV HB HZ hb
  by_cases hf : F = (0, none)
  case neg =>
    obtain ⟨rfl, hx⟩ := h2 hf
    have hE := hx.errv hfc hf
    obtain ⟨rfl, rfl, rfl, rfl⟩ := HF1.out hf
    obtain ⟨z0, z1, z2, zf0, zf1, zf2, HZf, HFf⟩ := elm_three hZ1 hB1 (Nat.le_refl _) (.slice none 0 0) (.bool false) (.slice none 0 0)
    have hx1 := hx.far hZ1 (by decide) 0 (.slice none 0 0)
    have hx2 := hx1.far (hZ1.set_ 0 (.slice none 0 0)) (by decide) 1 (.bool false)
    have hx3 := hide (hx2.far ((hZ1.set_ 0 (.slice none 0 0)).set_ 1 (.bool false)) (by decide) 2 (.slice none 0 0))
    have hR3 : R ≠ (103, none) := by
      rcases hfc with h | h | h | h | ⟨i, h⟩ <;> rw [h] <;> simp
    have HR3 := hide hR3
    have r1 := run_neqerr hE
    have r2 := run_neqguard hE
    clear h1 h2 hf hx hx1 hx2 hR3 hfc hcc hE hB1 hZ1 HF1 HF2 HF3 HA HR
    go_wp2_with fail
    refine bodyPost_ret (results_tn rfl _ _ w.heap.size _ _ _ rfl HZf.out) rfl ?_
    refine ⟨⟨⟨none, [], 0, false, none, [], 0⟩, x, rfl, ⟨Ri.nil _ _, Ri.nil _ _, by simp, by simp⟩, ⟨(fun _ h => by cases h), (fun _ h => by cases h)⟩, rfl, rfl, rfl, ?_⟩, HFf.out⟩
    unfold Elm.Err
    rw [if_neg HR3.out]
    exact hx3.out
  case pos =>
    obtain ⟨rfl, hown⟩ := h1 hf
    obtain ⟨C, c, rfl, hrow⟩ := own_row hown
    have hsz1 := hB1.size
    have HRe := hide (HR.out C c w1 hB1 hrow)
    have HB := hide hB1
    have HZ := hide hZ1
    clear h1 h2 hown hrow hB1 hZ1 HR hfc HF1
    go_wp2_with fail
    refine HRe.out.mono ?_
    rintro e w2 ⟨⟨Q, qc, x, rfl, hx, hg⟩, hb⟩
    have hB2 := (HB.out.trans (hb.mono HB.out.size))
    have hZ2 := HZ.out.below hb HZ.out.lt
    clear HRe HB HZ hb
    by_cases hk : K = 0
    case neg =>
      obtain ⟨rfl, rfl, rfl, rfl⟩ := HF2.out hf hk
      have hE : ErrV x := by
        rw [hx]
        rcases hcc with h | h | h | h | h
        · exact absurd h hk
        · exact Elm.err_v (.inl h)
        · exact Elm.err_v (.inr (.inl h))
        · exact Elm.err_v (.inr (.inr (.inl h)))
        · exact Elm.err_v (.inr (.inr (.inr h)))
      have hErr : ∀ W, Elm.Err W ah am ar ak x (K, none) := fun W => by
        unfold Elm.Err
        rw [hx]
        by_cases h3 : K = 103
        · rw [h3, if_pos rfl]
          rfl
        · rw [if_neg (fun h => h3 (congrArg Prod.fst h))]
          show Elm.err ah am ar ak K = Tens.err ah am ar K
          unfold Elm.err
          rw [if_neg h3]
      obtain ⟨z0, z1, z2, zf0, zf1, zf2, HZ3, HF3'⟩ := elm_three hZ2 hB2 (Nat.le_refl _) (.slice none 0 0) (.bool false) (.slice none 0 0)
      have HZf := hide (HZ3.out.alloc (.cells (dcells Q X.length qc Y) 24))
      have HFf := hide (HF3'.out.alloc HF3'.out.size (.cells (dcells Q X.length qc Y) 24))
      have HErr := hide hErr
      have r1 := run_neqerr hE
      have r2 := run_neqguard hE
      have hzl := hZ2.lt
      clear hf hx hcc hE hB2 hZ2 HZ3 HF3' HF2 HF3 HA hg hk hErr
      go_wp2_with fail
      refine bodyPost_ret (results_tn rfl _ _ w.heap.size _ _ _ rfl HZf.out) rfl ?_
      exact ⟨⟨⟨none, [], 0, false, none, [], 0⟩, x, rfl, ⟨Ri.nil _ _, Ri.nil _ _, by simp, by simp⟩, ⟨(fun _ h => by cases h), (fun _ h => by cases h)⟩, rfl, rfl, rfl, HErr.out _⟩, HFf.out⟩
    case pos =>
      obtain ⟨a, b, -, -, hIa, -, hlen, hll, hwf, hoz, hsh, hou, hall⟩ := HA.out hf hk
      obtain rfl := HF3.out hf hk
      obtain ⟨g, rest, rfl, hgl, hgc, hgc2, hG⟩ := hg hk
      subst hoz
      subst hsh
      subst hou
      have hxn : x = .nilIface := by rw [hx, hk]; rfl
      subst hxn
      have hB3 := hB2.alloc hB2.size (.cells (dcells (some ⟨g, 0, none⟩) a.zs.length qc ou) 24)
      have hZ3 := hZ2.alloc (.cells (dcells (some ⟨g, 0, none⟩) a.zs.length qc ou) 24)
      have hG3 := hG.alloc (.cells (dcells (some ⟨g, 0, none⟩) a.zs.length qc ou) 24)
      have hRi := hG3.ri_app hIa.shp.1
      have HAl := hide (hall (some ⟨g, 0, none⟩) qc ou _ hB3 hRi)
      have HB3 := hide hB3
      have HZ3 := hide hZ3
      have HRi := hide hRi
      have HL := hide hIa.ls
      have HLD : Hid (od.length ≤ 1000000) := hide (by omega)
      have HWF := hide hwf
      clear hIa hlen hll hwf hall hG hG3 hRi hB3 hZ3 hx hk hf HF2 HF3 HA hg hcc hB2 hZ2
      go_wp2_with fail
      refine HAl.out.mono ?_
      rintro e w3 ⟨⟨gd, rfl, hgd, hD⟩, hb⟩
      have hB4 := HB3.out.trans (hb.mono HB3.out.size)
      have hZ4 := HZ3.out.below hb HZ3.out.lt
      have hR4 := HRi.out.below hb
      have hzl := HZ3.out.lt
      obtain ⟨z0, z1, z2, zf0, zf1, zf2, HZf, HFf⟩ := elm_three hZ4 hB4 (Nat.le_refl _) (.slice (some ⟨g, 0, none⟩) a.zs.length qc) (.bool ou) (.slice (some ⟨gd, 0, none⟩) od.length od.length)
      have hDf := hide (((hD.far (p := ⟨w.heap.size, 0, none⟩) (by simp; omega) (.slice (some ⟨g, 0, none⟩) a.zs.length qc)).far (p := ⟨w.heap.size, 1, none⟩) (by simp; omega) (.bool ou)).far (p := ⟨w.heap.size, 2, none⟩) (by simp; omega) (.slice (some ⟨gd, 0, none⟩) od.length od.length))
      have hgb : w.heap.size ≠ g := by omega
      have hgf : w.heap.size < g := by omega
      have hgdf : w.heap.size < gd := by have := HB3.out.size; omega
      have hRf : Hid (Ri (((w3.setCell ⟨w.heap.size, 0, none⟩ (.slice (some ⟨g, 0, none⟩) a.zs.length qc)).setCell ⟨w.heap.size, 1, none⟩ (.bool ou)).setCell ⟨w.heap.size, 2, none⟩ (.slice (some ⟨gd, 0, none⟩) od.length od.length)) (some ⟨g, 0, none⟩) a.zs) := hide (by
        refine ⟨hR4.1, fun hne => ?_⟩
        obtain ⟨ad, h1, h2, h3⟩ := hR4.2 hne
        refine ⟨ad, h1, by simpa using h2, fun i z hz => ?_⟩
        have h4 : (ad.add i).block ≠ w.heap.size := by
          rw [ad_block]
          have := Option.some.inj h1
          subst this
          exact Ne.symm hgb
        rw [World.cell?_setCell_far _ _ _ _ (Ne.symm h4), World.cell?_setCell_far _ _ _ _ (Ne.symm h4), World.cell?_setCell_far _ _ _ _ (Ne.symm h4)]
        exact h3 i z hz)
      clear HAl hb hB4 hZ4 hR4 hD
      go_wp2_with fail
      refine bodyPost_ret (results_tn rfl _ _ w.heap.size _ _ _ rfl HZf.out) rfl ?_
      refine ⟨⟨⟨some ⟨g, 0, none⟩, a.zs, qc, ou, some ⟨gd, 0, none⟩, od, od.length⟩, .nilIface, rfl, ⟨hRf.out, hDf.out.ri HWF.out, HL.out, HLD.out⟩, ⟨(fun ad h => by cases h; exact Nat.le_of_lt hgf), (fun ad h => by cases h; exact Nat.le_of_lt hgdf)⟩, rfl, rfl, rfl, ?_⟩, HFf.out⟩
      unfold Elm.Err
      rw [if_neg (by simp)]
      rfl
set_option maxRecDepth 100000 in
set_option maxHeartbeats 8000000 in
theorem two_c (op : Int) (a b : Ten) (ah am ar ak : Addr) (w : World) (ha : a.In w) (hb : b.In w) (hE : E4 w ah am ar ak) :
    Calls Tryd.prog 12 #[.int .i64 op, .agg (tcells a.P a.zs.length a.cap a.u a.D a.ds.length a.dcap), .agg (tcells b.P b.zs.length b.cap b.u b.D b.ds.length b.dcap)] w fun e w' =>
      (∃ (t : Ten) (x : Value), e = .returned (.tuple #[.agg (tcells t.P t.zs.length t.cap t.u t.D t.ds.length t.dcap), x]) ∧ t.In w' ∧ t.Fresh w.heap.size ∧ t.zs = Elm.ozs op [] [a, b] ∧ t.u = Elm.ou op [] [a, b] ∧ t.ds = Elm.ods op [] [a, b] ∧ Elm.Err w' ah am ar ak x (Elm.fault op [] [a, b])) ∧ Below w.heap.size w w' := by
  obtain ⟨Fl, hFl⟩ : ∃ x, Hid (Elm.fault op [] [a, b] = x) := ⟨_, hide rfl⟩
  obtain ⟨oz, hoz⟩ : ∃ x, Hid (Elm.ozs op [] [a, b] = x) := ⟨_, hide rfl⟩
  obtain ⟨ou, hou⟩ : ∃ x, Hid (Elm.ou op [] [a, b] = x) := ⟨_, hide rfl⟩
  obtain ⟨od, hod⟩ : ∃ x, Hid (Elm.ods op [] [a, b] = x) := ⟨_, hide rfl⟩
  obtain ⟨W, hW⟩ : ∃ W, W = (((w.alloc (.cells a.vals.toArray 26)).alloc (.cells b.vals.toArray 26)).alloc (.cells #[.slice none 0 0, .bool false, .slice none 0 0] 26)).alloc (.cells ([a, b].flatMap Ten.vals).toArray 26) := ⟨_, rfl⟩
  have hBW : Below w.heap.size w W := by
    rw [hW]
    exact ((((Below.refl _ w).alloc (Nat.le_refl _) _).alloc (by simp) _).alloc (by simp; omega) _).alloc (by simp; omega) _
  have hZW : Has W (w.heap.size + 2) 26 [.slice none 0 0, .bool false, .slice none 0 0] := by
    rw [hW]
    exact (box_at ((w.alloc (.cells a.vals.toArray 26)).alloc (.cells b.vals.toArray 26)) 26 [.slice none 0 0, .bool false, .slice none 0 0] (w.heap.size + 2) (by simp)).alloc _
  have hRW : Has W (w.heap.size + 3) 26 ([a, b].flatMap Ten.vals) := by
    rw [hW]
    exact box_at (((w.alloc (.cells a.vals.toArray 26)).alloc (.cells b.vals.toArray 26)).alloc (.cells #[.slice none 0 0, .bool false, .slice none 0 0] 26)) 26 ([a, b].flatMap Ten.vals) (w.heap.size + 3) (by simp)
  have hsz : W.heap.size = w.heap.size + 4 := by rw [hW]; simp
  have HV := hide (do_c op [] [a, b] none (some ⟨w.heap.size + 3, 0, none⟩) 0 2 ah am ar ak W (Ri.nil _ _) hRW.row (fun t ht => by
    simp at ht
    rcases ht with rfl | rfl
    · exact ha.below hBW
    · exact hb.below hBW) (by simp) (hE.below hBW))
  rw [hFl.out, hoz.out, hou.out, hod.out] at HV
  rw [hFl.out, hoz.out, hou.out, hod.out]
  have HB := hide hBW
  have HZ := hide hZW
  have HW := hide hW
  have HS := hide hsz
  unfold Ten.vals at HW
  simp only [List.flatMap_cons, List.flatMap_nil, List.append_nil, List.cons_append, List.nil_append] at HW
  clear ha hb hE hBW hZW hRW hW hsz hFl hoz hou hod
  go_enter Tryd.func12, Tryd.ntmps12
  go_wp2_with fail
  rw [← HW.out]
  refine HV.out.mono ?_
  rintro e w2 ⟨⟨t, x, rfl, hIn, hFr, e1, e2, e3, hEr⟩, hb⟩
  have hB2 := HB.out.trans (hb.mono HB.out.size)
  have hZ2 := HZ.out.below hb HZ.out.lt
  subst e1
  subst e2
  subst e3
  obtain ⟨z0, z1, z2, zf0, zf1, zf2, HZf, HFf⟩ := elm_three hZ2 hB2 (Nat.le_add_right _ _) (.slice t.P t.zs.length t.cap) (.bool t.u) (.slice t.D t.ds.length t.dcap)
  have hF2 := hFr.le (m := w.heap.size + 2 + 1) (by rw [HS.out]; omega)
  have HIn := hide (hIn.far3 (b := w.heap.size + 2) hF2 (.slice t.P t.zs.length t.cap) (.bool t.u) (.slice t.D t.ds.length t.dcap))
  have HFr := hide (hF2.le (m := w.heap.size) (by omega))
  have HEr : Hid (Elm.Err (((w2.setCell ⟨w.heap.size + 2, 0, none⟩ (.slice t.P t.zs.length t.cap)).setCell ⟨w.heap.size + 2, 1, none⟩ (.bool t.u)).setCell ⟨w.heap.size + 2, 2, none⟩ (.slice t.D t.ds.length t.dcap)) ah am ar ak x Fl) := hide (by
    unfold Elm.Err at hEr ⊢
    split at hEr
    · rename_i h
      rw [if_pos h]
      exact hEr
    · rename_i h
      rw [if_neg h]
      exact ((hEr.far hZ2 (by decide) 0 _).far (hZ2.set_ 0 _) (by simp) 1 _).far ((hZ2.set_ 0 _).set_ 1 _) (by simp) 2 _)
  clear HV hb hIn hFr hEr hB2 hZ2 hF2 HB HZ HW HS
  go_wp2_with fail
  refine bodyPost_ret (results_tn rfl _ _ (w.heap.size + 2) _ _ _ rfl HZf.out) rfl ?_
  exact ⟨⟨t, x, rfl, HIn.out, HFr.out, rfl, rfl, rfl, HEr.out⟩, HFf.out⟩
set_option maxRecDepth 100000 in
set_option maxHeartbeats 8000000 in
theorem one_c (op : Int) (qs : List Int) (a : Ten) (A : Option Addr) (qcap : Nat) (ah am ar ak : Addr) (w : World) (ha : a.In w) (hQ : Ri w A qs) (hE : E4 w ah am ar ak) :
    Calls Tryd.prog 13 #[.int .i64 op, .agg (tcells a.P a.zs.length a.cap a.u a.D a.ds.length a.dcap), .slice A qs.length qcap] w fun e w' =>
      (∃ (t : Ten) (x : Value), e = .returned (.tuple #[.agg (tcells t.P t.zs.length t.cap t.u t.D t.ds.length t.dcap), x]) ∧ t.In w' ∧ t.Fresh w.heap.size ∧ t.zs = Elm.ozs op qs [a] ∧ t.u = Elm.ou op qs [a] ∧ t.ds = Elm.ods op qs [a] ∧ Elm.Err w' ah am ar ak x (Elm.fault op qs [a])) ∧ Below w.heap.size w w' := by
  obtain ⟨Fl, hFl⟩ : ∃ x, Hid (Elm.fault op qs [a] = x) := ⟨_, hide rfl⟩
  obtain ⟨oz, hoz⟩ : ∃ x, Hid (Elm.ozs op qs [a] = x) := ⟨_, hide rfl⟩
  obtain ⟨ou, hou⟩ : ∃ x, Hid (Elm.ou op qs [a] = x) := ⟨_, hide rfl⟩
  obtain ⟨od, hod⟩ : ∃ x, Hid (Elm.ods op qs [a] = x) := ⟨_, hide rfl⟩
  obtain ⟨W, hW⟩ : ∃ W, W = ((w.alloc (.cells a.vals.toArray 26)).alloc (.cells #[.slice none 0 0, .bool false, .slice none 0 0] 26)).alloc (.cells ([a].flatMap Ten.vals).toArray 26) := ⟨_, rfl⟩
  have hBW : Below w.heap.size w W := by
    rw [hW]
    exact (((Below.refl _ w).alloc (Nat.le_refl _) _).alloc (by simp) _).alloc (by simp; omega) _
  have hZW : Has W (w.heap.size + 1) 26 [.slice none 0 0, .bool false, .slice none 0 0] := by
    rw [hW]
    exact (box_at (w.alloc (.cells a.vals.toArray 26)) 26 [.slice none 0 0, .bool false, .slice none 0 0] (w.heap.size + 1) (by simp)).alloc _
  have hRW : Has W (w.heap.size + 2) 26 ([a].flatMap Ten.vals) := by
    rw [hW]
    exact box_at ((w.alloc (.cells a.vals.toArray 26)).alloc (.cells #[.slice none 0 0, .bool false, .slice none 0 0] 26)) 26 ([a].flatMap Ten.vals) (w.heap.size + 2) (by simp)
  have hsz : W.heap.size = w.heap.size + 3 := by rw [hW]; simp
  have HV := hide (do_c op qs [a] A (some ⟨w.heap.size + 2, 0, none⟩) qcap 1 ah am ar ak W (hQ.below hBW) hRW.row (fun t ht => by
    simp at ht
    rcases ht with rfl
    exact ha.below hBW) (by simp) (hE.below hBW))
  obtain ⟨nq, hnq⟩ : ∃ n, qs.length = n := ⟨_, rfl⟩
  rw [hFl.out, hoz.out, hou.out, hod.out, hnq] at HV
  rw [hFl.out, hoz.out, hou.out, hod.out, hnq]
  have HB := hide hBW
  have HZ := hide hZW
  have HW := hide hW
  have HS := hide hsz
  unfold Ten.vals at HW
  simp only [List.flatMap_cons, List.flatMap_nil, List.append_nil] at HW
  clear ha hQ hE hBW hZW hRW hW hsz hFl hoz hou hod hnq
  go_enter Tryd.func13, Tryd.ntmps13
  go_wp2_with fail
  rw [← HW.out]
  refine HV.out.mono ?_
  rintro e w2 ⟨⟨t, x, rfl, hIn, hFr, e1, e2, e3, hEr⟩, hb⟩
  have hB2 := HB.out.trans (hb.mono HB.out.size)
  have hZ2 := HZ.out.below hb HZ.out.lt
  subst e1
  subst e2
  subst e3
  obtain ⟨z0, z1, z2, zf0, zf1, zf2, HZf, HFf⟩ := elm_three hZ2 hB2 (Nat.le_add_right _ _) (.slice t.P t.zs.length t.cap) (.bool t.u) (.slice t.D t.ds.length t.dcap)
  have hF2 := hFr.le (m := w.heap.size + 1 + 1) (by rw [HS.out]; omega)
  have HIn := hide (hIn.far3 (b := w.heap.size + 1) hF2 (.slice t.P t.zs.length t.cap) (.bool t.u) (.slice t.D t.ds.length t.dcap))
  have HFr := hide (hF2.le (m := w.heap.size) (by omega))
  have HEr : Hid (Elm.Err (((w2.setCell ⟨w.heap.size + 1, 0, none⟩ (.slice t.P t.zs.length t.cap)).setCell ⟨w.heap.size + 1, 1, none⟩ (.bool t.u)).setCell ⟨w.heap.size + 1, 2, none⟩ (.slice t.D t.ds.length t.dcap)) ah am ar ak x Fl) := hide (by
    unfold Elm.Err at hEr ⊢
    split at hEr
    · rename_i h
      rw [if_pos h]
      exact hEr
    · rename_i h
      rw [if_neg h]
      exact ((hEr.far hZ2 (by decide) 0 _).far (hZ2.set_ 0 _) (by simp) 1 _).far ((hZ2.set_ 0 _).set_ 1 _) (by simp) 2 _)
  clear HV hb hIn hFr hEr hB2 hZ2 hF2 HB HZ HW HS
  go_wp2_with fail
  refine bodyPost_ret (results_tn rfl _ _ (w.heap.size + 1) _ _ _ rfl HZf.out) rfl ?_
  exact ⟨⟨t, x, rfl, HIn.out, HFr.out, rfl, rfl, rfl, HEr.out⟩, HFf.out⟩
end Go.Proofs.YtgdcfjmpjhlndaaDoor
