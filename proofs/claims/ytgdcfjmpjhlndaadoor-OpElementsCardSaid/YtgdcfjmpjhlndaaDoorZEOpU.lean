/-
  Lists of tensors: are they few and small, a copy of them, are two the same; is an operation light. By an AI agent. No person has read it.
-/
import Derived.Test.YtgdcfjmpjhlndaaDoorZECelP
import Derived.Test.YtgdcfjmpjhlndaaDoorZETenH
import Derived.Test.YtgdcfjmpjhlndaaDoorZEOpI
namespace Go.Proofs.YtgdcfjmpjhlndaaDoor
open Go.RowKit
/-- What a tensor is, without where it lies. -/
def Ten.key (t : Ten) : List Int × Bool × List Int := (t.zs, t.u, t.ds)
def Ten.small (t : Ten) : Prop := t.zs.length ≤ 8 ∧ t.ds.length ≤ 300
set_option maxRecDepth 100000 in
set_option maxHeartbeats 4000000 in
theorem worldtensors_c (ts : List Ten) (B : Option Addr) (cap : Nat) (w : World) (hR : Row w B (ts.flatMap Ten.vals)) :
    Calls Tryd.prog 69 #[.slice B ts.length cap, .int .i64 3, .int .i64 300] w fun e w' => (∃ b : Bool, e = .returned (.bool b) ∧ (b = true → ts.length ≤ 3 ∧ ∀ t ∈ ts, t.small)) ∧ Below w.heap.size w w' := by
  have V : Hid (∀ (t : Ten) W, Calls Tryd.prog 11 #[.agg (tcells t.P t.zs.length t.cap t.u t.D t.ds.length t.dcap), .int .i64 300] W fun e w' => e = .returned (.bool (decide (t.zs.length ≤ 8) && decide (t.ds.length ≤ 300))) ∧ Below W.heap.size W w') := hide fun t W => worldtensor_c t.P t.D t.zs.length t.cap t.ds.length t.dcap t.u W
  have HR := hide hR
  obtain ⟨n, hn⟩ : ∃ n, Hid (ts.length = n) := ⟨_, hide rfl⟩
  rw [hn.out]
  clear hR
  by_cases hbig : n ≤ 3
  case neg =>
    have hb2 : (3 : Int) < n := by omega
    clear hbig
    go_enter Tryd.func69, Tryd.ntmps69
    go_wp2_with fail
    go_ret
    exact ⟨⟨false, rfl, fun h => by cases h⟩, Below.refl _ _⟩
  case pos =>
  have hb3 : (n : Int) ≤ 3 := by omega
  have HN3 := hide hbig
  clear hbig
  go_enter Tryd.func69, Tryd.ntmps69
  go_wp2_with fail
  go_loopw [7] (fun k wr => ∃ i : Nat, i ≤ n ∧ k = .int .i64 i ∧ Hid (Below w.heap.size w wr) ∧ Hid (∀ (j : Nat) x, j < i → ts[j]? = some x → x.small)) (fun k _ => n - (intOf k).toNat)
  case atStart => exact ⟨0, by omega, rfl, hide (Below.refl _ _), hide (fun j x hj => by omega)⟩
  case round =>
    obtain ⟨i, hi, rfl, HB, HK⟩ := hrel
    by_cases hlt : i < n
    · obtain ⟨ad, t, rfl, had, ht, c0, c1, c2⟩ := row_ten (HR.out.below HB.out) i (by rw [hn.out]; exact hlt)
      have HV := hide (V.out t wr)
      obtain ⟨bb, hbb⟩ : ∃ b, Hid ((decide (t.zs.length ≤ 8) && decide (t.ds.length ≤ 300)) = b) := ⟨_, hide rfl⟩
      rw [hbb.out] at HV
      clear V
      go_wp2_with fail
      clear c0 c1 c2 had
      refine HV.out.mono ?_
      rintro e w2 ⟨rfl, hb⟩
      have HB2 := hide (HB.out.trans (hb.mono HB.out.size))
      clear HV HB hb
      cases bb
      · go_wp2_with fail
        go_ret
        exact ⟨⟨false, rfl, fun h => by cases h⟩, HB2.out⟩
      · go_wp2_with fail
        go_roundw
        case rel =>
          refine ⟨i + 1, by omega, by go_num, HB2, hide (fun j x hj hx => ?_)⟩
          rcases Nat.lt_or_ge j i with h | h
          · exact HK.out j x h hx
          · obtain rfl : j = i := by omega
            rw [ht.out] at hx
            obtain rfl := Option.some.inj hx
            have h := hbb.out
            rw [Bool.and_eq_true, decide_eq_true_eq, decide_eq_true_eq] at h
            exact h
        case measure => simp [intOf]; omega
    · obtain rfl : i = n := by omega
      have h8 : ∀ t ∈ ts, t.small := fun d hd => by
        obtain ⟨j, hj⟩ := List.mem_iff_getElem?.1 hd
        exact HK.out j d (by have := (List.getElem?_eq_some_iff.1 hj).1; rw [hn.out] at this; exact this) hj
      have H8 := hide h8
      clear h8 V HK HR
      go_wp2_with fail
      go_ret
      exact ⟨⟨true, rfl, fun _ => ⟨HN3.out, H8.out⟩⟩, HB.out⟩
theorem teninfo : ∃ i : TypeInfo, Tryd.prog.info? 26 = some i ∧ i.zero = some (.agg #[.slice none 0 0, .bool false, .slice none 0 0]) ∧ i.size = 3 ∧ i.bytes = 56 := by
  obtain ⟨i, hi⟩ : ∃ i, Tryd.prog.info? 26 = some i := by
    refine Option.isSome_iff_exists.1 ?_
    kernel_rfl
  have h1 : (Tryd.prog.info? 26).bind (·.zero) = some (.agg #[.slice none 0 0, .bool false, .slice none 0 0]) := by kernel_rfl
  have h2 : (Tryd.prog.info? 26).map (·.size) = some 3 := by kernel_rfl
  have h3 : (Tryd.prog.info? 26).map (·.bytes) = some 56 := by kernel_rfl
  rw [hi] at h1 h2 h3
  exact ⟨i, hi, by simpa using h1, by simpa using h2, by simpa using h3⟩
theorem uts : Tryd.prog.underlying 38 = some (.slice 26) := by kernel_rfl
/-- A tensor in blocks of ints from some place on. -/
def Ten.Own (base : Nat) (w : World) (t : Ten) : Prop := ∃ g rest gd rd, t.P = some ⟨g, 0, none⟩ ∧ t.D = some ⟨gd, 0, none⟩ ∧ base ≤ g ∧ base ≤ gd ∧ Has w g 3 (i64s t.zs ++ rest) ∧ Has w gd 3 (i64s t.ds ++ rd)
theorem Ten.Own.below {base : Nat} {w w' : World} {t : Ten} (h : t.Own base w) (hb : Below w.heap.size w w') : t.Own base w' := by
  obtain ⟨g, rest, gd, rd, h1, h2, h3, h4, h5, h6⟩ := h
  exact ⟨g, rest, gd, rd, h1, h2, h3, h4, h5.below hb h5.lt, h6.below hb h6.lt⟩
theorem type_apart {w : World} {base n s g : Nat} {e t : TypeId} {v : Value} {xs cs : List Value} (h : w.ownsRow base e s v n xs) (hc : Has w g t cs) (ht : t ≠ e) : some g ≠ v.ownBlock := by
  intro hk
  rcases h.2 with ⟨rfl, -⟩ | ⟨k, c, cur, rfl, -, h3, -⟩
  · cases hk
  · obtain rfl : g = k := Option.some.inj hk
    unfold Has at hc
    rw [hc] at h3
    injection h3 with h3
    injection h3 with _ h4
    exact ht h4
theorem Ten.Own.grown {base b2 n s : Nat} {w w' : World} {t : Ten} {v : Value} {e : TypeId} {xs : List Value} (h : t.Own base w) (ho : w.ownsRow b2 e s v n xs) (he : 3 ≠ e) (hg : w.grownBy w' v.ownBlock) : t.Own base w' := by
  obtain ⟨g, rest, gd, rd, h1, h2, h3, h4, h5, h6⟩ := h
  exact ⟨g, rest, gd, rd, h1, h2, h3, h4, h5.grown hg (type_apart ho h5 he), h6.grown hg (type_apart ho h6 he)⟩
theorem Ten.Own.in_ {base : Nat} {w : World} {t : Ten} (h : t.Own base w) (hz : ∀ z ∈ t.zs, (Lit.int .i64 z).wf = true) (hd : ∀ z ∈ t.ds, (Lit.int .i64 z).wf = true) (h1 : t.zs.length ≤ 1000000) (h2 : t.ds.length ≤ 1000000) : t.In w := by
  obtain ⟨g, rest, gd, rd, e1, e2, -, -, h5, h6⟩ := h
  exact ⟨by rw [e1]; exact h5.ri_app hz, by rw [e2]; exact h6.ri_app hd, h1, h2⟩
set_option maxRecDepth 100000 in
set_option maxHeartbeats 8000000 in
theorem reftensors_c (ts : List Ten) (B : Option Addr) (cap : Nat) (w : World) (hR : Row w B (ts.flatMap Ten.vals)) (hI : ∀ t ∈ ts, t.In w) (hl : ts.length ≤ 1000000) :
    Calls Tryd.prog 27 #[.slice B ts.length cap] w fun e w' => (∃ (us : List Ten) (D : Option Addr) (c : Nat), e = .returned (.slice D ts.length c) ∧ Row w' D (us.flatMap Ten.vals) ∧ us.map Ten.key = ts.map Ten.key ∧ ∀ u ∈ us, u.In w') ∧ Below w.heap.size w w' := by
  have V : Hid (∀ (i : Nat) (t : Ten), ts[i]? = some t → ∀ W, Below w.heap.size w W → Calls Tryd.prog 70 #[.agg (tcells t.P t.zs.length t.cap t.u t.D t.ds.length t.dcap)] W fun e w' => (∃ x : Ten, e = .returned (.agg (tcells x.P x.zs.length x.cap x.u x.D x.ds.length x.dcap)) ∧ x.Own w.heap.size w' ∧ x.key = t.key) ∧ Below W.heap.size W w') := hide fun i t ht W hb => by
    refine (rcopy_c t W ((hI t (List.mem_of_getElem? ht)).below hb)).mono ?_
    rintro e w' ⟨⟨g, c, rest, gd, cd, rd, rfl, h1, h2, h3, h4, -⟩, hb2⟩
    have hs := hb.size
    exact ⟨⟨⟨some ⟨g, 0, none⟩, t.zs, c, t.u, some ⟨gd, 0, none⟩, t.ds, cd⟩, rfl, ⟨g, rest, gd, rd, rfl, rfl, by omega, by omega, h1, h2⟩, rfl⟩, hb2⟩
  have HR := hide hR
  have HWF : Hid (∀ us : List Ten, us.map Ten.key = ts.map Ten.key → ∀ W, (∀ u ∈ us, u.Own w.heap.size W) → ∀ u ∈ us, u.In W) := hide (fun us hk W hO u hu => by
    have h1 : u.key ∈ us.map Ten.key := List.mem_map.2 ⟨u, hu, rfl⟩
    rw [hk] at h1
    obtain ⟨t, ht, e⟩ := List.mem_map.1 h1
    have hT := hI t ht
    have e1 : t.zs = u.zs := congrArg Prod.fst e
    have e2 : t.ds = u.ds := congrArg (fun p => p.2.2) e
    exact (hO u hu).in_ (by rw [← e1]; exact hT.shp.1) (by rw [← e2]; exact hT.dat.1) (by rw [← e1]; exact hT.ls) (by rw [← e2]; exact hT.ld))
  obtain ⟨i0, hi0, hz0, hz1, hz2⟩ := teninfo
  have HI0 := hide hi0
  have HZ0 := hide hz0
  have HZ1 := hide hz1
  have HZ2 := hide hz2
  have HU := hide uts
  clear hR hI
  obtain ⟨n, hn⟩ : ∃ n, Hid (ts.length = n) := ⟨_, hide rfl⟩
  rw [hn.out] at hl ⊢
  obtain ⟨Z, hZs, hmk⟩ : ∃ Z : Array Value, Hid (Z.size = n * 3) ∧ ∀ w : World, (Instr.makeSlice 38 (.int .i64 0) (.int .i64 n)).run Tryd.prog w = .ok (.slice (some ⟨w.heap.size, 0, none⟩) 0 n) (w.alloc (.cells Z 26)) := by
    refine ⟨madeCells (Value.agg #[.slice none 0 0, .bool false, .slice none 0 0]).cells (n * 3), hide (by rw [size_madeCells]), fun w => ?_⟩
    have h := run_make (P := Tryd.prog) w 38 26 i0 (.agg #[.slice none 0 0, .bool false, .slice none 0 0]) uts hi0 hz0 .i64 .i64 0 (n : Int) (by omega) (by omega) (by rw [hz2]; omega) (by omega)
    rw [hz1, Int.toNat_natCast] at h
    exact h
  clear hi0 hz0 hz1 hz2
  have HO0 : Hid ((w.alloc (.cells Z 26)).ownsRow w.heap.size 26 3 (.slice (some ⟨w.heap.size, 0, none⟩) 0 n) 0 []) := hide (World.ownsRow_made w Z n (Nat.le_refl _) (by unfold maxLen; omega) hZs.out)
  have HB0 := hide ((Below.refl _ w).alloc (Nat.le_refl _) (.cells Z 26))
  go_enter Tryd.func27, Tryd.ntmps27
  go_wp2_with fail
  go_loopw [3, 4] (fun v k wr => ∃ (i : Nat) (u : Value) (us : List Ten), u = v ∧ i ≤ n ∧ k = .int .i64 i ∧ Hid (wr.ownsRow w.heap.size 26 3 v i (us.flatMap Ten.vals)) ∧ Hid (us.map Ten.key = (ts.take i).map Ten.key) ∧ Hid (∀ x ∈ us, x.Own w.heap.size wr) ∧ Hid (Below w.heap.size w wr)) (fun _ k _ => n - (intOf k).toNat)
  case atStart => exact ⟨0, _, [], rfl, by omega, rfl, HO0, hide rfl, hide (by simp), HB0⟩
  case round =>
    obtain ⟨i, v, us, rfl, hi, rfl, HO, HKy, HOw, HB⟩ := hrel
    clear HO0 HB0 hmk
    by_cases hlt : i < n
    · obtain ⟨ad, t, rfl, had, ht, c0, c1, c2⟩ := row_ten (HR.out.below HB.out) i (by rw [hn.out]; exact hlt)
      have HV := hide (V.out i t ht.out wr HB.out)
      clear V
      go_wp2_with fail
      clear c0 c1 c2 had
      refine HV.out.mono ?_
      rintro e w1 ⟨⟨x, rfl, hx, hxk⟩, hb⟩
      have HB1 := hide (HB.out.trans (hb.mono HB.out.size))
      have hown := own_kept HO.out hb
      have HXO := hide (hx.below ((Below.refl _ _).alloc (Nat.le_refl _) (.cells x.vals.toArray 26)))
      have HXK := hide hxk
      have HOw1 := hide (fun y hy => ((HOw.out y hy).below hb).below ((Below.refl _ w1).alloc (Nat.le_refl _) (.cells x.vals.toArray 26)))
      have hown2 := hide (hown.alloc (.cells x.vals.toArray 26))
      have HB2 := hide (HB1.out.alloc HB1.out.size (.cells x.vals.toArray 26))
      have hsz := hide HB2.out.size
      have hnw := hide (new_cells w1 26 x.vals)
      have h1w : Hid (∀ y ∈ x.vals, y.oneCell' = true) := hide (by
        intro y hy
        simp [Ten.vals] at hy
        rcases hy with rfl | rfl | rfl
        all_goals rfl)
      clear HV HB HO HOw hb hx hxk hown HB1
      go_wp2_with (at_builtin; refine wpList_append_own_at _ rfl _ _ 38 rfl w.heap.size 26 i0 (.agg #[.slice none 0 0, .bool false, .slice none 0 0]) 3 56 HU.out HI0.out HZ0.out HZ1.out HZ2.out rfl (by decide) _ i _ rfl hown2.out ⟨w1.heap.size, 0, none⟩ 1 1 x.vals rfl rfl hnw.out h1w.out (by unfold maxLen; omega) (by omega) hsz.out ?_)
      intro s0 W0 hown' hgrow hnil hat
      have HB := hide (elm_grown HB2.out hown2.out HB2.out.size hgrow)
      have HO := hide hown'
      have HX2 := hide (HXO.out.grown hown2.out (by decide) hgrow)
      have HOw := hide (fun y hy => (HOw1.out y hy).grown hown2.out (by decide) hgrow)
      clear HB2 hown2 hown' hgrow hnw h1w hsz hnil hat HXO HOw1
      go_wp2_with fail
      go_roundw
      case rel =>
        refine ⟨i + 1, _, us ++ [x], rfl, by omega, by go_num, hide ?_, hide ?_, hide ?_, HB⟩
        · rw [List.flatMap_append, List.flatMap_cons, List.flatMap_nil, List.append_nil]
          exact HO.out
        · rw [List.take_add_one, ht.out, Option.toList_some, List.map_append, List.map_append, HKy.out]
          show _ ++ [x.key] = _ ++ [t.key]
          rw [HXK.out]
        · intro y hy
          rcases List.mem_append.1 hy with h | h
          · exact HOw.out y h
          · rw [List.mem_singleton.1 h]
            exact HX2.out
      case measure => simp [intOf]; omega
    · obtain rfl : i = n := by omega
      have hky := HKy.out
      rw [List.take_of_length_le (by rw [hn.out]; exact Nat.le_refl _)] at hky
      obtain ⟨D, c, rfl, hrow⟩ := own_row HO.out
      have HRW := hide hrow
      have HKK := hide hky
      have HIN := hide (HWF.out us hky wr HOw.out)
      clear hrow hky V HWF HR HO
      go_wp2_with fail
      go_ret
      exact ⟨⟨us, D, c, rfl, HRW.out, HKK.out, HIN.out⟩, HB.out⟩
set_option maxRecDepth 100000 in
set_option maxHeartbeats 8000000 in
theorem sametensors_c (ts us : List Ten) (A B : Option Addr) (ca cb : Nat) (w : World) (hA : Row w A (ts.flatMap Ten.vals)) (hB : Row w B (us.flatMap Ten.vals)) (hI : ∀ t ∈ ts, t.In w) (hJ : ∀ u ∈ us, u.In w) (hk : us.map Ten.key = ts.map Ten.key) (hl : ts.length ≤ 1000000) :
    Calls Tryd.prog 29 #[.slice A ts.length ca, .slice B ts.length cb] w fun e w' => e = .returned (.bool true) ∧ Below w.heap.size w w' := by
  have hul : us.length = ts.length := by
    have := congrArg List.length hk
    rwa [List.length_map, List.length_map] at this
  have V : Hid (∀ (i : Nat) (t u : Ten), ts[i]? = some t → us[i]? = some u → ∀ W, Below w.heap.size w W → Calls Tryd.prog 18 #[.agg (tcells t.P t.zs.length t.cap t.u t.D t.ds.length t.dcap), .agg (tcells u.P u.zs.length u.cap u.u u.D u.ds.length u.dcap)] W fun e w' => e = .returned (.bool true) ∧ Below W.heap.size W w') := hide fun i t u ht hu W hb => by
    have h1 := (hI t (List.mem_of_getElem? ht)).below hb
    have h2 := (hJ u (List.mem_of_getElem? hu)).below hb
    have hk1 : (us.map Ten.key)[i]? = some u.key := by rw [List.getElem?_map, hu]; rfl
    rw [hk, List.getElem?_map, ht] at hk1
    have e : t.key = u.key := Option.some.inj hk1
    have e1 : t.zs = u.zs := congrArg Prod.fst e
    have e2 : t.u = u.u := congrArg (fun p => p.2.1) e
    have e3 : t.ds = u.ds := congrArg (fun p => p.2.2) e
    refine (sametensor_c t.zs u.zs t.ds u.ds t.P u.P t.D u.D t.cap u.cap t.dcap u.dcap t.u u.u W h1.shp h2.shp h1.dat h2.dat h1.ls h2.ls h1.ld h2.ld).mono fun e w' h => ?_
    rw [decide_eq_true e1, decide_eq_true e3, e2] at h
    simpa using h
  have HA := hide hA
  have HBr := hide hB
  obtain ⟨n, hn⟩ : ∃ n, Hid (ts.length = n) := ⟨_, hide rfl⟩
  have hun : Hid (us.length = n) := hide (hul.trans hn.out)
  rw [hn.out] at hl ⊢
  clear hA hB hI hJ hk hul
  go_enter Tryd.func29, Tryd.ntmps29
  go_wp2_with fail
  go_loopw [5, 6] (fun k _ wr => ∃ i : Nat, i ≤ n ∧ k = .int .i64 i ∧ Hid (Below w.heap.size w wr)) (fun k _ _ => n - (intOf k).toNat)
  case atStart => exact ⟨0, by omega, rfl, hide (Below.refl _ _)⟩
  case round =>
    obtain ⟨i, hi, rfl, HB⟩ := hrel
    by_cases hlt : i < n
    · obtain ⟨ad, t, rfl, had, ht, c0, c1, c2⟩ := row_ten (HA.out.below HB.out) i (by rw [hn.out]; exact hlt)
      obtain ⟨ae, u, rfl, hae, hu, f0, f1, f2⟩ := row_ten (HBr.out.below HB.out) i (by rw [hun.out]; exact hlt)
      have HBD := hide (HB.out.drew)
      have HV := hide (V.out i t u ht.out hu.out wr.drew HBD.out)
      clear V
      go_wp2_with fail
      go_region_law (first | (go_simp; go_at_call 18; refine HV.out.mono ?_; rintro e w2 ⟨rfl, hb⟩; have HB2 := hide (HBD.out.trans (hb.mono HBD.out.size)); clear hb))
      all_goals go_ways
      all_goals
        clear c0 c1 c2 f0 f1 f2 HV
        go_wp2_with fail
        go_roundw
        case rel => exact ⟨i + 1, by omega, by go_num, HB2⟩
        case measure => simp [intOf]; omega
    · obtain rfl : i = n := by omega
      go_wp2_with fail
      go_ret
      exact ⟨rfl, HB.out⟩
set_option maxRecDepth 100000 in
set_option maxHeartbeats 8000000 in
theorem light_c (op : Int) (qs : List Int) (ts : List Ten) (A B : Option Addr) (qcap cap : Nat) (w : World) (hQ : Ri w A qs) (hR : Row w B (ts.flatMap Ten.vals)) (hI : ∀ t ∈ ts, Ri w t.P t.zs ∧ Ri w t.D t.ds) (hC : ∀ t ∈ ts, t.zs.length ≤ t.cap) :
    Calls Tryd.prog 26 #[.int .i64 op, .slice A qs.length qcap, .slice B ts.length cap] w fun e w' => (∃ b : Bool, e = .returned (.bool b) ∧ (b = true → qs.length ≤ 10 ∧ ts.length ≤ 3 ∧ ∀ t ∈ ts, t.small)) ∧ Below w.heap.size w w' := by
  have V0 := hide (worldtensors_c ts B cap w hR)
  have HR := hide hR
  have HIn : Hid ((∀ t ∈ ts, t.small) → ∀ W, Below w.heap.size w W → ∀ d ∈ ts.map Ten.look, d.In W) := hide fun h8 W hb d hd => by
    obtain ⟨t, ht, rfl⟩ := List.mem_map.1 hd
    exact ⟨(hI t ht).1.below hb, by have := (h8 t ht).1; show t.zs.length ≤ 1000000; omega⟩
  have HCap : Hid (∀ d ∈ ts.map Ten.look, d.zs.length ≤ d.cap) := hide fun d hd => by
    obtain ⟨t, ht, rfl⟩ := List.mem_map.1 hd
    exact hC t ht
  have V1 := hide (fun (h8 : ∀ t ∈ ts, t.small) (hq : qs.length ≤ 10) (hn : ts.length ≤ 3) W (C : Option Addr) (c : Nat) (hb : Below w.heap.size w W) (hr : Row W C (ts.flatMap fun t => t.look.vals)) => rres_c op qs (ts.map Ten.look) A C qcap c W (hQ.below hb) (by omega) (by rw [Ten.flat_look]; exact hr) (HIn.out h8 W hb) (by rw [List.length_map]; omega) HCap.out)
  have V2 := hide (fun (h8 : ∀ t ∈ ts, t.small) (hq : qs.length ≤ 10) (hn : ts.length ≤ 3) W (C : Option Addr) (c : Nat) (hb : Below w.heap.size w W) (hr : Row W C (ts.flatMap fun t => t.look.vals)) => runit_c op qs (ts.map Ten.look) A C qcap c W (hQ.below hb) (by omega) (by rw [Ten.flat_look]; exact hr) (HIn.out h8 W hb) (by rw [List.length_map]; omega) HCap.out)
  rw [List.length_map] at V1 V2
  obtain ⟨i0, hi0, hz0, hz1, hz2⟩ := descinfo
  have HI0 := hide hi0
  have HZ0 := hide hz0
  have HZ1 := hide hz1
  have HZ2 := hide hz2
  have HU := hide uds
  clear hi0 hz0 hz1 hz2 hR hI hC hQ HIn HCap
  obtain ⟨nq, hnq⟩ : ∃ n, Hid (qs.length = n) := ⟨_, hide rfl⟩
  obtain ⟨n, hn⟩ : ∃ n, Hid (ts.length = n) := ⟨_, hide rfl⟩
  obtain ⟨L, hL⟩ : ∃ n, Hid (Op.look op qs (ts.map Ten.look) = n) := ⟨_, hide rfl⟩
  obtain ⟨U, hU⟩ : ∃ n, Hid (Op.unit op qs (ts.map Ten.look) = n) := ⟨_, hide rfl⟩
  obtain ⟨K, X, Y⟩ := L
  rw [hnq.out, hn.out, hL.out] at V1
  rw [hnq.out, hn.out, hL.out, hU.out] at V2
  rw [hn.out] at V0
  unfold OpR at V1
  unfold OpV at V2
  dsimp only at V1 V2
  rw [hnq.out, hn.out]
  by_cases hq : nq ≤ 10
  case neg =>
    have hq2 : (10 : Int) < nq := by omega
    clear hq V0 V1 V2 HR hL hU
    go_enter Tryd.func26, Tryd.ntmps26
    go_wp2_with fail
    go_ret
    exact ⟨⟨false, rfl, fun h => by cases h⟩, Below.refl _ _⟩
  case pos =>
  have hq2 : (nq : Int) ≤ 10 := by omega
  have HQ10 := hide hq
  clear hq
  go_enter Tryd.func26, Tryd.ntmps26
  go_wp2_with fail
  refine V0.out.mono ?_
  rintro e w1 ⟨⟨b, rfl, hs⟩, hb⟩
  have HB0 := hide hb
  clear V0 hb
  cases b
  case false =>
    go_wp2_with fail
    go_ret
    exact ⟨⟨false, rfl, fun h => by cases h⟩, HB0.out⟩
  case true =>
  have hs := hs rfl
  have HS := hide hs
  have hl3 : n ≤ 3 := hs.1
  have HV1 := hide (V1.out hs.2 HQ10.out hl3)
  have HV2 := hide (V2.out hs.2 HQ10.out hl3)
  clear hs V1 V2
  go_wp2_with fail
  go_loopw [7, 8] (fun v k wr => ∃ i : Nat, i ≤ n ∧ k = .int .i64 i ∧ Hid (wr.ownsRow w.heap.size 24 2 v i ((ts.take i).flatMap fun t => t.look.vals)) ∧ Hid (Below w.heap.size w wr)) (fun _ k _ => n - (intOf k).toNat)
  case atStart => exact ⟨0, by omega, rfl, hide ⟨rfl, .inl ⟨rfl, rfl⟩⟩, HB0⟩
  case round =>
    obtain ⟨i, hi, rfl, HO, HB⟩ := hrel
    clear HB0
    by_cases hlt : i < n
    · obtain ⟨ad, t, rfl, had, ht, c0, c1, c2⟩ := row_ten (HR.out.below HB.out) i (by rw [hn.out]; exact hlt)
      have hown2 := hide (HO.out.alloc (.cells #[.slice t.P t.zs.length t.cap, .bool t.u] 24))
      have HB2 := hide (HB.out.alloc HB.out.size (.cells #[.slice t.P t.zs.length t.cap, .bool t.u] 24))
      have hsz := hide HB2.out.size
      have hnw := hide (new_cells wr 24 [.slice t.P t.zs.length t.cap, .bool t.u])
      have h1w : Hid (∀ x ∈ [Value.slice t.P t.zs.length t.cap, .bool t.u], x.oneCell' = true) := hide (by
        intro x hx
        simp at hx
        rcases hx with rfl | rfl
        all_goals rfl)
      clear HO HB
      go_wp2_with (at_builtin; refine wpList_append_own_at _ rfl _ _ 44 rfl w.heap.size 24 i0 (.agg #[.slice none 0 0, .bool false]) 2 32 HU.out HI0.out HZ0.out HZ1.out HZ2.out rfl (by decide) _ i _ rfl hown2.out ⟨wr.heap.size, 0, none⟩ 1 1 [.slice t.P t.zs.length t.cap, .bool t.u] rfl rfl hnw.out h1w.out (by unfold maxLen; omega) (by omega) hsz.out ?_)
      intro s0 W0 hown' hgrow hnil hat
      have HB := hide (elm_grown HB2.out hown2.out HB2.out.size hgrow)
      have HO := hide hown'
      clear HB2 hown2 hown' hgrow hnw h1w hsz hnil hat c0 c1 c2 had
      go_wp2_with fail
      go_roundw
      case rel =>
        refine ⟨i + 1, by omega, by go_num, hide ?_, HB⟩
        have h := HO.out
        rw [List.take_add_one, ht.out, Option.toList_some, List.flatMap_append, List.flatMap_cons, List.flatMap_nil, List.append_nil]
        exact h
      case measure => simp [intOf]; omega
    · obtain rfl : i = n := by omega
      have hl2 : ts.take i = ts := List.take_of_length_le (by rw [hn.out]; exact Nat.le_refl _)
      rw [hl2] at HO
      obtain ⟨C, c, rfl, hrow⟩ := own_row HO.out
      have HV1a := hide (HV1.out wr C c HB.out hrow)
      have HV2a := hide (fun W (hb : Below wr.heap.size wr W) => HV2.out W C c (HB.out.trans (hb.mono HB.out.size)) (hrow.below hb))
      clear hl2 hrow HO HV1 HV2 HR hl3 hlt hi
      go_wp2_with fail
      refine HV1a.out.mono ?_
      rintro e w2 ⟨⟨⟨Q, zs, dc, u⟩, rfl, hdi, hdz, hdu⟩, hb⟩
      have hbA := (Below.refl _ w2).alloc (Nat.le_refl _) (.cells (dcells Q zs.length dc u) 24)
      have hbB := hb.trans (hbA.mono hb.size)
      have HB3 := hide (HB.out.trans (hbB.mono HB.out.size))
      have HV2b := hide (HV2a.out _ hbB)
      have HQ3 : Hid (Ri (w2.alloc (.cells (dcells Q zs.length dc u) 24)) Q zs) := hide (hdi.shp.below hbA)
      have HL3 : Hid (zs.length ≤ 1000000) := hide hdi.ls
      have HD3 := hide (Has.new w2 24 [.slice Q zs.length dc, .bool u])
      clear hdi hdz hdu hbA hbB hb HB HV1a HV2a
      go_wp2_with fail
      generalize (w2.alloc (.cells (dcells Q zs.length dc u) 24)) = w3 at *
      refine HV2b.out.mono ?_
      rintro e w4 ⟨rfl, hb⟩
      have HV3 := hide (refelems_c zs Q dc w4 (HQ3.out.below hb) (by have := HL3.out; omega))
      have HD4 := hide (HD3.out.below hb HD3.out.lt)
      have HB4 := hide (HB3.out.trans (hb.mono HB3.out.size))
      have d0 := HD4.out.cell 0
      clear HB3 HD3 HQ3 HV2b hb
      by_cases hk : K = 0
      · subst hk
        go_wp2_with fail
        refine HV3.out.mono ?_
        rintro e w5 ⟨rfl, hb⟩
        have HB5 := hide (HB4.out.trans (hb.mono HB4.out.size))
        clear HV3 d0 hb
        go_wp2_with fail
        go_ret
        exact ⟨⟨_, rfl, fun _ => ⟨HQ10.out, HS.out⟩⟩, HB5.out⟩
      · have hk2 : ((K : Int) != 0) = true := by simp; omega
        clear hk HV3
        go_wp2_with fail
        go_ret
        exact ⟨⟨_, rfl, fun _ => ⟨HQ10.out, HS.out⟩⟩, HB4.out⟩
end Go.Proofs.YtgdcfjmpjhlndaaDoor
