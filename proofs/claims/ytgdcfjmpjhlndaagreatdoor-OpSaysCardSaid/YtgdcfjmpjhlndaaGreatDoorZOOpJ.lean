/-
  Package op's look, Apply and Element, given what cells.All and cells.One answer, walked. By an AI agent. No person has read it.
-/
import Derived.Test.YtgdcfjmpjhlndaaGreatDoorZOOpD
namespace Go.Proofs.YtgdcfjmpjhlndaaGreatDoor
open Go.RowKit
theorem Ri.apart {w : World} {P : Option Addr} {zs : List Int} (h : Ri w P zs) (hz : zs ≠ []) {b : Nat} {t : TypeId} {cs : List Value} (hb : Has w b t cs) (hn : ∀ v ∈ cs, ∀ z : Int, v ≠ .int .i64 z) : ∀ ad, P = some ad → ad.block ≠ b := by
 intro ad had hbl
 obtain ⟨ad', h1, -, h3⟩ := h.2 hz
 rw [had] at h1
 obtain rfl := Option.some.inj h1
 match zs, hz with
 | z :: l, _ =>
  have h4 := h3 0 z rfl
  rw [Addr.add_zero'] at h4
  unfold Has at hb
  unfold World.cell? at h4
  rw [hbl, hb] at h4
  dsimp only at h4
  split at h4
  ·cases h4
  ·rw [List.getElem?_toArray] at h4
   exact hn _ (List.mem_of_getElem? h4) z rfl
theorem Dsc.In.keep2 {w : World} {d : Dsc} (h : d.In w) {b : Nat} {t : TypeId} {A : Option Addr} {n c : Nat} {u : Bool} (hb : Has w b t [.slice A n c, .bool u]) (x y : Value) : d.In ((w.setCell ⟨b, 0, none⟩ x).setCell ⟨b, 1, none⟩ y) := by
 by_cases hz : d.zs = []
 ·exact ⟨⟨h.shp.1, fun hn => absurd hz hn⟩, h.ls⟩
 ·have h1 := h.shp.apart hz hb (by
   intro v hv z
   simp at hv
   rcases hv with rfl | rfl <;> simp)
  exact (h.far h1 0 x).far h1 1 y
def Op.fault (op : Int) (qs : List Int) (ts : List Ten) : Nat × Option Nat := Cel.fault ts (Op.look op qs (ts.map Ten.look)).1
theorem Elm.Err.fart2 {W : World} {ah am ar ak : Addr} {v : Value} {R : Nat × Option Nat} (h : Elm.Err W ah am ar ak v R) {b : Nat} {t : TypeId} {cs : List Value} (hb : Has W b t cs) (ht : t ≠ 113) (x y : Value) : Elm.Err ((W.setCell ⟨b, 0, none⟩ x).setCell ⟨b, 1, none⟩ y) ah am ar ak v R := by
 unfold Elm.Err at h ⊢
 split at h
 ·rename_i hr
  rw [if_pos hr]
  exact h
 ·rename_i hr
  rw [if_neg hr]
  exact TErr.fart2 h hb ht x y
theorem Elm.Err.fart3 {W : World} {ah am ar ak : Addr} {v : Value} {R : Nat × Option Nat} (h : Elm.Err W ah am ar ak v R) {b : Nat} {t : TypeId} {cs : List Value} (hb : Has W b t cs) (ht : t ≠ 113) (x y z : Value) : Elm.Err (((W.setCell ⟨b, 0, none⟩ x).setCell ⟨b, 1, none⟩ y).setCell ⟨b, 2, none⟩ z) ah am ar ak v R := by
 unfold Elm.Err at h ⊢
 split at h
 ·rename_i hr
  rw [if_pos hr]
  exact h
 ·rename_i hr
  rw [if_neg hr]
  exact TErr.fart3 h hb ht x y z
theorem Elm.Err.low {W W' : World} {ah am ar ak : Addr} {v : Value} {R : Nat × Option Nat} (h : Elm.Err W ah am ar ak v R) (hb : Below W.heap.size W W') : Elm.Err W' ah am ar ak v R := by
 unfold Elm.Err at h ⊢
 split at h
 ·rename_i hr
  rw [if_pos hr]
  exact h
 ·rename_i hr
  rw [if_neg hr]
  exact TErr.down h hb
theorem Elm.Err.of {W : World} {ah am ar ak : Addr} {v : Value} {R : Nat × Option Nat} (h : TErr W ah am ar v R) (hr : R ≠ (103, none)) : Elm.Err W ah am ar ak v R := by
 unfold Elm.Err
 rw [if_neg hr]
 exact h
theorem Elm.Err.code {W : World} {ah am ar ak : Addr} (k : Nat) : Elm.Err W ah am ar ak (Elm.err ah am ar ak k) (k, none) := by
 unfold Elm.Err Elm.err
 by_cases h : k = 103
 ·rw [if_pos (by rw [h]), if_pos h]
 ·rw [if_neg (fun e => h (congrArg Prod.fst e)), if_neg h]
  rfl
def OpL (w : World) (ah am ar ak : Addr) (F : Nat × Option Nat) (L : Nat × List Int × Bool) (e : Ending) (w' : World) : Prop :=
 (∃ (d : Dsc) (x : Value), e = .returned (.tuple #[.agg (dcells d.P d.zs.length d.cap d.u), x]) ∧ d.In w' ∧ (F = (0, none) → d.zs = L.2.1 ∧ d.u = L.2.2) ∧ Elm.Err w' ah am ar ak x F) ∧ Below w.heap.size w w'
set_option maxRecDepth 100000 in
set_option maxHeartbeats 4000000 in
theorem oplook_c (op : Int) (qs : List Int) (ts : List Ten) (A B : Option Addr) (qcap cap : Nat) (ah am ar ak : Addr) (w : World) (hQ : Ri w A qs) (hql : qs.length ≤ 1000000) (hR : Row w B (ts.flatMap Ten.vals)) (hI : ∀ t ∈ ts, t.In w) (hl : ts.length ≤ 1000000) (hE : E4 w ah am ar ak) (hK : Kz w) :
  Calls Tryz.prog 58 #[.int .i64 op, .slice A qs.length qcap, .slice B ts.length cap] w (OpL w ah am ar ak (Op.fault op qs ts) (Op.look op qs (ts.map Ten.look))) := by
 obtain ⟨W0, hW0⟩ : ∃ W, W = w.alloc (.cells #[.slice none 0 0, .bool false] 24) := ⟨_, rfl⟩
 have HZ : Hid (Has W0 w.heap.size 24 [.slice none 0 0, .bool false]) := hide (by rw [hW0]; exact Has.new _ _ _)
 have HB0 : Hid (Below w.heap.size w W0) := hide (by rw [hW0]; exact (Below.refl _ _).alloc (Nat.le_refl _) _)
 have HV := hide (looks_c ts B cap ah am ar W0 (hR.below HB0.out) (fun t ht => (hI t ht).below HB0.out) hl (hE.1.below HB0.out))
 have HRe := hide (fun W (C : Option Addr) (c : Nat) (hb : Below w.heap.size w W) (hr : Row W C (ts.flatMap fun t => t.look.vals)) => opresult_c op qs (ts.map Ten.look) A C qcap c ah am ar ak W (hQ.below hb) hql (by rw [Ten.flat_look]; exact hr) (fun d hd => by
   obtain ⟨t, ht, rfl⟩ := List.mem_map.1 hd
   exact ((hI t ht).below hb).look) (by rw [List.length_map]; exact hl) (hE.below hb) (hK.below hb))
 rw [List.length_map] at HRe
 have hfc := Tens.first_cases ts
 have HF0 : Hid (Tens.first ts ≠ (0, none) → Op.fault op qs ts = Tens.first ts) := hide (fun h => Cel.fault_first h)
 have HF1 : Hid (Tens.first ts = (0, none) → Op.fault op qs ts = ((Op.look op qs (ts.map Ten.look)).1, none)) := hide (fun h => Cel.fault_code h)
 obtain ⟨L, hL⟩ : ∃ k, Hid (Op.look op qs (ts.map Ten.look) = k) := ⟨_, hide rfl⟩
 obtain ⟨F, hF⟩ : ∃ k, Hid (Op.fault op qs ts = k) := ⟨_, hide rfl⟩
 obtain ⟨R, hRR⟩ : ∃ k, Hid (Tens.first ts = k) := ⟨_, hide rfl⟩
 obtain ⟨nt, hnt⟩ : ∃ n, Hid (ts.length = n) := ⟨_, hide rfl⟩
 obtain ⟨nq, hnq⟩ : ∃ n, Hid (qs.length = n) := ⟨_, hide rfl⟩
 obtain ⟨K, X, Y⟩ := L
 rw [hL.out] at HRe HF1
 rw [hF.out, hRR.out] at HF0 HF1
 rw [hRR.out] at hfc HV
 rw [hnt.out] at HV HRe ⊢
 rw [hnq.out] at HRe ⊢
 rw [hL.out, hF.out]
 unfold OpE at HRe
 dsimp only at HRe HF1
 have HW := hide hW0
 clear hQ hql hR hI hl hE hK hW0 hL hF hnq
 go_enter Tryz.func58, Tryz.ntmps58
 go_wp2_with fail
 rw [← HW.out]
 clear HW
 refine HV.out.mono ?_
 rintro e w1 ⟨⟨v, x, rfl, h1, h2⟩, hb⟩
 replace HZ := hide (HZ.out.below hb HZ.out.lt)
 have HB1 := hide (HB0.out.trans (hb.mono HB0.out.size))
 clear hb HV HB0
 by_cases hf : R = (0, none)
 case neg =>
  obtain ⟨rfl, hx⟩ := h2 hf
  have hE := hx.errv hfc hf
  obtain rfl := HF0.out hf
  obtain ⟨z0, z1, zf0, zf1, HZf, HFf⟩ := elm_two HZ.out HB1.out (Nat.le_refl _) (.slice none 0 0) (.bool false)
  have HR3 : Hid (F ≠ (103, none)) := hide (by
   rcases hfc with h | h | h | h | ⟨i, h⟩ <;> rw [h] <;> simp)
  have HXX := hide (hx.fart2 HZ.out (by decide) (.slice none 0 0) (.bool false))
  have HFN := hide hf
  have r1 := run_neqerr hE
  have r2 := run_neqguard hE
  clear hf hx hfc hE HRe HF0 HF1 h1 h2
  go_wp2_with fail
  refine bodyPost_ret (results_desc rfl _ _ w.heap.size _ _ rfl HZf.out) rfl ?_
  exact ⟨⟨⟨none, [], 0, false⟩, x, rfl, ⟨Ri.nil _ _, by simp⟩, fun h => absurd h HFN.out, Elm.Err.of HXX.out HR3.out⟩, HFf.out⟩
 case pos =>
  subst hf
  obtain ⟨rfl, ho⟩ := h1 rfl
  obtain ⟨C, cc, rfl, hrow, -⟩ := own_row2 ho
  obtain rfl := HF1.out rfl
  have HC := hide (HRe.out w1 C cc HB1.out hrow)
  clear hfc HF0 HF1 h1 h2 ho hrow HRe
  go_wp2_with fail
  refine (HC.out).mono ?_
  rintro e w2 ⟨⟨d, rfl, hdi, hdz, hdu⟩, hb⟩
  have hB2 := HB1.out.trans (hb.mono HB1.out.size)
  have hZ2 := HZ.out.below hb HZ.out.lt
  obtain ⟨z0, z1, zf0, zf1, HZf, HFf⟩ := elm_two hZ2 hB2 (Nat.le_refl _) (.slice d.P d.zs.length d.cap) (.bool d.u)
  have HDI := hide (hdi.keep2 hZ2 (.slice d.P d.zs.length d.cap) (.bool d.u))
  have HDZ := hide hdz
  have HDU := hide hdu
  clear hdi hdz hdu hb hB2 hZ2 HC HB1 HZ
  go_wp2_with fail
  refine bodyPost_ret (results_desc rfl _ _ w.heap.size _ _ rfl HZf.out) rfl ?_
  exact ⟨⟨d, _, rfl, HDI.out, fun _ => ⟨HDZ.out, HDU.out⟩, Elm.Err.code _⟩, HFf.out⟩
theorem Ri.keep {w : World} {P : Option Addr} {zs : List Int} (h : Ri w P zs) {b : Nat} (hP : ∀ ad, P = some ad → ad.block ≠ b) (i : Nat) (x : Value) : Ri (w.setCell ⟨b, i, none⟩ x) P zs := by
 refine ⟨h.1, fun hz => ?_⟩
 obtain ⟨ad, h1, h2, h3⟩ := h.2 hz
 refine ⟨ad, h1, by simpa using h2, fun j z hj => ?_⟩
 rw [World.cell?_setCell_far _ _ _ _ (by rw [ad_block]; exact Ne.symm (hP ad h1))]
 exact h3 j z hj
theorem Ri.keep3 {w : World} {P : Option Addr} {zs : List Int} (h : Ri w P zs) {b : Nat} {t : TypeId} {A A2 : Option Addr} {n c n2 c2 : Nat} {u : Bool} (hb : Has w b t [.slice A n c, .bool u, .slice A2 n2 c2]) (x y z : Value) : Ri (((w.setCell ⟨b, 0, none⟩ x).setCell ⟨b, 1, none⟩ y).setCell ⟨b, 2, none⟩ z) P zs := by
 by_cases hz : zs = []
 ·exact ⟨h.1, fun hn => absurd hz hn⟩
 ·have h1 := h.apart hz hb (by
   intro v hv z
   simp at hv
   rcases hv with rfl | rfl | rfl <;> simp)
  exact ((h.keep h1 0 x).keep h1 1 y).keep h1 2 z
theorem Op.fault_cases (op : Int) (qs : List Int) (ts : List Ten) : Op.fault op qs ts = (0, none) ∨ Op.fault op qs ts = (101, none) ∨ Op.fault op qs ts = (102, none) ∨ Op.fault op qs ts = (103, none) ∨ Op.fault op qs ts = (104, none) ∨ ∃ i, Op.fault op qs ts = (102, some i) := by
 unfold Op.fault Cel.fault
 split
 ·rcases Op.look_known op qs (ts.map Ten.look) with h | h | h | h | h <;> rw [h] <;> simp
 ·rcases Tens.first_cases ts with h | h | h | h | ⟨i, h⟩ <;> rw [h] <;> simp
theorem Elm.Err.errv {W : World} {ah am ar ak : Addr} {v : Value} {R : Nat × Option Nat} (h : Elm.Err W ah am ar ak v R) (hc : R = (0, none) ∨ R = (101, none) ∨ R = (102, none) ∨ R = (103, none) ∨ R = (104, none) ∨ ∃ i, R = (102, some i)) (hn : R ≠ (0, none)) : ErrV v := by
 unfold Elm.Err at h
 by_cases h3 : R = (103, none)
 ·rw [if_pos h3] at h
  exact .inl ⟨_, h⟩
 ·rw [if_neg h3] at h
  refine TErr.errv h ?_ hn
  rcases hc with h | h | h | h | h | h
  ·exact .inl h
  ·exact .inr (.inl h)
  ·exact .inr (.inr (.inl h))
  ·exact absurd h h3
  ·exact .inr (.inr (.inr (.inl h)))
  ·exact .inr (.inr (.inr (.inr h)))
def OpT (w : World) (ah am ar ak : Addr) (F : Nat × Option Nat) (L : Nat × List Int × Bool) (rs : List Int) (e : Ending) (w' : World) : Prop :=
 (∃ (t : Ten) (x : Value), e = .returned (.tuple #[.agg (tcells t.P t.zs.length t.cap t.u t.D t.ds.length t.dcap), x]) ∧ t.In w' ∧ (F = (0, none) → t.zs = L.2.1 ∧ t.u = L.2.2 ∧ t.ds = rs ∧ t.ds.length ≤ t.dcap) ∧ (F ≠ (0, none) → t.ds = [] ∧ t.zs = [] ∧ t.u = false) ∧ Elm.Err w' ah am ar ak x F) ∧ Below w.heap.size w w'
set_option maxRecDepth 100000 in
set_option maxHeartbeats 8000000 in
theorem opapply_c (op : Int) (qs : List Int) (ts : List Ten) (rs : List Int) (A B : Option Addr) (qcap cap : Nat) (ah am ar ak : Addr) (w : World) (hQ : Ri w A qs) (hql : qs.length ≤ 1000000) (hR : Row w B (ts.flatMap Ten.vals)) (hI : ∀ t ∈ ts, t.In w) (hl : ts.length ≤ 1000000) (hE : E4 w ah am ar ak) (hK : Kz w)
  (hA : Op.fault op qs ts = (0, none) → (∀ z ∈ rs, (Lit.int .i64 z).wf = true) ∧ rs.length ≤ 1000000 ∧ ∀ (P : Option Addr) (c : Nat) (u : Bool) W, Below w.heap.size w W → Ri W P (Op.look op qs (ts.map Ten.look)).2.1 → Calls Tryz.prog 59 #[.agg (dcells P (Op.look op qs (ts.map Ten.look)).2.1.length c u), .int .i64 op, .slice A qs.length qcap, .slice B ts.length cap] W fun e w' => (∃ g, e = .returned (.agg (tcells P (Op.look op qs (ts.map Ten.look)).2.1.length c u (some ⟨g, 0, none⟩) rs.length rs.length)) ∧ W.heap.size < g ∧ Has w' g 3 (i64s rs)) ∧ Below W.heap.size W w') :
  Calls Tryz.prog 22 #[.int .i64 op, .slice A qs.length qcap, .slice B ts.length cap] w (OpT w ah am ar ak (Op.fault op qs ts) (Op.look op qs (ts.map Ten.look)) rs) := by
 obtain ⟨W0, hW0⟩ : ∃ W, W = w.alloc (.cells #[.slice none 0 0, .bool false, .slice none 0 0] 26) := ⟨_, rfl⟩
 have HZ : Hid (Has W0 w.heap.size 26 [.slice none 0 0, .bool false, .slice none 0 0]) := hide (by rw [hW0]; exact Has.new _ _ _)
 have HB0 : Hid (Below w.heap.size w W0) := hide (by rw [hW0]; exact (Below.refl _ _).alloc (Nat.le_refl _) _)
 have HV := hide (oplook_c op qs ts A B qcap cap ah am ar ak W0 (hQ.below HB0.out) hql (hR.below HB0.out) (fun t ht => (hI t ht).below HB0.out) hl (hE.below HB0.out) (hK.below HB0.out))
 have HFi := hide hA
 have hfc := Op.fault_cases op qs ts
 obtain ⟨L, hL⟩ : ∃ k, Hid (Op.look op qs (ts.map Ten.look) = k) := ⟨_, hide rfl⟩
 obtain ⟨F, hF⟩ : ∃ k, Hid (Op.fault op qs ts = k) := ⟨_, hide rfl⟩
 obtain ⟨nt, hnt⟩ : ∃ n, Hid (ts.length = n) := ⟨_, hide rfl⟩
 obtain ⟨nq, hnq⟩ : ∃ n, Hid (qs.length = n) := ⟨_, hide rfl⟩
 obtain ⟨K, sh, kd⟩ := L
 unfold OpL at HV
 rw [hF.out, hL.out] at HV HFi
 rw [hF.out] at hfc
 rw [hnt.out, hnq.out] at HV HFi ⊢
 rw [hF.out, hL.out]
 dsimp only at HV HFi
 have HW := hide hW0
 clear hQ hql hR hI hl hE hK hW0 hL hF hnt hnq hA
 go_enter Tryz.func22, Tryz.ntmps22
 go_wp2_with fail
 rw [← HW.out]
 clear HW
 refine HV.out.mono ?_
 rintro e w1 ⟨⟨d, x, rfl, hdi, hdl, hx⟩, hb⟩
 have hz0l := HZ.out.lt
 have hsz0 := hb.size
 replace HZ := hide (HZ.out.below hb HZ.out.lt)
 have HB1 := hide (HB0.out.trans (hb.mono HB0.out.size))
 have hzl := HZ.out.lt
 clear hb HV HB0
 have hdx := HZ.out.alloc (.cells #[.slice d.P d.zs.length d.cap, .bool d.u] 24)
 have hbx := HB1.out.alloc HB1.out.size (.cells #[.slice d.P d.zs.length d.cap, .bool d.u] 24)
 by_cases hf : F = (0, none)
 case neg =>
  have hE := hx.errv hfc hf
  obtain ⟨y0, y1, y2, yf0, yf1, yf2, HZp, HFp⟩ := elm_three HZ.out HB1.out (Nat.le_refl _) (.slice none 0 0) (.bool false) (.slice none 0 0)
  obtain ⟨z0, z1, z2, zf0, zf1, zf2, HZf, HFf⟩ := elm_three hdx hbx (Nat.le_refl _) (.slice none 0 0) (.bool false) (.slice none 0 0)
  have HZq := hide (HZp.out.alloc (.cells #[.slice d.P d.zs.length d.cap, .bool d.u] 24))
  have HFq := hide (HFp.out.alloc HFp.out.size (.cells #[.slice d.P d.zs.length d.cap, .bool d.u] 24))
  have HXX := hide ((hx.low ((Below.refl _ _).alloc (Nat.le_refl _) (.cells #[.slice d.P d.zs.length d.cap, .bool d.u] 24))).fart3 hdx (by decide) (.slice none 0 0) (.bool false) (.slice none 0 0))
  have HXY := hide ((hx.fart3 HZ.out (by decide) (.slice none 0 0) (.bool false) (.slice none 0 0)).low ((Below.refl _ _).alloc (Nat.le_refl _) (.cells #[.slice d.P d.zs.length d.cap, .bool d.u] 24)))
  have r1 := run_neqerr hE
  have r2 := run_neqguard hE
  have HN := hide hf
  clear hdi hdl hx hdx hbx hf hfc hE HFi
  go_wp2_with fail
  first
   | (refine bodyPost_ret (results_tn rfl _ _ w.heap.size _ _ _ rfl HZf.out) rfl ?_
      exact ⟨⟨⟨none, [], 0, false, none, [], 0⟩, x, rfl, ⟨Ri.nil _ _, Ri.nil _ _, by simp, by simp⟩, fun h => absurd h HN.out, fun _ => ⟨rfl, rfl, rfl⟩, HXX.out⟩, HFf.out⟩)
   | (refine bodyPost_ret (results_tn rfl _ _ w.heap.size _ _ _ rfl HZq.out) rfl ?_
      exact ⟨⟨⟨none, [], 0, false, none, [], 0⟩, x, rfl, ⟨Ri.nil _ _, Ri.nil _ _, by simp, by simp⟩, fun h => absurd h HN.out, fun _ => ⟨rfl, rfl, rfl⟩, HXY.out⟩, HFq.out⟩)
 case pos =>
  subst hf
  obtain ⟨hwf, hlen, hAll⟩ := HFi.out rfl
  obtain ⟨hdz, hdu⟩ := hdl rfl
  obtain rfl : x = .nilIface := hx
  have hri := hdi.shp
  rw [hdz] at hri
  have hdzl : d.zs.length = sh.length := by rw [hdz]
  rw [hdzl, hdu] at hdx hbx ⊢
  obtain ⟨W2, hW2⟩ : ∃ W, W = w1.alloc (.cells #[.slice d.P sh.length d.cap, .bool kd] 24) := ⟨_, rfl⟩
  have hb2 : Below w1.heap.size w1 W2 := by rw [hW2]; exact (Below.refl _ _).alloc (Nat.le_refl _) _
  have hB2 := HB1.out.trans (hb2.mono HB1.out.size)
  have HAl := hide (hAll d.P d.cap kd W2 hB2 (hri.below hb2))
  have HZ2 := hide (HZ.out.below hb2 HZ.out.lt)
  have HB2 := hide hB2
  have HRI := hide (hri.below hb2)
  have HW2 := hide hW2
  have HWF := hide hwf
  have HLN := hide hlen
  have HSL := hide (show sh.length ≤ 1000000 by rw [← hdz]; exact hdi.ls)
  have HWS : Hid (w1.heap.size ≤ W2.heap.size) := hide hb2.size
  obtain ⟨nz, hnz⟩ : ∃ n, Hid (sh.length = n) := ⟨_, hide rfl⟩
  obtain ⟨nd, hnd⟩ : ∃ n, Hid (rs.length = n) := ⟨_, hide rfl⟩
  rw [hnz.out] at HAl HW2 ⊢
  rw [hnd.out] at HAl
  clear hdi hdl hdz hdu hdx hbx hfc hri hW2 hb2 hB2 HFi hdzl HZ HB1 hAll hwf hlen
  go_wp2_with fail
  rw [← HW2.out]
  clear HW2
  refine HAl.out.mono ?_
  rintro e w3 ⟨⟨g, rfl, hg, hG⟩, hb⟩
  have hZ3 := HZ2.out.below hb HZ2.out.lt
  have hB3 := HB2.out.trans (hb.mono HB2.out.size)
  have hR3 := HRI.out.below hb
  obtain ⟨z0, z1, z2, zf0, zf1, zf2, HZf, HFf⟩ := elm_three hZ3 hB3 (Nat.le_refl _) (.slice d.P nz d.cap) (.bool kd) (.slice (some ⟨g, 0, none⟩) nd nd)
  have HT1 := hide (hR3.keep3 hZ3 (.slice d.P nz d.cap) (.bool kd) (.slice (some ⟨g, 0, none⟩) nd nd))
  have HT2 := hide ((hG.ri HWF.out).keep3 hZ3 (.slice d.P nz d.cap) (.bool kd) (.slice (some ⟨g, 0, none⟩) nd nd))
  clear HAl hb hZ3 hB3 hR3 hG
  go_wp2_with fail
  refine bodyPost_ret (results_tn rfl _ _ w.heap.size _ _ _ rfl HZf.out) rfl ?_
  refine ⟨⟨⟨d.P, sh, d.cap, kd, some ⟨g, 0, none⟩, rs, nd⟩, .nilIface, ?_, ⟨HT1.out, HT2.out, HSL.out, by have := HLN.out; exact this⟩, fun _ => ⟨rfl, rfl, rfl, Nat.le_of_eq hnd.out⟩, fun h => absurd rfl h, Elm.Err.code 0⟩, HFf.out⟩
  show _ = Ending.returned (.tuple #[.agg (tcells d.P sh.length d.cap kd (some ⟨g, 0, none⟩) rs.length nd), .nilIface])
  rw [hnz.out, hnd.out]
  rfl
set_option maxRecDepth 100000 in
set_option maxHeartbeats 8000000 in
theorem opelement_c (op : Int) (qs : List Int) (ts : List Ten) (i v : Int) (A B : Option Addr) (qcap cap : Nat) (ah am ar ak : Addr) (w : World) (hQ : Ri w A qs) (hql : qs.length ≤ 1000000) (hR : Row w B (ts.flatMap Ten.vals)) (hI : ∀ t ∈ ts, t.In w) (hl : ts.length ≤ 1000000) (hE : E4 w ah am ar ak) (hK : Kz w)
  (hv : Op.fault op qs ts ≠ (0, none) → v = 0)
  (hA : Op.fault op qs ts = (0, none) → ∀ (P : Option Addr) (c : Nat) (u : Bool) W, Below w.heap.size w W → Ri W P (Op.look op qs (ts.map Ten.look)).2.1 → Calls Tryz.prog 52 #[.agg (dcells P (Op.look op qs (ts.map Ten.look)).2.1.length c u), .int .i64 i, .int .i64 op, .slice A qs.length qcap, .slice B ts.length cap] W fun e w' => e = .returned (.int .i64 v) ∧ Below W.heap.size W w') :
  Calls Tryz.prog 32 #[.int .i64 op, .slice A qs.length qcap, .int .i64 i, .slice B ts.length cap] w fun e w' => e = .returned (.int .i64 v) ∧ Below w.heap.size w w' := by
 have HV := hide (oplook_c op qs ts A B qcap cap ah am ar ak w hQ hql hR hI hl hE hK)
 have HFi := hide hA
 have HV0 := hide hv
 have hfc := Op.fault_cases op qs ts
 obtain ⟨L, hL⟩ : ∃ k, Hid (Op.look op qs (ts.map Ten.look) = k) := ⟨_, hide rfl⟩
 obtain ⟨F, hF⟩ : ∃ k, Hid (Op.fault op qs ts = k) := ⟨_, hide rfl⟩
 obtain ⟨nt, hnt⟩ : ∃ n, Hid (ts.length = n) := ⟨_, hide rfl⟩
 obtain ⟨nq, hnq⟩ : ∃ n, Hid (qs.length = n) := ⟨_, hide rfl⟩
 obtain ⟨K, sh, kd⟩ := L
 unfold OpL at HV
 rw [hF.out, hL.out] at HV HFi
 rw [hF.out] at hfc HV0
 rw [hnt.out, hnq.out] at HV HFi ⊢
 dsimp only at HV HFi
 clear hQ hql hR hI hl hE hK hL hF hnt hnq hA hv
 go_enter Tryz.func32, Tryz.ntmps32
 go_wp2_with fail
 refine HV.out.mono ?_
 rintro e w1 ⟨⟨d, x, rfl, hdi, hdl, hx⟩, hb⟩
 have HB := hide (hb.alloc hb.size (.cells #[.slice d.P d.zs.length d.cap, .bool d.u] 24))
 by_cases hf : F = (0, none)
 case neg =>
  have hE := hx.errv hfc hf
  obtain rfl := HV0.out hf
  have r1 := run_neqerr hE
  have r2 := run_neqguard hE
  clear hdi hdl hx hf hfc hE HFi HV0 hb HV
  go_wp2_with fail
  go_ret
  exact ⟨rfl, HB.out⟩
 case pos =>
  subst hf
  obtain ⟨hdz, hdu⟩ := hdl rfl
  obtain rfl : x = .nilIface := hx
  have hri := hdi.shp
  rw [hdz] at hri
  have hdzl : d.zs.length = sh.length := by rw [hdz]
  rw [hdzl] at HB ⊢
  have hb2 : Below w1.heap.size w1 (w1.alloc (.cells #[.slice d.P sh.length d.cap, .bool d.u] 24)) := (Below.refl _ _).alloc (Nat.le_refl _) _
  have HAl := hide (HFi.out rfl d.P d.cap d.u _ HB.out (hri.below hb2))
  obtain ⟨nz, hnz⟩ : ∃ n, Hid (sh.length = n) := ⟨_, hide rfl⟩
  rw [hnz.out] at HAl HB ⊢
  clear hdi hdl hdz hdu hfc hri hb2 HFi HV0 hdzl hb HV
  go_wp2_with fail
  refine HAl.out.mono ?_
  rintro e w3 ⟨rfl, hb⟩
  have HB3 := hide (HB.out.trans (hb.mono HB.out.size))
  clear hb HB HAl
  go_wp2_with fail
  go_ret
  exact ⟨rfl, HB3.out⟩
end Go.Proofs.YtgdcfjmpjhlndaaGreatDoor
