/-
  conv.look, walked. conv.Do, walked. Convolutions that are lawful; the examples of package lodgelaw9; conv.Inside. By an AI agent. No person has read it.
-/
import Derived.Test.YtkehdgjdieemkaaDoorMatD
import Derived.Test.YtkehdgjdieemkaaDoorCnvC
import Derived.Test.YtkehdgjdieemkaaDoorCelD
import Derived.Test.YtkehdgjdieemkaaDoorCelI
namespace Go.Proofs.YtkehdgjdieemkaaDoor
open Go.RowKit

set_option maxRecDepth 100000 in
set_option maxHeartbeats 8000000 in
theorem cvlook_c (qs : List Int) (A : Option Addr) (qcap : Nat) (a b : Ten) (ah am ar : Addr) (w : World) (hq : Ri w A qs) (hql : qs.length ≤ 1000000) (ha : a.In w) (hb : b.In w) (hE : E3 w ah am ar) :
    Calls Tryd.prog 62 #[.slice A qs.length qcap, .agg (tcells a.P a.zs.length a.cap a.u a.D a.ds.length a.dcap), .agg (tcells b.P b.zs.length b.cap b.u b.D b.ds.length b.dcap)] w
      (LookE w ah am ar [a, b] (Cv.shape qs a.look b.look) (Cv.kind qs a.look b.look) (Cv.code qs a.look b.look)) := by
  obtain ⟨W0, hW0⟩ : ∃ W, W = ((((w.alloc (.cells a.vals.toArray 26)).alloc (.cells b.vals.toArray 26)).alloc (.cells #[.slice none 0 0, .bool false] 24)).alloc (.cells ([a, b].flatMap Ten.vals).toArray 26)) := ⟨_, rfl⟩
  have HZ : Hid (Has W0 (w.heap.size + 2) 24 [.slice none 0 0, .bool false]) := hide (by rw [hW0]; exact (box_at _ _ _ _ (by simp)).alloc _)
  have HS : Hid (Has W0 (w.heap.size + 3) 26 ([a, b].flatMap Ten.vals)) := hide (by rw [hW0]; exact box_at _ _ _ _ (by simp))
  have HB0 : Hid (Below w.heap.size w W0) := hide (by rw [hW0]; exact ((((Below.refl _ _).alloc (Nat.le_refl _) _).alloc (by simp) _).alloc (by simp; omega) _).alloc (by simp; omega) _)
  have HV := hide (looks_c [a, b] (some ⟨w.heap.size + 3, 0, none⟩) 2 ah am ar W0 HS.out.row (fun t ht => by
    simp at ht
    rcases ht with rfl | rfl
    · exact ha.below HB0.out
    · exact hb.below HB0.out) (by simp) (hE.below HB0.out))
  have HRe := hide (fun W (h : Below w.heap.size w W) => cresult_c qs A qcap a.look b.look ah am ar W (hq.below h) hql (ha.look.below h) (hb.look.below h) (hE.below h))
  have HF0 := hide (fun h : Tens.first [a, b] ≠ (0, none) => Cel.fault_first (k := Cv.code qs a.look b.look) h)
  have HF1 := hide (fun h : Tens.first [a, b] = (0, none) => Cel.fault_code (k := Cv.code qs a.look b.look) h)
  have hfc := Tens.first_cases [a, b]
  have HK := hide (fun h : Cv.code qs a.look b.look ≠ 0 => Cv.bad h)
  obtain ⟨K, hK⟩ : ∃ k, Hid (Cv.code qs a.look b.look = k) := ⟨_, hide rfl⟩
  obtain ⟨sh, hsh⟩ : ∃ k, Hid (Cv.shape qs a.look b.look = k) := ⟨_, hide rfl⟩
  obtain ⟨kd, hkd⟩ : ∃ k, Hid (Cv.kind qs a.look b.look = k) := ⟨_, hide rfl⟩
  obtain ⟨R, hR⟩ : ∃ k, Hid (Tens.first [a, b] = k) := ⟨_, hide rfl⟩
  rw [hK.out, hsh.out, hkd.out] at HRe HK
  rw [hK.out, hR.out] at HF0 HF1
  rw [hR.out] at hfc HV
  rw [hK.out, hsh.out, hkd.out]
  have HL := hide (And.intro ha.ls hb.ls)
  have HW := hide hW0
  unfold Ten.vals at HW
  simp only [List.flatMap_cons, List.flatMap_nil, List.append_nil, List.cons_append, List.nil_append] at HW
  clear hq hql ha hb hE hW0 hK hsh hkd HS
  go_enter Tryd.func62, Tryd.ntmps62
  go_wp2_with fail
  rw [← HW.out]
  clear HW
  refine HV.out.mono ?_
  rintro e w1 ⟨⟨v, x, rfl, h1, h2⟩, hb⟩
  have hz0l := HZ.out.lt
  replace HZ := hide (HZ.out.below hb HZ.out.lt)
  have HB1 := hide (HB0.out.trans (hb.mono HB0.out.size))
  have hsz0 := HB0.out.size
  clear hb HV HB0
  by_cases hf : R = (0, none)
  case neg =>
    obtain ⟨rfl, hx⟩ := h2 hf
    have hE := hx.errv hfc hf
    have hF := HF0.out hf
    have hor : ∀ {α : Type} (p q : α), Cel.or [a, b] K p q = q := fun p q => by
      unfold Cel.or
      rw [hF, if_neg hf]
    have HO1 := hide (hor sh [])
    have HO2 := hide (hor kd false)
    have HFq := hide hF
    obtain ⟨z0, z1, zf0, zf1, HZf, HFf⟩ := elm_two HZ.out HB1.out (Nat.le_add_right _ 2) (.slice none 0 0) (.bool false)
    have HXX := hide (hx.fart2 HZ.out (by decide) (.slice none 0 0) (.bool false))
    have r1 := run_neqerr hE
    have r2 := run_neqguard hE
    clear h1 h2 hf hx hfc hE hF hor HRe HF0 HF1 HK
    go_wp2_with fail
    refine bodyPost_ret (results_desc rfl _ _ (w.heap.size + 2) _ _ rfl HZf.out) rfl ?_
    refine ⟨⟨⟨none, [], 0, false⟩, x, rfl, ⟨Ri.nil _ _, by simp⟩, (fun ad h => by cases h), HO1.out.symm, HO2.out.symm, ?_⟩, HFf.out⟩
    rw [HFq.out]
    exact HXX.out
  case pos =>
    obtain ⟨rfl, hown⟩ := h1 hf
    obtain ⟨C, c, rfl, hrow, hCb⟩ := own_row2 hown
    have hrow2 : Row w1 C ([a.look, b.look].flatMap Dsc.vals) := hrow
    obtain ⟨ad, rfl, hadl, c0, c1, c2, c3⟩ := rowd_two hrow2
    have hadb := hCb ad rfl
    have hF := HF1.out hf
    have HFq := hide hF
    have hS0 : LkS ad (.slice a.P a.zs.length a.cap) (.bool a.u) (.slice b.P b.zs.length b.cap) (.bool b.u) w1.drew := ⟨c0, c1, c2, c3⟩
    have HBd := hide (show Below w.heap.size w w1.drew from HB1.out.drew)
    have HZd := hide (HZ.out.drewN 1)
    have hne : w.heap.size + 2 ≠ ad.block := by omega
    have hzl : w.heap.size + 2 < w1.heap.size := HZ.out.lt
    clear h1 h2 hown hrow hrow2 hCb c0 c1 c2 c3 hf hF hfc HF0 HF1
    go_wp2_with fail
    go_region_held3 (fun W => W.cell? ad = some (.slice a.P a.zs.length a.cap) ∧ W.cell? ⟨ad.block, ad.off + 1, none⟩ = some (.bool a.u) ∧ W.cell? ⟨ad.block, ad.off + 2, none⟩ = some (.slice b.P b.zs.length b.cap) ∧ W.cell? ⟨ad.block, ad.off + 3, none⟩ = some (.bool b.u))
      (first | exact hS0 | assumption | exact hS9.out | exact hS8.out)
      (first
        | (go_at_call 33; refine (HRe.out _ HBd.out).mono ?_; rintro e W2 ⟨⟨d, rfl, hdi, hdf, hdz, hdu⟩, hb⟩; have hS8 := hide (LkS.keep hS0 hadl hb); have hB2 := HBd.out.trans (hb.mono HBd.out.size); have hZ2 := HZd.out.below hb HZd.out.lt; obtain ⟨z0, z1, zf0, zf1, HZf, HFf⟩ := elm_two hZ2 hB2 (Nat.le_add_right _ 2) (.slice d.P d.zs.length d.cap) (.bool d.u); have hS9 := hide (LkS.far2 hS8.out hne (.slice d.P d.zs.length d.cap) (.bool d.u)); have HDI := hide (hdi.far2 (b := w.heap.size + 2) hdf (by have : w1.drew.heap.size = w1.heap.size := rfl; omega) (.slice d.P d.zs.length d.cap) (.bool d.u)); have HDF := hide (hdf.le (m := w.heap.size + 1) (by have : w1.drew.heap.size = w1.heap.size := rfl; omega)); have HDZ := hide hdz; have HDU := hide hdu; clear hb hdi hdf hdz hdu hB2 hZ2))
    go_wp2_with fail
    refine bodyPost_ret (results_desc rfl _ _ (w.heap.size + 2) _ _ rfl HZf.out) rfl ?_
    refine ⟨⟨d, _, rfl, HDI.out, HDF.out, ?_, ?_, ?_⟩, HFf.out⟩
    · unfold Cel.or
      rw [HFq.out, HDZ.out]
      by_cases h : K = 0
      · rw [if_pos (by rw [h])]
      · rw [if_neg (fun hh => h (congrArg Prod.fst hh)), (HK.out h).1]
    · unfold Cel.or
      rw [HFq.out, HDU.out]
      by_cases h : K = 0
      · rw [if_pos (by rw [h])]
      · rw [if_neg (fun hh => h (congrArg Prod.fst hh)), (HK.out h).2]
    · rw [HFq.out]
      exact TErr.code K
set_option maxRecDepth 100000 in
set_option maxHeartbeats 8000000 in
theorem fill_conv (H : World → Prop) (a b : Ten) (s p za : Int) (A B : Option Addr) (qcap bcap ocap f n : Nat) (g : Option Addr) (w : World) (hQ : Ri w A [s, p, za]) (hR : Row w B ([a, b].flatMap Ten.vals))
    (hV : Calls Tryd.prog 96 #[.slice g n ocap, .int .i64 f, .agg (tcells a.P a.zs.length a.cap a.u a.D a.ds.length a.dcap), .agg (tcells b.P b.zs.length b.cap b.u b.D b.ds.length b.dcap), .int .i64 s, .int .i64 p, .int .i64 za] w.drew fun e w' => e = .returned (.tuple #[]) ∧ H w') :
    Calls Tryd.prog 87 #[.slice g n ocap, .int .i64 f, .int .i64 13, .slice A 3 qcap, .slice B 2 bcap] w fun e w' => e = .returned (.tuple #[]) ∧ H w' := by
  obtain ⟨ad, rfl, -, c0, c1, c2, c3, c4, c5⟩ := row_two hR
  obtain ⟨aq, rfl, -, q0, q1, q2⟩ := ri_three hQ
  have V := hide hV
  clear hR hV hQ
  go_enter Tryd.func87, Tryd.ntmps87
  go_wp2_with fail
  go_still_tail 17, (by kernel_rfl)
  change wpList _ _ _ _ _ w.drew
  go_wp2_with fail
  refine V.out.mono ?_
  rintro e w1 ⟨rfl, h1⟩
  go_wp2_with fail
  refine bodyPost_end (results_none rfl _ _ _) rfl ?_
  exact ⟨rfl, h1⟩

theorem Cv.reach_nat (n k s p : Nat) (h : k ≤ n + 2 * p) : Cv.reach n k s p = (((n + 2 * p - k) / s + 1 : Nat) : Int) := by
  unfold Cv.reach
  rw [Int.natCast_add, Int.natCast_ediv, Int.natCast_sub h]
  simp
/-- The sizes, read off. -/
def Cv.of (qs : List Int) (a b : Ten) : Cv := ⟨(a.zs.getD 0 0).toNat, (a.zs.getD 1 0).toNat, (a.zs.getD 2 0).toNat, (b.zs.getD 0 0).toNat, (b.zs.getD 1 0).toNat, (b.zs.getD 3 0).toNat, (qs.getD 0 0).toNat, (qs.getD 1 0).toNat, qs.getD 2 0⟩
/-- The numbers of a convolution. -/
def Cv.ds (qs : List Int) (a b : Ten) : List Int := (Cv.of qs a b).part a.ds b.ds 0 ((Cv.of qs a b).oh * (Cv.of qs a b).ow * (Cv.of qs a b).N)
/-- An element of it; 0 of a place that is none. -/
def Cv.at (qs : List Int) (a b : Ten) (i : Int) : Int := (if 0 ≤ i then (Cv.ds qs a b).getD i.toNat 0 else 0)
structure Cv.Fine (qs : List Int) (a b : Ten) (c : Cv) : Prop where
  qz : qs = [(c.s : Int), (c.p : Int), c.za]
  az : a.zs = [(c.H : Int), (c.W : Int), (c.C : Int)]
  bz : b.zs = [(c.KH : Int), (c.KW : Int), (c.C : Int), (c.N : Int)]
  ok : c.Ok
  al : a.ds.length = c.H * c.W * c.C
  bl : b.ds.length = c.KH * c.KW * c.C * c.N
  mn : c.oh * c.ow * c.N ≤ 16384
  sa : Mat.small a.ds
  sb : Mat.small b.ds
  cd : Shp.code [(c.oh : Int), (c.ow : Int), (c.N : Int)] = 0
  sh : Cv.shape qs a.look b.look = [(c.oh : Int), (c.ow : Int), (c.N : Int)]
  kd : Cv.kind qs a.look b.look = true
  ds : Cv.ds qs a b = c.part a.ds b.ds 0 (c.oh * c.ow * c.N)
theorem Cv.prod3 (x y z : Nat) : Shp.prod [(x : Int), (y : Int), (z : Int)] = ((x * y * z : Nat) : Int) := by
  simp [Shp.prod, Int.mul_assoc]
theorem Cv.prod4 (x y z v : Nat) : Shp.prod [(x : Int), (y : Int), (z : Int), (v : Int)] = ((x * y * z * v : Nat) : Int) := by
  simp [Shp.prod, Int.mul_assoc]
theorem Cv.fine {qs : List Int} {a b : Ten} (h : Cel.fault [a, b] (Cv.code qs a.look b.look) = (0, none)) : ∃ c : Cv, Cv.Fine qs a b c := by
  obtain ⟨h1, h2⟩ := Cel.fine h
  have hfa := Tens.whole (Tens.first_fine _ h1 a (by simp))
  have hfb := Tens.whole (Tens.first_fine _ h1 b (by simp))
  have hwa := Shp.whole hfa.1
  have hwb := Shp.whole hfb.1
  have hc := h2
  unfold Cv.code at h2
  split at h2
  · cases h2
  rename_i h3
  split at h2
  · rename_i h4
    exact absurd h2 h4
  split at h2
  · cases h2
  rename_i h4
  split at h2
  · cases h2
  rename_i h5
  split at h2
  · cases h2
  rename_i h6
  have hua : a.u = false := by
    cases e : a.u
    · rfl
    · exact absurd (.inl e) h4
  have hub : b.u = false := by
    cases e : b.u
    · rfl
    · exact absurd (.inr (.inl e)) h4
  have hql : qs.length = 3 := Classical.byContradiction fun e => h3 e
  have hal : a.zs.length = 3 := Classical.byContradiction fun e => h4 (.inr (.inr (.inl e)))
  have hbl : b.zs.length = 4 := Classical.byContradiction fun e => h4 (.inr (.inr (.inr (.inl e))))
  have hk : b.zs.getD 2 0 = a.zs.getD 2 0 := Classical.byContradiction fun e => h4 (.inr (.inr (.inr (.inr e))))
  obtain ⟨q0, q1, q2, hq⟩ : ∃ x y z, qs = [x, y, z] := by
    match h : qs, hql with
    | [x, y, z], _ => exact ⟨x, y, z, rfl⟩
  obtain ⟨x0, x1, x2, hx⟩ : ∃ x y z, a.zs = [x, y, z] := by
    match h : a.zs, hal with
    | [x, y, z], _ => exact ⟨x, y, z, rfl⟩
  obtain ⟨y0, y1, y2, y3, hy⟩ : ∃ x y z v, b.zs = [x, y, z, v] := by
    match h : b.zs, hbl with
    | [x, y, z, v], _ => exact ⟨x, y, z, v, rfl⟩
  have hx' : a.look.zs = [x0, x1, x2] := hx
  have hy' : b.look.zs = [y0, y1, y2, y3] := hy
  rw [hx, hy] at hk
  obtain rfl : y2 = x2 := hk
  subst hq
  rw [hx', hy'] at h6
  have hs1 : ¬ q0 < 1 := fun h => h5 (.inl h)
  have hs2 : ¬ q0 > 16 := fun h => h5 (.inr (.inl h))
  have hp1 : ¬ q1 < 0 := fun h => h5 (.inr (.inr (.inl h)))
  have hp2 : ¬ q1 > 15 := fun h => h5 (.inr (.inr (.inr (.inl h))))
  have hzz : Tens.narrow q2 = q2 := Classical.byContradiction fun h => h5 (.inr (.inr (.inr (.inr h))))
  have hk0 : ¬ y0 > x0 + 2 * q1 := fun h => h6 (.inl h)
  have hk1 : ¬ y1 > x1 + 2 * q1 := fun h => h6 (.inr h)
  rw [hx] at hfa hwa
  rw [hy] at hfb hwb
  have d0 := hwa.2.1 x0 (by simp)
  have d1 := hwa.2.1 x1 (by simp)
  have d2 := hwa.2.1 y2 (by simp)
  have g0 := hwb.2.1 y0 (by simp)
  have g1 := hwb.2.1 y1 (by simp)
  have g3 := hwb.2.1 y3 (by simp)
  obtain ⟨H, rfl⟩ : ∃ n : Nat, x0 = n := ⟨x0.toNat, by omega⟩
  obtain ⟨W, rfl⟩ : ∃ n : Nat, x1 = n := ⟨x1.toNat, by omega⟩
  obtain ⟨C, rfl⟩ : ∃ n : Nat, y2 = n := ⟨y2.toNat, by omega⟩
  obtain ⟨U, rfl⟩ : ∃ n : Nat, y0 = n := ⟨y0.toNat, by omega⟩
  obtain ⟨V, rfl⟩ : ∃ n : Nat, y1 = n := ⟨y1.toNat, by omega⟩
  obtain ⟨N, rfl⟩ : ∃ n : Nat, y3 = n := ⟨y3.toNat, by omega⟩
  obtain ⟨s, rfl⟩ : ∃ n : Nat, q0 = n := ⟨q0.toNat, by omega⟩
  obtain ⟨p, rfl⟩ : ∃ n : Nat, q1 = n := ⟨q1.toNat, by omega⟩
  have hdm : Cv.dims [(s : Int), (p : Int), q2] a.look b.look = [(((H + 2 * p - U) / s + 1 : Nat) : Int), (((W + 2 * p - V) / s + 1 : Nat) : Int), (N : Int)] := by
    unfold Cv.dims
    rw [hx', hy', ← Cv.reach_nat H U s p (by omega), ← Cv.reach_nat W V s p (by omega)]
    rfl
  rw [hdm] at h2
  have hwp := (Shp.whole h2).2.2.2.2
  have hpa := hwa.2.2.2.2
  have hpb := hwb.2.2.2.2
  rw [Cv.prod3] at hwp hpa hfa
  rw [Cv.prod4] at hpb hfb
  have hsh : Cv.shape [(s : Int), (p : Int), q2] a.look b.look = [(((H + 2 * p - U) / s + 1 : Nat) : Int), (((W + 2 * p - V) / s + 1 : Nat) : Int), (N : Int)] := by
    unfold Cv.shape
    rw [if_pos hc, hdm]
  refine ⟨⟨H, W, C, U, V, N, s, p, q2⟩, ⟨rfl, hx, hy, ?_, Int.ofNat.inj hfa.2.1, Int.ofNat.inj hfb.2.1, Int.ofNat_le.1 hwp, fun z hz => fit_narrow hua (hfa.2.2 z hz), fun z hz => fit_narrow hub (hfb.2.2 z hz), h2, hsh, decide_eq_true hc, ?_⟩⟩
  · have hw := Int.ofNat_le.1 hwp
    have ha := Int.ofNat_le.1 hpa
    have hb := Int.ofNat_le.1 hpb
    exact ⟨by show 1 ≤ s; omega, by show s ≤ 16; omega, by show p ≤ 15; omega, by show 1 ≤ U; omega, by show 1 ≤ V; omega, by show U ≤ H + 2 * p; omega, by show V ≤ W + 2 * p; omega, by show 1 ≤ N; omega, by show 1 ≤ C; omega, by show H ≤ 1000000; omega, by show W ≤ 1000000; omega, Nat.le_trans ha (by decide), Nat.le_trans hb (by decide), Nat.le_trans hw (by decide), narrow_self hzz⟩
  · unfold Cv.ds Cv.of
    rw [hx, hy]
    rfl
/-- cells.Of a convolution, from a place on, so many. -/
theorem cvof_c (qs : List Int) (a b : Ten) (c : Cv) (hf : Cv.Fine qs a b c) (A B : Option Addr) (qcap bcap f n : Nat) (w : World) (hQ : Ri w A qs) (hR : Row w B ([a, b].flatMap Ten.vals)) (ha : a.In w) (hb : b.In w) (hn : f + n ≤ c.oh * c.ow * c.N) :
    Calls Tryd.prog 70 #[.int .i64 13, .slice A 3 qcap, .int .i64 f, .int .i64 ((f + n : Nat) : Int), .slice B 2 bcap] w fun e w' => (∃ g, e = .returned (.slice (some ⟨g, 0, none⟩) n n) ∧ w.heap.size ≤ g ∧ Has w' g 3 (i64s (c.part a.ds b.ds f n))) ∧ Below w.heap.size w w' := by
  have hmn := hf.mn
  refine of_any (c.part a.ds b.ds f n) 13 A B 3 qcap 2 bcap f n w (by omega) fun W g hB hg hG => ?_
  have hQ2 := hQ
  rw [hf.qz] at hQ2
  refine fill_conv _ a b c.s c.p c.za A B qcap bcap n f n (some ⟨g, 0, none⟩) W (hQ2.below hB) (hR.below hB) ?_
  have h := conv_c (List.replicate n 0) a b c n f g w W.drew hf.ok hf.az hf.bz hf.al hf.bl ha hb hf.sa hf.sb hB.drew hg (hG.drewN 1) (by rw [List.length_replicate]; exact hn)
  rw [List.length_replicate] at h
  exact h
theorem Cv.part_wf (c : Cv) (xs ks : List Int) (f m : Nat) : ∀ z ∈ c.part xs ks f m, (Lit.int .i64 z).wf = true := by
  intro z hz
  unfold Cv.part at hz
  obtain ⟨i, -, rfl⟩ := List.mem_map.1 hz
  exact wide_wf _
/-- cells.All of a convolution. -/
theorem cvall_c (qs : List Int) (a b : Ten) (c : Cv) (hf : Cv.Fine qs a b c) (P : Option Addr) (cap : Nat) (u : Bool) (A B : Option Addr) (qcap bcap : Nat) (am ar : Addr) (w : World) (hr : Ri w P [(c.oh : Int), (c.ow : Int), (c.N : Int)]) (hE : E2 w am ar) (hQ : Ri w A qs) (hR : Row w B ([a, b].flatMap Ten.vals)) (ha : a.In w) (hb : b.In w) :
    Calls Tryd.prog 43 #[.agg (dcells P 3 cap u), .int .i64 13, .slice A 3 qcap, .slice B 2 bcap] w fun e w' => (∃ g, e = .returned (.agg (tcells P 3 cap u (some ⟨g, 0, none⟩) (c.oh * c.ow * c.N) (c.oh * c.ow * c.N))) ∧ w.heap.size < g ∧ Has w' g 3 (i64s (c.part a.ds b.ds 0 (c.oh * c.ow * c.N)))) ∧ Below w.heap.size w w' := by
  have hpe : ((c.part a.ds b.ds 0 (c.oh * c.ow * c.N)).length : Int) = Shp.elems [(c.oh : Int), (c.ow : Int), (c.N : Int)] := by
    rw [(Shp.whole hf.cd).2.2.1, Cv.part_length, Cv.prod3]
  have h := all_c [(c.oh : Int), (c.ow : Int), (c.N : Int)] (c.part a.ds b.ds 0 (c.oh * c.ow * c.N)) P cap u 13 A B 3 qcap 2 bcap am ar w hr (by show 3 ≤ 1000000; omega) hE hpe fun W hB => by
    have h := cvof_c qs a b c hf A B qcap bcap 0 (c.oh * c.ow * c.N) W (hQ.below hB) (hR.below hB) (ha.below hB) (hb.below hB) (by omega)
    rw [Nat.zero_add] at h
    rw [Cv.part_length]
    exact h
  rw [Cv.part_length] at h
  exact h
set_option maxRecDepth 100000 in
set_option maxHeartbeats 8000000 in
theorem cvdo_c (qs : List Int) (A : Option Addr) (qcap : Nat) (a b : Ten) (ah am ar : Addr) (w : World) (hq : Ri w A qs) (hql : qs.length ≤ 1000000) (ha : a.In w) (hb : b.In w) (hE : E3 w ah am ar) :
    Calls Tryd.prog 32 #[.agg (tcells a.P a.zs.length a.cap a.u a.D a.ds.length a.dcap), .agg (tcells b.P b.zs.length b.cap b.u b.D b.ds.length b.dcap), .slice A qs.length qcap] w
      (TenE w ah am ar (Cel.fault [a, b] (Cv.code qs a.look b.look)) (Cv.shape qs a.look b.look) (Cv.kind qs a.look b.look) (Cv.ds qs a b)) := by
  obtain ⟨W0, hW0⟩ : ∃ W, W = (((w.alloc (.cells a.vals.toArray 26)).alloc (.cells b.vals.toArray 26)).alloc (.cells #[.slice none 0 0, .bool false, .slice none 0 0] 26)) := ⟨_, rfl⟩
  have HA : Hid (Has W0 w.heap.size 26 a.vals) := hide (by rw [hW0]; exact ((Has.new w 26 a.vals).alloc _).alloc _)
  have HB : Hid (Has W0 (w.heap.size + 1) 26 b.vals) := hide (by rw [hW0]; exact (box_at _ _ _ _ (by simp)).alloc _)
  have HZ : Hid (Has W0 (w.heap.size + 2) 26 [.slice none 0 0, .bool false, .slice none 0 0]) := hide (by rw [hW0]; exact box_at _ _ _ _ (by simp))
  have HB0 : Hid (Below w.heap.size w W0) := hide (by rw [hW0]; exact (((Below.refl _ _).alloc (Nat.le_refl _) _).alloc (by simp) _).alloc (by simp; omega) _)
  have HV := hide (cvlook_c qs A qcap a b ah am ar W0 (hq.below HB0.out) hql (ha.below HB0.out) (hb.below HB0.out) (hE.below HB0.out))
  have HIa := hide (fun W (h : Below w.heap.size w W) => ha.below h)
  have HIb := hide (fun W (h : Below w.heap.size w W) => hb.below h)
  have HE2 := hide (fun W (h : Below w.heap.size w W) => hE.2.below h)
  have HFi := hide (fun h : Cel.fault [a, b] (Cv.code qs a.look b.look) = (0, none) => Cv.fine h)
  have hfc := Cel.fault_cases (ts := [a, b]) (Cv.code_known qs a.look b.look)
  have HW := hide hW0
  have HQ := hide (fun W (h : Below w.heap.size w W) => hq.below h)
  unfold Ten.vals at HW
  clear ha hb hE hW0 hq hql
  go_enter Tryd.func32, Tryd.ntmps32
  go_wp2_with fail
  rw [← HW.out]
  clear HW
  refine HV.out.mono ?_
  rintro e w1 ⟨⟨d, x, rfl, hdi, hdf, hdz, hdu, hx⟩, hb⟩
  have hz0l := HZ.out.lt
  have hsz0 := hb.size
  replace HZ := hide (HZ.out.below hb HZ.out.lt)
  replace HA := hide (HA.out.below hb HA.out.lt)
  replace HB := hide (HB.out.below hb HB.out.lt)
  have HB1 := hide (HB0.out.trans (hb.mono HB0.out.size))
  clear hb HV HB0
  have hdx := HZ.out.alloc (.cells #[.slice d.P d.zs.length d.cap, .bool d.u] 24)
  have hbx := HB1.out.alloc HB1.out.size (.cells #[.slice d.P d.zs.length d.cap, .bool d.u] 24)
  by_cases hf : Cel.fault [a, b] (Cv.code qs a.look b.look) = (0, none)
  case neg =>
    have hE := hx.errv hfc hf
    obtain ⟨z0, z1, z2, zf0, zf1, zf2, HZf, HFf⟩ := elm_three hdx hbx (Nat.le_add_right _ 2) (.slice none 0 0) (.bool false) (.slice none 0 0)
    have HXX := hide ((hx.down ((Below.refl _ _).alloc (Nat.le_refl _) (.cells #[.slice d.P d.zs.length d.cap, .bool d.u] 24))).fart3 hdx (by decide) (.slice none 0 0) (.bool false) (.slice none 0 0))
    have r1 := run_neqerr hE
    have r2 := run_neqguard hE
    have HN := hide hf
    clear hdi hdf hdz hdu hx hdx hbx hf hfc hE HFi HIa HIb HE2 HQ HA HB
    go_wp2_with fail
    refine bodyPost_ret (results_tn rfl _ _ (w.heap.size + 2) _ _ _ rfl HZf.out) rfl ?_
    exact TenE.bad rfl HN.out HXX.out HFf.out
  case pos =>
    obtain ⟨c, hfi⟩ := HFi.out hf
    have hor : ∀ {α : Type} (p q : α), Cel.or [a, b] (Cv.code qs a.look b.look) p q = p := fun p q => by
      unfold Cel.or
      rw [if_pos hf]
    rw [hor, hfi.sh] at hdz
    rw [hor, hfi.kd] at hdu
    rw [hf] at hx
    obtain rfl : x = .nilIface := hx
    have HN := hide hf
    have HFI := hide hfi
    have hdzl : d.zs.length = 3 := by rw [hdz]; rfl
    have hri := hdi.shp
    rw [hdz] at hri
    rw [hdzl, hdu] at hdx hbx ⊢
    have hql3 : qs.length = 3 := by rw [hfi.qz]; rfl
    rw [hql3]
    obtain ⟨W2, hW2⟩ : ∃ W, W = (w1.alloc (.cells #[.slice d.P 3 d.cap, .bool true] 24)).alloc (.cells ([a, b].flatMap Ten.vals).toArray 26) := ⟨_, rfl⟩
    have hb2 : Below w1.heap.size w1 W2 := by rw [hW2]; exact ((Below.refl _ _).alloc (Nat.le_refl _) _).alloc (by simp) _
    have hT2 : Has W2 (w1.heap.size + 1) 26 ([a, b].flatMap Ten.vals) := by rw [hW2]; exact box_at _ _ _ _ (by simp)
    have hB2 := HB1.out.trans (hb2.mono HB1.out.size)
    have HAl := hide (cvall_c qs a b c hfi d.P d.cap true A (some ⟨w1.heap.size + 1, 0, none⟩) qcap 2 am ar W2 (hri.below hb2) (HE2.out _ hB2) (HQ.out _ hB2) hT2.row (HIa.out _ hB2) (HIb.out _ hB2))
    have HZ2 := hide (HZ.out.below hb2 HZ.out.lt)
    have HB2 := hide hB2
    have HRI := hide (hri.below hb2)
    have HDF := hide hdf
    have HW2 := hide hW2
    have HWS : Hid (w1.heap.size ≤ W2.heap.size) := hide hb2.size
    unfold Ten.vals at HA HB HW2
    simp only [List.flatMap_cons, List.flatMap_nil, List.append_nil, List.cons_append, List.nil_append] at HW2
    have a0 := HA.out.cell 0
    have a1 := HA.out.cell 1
    have a2 := HA.out.cell 2
    have b0 := HB.out.cell 0
    have b1 := HB.out.cell 1
    have b2 := HB.out.cell 2
    have hal := HA.out.lt
    have hbl := HB.out.lt
    clear hdi hdf hdz hdx hbx hf hfc hfi hri hW2 hb2 hT2 hB2 hql3 HFi HIa HIb HE2 HQ hor hdzl hdu HZ HB1 HA HB
    go_wp2_with fail
    rw [← HW2.out]
    clear HW2 a0 a1 a2 b0 b1 b2
    refine HAl.out.mono ?_
    rintro e w3 ⟨⟨g, rfl, hg, hG⟩, hb⟩
    have hZ3 := HZ2.out.below hb HZ2.out.lt
    have hB3 := HB2.out.trans (hb.mono HB2.out.size)
    have hR3 := HRI.out.below hb
    obtain ⟨z0, z1, z2, zf0, zf1, zf2, HZf, HFf⟩ := elm_three hZ3 hB3 (Nat.le_add_right _ 2) (.slice d.P 3 d.cap) (.bool true) (.slice (some ⟨g, 0, none⟩) (c.oh * c.ow * c.N) (c.oh * c.ow * c.N))
    have hdfr := HDF.out
    have hws := HWS.out
    have hmn := HFI.out.mn
    have ht : Ten.In w3 ⟨d.P, [(c.oh : Int), (c.ow : Int), (c.N : Int)], d.cap, true, some ⟨g, 0, none⟩, c.part a.ds b.ds 0 (c.oh * c.ow * c.N), c.oh * c.ow * c.N⟩ := ⟨hR3, hG.ri (Cv.part_wf _ _ _ _ _), by show 3 ≤ 1000000; omega, by rw [Cv.part_length]; omega⟩
    have htf : Ten.Fresh (w.heap.size + 2 + 1) ⟨d.P, [(c.oh : Int), (c.ow : Int), (c.N : Int)], d.cap, true, some ⟨g, 0, none⟩, c.part a.ds b.ds 0 (c.oh * c.ow * c.N), c.oh * c.ow * c.N⟩ := ⟨fun ad h => by have := hdfr ad h; omega, fun ad h => by cases h; show w.heap.size + 2 + 1 ≤ g; omega⟩
    have HT := hide (ht.far3 htf (.slice d.P 3 d.cap) (.bool true) (.slice (some ⟨g, 0, none⟩) (c.oh * c.ow * c.N) (c.oh * c.ow * c.N)))
    have HTF := hide (htf.le (m := w.heap.size + 1) (by omega))
    have HGf := hide (((hG.far (p := ⟨w.heap.size + 2, 0, none⟩) (by simp; omega) (.slice d.P 3 d.cap)).far (p := ⟨w.heap.size + 2, 1, none⟩) (by simp; omega) (.bool true)).far (p := ⟨w.heap.size + 2, 2, none⟩) (by simp; omega) (.slice (some ⟨g, 0, none⟩) (c.oh * c.ow * c.N) (c.oh * c.ow * c.N)))
    clear HAl hb hZ3 hB3 hR3 hG hdfr hws hmn ht htf
    go_wp2_with fail
    refine bodyPost_ret (results_tn rfl _ _ (w.heap.size + 2) _ _ _ rfl HZf.out) rfl ?_
    refine ⟨⟨⟨d.P, [(c.oh : Int), (c.ow : Int), (c.N : Int)], d.cap, true, some ⟨g, 0, none⟩, c.part a.ds b.ds 0 (c.oh * c.ow * c.N), c.oh * c.ow * c.N⟩, .nilIface, ?_, HT.out, HTF.out, ?_, ?_, ?_, ?_, fun _ => ⟨g, rfl, (Cv.part_length _ _ _ _ _).symm, HGf.out⟩⟩, HFf.out⟩
    · rw [Cv.part_length]
      rfl
    · rw [if_pos HN.out, HFI.out.sh]
    · rw [if_pos HN.out, HFI.out.kd]
    · rw [if_pos HN.out, HFI.out.ds]
    · rw [HN.out]
      rfl
theorem cv_good (qs : List Int) (A : Option Addr) (qcap : Nat) (a b : Ten) (ah am ar : Addr) (w : World) (hf : Cel.fault [a, b] (Cv.code qs a.look b.look) = (0, none)) (hq : Ri w A qs) (hql : qs.length ≤ 1000000) (ha : a.In w) (hb : b.In w) (hE : E3 w ah am ar) :
    Calls Tryd.prog 32 #[.agg (tcells a.P a.zs.length a.cap a.u a.D a.ds.length a.dcap), .agg (tcells b.P b.zs.length b.cap b.u b.D b.ds.length b.dcap), .slice A qs.length qcap] w fun e w' =>
      (∃ t : Ten, e = .returned (.tuple #[.agg (tcells t.P t.zs.length t.cap t.u t.D t.ds.length t.dcap), .nilIface]) ∧ t.In w' ∧ t.zs = Cv.shape qs a.look b.look ∧ t.u = true ∧ t.ds = Cv.ds qs a b ∧ OwnData w' t) ∧ Below w.heap.size w w' := by
  obtain ⟨c, hc⟩ := Cv.fine hf
  refine (cvdo_c qs A qcap a b ah am ar w hq hql ha hb hE).mono ?_
  rintro e w' ⟨⟨t, x, rfl, hIn, -, hz, hu, hd, hx, ho⟩, hB⟩
  rw [if_pos hf] at hz
  rw [if_pos hf, hc.kd] at hu
  rw [if_pos hf] at hd
  rw [hf] at hx
  obtain rfl : x = .nilIface := hx
  exact ⟨⟨t, rfl, hIn, hz, hu, hd, ho hf⟩, hB⟩
theorem cv_first (P Q D E : Option Addr) : Cv.ds [1, 0, 0] ⟨P, [1, 3, 1], 3, false, D, [1, 2, 1], 3⟩ ⟨Q, [1, 1, 1, 1], 4, false, E, [3], 1⟩ = [3, 6, 3] := by kernel_rfl
set_option maxRecDepth 100000 in
set_option maxHeartbeats 4000000 in
theorem first9_c (ah am ar : Addr) (w : World) (hE : E3 w ah am ar) :
    Calls Tryd.prog 31 #[] w fun e w' => e = .returned (.bool true) ∧ Below w.heap.size w w' := by
  obtain ⟨W1, hW1⟩ : ∃ W, W = ((w.alloc (.cells #[.int .i64 1, .int .i64 3, .int .i64 1] 3)).alloc (.cells #[.int .i64 1, .int .i64 2, .int .i64 1] 3)).alloc (.cells #[.slice (some ⟨w.heap.size, 0, none⟩) 3 3, .bool false, .slice (some ⟨w.heap.size + 1, 0, none⟩) 3 3] 26) := ⟨_, rfl⟩
  have hB1 : Below w.heap.size w W1 := by rw [hW1]; exact (((Below.refl _ _).alloc (Nat.le_refl _) _).alloc (by simp) _).alloc (by simp; omega) _
  have s1 : Has W1 w.heap.size 3 (i64s [1, 3, 1]) := by rw [hW1]; exact ((Has.new w 3 [.int .i64 1, .int .i64 3, .int .i64 1]).alloc _).alloc _
  have d1 : Has W1 (w.heap.size + 1) 3 (i64s [1, 2, 1]) := by rw [hW1]; exact (box_at _ 3 [.int .i64 1, .int .i64 2, .int .i64 1] _ (by simp)).alloc _
  have x1 : Has W1 (w.heap.size + 1 + 1) 26 [.slice (some ⟨w.heap.size, 0, none⟩) 3 3, .bool false, .slice (some ⟨w.heap.size + 1, 0, none⟩) 3 3] := by rw [hW1]; exact box_at _ _ _ _ (by simp)
  have z1 : W1.heap.size = w.heap.size + 1 + 1 + 1 := by rw [hW1]; simp
  obtain ⟨W2, hW2⟩ : ∃ W, W = ((W1.alloc (.cells #[.int .i64 1, .int .i64 1, .int .i64 1, .int .i64 1] 3)).alloc (.cells #[.int .i64 3] 3)).alloc (.cells #[.slice (some ⟨w.heap.size + 1 + 1 + 1, 0, none⟩) 4 4, .bool false, .slice (some ⟨w.heap.size + 1 + 1 + 1 + 1, 0, none⟩) 1 1] 26) := ⟨_, rfl⟩
  have hb2 : Below W1.heap.size W1 W2 := by rw [hW2]; exact (((Below.refl _ _).alloc (Nat.le_refl _) _).alloc (by simp) _).alloc (by simp; omega) _
  have s2 : Has W2 (w.heap.size + 1 + 1 + 1) 3 (i64s [1, 1, 1, 1]) := by rw [hW2, ← z1]; exact ((Has.new W1 3 [.int .i64 1, .int .i64 1, .int .i64 1, .int .i64 1]).alloc _).alloc _
  have d2 : Has W2 (w.heap.size + 1 + 1 + 1 + 1) 3 (i64s [3]) := by rw [hW2]; exact (box_at _ 3 [.int .i64 3] _ (by simp [z1])).alloc _
  have x2 : Has W2 (w.heap.size + 1 + 1 + 1 + 1 + 1) 26 [.slice (some ⟨w.heap.size + 1 + 1 + 1, 0, none⟩) 4 4, .bool false, .slice (some ⟨w.heap.size + 1 + 1 + 1 + 1, 0, none⟩) 1 1] := by rw [hW2]; exact box_at _ _ _ _ (by simp [z1])
  have z2 : W2.heap.size = w.heap.size + 1 + 1 + 1 + 1 + 1 + 1 := by rw [hW2]; simp [z1]
  have x12 := x1.below hb2 x1.lt
  have hB2 := hB1.trans (hb2.mono hB1.size)
  obtain ⟨W3, hW3⟩ : ∃ W, W = W2.alloc (.cells #[.int .i64 1, .int .i64 0, .int .i64 0] 3) := ⟨_, rfl⟩
  have hb3 : Below W2.heap.size W2 W3 := by rw [hW3]; exact (Below.refl _ _).alloc (Nat.le_refl _) _
  have hB3 := hB2.trans (hb3.mono hB2.size)
  have q3 : Has W3 (w.heap.size + 1 + 1 + 1 + 1 + 1 + 1) 3 (i64s [1, 0, 0]) := by rw [hW3, ← z2]; exact Has.new W2 3 [.int .i64 1, .int .i64 0, .int .i64 0]
  have HM := hide (cv_good [1, 0, 0] (some ⟨w.heap.size + 1 + 1 + 1 + 1 + 1 + 1, 0, none⟩) 3 ⟨some ⟨w.heap.size, 0, none⟩, [1, 3, 1], 3, false, some ⟨w.heap.size + 1, 0, none⟩, [1, 2, 1], 3⟩ ⟨some ⟨w.heap.size + 1 + 1 + 1, 0, none⟩, [1, 1, 1, 1], 4, false, some ⟨w.heap.size + 1 + 1 + 1 + 1, 0, none⟩, [3], 1⟩ ah am ar W3 (by rfl) (q3.ri (by decide)) (by simp)
    ⟨((s1.ri (by decide)).below hb2).below hb3, ((d1.ri (by decide)).below hb2).below hb3, by simp, by simp⟩ ⟨(s2.ri (by decide)).below hb3, (d2.ri (by decide)).below hb3, by simp, by simp⟩ (hE.below hB3))
  have HB := hide hB3
  have HW1 := hide hW1
  have HW2 := hide hW2
  have HW3 := hide hW3
  have hz1 : W1.heap.size = w.heap.size + 1 + 1 + 1 := z1
  have hz2 : W2.heap.size = w.heap.size + 1 + 1 + 1 + 1 + 1 + 1 := z2
  have a0 := x12.cell 0
  have a1 := x12.cell 1
  have a2 := x12.cell 2
  have b0 := x2.cell 0
  have b1 := x2.cell 1
  have b2 := x2.cell 2
  clear hE hW1 hB1 s1 d1 x1 z1 hW2 hb2 s2 d2 x2 z2 x12 hB2 hW3 hb3 hB3 q3
  go_enter Tryd.func31, Tryd.ntmps31
  go_wp2_with fail
  rw [← HW1.out, ← HW2.out, ← HW3.out]
  refine HM.out.mono ?_
  rintro e w2 ⟨⟨t, rfl, hIn, -, -, hd, -⟩, hb⟩
  have hds : t.ds = [3, 6, 3] := by rw [hd]; exact cv_first _ _ _ _
  have hB3 := HB.out.trans (hb.mono HB.out.size)
  have hD := hIn.dat
  rw [hds] at hD
  have hB4 := hB3.alloc hB3.size (.cells #[.slice t.P t.zs.length t.cap, .bool t.u, .slice t.D 3 t.dcap] 26)
  have hB5 := hB4.alloc hB4.size (.cells #[.int .i64 3, .int .i64 6, .int .i64 3] 3)
  have hD5 := (hD.below ((Below.refl _ w2).alloc (Nat.le_refl _) (.cells #[.slice t.P t.zs.length t.cap, .bool t.u, .slice t.D 3 t.dcap] 26))).below ((Below.refl _ _).alloc (Nat.le_refl _) (.cells #[.int .i64 3, .int .i64 6, .int .i64 3] 3))
  have HS := hide (sameints_c [3, 6, 3] [3, 6, 3] t.D (some ⟨w2.heap.size + 1, 0, none⟩) t.dcap 3 _ hD5 (by
    have h := new_ri (w2.alloc (.cells #[.slice t.P t.zs.length t.cap, .bool t.u, .slice t.D 3 t.dcap] 26)) 3 [3, 6, 3] (by decide)
    simpa using h) (by decide) (by decide))
  rw [decide_eq_true (rfl : ([3, 6, 3] : List Int) = [3, 6, 3])] at HS
  have HB5 := hide hB5
  rw [hds]
  clear hIn hd hds hb hB3 hD hB4 hB5 hD5 HM HB HW1 HW2 HW3 a0 a1 a2 b0 b1 b2
  go_wp2_with fail
  refine HS.out.mono ?_
  rintro e w3 ⟨rfl, hb⟩
  have HF := hide (HB5.out.trans (hb.mono HB5.out.size))
  clear hb HS HB5
  go_wp2_with fail
  go_ret
  exact ⟨rfl, HF.out⟩
set_option maxRecDepth 100000 in
theorem cvinside_bad (n k s p o : Int) (w : World) (h : n < 1 ∨ k < 1 ∨ s < 1 ∨ p < 0 ∨ o < 0) :
    Calls Tryd.prog 38 #[.int .i64 n, .int .i64 k, .int .i64 s, .int .i64 p, .int .i64 o] w fun e w' => e = .returned (.tuple #[.int .i64 0, .int .i64 0]) ∧ w' = w := by
  have go : ∀ (G : Prop), G → G := fun _ h => h
  by_cases h1 : n < 1
  · clear h go
    go_enter Tryd.func38, Tryd.ntmps38
    go_wp2_with fail
    refine bodyPost_ret (results_two rfl _ _) rfl ?_
    exact ⟨rfl, rfl⟩
  by_cases h2 : k < 1
  · clear h go
    go_enter Tryd.func38, Tryd.ntmps38
    go_wp2_with fail
    refine bodyPost_ret (results_two rfl _ _) rfl ?_
    exact ⟨rfl, rfl⟩
  by_cases h3 : s < 1
  · clear h go
    go_enter Tryd.func38, Tryd.ntmps38
    go_wp2_with fail
    refine bodyPost_ret (results_two rfl _ _) rfl ?_
    exact ⟨rfl, rfl⟩
  by_cases h4 : p < 0
  · clear h go
    go_enter Tryd.func38, Tryd.ntmps38
    go_wp2_with fail
    refine bodyPost_ret (results_two rfl _ _) rfl ?_
    exact ⟨rfl, rfl⟩
  have h5 : o < 0 := by omega
  clear h go
  go_enter Tryd.func38, Tryd.ntmps38
  go_wp2_with fail
  refine bodyPost_ret (results_two rfl _ _) rfl ?_
  exact ⟨rfl, rfl⟩
theorem run_max_five (w : World) (ts : Array TypeId) (t : TypeId) (a b c d e : Int) : ∃ m, (Builtin.max_ ts t #[.int .i64 a, .int .i64 b, .int .i64 c, .int .i64 d, .int .i64 e]).run Tryd.prog w = .ok (.int .i64 m) w ∧ ∀ B, a ≤ B → b ≤ B → c ≤ B → d ≤ B → e ≤ B → m ≤ B := by
  have h : ∀ x y B : Int, x ≤ B → y ≤ B → (if y > x then y else x) ≤ B := fun x y B h1 h2 => by split <;> assumption
  refine ⟨if e > (if d > (if c > (if b > a then b else a) then c else (if b > a then b else a)) then d else (if c > (if b > a then b else a) then c else (if b > a then b else a))) then e else (if d > (if c > (if b > a then b else a) then c else (if b > a then b else a)) then d else (if c > (if b > a then b else a) then c else (if b > a then b else a))), by simp [Builtin.max_, Builtin.max2], fun B h1 h2 h3 h4 h5 => ?_⟩
  exact h _ _ B (h _ _ B (h _ _ B (h _ _ B h1 h2) h3) h4) h5
set_option maxRecDepth 100000 in
theorem cvinside_good (n k s p o : Int) (w : World) (h1 : 1 ≤ n ∧ n ≤ 40) (h2 : 1 ≤ k ∧ k ≤ 40) (h3 : 1 ≤ s ∧ s ≤ 40) (h4 : 0 ≤ p ∧ p ≤ 40) (h5 : 0 ≤ o ∧ o ≤ 40) :
    Calls Tryd.prog 38 #[.int .i64 n, .int .i64 k, .int .i64 s, .int .i64 p, .int .i64 o] w fun e w' => e = .returned (.tuple #[.int .i64 (Cv.ins n k s p o).1, .int .i64 (Cv.ins n k s p o).2]) ∧ w' = w := by
  have hos : 0 ≤ o * s ∧ o * s ≤ 1600 := by
    have e1 := Int.mul_nonneg h5.1 (show 0 ≤ s by omega)
    have e2 : o * s ≤ 40 * 40 := Int.mul_le_mul h5.2 h3.2 (by omega) (by omega)
    omega
  have HC := hide (fun W => inside_c n k s p o W (by omega) (by omega) (by omega))
  obtain ⟨m, hm, hmb⟩ := run_max_five w #[3, 3, 3, 3, 3] 3 n k s p o
  have hm40 := hmb 40 (by omega) (by omega) (by omega) (by omega) (by omega)
  clear hos hmb
  go_enter Tryd.func38, Tryd.ntmps38
  go_wp2_with fail
  refine (HC.out _).mono ?_
  rintro e w9 ⟨rfl, rfl⟩
  go_wp2_with fail
  refine bodyPost_ret (results_two rfl _ _) rfl ?_
  exact ⟨rfl, rfl⟩
end Go.Proofs.YtkehdgjdieemkaaDoor
