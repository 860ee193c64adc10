/-
  conv.look, walked. conv.Do, walked. Convolutions that are lawful; the examples of package lodgelaw9; conv.Inside. conv.Cell, walked. lodgesee.Same and Is, walked. lodgeref3.Apply of any operation, given what Result and element of it answer. lodgeref3.Element of any operation, given what Result and element of it answer. lodgesee.Same of faults with a place, of what functions of tensors tell (texts of ten K, O for a seat of another layer); lodgesee.Is of what they tell. lodgeref3.Apply and Element of MatMul, Apply of Turn. lodgeref3.ConvResult, walked. lodgeref3.Result of Conv; element of Conv, given what conv answers. lodgeref3.conv, walked: an element of a convolution. The law ConvSays, walked. By an AI agent. No person has read it.
-/
import Derived.Test.YtkehdgjdieemkaaDoorMatD
import Derived.Test.YtkehdgjdieemkaaDoorCnvC
import Derived.Test.YtkehdgjdieemkaaDoorCelD
import Derived.Test.YtkehdgjdieemkaaDoorCelI
import Derived.Test.YtkehdgjdieemkaaDoorErrC
import Derived.RegionTactic
import Derived.Test.YtkehdgjdieemkaaDoorRefE
import Derived.Test.YtkehdgjdieemkaaDoorElmS
import Derived.Test.YtkehdgjdieemkaaDoorCelC
namespace Go.Proofs.YtkehdgjdieemkaaDoor
open Go.RowKit

set_option maxRecDepth 100000 in
set_option maxHeartbeats 8000000 in
theorem cvlook_c (qs : List Int) (A : Option Addr) (qcap : Nat) (a b : Ten) (ah am ar : Addr) (w : World) (hq : Ri w A qs) (hql : qs.length ≤ 1000000) (ha : a.In w) (hb : b.In w) (hE : E3 w ah am ar) :
    Calls Tryd.prog 62 #[.slice A qs.length qcap, .agg (tcells a.P a.zs.length a.cap a.u a.D a.ds.length a.dcap), .agg (tcells b.P b.zs.length b.cap b.u b.D b.ds.length b.dcap)] w
      (LookE w ah am ar [a, b] (Cv.shape qs a.look b.look) (Cv.kind qs a.look b.look) (Cv.code qs a.look b.look)) := by
  obtain ⟨W0, hW0⟩ : ∃ W, W = ((((w.alloc (.cells a.vals.toArray 26)).alloc (.cells b.vals.toArray 26)).alloc (.cells #[.slice none 0 0, .bool false] 24)).alloc (.cells ([a, b].flatMap Ten.vals).toArray 26)) := ⟨_, rfl⟩
  have HZ : Hid (Has W0 (w.heap.size + 2) 24 [.slice none 0 0, .bool false]) := hide (by rw [hW0]; exact (box_at _ _ _ _ (by simp)).alloc _)
  have HS : Hid (Has W0 (w.heap.size + 3) 26 ([a, b].flatMap Ten.vals)) := hide (by rw [hW0]; exact box_at _ _ _ _ (by simp))
  have HB0 : Hid (Below w.heap.size w W0) := hide (by rw [hW0]; exact ((((Below.refl _ _).alloc (Nat.le_refl _) _).alloc (by simp) _).alloc (by simp; omega) _).alloc (by simp; omega) _)
  have HV := hide (looks_c [a, b] (some ⟨w.heap.size + 3, 0, none⟩) 2 ah am ar W0 HS.out.row (fun t ht => by
    simp at ht
    rcases ht with rfl | rfl
    · exact ha.below HB0.out
    · exact hb.below HB0.out) (by simp) (hE.below HB0.out))
  have HRe := hide (fun W (h : Below w.heap.size w W) => cresult_c qs A qcap a.look b.look ah am ar W (hq.below h) hql (ha.look.below h) (hb.look.below h) (hE.below h))
  have HF0 := hide (fun h : Tens.first [a, b] ≠ (0, none) => Cel.fault_first (k := Cv.code qs a.look b.look) h)
  have HF1 := hide (fun h : Tens.first [a, b] = (0, none) => Cel.fault_code (k := Cv.code qs a.look b.look) h)
  have hfc := Tens.first_cases [a, b]
  have HK := hide (fun h : Cv.code qs a.look b.look ≠ 0 => Cv.bad h)
  obtain ⟨K, hK⟩ : ∃ k, Hid (Cv.code qs a.look b.look = k) := ⟨_, hide rfl⟩
  obtain ⟨sh, hsh⟩ : ∃ k, Hid (Cv.shape qs a.look b.look = k) := ⟨_, hide rfl⟩
  obtain ⟨kd, hkd⟩ : ∃ k, Hid (Cv.kind qs a.look b.look = k) := ⟨_, hide rfl⟩
  obtain ⟨R, hR⟩ : ∃ k, Hid (Tens.first [a, b] = k) := ⟨_, hide rfl⟩
  rw [hK.out, hsh.out, hkd.out] at HRe HK
  rw [hK.out, hR.out] at HF0 HF1
  rw [hR.out] at hfc HV
  rw [hK.out, hsh.out, hkd.out]
  have HL := hide (And.intro ha.ls hb.ls)
  have HW := hide hW0
  unfold Ten.vals at HW
  simp only [List.flatMap_cons, List.flatMap_nil, List.append_nil, List.cons_append, List.nil_append] at HW
  clear hq hql ha hb hE hW0 hK hsh hkd HS
  go_enter Tryd.func62, Tryd.ntmps62
  go_wp2_with fail
  rw [← HW.out]
  clear HW
  refine HV.out.mono ?_
  rintro e w1 ⟨⟨v, x, rfl, h1, h2⟩, hb⟩
  have hz0l := HZ.out.lt
  replace HZ := hide (HZ.out.below hb HZ.out.lt)
  have HB1 := hide (HB0.out.trans (hb.mono HB0.out.size))
  have hsz0 := HB0.out.size
  clear hb HV HB0
  by_cases hf : R = (0, none)
  case neg =>
    obtain ⟨rfl, hx⟩ := h2 hf
    have hE := hx.errv hfc hf
    have hF := HF0.out hf
    have hor : ∀ {α : Type} (p q : α), Cel.or [a, b] K p q = q := fun p q => by
      unfold Cel.or
      rw [hF, if_neg hf]
    have HO1 := hide (hor sh [])
    have HO2 := hide (hor kd false)
    have HFq := hide hF
    obtain ⟨z0, z1, zf0, zf1, HZf, HFf⟩ := elm_two HZ.out HB1.out (Nat.le_add_right _ 2) (.slice none 0 0) (.bool false)
    have HXX := hide (hx.fart2 HZ.out (by decide) (.slice none 0 0) (.bool false))
    have r1 := run_neqerr hE
    have r2 := run_neqguard hE
    clear h1 h2 hf hx hfc hE hF hor HRe HF0 HF1 HK
    go_wp2_with fail
    refine bodyPost_ret (results_desc rfl _ _ (w.heap.size + 2) _ _ rfl HZf.out) rfl ?_
    refine ⟨⟨⟨none, [], 0, false⟩, x, rfl, ⟨Ri.nil _ _, by simp⟩, (fun ad h => by cases h), HO1.out.symm, HO2.out.symm, ?_⟩, HFf.out⟩
    rw [HFq.out]
    exact HXX.out
  case pos =>
    obtain ⟨rfl, hown⟩ := h1 hf
    obtain ⟨C, c, rfl, hrow, hCb⟩ := own_row2 hown
    have hrow2 : Row w1 C ([a.look, b.look].flatMap Dsc.vals) := hrow
    obtain ⟨ad, rfl, hadl, c0, c1, c2, c3⟩ := rowd_two hrow2
    have hadb := hCb ad rfl
    have hF := HF1.out hf
    have HFq := hide hF
    have hS0 : LkS ad (.slice a.P a.zs.length a.cap) (.bool a.u) (.slice b.P b.zs.length b.cap) (.bool b.u) w1.drew := ⟨c0, c1, c2, c3⟩
    have HBd := hide (show Below w.heap.size w w1.drew from HB1.out.drew)
    have HZd := hide (HZ.out.drewN 1)
    have hne : w.heap.size + 2 ≠ ad.block := by omega
    have hzl : w.heap.size + 2 < w1.heap.size := HZ.out.lt
    clear h1 h2 hown hrow hrow2 hCb c0 c1 c2 c3 hf hF hfc HF0 HF1
    go_wp2_with fail
    go_region_held3 (fun W => W.cell? ad = some (.slice a.P a.zs.length a.cap) ∧ W.cell? ⟨ad.block, ad.off + 1, none⟩ = some (.bool a.u) ∧ W.cell? ⟨ad.block, ad.off + 2, none⟩ = some (.slice b.P b.zs.length b.cap) ∧ W.cell? ⟨ad.block, ad.off + 3, none⟩ = some (.bool b.u))
      (first | exact hS0 | assumption | exact hS9.out | exact hS8.out)
      (first
        | (go_at_call 33; refine (HRe.out _ HBd.out).mono ?_; rintro e W2 ⟨⟨d, rfl, hdi, hdf, hdz, hdu⟩, hb⟩; have hS8 := hide (LkS.keep hS0 hadl hb); have hB2 := HBd.out.trans (hb.mono HBd.out.size); have hZ2 := HZd.out.below hb HZd.out.lt; obtain ⟨z0, z1, zf0, zf1, HZf, HFf⟩ := elm_two hZ2 hB2 (Nat.le_add_right _ 2) (.slice d.P d.zs.length d.cap) (.bool d.u); have hS9 := hide (LkS.far2 hS8.out hne (.slice d.P d.zs.length d.cap) (.bool d.u)); have HDI := hide (hdi.far2 (b := w.heap.size + 2) hdf (by have : w1.drew.heap.size = w1.heap.size := rfl; omega) (.slice d.P d.zs.length d.cap) (.bool d.u)); have HDF := hide (hdf.le (m := w.heap.size + 1) (by have : w1.drew.heap.size = w1.heap.size := rfl; omega)); have HDZ := hide hdz; have HDU := hide hdu; clear hb hdi hdf hdz hdu hB2 hZ2))
    go_wp2_with fail
    refine bodyPost_ret (results_desc rfl _ _ (w.heap.size + 2) _ _ rfl HZf.out) rfl ?_
    refine ⟨⟨d, _, rfl, HDI.out, HDF.out, ?_, ?_, ?_⟩, HFf.out⟩
    · unfold Cel.or
      rw [HFq.out, HDZ.out]
      by_cases h : K = 0
      · rw [if_pos (by rw [h])]
      · rw [if_neg (fun hh => h (congrArg Prod.fst hh)), (HK.out h).1]
    · unfold Cel.or
      rw [HFq.out, HDU.out]
      by_cases h : K = 0
      · rw [if_pos (by rw [h])]
      · rw [if_neg (fun hh => h (congrArg Prod.fst hh)), (HK.out h).2]
    · rw [HFq.out]
      exact TErr.code K
set_option maxRecDepth 100000 in
set_option maxHeartbeats 8000000 in
theorem fill_conv (H : World → Prop) (a b : Ten) (s p za : Int) (A B : Option Addr) (qcap bcap ocap f n : Nat) (g : Option Addr) (w : World) (hQ : Ri w A [s, p, za]) (hR : Row w B ([a, b].flatMap Ten.vals))
    (hV : Calls Tryd.prog 96 #[.slice g n ocap, .int .i64 f, .agg (tcells a.P a.zs.length a.cap a.u a.D a.ds.length a.dcap), .agg (tcells b.P b.zs.length b.cap b.u b.D b.ds.length b.dcap), .int .i64 s, .int .i64 p, .int .i64 za] w.drew fun e w' => e = .returned (.tuple #[]) ∧ H w') :
    Calls Tryd.prog 87 #[.slice g n ocap, .int .i64 f, .int .i64 13, .slice A 3 qcap, .slice B 2 bcap] w fun e w' => e = .returned (.tuple #[]) ∧ H w' := by
  obtain ⟨ad, rfl, -, c0, c1, c2, c3, c4, c5⟩ := row_two hR
  obtain ⟨aq, rfl, -, q0, q1, q2⟩ := ri_three hQ
  have V := hide hV
  clear hR hV hQ
  go_enter Tryd.func87, Tryd.ntmps87
  go_wp2_with fail
  go_still_tail 17, (by kernel_rfl)
  change wpList _ _ _ _ _ w.drew
  go_wp2_with fail
  refine V.out.mono ?_
  rintro e w1 ⟨rfl, h1⟩
  go_wp2_with fail
  refine bodyPost_end (results_none rfl _ _ _) rfl ?_
  exact ⟨rfl, h1⟩

theorem Cv.reach_nat (n k s p : Nat) (h : k ≤ n + 2 * p) : Cv.reach n k s p = (((n + 2 * p - k) / s + 1 : Nat) : Int) := by
  unfold Cv.reach
  rw [Int.natCast_add, Int.natCast_ediv, Int.natCast_sub h]
  simp
/-- The sizes, read off. -/
def Cv.of (qs : List Int) (a b : Ten) : Cv := ⟨(a.zs.getD 0 0).toNat, (a.zs.getD 1 0).toNat, (a.zs.getD 2 0).toNat, (b.zs.getD 0 0).toNat, (b.zs.getD 1 0).toNat, (b.zs.getD 3 0).toNat, (qs.getD 0 0).toNat, (qs.getD 1 0).toNat, qs.getD 2 0⟩
/-- The numbers of a convolution. -/
def Cv.ds (qs : List Int) (a b : Ten) : List Int := (Cv.of qs a b).part a.ds b.ds 0 ((Cv.of qs a b).oh * (Cv.of qs a b).ow * (Cv.of qs a b).N)
/-- An element of it; 0 of a place that is none. -/
def Cv.at (qs : List Int) (a b : Ten) (i : Int) : Int := (if 0 ≤ i then (Cv.ds qs a b).getD i.toNat 0 else 0)
structure Cv.Fine (qs : List Int) (a b : Ten) (c : Cv) : Prop where
  qz : qs = [(c.s : Int), (c.p : Int), c.za]
  az : a.zs = [(c.H : Int), (c.W : Int), (c.C : Int)]
  bz : b.zs = [(c.KH : Int), (c.KW : Int), (c.C : Int), (c.N : Int)]
  ok : c.Ok
  al : a.ds.length = c.H * c.W * c.C
  bl : b.ds.length = c.KH * c.KW * c.C * c.N
  mn : c.oh * c.ow * c.N ≤ 16384
  sa : Mat.small a.ds
  sb : Mat.small b.ds
  cd : Shp.code [(c.oh : Int), (c.ow : Int), (c.N : Int)] = 0
  sh : Cv.shape qs a.look b.look = [(c.oh : Int), (c.ow : Int), (c.N : Int)]
  kd : Cv.kind qs a.look b.look = true
  ds : Cv.ds qs a b = c.part a.ds b.ds 0 (c.oh * c.ow * c.N)
theorem Cv.prod3 (x y z : Nat) : Shp.prod [(x : Int), (y : Int), (z : Int)] = ((x * y * z : Nat) : Int) := by
  simp [Shp.prod, Int.mul_assoc]
theorem Cv.prod4 (x y z v : Nat) : Shp.prod [(x : Int), (y : Int), (z : Int), (v : Int)] = ((x * y * z * v : Nat) : Int) := by
  simp [Shp.prod, Int.mul_assoc]
theorem Cv.fine {qs : List Int} {a b : Ten} (h : Cel.fault [a, b] (Cv.code qs a.look b.look) = (0, none)) : ∃ c : Cv, Cv.Fine qs a b c := by
  obtain ⟨h1, h2⟩ := Cel.fine h
  have hfa := Tens.whole (Tens.first_fine _ h1 a (by simp))
  have hfb := Tens.whole (Tens.first_fine _ h1 b (by simp))
  have hwa := Shp.whole hfa.1
  have hwb := Shp.whole hfb.1
  have hc := h2
  unfold Cv.code at h2
  split at h2
  · cases h2
  rename_i h3
  split at h2
  · rename_i h4
    exact absurd h2 h4
  split at h2
  · cases h2
  rename_i h4
  split at h2
  · cases h2
  rename_i h5
  split at h2
  · cases h2
  rename_i h6
  have hua : a.u = false := by
    cases e : a.u
    · rfl
    · exact absurd (.inl e) h4
  have hub : b.u = false := by
    cases e : b.u
    · rfl
    · exact absurd (.inr (.inl e)) h4
  have hql : qs.length = 3 := Classical.byContradiction fun e => h3 e
  have hal : a.zs.length = 3 := Classical.byContradiction fun e => h4 (.inr (.inr (.inl e)))
  have hbl : b.zs.length = 4 := Classical.byContradiction fun e => h4 (.inr (.inr (.inr (.inl e))))
  have hk : b.zs.getD 2 0 = a.zs.getD 2 0 := Classical.byContradiction fun e => h4 (.inr (.inr (.inr (.inr e))))
  obtain ⟨q0, q1, q2, hq⟩ : ∃ x y z, qs = [x, y, z] := by
    match h : qs, hql with
    | [x, y, z], _ => exact ⟨x, y, z, rfl⟩
  obtain ⟨x0, x1, x2, hx⟩ : ∃ x y z, a.zs = [x, y, z] := by
    match h : a.zs, hal with
    | [x, y, z], _ => exact ⟨x, y, z, rfl⟩
  obtain ⟨y0, y1, y2, y3, hy⟩ : ∃ x y z v, b.zs = [x, y, z, v] := by
    match h : b.zs, hbl with
    | [x, y, z, v], _ => exact ⟨x, y, z, v, rfl⟩
  have hx' : a.look.zs = [x0, x1, x2] := hx
  have hy' : b.look.zs = [y0, y1, y2, y3] := hy
  rw [hx, hy] at hk
  obtain rfl : y2 = x2 := hk
  subst hq
  rw [hx', hy'] at h6
  have hs1 : ¬ q0 < 1 := fun h => h5 (.inl h)
  have hs2 : ¬ q0 > 16 := fun h => h5 (.inr (.inl h))
  have hp1 : ¬ q1 < 0 := fun h => h5 (.inr (.inr (.inl h)))
  have hp2 : ¬ q1 > 15 := fun h => h5 (.inr (.inr (.inr (.inl h))))
  have hzz : Tens.narrow q2 = q2 := Classical.byContradiction fun h => h5 (.inr (.inr (.inr (.inr h))))
  have hk0 : ¬ y0 > x0 + 2 * q1 := fun h => h6 (.inl h)
  have hk1 : ¬ y1 > x1 + 2 * q1 := fun h => h6 (.inr h)
  rw [hx] at hfa hwa
  rw [hy] at hfb hwb
  have d0 := hwa.2.1 x0 (by simp)
  have d1 := hwa.2.1 x1 (by simp)
  have d2 := hwa.2.1 y2 (by simp)
  have g0 := hwb.2.1 y0 (by simp)
  have g1 := hwb.2.1 y1 (by simp)
  have g3 := hwb.2.1 y3 (by simp)
  obtain ⟨H, rfl⟩ : ∃ n : Nat, x0 = n := ⟨x0.toNat, by omega⟩
  obtain ⟨W, rfl⟩ : ∃ n : Nat, x1 = n := ⟨x1.toNat, by omega⟩
  obtain ⟨C, rfl⟩ : ∃ n : Nat, y2 = n := ⟨y2.toNat, by omega⟩
  obtain ⟨U, rfl⟩ : ∃ n : Nat, y0 = n := ⟨y0.toNat, by omega⟩
  obtain ⟨V, rfl⟩ : ∃ n : Nat, y1 = n := ⟨y1.toNat, by omega⟩
  obtain ⟨N, rfl⟩ : ∃ n : Nat, y3 = n := ⟨y3.toNat, by omega⟩
  obtain ⟨s, rfl⟩ : ∃ n : Nat, q0 = n := ⟨q0.toNat, by omega⟩
  obtain ⟨p, rfl⟩ : ∃ n : Nat, q1 = n := ⟨q1.toNat, by omega⟩
  have hdm : Cv.dims [(s : Int), (p : Int), q2] a.look b.look = [(((H + 2 * p - U) / s + 1 : Nat) : Int), (((W + 2 * p - V) / s + 1 : Nat) : Int), (N : Int)] := by
    unfold Cv.dims
    rw [hx', hy', ← Cv.reach_nat H U s p (by omega), ← Cv.reach_nat W V s p (by omega)]
    rfl
  rw [hdm] at h2
  have hwp := (Shp.whole h2).2.2.2.2
  have hpa := hwa.2.2.2.2
  have hpb := hwb.2.2.2.2
  rw [Cv.prod3] at hwp hpa hfa
  rw [Cv.prod4] at hpb hfb
  have hsh : Cv.shape [(s : Int), (p : Int), q2] a.look b.look = [(((H + 2 * p - U) / s + 1 : Nat) : Int), (((W + 2 * p - V) / s + 1 : Nat) : Int), (N : Int)] := by
    unfold Cv.shape
    rw [if_pos hc, hdm]
  refine ⟨⟨H, W, C, U, V, N, s, p, q2⟩, ⟨rfl, hx, hy, ?_, Int.ofNat.inj hfa.2.1, Int.ofNat.inj hfb.2.1, Int.ofNat_le.1 hwp, fun z hz => fit_narrow hua (hfa.2.2 z hz), fun z hz => fit_narrow hub (hfb.2.2 z hz), h2, hsh, decide_eq_true hc, ?_⟩⟩
  · have hw := Int.ofNat_le.1 hwp
    have ha := Int.ofNat_le.1 hpa
    have hb := Int.ofNat_le.1 hpb
    exact ⟨by show 1 ≤ s; omega, by show s ≤ 16; omega, by show p ≤ 15; omega, by show 1 ≤ U; omega, by show 1 ≤ V; omega, by show U ≤ H + 2 * p; omega, by show V ≤ W + 2 * p; omega, by show 1 ≤ N; omega, by show 1 ≤ C; omega, by show H ≤ 1000000; omega, by show W ≤ 1000000; omega, Nat.le_trans ha (by decide), Nat.le_trans hb (by decide), Nat.le_trans hw (by decide), narrow_self hzz⟩
  · unfold Cv.ds Cv.of
    rw [hx, hy]
    rfl
/-- cells.Of a convolution, from a place on, so many. -/
theorem cvof_c (qs : List Int) (a b : Ten) (c : Cv) (hf : Cv.Fine qs a b c) (A B : Option Addr) (qcap bcap f n : Nat) (w : World) (hQ : Ri w A qs) (hR : Row w B ([a, b].flatMap Ten.vals)) (ha : a.In w) (hb : b.In w) (hn : f + n ≤ c.oh * c.ow * c.N) :
    Calls Tryd.prog 70 #[.int .i64 13, .slice A 3 qcap, .int .i64 f, .int .i64 ((f + n : Nat) : Int), .slice B 2 bcap] w fun e w' => (∃ g, e = .returned (.slice (some ⟨g, 0, none⟩) n n) ∧ w.heap.size ≤ g ∧ Has w' g 3 (i64s (c.part a.ds b.ds f n))) ∧ Below w.heap.size w w' := by
  have hmn := hf.mn
  refine of_any (c.part a.ds b.ds f n) 13 A B 3 qcap 2 bcap f n w (by omega) fun W g hB hg hG => ?_
  have hQ2 := hQ
  rw [hf.qz] at hQ2
  refine fill_conv _ a b c.s c.p c.za A B qcap bcap n f n (some ⟨g, 0, none⟩) W (hQ2.below hB) (hR.below hB) ?_
  have h := conv_c (List.replicate n 0) a b c n f g w W.drew hf.ok hf.az hf.bz hf.al hf.bl ha hb hf.sa hf.sb hB.drew hg (hG.drewN 1) (by rw [List.length_replicate]; exact hn)
  rw [List.length_replicate] at h
  exact h
theorem Cv.part_wf (c : Cv) (xs ks : List Int) (f m : Nat) : ∀ z ∈ c.part xs ks f m, (Lit.int .i64 z).wf = true := by
  intro z hz
  unfold Cv.part at hz
  obtain ⟨i, -, rfl⟩ := List.mem_map.1 hz
  exact wide_wf _
/-- cells.All of a convolution. -/
theorem cvall_c (qs : List Int) (a b : Ten) (c : Cv) (hf : Cv.Fine qs a b c) (P : Option Addr) (cap : Nat) (u : Bool) (A B : Option Addr) (qcap bcap : Nat) (am ar : Addr) (w : World) (hr : Ri w P [(c.oh : Int), (c.ow : Int), (c.N : Int)]) (hE : E2 w am ar) (hQ : Ri w A qs) (hR : Row w B ([a, b].flatMap Ten.vals)) (ha : a.In w) (hb : b.In w) :
    Calls Tryd.prog 43 #[.agg (dcells P 3 cap u), .int .i64 13, .slice A 3 qcap, .slice B 2 bcap] w fun e w' => (∃ g, e = .returned (.agg (tcells P 3 cap u (some ⟨g, 0, none⟩) (c.oh * c.ow * c.N) (c.oh * c.ow * c.N))) ∧ w.heap.size < g ∧ Has w' g 3 (i64s (c.part a.ds b.ds 0 (c.oh * c.ow * c.N)))) ∧ Below w.heap.size w w' := by
  have hpe : ((c.part a.ds b.ds 0 (c.oh * c.ow * c.N)).length : Int) = Shp.elems [(c.oh : Int), (c.ow : Int), (c.N : Int)] := by
    rw [(Shp.whole hf.cd).2.2.1, Cv.part_length, Cv.prod3]
  have h := all_c [(c.oh : Int), (c.ow : Int), (c.N : Int)] (c.part a.ds b.ds 0 (c.oh * c.ow * c.N)) P cap u 13 A B 3 qcap 2 bcap am ar w hr (by show 3 ≤ 1000000; omega) hE hpe fun W hB => by
    have h := cvof_c qs a b c hf A B qcap bcap 0 (c.oh * c.ow * c.N) W (hQ.below hB) (hR.below hB) (ha.below hB) (hb.below hB) (by omega)
    rw [Nat.zero_add] at h
    rw [Cv.part_length]
    exact h
  rw [Cv.part_length] at h
  exact h
set_option maxRecDepth 100000 in
set_option maxHeartbeats 8000000 in
theorem cvdo_c (qs : List Int) (A : Option Addr) (qcap : Nat) (a b : Ten) (ah am ar : Addr) (w : World) (hq : Ri w A qs) (hql : qs.length ≤ 1000000) (ha : a.In w) (hb : b.In w) (hE : E3 w ah am ar) :
    Calls Tryd.prog 32 #[.agg (tcells a.P a.zs.length a.cap a.u a.D a.ds.length a.dcap), .agg (tcells b.P b.zs.length b.cap b.u b.D b.ds.length b.dcap), .slice A qs.length qcap] w
      (TenE w ah am ar (Cel.fault [a, b] (Cv.code qs a.look b.look)) (Cv.shape qs a.look b.look) (Cv.kind qs a.look b.look) (Cv.ds qs a b)) := by
  obtain ⟨W0, hW0⟩ : ∃ W, W = (((w.alloc (.cells a.vals.toArray 26)).alloc (.cells b.vals.toArray 26)).alloc (.cells #[.slice none 0 0, .bool false, .slice none 0 0] 26)) := ⟨_, rfl⟩
  have HA : Hid (Has W0 w.heap.size 26 a.vals) := hide (by rw [hW0]; exact ((Has.new w 26 a.vals).alloc _).alloc _)
  have HB : Hid (Has W0 (w.heap.size + 1) 26 b.vals) := hide (by rw [hW0]; exact (box_at _ _ _ _ (by simp)).alloc _)
  have HZ : Hid (Has W0 (w.heap.size + 2) 26 [.slice none 0 0, .bool false, .slice none 0 0]) := hide (by rw [hW0]; exact box_at _ _ _ _ (by simp))
  have HB0 : Hid (Below w.heap.size w W0) := hide (by rw [hW0]; exact (((Below.refl _ _).alloc (Nat.le_refl _) _).alloc (by simp) _).alloc (by simp; omega) _)
  have HV := hide (cvlook_c qs A qcap a b ah am ar W0 (hq.below HB0.out) hql (ha.below HB0.out) (hb.below HB0.out) (hE.below HB0.out))
  have HIa := hide (fun W (h : Below w.heap.size w W) => ha.below h)
  have HIb := hide (fun W (h : Below w.heap.size w W) => hb.below h)
  have HE2 := hide (fun W (h : Below w.heap.size w W) => hE.2.below h)
  have HFi := hide (fun h : Cel.fault [a, b] (Cv.code qs a.look b.look) = (0, none) => Cv.fine h)
  have hfc := Cel.fault_cases (ts := [a, b]) (Cv.code_known qs a.look b.look)
  have HW := hide hW0
  have HQ := hide (fun W (h : Below w.heap.size w W) => hq.below h)
  unfold Ten.vals at HW
  clear ha hb hE hW0 hq hql
  go_enter Tryd.func32, Tryd.ntmps32
  go_wp2_with fail
  rw [← HW.out]
  clear HW
  refine HV.out.mono ?_
  rintro e w1 ⟨⟨d, x, rfl, hdi, hdf, hdz, hdu, hx⟩, hb⟩
  have hz0l := HZ.out.lt
  have hsz0 := hb.size
  replace HZ := hide (HZ.out.below hb HZ.out.lt)
  replace HA := hide (HA.out.below hb HA.out.lt)
  replace HB := hide (HB.out.below hb HB.out.lt)
  have HB1 := hide (HB0.out.trans (hb.mono HB0.out.size))
  clear hb HV HB0
  have hdx := HZ.out.alloc (.cells #[.slice d.P d.zs.length d.cap, .bool d.u] 24)
  have hbx := HB1.out.alloc HB1.out.size (.cells #[.slice d.P d.zs.length d.cap, .bool d.u] 24)
  by_cases hf : Cel.fault [a, b] (Cv.code qs a.look b.look) = (0, none)
  case neg =>
    have hE := hx.errv hfc hf
    obtain ⟨z0, z1, z2, zf0, zf1, zf2, HZf, HFf⟩ := elm_three hdx hbx (Nat.le_add_right _ 2) (.slice none 0 0) (.bool false) (.slice none 0 0)
    have HXX := hide ((hx.down ((Below.refl _ _).alloc (Nat.le_refl _) (.cells #[.slice d.P d.zs.length d.cap, .bool d.u] 24))).fart3 hdx (by decide) (.slice none 0 0) (.bool false) (.slice none 0 0))
    have r1 := run_neqerr hE
    have r2 := run_neqguard hE
    have HN := hide hf
    clear hdi hdf hdz hdu hx hdx hbx hf hfc hE HFi HIa HIb HE2 HQ HA HB
    go_wp2_with fail
    refine bodyPost_ret (results_tn rfl _ _ (w.heap.size + 2) _ _ _ rfl HZf.out) rfl ?_
    exact TenE.bad rfl HN.out HXX.out HFf.out
  case pos =>
    obtain ⟨c, hfi⟩ := HFi.out hf
    have hor : ∀ {α : Type} (p q : α), Cel.or [a, b] (Cv.code qs a.look b.look) p q = p := fun p q => by
      unfold Cel.or
      rw [if_pos hf]
    rw [hor, hfi.sh] at hdz
    rw [hor, hfi.kd] at hdu
    rw [hf] at hx
    obtain rfl : x = .nilIface := hx
    have HN := hide hf
    have HFI := hide hfi
    have hdzl : d.zs.length = 3 := by rw [hdz]; rfl
    have hri := hdi.shp
    rw [hdz] at hri
    rw [hdzl, hdu] at hdx hbx ⊢
    have hql3 : qs.length = 3 := by rw [hfi.qz]; rfl
    rw [hql3]
    obtain ⟨W2, hW2⟩ : ∃ W, W = (w1.alloc (.cells #[.slice d.P 3 d.cap, .bool true] 24)).alloc (.cells ([a, b].flatMap Ten.vals).toArray 26) := ⟨_, rfl⟩
    have hb2 : Below w1.heap.size w1 W2 := by rw [hW2]; exact ((Below.refl _ _).alloc (Nat.le_refl _) _).alloc (by simp) _
    have hT2 : Has W2 (w1.heap.size + 1) 26 ([a, b].flatMap Ten.vals) := by rw [hW2]; exact box_at _ _ _ _ (by simp)
    have hB2 := HB1.out.trans (hb2.mono HB1.out.size)
    have HAl := hide (cvall_c qs a b c hfi d.P d.cap true A (some ⟨w1.heap.size + 1, 0, none⟩) qcap 2 am ar W2 (hri.below hb2) (HE2.out _ hB2) (HQ.out _ hB2) hT2.row (HIa.out _ hB2) (HIb.out _ hB2))
    have HZ2 := hide (HZ.out.below hb2 HZ.out.lt)
    have HB2 := hide hB2
    have HRI := hide (hri.below hb2)
    have HDF := hide hdf
    have HW2 := hide hW2
    have HWS : Hid (w1.heap.size ≤ W2.heap.size) := hide hb2.size
    unfold Ten.vals at HA HB HW2
    simp only [List.flatMap_cons, List.flatMap_nil, List.append_nil, List.cons_append, List.nil_append] at HW2
    have a0 := HA.out.cell 0
    have a1 := HA.out.cell 1
    have a2 := HA.out.cell 2
    have b0 := HB.out.cell 0
    have b1 := HB.out.cell 1
    have b2 := HB.out.cell 2
    have hal := HA.out.lt
    have hbl := HB.out.lt
    clear hdi hdf hdz hdx hbx hf hfc hfi hri hW2 hb2 hT2 hB2 hql3 HFi HIa HIb HE2 HQ hor hdzl hdu HZ HB1 HA HB
    go_wp2_with fail
    rw [← HW2.out]
    clear HW2 a0 a1 a2 b0 b1 b2
    refine HAl.out.mono ?_
    rintro e w3 ⟨⟨g, rfl, hg, hG⟩, hb⟩
    have hZ3 := HZ2.out.below hb HZ2.out.lt
    have hB3 := HB2.out.trans (hb.mono HB2.out.size)
    have hR3 := HRI.out.below hb
    obtain ⟨z0, z1, z2, zf0, zf1, zf2, HZf, HFf⟩ := elm_three hZ3 hB3 (Nat.le_add_right _ 2) (.slice d.P 3 d.cap) (.bool true) (.slice (some ⟨g, 0, none⟩) (c.oh * c.ow * c.N) (c.oh * c.ow * c.N))
    have hdfr := HDF.out
    have hws := HWS.out
    have hmn := HFI.out.mn
    have ht : Ten.In w3 ⟨d.P, [(c.oh : Int), (c.ow : Int), (c.N : Int)], d.cap, true, some ⟨g, 0, none⟩, c.part a.ds b.ds 0 (c.oh * c.ow * c.N), c.oh * c.ow * c.N⟩ := ⟨hR3, hG.ri (Cv.part_wf _ _ _ _ _), by show 3 ≤ 1000000; omega, by rw [Cv.part_length]; omega⟩
    have htf : Ten.Fresh (w.heap.size + 2 + 1) ⟨d.P, [(c.oh : Int), (c.ow : Int), (c.N : Int)], d.cap, true, some ⟨g, 0, none⟩, c.part a.ds b.ds 0 (c.oh * c.ow * c.N), c.oh * c.ow * c.N⟩ := ⟨fun ad h => by have := hdfr ad h; omega, fun ad h => by cases h; show w.heap.size + 2 + 1 ≤ g; omega⟩
    have HT := hide (ht.far3 htf (.slice d.P 3 d.cap) (.bool true) (.slice (some ⟨g, 0, none⟩) (c.oh * c.ow * c.N) (c.oh * c.ow * c.N)))
    have HTF := hide (htf.le (m := w.heap.size + 1) (by omega))
    have HGf := hide (((hG.far (p := ⟨w.heap.size + 2, 0, none⟩) (by simp; omega) (.slice d.P 3 d.cap)).far (p := ⟨w.heap.size + 2, 1, none⟩) (by simp; omega) (.bool true)).far (p := ⟨w.heap.size + 2, 2, none⟩) (by simp; omega) (.slice (some ⟨g, 0, none⟩) (c.oh * c.ow * c.N) (c.oh * c.ow * c.N)))
    clear HAl hb hZ3 hB3 hR3 hG hdfr hws hmn ht htf
    go_wp2_with fail
    refine bodyPost_ret (results_tn rfl _ _ (w.heap.size + 2) _ _ _ rfl HZf.out) rfl ?_
    refine ⟨⟨⟨d.P, [(c.oh : Int), (c.ow : Int), (c.N : Int)], d.cap, true, some ⟨g, 0, none⟩, c.part a.ds b.ds 0 (c.oh * c.ow * c.N), c.oh * c.ow * c.N⟩, .nilIface, ?_, HT.out, HTF.out, ?_, ?_, ?_, ?_, fun _ => ⟨g, rfl, (Cv.part_length _ _ _ _ _).symm, HGf.out⟩⟩, HFf.out⟩
    · rw [Cv.part_length]
      rfl
    · rw [if_pos HN.out, HFI.out.sh]
    · rw [if_pos HN.out, HFI.out.kd]
    · rw [if_pos HN.out, HFI.out.ds]
    · rw [HN.out]
      rfl
theorem cv_good (qs : List Int) (A : Option Addr) (qcap : Nat) (a b : Ten) (ah am ar : Addr) (w : World) (hf : Cel.fault [a, b] (Cv.code qs a.look b.look) = (0, none)) (hq : Ri w A qs) (hql : qs.length ≤ 1000000) (ha : a.In w) (hb : b.In w) (hE : E3 w ah am ar) :
    Calls Tryd.prog 32 #[.agg (tcells a.P a.zs.length a.cap a.u a.D a.ds.length a.dcap), .agg (tcells b.P b.zs.length b.cap b.u b.D b.ds.length b.dcap), .slice A qs.length qcap] w fun e w' =>
      (∃ t : Ten, e = .returned (.tuple #[.agg (tcells t.P t.zs.length t.cap t.u t.D t.ds.length t.dcap), .nilIface]) ∧ t.In w' ∧ t.zs = Cv.shape qs a.look b.look ∧ t.u = true ∧ t.ds = Cv.ds qs a b ∧ OwnData w' t) ∧ Below w.heap.size w w' := by
  obtain ⟨c, hc⟩ := Cv.fine hf
  refine (cvdo_c qs A qcap a b ah am ar w hq hql ha hb hE).mono ?_
  rintro e w' ⟨⟨t, x, rfl, hIn, -, hz, hu, hd, hx, ho⟩, hB⟩
  rw [if_pos hf] at hz
  rw [if_pos hf, hc.kd] at hu
  rw [if_pos hf] at hd
  rw [hf] at hx
  obtain rfl : x = .nilIface := hx
  exact ⟨⟨t, rfl, hIn, hz, hu, hd, ho hf⟩, hB⟩
theorem cv_first (P Q D E : Option Addr) : Cv.ds [1, 0, 0] ⟨P, [1, 3, 1], 3, false, D, [1, 2, 1], 3⟩ ⟨Q, [1, 1, 1, 1], 4, false, E, [3], 1⟩ = [3, 6, 3] := by kernel_rfl
set_option maxRecDepth 100000 in
set_option maxHeartbeats 4000000 in
theorem first9_c (ah am ar : Addr) (w : World) (hE : E3 w ah am ar) :
    Calls Tryd.prog 31 #[] w fun e w' => e = .returned (.bool true) ∧ Below w.heap.size w w' := by
  obtain ⟨W1, hW1⟩ : ∃ W, W = ((w.alloc (.cells #[.int .i64 1, .int .i64 3, .int .i64 1] 3)).alloc (.cells #[.int .i64 1, .int .i64 2, .int .i64 1] 3)).alloc (.cells #[.slice (some ⟨w.heap.size, 0, none⟩) 3 3, .bool false, .slice (some ⟨w.heap.size + 1, 0, none⟩) 3 3] 26) := ⟨_, rfl⟩
  have hB1 : Below w.heap.size w W1 := by rw [hW1]; exact (((Below.refl _ _).alloc (Nat.le_refl _) _).alloc (by simp) _).alloc (by simp; omega) _
  have s1 : Has W1 w.heap.size 3 (i64s [1, 3, 1]) := by rw [hW1]; exact ((Has.new w 3 [.int .i64 1, .int .i64 3, .int .i64 1]).alloc _).alloc _
  have d1 : Has W1 (w.heap.size + 1) 3 (i64s [1, 2, 1]) := by rw [hW1]; exact (box_at _ 3 [.int .i64 1, .int .i64 2, .int .i64 1] _ (by simp)).alloc _
  have x1 : Has W1 (w.heap.size + 1 + 1) 26 [.slice (some ⟨w.heap.size, 0, none⟩) 3 3, .bool false, .slice (some ⟨w.heap.size + 1, 0, none⟩) 3 3] := by rw [hW1]; exact box_at _ _ _ _ (by simp)
  have z1 : W1.heap.size = w.heap.size + 1 + 1 + 1 := by rw [hW1]; simp
  obtain ⟨W2, hW2⟩ : ∃ W, W = ((W1.alloc (.cells #[.int .i64 1, .int .i64 1, .int .i64 1, .int .i64 1] 3)).alloc (.cells #[.int .i64 3] 3)).alloc (.cells #[.slice (some ⟨w.heap.size + 1 + 1 + 1, 0, none⟩) 4 4, .bool false, .slice (some ⟨w.heap.size + 1 + 1 + 1 + 1, 0, none⟩) 1 1] 26) := ⟨_, rfl⟩
  have hb2 : Below W1.heap.size W1 W2 := by rw [hW2]; exact (((Below.refl _ _).alloc (Nat.le_refl _) _).alloc (by simp) _).alloc (by simp; omega) _
  have s2 : Has W2 (w.heap.size + 1 + 1 + 1) 3 (i64s [1, 1, 1, 1]) := by rw [hW2, ← z1]; exact ((Has.new W1 3 [.int .i64 1, .int .i64 1, .int .i64 1, .int .i64 1]).alloc _).alloc _
  have d2 : Has W2 (w.heap.size + 1 + 1 + 1 + 1) 3 (i64s [3]) := by rw [hW2]; exact (box_at _ 3 [.int .i64 3] _ (by simp [z1])).alloc _
  have x2 : Has W2 (w.heap.size + 1 + 1 + 1 + 1 + 1) 26 [.slice (some ⟨w.heap.size + 1 + 1 + 1, 0, none⟩) 4 4, .bool false, .slice (some ⟨w.heap.size + 1 + 1 + 1 + 1, 0, none⟩) 1 1] := by rw [hW2]; exact box_at _ _ _ _ (by simp [z1])
  have z2 : W2.heap.size = w.heap.size + 1 + 1 + 1 + 1 + 1 + 1 := by rw [hW2]; simp [z1]
  have x12 := x1.below hb2 x1.lt
  have hB2 := hB1.trans (hb2.mono hB1.size)
  obtain ⟨W3, hW3⟩ : ∃ W, W = W2.alloc (.cells #[.int .i64 1, .int .i64 0, .int .i64 0] 3) := ⟨_, rfl⟩
  have hb3 : Below W2.heap.size W2 W3 := by rw [hW3]; exact (Below.refl _ _).alloc (Nat.le_refl _) _
  have hB3 := hB2.trans (hb3.mono hB2.size)
  have q3 : Has W3 (w.heap.size + 1 + 1 + 1 + 1 + 1 + 1) 3 (i64s [1, 0, 0]) := by rw [hW3, ← z2]; exact Has.new W2 3 [.int .i64 1, .int .i64 0, .int .i64 0]
  have HM := hide (cv_good [1, 0, 0] (some ⟨w.heap.size + 1 + 1 + 1 + 1 + 1 + 1, 0, none⟩) 3 ⟨some ⟨w.heap.size, 0, none⟩, [1, 3, 1], 3, false, some ⟨w.heap.size + 1, 0, none⟩, [1, 2, 1], 3⟩ ⟨some ⟨w.heap.size + 1 + 1 + 1, 0, none⟩, [1, 1, 1, 1], 4, false, some ⟨w.heap.size + 1 + 1 + 1 + 1, 0, none⟩, [3], 1⟩ ah am ar W3 (by rfl) (q3.ri (by decide)) (by simp)
    ⟨((s1.ri (by decide)).below hb2).below hb3, ((d1.ri (by decide)).below hb2).below hb3, by simp, by simp⟩ ⟨(s2.ri (by decide)).below hb3, (d2.ri (by decide)).below hb3, by simp, by simp⟩ (hE.below hB3))
  have HB := hide hB3
  have HW1 := hide hW1
  have HW2 := hide hW2
  have HW3 := hide hW3
  have hz1 : W1.heap.size = w.heap.size + 1 + 1 + 1 := z1
  have hz2 : W2.heap.size = w.heap.size + 1 + 1 + 1 + 1 + 1 + 1 := z2
  have a0 := x12.cell 0
  have a1 := x12.cell 1
  have a2 := x12.cell 2
  have b0 := x2.cell 0
  have b1 := x2.cell 1
  have b2 := x2.cell 2
  clear hE hW1 hB1 s1 d1 x1 z1 hW2 hb2 s2 d2 x2 z2 x12 hB2 hW3 hb3 hB3 q3
  go_enter Tryd.func31, Tryd.ntmps31
  go_wp2_with fail
  rw [← HW1.out, ← HW2.out, ← HW3.out]
  refine HM.out.mono ?_
  rintro e w2 ⟨⟨t, rfl, hIn, -, -, hd, -⟩, hb⟩
  have hds : t.ds = [3, 6, 3] := by rw [hd]; exact cv_first _ _ _ _
  have hB3 := HB.out.trans (hb.mono HB.out.size)
  have hD := hIn.dat
  rw [hds] at hD
  have hB4 := hB3.alloc hB3.size (.cells #[.slice t.P t.zs.length t.cap, .bool t.u, .slice t.D 3 t.dcap] 26)
  have hB5 := hB4.alloc hB4.size (.cells #[.int .i64 3, .int .i64 6, .int .i64 3] 3)
  have hD5 := (hD.below ((Below.refl _ w2).alloc (Nat.le_refl _) (.cells #[.slice t.P t.zs.length t.cap, .bool t.u, .slice t.D 3 t.dcap] 26))).below ((Below.refl _ _).alloc (Nat.le_refl _) (.cells #[.int .i64 3, .int .i64 6, .int .i64 3] 3))
  have HS := hide (sameints_c [3, 6, 3] [3, 6, 3] t.D (some ⟨w2.heap.size + 1, 0, none⟩) t.dcap 3 _ hD5 (by
    have h := new_ri (w2.alloc (.cells #[.slice t.P t.zs.length t.cap, .bool t.u, .slice t.D 3 t.dcap] 26)) 3 [3, 6, 3] (by decide)
    simpa using h) (by decide) (by decide))
  rw [decide_eq_true (rfl : ([3, 6, 3] : List Int) = [3, 6, 3])] at HS
  have HB5 := hide hB5
  rw [hds]
  clear hIn hd hds hb hB3 hD hB4 hB5 hD5 HM HB HW1 HW2 HW3 a0 a1 a2 b0 b1 b2
  go_wp2_with fail
  refine HS.out.mono ?_
  rintro e w3 ⟨rfl, hb⟩
  have HF := hide (HB5.out.trans (hb.mono HB5.out.size))
  clear hb HS HB5
  go_wp2_with fail
  go_ret
  exact ⟨rfl, HF.out⟩
set_option maxRecDepth 100000 in
theorem cvinside_bad (n k s p o : Int) (w : World) (h : n < 1 ∨ k < 1 ∨ s < 1 ∨ p < 0 ∨ o < 0) :
    Calls Tryd.prog 38 #[.int .i64 n, .int .i64 k, .int .i64 s, .int .i64 p, .int .i64 o] w fun e w' => e = .returned (.tuple #[.int .i64 0, .int .i64 0]) ∧ w' = w := by
  have go : ∀ (G : Prop), G → G := fun _ h => h
  by_cases h1 : n < 1
  · clear h go
    go_enter Tryd.func38, Tryd.ntmps38
    go_wp2_with fail
    refine bodyPost_ret (results_two rfl _ _) rfl ?_
    exact ⟨rfl, rfl⟩
  by_cases h2 : k < 1
  · clear h go
    go_enter Tryd.func38, Tryd.ntmps38
    go_wp2_with fail
    refine bodyPost_ret (results_two rfl _ _) rfl ?_
    exact ⟨rfl, rfl⟩
  by_cases h3 : s < 1
  · clear h go
    go_enter Tryd.func38, Tryd.ntmps38
    go_wp2_with fail
    refine bodyPost_ret (results_two rfl _ _) rfl ?_
    exact ⟨rfl, rfl⟩
  by_cases h4 : p < 0
  · clear h go
    go_enter Tryd.func38, Tryd.ntmps38
    go_wp2_with fail
    refine bodyPost_ret (results_two rfl _ _) rfl ?_
    exact ⟨rfl, rfl⟩
  have h5 : o < 0 := by omega
  clear h go
  go_enter Tryd.func38, Tryd.ntmps38
  go_wp2_with fail
  refine bodyPost_ret (results_two rfl _ _) rfl ?_
  exact ⟨rfl, rfl⟩
theorem run_max_five (w : World) (ts : Array TypeId) (t : TypeId) (a b c d e : Int) : ∃ m, (Builtin.max_ ts t #[.int .i64 a, .int .i64 b, .int .i64 c, .int .i64 d, .int .i64 e]).run Tryd.prog w = .ok (.int .i64 m) w ∧ ∀ B, a ≤ B → b ≤ B → c ≤ B → d ≤ B → e ≤ B → m ≤ B := by
  have h : ∀ x y B : Int, x ≤ B → y ≤ B → (if y > x then y else x) ≤ B := fun x y B h1 h2 => by split <;> assumption
  refine ⟨if e > (if d > (if c > (if b > a then b else a) then c else (if b > a then b else a)) then d else (if c > (if b > a then b else a) then c else (if b > a then b else a))) then e else (if d > (if c > (if b > a then b else a) then c else (if b > a then b else a)) then d else (if c > (if b > a then b else a) then c else (if b > a then b else a))), by simp [Builtin.max_, Builtin.max2], fun B h1 h2 h3 h4 h5 => ?_⟩
  exact h _ _ B (h _ _ B (h _ _ B (h _ _ B h1 h2) h3) h4) h5
set_option maxRecDepth 100000 in
theorem cvinside_good (n k s p o : Int) (w : World) (h1 : 1 ≤ n ∧ n ≤ 40) (h2 : 1 ≤ k ∧ k ≤ 40) (h3 : 1 ≤ s ∧ s ≤ 40) (h4 : 0 ≤ p ∧ p ≤ 40) (h5 : 0 ≤ o ∧ o ≤ 40) :
    Calls Tryd.prog 38 #[.int .i64 n, .int .i64 k, .int .i64 s, .int .i64 p, .int .i64 o] w fun e w' => e = .returned (.tuple #[.int .i64 (Cv.ins n k s p o).1, .int .i64 (Cv.ins n k s p o).2]) ∧ w' = w := by
  have hos : 0 ≤ o * s ∧ o * s ≤ 1600 := by
    have e1 := Int.mul_nonneg h5.1 (show 0 ≤ s by omega)
    have e2 : o * s ≤ 40 * 40 := Int.mul_le_mul h5.2 h3.2 (by omega) (by omega)
    omega
  have HC := hide (fun W => inside_c n k s p o W (by omega) (by omega) (by omega))
  obtain ⟨m, hm, hmb⟩ := run_max_five w #[3, 3, 3, 3, 3] 3 n k s p o
  have hm40 := hmb 40 (by omega) (by omega) (by omega) (by omega) (by omega)
  clear hos hmb
  go_enter Tryd.func38, Tryd.ntmps38
  go_wp2_with fail
  refine (HC.out _).mono ?_
  rintro e w9 ⟨rfl, rfl⟩
  go_wp2_with fail
  refine bodyPost_ret (results_two rfl _ _) rfl ?_
  exact ⟨rfl, rfl⟩
/-- conv.Cell's answer: an element; 0 of a place that is none, and where something is amiss. -/
def Cv.cell (qs : List Int) (a b : Ten) (i : Int) : Int := if Cel.fault [a, b] (Cv.code qs a.look b.look) = (0, none) then (if 0 ≤ i then (Cv.ds qs a b).getD i.toNat 0 else 0) else 0
theorem Cv.part_one (c : Cv) (xs ks : List Int) (T k : Nat) (h : k < T) : c.part xs ks k 1 = [(c.part xs ks 0 T).getD k 0] := by
  rw [List.getD_eq_getElem?_getD, Cv.part_at c xs ks 0 T k h, Option.getD_some, Nat.zero_add]
  rfl
set_option maxRecDepth 100000 in
set_option maxHeartbeats 8000000 in
theorem cvcell_c (qs : List Int) (A : Option Addr) (qcap : Nat) (a b : Ten) (i : Int) (ah am ar : Addr) (w : World) (hq : Ri w A qs) (hql : qs.length ≤ 1000000) (ha : a.In w) (hb : b.In w) (hi : -9223372036854775808 ≤ i ∧ i ≤ 9223372036854775807) (hE : E3 w ah am ar) :
    Calls Tryd.prog 37 #[.agg (tcells a.P a.zs.length a.cap a.u a.D a.ds.length a.dcap), .agg (tcells b.P b.zs.length b.cap b.u b.D b.ds.length b.dcap), .int .i64 i, .slice A qs.length qcap] w fun e w' => e = .returned (.int .i64 (Cv.cell qs a b i)) ∧ Below w.heap.size w w' := by
  obtain ⟨W0, hW0⟩ : ∃ W, W = ((w.alloc (.cells a.vals.toArray 26)).alloc (.cells b.vals.toArray 26)) := ⟨_, rfl⟩
  have HA : Hid (Has W0 w.heap.size 26 a.vals) := hide (by rw [hW0]; exact (Has.new w 26 a.vals).alloc _)
  have HB : Hid (Has W0 (w.heap.size + 1) 26 b.vals) := hide (by rw [hW0]; exact box_at _ _ _ _ (by simp))
  have HB0 : Hid (Below w.heap.size w W0) := hide (by rw [hW0]; exact ((Below.refl _ _).alloc (Nat.le_refl _) _).alloc (by simp) _)
  have HV := hide (cvlook_c qs A qcap a b ah am ar W0 (hq.below HB0.out) hql (ha.below HB0.out) (hb.below HB0.out) (hE.below HB0.out))
  have HIa := hide (fun W (h : Below w.heap.size w W) => ha.below h)
  have HIb := hide (fun W (h : Below w.heap.size w W) => hb.below h)
  have HE2 := hide (fun W (h : Below w.heap.size w W) => hE.2.below h)
  have HFi := hide (fun h : Cel.fault [a, b] (Cv.code qs a.look b.look) = (0, none) => Cv.fine h)
  have hfc := Cel.fault_cases (ts := [a, b]) (Cv.code_known qs a.look b.look)
  have HW := hide hW0
  have HQ := hide (fun W (h : Below w.heap.size w W) => hq.below h)
  have HI := hide hi
  unfold Ten.vals at HW
  clear ha hb hE hW0 hq hql hi
  go_enter Tryd.func37, Tryd.ntmps37
  go_wp2_with fail
  rw [← HW.out]
  clear HW
  refine HV.out.mono ?_
  rintro e w1 ⟨⟨d, x, rfl, hdi, hdf, hdz, hdu, hx⟩, hb⟩
  replace HA := hide (HA.out.below hb HA.out.lt)
  replace HB := hide (HB.out.below hb HB.out.lt)
  have HB1 := hide (HB0.out.trans (hb.mono HB0.out.size))
  clear hb HV HB0
  by_cases hf : Cel.fault [a, b] (Cv.code qs a.look b.look) = (0, none)
  case neg =>
    have hE := hx.errv hfc hf
    have HBf := hide (HB1.out.alloc HB1.out.size (.cells #[.slice d.P d.zs.length d.cap, .bool d.u] 24))
    have HV0 : Hid (Cv.cell qs a b i = 0) := hide (by unfold Cv.cell; rw [if_neg hf])
    have r1 := run_neqerr hE
    have r2 := run_neqguard hE
    clear hdi hdf hdz hdu hx hf hfc hE HFi HIa HIb HE2 HQ HA HB HI
    go_wp2_with fail
    go_ret
    exact ⟨by rw [HV0.out]; rfl, HBf.out⟩
  case pos =>
    obtain ⟨c, hfi⟩ := HFi.out hf
    have hor : ∀ {α : Type} (p q : α), Cel.or [a, b] (Cv.code qs a.look b.look) p q = p := fun p q => by
      unfold Cel.or
      rw [if_pos hf]
    rw [hor, hfi.sh] at hdz
    rw [hor, hfi.kd] at hdu
    rw [hf] at hx
    obtain rfl : x = .nilIface := hx
    have hdzl : d.zs.length = 3 := by rw [hdz]; rfl
    have hri := hdi.shp
    rw [hdz] at hri
    rw [hdzl, hdu]
    have hql3 : qs.length = 3 := by rw [hfi.qz]; rfl
    rw [hql3]
    obtain ⟨W2, hW2⟩ : ∃ W, W = (w1.alloc (.cells #[.slice d.P 3 d.cap, .bool true] 24)).alloc (.cells ([a, b].flatMap Ten.vals).toArray 26) := ⟨_, rfl⟩
    have hb2 : Below w1.heap.size w1 W2 := by rw [hW2]; exact ((Below.refl _ _).alloc (Nat.le_refl _) _).alloc (by simp) _
    have hT2 : Has W2 (w1.heap.size + 1) 26 ([a, b].flatMap Ten.vals) := by rw [hW2]; exact box_at _ _ _ _ (by simp)
    have hB2 := HB1.out.trans (hb2.mono HB1.out.size)
    have hpe : Shp.elems [(c.oh : Int), (c.ow : Int), (c.N : Int)] = ((c.oh * c.ow * c.N : Nat) : Int) := by rw [(Shp.whole hfi.cd).2.2.1, Cv.prod3]
    have hel : Cv.cell qs a b i = if 0 ≤ i then (c.part a.ds b.ds 0 (c.oh * c.ow * c.N)).getD i.toNat 0 else 0 := by
      unfold Cv.cell
      rw [if_pos hf, hfi.ds]
    have HO := hide (one_any [(c.oh : Int), (c.ow : Int), (c.N : Int)] d.P d.cap true 13 i (Cv.cell qs a b i) A (some ⟨w1.heap.size + 1, 0, none⟩) 3 qcap 2 2 am ar W2 (hri.below hb2) (by show 3 ≤ 1000000; omega) (HE2.out _ hB2) HI.out.2 HI.out.1
      (fun h => by
        rw [hpe] at h
        rw [hel]
        by_cases h0 : 0 ≤ i
        · rw [if_pos h0, List.getD_eq_getElem?_getD, List.getElem?_eq_none (by rw [Cv.part_length]; omega)]
          rfl
        · rw [if_neg h0])
      (fun k W hk hlt hB => by
        rw [hpe] at hlt
        have h := cvof_c qs a b c hfi A (some ⟨w1.heap.size + 1, 0, none⟩) qcap 2 k 1 W ((HQ.out _ hB2).below hB) (hT2.row.below hB) ((HIa.out _ hB2).below hB) ((HIb.out _ hB2).below hB) (by omega)
        rw [Cv.part_one c _ _ (c.oh * c.ow * c.N) k (by omega)] at h
        rw [hel, if_pos (by omega), hk, Int.toNat_natCast]
        exact h))
    have HB2 := hide hB2
    have HW2 := hide hW2
    unfold Ten.vals at HA HB HW2
    simp only [List.flatMap_cons, List.flatMap_nil, List.append_nil, List.cons_append, List.nil_append] at HW2
    have a0 := HA.out.cell 0
    have a1 := HA.out.cell 1
    have a2 := HA.out.cell 2
    have b0 := HB.out.cell 0
    have b1 := HB.out.cell 1
    have b2 := HB.out.cell 2
    have hal := HA.out.lt
    have hbl := HB.out.lt
    obtain ⟨v, hv⟩ : ∃ v, Hid (Cv.cell qs a b i = v) := ⟨_, hide rfl⟩
    rw [hv.out] at HO
    clear hdi hdf hdz hf hfc hfi hri hW2 hb2 hT2 hB2 hql3 HFi HIa HIb HE2 HQ hor hdzl hdu HB1 HA HB hel hpe
    go_wp2_with fail
    rw [← HW2.out]
    clear HW2 a0 a1 a2 b0 b1 b2
    refine HO.out.mono ?_
    rintro e w3 ⟨rfl, hb⟩
    have HBf := hide (HB2.out.trans (hb.mono HB2.out.size))
    clear HO hb
    go_wp2_with fail
    go_ret
    exact ⟨by rw [hv.out]; rfl, HBf.out⟩
theorem step_load_f {ops : Array Oper} {o : Oper} {a : Act} {w : World} {K : Act → World → Prop} {Q : Exit → Act → World → Prop} {E : Prop} (hwt : Region.wanted o (yielded ops a.tmps) = true) (x : Operand) (ho : o.op = .load 34 x)
    (g : Nat) (hx : a.eval x = .pointer (some ⟨g, 0, none⟩)) (c : Int) (t : TypeId) (fr : Nat × Nat) (hg : w.heap[g]? = some (.cells (fcells c) t fr))
    (h : K (a.put o.dst (.agg (fcells c))) w) : if Region.wanted o (yielded ops a.tmps) = true then Oper.wp Tryd.prog o a w K Q else E := by
  rw [if_pos hwt]
  exact wp_load_row 34 x ho g hx t (fcells c) fr _ hg Tryd.underlying34 rfl (fsize c) h
set_option maxRecDepth 100000 in
theorem same_err (v : Value) (k c : Int) (w : World) (hF : ∀ w', Below w.heap.size w w' → Calls Tryd.prog 56 #[v] w' fun e w2 => e = .returned (.agg (fcells k)) ∧ Below w'.heap.size w' w2) :
    Calls Tryd.prog 20 #[v, .agg (fcells c)] w fun e w' => e = .returned (.bool (decide (k = c))) ∧ Below w.heap.size w w' := by
  have HF := hidE hF
  clear hF
  have HB1 := hidE ((Below.refl _ w).alloc (Nat.le_refl _) (Obj.cells (fcells c) 34)).drew
  have HZ1 : Hid (((w.alloc (Obj.cells (fcells c) 34)).drew).heap[w.heap.size]? = some (Obj.cells (fcells c) 34 (0, 0))) := hidE (heap_alloc_new w (Obj.cells (fcells c) 34))
  go_enter Tryd.func20, Tryd.ntmps20
  go_wp2_with fail
  refine wp_region_any (by kernel_rfl) ?_
  change wpAny _ _ _ _ _ _ _ (World.drew _)
  obtain ⟨w1, hw1⟩ : ∃ w1, Hid ((w.alloc (Obj.cells (fcells c) 34)).drew = w1) := ⟨_, hidE rfl⟩
  rw [hw1.out] at HB1 HZ1
  generalize hwg : World.drew _ = w1'
  have hwg' : (w.alloc (Obj.cells (fcells c) 34)).drew = w1' := hwg
  obtain rfl : w1 = w1' := hw1.out.symm.trans hwg'
  clear hw1 hwg hwg'
  refine wpAny_take (i := 0) (v := v) rfl (by kernel_rfl) (by kernel_rfl) (by kernel_rfl) (fun _ _ _ h => h) (Or.inl ⟨by rfl, by intro w; go_simp⟩) ?_
  refine wpAny_ready (rs := [1, 2]) (by kernel_rfl) (by simp) ?_
  refine AllReady.cons rfl (fun K hK => ?_) (AllReady.cons rfl (fun K hK => ?_) AllReady.nil)
  focus
    go_simp
    refine (HF.out w1 HB1.out).mono ?_
    rintro e w2 ⟨rfl, hb2⟩
    refine hK _ _ ?_
    clear hK K
    have hlt : w.heap.size < w1.heap.size := by
      rcases Nat.lt_or_ge w.heap.size w1.heap.size with h' | h'
      · exact h'
      · have := HZ1.out
        rw [Array.getElem?_eq_none h'] at this; cases this
    have HZ2 := hidE ((hb2.block _ hlt).trans HZ1.out)
    have HB2 := hidE (HB1.out.trans (hb2.mono HB1.out.size))
    clear hb2 hlt
    refine wpAny_ready (rs := [2]) (by kernel_rfl) (by simp) ?_
    refine AllReady.cons rfl (fun K hK => ?_) AllReady.nil
    refine step_load_f (by rfl) (.tmp 3) rfl w.heap.size rfl c _ _ HZ2.out ?_
    refine hK _ _ ?_
    clear hK K HZ2
  rotate_left
  focus
    refine step_load_f (by rfl) (.tmp 3) rfl w.heap.size rfl c _ _ HZ1.out ?_
    refine hK _ _ ?_
    clear hK K
    refine wpAny_ready (rs := [1]) (by kernel_rfl) (by simp) ?_
    refine AllReady.cons rfl (fun K hK => ?_) AllReady.nil
    go_simp
    refine (HF.out w1 HB1.out).mono ?_
    rintro e w2 ⟨rfl, hb2⟩
    refine hK _ _ ?_
    clear hK K
    have HB2 := hidE (HB1.out.trans (hb2.mono HB1.out.size))
    clear hb2
  all_goals
    refine wpAny_ready (rs := [3]) (by kernel_rfl) (by simp) ?_
    refine AllReady.cons rfl (fun K hK => ?_) AllReady.nil
    go_simp
    refine (samefault_c k c w2).mono ?_
    rintro e w3 ⟨rfl, hb3⟩
    refine hK _ _ ?_
    clear hK K
    have hfin := HB2.out.trans (hb3.mono HB2.out.size)
    clear hb3
    refine wpAny_ready (rs := [4]) (by kernel_rfl) (by simp) ?_
    refine AllReady.cons rfl (fun K hK => ?_) AllReady.nil
    go_simp
    refine hK _ _ ?_
    clear hK K
    refine wpAny_done (by kernel_rfl) ?_ _
    go_wp2_with fail
    go_ret
    exact ⟨rfl, hfin⟩
set_option maxRecDepth 100000 in
theorem is_any (v : Value) (k c : Int) (w : World) (hF : ∀ w', Below w.heap.size w w' → Calls Tryd.prog 56 #[v] w' fun e w2 => e = .returned (.agg (fcells k)) ∧ Below w'.heap.size w' w2) :
    Calls Tryd.prog 22 #[v, .int .i64 c] w fun e w' => e = .returned (.bool (decide (k = c))) ∧ Below w.heap.size w w' := by
  have HF := hidE hF
  clear hF
  go_enter Tryd.func22, Tryd.ntmps22
  go_wp2_with fail
  refine (bare_c c w).mono ?_
  rintro e w1 ⟨rfl, hb1⟩
  have HB1 := hidE hb1
  clear hb1
  go_wp2_with fail
  refine (same_err v k c w1 (fun w' hb => HF.out w' (HB1.out.trans (hb.mono HB1.out.size)))).mono ?_
  rintro e w2 ⟨rfl, hb2⟩
  have hfin := HB1.out.trans (hb2.mono HB1.out.size)
  clear hb2
  go_wp2_with fail
  go_ret
  exact ⟨rfl, hfin⟩
/-- Of one of api's errors. -/
theorem is_c (es : List Addr) (j : Nat) (a : Addr) (hj : es[j]? = some a) (c : Int) (w : World) (h : Ez w es) :
    Calls Tryd.prog 22 #[errv a, .int .i64 c] w fun e w' => e = .returned (.bool (decide (101 + (j : Int) = c))) ∧ Below w.heap.size w w' :=
  is_any (errv a) (101 + j) c w fun w' hb => fault_c es j a hj w' (h.below hb)
/-- Of nil. -/
theorem is_nil (c : Int) (w : World) :
    Calls Tryd.prog 22 #[.nilIface, .int .i64 c] w fun e w' => e = .returned (.bool (decide ((0 : Int) = c))) ∧ Below w.heap.size w w' :=
  is_any .nilIface 0 c w fun w' _ => fault_nil w'
/-- What is held in a region: 3 cells. -/
abbrev CS3 (p0 p1 p2 : Addr) (v0 v1 v2 : Value) (W : World) : Prop := W.cell? p0 = some v0 ∧ W.cell? p1 = some v1 ∧ W.cell? p2 = some v2
theorem CS3.keep {p0 p1 p2 : Addr} {v0 v1 v2 : Value} {W W' : World} (h : CS3 p0 p1 p2 v0 v1 v2 W) (l0 : p0.block < W.heap.size) (l1 : p1.block < W.heap.size) (l2 : p2.block < W.heap.size) (hB : Below W.heap.size W W') : CS3 p0 p1 p2 v0 v1 v2 W' := by
  obtain ⟨h0, h1, h2⟩ := h
  exact ⟨(hB.cell l0).trans h0, (hB.cell l1).trans h1, (hB.cell l2).trans h2⟩
theorem CS3.far {p0 p1 p2 : Addr} {v0 v1 v2 : Value} {W : World} (h : CS3 p0 p1 p2 v0 v1 v2 W) {b : Nat} (l0 : b ≠ p0.block) (l1 : b ≠ p1.block) (l2 : b ≠ p2.block) (j : Nat) (x : Value) : CS3 p0 p1 p2 v0 v1 v2 (W.setCell ⟨b, j, none⟩ x) := by
  obtain ⟨h0, h1, h2⟩ := h
  have f : ∀ (p : Addr) (v : Value), b ≠ p.block → W.cell? p = some v → (W.setCell ⟨b, j, none⟩ x).cell? p = some v := fun p v hn hc => by
    rw [World.cell?_setCell_far _ _ _ _ (by exact hn)]
    exact hc
  exact ⟨f _ _ l0 h0, f _ _ l1 h1, f _ _ l2 h2⟩
theorem CS3.drew {p0 p1 p2 : Addr} {v0 v1 v2 : Value} {W : World} (h : CS3 p0 p1 p2 v0 v1 v2 W) : CS3 p0 p1 p2 v0 v1 v2 W.drew := h
theorem Has.drew1 {w : World} {g : Nat} {t : TypeId} {cs : List Value} (h : Has w g t cs) : Has w.drew g t cs := h
theorem results_tf {fn : Func} {p q : Tmp} (h : fn.results = #[.cell p 26, .cell q 34]) (tmps : Array Value) (w : World) (g g2 : Nat) (x y z a b c : Value)
    (hp : tmps.getD p undef = .pointer (some ⟨g, 0, none⟩)) (hq : tmps.getD q undef = .pointer (some ⟨g2, 0, none⟩)) (hg : Has w g 26 [x, y, z]) (hg2 : Has w g2 34 [a, b, c]) : (results fn tmps).run Tryd.prog w = .ok (.tuple #[.agg #[x, y, z], .agg #[a, b, c]]) w := by
  have h1 := run_loadVar_row (P := Tryd.prog) w g 26 26 #[x, y, z] (0, 0) _ hg Tryd.underlying26 rfl (by kernel_rfl)
  have h2 := run_loadVar_row (P := Tryd.prog) w g2 34 34 #[a, b, c] (0, 0) _ hg2 Tryd.underlying34 rfl (by kernel_rfl)
  have e : (results fn tmps).run Tryd.prog w = ((asAddr (tmps.getD p undef)).run Tryd.prog w).andThen fun a w₁ => ((loadVar 26 a).run Tryd.prog w₁).andThen fun v w₂ => ((asAddr (tmps.getD q undef)).run Tryd.prog w₂).andThen fun a2 w₃ => ((loadVar 34 a2).run Tryd.prog w₃).andThen fun v2 w₄ => .ok (.tuple #[v, v2]) w₄ := by
    simp only [results, h]
    simp [Sem.run_bind, Result.andThen]
  rw [e, hp, hq]
  simp [asAddr, h1, h2, Result.andThen]
/-- The reference's answer: a tensor, and a fault. -/
def RTenE (w : World) (F : Nat × Option Nat) (zs : List Int) (u : Bool) (ds : List Int) (e : Ending) (w' : World) : Prop :=
  (∃ t : Ten, e = .returned (.tuple #[.agg (tcells t.P t.zs.length t.cap t.u t.D t.ds.length t.dcap), .agg (Tens.fval F)]) ∧ t.In w' ∧ t.zs = zs ∧ t.u = u ∧ t.ds = ds) ∧ Below w.heap.size w w'
theorem fval_is (R : Nat × Option Nat) : ∃ p i, Tens.fval R = gcells (R.1 : Int) p i := by
  obtain ⟨k, o⟩ := R
  cases o with
  | none => exact ⟨false, 0, rfl⟩
  | some i => exact ⟨true, i, rfl⟩
theorem RTenE.bad {w W : World} {F : Nat × Option Nat} {e : Ending} (he : e = .returned (.tuple #[.agg (tcells none 0 0 false none 0 0), .agg (Tens.fval F)])) (hb : Below w.heap.size w W) : RTenE w F [] false [] e W :=
  ⟨⟨⟨none, [], 0, false, none, [], 0⟩, he, ⟨Ri.nil _ _, Ri.nil _ _, by simp, by simp⟩, rfl, rfl, rfl⟩, hb⟩
set_option maxRecDepth 100000 in
set_option maxHeartbeats 4000000 in
theorem rapply_c (op : Int) (ts : List Ten) (A B : Option Addr) (nq qcap cap : Nat) (zs : List Int) (u : Bool) (k : Nat) (out : List Int) (w : World)
    (hR : Row w B (ts.flatMap Ten.vals)) (hI : ∀ t ∈ ts, t.In w) (hl : ts.length ≤ 1000000)
    (HRes : ∀ W B' cap', Below w.heap.size w W → Row W B' (ts.flatMap fun t => t.look.vals) → Calls Tryd.prog 44 #[.int .i64 op, .slice A nq qcap, .slice B' ts.length cap'] W (RefE W zs u k))
    (hout : Cel.fault ts k = (0, none) → out.length = (Shp.elems zs).toNat ∧ (∀ z ∈ out, (Lit.int .i64 z).wf = true) ∧ out.length ≤ 1000000)
    (HEl : Cel.fault ts k = (0, none) → ∀ (i : Nat) (v : Int) (W : World) (d : Dsc), out[i]? = some v → Below w.heap.size w W → d.In W → d.zs = zs → d.u = u → Calls Tryd.prog 47 #[.int .i64 op, .slice A nq qcap, .int .i64 i, .slice B ts.length cap, .agg (dcells d.P d.zs.length d.cap d.u)] W fun e w' => e = .returned (.int .i64 v) ∧ Below W.heap.size W w') :
    Calls Tryd.prog 16 #[.int .i64 op, .slice A nq qcap, .slice B ts.length cap] w (RTenE w (Cel.fault ts k) (Cel.or ts k zs []) (Cel.or ts k u false) (Cel.or ts k out [])) := by
  obtain ⟨W0, hW0⟩ : ∃ W, W = (w.alloc (.cells #[.slice none 0 0, .bool false, .slice none 0 0] 26)).alloc (.cells #[.int .i64 0, .bool false, .int .i64 0] 34) := ⟨_, rfl⟩
  have HZ : Hid (Has W0 w.heap.size 26 [.slice none 0 0, .bool false, .slice none 0 0]) := hide (by rw [hW0]; exact (Has.new w 26 _).alloc _)
  have HY : Hid (Has W0 (w.heap.size + 1) 34 [.int .i64 0, .bool false, .int .i64 0]) := hide (by rw [hW0]; exact box_at _ _ _ _ (by simp))
  have HB : Hid (Below w.heap.size w W0) := hide (by rw [hW0]; exact ((Below.refl _ _).alloc (Nat.le_refl _) _).alloc (by simp) _)
  have V : Hid (∀ (i : Nat) (t : Ten), ts[i]? = some t → ∀ W, Below w.heap.size w W → Calls Tryd.prog 35 #[.agg (tcells t.P t.zs.length t.cap t.u t.D t.ds.length t.dcap)] W fun e w' => e = .returned (.agg (Tens.fval t.fault)) ∧ Below W.heap.size W w') := hide fun i t ht W hb => by
    have h := (hI t (List.mem_of_getElem? ht)).below hb
    exact rvalid_c t.zs t.ds t.P t.D t.cap t.dcap t.u W h.shp h.dat h.ls h.ld
  have HR := hide hR
  have HDO := hide (fun W (hb : Below w.heap.size w W) => descsof_c ts B cap W (hR.below hb) hl)
  have HRE := hide HRes
  have HOU := hide hout
  have HEL := hide HEl
  have HW := hide hW0
  obtain ⟨n, hn⟩ : ∃ n, Hid (ts.length = n) := ⟨_, hide rfl⟩
  rw [hn.out] at hl HDO HRE HEL ⊢
  clear hR hI HRes hout HEl hW0
  go_enter Tryd.func16, Tryd.ntmps16
  go_wp2_with fail
  rw [← HW.out]
  clear HW
  go_loopw [8, 9] (fun k9 _ wr => ∃ i : Nat, i ≤ n ∧ k9 = .int .i64 i ∧ Hid (Has wr w.heap.size 26 [.slice none 0 0, .bool false, .slice none 0 0]) ∧ Hid (Has wr (w.heap.size + 1) 34 [.int .i64 0, .bool false, .int .i64 0]) ∧ Hid (Below w.heap.size w wr) ∧ Hid (∀ (j : Nat) x, j < i → ts[j]? = some x → x.fault = (0, none))) (fun k9 _ _ => n - (intOf k9).toNat)
  case atStart => exact ⟨0, by omega, rfl, HZ, HY, HB, hide (fun j x hj => by omega)⟩
  case round =>
    clear HZ HY HB
    obtain ⟨i, hi, rfl, HZ, HY, HB, HF⟩ := hrel
    by_cases hlt : i < n
    case pos =>
      obtain ⟨ad, t, rfl, had, ht, c0, c1, c2⟩ := row_ten (HR.out.below HB.out) i (by rw [hn.out]; exact hlt)
      have HV := hide (V.out i t ht.out _ HB.out)
      obtain ⟨pp, pi, hfv⟩ := fval_is t.fault
      rw [hfv] at HV
      have HFV := hide hfv
      have hcs := tfault_cases t.zs t.u t.ds
      have hek : Ten.fault t = Tens.fault t.zs t.u t.ds := rfl
      rw [← hek] at hcs
      have HF1 : Hid (t.fault.1 = 0 → t.fault = (0, none)) := hide (fun h => by
        rcases hcs with e | e | e | e | ⟨j, e⟩
        · exact e
        · rw [e] at h; cases h
        · rw [e] at h; cases h
        · rw [e] at h; cases h
        · rw [e] at h; cases h)
      obtain ⟨kc, hkc⟩ : ∃ q_, Hid (t.fault.1 = q_) := ⟨_, hide rfl⟩
      rw [hkc.out] at HV HF1
      clear hcs hek hfv had
      go_wp2_with fail
      clear c0 c1 c2
      refine HV.out.mono ?_
      rintro e w1 ⟨rfl, hb⟩
      replace HZ := hide (HZ.out.below hb HZ.out.lt)
      replace HY := hide (HY.out.below hb HY.out.lt)
      replace HB := hide (HB.out.trans (hb.mono HB.out.size))
      clear hb HV
      obtain ⟨w2, hw2⟩ : ∃ W, W = w1.alloc (.cells #[.int .i64 kc, .bool pp, .int .i64 pi] 34) := ⟨_, rfl⟩
      have hb2 : Below w1.heap.size w1 w2 := by rw [hw2]; exact (Below.refl _ _).alloc (Nat.le_refl _) _
      have HT9 : Hid (Has w2 w1.heap.size 34 [.int .i64 kc, .bool pp, .int .i64 pi]) := hide (by rw [hw2]; exact Has.new _ _ _)
      have HW1Z := hide HZ.out.lt
      have HW1Y := hide HY.out.lt
      replace HZ := hide (HZ.out.below hb2 HZ.out.lt)
      replace HY := hide (HY.out.below hb2 HY.out.lt)
      replace HB := hide (HB.out.trans (hb2.mono HB.out.size))
      have HW2 := hide hw2
      clear hb2 hw2
      by_cases h0 : kc = 0
      case neg =>
        have h1 : ((kc : Int) == 0) = false := by simp; omega
        have h2 : ((kc : Int) != 0) = true := by simp; omega
        have HNF : Hid (t.fault ≠ (0, none)) := hide (fun h => h0 (by rw [← hkc.out, h]))
        have HFI := hide (Tens.first_at ts i t ht.out HF.out HNF.out)
        have HCF : Hid (Cel.fault ts k = t.fault) := hide (by rw [Cel.fault_first (by rw [HFI.out]; exact HNF.out), HFI.out])
        obtain ⟨z0, z1, z2, zf0, zf1, zf2, HZf, HFf⟩ := elm_three (b := w.heap.size) HZ.out HB.out (Nat.le_refl _) (.slice none 0 0) (.bool false) (.slice none 0 0)
        obtain ⟨y0, y1, y2, yf0, yf1, yf2, HYf, HGf⟩ := elm_three (b := w.heap.size + 1) (((HY.out.far (p := ⟨w.heap.size, 0, none⟩) (by simp) (.slice none 0 0)).far (p := ⟨w.heap.size, 1, none⟩) (by simp) (.bool false)).far (p := ⟨w.heap.size, 2, none⟩) (by simp) (.slice none 0 0)) HFf.out (Nat.le_add_right _ 1) (.int .i64 kc) (.bool pp) (.int .i64 pi)
        have hS00 : CS3 ⟨w1.heap.size, 0, none⟩ ⟨w1.heap.size, 1, none⟩ ⟨w1.heap.size, 2, none⟩ (.int .i64 kc) (.bool pp) (.int .i64 pi) w2 := ⟨HT9.out.cell 0, HT9.out.cell 1, HT9.out.cell 2⟩
        have hS0 : CS3 ⟨w1.heap.size, 0, none⟩ ⟨w1.heap.size, 1, none⟩ ⟨w1.heap.size, 2, none⟩ (.int .i64 kc) (.bool pp) (.int .i64 pi) w2.drew := hS00
        have n1 : w.heap.size ≠ w1.heap.size := Nat.ne_of_lt HW1Z.out
        have n2 : w.heap.size + 1 ≠ w1.heap.size := Nat.ne_of_lt HW1Y.out
        have hS1 := hide (CS3.far (CS3.far (CS3.far hS00 n1 n1 n1 0 (.slice none 0 0)) n1 n1 n1 1 (.bool false)) n1 n1 n1 2 (.slice none 0 0))
        have hS2 := hide (CS3.far (CS3.far (CS3.far hS1.out n2 n2 n2 0 (.int .i64 kc)) n2 n2 n2 1 (.bool pp)) n2 n2 n2 2 (.int .i64 pi))
        have HZf2 := hide (((HZf.out.far (p := ⟨w.heap.size + 1, 0, none⟩) (by simp) (.int .i64 kc)).far (p := ⟨w.heap.size + 1, 1, none⟩) (by simp) (.bool pp)).far (p := ⟨w.heap.size + 1, 2, none⟩) (by simp) (.int .i64 pi))
        have hS3 := hide (CS3.drew hS1.out)
        have hS4 := hide (CS3.drew hS2.out)
        clear hS00 h0 n1 n2 hS1 hS2
        go_wp2_with fail
        rw [← HW2.out]
        clear HW2
        go_region_held3 (fun W => W.cell? ⟨w1.heap.size, 0, none⟩ = some (.int .i64 kc) ∧ W.cell? ⟨w1.heap.size, 1, none⟩ = some (.bool pp) ∧ W.cell? ⟨w1.heap.size, 2, none⟩ = some (.int .i64 pi))
          (first | with_reducible exact hS0 | with_reducible exact hS3.out | with_reducible exact hS4.out | with_reducible assumption)
          (first | fail)
        have HZf3 := hide HZf2.out.drew1
        have HYf3 := hide HYf.out.drew1
        go_wp2_with fail
        refine bodyPost_ret (results_tf rfl _ _ w.heap.size (w.heap.size + 1) _ _ _ _ _ _ rfl rfl HZf3.out HYf3.out) rfl ?_
        rw [HCF.out]
        have hor : ∀ {α : Type} (p q : α), Cel.or ts k p q = q := fun p q => by
          unfold Cel.or
          rw [if_neg (by rw [HCF.out]; exact HNF.out)]
        rw [hor, hor, hor]
        exact RTenE.bad (by rw [HFV.out, hkc.out]) HGf.out.drew
      case pos =>
        subst h0
        have HFt : Hid (t.fault = (0, none)) := hide (HF1.out rfl)
        have HW3 : Hid (w2 = w1.alloc (.cells #[.int .i64 0, .bool pp, .int .i64 pi] 34)) := hide HW2.out
        go_wp2_with fail
        rw [← HW3.out]
        clear HW2 HW3
        go_roundw
        case rel =>
          refine ⟨i + 1, by omega, by go_num, HZ, HY, HB, hide (fun j x hj hx => ?_)⟩
          rcases Nat.lt_or_ge j i with h | h
          · exact HF.out j x h hx
          · obtain rfl : j = i := by omega
            rw [ht.out] at hx
            obtain rfl := Option.some.inj hx
            exact HFt.out
        case measure => simp [intOf]; omega
    case neg =>
    obtain rfl : i = n := by omega
    have HFN := hide (Tens.first_none ts fun j x hx => HF.out j x (by have := (List.getElem?_eq_some_iff.1 hx).1; rw [hn.out] at this; exact this) hx)
    have HCF := hide (Cel.fault_code (k := k) HFN.out)
    clear HF V
    go_wp2_with fail
    refine (HDO.out _ HB.out).mono ?_
    rintro e w1 ⟨⟨v, rfl, hown⟩, hb⟩
    replace HZ := hide (HZ.out.below hb HZ.out.lt)
    replace HY := hide (HY.out.below hb HY.out.lt)
    replace HB := hide (HB.out.trans (hb.mono HB.out.size))
    obtain ⟨B', c', rfl, hrow, -⟩ := own_row2 hown
    have HRC := hide (HRE.out w1 B' c' HB.out hrow)
    clear hb hown hrow HDO HRE
    go_wp2_with fail
    refine HRC.out.mono ?_
    rintro e w2 ⟨⟨d, rfl, hdi, hdf, hdz, hdu⟩, hb⟩
    replace HZ := hide (HZ.out.below hb HZ.out.lt)
    replace HY := hide (HY.out.below hb HY.out.lt)
    replace HB := hide (HB.out.trans (hb.mono HB.out.size))
    have HDZ := hide hdz
    have HDU := hide hdu
    clear hb HRC hdz hdu hdf
    obtain ⟨w3, hw3⟩ : ∃ W, W = w2.alloc (.cells #[.slice d.P d.zs.length d.cap, .bool d.u] 24) := ⟨_, rfl⟩
    have hb3 : Below w2.heap.size w2 w3 := by rw [hw3]; exact (Below.refl _ _).alloc (Nat.le_refl _) _
    have HT10 : Hid (Has w3 w2.heap.size 24 [.slice d.P d.zs.length d.cap, .bool d.u]) := hide (by rw [hw3]; exact Has.new _ _ _)
    replace HZ := hide (HZ.out.below hb3 HZ.out.lt)
    replace HY := hide (HY.out.below hb3 HY.out.lt)
    replace HB := hide (HB.out.trans (hb3.mono HB.out.size))
    have HDI := hide (hdi.below hb3)
    have HW3 := hide hw3
    clear hb3 hw3 hdi
    by_cases h0 : k = 0
    case neg =>
      have h1 : ((k : Int) == 0) = false := by simp; omega
      have h2 : ((k : Int) != 0) = true := by simp; omega
      have HNF : Hid (Cel.fault ts k ≠ (0, none)) := hide (by rw [HCF.out]; intro h; exact h0 (Prod.mk.inj h).1)
      clear h0
      go_wp2_with fail
      rw [← HW3.out]
      clear HW3
      refine (bare_c (k : Int) w3).mono ?_
      rintro e w4 ⟨rfl, hb⟩
      replace HZ := hide (HZ.out.below hb HZ.out.lt)
      replace HY := hide (HY.out.below hb HY.out.lt)
      replace HB := hide (HB.out.trans (hb.mono HB.out.size))
      clear hb
      obtain ⟨z0, z1, z2, zf0, zf1, zf2, HZf, HFf⟩ := elm_three (b := w.heap.size) HZ.out HB.out (Nat.le_refl _) (.slice none 0 0) (.bool false) (.slice none 0 0)
      obtain ⟨y0, y1, y2, yf0, yf1, yf2, HYf, HGf⟩ := elm_three (b := w.heap.size + 1) (((HY.out.far (p := ⟨w.heap.size, 0, none⟩) (by simp) (.slice none 0 0)).far (p := ⟨w.heap.size, 1, none⟩) (by simp) (.bool false)).far (p := ⟨w.heap.size, 2, none⟩) (by simp) (.slice none 0 0)) HFf.out (Nat.le_add_right _ 1) (.int .i64 (k : Int)) (.bool false) (.int .i64 0)
      have HZf2 := hide (((HZf.out.far (p := ⟨w.heap.size + 1, 0, none⟩) (by simp) (.int .i64 (k : Int))).far (p := ⟨w.heap.size + 1, 1, none⟩) (by simp) (.bool false)).far (p := ⟨w.heap.size + 1, 2, none⟩) (by simp) (.int .i64 0))
      go_wp2_with fail
      refine bodyPost_ret (results_tf rfl _ _ w.heap.size (w.heap.size + 1) _ _ _ _ _ _ rfl rfl HZf2.out HYf.out) rfl ?_
      have hor : ∀ {α : Type} (p q : α), Cel.or ts k p q = q := fun p q => by
        unfold Cel.or
        rw [if_neg HNF.out]
      rw [hor, hor, hor, HCF.out]
      exact RTenE.bad rfl HGf.out
    case pos =>
    subst h0
    have HOV := hide (HOU.out HCF.out)
    have HEV := hide (HEL.out HCF.out)
    clear HOU HEL
    have h2 : ((0 : Int) != 0) = false := rfl
    have c0 := HT10.out.cell 0
    have c1 := HT10.out.cell 1
    have HZC := hide (rzero_c d.zs d.P d.cap d.u w3 HDI.out.shp HDI.out.ls)
    rw [HDZ.out] at HZC
    obtain ⟨m, hm⟩ : ∃ q_, Hid ((Shp.elems zs).toNat = q_) := ⟨_, hide rfl⟩
    rw [hm.out] at HZC HOV
    rw [← HDZ.out] at HZC
    go_wp2_with fail
    rw [← HW3.out]
    clear HW3 c0 c1 h2
    refine HZC.out.mono ?_
    rintro e w5 ⟨⟨g, c, rs, gd, rfl, hg, hgd, hg1, hg2, hgn⟩, hb⟩
    have HWZ : Hid (w.heap.size + 1 < w3.heap.size ∧ w2.heap.size < w3.heap.size ∧ w3.heap.size ≤ g ∧ w3.heap.size ≤ gd ∧ g ≠ gd ∧ g < w5.heap.size ∧ gd < w5.heap.size ∧ w3.heap.size ≤ w5.heap.size) := hide ⟨HY.out.lt, HT10.out.lt, hg1, hg2, hgn, hg.lt, hgd.lt, hb.size⟩
    have HB3 := hide hb
    clear HZC
    obtain ⟨w6, hw6⟩ : ∃ W, W = w5.alloc (.cells #[.slice (some ⟨g, 0, none⟩) d.zs.length c, .bool d.u, .slice (some ⟨gd, 0, none⟩) m m] 26) := ⟨_, rfl⟩
    have hb6 : Below w5.heap.size w5 w6 := by rw [hw6]; exact (Below.refl _ _).alloc (Nat.le_refl _) _
    have HT12 : Hid (Has w6 w5.heap.size 26 [.slice (some ⟨g, 0, none⟩) d.zs.length c, .bool d.u, .slice (some ⟨gd, 0, none⟩) m m]) := hide (by rw [hw6]; exact Has.new _ _ _)
    have HGG := hide (hg.below hb6 hg.lt)
    have HGD := hide (hgd.below hb6 hgd.lt)
    replace HB3 := hide (HB3.out.trans (hb6.mono HB3.out.size))
    have HW6 := hide hw6
    clear hb hg hgd hg1 hg2 hgn hb6 hw6
    go_wp2_with fail
    rw [← HW6.out]
    clear HW6
    go_loopw [13] (fun k9 wr => ∃ (i : Nat) (ds : List Int), i ≤ m ∧ k9 = .int .i64 i ∧ Hid (ds.length = m) ∧ Hid (∀ j, j < i → ds[j]? = out[j]?) ∧ Hid (Has wr gd 3 (i64s ds)) ∧ Hid (Has wr w5.heap.size 26 [.slice (some ⟨g, 0, none⟩) d.zs.length c, .bool d.u, .slice (some ⟨gd, 0, none⟩) m m]) ∧ Hid (Has wr g 3 (i64s d.zs ++ rs)) ∧ Hid (Below w3.heap.size w3 wr)) (fun k9 _ => m - (intOf k9).toNat)
    case atStart => exact ⟨0, _, by omega, rfl, hide (by simp), hide (fun j hj => by omega), HGD, HT12, HGG, HB3⟩
    case round =>
      clear HGD HT12 HGG HB3
      obtain ⟨i, ds, hi, rfl, HDL, HDV, HGD, HT12, HGG, HB3⟩ := hrel
      have hwz := HWZ.out
      have e2 := HT12.out.cell 2
      by_cases hlt : i < m
      case pos =>
        obtain ⟨v, hv⟩ : ∃ v, out[i]? = some v := ⟨_, List.getElem?_eq_getElem (by rw [HOV.out.1]; exact hlt)⟩
        have hii : (i : Int) < (m : Int) := by omega
        have hi0 : (0 : Int) ≤ (i : Int) := by omega
        have him : ((i : Nat) : Int) + 1 ≤ 1000001 := by have h1 := HOV.out; omega
        have hbr := HB.out.trans (HB3.out.mono HB.out.size)
        have HC := hide (HEV.out i v wr.drew d hv hbr.drew (HDI.out.below HB3.out.drew) HDZ.out HDU.out)
        have t0 := (HT10.out.below HB3.out HT10.out.lt)
        have hS00 : CS3 ⟨w5.heap.size, 2, none⟩ ⟨w2.heap.size, 0, none⟩ ⟨w2.heap.size, 1, none⟩ (.slice (some ⟨gd, 0, none⟩) m m) (.slice d.P d.zs.length d.cap) (.bool d.u) wr := ⟨e2, t0.cell 0, t0.cell 1⟩
        have hS0 : CS3 ⟨w5.heap.size, 2, none⟩ ⟨w2.heap.size, 0, none⟩ ⟨w2.heap.size, 1, none⟩ (.slice (some ⟨gd, 0, none⟩) m m) (.slice d.P d.zs.length d.cap) (.bool d.u) wr.drew := hS00
        have HL1 := hide HT12.out.lt
        have HL2 := hide t0.lt
        have HLT := hide hlt
        have HVV := hide hv
        clear hbr t0 hS00 hlt hv hwz
        go_wp2_with fail
        clear e2
        go_region_held3 (fun W => W.cell? ⟨w5.heap.size, 2, none⟩ = some (.slice (some ⟨gd, 0, none⟩) m m) ∧ W.cell? ⟨w2.heap.size, 0, none⟩ = some (.slice d.P d.zs.length d.cap) ∧ W.cell? ⟨w2.heap.size, 1, none⟩ = some (.bool d.u))
          (first | with_reducible exact hS0 | with_reducible exact hS2 | with_reducible exact hS3.out | with_reducible assumption)
          (first | (go_at_call 47; (with_reducible refine HC.out.mono ?_); rintro e w9 ⟨rfl, hb⟩; have hS2 := CS3.keep hS0 HL1.out HL2.out HL2.out hb; have n1 : gd ≠ w5.heap.size := (by have := HWZ.out; omega); have n2 : gd ≠ w2.heap.size := (by have := HWZ.out; omega); have hS3 := hide (CS3.far hS2 n1 n2 n2 i (.int .i64 v)); have HG9 := hide (HGD.out.drew1.below hb HGD.out.lt); have HX9 := hide (HT12.out.drew1.below hb HT12.out.lt); have HR9 := hide (HGG.out.drew1.below hb HGG.out.lt); have HB9 := hide (HB3.out.drew.trans (hb.mono HB3.out.size)); have g1 : w9.cell? ⟨gd, i, none⟩ = some (.int .i64 (ds[i]'(by rw [HDL.out]; exact HLT.out))) := (by rw [HG9.out.cell]; unfold i64s; rw [List.getElem?_map, List.getElem?_eq_getElem (by rw [HDL.out]; exact HLT.out)]; rfl); have gf := HG9.out.frozen i))
        go_wp2_with fail
        go_roundw
        case rel =>
          have hlt := HLT.out
          refine ⟨i + 1, ds.set i v, by omega, by go_num, hide (by rw [List.length_set]; exact HDL.out), hide (fun j hj => ?_), ?_, hide (HX9.out.far (p := ⟨gd, i, none⟩) n1.symm (.int .i64 v)), hide (HR9.out.far (p := ⟨gd, i, none⟩) (by have := HWZ.out; show g ≠ gd; omega) (.int .i64 v)), hide (HB9.out.setCell (p := ⟨gd, i, none⟩) (by have := HWZ.out; show w3.heap.size ≤ gd; omega) (.int .i64 v))⟩
          · rw [List.getElem?_set]
            by_cases h : i = j
            · subst h
              rw [if_pos rfl, if_pos (by rw [HDL.out]; exact hlt), HVV.out]
            · rw [if_neg h]
              exact HDV.out j (by omega)
          · have h := HG9.out.set_ i (.int .i64 v)
            unfold i64s at h ⊢
            rw [List.map_set]
            exact hide h
        case measure => simp [intOf]; have := HLT.out; omega
      case neg =>
        obtain rfl : i = m := by omega
        have hx : ds = out := List.ext_getElem? (fun j => by
          rcases Nat.lt_or_ge j i with h | h
          · exact HDV.out j h
          · rw [List.getElem?_eq_none (by rw [HDL.out]; exact h), List.getElem?_eq_none (by rw [HOV.out.1]; exact h)])
        subst hx
        have hii : ¬ (i : Int) < (i : Int) := by omega
        have hS00 : CS3 ⟨w5.heap.size, 0, none⟩ ⟨w5.heap.size, 1, none⟩ ⟨w5.heap.size, 2, none⟩ (.slice (some ⟨g, 0, none⟩) d.zs.length c) (.bool d.u) (.slice (some ⟨gd, 0, none⟩) i i) wr := ⟨HT12.out.cell 0, HT12.out.cell 1, e2⟩
        have hS0 : CS3 ⟨w5.heap.size, 0, none⟩ ⟨w5.heap.size, 1, none⟩ ⟨w5.heap.size, 2, none⟩ (.slice (some ⟨g, 0, none⟩) d.zs.length c) (.bool d.u) (.slice (some ⟨gd, 0, none⟩) i i) wr.drew := hS00
        have HC := hide (none_c wr.drew)
        have HZr := hide (HZ.out.below HB3.out HZ.out.lt).drew1
        have HYr := hide (HY.out.below HB3.out HY.out.lt).drew1
        have HBr := hide (HB.out.trans (HB3.out.mono HB.out.size)).drew
        have HL1 := hide HT12.out.lt
        clear hS00 hwz
        go_wp2_with fail
        clear e2
        go_region_held3 (fun W => W.cell? ⟨w5.heap.size, 0, none⟩ = some (.slice (some ⟨g, 0, none⟩) d.zs.length c) ∧ W.cell? ⟨w5.heap.size, 1, none⟩ = some (.bool d.u) ∧ W.cell? ⟨w5.heap.size, 2, none⟩ = some (.slice (some ⟨gd, 0, none⟩) i i))
          (first | with_reducible exact hS0 | with_reducible exact hS2 | with_reducible exact hS3.out | with_reducible exact hS4.out | with_reducible assumption)
          (first | (go_at_call 48; (with_reducible refine HC.out.mono ?_); rintro e w9 ⟨rfl, hb⟩; have hS2 := CS3.keep hS0 HL1.out HL1.out HL1.out hb; have n1 : w.heap.size ≠ w5.heap.size := (by have := HWZ.out; omega); have n2 : w.heap.size + 1 ≠ w5.heap.size := (by have := HWZ.out; omega); have hS3 := hide (CS3.far (CS3.far (CS3.far hS2 n1 n1 n1 0 (.slice (some ⟨g, 0, none⟩) d.zs.length c)) n1 n1 n1 1 (.bool d.u)) n1 n1 n1 2 (.slice (some ⟨gd, 0, none⟩) i i)); have hS4 := hide (CS3.far (CS3.far (CS3.far hS3.out n2 n2 n2 0 (.int .i64 0)) n2 n2 n2 1 (.bool false)) n2 n2 n2 2 (.int .i64 0)); have HG9 := hide (HGD.out.drew1.below hb HGD.out.lt); have HR9 := hide (HGG.out.drew1.below hb HGG.out.lt); have HZ9 := hide (HZr.out.below hb HZr.out.lt); have HY9 := hide (HYr.out.below hb HYr.out.lt); have HB9 := hide (HBr.out.trans (hb.mono HBr.out.size)); obtain ⟨z0, z1, z2, zf0, zf1, zf2, HZf, HFf⟩ := elm_three (b := w.heap.size) HZ9.out HB9.out (Nat.le_refl _) (.slice (some ⟨g, 0, none⟩) d.zs.length c) (.bool d.u) (.slice (some ⟨gd, 0, none⟩) i i); obtain ⟨y0, y1, y2, yf0, yf1, yf2, HYf, HGf⟩ := elm_three (b := w.heap.size + 1) (((HY9.out.far (p := ⟨w.heap.size, 0, none⟩) (by simp) (.slice (some ⟨g, 0, none⟩) d.zs.length c)).far (p := ⟨w.heap.size, 1, none⟩) (by simp) (.bool d.u)).far (p := ⟨w.heap.size, 2, none⟩) (by simp) (.slice (some ⟨gd, 0, none⟩) i i)) HFf.out (Nat.le_add_right _ 1) (.int .i64 0) (.bool false) (.int .i64 0)))
        go_wp2_with fail
        have HZf2 := hide (((HZf.out.far (p := ⟨w.heap.size + 1, 0, none⟩) (by simp) (.int .i64 0)).far (p := ⟨w.heap.size + 1, 1, none⟩) (by simp) (.bool false)).far (p := ⟨w.heap.size + 1, 2, none⟩) (by simp) (.int .i64 0))
        refine bodyPost_ret (results_tf rfl _ _ w.heap.size (w.heap.size + 1) _ _ _ _ _ _ rfl rfl HZf2.out HYf.out) rfl ?_
        have hor : ∀ {α : Type} (p q : α), Cel.or ts 0 p q = p := fun p q => by
          unfold Cel.or
          rw [if_pos HCF.out]
        rw [hor, hor, hor, HCF.out]
        have hwz := HWZ.out
        have far6 : ∀ (b : Nat) (t : TypeId) (cs : List Value), b ≠ w.heap.size → b ≠ w.heap.size + 1 → Has w9 b t cs → Has ((((((w9.setCell ⟨w.heap.size, 0, none⟩ (.slice (some ⟨g, 0, none⟩) d.zs.length c)).setCell ⟨w.heap.size, 1, none⟩ (.bool d.u)).setCell ⟨w.heap.size, 2, none⟩ (.slice (some ⟨gd, 0, none⟩) i i)).setCell ⟨w.heap.size + 1, 0, none⟩ (.int .i64 0)).setCell ⟨w.heap.size + 1, 1, none⟩ (.bool false)).setCell ⟨w.heap.size + 1, 2, none⟩ (.int .i64 0)) b t cs := fun b t cs h1 h2 h =>
          (((((h.far (p := ⟨w.heap.size, 0, none⟩) h1 _).far (p := ⟨w.heap.size, 1, none⟩) h1 _).far (p := ⟨w.heap.size, 2, none⟩) h1 _).far (p := ⟨w.heap.size + 1, 0, none⟩) h2 _).far (p := ⟨w.heap.size + 1, 1, none⟩) h2 _).far (p := ⟨w.heap.size + 1, 2, none⟩) h2 _
        refine ⟨⟨⟨some ⟨g, 0, none⟩, d.zs, c, d.u, some ⟨gd, 0, none⟩, ds, i⟩, ?_, ⟨(far6 g _ _ (by omega) (by omega) HR9.out).ri_app HDI.out.shp.1, (far6 gd _ _ (by omega) (by omega) HG9.out).ri HOV.out.2.1, HDI.out.ls, HOV.out.2.2⟩, HDZ.out, HDU.out, rfl⟩, HGf.out⟩
        rw [HDL.out]
        rfl
set_option maxRecDepth 100000 in
set_option maxHeartbeats 2000000 in
theorem relement_c (op : Int) (ts : List Ten) (A B : Option Addr) (nq qcap cap : Nat) (zs : List Int) (u : Bool) (k : Nat) (out : List Int) (i : Int) (w : World)
    (hR : Row w B (ts.flatMap Ten.vals)) (hI : ∀ t ∈ ts, t.In w) (hl : ts.length ≤ 1000000)
    (HRes : ∀ W B' cap', Below w.heap.size w W → Row W B' (ts.flatMap fun t => t.look.vals) → Calls Tryd.prog 44 #[.int .i64 op, .slice A nq qcap, .slice B' ts.length cap'] W (RefE W zs u k))
    (hout : Cel.fault ts k = (0, none) → out.length = (Shp.elems zs).toNat)
    (HEl : Cel.fault ts k = (0, none) → ∀ (i : Nat) (v : Int) (W : World) (d : Dsc), out[i]? = some v → Below w.heap.size w W → d.In W → d.zs = zs → d.u = u → Calls Tryd.prog 47 #[.int .i64 op, .slice A nq qcap, .int .i64 i, .slice B ts.length cap, .agg (dcells d.P d.zs.length d.cap d.u)] W fun e w' => e = .returned (.int .i64 v) ∧ Below W.heap.size W w') :
    Calls Tryd.prog 25 #[.int .i64 op, .slice A nq qcap, .int .i64 i, .slice B ts.length cap] w fun e w' => e = .returned (.int .i64 (if Cel.fault ts k = (0, none) then (if 0 ≤ i then out.getD i.toNat 0 else 0) else 0)) ∧ Below w.heap.size w w' := by
  have V : Hid (∀ (i : Nat) (t : Ten), ts[i]? = some t → ∀ W, Below w.heap.size w W → Calls Tryd.prog 58 #[.agg (tcells t.P t.zs.length t.cap t.u t.D t.ds.length t.dcap)] W fun e w' => e = .returned (.bool (decide (t.fault = (0, none)))) ∧ Below W.heap.size W w') := hide fun i t ht W hb => by
    have h := (hI t (List.mem_of_getElem? ht)).below hb
    exact good_c t.zs t.ds t.P t.D t.cap t.dcap t.u W h.shp h.dat h.ls h.ld
  have HR := hide hR
  have HDO := hide (fun W (hb : Below w.heap.size w W) => descsof_c ts B cap W (hR.below hb) hl)
  have HRE := hide HRes
  have HOU := hide hout
  have HEL := hide HEl
  have HB : Hid (Below w.heap.size w w) := hide (Below.refl _ _)
  obtain ⟨n, hn⟩ : ∃ n, Hid (ts.length = n) := ⟨_, hide rfl⟩
  rw [hn.out] at hl HDO HRE HEL ⊢
  obtain ⟨X, hX⟩ : ∃ X, Hid ((if Cel.fault ts k = (0, none) then (if 0 ≤ i then out.getD i.toNat 0 else 0) else 0) = X) := ⟨_, hide rfl⟩
  have HX0 : Hid (Cel.fault ts k ≠ (0, none) → X = 0) := hide (fun h => by rw [← hX.out, if_neg h])
  have HX1 : Hid (Cel.fault ts k = (0, none) → (if 0 ≤ i then out.getD i.toNat 0 else 0) = X) := hide (fun h => by rw [← hX.out, if_pos h])
  rw [hX.out]
  clear hR hI HRes hout HEl
  go_enter Tryd.func25, Tryd.ntmps25
  go_wp2_with fail
  go_loopw [9] (fun k9 wr => ∃ j : Nat, j ≤ n ∧ k9 = .int .i64 j ∧ Hid (Below w.heap.size w wr) ∧ Hid (∀ (l : Nat) x, l < j → ts[l]? = some x → x.fault = (0, none))) (fun k9 _ => n - (intOf k9).toNat)
  case atStart => exact ⟨0, by omega, rfl, HB, hide (fun l x hl => by omega)⟩
  case round =>
    clear HB
    obtain ⟨j, hj, rfl, HB, HF⟩ := hrel
    by_cases hlt : j < n
    case pos =>
      obtain ⟨ad, t, rfl, had, ht, c0, c1, c2⟩ := row_ten (HR.out.below HB.out) j (by rw [hn.out]; exact hlt)
      have HV := hide (V.out j t ht.out _ HB.out)
      clear had
      go_wp2_with fail
      clear c0 c1 c2
      refine HV.out.mono ?_
      rintro e w1 ⟨rfl, hb⟩
      replace HB := hide (HB.out.trans (hb.mono HB.out.size))
      clear hb HV
      by_cases hf : t.fault = (0, none)
      case neg =>
        rw [decide_eq_false hf]
        have HFI := Tens.first_at ts j t ht.out HF.out hf
        have hx : X = 0 := HX0.out (by rw [Cel.fault_first (by rw [HFI]; exact hf), HFI]; exact hf)
        have HXX := hide hx
        clear hf HFI hx
        go_wp2_with fail
        go_ret
        exact ⟨by rw [HXX.out]; rfl, HB.out⟩
      case pos =>
        rw [decide_eq_true hf]
        have HFt := hide hf
        clear hf
        go_wp2_with fail
        go_roundw
        case rel =>
          refine ⟨j + 1, by omega, by go_num, HB, hide (fun l x hl hx => ?_)⟩
          rcases Nat.lt_or_ge l j with h | h
          · exact HF.out l x h hx
          · obtain rfl : l = j := by omega
            rw [ht.out] at hx
            obtain rfl := Option.some.inj hx
            exact HFt.out
        case measure => simp [intOf]; omega
    case neg =>
    obtain rfl : j = n := by omega
    have HFN := hide (Tens.first_none ts fun l x hx => HF.out l x (by have := (List.getElem?_eq_some_iff.1 hx).1; rw [hn.out] at this; exact this) hx)
    have HCF := hide (Cel.fault_code (k := k) HFN.out)
    clear HF V
    go_wp2_with fail
    refine (HDO.out _ HB.out).mono ?_
    rintro e w1 ⟨⟨v, rfl, hown⟩, hb⟩
    replace HB := hide (HB.out.trans (hb.mono HB.out.size))
    obtain ⟨B', c', rfl, hrow, -⟩ := own_row2 hown
    have HRC := hide (HRE.out w1 B' c' HB.out hrow)
    clear hb hown hrow HDO HRE
    go_wp2_with fail
    refine HRC.out.mono ?_
    rintro e w2 ⟨⟨d, rfl, hdi, hdf, hdz, hdu⟩, hb⟩
    replace HB := hide (HB.out.trans (hb.mono HB.out.size))
    have HDZ := hide hdz
    have HDU := hide hdu
    clear hb HRC hdz hdu hdf
    obtain ⟨w3, hw3⟩ : ∃ W, W = w2.alloc (.cells #[.slice d.P d.zs.length d.cap, .bool d.u] 24) := ⟨_, rfl⟩
    have hb3 : Below w2.heap.size w2 w3 := by rw [hw3]; exact (Below.refl _ _).alloc (Nat.le_refl _) _
    have HT10 : Hid (Has w3 w2.heap.size 24 [.slice d.P d.zs.length d.cap, .bool d.u]) := hide (by rw [hw3]; exact Has.new _ _ _)
    replace HB := hide (HB.out.trans (hb3.mono HB.out.size))
    have HDI := hide (hdi.below hb3)
    have HW3 := hide hw3
    clear hb3 hw3 hdi
    by_cases h0 : k = 0
    case neg =>
      have h1 : ((k : Int) == 0) = false := by simp; omega
      have h2 : ((k : Int) != 0) = true := by simp; omega
      have hx : X = 0 := HX0.out (by rw [HCF.out]; intro h; exact h0 (Prod.mk.inj h).1)
      have HXX := hide hx
      clear h0 hx
      go_wp2_with fail
      rw [← HW3.out]
      clear HW3
      go_ret
      exact ⟨by rw [HXX.out]; rfl, HB.out⟩
    case pos =>
    subst h0
    have HOV := hide (HOU.out HCF.out)
    have HEV := hide (HEL.out HCF.out)
    have HXV := hide (HX1.out HCF.out)
    clear HOU HEL HX0 HX1 HCF
    have h2 : ((0 : Int) != 0) = false := rfl
    by_cases hi0 : 0 ≤ i
    case neg =>
      have hi1 : i < 0 := by omega
      have hx : X = 0 := by rw [← HXV.out, if_neg hi0]
      have HXX := hide hx
      clear hi0 hx
      go_wp2_with fail
      rw [← HW3.out]
      clear HW3
      go_ret
      exact ⟨by rw [HXX.out]; rfl, HB.out⟩
    case pos =>
    have hi1 : ¬ i < 0 := by omega
    have HEC := hide (refelems_c d.zs d.P d.cap w3 HDI.out.shp (by have := HDI.out.ls; omega))
    rw [HDZ.out] at HEC
    have hEb := Shp.elems_le zs
    obtain ⟨m, hm⟩ : ∃ m : Nat, Hid (Shp.elems zs = (m : Int)) := ⟨(Shp.elems zs).toNat, hide (by omega)⟩
    rw [hm.out] at HEC HOV
    rw [← HDZ.out] at HEC
    obtain ⟨l, rfl⟩ : ∃ l : Nat, i = l := ⟨i.toNat, by omega⟩
    clear hEb
    go_wp2_with fail
    rw [← HW3.out]
    clear HW3 h2
    refine HEC.out.mono ?_
    rintro e w4 ⟨rfl, hb⟩
    replace HB := hide (HB.out.trans (hb.mono HB.out.size))
    replace HT10 := hide (HT10.out.below hb HT10.out.lt)
    replace HDI := hide (HDI.out.below hb)
    clear hb HEC
    by_cases hlm : l < m
    case neg =>
      have g1 : (m : Int) ≤ (l : Int) := by omega
      have hx : X = 0 := by
        rw [← HXV.out, if_pos hi0, Int.toNat_natCast, List.getD_eq_getElem?_getD, List.getElem?_eq_none (by rw [HOV.out, Int.toNat_natCast]; omega)]
        rfl
      have HXX := hide hx
      clear hlm hx
      go_wp2_with fail
      go_ret
      exact ⟨by rw [HXX.out]; rfl, HB.out⟩
    case pos =>
    have g1 : ¬ (m : Int) ≤ (l : Int) := by omega
    obtain ⟨v, hv⟩ : ∃ v, out[l]? = some v := ⟨_, List.getElem?_eq_getElem (by rw [HOV.out, Int.toNat_natCast]; exact hlm)⟩
    have hx : X = v := by
      rw [← HXV.out, if_pos hi0, Int.toNat_natCast, List.getD_eq_getElem?_getD, hv]
      rfl
    have HXX := hide hx
    have HC := hide (HEV.out l v w4 d hv HB.out HDI.out HDZ.out HDU.out)
    have c0 := HT10.out.cell 0
    have c1 := HT10.out.cell 1
    clear hlm hx hv
    go_wp2_with fail
    clear c0 c1
    refine HC.out.mono ?_
    rintro e w5 ⟨rfl, hb⟩
    replace HB := hide (HB.out.trans (hb.mono HB.out.size))
    go_wp2_with fail
    go_ret
    exact ⟨by rw [HXX.out]; rfl, HB.out⟩
set_option maxRecDepth 100000 in
theorem samefault_g (k i : Int) (p : Bool) (w : World) :
    Calls Tryd.prog 55 #[.agg (gcells k p i), .agg (gcells k p i)] w fun e w' => e = .returned (.bool true) ∧ Below w.heap.size w w' := by
  have hfin := ((Below.refl _ w).alloc (Nat.le_refl _) (Obj.cells (gcells k p i) 34)).alloc (by simp) (Obj.cells (gcells k p i) 34)
  go_enter Tryd.func55, Tryd.ntmps55
  go_wp2_with fail
  go_ret
  exact ⟨by first | rfl | simp, hfin⟩
theorem step_load_g {ops : Array Oper} {o : Oper} {a : Act} {w : World} {K : Act → World → Prop} {Q : Exit → Act → World → Prop} {E : Prop} (hwt : Region.wanted o (yielded ops a.tmps) = true) (x : Operand) (ho : o.op = .load 34 x)
    (g : Nat) (hx : a.eval x = .pointer (some ⟨g, 0, none⟩)) (c i : Int) (p : Bool) (t : TypeId) (fr : Nat × Nat) (hg : w.heap[g]? = some (.cells (gcells c p i) t fr))
    (h : K (a.put o.dst (.agg (gcells c p i))) w) : if Region.wanted o (yielded ops a.tmps) = true then Oper.wp Tryd.prog o a w K Q else E := by
  rw [if_pos hwt]
  exact wp_load_row 34 x ho g hx t (gcells c p i) fr _ hg Tryd.underlying34 rfl (gsize c i p) h
set_option maxRecDepth 100000 in
theorem same_g (v : Value) (c i : Int) (p : Bool) (w : World) (hF : ∀ w', Below w.heap.size w w' → Calls Tryd.prog 56 #[v] w' fun e w2 => e = .returned (.agg (gcells c p i)) ∧ Below w'.heap.size w' w2) :
    Calls Tryd.prog 20 #[v, .agg (gcells c p i)] w fun e w' => e = .returned (.bool true) ∧ Below w.heap.size w w' := by
  have HF := hidE hF
  clear hF
  have HB1 := hidE ((Below.refl _ w).alloc (Nat.le_refl _) (Obj.cells (gcells c p i) 34)).drew
  have HZ1 : Hid (((w.alloc (Obj.cells (gcells c p i) 34)).drew).heap[w.heap.size]? = some (Obj.cells (gcells c p i) 34 (0, 0))) := hidE (heap_alloc_new w (Obj.cells (gcells c p i) 34))
  go_enter Tryd.func20, Tryd.ntmps20
  go_wp2_with fail
  refine wp_region_any (by kernel_rfl) ?_
  change wpAny _ _ _ _ _ _ _ (World.drew _)
  obtain ⟨w1, hw1⟩ : ∃ w1, Hid ((w.alloc (Obj.cells (gcells c p i) 34)).drew = w1) := ⟨_, hidE rfl⟩
  rw [hw1.out] at HB1 HZ1
  generalize hwg : World.drew _ = w1'
  have hwg' : (w.alloc (Obj.cells (gcells c p i) 34)).drew = w1' := hwg
  obtain rfl : w1 = w1' := hw1.out.symm.trans hwg'
  clear hw1 hwg hwg'
  refine wpAny_take (i := 0) (v := v) rfl (by kernel_rfl) (by kernel_rfl) (by kernel_rfl) (fun _ _ _ h => h) (Or.inl ⟨by rfl, by intro w; go_simp⟩) ?_
  refine wpAny_ready (rs := [1, 2]) (by kernel_rfl) (by simp) ?_
  refine AllReady.cons rfl (fun K hK => ?_) (AllReady.cons rfl (fun K hK => ?_) AllReady.nil)
  focus
    go_simp
    refine (HF.out w1 HB1.out).mono ?_
    rintro e w2 ⟨rfl, hb2⟩
    refine hK _ _ ?_
    clear hK K
    have hlt : w.heap.size < w1.heap.size := by
      rcases Nat.lt_or_ge w.heap.size w1.heap.size with h' | h'
      · exact h'
      · have := HZ1.out
        rw [Array.getElem?_eq_none h'] at this; cases this
    have HZ2 := hidE ((hb2.block _ hlt).trans HZ1.out)
    have HB2 := hidE (HB1.out.trans (hb2.mono HB1.out.size))
    clear hb2 hlt
    refine wpAny_ready (rs := [2]) (by kernel_rfl) (by simp) ?_
    refine AllReady.cons rfl (fun K hK => ?_) AllReady.nil
    refine step_load_g (by rfl) (.tmp 3) rfl w.heap.size rfl c i p _ _ HZ2.out ?_
    refine hK _ _ ?_
    clear hK K HZ2
  rotate_left
  focus
    refine step_load_g (by rfl) (.tmp 3) rfl w.heap.size rfl c i p _ _ HZ1.out ?_
    refine hK _ _ ?_
    clear hK K
    refine wpAny_ready (rs := [1]) (by kernel_rfl) (by simp) ?_
    refine AllReady.cons rfl (fun K hK => ?_) AllReady.nil
    go_simp
    refine (HF.out w1 HB1.out).mono ?_
    rintro e w2 ⟨rfl, hb2⟩
    refine hK _ _ ?_
    clear hK K
    have HB2 := hidE (HB1.out.trans (hb2.mono HB1.out.size))
    clear hb2
  all_goals
    refine wpAny_ready (rs := [3]) (by kernel_rfl) (by simp) ?_
    refine AllReady.cons rfl (fun K hK => ?_) AllReady.nil
    go_simp
    refine (samefault_g c i p w2).mono ?_
    rintro e w3 ⟨rfl, hb3⟩
    refine hK _ _ ?_
    clear hK K
    have hfin := HB2.out.trans (hb3.mono HB2.out.size)
    clear hb3
    refine wpAny_ready (rs := [4]) (by kernel_rfl) (by simp) ?_
    refine AllReady.cons rfl (fun K hK => ?_) AllReady.nil
    go_simp
    refine hK _ _ ?_
    clear hK K
    refine wpAny_done (by kernel_rfl) ?_ _
    go_wp2_with fail
    go_ret
    exact ⟨rfl, hfin⟩
theorem run_isat (g : Nat) (w : World) : (Instr.typeAssert (.iface 108 (.pointer (some ⟨g, 0, none⟩))) 30 108 true).run Tryd.prog w = .ok (.tuple #[.pointer (some ⟨g, 0, none⟩), .bool true]) w := by kernel_rfl
abbrev FatS (g : Nat) (w : World) (x y : Value) (W : World) : Prop := W.cell? ⟨g, 0, none⟩ = some x ∧ W.cell? ⟨g, 1, none⟩ = some y ∧ Hid (Below w.heap.size w W)
theorem FatS.keep {g : Nat} {w : World} {x y : Value} {W W' : World} (h : FatS g w x y W) (hb : Below W.heap.size W W') : FatS g w x y W' :=
  ⟨ten_kept h.1 hb, ten_kept h.2.1 hb, hide (h.2.2.out.trans (hb.mono h.2.2.out.size))⟩
theorem FatS.of {g : Nat} {w W : World} {x y : Value} {t : TypeId} (h : Has W g t [x, y]) (hb : Below w.heap.size w W) : FatS g w x y W :=
  ⟨by rw [h.cell]; rfl, by rw [h.cell]; rfl, hide hb⟩
set_option maxRecDepth 100000 in
set_option maxHeartbeats 4000000 in
theorem fault_at (es : List Addr) (j : Nat) (a : Addr) (hj : es[j]? = some a) (g : Nat) (i : Int) (w : World) (h : Ez w es) (hA : Has w g 110 [.int .i64 i, errv a]) :
    Calls Tryd.prog 56 #[.iface 108 (.pointer (some ⟨g, 0, none⟩))] w fun e w' => e = .returned (.agg (gcells (101 + j) true i)) ∧ Below w.heap.size w w' := by
  have hr := run_isat g
  have hgl := hA.lt
  have hb1 := (Below.refl _ w).alloc (Nat.le_refl _) (Obj.cells (fcells 0) 34)
  have hZ : Has (w.alloc (Obj.cells (fcells 0) 34)) w.heap.size 34 [.int .i64 0, .bool false, .int .i64 0] := Has.new w _ _
  have hA1 := hA.alloc (Obj.cells (fcells 0) 34)
  have HS := hide (fun W (hb : Below w.heap.size w W) => sentinel_c es j a hj W (h.below hb))
  have HP := hide (fun W => placed_c (101 + j) i (by omega) W)
  have c0 : (w.alloc (Obj.cells (fcells 0) 34)).cell? ⟨g, 0, none⟩ = some (.int .i64 i) := by rw [hA1.cell]; rfl
  have c1 : (w.alloc (Obj.cells (fcells 0) 34)).cell? ⟨g, 1, none⟩ = some (errv a) := by rw [hA1.cell]; rfl
  obtain ⟨k, hk⟩ : ∃ k, Hid ((101 + (j : Int)) = k) := ⟨_, hide rfl⟩
  rw [hk.out] at HS HP ⊢
  have HB1 := hide hb1
  have HZ := hide hZ
  have HA1 := hide hA1
  clear h hj hA hb1 hZ hA1
  go_enter Tryd.func56, Tryd.ntmps56
  go_wp2_with fail
  have HZ1 : Hid (Has (w.alloc (Obj.cells (fcells 0) 34)).drew w.heap.size 34 [.int .i64 0, .bool false, .int .i64 0]) := hide (HZ.out.drewN 1)
  have HA2 : Hid (Has (w.alloc (Obj.cells (fcells 0) 34)).drew g 110 [.int .i64 i, errv a]) := hide (HA1.out.drewN 1)
  have HB2 := hide HB1.out.drew
  have hS0 : FatS g w (.int .i64 i) (errv a) (w.alloc (Obj.cells (fcells 0) 34)).drew := ⟨c0, c1, HB2⟩
  clear c0 c1 HB1 HZ HA1
  go_region_held3 (fun W => W.cell? ⟨g, 0, none⟩ = some (.int .i64 i) ∧ W.cell? ⟨g, 1, none⟩ = some (errv a) ∧ Hid (Below w.heap.size w W))
    (first | exact hS0 | assumption | exact hS9.out | exact FatS.keep (by assumption) hb)
    (first
      | (go_at_call 86; refine (HS.out _ HB2.out).mono ?_; rintro e W2 ⟨rfl, hb⟩; have hz2 := HZ1.out.below hb HZ1.out.lt; have hB3 := HB2.out.trans (hb.mono HB2.out.size); have ha2 := HA2.out.below hb HA2.out.lt)
      | (go_at_call 66; refine (HP.out _).mono ?_; rintro e W3 ⟨rfl, hb⟩; have hz3 := hz2.below hb hz2.lt; have hB4 := hB3.trans (hb.mono hB3.size); have ha3 := ha2.below hb ha2.lt; have d0 : W3.cell? ⟨w.heap.size, 0, none⟩ = some (.int .i64 0) := (by rw [hz3.cell]; rfl); have d1 : W3.cell? ⟨w.heap.size, 1, none⟩ = some (.bool false) := (by rw [hz3.cell]; rfl); have d2 : W3.cell? ⟨w.heap.size, 2, none⟩ = some (.int .i64 0) := (by rw [hz3.cell]; rfl); have f0 := hz3.frozen 0; have f1 := hz3.frozen 1; have f2 := hz3.frozen 2; have HZ4 := hide (((hz3.set_ 0 (.int .i64 k)).set_ 1 (.bool true)).set_ 2 (.int .i64 i)); have HB5 := hide (((hB4.setCell (p := ⟨w.heap.size, 0, none⟩) (Nat.le_refl _) (.int .i64 k)).setCell (p := ⟨w.heap.size, 1, none⟩) (Nat.le_refl _) (.bool true)).setCell (p := ⟨w.heap.size, 2, none⟩) (Nat.le_refl _) (.int .i64 i)); have ha4 := ((ha3.far (p := ⟨w.heap.size, 0, none⟩) (by simp; omega) (.int .i64 k)).far (p := ⟨w.heap.size, 1, none⟩) (by simp; omega) (.bool true)).far (p := ⟨w.heap.size, 2, none⟩) (by simp; omega) (.int .i64 i); have hS9 := hide (FatS.of ha4 HB5.out)))
  go_wp2_with fail
  refine bodyPost_ret (results_cell_row rfl _ _ w.heap.size 34 (gcells k true i) (0, 0) _ rfl HZ4.out Tryd.underlying34 rfl (gsize k i true)) rfl ?_
  exact ⟨rfl, HB5.out⟩
theorem same_terr {es : List Addr} {ah am ar : Addr} (hah : es[0]? = some ah) (ham : es[3]? = some am) (har : es[1]? = some ar) (v : Value) (R : Nat × Option Nat) (hc : R = (0, none) ∨ R = (101, none) ∨ R = (102, none) ∨ R = (104, none) ∨ ∃ i, R = (102, some i)) (w : World) (h : Ez w es) (ht : TErr w ah am ar v R) :
    Calls Tryd.prog 20 #[v, .agg (Tens.fval R)] w fun e w' => e = .returned (.bool true) ∧ Below w.heap.size w w' := by
  rcases hc with rfl | rfl | rfl | rfl | ⟨i, rfl⟩
  · obtain rfl : v = .nilIface := ht
    exact same_g .nilIface 0 0 false w fun w' _ => fault_nil w'
  · obtain rfl : v = errv ah := ht
    exact same_g (errv ah) 101 0 false w fun w' hb => fault_c es 0 ah hah w' (h.below hb)
  · obtain rfl : v = errv ar := ht
    exact same_g (errv ar) 102 0 false w fun w' hb => fault_c es 1 ar har w' (h.below hb)
  · obtain rfl : v = errv am := ht
    exact same_g (errv am) 104 0 false w fun w' hb => fault_c es 3 am ham w' (h.below hb)
  · obtain ⟨g, rfl, hA⟩ := ht
    exact same_g _ 102 (i : Int) true w fun w' hb => fault_at es 1 ar har g (i : Int) w' (h.below hb) (hA.below hb hA.lt)
/-- Of a code. -/
theorem is_code {es : List Addr} {ah am ar : Addr} (hah : es[0]? = some ah) (ham : es[3]? = some am) (har : es[1]? = some ar) (k : Nat) (hk : Cel.known k) (w : World) (h : Ez w es) :
    Calls Tryd.prog 22 #[Tens.err ah am ar k, .int .i64 k] w fun e w' => e = .returned (.bool true) ∧ Below w.heap.size w w' := by
  rcases hk with rfl | rfl | rfl | rfl
  · exact is_nil 0 w
  · exact is_c es 0 ah hah 101 w h
  · exact is_c es 1 ar har 102 w h
  · exact is_c es 3 am ham 104 w h
theorem Mat.ds_of {za zb : Int} {a b : Ten} {M K N : Nat} (h : Mat.Fine za zb a b M K N) : Mat.ds za zb a b = Mat.part a.ds b.ds za zb K N 0 (M * N) := by
  unfold Mat.ds
  rw [h.az, h.bz]
  rfl
theorem Mat.ds_out {za zb : Int} {a b : Ten} (h : Cel.fault [a, b] (Mat.code za zb a.look b.look) = (0, none)) :
    (Mat.ds za zb a b).length = (Shp.elems (Mat.shape za zb a.look b.look)).toNat ∧ (∀ z ∈ Mat.ds za zb a b, (Lit.int .i64 z).wf = true) ∧ (Mat.ds za zb a b).length ≤ 1000000 := by
  obtain ⟨M, K, N, hf⟩ := Mat.fine h
  have hp := Mat.prod_two M N hf.m1 hf.m2 hf.n1 hf.n2 hf.mn
  have hmn := hf.mn
  rw [Mat.ds_of hf, hf.sh, hp.2, Mat.part_length]
  refine ⟨by rw [Int.toNat_natCast], ?_, by omega⟩
  intro z hz
  obtain ⟨i, hi⟩ := List.mem_iff_getElem?.1 hz
  have hl : i < M * N := by
    have := (List.getElem?_eq_some_iff.1 hi).1
    rw [Mat.part_length] at this
    exact this
  rw [Mat.part_at _ _ _ _ _ _ _ _ _ hl] at hi
  rw [← Option.some.inj hi]
  exact wide_wf _
theorem rres_mat_look (za zb : Int) (a b : Ten) (A : Option Addr) (qcap : Nat) (w : World) (hQ : Ri w A [za, zb]) (ha : a.In w) (hb : b.In w) :
    ∀ W B' cap', Below w.heap.size w W → Row W B' ([a, b].flatMap fun t => t.look.vals) → Calls Tryd.prog 44 #[.int .i64 12, .slice A 2 qcap, .slice B' [a, b].length cap'] W (RefE W (Mat.shape za zb a.look b.look) (Mat.kind za zb a.look b.look) (Mat.code za zb a.look b.look)) :=
  fun W B' cap' hB hRow => rres_mat za zb a.look b.look A B' qcap cap' W (hQ.below hB) hRow (ha.below hB).look (hb.below hB).look
theorem relem_mat_at (za zb : Int) (a b : Ten) (A B : Option Addr) (qcap cap : Nat) (w : World) (hQ : Ri w A [za, zb]) (hR : Row w B ([a, b].flatMap Ten.vals)) (ha : a.In w) (hb : b.In w) (h : Cel.fault [a, b] (Mat.code za zb a.look b.look) = (0, none)) :
    ∀ (i : Nat) (v : Int) (W : World) (d : Dsc), (Mat.ds za zb a b)[i]? = some v → Below w.heap.size w W → d.In W → d.zs = Mat.shape za zb a.look b.look → d.u = Mat.kind za zb a.look b.look → Calls Tryd.prog 47 #[.int .i64 12, .slice A 2 qcap, .int .i64 i, .slice B [a, b].length cap, .agg (dcells d.P d.zs.length d.cap d.u)] W fun e w' => e = .returned (.int .i64 v) ∧ Below W.heap.size W w' := by
  intro i v W d hv hB hd _ _
  obtain ⟨M, K, N, hf⟩ := Mat.fine h
  rw [Mat.ds_of hf] at hv
  have hl : i < M * N := by
    have := (List.getElem?_eq_some_iff.1 hv).1
    rw [Mat.part_length] at this
    exact this
  rw [Mat.part_at _ _ _ _ _ _ _ _ _ hl, Nat.zero_add] at hv
  rw [← Option.some.inj hv]
  exact relem_mat za zb a b M K N hf d A B qcap cap i W hl (hQ.below hB) (hR.below hB) (ha.below hB) (hb.below hB)
theorem rapply_mat (za zb : Int) (a b : Ten) (A B : Option Addr) (qcap cap : Nat) (w : World) (hQ : Ri w A [za, zb]) (hR : Row w B ([a, b].flatMap Ten.vals)) (ha : a.In w) (hb : b.In w) :
    Calls Tryd.prog 16 #[.int .i64 12, .slice A 2 qcap, .slice B 2 cap] w (RTenE w (Cel.fault [a, b] (Mat.code za zb a.look b.look)) (Cel.or [a, b] (Mat.code za zb a.look b.look) (Mat.shape za zb a.look b.look) []) (Cel.or [a, b] (Mat.code za zb a.look b.look) (Mat.kind za zb a.look b.look) false) (Cel.or [a, b] (Mat.code za zb a.look b.look) (Mat.ds za zb a b) [])) :=
  rapply_c 12 [a, b] A B 2 qcap cap _ _ _ _ w hR (by intro t ht; simp at ht; rcases ht with rfl | rfl <;> assumption) (by simp) (rres_mat_look za zb a b A qcap w hQ ha hb) Mat.ds_out (relem_mat_at za zb a b A B qcap cap w hQ hR ha hb)
theorem relement_mat (za zb : Int) (a b : Ten) (A B : Option Addr) (qcap cap : Nat) (i : Int) (w : World) (hQ : Ri w A [za, zb]) (hR : Row w B ([a, b].flatMap Ten.vals)) (ha : a.In w) (hb : b.In w) :
    Calls Tryd.prog 25 #[.int .i64 12, .slice A 2 qcap, .int .i64 i, .slice B 2 cap] w fun e w' => e = .returned (.int .i64 (Mat.cell za zb a b i)) ∧ Below w.heap.size w w' :=
  relement_c 12 [a, b] A B 2 qcap cap _ _ _ _ i w hR (by intro t ht; simp at ht; rcases ht with rfl | rfl <;> assumption) (by simp) (rres_mat_look za zb a b A qcap w hQ ha hb) (fun h => (Mat.ds_out h).1) (relem_mat_at za zb a b A B qcap cap w hQ hR ha hb)
theorem Mat.tds_of {a : Ten} {M N : Nat} (h : Mat.TFine a M N) : Mat.tds a = Mat.turn a.ds M N 0 (N * M) ∧ Mat.tzs a = [(N : Int), (M : Int)] := by
  unfold Mat.tds Mat.tzs
  rw [h.az]
  exact ⟨rfl, rfl⟩
theorem Mat.tds_out {a : Ten} (h : Cel.fault [a] (Mat.tcode a.look) = (0, none)) :
    (Mat.tds a).length = (Shp.elems (Rf.tzs a.look)).toNat ∧ (∀ z ∈ Mat.tds a, (Lit.int .i64 z).wf = true) ∧ (Mat.tds a).length ≤ 1000000 := by
  obtain ⟨M, N, hf⟩ := Mat.tfine h
  have hmn := hf.mn
  have hp := Mat.prod_two N M hf.n1 hf.n2 hf.m1 hf.m2 (by rw [Nat.mul_comm]; exact hmn)
  have hz : Rf.tzs a.look = [(N : Int), (M : Int)] := by
    unfold Rf.tzs
    rw [if_pos (Cel.fine h).2, show a.look.zs = a.zs from rfl, hf.az]
    rfl
  rw [(Mat.tds_of hf).1, hz, hp.2, Mat.turn_length]
  refine ⟨by rw [Int.toNat_natCast], ?_, by rw [Nat.mul_comm]; omega⟩
  exact Mat.turn_wf _ a.u _ _ _ _ hf.ft
theorem rapply_turn (a : Ten) (A B : Option Addr) (qcap cap : Nat) (w : World) (hR : Row w B ([a].flatMap Ten.vals)) (ha : a.In w) :
    Calls Tryd.prog 16 #[.int .i64 21, .slice A 0 qcap, .slice B 1 cap] w (RTenE w (Cel.fault [a] (Mat.tcode a.look)) (Cel.or [a] (Mat.tcode a.look) (Rf.tzs a.look) []) (Cel.or [a] (Mat.tcode a.look) (Rf.tu a.look) false) (Cel.or [a] (Mat.tcode a.look) (Mat.tds a) [])) :=
  rapply_c 21 [a] A B 0 qcap cap _ _ _ _ w hR (by intro t ht; simp at ht; rcases ht with rfl; exact ha) (by simp) (fun W B' cap' hB hRow => rres_turn a.look A B' qcap cap' W hRow (ha.below hB).look) Mat.tds_out (fun h i v W d hv hB hd _ _ => by
    obtain ⟨M, N, hf⟩ := Mat.tfine h
    rw [(Mat.tds_of hf).1] at hv
    have hl : i < N * M := by
      have := (List.getElem?_eq_some_iff.1 hv).1
      rw [Mat.turn_length] at this
      exact this
    rw [Mat.turn_at _ _ _ _ _ _ hl, Nat.zero_add] at hv
    rw [← Option.some.inj hv]
    exact relem_turn a M N hf d A B qcap cap i W hl (hR.below hB) (ha.below hB))
theorem Cv.code3q (q0 q1 q2 : Int) (a b : Dsc) : Cv.code [q0, q1, q2] a b = (if Shp.firstbad [a, b] ≠ 0 then Shp.firstbad [a, b]
  else if a.u = true ∨ b.u = true ∨ a.zs.length ≠ 3 ∨ b.zs.length ≠ 4 ∨ b.zs.getD 2 0 ≠ a.zs.getD 2 0 then 101
  else if q0 < 1 ∨ q0 > 16 ∨ q1 < 0 ∨ q1 > 15 ∨ Tens.narrow q2 ≠ q2 then 102
  else if b.zs.getD 0 0 > a.zs.getD 0 0 + 2 * q1 ∨ b.zs.getD 1 0 > a.zs.getD 1 0 + 2 * q1 then 101
  else Shp.code (Cv.dims [q0, q1, q2] a b)) := by
  unfold Cv.code
  rw [if_neg (by simp)]
  rfl
set_option maxRecDepth 100000 in
set_option maxHeartbeats 2000000 in
theorem rconv_c (qs : List Int) (A : Option Addr) (qcap : Nat) (a b : Dsc) (w : World) (hQ : Ri w A qs) (ha : a.In w) (hb : b.In w) :
    Calls Tryd.prog 34 #[.slice A qs.length qcap, .agg (dcells a.P a.zs.length a.cap a.u), .agg (dcells b.P b.zs.length b.cap b.u)] w (RefE w (Cv.shape qs a b) (Cv.kind qs a b) (Cv.code qs a b)) := by
  obtain ⟨W0, hW0⟩ : ∃ W, W = (((w.alloc (.cells #[.slice a.P a.zs.length a.cap, .bool a.u] 24)).alloc (.cells #[.slice b.P b.zs.length b.cap, .bool b.u] 24)).alloc (.cells #[.slice none 0 0, .bool false] 24)) := ⟨_, rfl⟩
  have HA : Hid (Has W0 w.heap.size 24 [.slice a.P a.zs.length a.cap, .bool a.u]) := hide (by rw [hW0]; exact ((Has.new w 24 _).alloc _).alloc _)
  have HB : Hid (Has W0 (w.heap.size + 1) 24 [.slice b.P b.zs.length b.cap, .bool b.u]) := hide (by rw [hW0]; exact (box_at _ _ _ _ (by simp)).alloc _)
  have HZ : Hid (Has W0 (w.heap.size + 2) 24 [.slice none 0 0, .bool false]) := hide (by rw [hW0]; exact box_at _ _ _ _ (by simp))
  have HB0 : Hid (Below w.heap.size w W0) := hide (by rw [hW0]; exact (((Below.refl _ _).alloc (Nat.le_refl _) _).alloc (by simp) _).alloc (by simp; omega) _)
  have hs0 : W0.heap.size = w.heap.size + 3 := by rw [hW0]; simp
  have HW := hide hW0
  by_cases hq : qs.length = 3
  case neg =>
    have hcd : Cv.code qs a b = 101 := by
      unfold Cv.code
      rw [if_pos hq]
    obtain ⟨e1, e2⟩ := Cv.bad (by rw [hcd]; decide)
    have HD1 := hide e1
    have HD2 := hide e2
    have HCD := hide hcd
    clear e1 e2 hcd
    obtain ⟨nq, hnq⟩ : ∃ n, Hid (qs.length = n) := ⟨_, hide rfl⟩
    rw [hnq.out] at hq ⊢
    have i1 : ((nq : Int) == 3) = false := by simp; omega
    have i2 : ((nq : Int) != 3) = true := by simp; omega
    clear hQ ha hb hW0 hq hs0
    go_enter Tryd.func34, Tryd.ntmps34
    go_wp2_with fail
    rw [← HW.out]
    refine bodyPost_ret (results_desc rfl _ _ (w.heap.size + 2) _ _ rfl HZ.out) rfl ?_
    rw [HD1.out, HD2.out, HCD.out]
    exact RefE.bad rfl HB0.out
  case pos =>
  obtain ⟨q0, q1, q2, rfl⟩ : ∃ x y z, qs = [x, y, z] := by
    match qs, hq with
    | [x, y, z], _ => exact ⟨x, y, z, rfl⟩
  clear hq
  obtain ⟨pq, hpq, hpql, e0, e1, e2⟩ := ri_three hQ
  subst hpq
  have HQ0 := hide e0
  have HQ1 := hide e1
  have HQ2 := hide e2
  have HQL := hide hpql
  obtain ⟨W1, hW1⟩ : ∃ W, W = W0.alloc (.cells #[.slice a.P a.zs.length a.cap, .bool a.u, .slice b.P b.zs.length b.cap, .bool b.u] 24) := ⟨_, rfl⟩
  have HS : Hid (Has W1 (w.heap.size + 3) 24 ([a, b].flatMap Dsc.vals)) := hide (by rw [hW1]; exact box_at _ _ _ _ hs0)
  have hb1 : Below W0.heap.size W0 W1 := by rw [hW1]; exact (Below.refl _ _).alloc (Nat.le_refl _) _
  replace HA := hide (HA.out.below hb1 HA.out.lt)
  replace HB := hide (HB.out.below hb1 HB.out.lt)
  replace HZ := hide (HZ.out.below hb1 HZ.out.lt)
  replace HB0 := hide (HB0.out.trans (hb1.mono HB0.out.size))
  have HW1 : Hid (W1 = ((((w.alloc (.cells #[.slice a.P a.zs.length a.cap, .bool a.u] 24)).alloc (.cells #[.slice b.P b.zs.length b.cap, .bool b.u] 24)).alloc (.cells #[.slice none 0 0, .bool false] 24)).alloc (.cells #[.slice a.P a.zs.length a.cap, .bool a.u, .slice b.P b.zs.length b.cap, .bool b.u] 24))) := hide (by rw [hW1, hW0])
  have HDS := hide (descs_c [a, b] (some ⟨w.heap.size + 3, 0, none⟩) 2 W1 HS.out.row (fun d hd => by
    simp at hd
    rcases hd with rfl | rfl
    · exact ha.below HB0.out
    · exact hb.below HB0.out) (by simp))
  have HIa := hide (fun W (h : Below w.heap.size w W) => ha.shp.below h)
  have HIb := hide (fun W (h : Below w.heap.size w W) => hb.shp.below h)
  have HNW := hide (fun n W => rnarrow_c n W)
  have HQR := hide hQ.1
  obtain ⟨F, hF⟩ : ∃ n, Hid (Shp.firstbad [a, b] = n) := ⟨_, hide rfl⟩
  rw [hF.out] at HDS
  clear hQ ha hb hW0 hs0 e0 e1 e2 hpql hW1 hb1 HS HW
  show Calls Tryd.prog 34 #[.slice (some pq) 3 qcap, .agg (dcells a.P a.zs.length a.cap a.u), .agg (dcells b.P b.zs.length b.cap b.u)] w _
  go_enter Tryd.func34, Tryd.ntmps34
  go_wp2_with fail
  rw [← HW1.out]
  clear HW1
  refine HDS.out.mono ?_
  rintro e w1 ⟨rfl, hb⟩
  replace HA := hide (HA.out.below hb HA.out.lt)
  replace HB := hide (HB.out.below hb HB.out.lt)
  replace HZ := hide (HZ.out.below hb HZ.out.lt)
  replace HB0 := hide (HB0.out.trans (hb.mono HB0.out.size))
  clear hb HDS
  by_cases h0 : F = 0
  case neg =>
    have hcd : Cv.code [q0, q1, q2] a b = F := by
      rw [Cv.code3q, hF.out, if_pos h0]
    obtain ⟨e1, e2⟩ := Cv.bad (by rw [hcd]; exact h0)
    have HD1 := hide e1
    have HD2 := hide e2
    have HCD := hide hcd
    have h1 : ((F : Int) == 0) = false := by simp; omega
    have h2 : ((F : Int) != 0) = true := by simp; omega
    clear e1 e2 hcd h0
    obtain ⟨z0, z1, zf0, zf1, HZf, HFf⟩ := elm_two HZ.out HB0.out (Nat.le_add_right _ 2) (.slice none 0 0) (.bool false)
    go_wp2_with fail
    refine bodyPost_ret (results_desc rfl _ _ (w.heap.size + 2) _ _ rfl HZf.out) rfl ?_
    rw [HD1.out, HD2.out, HCD.out]
    exact RefE.bad rfl HFf.out
  case pos =>
  subst h0
  have HFB := hF
  have hca : Shp.code a.zs = 0 := Classical.byContradiction fun h => by
    have h1 := hF.out
    unfold Shp.firstbad at h1
    rw [if_neg h] at h1
    exact h h1
  have hcb : Shp.code b.zs = 0 := Classical.byContradiction fun h => by
    have h1 := hF.out
    unfold Shp.firstbad at h1
    rw [if_pos hca] at h1
    unfold Shp.firstbad at h1
    rw [if_neg h] at h1
    exact h h1
  have HCA := hide (Shp.whole hca).2.1
  have HCB := hide (Shp.whole hcb).2.1
  clear hca hcb
  have HC101 : Hid (¬ (¬ (a.u = true ∨ b.u = true ∨ a.zs.length ≠ 3 ∨ b.zs.length ≠ 4 ∨ b.zs.getD 2 0 ≠ a.zs.getD 2 0)) → Cv.code [q0, q1, q2] a b = 101) := hide (fun h => by
    rw [Cv.code3q, if_neg (by rw [HFB.out]; simp), if_pos (Classical.byContradiction h)])
  have HC102 : Hid (¬ (a.u = true ∨ b.u = true ∨ a.zs.length ≠ 3 ∨ b.zs.length ≠ 4 ∨ b.zs.getD 2 0 ≠ a.zs.getD 2 0) → (q0 < 1 ∨ q0 > 16 ∨ q1 < 0 ∨ q1 > 15 ∨ Tens.narrow q2 ≠ q2) → Cv.code [q0, q1, q2] a b = 102) := hide (fun h h' => by
    rw [Cv.code3q, if_neg (by rw [HFB.out]; simp), if_neg h, if_pos h'])
  have HC103 : Hid (¬ (a.u = true ∨ b.u = true ∨ a.zs.length ≠ 3 ∨ b.zs.length ≠ 4 ∨ b.zs.getD 2 0 ≠ a.zs.getD 2 0) → ¬ (q0 < 1 ∨ q0 > 16 ∨ q1 < 0 ∨ q1 > 15 ∨ Tens.narrow q2 ≠ q2) → (b.zs.getD 0 0 > a.zs.getD 0 0 + 2 * q1 ∨ b.zs.getD 1 0 > a.zs.getD 1 0 + 2 * q1) → Cv.code [q0, q1, q2] a b = 101) := hide (fun h h' h2 => by
    rw [Cv.code3q, if_neg (by rw [HFB.out]; simp), if_neg h, if_neg h', if_pos h2])
  have HC104 : Hid (¬ (a.u = true ∨ b.u = true ∨ a.zs.length ≠ 3 ∨ b.zs.length ≠ 4 ∨ b.zs.getD 2 0 ≠ a.zs.getD 2 0) → ¬ (q0 < 1 ∨ q0 > 16 ∨ q1 < 0 ∨ q1 > 15 ∨ Tens.narrow q2 ≠ q2) → ¬ (b.zs.getD 0 0 > a.zs.getD 0 0 + 2 * q1 ∨ b.zs.getD 1 0 > a.zs.getD 1 0 + 2 * q1) → Cv.code [q0, q1, q2] a b = Shp.code (Cv.dims [q0, q1, q2] a b)) := hide (fun h h' h2 => by
    rw [Cv.code3q, if_neg (by rw [HFB.out]; simp), if_neg h, if_neg h', if_neg h2])
  obtain ⟨na, hna⟩ : ∃ n, Hid (a.zs.length = n) := ⟨_, hide rfl⟩
  obtain ⟨nb, hnb⟩ : ∃ n, Hid (b.zs.length = n) := ⟨_, hide rfl⟩
  obtain ⟨ua, hua⟩ : ∃ n, Hid (a.u = n) := ⟨_, hide rfl⟩
  obtain ⟨ub, hub⟩ : ∃ n, Hid (b.u = n) := ⟨_, hide rfl⟩
  rw [hna.out, hnb.out, hua.out, hub.out] at HC101 HC102 HC103 HC104
  rw [hna.out, hua.out] at HA
  rw [hnb.out, hub.out] at HB
  have a0 : w1.cell? ⟨w.heap.size, 0, none⟩ = some (.slice a.P na a.cap) := HA.out.cell 0
  have a1 : w1.cell? ⟨w.heap.size, 1, none⟩ = some (.bool ua) := HA.out.cell 1
  have b0 : w1.cell? ⟨w.heap.size + 1, 0, none⟩ = some (.slice b.P nb b.cap) := HB.out.cell 0
  have b1 : w1.cell? ⟨w.heap.size + 1, 1, none⟩ = some (.bool ub) := HB.out.cell 1
  have hq1 : ((0 : Int) == 0) = true := rfl
  have hq2 : ((0 : Int) != 0) = false := rfl
  go_wp2_with fail
  clear hq1 hq2
  by_cases h1 : na = 3
  case neg =>
    have i1 : ((na : Int) == 3) = false := by simp; omega
    have i2 : ((na : Int) != 3) = true := by simp; omega
    have hcd : Cv.code [q0, q1, q2] a b = 101 := HC101.out (by exact fun h => h (.inr (.inr (.inl h1))))
    obtain ⟨e1, e2⟩ := Cv.bad (by rw [hcd]; decide)
    have HD1 := hide e1
    have HD2 := hide e2
    have HCD := hide hcd
    clear e1 e2 hcd
    go_quiet (fail)
    clear a0 a1 b0 b1
    replace HZ := hide (HZ.out.drewN nq)
    replace HA := hide (HA.out.drewN nq)
    replace HB := hide (HB.out.drewN nq)
    replace HB0 := hide (below_drewN HB0.out nq)
    generalize w1.drewN nq = W3 at *
    obtain ⟨z0, z1, zf0, zf1, HZf, HFf⟩ := elm_two HZ.out HB0.out (Nat.le_add_right _ 2) (.slice none 0 0) (.bool false)
    go_wp2_with fail
    refine bodyPost_ret (results_desc rfl _ _ (w.heap.size + 2) _ _ rfl HZf.out) rfl ?_
    rw [HD1.out, HD2.out, HCD.out]
    exact RefE.bad rfl HFf.out
  case pos =>
  subst h1
  by_cases h2 : nb = 4
  case neg =>
    have i1 : ((nb : Int) == 4) = false := by simp; omega
    have i2 : ((nb : Int) != 4) = true := by simp; omega
    have hcd : Cv.code [q0, q1, q2] a b = 101 := HC101.out (by exact fun h => h (.inr (.inr (.inr (.inl h2)))))
    obtain ⟨e1, e2⟩ := Cv.bad (by rw [hcd]; decide)
    have HD1 := hide e1
    have HD2 := hide e2
    have HCD := hide hcd
    clear e1 e2 hcd
    go_quiet (fail)
    clear a0 a1 b0 b1
    replace HZ := hide (HZ.out.drewN nq)
    replace HA := hide (HA.out.drewN nq)
    replace HB := hide (HB.out.drewN nq)
    replace HB0 := hide (below_drewN HB0.out nq)
    generalize w1.drewN nq = W3 at *
    obtain ⟨z0, z1, zf0, zf1, HZf, HFf⟩ := elm_two HZ.out HB0.out (Nat.le_add_right _ 2) (.slice none 0 0) (.bool false)
    go_wp2_with fail
    refine bodyPost_ret (results_desc rfl _ _ (w.heap.size + 2) _ _ rfl HZf.out) rfl ?_
    rw [HD1.out, HD2.out, HCD.out]
    exact RefE.bad rfl HFf.out
  case pos =>
  subst h2
  cases ua
  case true =>
    have hcd : Cv.code [q0, q1, q2] a b = 101 := HC101.out (by exact fun h => h (.inl rfl))
    obtain ⟨e1, e2⟩ := Cv.bad (by rw [hcd]; decide)
    have HD1 := hide e1
    have HD2 := hide e2
    have HCD := hide hcd
    clear e1 e2 hcd
    go_quiet (fail)
    clear a0 a1 b0 b1
    replace HZ := hide (HZ.out.drewN nq)
    replace HA := hide (HA.out.drewN nq)
    replace HB := hide (HB.out.drewN nq)
    replace HB0 := hide (below_drewN HB0.out nq)
    generalize w1.drewN nq = W3 at *
    obtain ⟨z0, z1, zf0, zf1, HZf, HFf⟩ := elm_two HZ.out HB0.out (Nat.le_add_right _ 2) (.slice none 0 0) (.bool false)
    go_wp2_with fail
    refine bodyPost_ret (results_desc rfl _ _ (w.heap.size + 2) _ _ rfl HZf.out) rfl ?_
    rw [HD1.out, HD2.out, HCD.out]
    exact RefE.bad rfl HFf.out
  case false =>
  cases ub
  case true =>
    have hcd : Cv.code [q0, q1, q2] a b = 101 := HC101.out (by exact fun h => h (.inr (.inl rfl)))
    obtain ⟨e1, e2⟩ := Cv.bad (by rw [hcd]; decide)
    have HD1 := hide e1
    have HD2 := hide e2
    have HCD := hide hcd
    clear e1 e2 hcd
    go_quiet (fail)
    clear a0 a1 b0 b1
    replace HZ := hide (HZ.out.drewN nq)
    replace HA := hide (HA.out.drewN nq)
    replace HB := hide (HB.out.drewN nq)
    replace HB0 := hide (below_drewN HB0.out nq)
    generalize w1.drewN nq = W3 at *
    obtain ⟨z0, z1, zf0, zf1, HZf, HFf⟩ := elm_two HZ.out HB0.out (Nat.le_add_right _ 2) (.slice none 0 0) (.bool false)
    go_wp2_with fail
    refine bodyPost_ret (results_desc rfl _ _ (w.heap.size + 2) _ _ rfl HZf.out) rfl ?_
    rw [HD1.out, HD2.out, HCD.out]
    exact RefE.bad rfl HFf.out
  case false =>
  obtain ⟨x0, x1, x2, hax⟩ : ∃ x y z, Hid (a.zs = [x, y, z]) := by
    match hz : a.zs, hna.out with
    | [x, y, z], _ => exact ⟨x, y, z, hide rfl⟩
  obtain ⟨y0, y1, y2, y3, hbx⟩ : ∃ x y z v, Hid (b.zs = [x, y, z, v]) := by
    match hz : b.zs, hnb.out with
    | [x, y, z, v], _ => exact ⟨x, y, z, v, hide rfl⟩
  have hra := HIa.out w1 HB0.out
  have hrb := HIb.out w1 HB0.out
  rw [hax.out] at hra HC101 HC102 HC103 HC104 HCA
  rw [hbx.out] at hrb HC101 HC102 HC103 HC104 HCB
  obtain ⟨pa, epa, hpal, p0, p1, p2⟩ := ri_three hra
  obtain ⟨pb, epb, hpbl, r0, r1, r2, r3⟩ := ri_four hrb
  have HPL : Hid (pa.block < w.heap.size) := hide (by obtain ⟨ad, h1, h2, -⟩ := (HIa.out w (Below.refl _ _)).2 (by rw [hax.out]; simp); rw [epa] at h1; rw [Option.some.inj h1]; exact h2)
  have HRL : Hid (pb.block < w.heap.size) := hide (by obtain ⟨ad, h1, h2, -⟩ := (HIb.out w (Below.refl _ _)).2 (by rw [hbx.out]; simp); rw [epb] at h1; rw [Option.some.inj h1]; exact h2)
  have HX : Hid ((1 ≤ x0 ∧ x0 ≤ 256) ∧ (1 ≤ x1 ∧ x1 ≤ 256) ∧ (1 ≤ y0 ∧ y0 ≤ 256) ∧ (1 ≤ y1 ∧ y1 ≤ 256) ∧ (1 ≤ y3 ∧ y3 ≤ 256)) := hide ⟨HCA.out x0 (by simp), HCA.out x1 (by simp), HCB.out y0 (by simp), HCB.out y1 (by simp), HCB.out y3 (by simp)⟩
  rw [epa] at a0 HA
  rw [epb] at b0 HB
  clear epa epb hra hrb hpal hpbl HCA HCB
  by_cases hxy : x2 = y2
  case neg =>
    have i1 : (x2 == y2) = false := by simpa using hxy
    have i2 : (x2 != y2) = true := by simpa using hxy
    have hcd : Cv.code [q0, q1, q2] a b = 101 := HC101.out (by exact fun h => h (.inr (.inr (.inr (.inr (by simpa using fun h => hxy h.symm))))))
    obtain ⟨e1, e2⟩ := Cv.bad (by rw [hcd]; decide)
    have HD1 := hide e1
    have HD2 := hide e2
    have HCD := hide hcd
    clear e1 e2 hcd
    go_quiet (fail)
    clear a0 a1 b0 b1 p0 p1 p2 r0 r1 r2 r3
    replace HZ := hide (HZ.out.drewN nq)
    replace HA := hide (HA.out.drewN nq)
    replace HB := hide (HB.out.drewN nq)
    replace HB0 := hide (below_drewN HB0.out nq)
    generalize w1.drewN nq = W3 at *
    obtain ⟨z0, z1, zf0, zf1, HZf, HFf⟩ := elm_two HZ.out HB0.out (Nat.le_add_right _ 2) (.slice none 0 0) (.bool false)
    go_wp2_with fail
    refine bodyPost_ret (results_desc rfl _ _ (w.heap.size + 2) _ _ rfl HZf.out) rfl ?_
    rw [HD1.out, HD2.out, HCD.out]
    exact RefE.bad rfl HFf.out
  case pos =>
  subst hxy
  have i1 : (x2 == x2) = true := by simp
  have i2 : (x2 != x2) = false := by simp
  have HNO : Hid (¬ (false = true ∨ false = true ∨ 3 ≠ 3 ∨ 4 ≠ 4 ∨ [y0, y1, x2, y3].getD 2 0 ≠ [x0, x1, x2].getD 2 0)) := hide (by simp)
  have HP0 : Hid (∀ W, Below w1.heap.size w1 W → W.cell? pa = some (.int .i64 x0) ∧ W.cell? ⟨pa.block, pa.off + 1, none⟩ = some (.int .i64 x1)) := hide (fun W hb => ⟨ten_kept p0 hb, ten_kept p1 hb⟩)
  have HR0 : Hid (∀ W, Below w1.heap.size w1 W → W.cell? pb = some (.int .i64 y0) ∧ W.cell? ⟨pb.block, pb.off + 1, none⟩ = some (.int .i64 y1) ∧ W.cell? ⟨pb.block, pb.off + 3, none⟩ = some (.int .i64 y3)) := hide (fun W hb => ⟨ten_kept r0 hb, ten_kept r1 hb, ten_kept r3 hb⟩)
  have HBX := hide (Below.refl w1.heap.size w1)
  have HQC : Hid (∀ W, Below w.heap.size w W → W.cell? pq = some (.int .i64 q0) ∧ W.cell? ⟨pq.block, pq.off + 1, none⟩ = some (.int .i64 q1) ∧ W.cell? ⟨pq.block, pq.off + 2, none⟩ = some (.int .i64 q2)) := hide (fun W hb => ⟨ten_kept HQ0.out hb, ten_kept HQ1.out hb, ten_kept HQ2.out hb⟩)
  go_quiet (fail)
  clear a0 a1 b0 b1 p0 p1 p2 r0 r1 r2 r3 i1 i2
  replace HZ := hide (HZ.out.drewN nq)
  replace HA := hide (HA.out.drewN nq)
  replace HB := hide (HB.out.drewN nq)
  replace HB0 := hide (below_drewN HB0.out nq)
  replace HBX := hide (below_drewN HBX.out nq)
  generalize w1.drewN nq = W3 at *
  have hs1 := HQC.out W3 HB0.out
  have e0 := hs1.1
  have e1 := hs1.2.1
  have e2 := hs1.2.2
  clear hs1
  have NO2 : ∀ (h : q0 < 1 ∨ q0 > 16 ∨ q1 < 0 ∨ q1 > 15 ∨ Tens.narrow q2 ≠ q2), Cv.code [q0, q1, q2] a b = 102 := fun h => HC102.out HNO.out h
  have HN2 := hide NO2
  clear NO2 HC101 HC102
  by_cases g0 : q0 < 1
  case pos =>
    have hcd := HN2.out (.inl g0)
    obtain ⟨e1', e2'⟩ := Cv.bad (by rw [hcd]; decide)
    have HD1 := hide e1'
    have HD2 := hide e2'
    have HCD := hide hcd
    clear e1' e2' hcd
    obtain ⟨z0, z1, zf0, zf1, HZf, HFf⟩ := elm_two HZ.out HB0.out (Nat.le_add_right _ 2) (.slice none 0 0) (.bool false)
    go_wp2_with fail
    refine bodyPost_ret (results_desc rfl _ _ (w.heap.size + 2) _ _ rfl HZf.out) rfl ?_
    rw [HD1.out, HD2.out, HCD.out]
    exact RefE.bad rfl HFf.out
  case neg =>
  by_cases g1 : 16 < q0
  case pos =>
    have hcd := HN2.out (.inr (.inl g1))
    obtain ⟨e1', e2'⟩ := Cv.bad (by rw [hcd]; decide)
    have HD1 := hide e1'
    have HD2 := hide e2'
    have HCD := hide hcd
    clear e1' e2' hcd
    obtain ⟨z0, z1, zf0, zf1, HZf, HFf⟩ := elm_two HZ.out HB0.out (Nat.le_add_right _ 2) (.slice none 0 0) (.bool false)
    go_wp2_with fail
    refine bodyPost_ret (results_desc rfl _ _ (w.heap.size + 2) _ _ rfl HZf.out) rfl ?_
    rw [HD1.out, HD2.out, HCD.out]
    exact RefE.bad rfl HFf.out
  case neg =>
  by_cases g2 : q1 < 0
  case pos =>
    have hcd := HN2.out (.inr (.inr (.inl g2)))
    obtain ⟨e1', e2'⟩ := Cv.bad (by rw [hcd]; decide)
    have HD1 := hide e1'
    have HD2 := hide e2'
    have HCD := hide hcd
    clear e1' e2' hcd
    obtain ⟨z0, z1, zf0, zf1, HZf, HFf⟩ := elm_two HZ.out HB0.out (Nat.le_add_right _ 2) (.slice none 0 0) (.bool false)
    go_wp2_with fail
    refine bodyPost_ret (results_desc rfl _ _ (w.heap.size + 2) _ _ rfl HZf.out) rfl ?_
    rw [HD1.out, HD2.out, HCD.out]
    exact RefE.bad rfl HFf.out
  case neg =>
  by_cases g3 : 15 < q1
  case pos =>
    have hcd := HN2.out (.inr (.inr (.inr (.inl g3))))
    obtain ⟨e1', e2'⟩ := Cv.bad (by rw [hcd]; decide)
    have HD1 := hide e1'
    have HD2 := hide e2'
    have HCD := hide hcd
    clear e1' e2' hcd
    obtain ⟨z0, z1, zf0, zf1, HZf, HFf⟩ := elm_two HZ.out HB0.out (Nat.le_add_right _ 2) (.slice none 0 0) (.bool false)
    go_wp2_with fail
    refine bodyPost_ret (results_desc rfl _ _ (w.heap.size + 2) _ _ rfl HZf.out) rfl ?_
    rw [HD1.out, HD2.out, HCD.out]
    exact RefE.bad rfl HFf.out
  case neg =>
  go_wp2_with fail
  refine (HNW.out q2 W3).mono ?_
  rintro e wq ⟨rfl, hw⟩
  have hw := hw.symm
  subst hw
  rw [Tens.fit_narrow]
  by_cases g4 : Tens.narrow q2 = q2
  case neg =>
    rw [decide_eq_false g4]
    have hcd := HN2.out (.inr (.inr (.inr (.inr g4))))
    obtain ⟨e1', e2'⟩ := Cv.bad (by rw [hcd]; decide)
    have HD1 := hide e1'
    have HD2 := hide e2'
    have HCD := hide hcd
    clear e1' e2' hcd
    obtain ⟨z0, z1, zf0, zf1, HZf, HFf⟩ := elm_two HZ.out HB0.out (Nat.le_add_right _ 2) (.slice none 0 0) (.bool false)
    go_wp2_with fail
    refine bodyPost_ret (results_desc rfl _ _ (w.heap.size + 2) _ _ rfl HZf.out) rfl ?_
    rw [HD1.out, HD2.out, HCD.out]
    exact RefE.bad rfl HFf.out
  case pos =>
  rw [decide_eq_true g4]
  have HNR : Hid (¬ (q0 < 1 ∨ q0 > 16 ∨ q1 < 0 ∨ q1 > 15 ∨ Tens.narrow q2 ≠ q2)) := hide (by
    rintro (h | h | h | h | h)
    · omega
    · omega
    · omega
    · omega
    · exact h g4)
  clear e0 e1 e2 HN2 g4
  have hx := HX.out
  obtain ⟨rq, hrq⟩ : ∃ z : Int, Hid (2 * q1 = z) := ⟨_, hide rfl⟩
  obtain ⟨m0, hm0⟩ : ∃ z : Int, Hid (x0 + rq = z) := ⟨_, hide rfl⟩
  obtain ⟨m1, hm1⟩ : ∃ z : Int, Hid (x1 + rq = z) := ⟨_, hide rfl⟩
  have Kq : Hid (1 ≤ q0 ∧ q0 ≤ 16 ∧ 0 ≤ q1 ∧ q1 ≤ 15 ∧ 0 ≤ rq ∧ rq ≤ 30 ∧ 1 ≤ m0 ∧ m0 ≤ 286 ∧ 1 ≤ m1 ∧ m1 ≤ 286) := hide (by have h1 := hrq.out; have h2 := hm0.out; have h3 := hm1.out; omega)
  have Hrq : Hid (IntKind.i64.wrap (2 * q1) = rq) := hide (by rw [hrq.out, IntKind.wrap_i64]; have := Kq.out; omega)
  have Hm0 : Hid (IntKind.i64.wrap (x0 + rq) = m0) := hide (by rw [hm0.out, IntKind.wrap_i64]; have := Kq.out; omega)
  have Hm1 : Hid (IntKind.i64.wrap (x1 + rq) = m1) := hide (by rw [hm1.out, IntKind.wrap_i64]; have := Kq.out; omega)
  have hS := HP0.out W3 HBX.out
  have p0 := hS.1
  have p1 := hS.2
  have hS2 := HR0.out W3 HBX.out
  have r0 := hS2.1
  have r1 := hS2.2.1
  clear hS hS2
  have a0 : W3.cell? ⟨w.heap.size, 0, none⟩ = some (.slice (some pa) 3 a.cap) := HA.out.cell 0
  have b0 : W3.cell? ⟨w.heap.size + 1, 0, none⟩ = some (.slice (some pb) 4 b.cap) := HB.out.cell 0
  have HB13 : Hid (∀ (h : y0 > x0 + 2 * q1 ∨ y1 > x1 + 2 * q1), Cv.code [q0, q1, q2] a b = 101) := hide (fun h => HC103.out HNO.out HNR.out h)
  clear HC103
  by_cases k0 : m0 < y0
  case pos =>
    have hcd := HB13.out (.inl (by have h1 := hrq.out; have h2 := hm0.out; omega))
    clear HB13 HC104 g0 g1 g2 g3 hx
    go_wp2_with fail
    have o1 := Hrq.out
    have o2 := Hm0.out
    go_quiet (fail)
    clear o1 o2 a0 b0 p0 p1 r0 r1
    replace HZ := hide (HZ.out.drewN nq)
    replace HB0 := hide (below_drewN HB0.out nq)
    generalize W3.drewN nq = W4 at *
    obtain ⟨e1', e2'⟩ := Cv.bad (by rw [hcd]; decide)
    have HD1 := hide e1'
    have HD2 := hide e2'
    have HCD := hide hcd
    clear e1' e2' hcd
    obtain ⟨z0, z1, zf0, zf1, HZf, HFf⟩ := elm_two HZ.out HB0.out (Nat.le_add_right _ 2) (.slice none 0 0) (.bool false)
    go_wp2_with fail
    refine bodyPost_ret (results_desc rfl _ _ (w.heap.size + 2) _ _ rfl HZf.out) rfl ?_
    rw [HD1.out, HD2.out, HCD.out]
    exact RefE.bad rfl HFf.out
  case neg =>
  by_cases k1 : m1 < y1
  case pos =>
    have hcd := HB13.out (.inr (by have h1 := hrq.out; have h2 := hm1.out; omega))
    clear HB13 HC104 g0 g1 g2 g3 hx
    go_wp2_with fail
    have o1 := Hrq.out
    have o2 := Hm0.out
    have o3 := Hm1.out
    go_quiet (fail)
    clear o1 o2 o3 a0 b0 p0 p1 r0 r1
    replace HZ := hide (HZ.out.drewN nq)
    replace HB0 := hide (below_drewN HB0.out nq)
    generalize W3.drewN nq = W4 at *
    obtain ⟨e1', e2'⟩ := Cv.bad (by rw [hcd]; decide)
    have HD1 := hide e1'
    have HD2 := hide e2'
    have HCD := hide hcd
    clear e1' e2' hcd
    obtain ⟨z0, z1, zf0, zf1, HZf, HFf⟩ := elm_two HZ.out HB0.out (Nat.le_add_right _ 2) (.slice none 0 0) (.bool false)
    go_wp2_with fail
    refine bodyPost_ret (results_desc rfl _ _ (w.heap.size + 2) _ _ rfl HZf.out) rfl ?_
    rw [HD1.out, HD2.out, HCD.out]
    exact RefE.bad rfl HFf.out
  case neg =>
  have HCK := hide (HC104.out HNO.out HNR.out (by
    rintro (h | h)
    · have h1 := hrq.out; have h2 := hm0.out
      have h3 : y0 > x0 + 2 * q1 := h
      omega
    · have h1 := hrq.out; have h2 := hm1.out
      have h3 : y1 > x1 + 2 * q1 := h
      omega))
  clear HB13 HC104
  obtain ⟨d0, hd0⟩ : ∃ z : Int, Hid (m0 - y0 = z) := ⟨_, hide rfl⟩
  obtain ⟨d1, hd1⟩ : ∃ z : Int, Hid (m1 - y1 = z) := ⟨_, hide rfl⟩
  have Kd : Hid (0 ≤ d0 ∧ d0 ≤ 286 ∧ 0 ≤ d1 ∧ d1 ≤ 286) := hide (by have h1 := hd0.out; have h2 := hd1.out; have := Kq.out; omega)
  obtain ⟨h0, hh0⟩ : ∃ z : Int, Hid (d0 / q0 = z) := ⟨_, hide rfl⟩
  obtain ⟨h1, hh1⟩ : ∃ z : Int, Hid (d1 / q0 = z) := ⟨_, hide rfl⟩
  have Kh : Hid (0 ≤ h0 ∧ h0 ≤ 286 ∧ 0 ≤ h1 ∧ h1 ≤ 286) := hide (by
    have k := Kd.out
    have kq := Kq.out
    have u1 := Int.ediv_nonneg k.1 (show 0 ≤ q0 by omega)
    have u2 := Int.ediv_nonneg k.2.2.1 (show 0 ≤ q0 by omega)
    have u3 := Int.ediv_le_self q0 k.1
    have u4 := Int.ediv_le_self q0 k.2.2.1
    rw [hh0.out] at u1 u3
    rw [hh1.out] at u2 u4
    omega)
  have Hd0 : Hid (IntKind.i64.wrap (m0 - y0) = d0) := hide (by rw [hd0.out, IntKind.wrap_i64]; have := Kd.out; omega)
  have Hd1 : Hid (IntKind.i64.wrap (m1 - y1) = d1) := hide (by rw [hd1.out, IntKind.wrap_i64]; have := Kd.out; omega)
  have Ht0 : Hid (d0.tdiv q0 = h0) := hide (by rw [Int.tdiv_eq_ediv_of_nonneg (by have := Kd.out; omega)]; exact hh0.out)
  have Ht1 : Hid (d1.tdiv q0 = h1) := hide (by rw [Int.tdiv_eq_ediv_of_nonneg (by have := Kd.out; omega)]; exact hh1.out)
  have Hw0 : Hid (IntKind.i64.wrap h0 = h0) := hide (by rw [IntKind.wrap_i64]; have := Kh.out; omega)
  have Hw1 : Hid (IntKind.i64.wrap h1 = h1) := hide (by rw [IntKind.wrap_i64]; have := Kh.out; omega)
  obtain ⟨R0, hR0⟩ : ∃ z : Int, Hid (h0 + 1 = z) := ⟨_, hide rfl⟩
  obtain ⟨R1, hR1⟩ : ∃ z : Int, Hid (h1 + 1 = z) := ⟨_, hide rfl⟩
  have HR00 : Hid (IntKind.i64.wrap (h0 + 1) = R0) := hide (by rw [hR0.out, IntKind.wrap_i64]; have := Kh.out; have := hR0.out; omega)
  have HR11 : Hid (IntKind.i64.wrap (h1 + 1) = R1) := hide (by rw [hR1.out, IntKind.wrap_i64]; have := Kh.out; have := hR1.out; omega)
  have HDM : Hid (Cv.dims [q0, q1, q2] a b = [R0, R1, y3]) := hide (by
    unfold Cv.dims Cv.reach
    rw [hax.out, hbx.out]
    show [(x0 + 2 * q1 - y0) / q0 + 1, (x1 + 2 * q1 - y1) / q0 + 1, y3] = _
    rw [hrq.out, hm0.out, hm1.out, hd0.out, hd1.out, hh0.out, hh1.out, hR0.out, hR1.out])
  have HWF : Hid (∀ q ∈ [R0, R1, y3], (Lit.int .i64 q).wf = true) := hide (by
    intro q hq
    simp at hq
    have := Kh.out
    have := hR0.out
    have := hR1.out
    rcases hq with rfl | rfl | rfl <;> exact wf_i64 _ (by omega))
  have hqn : ¬ q0 = 0 := by omega
  clear hx g0 g1 g2 g3
  go_wp2_with fail
  have o1 := Hrq.out
  have o2 := Hm0.out
  have o3 := Hm1.out
  go_quiet (fail)
  clear o1 o2 o3 a0 b0 p0 p1 r0 r1
  replace HZ := hide (HZ.out.drewN nq)
  replace HA := hide (HA.out.drewN nq)
  replace HB := hide (HB.out.drewN nq)
  replace HB0 := hide (below_drewN HB0.out nq)
  replace HBX := hide (below_drewN HBX.out nq)
  generalize W3.drewN nq = W4 at *
  have a0 : W4.cell? ⟨w.heap.size, 0, none⟩ = some (.slice (some pa) 3 a.cap) := HA.out.cell 0
  have b0 : W4.cell? ⟨w.heap.size + 1, 0, none⟩ = some (.slice (some pb) 4 b.cap) := HB.out.cell 0
  have p0 := (HP0.out W4 HBX.out).1
  have r0 := (HR0.out W4 HBX.out).1
  go_wp2_with fail
  clear k0 k1
  have o1 := Hrq.out
  have o2 := Hm0.out
  have o3 := Hd0.out
  have o4 := hh0.out
  have o5 := Ht0.out
  have o6 := Hw0.out
  have o7 := HR00.out
  have o8 := Kd.out.1
  go_quiet (fail)
  clear o1 o2 o3 o4 o5 o6 o7 o8 a0 b0 p0 r0
  replace HZ := hide (HZ.out.drewN nq)
  replace HA := hide (HA.out.drewN nq)
  replace HB := hide (HB.out.drewN nq)
  replace HB0 := hide (below_drewN HB0.out nq)
  replace HBX := hide (below_drewN HBX.out nq)
  generalize W4.drewN nq = W5 at *
  have a0 : W5.cell? ⟨w.heap.size, 0, none⟩ = some (.slice (some pa) 3 a.cap) := HA.out.cell 0
  have b0 : W5.cell? ⟨w.heap.size + 1, 0, none⟩ = some (.slice (some pb) 4 b.cap) := HB.out.cell 0
  have p1 := (HP0.out W5 HBX.out).2
  have r1 := (HR0.out W5 HBX.out).2.1
  go_wp2_with fail
  have o1 := Hrq.out
  have o2 := Hm1.out
  have o3 := Hd1.out
  have o4 := hh1.out
  have o5 := Ht1.out
  have o6 := Hw1.out
  have o7 := HR11.out
  have o8 := Kd.out.2.2.1
  go_quiet (fail)
  clear o1 o2 o3 o4 o5 o6 o7 o8 a0 b0 p1 r1
  replace HZ := hide (HZ.out.drewN nq)
  replace HA := hide (HA.out.drewN nq)
  replace HB := hide (HB.out.drewN nq)
  replace HB0 := hide (below_drewN HB0.out nq)
  replace HBX := hide (below_drewN HBX.out nq)
  generalize W5.drewN nq = W6 at *
  have b0 : W6.cell? ⟨w.heap.size + 1, 0, none⟩ = some (.slice (some pb) 4 b.cap) := HB.out.cell 0
  have r3 := (HR0.out W6 HBX.out).2.2
  obtain ⟨W7, hW7⟩ : ∃ W, W = W6.alloc (.cells #[.int .i64 R0, .int .i64 R1, .int .i64 y3] 3) := ⟨_, rfl⟩
  have hb7 : Below W6.heap.size W6 W7 := by rw [hW7]; exact (Below.refl _ _).alloc (Nat.le_refl _) _
  have hri : Ri W7 (some ⟨W6.heap.size, 0, none⟩) [R0, R1, y3] := by rw [hW7]; exact (Has.new W6 3 (i64s [R0, R1, y3])).ri HWF.out
  have HSE := hide (seen_c ⟨some ⟨W6.heap.size, 0, none⟩, [R0, R1, y3], 3, true⟩ W7 ⟨hri, by simp⟩)
  have HZL := hide HZ.out.lt
  have HW6L := hide hb7.size
  replace HZ := hide (HZ.out.below hb7 HZ.out.lt)
  replace HB0 := hide (HB0.out.trans (hb7.mono HB0.out.size))
  have HW7 := hide hW7
  clear hb7 hri hW7
  go_wp2_with fail
  rw [← HW7.out]
  clear HW7 b0 r3
  refine HSE.out.mono ?_
  rintro e w9 ⟨⟨d, rfl, hdi, hdf, hdz, hdu⟩, hb⟩
  have HDZ := hide hdz
  have HDU := hide hdu
  clear hdz hdu
  have hz := HZ.out.below hb HZ.out.lt
  have hB := HB0.out.trans (hb.mono HB0.out.size)
  obtain ⟨z0, z1, zf0, zf1, HZf, HFf⟩ := elm_two hz hB (Nat.le_add_right _ 2) (.slice d.P d.zs.length d.cap) (.bool d.u)
  have hdl := hide (hdi.far2 hdf (show w.heap.size + 2 < W7.heap.size by have h1 := HZL.out; have h2 := HW6L.out; omega) (.slice d.P d.zs.length d.cap) (.bool d.u))
  have hdg := hide hdf
  clear hz hB hb hdi hdf HSE
  go_wp2_with fail
  refine bodyPost_ret (results_desc rfl _ _ (w.heap.size + 2) _ _ rfl HZf.out) rfl ?_
  have e1 : Cv.code [q0, q1, q2] a b = Shp.code [R0, R1, y3] := by rw [HCK.out, HDM.out]
  have e2 : Cv.shape [q0, q1, q2] a b = Rf.zs ⟨some ⟨W6.heap.size, 0, none⟩, [R0, R1, y3], 3, true⟩ := by
    unfold Cv.shape Rf.zs
    rw [e1, HDM.out]
  have e3 : Cv.kind [q0, q1, q2] a b = Rf.u ⟨some ⟨W6.heap.size, 0, none⟩, [R0, R1, y3], 3, true⟩ := by
    unfold Cv.kind Rf.u
    rw [e1]
    show _ = if Shp.code [R0, R1, y3] = 0 then true else false
    by_cases h : Shp.code [R0, R1, y3] = 0
    · rw [decide_eq_true h, if_pos h]
    · rw [decide_eq_false h, if_neg h]
  rw [e1, e2, e3]
  exact ⟨⟨d, rfl, hdl.out, fun ad h => Nat.le_trans (show w.heap.size ≤ W7.heap.size by have h1 := HZL.out; have h2 := HW6L.out; omega) (hdg.out ad h), HDZ.out, HDU.out⟩, HFf.out⟩
/-- What is held in a region: eight cells. -/
abbrev CS8 (p0 p1 p2 p3 p4 p5 p6 p7 : Addr) (v0 v1 v2 v3 v4 v5 v6 v7 : Value) (W : World) : Prop := W.cell? p0 = some v0 ∧ W.cell? p1 = some v1 ∧ W.cell? p2 = some v2 ∧ W.cell? p3 = some v3 ∧ W.cell? p4 = some v4 ∧ W.cell? p5 = some v5 ∧ W.cell? p6 = some v6 ∧ W.cell? p7 = some v7
theorem CS8.keep {p0 p1 p2 p3 p4 p5 p6 p7 : Addr} {v0 v1 v2 v3 v4 v5 v6 v7 : Value} {W W' : World} (h : CS8 p0 p1 p2 p3 p4 p5 p6 p7 v0 v1 v2 v3 v4 v5 v6 v7 W) (hB : Below W.heap.size W W') : CS8 p0 p1 p2 p3 p4 p5 p6 p7 v0 v1 v2 v3 v4 v5 v6 v7 W' := by
  obtain ⟨h0, h1, h2, h3, h4, h5, h6, h7⟩ := h
  exact ⟨ten_kept h0 hB, ten_kept h1 hB, ten_kept h2 hB, ten_kept h3 hB, ten_kept h4 hB, ten_kept h5 hB, ten_kept h6 hB, ten_kept h7 hB⟩
theorem CS8.drew {p0 p1 p2 p3 p4 p5 p6 p7 : Addr} {v0 v1 v2 v3 v4 v5 v6 v7 : Value} {W : World} (h : CS8 p0 p1 p2 p3 p4 p5 p6 p7 v0 v1 v2 v3 v4 v5 v6 v7 W) : CS8 p0 p1 p2 p3 p4 p5 p6 p7 v0 v1 v2 v3 v4 v5 v6 v7 W.drew := h
set_option maxRecDepth 100000 in
set_option maxHeartbeats 4000000 in
theorem rres_conv (qs : List Int) (a b : Dsc) (A B : Option Addr) (qcap cap : Nat) (w : World) (hQ : Ri w A qs) (hql : qs.length = 3) (hR : Row w B ([a, b].flatMap Dsc.vals)) (ha : a.In w) (hb : b.In w) :
    Calls Tryd.prog 44 #[.int .i64 13, .slice A 3 qcap, .slice B 2 cap] w (RefE w (Cv.shape qs a b) (Cv.kind qs a b) (Cv.code qs a b)) := by
  obtain ⟨W0, hW0⟩ : ∃ W, W = w.alloc (.cells #[.slice none 0 0, .bool false] 24) := ⟨_, rfl⟩
  have hbw : Below w.heap.size w W0 := by rw [hW0]; exact (Below.refl _ _).alloc (Nat.le_refl _) _
  have HZ : Hid (Has W0 w.heap.size 24 [.slice none 0 0, .bool false]) := hide (by rw [hW0]; exact Has.new _ _ _)
  obtain ⟨pr, hpr, hprl, r0, r1, r2, r3⟩ := rowd_two hR
  subst hpr
  have HS00 : CS4 pr ⟨pr.block, pr.off + 1, none⟩ ⟨pr.block, pr.off + 2, none⟩ ⟨pr.block, pr.off + 3, none⟩ (.slice a.P a.zs.length a.cap) (.bool a.u) (.slice b.P b.zs.length b.cap) (.bool b.u) w := ⟨r0, r1, r2, r3⟩
  have hS0 := CS4.drew (CS4.keep HS00 hprl hprl hprl hprl hbw)
  have HB0 := hide hbw.drew
  have hrc := rconv_c qs A qcap a b W0.drew (hQ.below hbw.drew) (ha.below hbw.drew) (hb.below hbw.drew)
  rw [hql] at hrc
  have HC : Hid (Calls Tryd.prog 34 #[.slice A 3 qcap, .agg #[.slice a.P a.zs.length a.cap, .bool a.u], .agg #[.slice b.P b.zs.length b.cap, .bool b.u]] W0.drew (RefE W0.drew (Cv.shape qs a b) (Cv.kind qs a b) (Cv.code qs a b))) := hide hrc
  have HW := hide hW0
  have HRL := hide hprl
  have HWZ : Hid (w.heap.size < W0.heap.size) := hide HZ.out.lt
  obtain ⟨k, hk⟩ : ∃ n, Hid (Cv.code qs a b = n) := ⟨_, hide rfl⟩
  obtain ⟨zs, hzs⟩ : ∃ n, Hid (Cv.shape qs a b = n) := ⟨_, hide rfl⟩
  obtain ⟨u, hu⟩ : ∃ n, Hid (Cv.kind qs a b = n) := ⟨_, hide rfl⟩
  rw [hk.out, hzs.out, hu.out] at HC ⊢
  clear hQ hR ha hb hW0 hbw r0 r1 r2 r3 HS00 hprl hrc hql
  go_enter Tryd.func44, Tryd.ntmps44
  go_wp2_with fail
  rw [← HW.out]
  clear HW
  refine (rknown13 _).mono ?_
  rintro e wq ⟨rfl, hw⟩
  have hw := hw.symm
  subst hw
  go_wp2_with fail
  refine (rins13 _).mono ?_
  rintro e wq ⟨rfl, hw⟩
  have hw := hw.symm
  subst hw
  go_wp2_with fail
  refine (rargs13 _).mono ?_
  rintro e wq ⟨rfl, hw⟩
  have hw := hw.symm
  subst hw
  go_wp2_with fail
  go_region_held3 (fun W => W.cell? pr = some (.slice a.P a.zs.length a.cap) ∧ W.cell? ⟨pr.block, pr.off + 1, none⟩ = some (.bool a.u) ∧ W.cell? ⟨pr.block, pr.off + 2, none⟩ = some (.slice b.P b.zs.length b.cap) ∧ W.cell? ⟨pr.block, pr.off + 3, none⟩ = some (.bool b.u))
    (first | with_reducible exact hS0 | with_reducible exact hS2 | with_reducible exact hS3.out | with_reducible assumption)
    (first | (go_at_call 34; (with_reducible refine HC.out.mono ?_); rintro e W4 ⟨⟨d, rfl, hdi, hdf, hdz, hdu⟩, hb⟩; have HDZ := hide hdz; have HDU := hide hdu; clear hdz hdu; have q2 : pr.block < W0.drew.heap.size := Nat.lt_trans HRL.out HWZ.out; have hS2 := CS4.keep hS0 q2 q2 q2 q2 hb; have n2 : w.heap.size ≠ pr.block := (Nat.ne_of_lt HRL.out).symm; have hS3 := hide (CS4.far (CS4.far hS2 n2 n2 n2 n2 0 (.slice d.P d.zs.length d.cap)) n2 n2 n2 n2 1 (.bool d.u)); have hz4 := (HZ.out.drewN 1).below hb (HZ.out.drewN 1).lt; have hB4 := HB0.out.trans (hb.mono HB0.out.size); obtain ⟨z0, z1, zf0, zf1, HZf, HFf⟩ := elm_two hz4 hB4 (Nat.le_refl _) (.slice d.P d.zs.length d.cap) (.bool d.u); have hdl := hide (hdi.far2 hdf (by exact HWZ.out) (.slice d.P d.zs.length d.cap) (.bool d.u))))
  go_wp2_with fail
  refine bodyPost_ret (results_desc rfl _ _ w.heap.size _ _ rfl HZf.out) rfl ?_
  exact ⟨⟨d, rfl, hdl.out, fun ad h => Nat.le_trans (Nat.le_of_lt HWZ.out) (hdf ad h), HDZ.out, HDU.out⟩, HFf.out⟩
set_option maxRecDepth 100000 in
set_option maxHeartbeats 4000000 in
theorem relem_conv (qs : List Int) (a b : Ten) (d : Dsc) (A B : Option Addr) (qcap cap : Nat) (i v : Int) (w : World) (hql : qs.length = 3) (hR : Row w B ([a, b].flatMap Ten.vals))
    (hC : ∀ W, Below w.heap.size w W → Calls Tryd.prog 81 #[.slice A 3 qcap, .int .i64 i, .agg (tcells a.P a.zs.length a.cap a.u a.D a.ds.length a.dcap), .agg (tcells b.P b.zs.length b.cap b.u b.D b.ds.length b.dcap), .agg (dcells d.P d.zs.length d.cap d.u)] W fun e w' => e = .returned (.int .i64 v) ∧ Below W.heap.size W w') :
    Calls Tryd.prog 47 #[.int .i64 13, .slice A qs.length qcap, .int .i64 i, .slice B 2 cap, .agg (dcells d.P d.zs.length d.cap d.u)] w fun e w' => e = .returned (.int .i64 v) ∧ Below w.heap.size w w' := by
  rw [hql]
  obtain ⟨pr, hpr, hprl, r0, r1, r2, r3, r4, r5⟩ := row_two hR
  subst hpr
  obtain ⟨W0, hW0⟩ : ∃ W, W = ((w.alloc (.cells #[.slice d.P d.zs.length d.cap, .bool d.u] 24)).alloc (.cells #[.slice a.P a.zs.length a.cap, .bool a.u, .slice a.D a.ds.length a.dcap] 26)) := ⟨_, rfl⟩
  have hbz : Below w.heap.size w (w.alloc (.cells #[.slice d.P d.zs.length d.cap, .bool d.u] 24)) := (Below.refl _ _).alloc (Nat.le_refl _) _
  have hbw : Below w.heap.size w W0 := by rw [hW0]; exact hbz.alloc (by simp) _
  have hx : Has W0 (w.heap.size + 1) 26 [.slice a.P a.zs.length a.cap, .bool a.u, .slice a.D a.ds.length a.dcap] := by rw [hW0]; exact box_at _ _ _ _ (by simp)
  have hy : Has W0 w.heap.size 24 [.slice d.P d.zs.length d.cap, .bool d.u] := by rw [hW0]; exact (Has.new w 24 _).alloc _
  have z0 : (w.alloc (.cells #[.slice d.P d.zs.length d.cap, .bool d.u] 24)).cell? pr = some (.slice a.P a.zs.length a.cap) := (hbz.cell hprl).trans r0
  have z1 : (w.alloc (.cells #[.slice d.P d.zs.length d.cap, .bool d.u] 24)).cell? ⟨pr.block, pr.off + 1, none⟩ = some (.bool a.u) := (hbz.cell (p := ⟨pr.block, pr.off + 1, none⟩) hprl).trans r1
  have z2 : (w.alloc (.cells #[.slice d.P d.zs.length d.cap, .bool d.u] 24)).cell? ⟨pr.block, pr.off + 2, none⟩ = some (.slice a.D a.ds.length a.dcap) := (hbz.cell (p := ⟨pr.block, pr.off + 2, none⟩) hprl).trans r2
  have hS00 : CS8 ⟨w.heap.size + 1, 0, none⟩ ⟨w.heap.size + 1, 1, none⟩ ⟨w.heap.size + 1, 2, none⟩ ⟨pr.block, pr.off + 3, none⟩ ⟨pr.block, pr.off + 4, none⟩ ⟨pr.block, pr.off + 5, none⟩ ⟨w.heap.size, 0, none⟩ ⟨w.heap.size, 1, none⟩ (.slice a.P a.zs.length a.cap) (.bool a.u) (.slice a.D a.ds.length a.dcap) (.slice b.P b.zs.length b.cap) (.bool b.u) (.slice b.D b.ds.length b.dcap) (.slice d.P d.zs.length d.cap) (.bool d.u) W0 := ⟨hx.cell 0, hx.cell 1, hx.cell 2, ten_kept r3 hbw, ten_kept r4 hbw, ten_kept r5 hbw, hy.cell 0, hy.cell 1⟩
  have hS0 := CS8.drew hS00
  have HC : Hid (Calls Tryd.prog 81 #[.slice A 3 qcap, .int .i64 i, .agg #[.slice a.P a.zs.length a.cap, .bool a.u, .slice a.D a.ds.length a.dcap], .agg #[.slice b.P b.zs.length b.cap, .bool b.u, .slice b.D b.ds.length b.dcap], .agg #[.slice d.P d.zs.length d.cap, .bool d.u]] W0.drew fun e w' => e = .returned (.int .i64 v) ∧ Below W0.drew.heap.size W0.drew w') := hide (hC W0.drew hbw.drew)
  have HB0 := hide hbw.drew
  have HW := hide hW0
  clear hR hC hW0 hbw hbz hx hy r0 r1 r2 r3 r4 r5 hprl hql hS00
  go_enter Tryd.func47, Tryd.ntmps47
  go_wp2_with fail
  rw [← HW.out]
  clear HW z0 z1 z2
  go_region_held3 (fun W => W.cell? ⟨w.heap.size + 1, 0, none⟩ = some (.slice a.P a.zs.length a.cap) ∧ W.cell? ⟨w.heap.size + 1, 1, none⟩ = some (.bool a.u) ∧ W.cell? ⟨w.heap.size + 1, 2, none⟩ = some (.slice a.D a.ds.length a.dcap) ∧ W.cell? ⟨pr.block, pr.off + 3, none⟩ = some (.slice b.P b.zs.length b.cap) ∧ W.cell? ⟨pr.block, pr.off + 4, none⟩ = some (.bool b.u) ∧ W.cell? ⟨pr.block, pr.off + 5, none⟩ = some (.slice b.D b.ds.length b.dcap) ∧ W.cell? ⟨w.heap.size, 0, none⟩ = some (.slice d.P d.zs.length d.cap) ∧ W.cell? ⟨w.heap.size, 1, none⟩ = some (.bool d.u))
    (first | with_reducible exact hS0 | with_reducible exact hS2 | with_reducible assumption)
    (first | (go_at_call 81; (with_reducible refine HC.out.mono ?_); rintro e W4 ⟨rfl, hb⟩; have hS2 := CS8.keep hS0 hb; have HFin := hide (HB0.out.trans (hb.mono HB0.out.size))))
  go_wp2_with fail
  go_ret
  exact ⟨rfl, HFin.out⟩
/-- A column's sum, nothing where the row lies outside. -/
def Cv.colx (c : Cv) (xs ks : List Int) (y x o dy dx : Nat) : Int := if Cv.here c.H c.s c.p y dy then c.col xs ks y x o dy dx else 0
theorem Cv.row_x (c : Cv) (xs ks : List Int) (y x o dy : Nat) : Cv.sum (c.colx xs ks y x o dy) c.KW = c.row xs ks y x o dy := by
  unfold Cv.row
  by_cases h : Cv.here c.H c.s c.p y dy
  · rw [if_pos h]
    exact Cv.sum_same _ _ _ (fun i _ => by unfold Cv.colx; rw [if_pos h])
  · rw [if_neg h]
    exact Cv.sum_low _ _ (fun i _ => by unfold Cv.colx; rw [if_neg h])
/-- What lodgeref3.conv reads. -/
def RcS (p0 p1 p2 p3 p4 p5 p6 p7 p8 p9 p10 p11 p12 p13 p14 p15 : Addr) (v0 v1 v2 v3 v4 v5 v6 v7 v8 v9 v10 v11 v12 v13 v14 v15 : Value) (W : World) : Prop := W.cell? p0 = some v0 ∧ W.cell? p1 = some v1 ∧ W.cell? p2 = some v2 ∧ W.cell? p3 = some v3 ∧ W.cell? p4 = some v4 ∧ W.cell? p5 = some v5 ∧ W.cell? p6 = some v6 ∧ W.cell? p7 = some v7 ∧ W.cell? p8 = some v8 ∧ W.cell? p9 = some v9 ∧ W.cell? p10 = some v10 ∧ W.cell? p11 = some v11 ∧ W.cell? p12 = some v12 ∧ W.cell? p13 = some v13 ∧ W.cell? p14 = some v14 ∧ W.cell? p15 = some v15
theorem RcS.keep {p0 p1 p2 p3 p4 p5 p6 p7 p8 p9 p10 p11 p12 p13 p14 p15 : Addr} {v0 v1 v2 v3 v4 v5 v6 v7 v8 v9 v10 v11 v12 v13 v14 v15 : Value} {W W' : World} (h : RcS p0 p1 p2 p3 p4 p5 p6 p7 p8 p9 p10 p11 p12 p13 p14 p15 v0 v1 v2 v3 v4 v5 v6 v7 v8 v9 v10 v11 v12 v13 v14 v15 W) (hB : Below W.heap.size W W') : RcS p0 p1 p2 p3 p4 p5 p6 p7 p8 p9 p10 p11 p12 p13 p14 p15 v0 v1 v2 v3 v4 v5 v6 v7 v8 v9 v10 v11 v12 v13 v14 v15 W' := by
  obtain ⟨h0, h1, h2, h3, h4, h5, h6, h7, h8, h9, h10, h11, h12, h13, h14, h15⟩ := h
  exact ⟨ten_kept h0 hB, ten_kept h1 hB, ten_kept h2 hB, ten_kept h3 hB, ten_kept h4 hB, ten_kept h5 hB, ten_kept h6 hB, ten_kept h7 hB, ten_kept h8 hB, ten_kept h9 hB, ten_kept h10 hB, ten_kept h11 hB, ten_kept h12 hB, ten_kept h13 hB, ten_kept h14 hB, ten_kept h15 hB⟩
set_option maxRecDepth 100000 in
set_option maxHeartbeats 2000000 in
theorem rcv_c (qs : List Int) (a b : Ten) (c : Cv) (hf : Cv.Fine qs a b c) (d : Dsc) (A : Option Addr) (qcap i : Nat) (w : World) (hi : i < c.oh * c.ow * c.N) (hQ : Ri w A qs) (ha : a.In w) (hb : b.In w) (hd : d.In w) (hdz : d.zs = [(c.oh : Int), (c.ow : Int), (c.N : Int)]) :
    Calls Tryd.prog 81 #[.slice A 3 qcap, .int .i64 i, .agg (tcells a.P a.zs.length a.cap a.u a.D a.ds.length a.dcap), .agg (tcells b.P b.zs.length b.cap b.u b.D b.ds.length b.dcap), .agg (dcells d.P d.zs.length d.cap d.u)] w fun e w' => e = .returned (.int .i64 (Tens.wide (c.el a.ds b.ds (i / c.N / c.ow) (i / c.N % c.ow) (i % c.N)))) ∧ Below w.heap.size w w' := by
  have hok := hf.ok
  have hra := ha.shp
  have hrb := hb.shp
  have hrd := hd.shp
  rw [hf.az] at hra
  rw [hf.bz] at hrb
  rw [hdz] at hrd
  rw [hf.qz] at hQ
  obtain ⟨pa, epa, -, a0, a1, a2⟩ := ri_three hra
  obtain ⟨pk, epk, -, b0, b1, b2, b3⟩ := ri_four hrb
  obtain ⟨pd, epd, -, d0, d1, d2⟩ := ri_three hrd
  obtain ⟨pq, epq, -, q0, q1, q2⟩ := ri_three hQ
  subst epq
  have hla : a.zs.length = 3 := by rw [hf.az]; rfl
  have hlb : b.zs.length = 4 := by rw [hf.bz]; rfl
  have hld : d.zs.length = 3 := by rw [hdz]; rfl
  have hN1 := hok.n1
  have hq0 : i / c.N < c.oh * c.ow := Nat.div_lt_of_lt_mul (by rw [Nat.mul_comm]; exact hi)
  have how1 : 1 ≤ c.ow := Nat.succ_pos _
  have hY : i / c.N / c.ow < c.oh := Nat.div_lt_of_lt_mul (by rw [Nat.mul_comm]; exact hq0)
  have hX : i / c.N % c.ow < c.ow := Nat.mod_lt _ how1
  have hO : i % c.N < c.N := Nat.mod_lt _ hN1
  obtain ⟨q, hq⟩ : ∃ q_, Hid (i / c.N = q_) := ⟨_, hide rfl⟩
  obtain ⟨O, hO'⟩ : ∃ q_, Hid (i % c.N = q_) := ⟨_, hide rfl⟩
  rw [hq.out] at hY hX hq0 ⊢
  rw [hO'.out] at hO ⊢
  obtain ⟨Y, hY'⟩ : ∃ q_, Hid (q / c.ow = q_) := ⟨_, hide rfl⟩
  obtain ⟨X, hX'⟩ : ∃ q_, Hid (q % c.ow = q_) := ⟨_, hide rfl⟩
  rw [hY'.out] at hY ⊢
  rw [hX'.out] at hX ⊢
  have hib : i < 16384 := Nat.lt_of_lt_of_le hi hf.mn
  have hqi : q ≤ i := by rw [← hq.out]; exact Nat.div_le_self _ _
  have HYB : Hid (Y * c.s + c.KH ≤ c.H + 2 * c.p) := hide (Cv.here_le c.H c.KH c.s c.p Y hY hok.kh2)
  have HXB : Hid (X * c.s + c.KW ≤ c.W + 2 * c.p) := hide (Cv.here_le c.W c.KW c.s c.p X hX hok.kw2)
  have hc11 : c.C * c.KW * c.KH ≤ 1000000 := by
    have h1 := hok.k2
    have h2 : c.KH * c.KW * c.C ≤ c.KH * c.KW * c.C * c.N := Nat.le_mul_of_pos_right _ hok.n1
    have h3 : c.C * c.KW * c.KH = c.KH * c.KW * c.C := by rw [Nat.mul_comm, Nat.mul_comm c.C, Nat.mul_assoc]
    omega
  have HWAY := hide (fun y x o dy dx ch A B h1 h2 h3 => c.way_le hf.sa hf.sb hok.z2 hc11 hok.kh1 hok.kw1 y x o dy dx ch A B h1 h2 h3)
  have HPR := hide (fun A B ch => c.prod_le hf.sa hf.sb hok.z2 A B ch)
  have HOK := hide hok
  have HSA := hide hf.sa
  have HDA := hide (fun W (h : Below w.heap.size w W) => ha.dat.below h)
  have HDB := hide (fun W (h : Below w.heap.size w W) => hb.dat.below h)
  have HWD := hide (fun n W => rwide_c n W)
  obtain ⟨na, hna⟩ : ∃ q_, Hid (a.ds.length = q_) := ⟨_, hide rfl⟩
  obtain ⟨nb, hnb⟩ : ∃ q_, Hid (b.ds.length = q_) := ⟨_, hide rfl⟩
  have Hna : Hid (na = c.H * c.W * c.C) := hide (by rw [← hna.out]; exact hf.al)
  have Hnb : Hid (nb = c.KH * c.KW * c.C * c.N) := hide (by rw [← hnb.out]; exact hf.bl)
  obtain ⟨W0, hW0⟩ : ∃ W, W = ((w.alloc (.cells #[.slice a.P a.zs.length a.cap, .bool a.u, .slice a.D a.ds.length a.dcap] 26)).alloc (.cells #[.slice b.P b.zs.length b.cap, .bool b.u, .slice b.D b.ds.length b.dcap] 26)).alloc (.cells #[.slice d.P d.zs.length d.cap, .bool d.u] 24) := ⟨_, rfl⟩
  have hA : Has W0 w.heap.size 26 [.slice a.P a.zs.length a.cap, .bool a.u, .slice a.D a.ds.length a.dcap] := by rw [hW0]; exact ((Has.new w 26 _).alloc _).alloc _
  have hBx : Has W0 (w.heap.size + 1) 26 [.slice b.P b.zs.length b.cap, .bool b.u, .slice b.D b.ds.length b.dcap] := by rw [hW0]; exact (box_at _ _ _ _ (by simp)).alloc _
  have hDx : Has W0 (w.heap.size + 2) 24 [.slice d.P d.zs.length d.cap, .bool d.u] := by rw [hW0]; exact box_at _ _ _ _ (by simp)
  have hbw : Below w.heap.size w W0 := by rw [hW0]; exact (((Below.refl _ _).alloc (Nat.le_refl _) _).alloc (by simp) _).alloc (by simp; omega) _
  rw [epa, hla, hna.out] at hA hW0
  rw [epk, hlb, hnb.out] at hBx hW0
  rw [epd, hld] at hDx hW0
  have HS : Hid (RcS ⟨w.heap.size, 0, none⟩ ⟨w.heap.size, 2, none⟩ ⟨w.heap.size + 1, 0, none⟩ ⟨w.heap.size + 1, 2, none⟩ ⟨w.heap.size + 2, 0, none⟩ pa ⟨pa.block, pa.off + 1, none⟩ ⟨pa.block, pa.off + 2, none⟩ pk ⟨pk.block, pk.off + 1, none⟩ ⟨pk.block, pk.off + 2, none⟩ ⟨pd.block, pd.off + 1, none⟩ ⟨pd.block, pd.off + 2, none⟩ pq ⟨pq.block, pq.off + 1, none⟩ ⟨pq.block, pq.off + 2, none⟩ (.slice (some pa) 3 a.cap) (.slice a.D na a.dcap) (.slice (some pk) 4 b.cap) (.slice b.D nb b.dcap) (.slice (some pd) 3 d.cap) (.int .i64 c.H) (.int .i64 c.W) (.int .i64 c.C) (.int .i64 c.KH) (.int .i64 c.KW) (.int .i64 c.C) (.int .i64 c.ow) (.int .i64 c.N) (.int .i64 c.s) (.int .i64 c.p) (.int .i64 c.za) W0) := hide ⟨hA.cell 0, hA.cell 2, hBx.cell 0, hBx.cell 2, hDx.cell 0, ten_kept a0 hbw, ten_kept a1 hbw, ten_kept a2 hbw, ten_kept b0 hbw, ten_kept b1 hbw, ten_kept b2 hbw, ten_kept d1 hbw, ten_kept d2 hbw, ten_kept q0 hbw, ten_kept q1 hbw, ten_kept q2 hbw⟩
  have HB0 := hide hbw
  have HYB' := HYB
  have HW := hide hW0
  have HOl := hide hO
  have HQ1 : Hid ((i : Int) / (c.N : Int) = (q : Int)) := hide (by rw [← hq.out]; exact (Int.natCast_ediv i c.N).symm)
  have HQ2 : Hid ((i : Int).tdiv (c.N : Int) = (q : Int)) := hide (by rw [Int.tdiv_eq_ediv_of_nonneg (by omega)]; exact HQ1.out)
  have HQ3 : Hid (IntKind.i64.wrap (q : Int) = (q : Int)) := hide (by rw [IntKind.wrap_i64]; omega)
  have HO1 : Hid ((i : Int) % (c.N : Int) = (O : Int)) := hide (by rw [← hO'.out]; exact (Int.natCast_emod i c.N).symm)
  have HX1 : Hid ((q : Int) % (c.ow : Int) = (X : Int)) := hide (by rw [← hX'.out]; exact (Int.natCast_emod q c.ow).symm)
  have HX2 : Hid ((q : Int).tmod (c.ow : Int) = (X : Int)) := hide (by rw [Int.tmod_eq_emod_of_nonneg (by omega)]; exact HX1.out)
  have HY1 : Hid ((q : Int) / (c.ow : Int) = (Y : Int)) := hide (by rw [← hY'.out]; exact (Int.natCast_ediv q c.ow).symm)
  have HY2 : Hid ((q : Int).tdiv (c.ow : Int) = (Y : Int)) := hide (by rw [Int.tdiv_eq_ediv_of_nonneg (by omega)]; exact HY1.out)
  have HYq : Y ≤ q := by rw [← hY'.out]; exact Nat.div_le_self _ _
  have HY3 : Hid (IntKind.i64.wrap (Y : Int) = (Y : Int)) := hide (by rw [IntKind.wrap_i64]; omega)
  have hNn : ¬ ((c.N : Int) = 0) := by omega
  have hNn2 : ¬ c.N = 0 := by omega
  have hwn : ¬ ((c.ow : Int) = 0) := by omega
  have hwn2 : ¬ c.ow = 0 := by omega
  have hi63 : (i : Int) ≤ 16384 := by omega
  have zd0 : (((w.alloc (.cells #[.slice (some pa) 3 a.cap, .bool a.u, .slice a.D na a.dcap] 26)).alloc (.cells #[.slice (some pk) 4 b.cap, .bool b.u, .slice b.D nb b.dcap] 26)).alloc (.cells #[.slice (some pd) 3 d.cap, .bool d.u] 24)).cell? ⟨pd.block, pd.off + 2, none⟩ = some (.int .i64 c.N) := by rw [← hW0]; exact ten_kept d2 hbw
  rw [hla, hlb, hld, epa, epk, epd, hna.out, hnb.out]
  clear hi hQ ha hb hd hdz hf hok hra hrb hrd a0 a1 a2 b0 b1 b2 b3 d0 d1 d2 q0 q1 q2 hW0 hA hBx hDx hbw hla hlb hld hc11 hq0 how1 hY hX hO epa epk epd hib hqi hN1
  go_enter Tryd.func81, Tryd.ntmps81
  go_wp2_with fail
  rw [← HW.out, HO1.out]
  clear HW zd0
  obtain ⟨-, -, -, -, kd0, -, -, -, -, -, -, jd1, -, -, -, -⟩ := HS.out
  have o1 := HQ1.out
  have o2 := HQ2.out
  have o3 := HQ3.out
  have o4 := HX1.out
  have o5 := HX2.out
  go_quiet (fail)
  clear o1 o2 o3 o4 o5 kd0 jd1
  have HBq := hide (below_drewN (Below.refl W0.heap.size W0) nq)
  generalize W0.drewN nq = W3 at *
  go_wp2_with fail
  obtain ⟨-, -, -, -, kd0, -, -, -, -, -, -, jd1, -, -, -, -⟩ := RcS.keep HS.out HBq.out
  have o1 := HQ1.out
  have o2 := HQ2.out
  have o3 := HQ3.out
  have o4 := HY1.out
  have o5 := HY2.out
  have o6 := HY3.out
  go_quiet (fail)
  clear o1 o2 o3 o4 o5 o6 kd0 jd1
  have HB := hide (below_drewN HBq.out nq)
  generalize W3.drewN nq = W4 at *
  go_wp2_with fail
  clear HBq
  go_loopg [15, 16, 17, 18, 19, 20, 21, 22] c.KH (fun gq v15 v16 _ _ _ _ _ _ wr => ∃ (e : Nat) (S : Int), gq + e = c.KH ∧ v16 = .int .i64 e ∧ v15 = .int .i64 S ∧ Hid (Cv.sum (c.row a.ds b.ds Y X O) e = S) ∧ Hid (Below W0.heap.size W0 wr))
  case atStart => exact ⟨0, 0, by omega, rfl, rfl, hide rfl, HB⟩
  case round =>
    clear HB
    obtain ⟨e, S, he, rfl, rfl, HD, HB⟩ := hrel
    obtain ⟨-, -, kb0, -, -, -, -, -, jk0, -, -, -, -, -, -, -⟩ := RcS.keep HS.out HB.out
    by_cases hek : e = c.KH
    case pos =>
      have HV : Hid (Tens.wide (c.el a.ds b.ds Y X O) = Tens.wide S) := hide (by rw [← HD.out, hek]; rfl)
      have hlt : ¬ (e : Int) < (c.KH : Int) := by omega
      have HBF := hide (HB0.out.trans (HB.out.mono HB0.out.size))
      have HC := hide (HWD.out S wr)
      go_wp2_with fail
      refine HC.out.mono ?_
      rintro e' w9 ⟨rfl, hw⟩
      have hw := hw.symm
      subst hw
      go_wp2_with fail
      go_ret
      exact ⟨by rw [HV.out]; rfl, HBF.out⟩
    case neg =>
    have hel : e < c.KH := by omega
    have hel' : (e : Int) < (c.KH : Int) := by omega
    go_wp2_with fail
    clear kb0 jk0
    go_loopg [15, 17, 18, 19, 20, 21, 22] c.KW (fun gq v15 v17 _ _ _ _ _ wr => ∃ (f : Nat) (S2 : Int), gq + f = c.KW ∧ v17 = .int .i64 f ∧ v15 = .int .i64 S2 ∧ Hid (S + Cv.sum (c.colx a.ds b.ds Y X O e) f = S2) ∧ Hid (Below W0.heap.size W0 wr))
    case atStart => exact ⟨0, S, by omega, rfl, rfl, hide (Int.add_zero _), HB⟩
    case round =>
      clear HB
      obtain ⟨f, S2, hf9, rfl, rfl, HD2, HB⟩ := hrel
      obtain ⟨-, -, kb0, -, -, -, -, -, -, jk1, -, -, -, -, -, -⟩ := RcS.keep HS.out HB.out
      by_cases hfk : f = c.KW
      case pos =>
        have HD' : Hid (Cv.sum (c.row a.ds b.ds Y X O) (e + 1) = S2) := hide (by
          show Cv.sum (c.row a.ds b.ds Y X O) e + c.row a.ds b.ds Y X O e = S2
          rw [HD.out, ← Cv.row_x, ← hfk]
          exact HD2.out)
        have hlt : ¬ (f : Int) < (c.KW : Int) := by omega
        have he1 : ((e : Nat) : Int) + 1 ≤ 1000101 := by have := HOK.out.kh2; have := HOK.out.h2; have := HOK.out.p2; omega
        go_wp2_with fail
        go_roundg (c.KH - (e + 1))
        case measure => omega
        case rel => exact ⟨e + 1, S2, by omega, by go_num, rfl, HD', HB⟩
      case neg =>
      have hfl : f < c.KW := by omega
      have hfl' : (f : Int) < (c.KW : Int) := by omega
      obtain ⟨ys, hys⟩ : ∃ x, Hid (Y * c.s = x) := ⟨_, hide rfl⟩
      obtain ⟨xz, hxz⟩ : ∃ x, Hid (X * c.s = x) := ⟨_, hide rfl⟩
      obtain ⟨yp, hyp⟩ : ∃ x : Int, Hid ((ys : Int) - (c.p : Int) = x) := ⟨_, hide rfl⟩
      obtain ⟨xp, hxp⟩ : ∃ x : Int, Hid ((xz : Int) - (c.p : Int) = x) := ⟨_, hide rfl⟩
      obtain ⟨r, hr⟩ : ∃ x : Int, Hid (yp + (e : Int) = x) := ⟨_, hide rfl⟩
      obtain ⟨cc, hcc⟩ : ∃ x : Int, Hid (xp + (f : Int) = x) := ⟨_, hide rfl⟩
      have Hp : Hid (c.p ≤ 15 ∧ ys ≤ 1000030 ∧ xz ≤ 1000030 ∧ e ≤ 1000030 ∧ f ≤ 1000030) := hide (by
        have h3 := HYB.out
        have h4 := HXB.out
        have h5 := HOK.out.p2
        have h6 := HOK.out.h2
        have h7 := HOK.out.w2
        rw [hys.out] at h3
        rw [hxz.out] at h4
        omega)
      have Hu1 : Hid (IntKind.i64.wrap ((Y : Int) * (c.s : Int)) = (ys : Int)) := hide (by rw [← Int.natCast_mul, hys.out, IntKind.wrap_i64]; have := Hp.out; omega)
      have Hu2 : Hid (IntKind.i64.wrap ((ys : Int) - (c.p : Int)) = yp) := hide (by rw [hyp.out, IntKind.wrap_i64]; have := Hp.out; have := hyp.out; omega)
      have Hu3 : Hid (IntKind.i64.wrap (yp + (e : Int)) = r) := hide (by rw [hr.out, IntKind.wrap_i64]; have := Hp.out; have := hyp.out; have := hr.out; omega)
      have Hu4 : Hid (IntKind.i64.wrap ((X : Int) * (c.s : Int)) = (xz : Int)) := hide (by rw [← Int.natCast_mul, hxz.out, IntKind.wrap_i64]; have := Hp.out; omega)
      have Hu5 : Hid (IntKind.i64.wrap ((xz : Int) - (c.p : Int)) = xp) := hide (by rw [hxp.out, IntKind.wrap_i64]; have := Hp.out; have := hxp.out; omega)
      have Hu6 : Hid (IntKind.i64.wrap (xp + (f : Int)) = cc) := hide (by rw [hcc.out, IntKind.wrap_i64]; have := Hp.out; have := hxp.out; have := hcc.out; omega)
      have jq0 := (RcS.keep HS.out HB.out).2.2.2.2.2.2.2.2.2.2.2.2.2.1
      have jq1 := (RcS.keep HS.out HB.out).2.2.2.2.2.2.2.2.2.2.2.2.2.2.1
      go_wp2_with fail
      have o1 := Hu1.out
      have o2 := Hu2.out
      have o3 := Hu3.out
      go_quiet (fail)
      clear o1 o2 o3 jq0 jq1 kb0 jk1
      replace HB := hide (below_drewN HB.out nq)
      generalize wr.drewN nq = W5 at *
      have jq0 := (RcS.keep HS.out HB.out).2.2.2.2.2.2.2.2.2.2.2.2.2.1
      have jq1 := (RcS.keep HS.out HB.out).2.2.2.2.2.2.2.2.2.2.2.2.2.2.1
      go_wp2_with fail
      have o1 := Hu4.out
      have o2 := Hu5.out
      have o3 := Hu6.out
      go_quiet (fail)
      clear o1 o2 o3 jq0 jq1 Hu1 Hu2 Hu3 Hu4 Hu5 Hu6
      replace HB := hide (below_drewN HB.out nq)
      generalize W5.drewN nq = W6 at *
      have hf1 : ((f : Nat) : Int) + 1 ≤ 1000101 := by have := Hp.out; omega
      by_cases g : 0 ≤ r ∧ 0 ≤ cc ∧ r < (c.H : Int) ∧ cc < (c.W : Int)
      case pos =>
        have hyy0 : (0 : Int) ≤ r := g.1
        obtain ⟨yy, hyy⟩ : ∃ n : Nat, Hid (r = n) := ⟨r.toNat, hide (by omega)⟩
        obtain ⟨xx, hxx⟩ : ∃ n : Nat, Hid (cc = n) := ⟨cc.toNat, hide (by omega)⟩
        have HYN : Hid (ys + e - c.p = yy ∧ c.p ≤ ys + e) := hide (by have h1 := hr.out; have h2 := hyp.out; have h3 := hyy.out; omega)
        have HXN : Hid (xz + f - c.p = xx ∧ c.p ≤ xz + f) := hide (by have h1 := hcc.out; have h2 := hxp.out; have h3 := hxx.out; omega)
        have HYH : Hid (Cv.here c.H c.s c.p Y e) := hide (by have h1 := HYN.out; have h3 := hyy.out; refine ⟨?_, ?_⟩ <;> rw [hys.out] <;> omega)
        have HXH : Hid (Cv.here c.W c.s c.p X f) := hide (by have h1 := HXN.out; have h3 := hxx.out; refine ⟨?_, ?_⟩ <;> rw [hxz.out] <;> omega)
        have hr' := hyy.out
        have hc' := hxx.out
        subst hr'
        subst hc'
        obtain ⟨yw, hyw⟩ : ∃ x, Hid (yy * c.W = x) := ⟨_, hide rfl⟩
        obtain ⟨e3, he3⟩ : ∃ x, Hid (yw + xx = x) := ⟨_, hide rfl⟩
        obtain ⟨A', hA'⟩ : ∃ x, Hid (e3 * c.C = x) := ⟨_, hide rfl⟩
        have HIA : Hid (c.ia Y X e f = A') := hide (by
          unfold Cv.ia
          rw [hys.out, hxz.out, HYN.out.1, HXN.out.1, hyw.out, he3.out, hA'.out])
        have HAl : Hid (A' + c.C ≤ na) := hide (by
          have h := c.ia_lt Y X e f HYH.out HXH.out
          rw [HIA.out, ← Hna.out] at h
          exact h)
        have Hnl : Hid (na ≤ 1000000 ∧ nb ≤ 1000000 ∧ 1 ≤ c.C ∧ 1 ≤ c.N) := hide (by rw [Hna.out, Hnb.out]; exact ⟨HOK.out.a2, HOK.out.k2, HOK.out.c1, HOK.out.n1⟩)
        have Hle : Hid (e3 ≤ A') := hide (by rw [← hA'.out]; exact Nat.le_mul_of_pos_right _ Hnl.out.2.2.1)
        obtain ⟨g1, hg1⟩ : ∃ x, Hid (e * c.KW = x) := ⟨_, hide rfl⟩
        obtain ⟨g2, hg2⟩ : ∃ x, Hid (g1 + f = x) := ⟨_, hide rfl⟩
        obtain ⟨g3, hg3⟩ : ∃ x, Hid (g2 * c.C = x) := ⟨_, hide rfl⟩
        obtain ⟨g4, hg4⟩ : ∃ x, Hid (g3 * c.N = x) := ⟨_, hide rfl⟩
        obtain ⟨B', hB'⟩ : ∃ x, Hid (g4 + O = x) := ⟨_, hide rfl⟩
        have HIK : Hid (c.ik O e f = B') := hide (by
          unfold Cv.ik
          rw [hg1.out, hg2.out, hg3.out, hg4.out, hB'.out])
        have HBl : Hid (∀ j, j < c.C → B' + j * c.N < nb) := hide (fun j hj => by
          have h := c.ik_lt O e f j hel hfl hj HOl.out
          rw [HIK.out, ← Hnb.out] at h
          exact h)
        have Hb0 : Hid (B' < nb) := hide (by have := HBl.out 0 Hnl.out.2.2.1; omega)
        have Hl4 : Hid (g3 ≤ g4) := hide (by rw [← hg4.out]; exact Nat.le_mul_of_pos_right _ Hnl.out.2.2.2)
        have Hl3 : Hid (g2 ≤ g3) := hide (by rw [← hg3.out]; exact Nat.le_mul_of_pos_right _ Hnl.out.2.2.1)
        have Hw1 : Hid (IntKind.i64.wrap ((yy : Int) * (c.W : Int)) = (yw : Int)) := hide (by rw [← Int.natCast_mul, hyw.out, IntKind.wrap_i64]; have := Hle.out; have := HAl.out; have := he3.out; have := Hnl.out; omega)
        have Hw2 : Hid (IntKind.i64.wrap ((yw : Int) + (xx : Int)) = (e3 : Int)) := hide (by rw [IntKind.wrap_i64]; have := Hle.out; have := HAl.out; have := he3.out; have := Hnl.out; omega)
        have Hw3 : Hid (IntKind.i64.wrap ((e3 : Int) * (c.C : Int)) = (A' : Int)) := hide (by rw [← Int.natCast_mul, hA'.out, IntKind.wrap_i64]; have := HAl.out; have := Hnl.out; omega)
        have Hv1 : Hid (IntKind.i64.wrap ((e : Int) * (c.KW : Int)) = (g1 : Int)) := hide (by rw [← Int.natCast_mul, hg1.out, IntKind.wrap_i64]; have := Hb0.out; have := Hl4.out; have := Hl3.out; have := hg2.out; have := hB'.out; have := Hnl.out; omega)
        have Hv2 : Hid (IntKind.i64.wrap ((g1 : Int) + (f : Int)) = (g2 : Int)) := hide (by rw [IntKind.wrap_i64]; have := Hb0.out; have := Hl4.out; have := Hl3.out; have := hg2.out; have := hB'.out; have := Hnl.out; omega)
        have Hv3 : Hid (IntKind.i64.wrap ((g2 : Int) * (c.C : Int)) = (g3 : Int)) := hide (by rw [← Int.natCast_mul, hg3.out, IntKind.wrap_i64]; have := Hb0.out; have := Hl4.out; have := hB'.out; have := Hnl.out; omega)
        obtain ⟨ka0, -, -, -, -, ja0, ja1, -, -, -, -, -, -, -, -, -⟩ := RcS.keep HS.out HB.out
        have k1 := g.1
        have k2 := g.2.1
        have k3 := g.2.2.1
        have k4 := g.2.2.2
        have k5 : ¬ (c.H : Int) ≤ (yy : Int) := by omega
        have k6 : ¬ (c.W : Int) ≤ (xx : Int) := by omega
        have k7 : ¬ (yy : Int) < 0 := by omega
        have k8 : ¬ (xx : Int) < 0 := by omega
        clear g hyy0
        go_wp2_with fail
        clear ka0 ja0 ja1 k1 k2 k3 k4 k5 k6 k7 k8
        go_loopg [15, 20, 21, 22] c.C (fun gq v15 v20 _ _ wr => ∃ (j : Nat) (S3 : Int), gq + j = c.C ∧ v20 = .int .i64 j ∧ v15 = .int .i64 S3 ∧ Hid (S2 + Cv.sum (c.prod a.ds b.ds A' B') j = S3) ∧ Hid (Below W0.heap.size W0 wr))
        case atStart => exact ⟨0, S2, by omega, rfl, rfl, hide (Int.add_zero _), HB⟩
        case round =>
          clear HB
          obtain ⟨j, S3, hj, rfl, rfl, HD3, HB⟩ := hrel
          obtain ⟨ka0, -, -, -, -, -, -, ja2, -, -, -, -, -, -, -, -⟩ := RcS.keep HS.out HB.out
          by_cases hjk : j = c.C
          · have HD' : Hid (S + Cv.sum (c.colx a.ds b.ds Y X O e) (f + 1) = S3) := hide (by
              show S + (Cv.sum (c.colx a.ds b.ds Y X O e) f + c.colx a.ds b.ds Y X O e f) = S3
              rw [← Int.add_assoc, HD2.out, ← HD3.out, hjk]
              unfold Cv.colx Cv.col
              rw [if_pos HYH.out, if_pos HXH.out, HIA.out, HIK.out])
            have hlt : ¬ (j : Int) < (c.C : Int) := by omega
            go_wp2_with fail
            go_roundg (c.KW - (f + 1))
            case measure => omega
            case rel => exact ⟨f + 1, S3, by omega, by go_num, rfl, HD', HB⟩
          · have hjl : j < c.C := by omega
            have hjl' : (j : Int) < (c.C : Int) := by omega
            obtain ⟨q1, hq1⟩ : ∃ q, Hid (A' + j = q) := ⟨_, hide rfl⟩
            obtain ⟨h1, hh1⟩ : ∃ q, Hid (g3 + j = q) := ⟨_, hide rfl⟩
            obtain ⟨h2, hh2⟩ : ∃ q, Hid (h1 * c.N = q) := ⟨_, hide rfl⟩
            obtain ⟨q2, hq2⟩ : ∃ q, Hid (h2 + O = q) := ⟨_, hide rfl⟩
            have Hq2e : Hid (B' + j * c.N = q2) := hide (by rw [← hB'.out, ← hq2.out, ← hh2.out, ← hh1.out, ← hg4.out, Nat.add_mul]; omega)
            have hq1n : q1 < na := by have := HAl.out; have := hq1.out; omega
            have hq2n : q2 < nb := by have h := HBl.out j hjl; rw [Hq2e.out] at h; exact h
            have Hh1 : Hid (h1 ≤ h2) := hide (by rw [← hh2.out]; exact Nat.le_mul_of_pos_right _ Hnl.out.2.2.2)
            have Hr1 : Hid (IntKind.i64.wrap ((A' : Int) + (j : Int)) = (q1 : Int)) := hide (by have := hq1.out; have := Hnl.out; rw [IntKind.wrap_i64]; omega)
            have Hr2 : Hid (IntKind.i64.wrap ((g3 : Int) + (j : Int)) = (h1 : Int)) := hide (by have := hh1.out; have := Hh1.out; have := hq2.out; have := Hnl.out; rw [IntKind.wrap_i64]; omega)
            have Hr3 : Hid (IntKind.i64.wrap ((h1 : Int) * (c.N : Int)) = (h2 : Int)) := hide (by rw [← Int.natCast_mul, hh2.out, IntKind.wrap_i64]; have := hq2.out; have := Hnl.out; omega)
            have Hr4 : Hid (IntKind.i64.wrap ((h2 : Int) + (O : Int)) = (q2 : Int)) := hide (by have := hq2.out; have := Hnl.out; rw [IntKind.wrap_i64]; omega)
            obtain ⟨ad, x, hAD, ex, cx⟩ := ri_at (HDA.out wr (HB0.out.trans (HB.out.mono HB0.out.size))) q1 (by rw [hna.out]; exact hq1n)
            have hxb := HSA.out x (List.mem_of_getElem? ex.out)
            have hzb := HOK.out.z2
            obtain ⟨x', hx'⟩ : ∃ q, Hid (x - c.za = q) := ⟨_, hide rfl⟩
            have Hwx : Hid (IntKind.i64.wrap (x - c.za) = x') := hide (by rw [IntKind.wrap_i64, ← hx'.out]; omega)
            have ka2 := (RcS.keep HS.out HB.out).2.1
            have ja1 := (RcS.keep HS.out HB.out).2.2.2.2.2.2.1
            have jq2 := (RcS.keep HS.out HB.out).2.2.2.2.2.2.2.2.2.2.2.2.2.2.2
            rw [hAD] at ka2
            have hq10 : (0 : Int) ≤ (q1 : Int) := by omega
            have hq11 : (q1 : Int) < na := by omega
            have HEX := hide ex.out
            clear hAD hxb hzb ex
            go_wp2_with fail
            have o1 := Hw1.out
            have o2 := Hw2.out
            have o3 := Hw3.out
            have o4 := Hr1.out
            have o5 := Hwx.out
            go_quiet (fail)
            clear o1 o2 o3 o4 o5 ka0 ka2 ja1 ja2 jq2 cx hq10 hq11
            replace HB := hide (below_drewN HB.out nq)
            generalize wr.drewN nq = W7 at *
            obtain ⟨bd, y, hBD, ey, cy⟩ := ri_at (HDB.out W7 (HB0.out.trans (HB.out.mono HB0.out.size))) q2 (by rw [hnb.out]; exact hq2n)
            obtain ⟨pr, hpr⟩ : ∃ q, Hid (x' * y = q) := ⟨_, hide rfl⟩
            have Hpe : Hid (c.prod a.ds b.ds A' B' j = pr) := hide (by
              unfold Cv.prod
              rw [Hq2e.out, hq1.out, List.getD_eq_getElem?_getD, List.getD_eq_getElem?_getD, HEX.out, ey.out, Option.getD_some, Option.getD_some, hx'.out, hpr.out])
            have hprb := HPR.out A' B' j
            rw [Hpe.out] at hprb
            have Hwpr : Hid (wrap64 (x' * y) = pr) := hide (by rw [hpr.out]; unfold wrap64; omega)
            obtain ⟨S4, hS4⟩ : ∃ q, Hid (S3 + pr = q) := ⟨_, hide rfl⟩
            have HD4 : Hid (S2 + Cv.sum (c.prod a.ds b.ds A' B') (j + 1) = S4) := hide (by
              show S2 + (Cv.sum (c.prod a.ds b.ds A' B') j + c.prod a.ds b.ds A' B' j) = S4
              rw [← Int.add_assoc, HD3.out, Hpe.out, hS4.out])
            have hcx : Cv.sum (c.colx a.ds b.ds Y X O e) f = Cv.sum (c.col a.ds b.ds Y X O e) f := Cv.sum_same _ _ _ (fun i _ => by unfold Cv.colx; rw [if_pos HYH.out])
            have hd2 := HD2.out
            rw [hcx] at hd2
            have hway := HWAY.out Y X O e f (j + 1) A' B' (by omega) (by omega) (by omega)
            rw [HD.out, hd2, HD4.out] at hway
            have Hws : Hid (wrap64 (S3 + pr) = S4) := hide (by rw [hS4.out]; unfold wrap64; omega)
            have kb2 := (RcS.keep HS.out HB.out).2.2.2.1
            have kb0 := (RcS.keep HS.out HB.out).2.2.1
            have jk1 := (RcS.keep HS.out HB.out).2.2.2.2.2.2.2.2.2.1
            have jk2 := (RcS.keep HS.out HB.out).2.2.2.2.2.2.2.2.2.2.1
            rw [hBD] at kb2
            have hq20 : (0 : Int) ≤ (q2 : Int) := by omega
            have hq21 : (q2 : Int) < nb := by omega
            have hj1 : ((j : Nat) : Int) + 1 ≤ 1000001 := by have := HAl.out; have := Hnl.out; omega
            clear hBD hprb hway hd2 hcx ey hq1n hq2n
            go_wp2_with fail
            have o1 := Hv1.out
            have o2 := Hv2.out
            have o3 := Hv3.out
            have o4 := Hr2.out
            have o5 := Hr3.out
            have o6 := Hr4.out
            go_quiet (fail)
            clear o1 o2 o3 o4 o5 o6 kb0 kb2 jk1 jk2 cy hq20 hq21
            replace HB := hide (below_drewN HB.out nq)
            generalize W7.drewN nq = W8 at *
            have o1 := Hwpr.out
            have o2 := Hws.out
            go_wp2_with fail
            clear o1 o2
            go_roundg (c.C - (j + 1))
            case measure => omega
            case rel => exact ⟨j + 1, S4, by omega, by go_num, by rw [Hws.out], HD4, HB⟩
      case neg =>
      have HZ0 : Hid (c.colx a.ds b.ds Y X O e f = 0) := hide (by
        unfold Cv.colx
        by_cases hY : Cv.here c.H c.s c.p Y e
        · rw [if_pos hY]
          unfold Cv.col
          rw [if_neg]
          intro hX
          have y1 := hY.1
          have y2 := hY.2
          have x1 := hX.1
          have x2 := hX.2
          rw [hys.out] at y1 y2
          rw [hxz.out] at x1 x2
          have h1 := hr.out
          have h2 := hyp.out
          have h3 := hcc.out
          have h4 := hxp.out
          exact g ⟨by omega, by omega, by omega, by omega⟩
        · rw [if_neg hY])
      have HD' : Hid (S + Cv.sum (c.colx a.ds b.ds Y X O e) (f + 1) = S2) := hide (by
        show S + (Cv.sum (c.colx a.ds b.ds Y X O e) f + c.colx a.ds b.ds Y X O e f) = S2
        rw [← Int.add_assoc, HD2.out, HZ0.out, Int.add_zero])
      have HC : Hid (r < 0 ∨ (0 ≤ r ∧ cc < 0) ∨ (0 ≤ r ∧ 0 ≤ cc ∧ (c.H : Int) ≤ r) ∨ (0 ≤ r ∧ 0 ≤ cc ∧ r < (c.H : Int) ∧ (c.W : Int) ≤ cc)) := hide (by omega)
      obtain ⟨ka0, -, -, -, -, ja0, ja1, -, -, -, -, -, -, -, -, -⟩ := RcS.keep HS.out HB.out
      clear g
      rcases HC.out with g1 | ⟨g1, g2⟩ | ⟨g1, g2, g3⟩ | ⟨g1, g2, g3, g4⟩
      all_goals
        go_wp2_with fail
        go_roundg (c.KW - (f + 1))
        case measure => omega
        case rel => exact ⟨f + 1, S2, by omega, by go_num, rfl, HD', HB⟩
theorem Cv.ds_out {qs : List Int} {a b : Ten} (h : Cel.fault [a, b] (Cv.code qs a.look b.look) = (0, none)) :
    (Cv.ds qs a b).length = (Shp.elems (Cv.shape qs a.look b.look)).toNat ∧ (∀ z ∈ Cv.ds qs a b, (Lit.int .i64 z).wf = true) ∧ (Cv.ds qs a b).length ≤ 1000000 := by
  obtain ⟨c, hf⟩ := Cv.fine h
  have hmn := hf.mn
  rw [hf.ds, hf.sh, (Shp.whole hf.cd).2.2.1, Cv.prod3, Cv.part_length]
  refine ⟨by rw [Int.toNat_natCast], ?_, by omega⟩
  intro z hz
  obtain ⟨i, hi⟩ := List.mem_iff_getElem?.1 hz
  have hl : i < c.oh * c.ow * c.N := by
    have := (List.getElem?_eq_some_iff.1 hi).1
    rw [Cv.part_length] at this
    exact this
  rw [Cv.part_at _ _ _ _ _ _ hl] at hi
  rw [← Option.some.inj hi]
  exact wide_wf _
theorem relem_conv_at (qs : List Int) (a b : Ten) (A B : Option Addr) (qcap cap : Nat) (w : World) (hQ : Ri w A qs) (hR : Row w B ([a, b].flatMap Ten.vals)) (ha : a.In w) (hb : b.In w) (h : Cel.fault [a, b] (Cv.code qs a.look b.look) = (0, none)) :
    ∀ (i : Nat) (v : Int) (W : World) (d : Dsc), (Cv.ds qs a b)[i]? = some v → Below w.heap.size w W → d.In W → d.zs = Cv.shape qs a.look b.look → d.u = Cv.kind qs a.look b.look → Calls Tryd.prog 47 #[.int .i64 13, .slice A 3 qcap, .int .i64 i, .slice B [a, b].length cap, .agg (dcells d.P d.zs.length d.cap d.u)] W fun e w' => e = .returned (.int .i64 v) ∧ Below W.heap.size W w' := by
  intro i v W d hv hB hd hdz _
  obtain ⟨c, hf⟩ := Cv.fine h
  rw [hf.ds] at hv
  rw [hf.sh] at hdz
  have hl : i < c.oh * c.ow * c.N := by
    have := (List.getElem?_eq_some_iff.1 hv).1
    rw [Cv.part_length] at this
    exact this
  rw [Cv.part_at _ _ _ _ _ _ hl, Nat.zero_add] at hv
  rw [← Option.some.inj hv]
  have hql : qs.length = 3 := by rw [hf.qz]; rfl
  have h := relem_conv qs a b d A B qcap cap i _ W hql (hR.below hB) (fun W' h' => rcv_c qs a b c hf d A qcap i W' hl ((hQ.below hB).below h') ((ha.below hB).below h') ((hb.below hB).below h') (hd.below h') hdz)
  rw [hql] at h
  exact h
theorem Cv.len3 {qs : List Int} {a b : Ten} (h : Cel.fault [a, b] (Cv.code qs a.look b.look) = (0, none)) : qs.length = 3 := by
  obtain ⟨c, hf⟩ := Cv.fine h
  rw [hf.qz]
  rfl
theorem rapply_conv (qs : List Int) (a b : Ten) (A B : Option Addr) (qcap cap : Nat) (w : World) (hQ : Ri w A qs) (hR : Row w B ([a, b].flatMap Ten.vals)) (ha : a.In w) (hb : b.In w) (h : Cel.fault [a, b] (Cv.code qs a.look b.look) = (0, none)) :
    Calls Tryd.prog 16 #[.int .i64 13, .slice A 3 qcap, .slice B 2 cap] w (RTenE w (Cel.fault [a, b] (Cv.code qs a.look b.look)) (Cel.or [a, b] (Cv.code qs a.look b.look) (Cv.shape qs a.look b.look) []) (Cel.or [a, b] (Cv.code qs a.look b.look) (Cv.kind qs a.look b.look) false) (Cel.or [a, b] (Cv.code qs a.look b.look) (Cv.ds qs a b) [])) :=
  rapply_c 13 [a, b] A B 3 qcap cap _ _ _ _ w hR (by intro t ht; simp at ht; rcases ht with rfl | rfl <;> assumption) (by simp) (fun W B' cap' hB hRow => rres_conv qs a.look b.look A B' qcap cap' W (hQ.below hB) (Cv.len3 h) hRow (ha.below hB).look (hb.below hB).look) Cv.ds_out (relem_conv_at qs a b A B qcap cap w hQ hR ha hb)
theorem relement_conv (qs : List Int) (a b : Ten) (A B : Option Addr) (qcap cap : Nat) (i : Int) (w : World) (hQ : Ri w A qs) (hR : Row w B ([a, b].flatMap Ten.vals)) (ha : a.In w) (hb : b.In w) (h : Cel.fault [a, b] (Cv.code qs a.look b.look) = (0, none)) :
    Calls Tryd.prog 25 #[.int .i64 13, .slice A 3 qcap, .int .i64 i, .slice B 2 cap] w fun e w' => e = .returned (.int .i64 (Cv.cell qs a b i)) ∧ Below w.heap.size w w' :=
  relement_c 13 [a, b] A B 3 qcap cap _ _ _ _ i w hR (by intro t ht; simp at ht; rcases ht with rfl | rfl <;> assumption) (by simp) (fun W B' cap' hB hRow => rres_conv qs a.look b.look A B' qcap cap' W (hQ.below hB) (Cv.len3 h) hRow (ha.below hB).look (hb.below hB).look) (fun h => (Cv.ds_out h).1) (relem_conv_at qs a b A B qcap cap w hQ hR ha hb)
theorem E3.of {w : World} {es : List Addr} (h : Ez w es) : ∃ ah am ar, es[0]? = some ah ∧ es[1]? = some ar ∧ es[3]? = some am ∧ E3 w ah am ar := by
  obtain ⟨ah, hh⟩ : ∃ a, es[0]? = some a := ⟨_, List.getElem?_eq_getElem (by rw [h.1]; decide)⟩
  obtain ⟨ar, hr⟩ : ∃ a, es[1]? = some a := ⟨_, List.getElem?_eq_getElem (by rw [h.1]; decide)⟩
  obtain ⟨am, hm⟩ : ∃ a, es[3]? = some a := ⟨_, List.getElem?_eq_getElem (by rw [h.1]; decide)⟩
  exact ⟨ah, am, ar, hh, hr, hm, h.2.2 0 _ ah rfl hh, h.2.2 3 _ am rfl hm, h.2.2 1 _ ar rfl hr⟩
theorem Ten.fault_zero {t : Ten} (h : t.fault.1 = 0) : t.fault = (0, none) := by
  have hcs := tfault_cases t.zs t.u t.ds
  have hek : Ten.fault t = Tens.fault t.zs t.u t.ds := rfl
  rw [← hek] at hcs
  rcases hcs with e | e | e | e | ⟨j, e⟩
  · exact e
  · rw [e] at h; cases h
  · rw [e] at h; cases h
  · rw [e] at h; cases h
  · rw [e] at h; cases h
theorem Cel.fault_fst {a b : Ten} {k : Nat} (h : a.fault ≠ (0, none)) : Cel.fault [a, b] k = a.fault := by
  have e := Tens.first_at [a, b] 0 a rfl (fun j x hj => by omega) h
  rw [Cel.fault_first (by rw [e]; exact h), e]
theorem Cel.fault_snd {a b : Ten} {k : Nat} (h0 : a.fault = (0, none)) (h : b.fault ≠ (0, none)) : Cel.fault [a, b] k = b.fault := by
  have e := Tens.first_at [a, b] 1 b rfl (fun j x hj hx => by
    obtain rfl : j = 0 := by omega
    cases hx
    exact h0) h
  rw [Cel.fault_first (by rw [e]; exact h), e]
theorem Cel.fault_thd {a b : Ten} {k : Nat} (h0 : a.fault = (0, none)) (h : b.fault = (0, none)) : Cel.fault [a, b] k = (k, none) :=
  Cel.fault_code (Tens.first_none _ (fun j t ht => by
    match j, ht with
    | 0, ht => cases ht; exact h0
    | 1, ht => cases ht; exact h))
/-- The cells that the closing region reads. -/
abbrev CsS (p0 p1 p2 p3 p4 p5 p6 p7 p8 p9 p10 p11 : Addr) (v0 v1 v2 v3 v4 v5 v6 v7 v8 v9 v10 v11 : Value) (W : World) : Prop := W.cell? p0 = some v0 ∧ W.cell? p1 = some v1 ∧ W.cell? p2 = some v2 ∧ W.cell? p3 = some v3 ∧ W.cell? p4 = some v4 ∧ W.cell? p5 = some v5 ∧ W.cell? p6 = some v6 ∧ W.cell? p7 = some v7 ∧ W.cell? p8 = some v8 ∧ W.cell? p9 = some v9 ∧ W.cell? p10 = some v10 ∧ W.cell? p11 = some v11
theorem CsS.keep {p0 p1 p2 p3 p4 p5 p6 p7 p8 p9 p10 p11 : Addr} {v0 v1 v2 v3 v4 v5 v6 v7 v8 v9 v10 v11 : Value} {W W' : World} (h : CsS p0 p1 p2 p3 p4 p5 p6 p7 p8 p9 p10 p11 v0 v1 v2 v3 v4 v5 v6 v7 v8 v9 v10 v11 W) (hB : Below W.heap.size W W') : CsS p0 p1 p2 p3 p4 p5 p6 p7 p8 p9 p10 p11 v0 v1 v2 v3 v4 v5 v6 v7 v8 v9 v10 v11 W' := by
  obtain ⟨h0, h1, h2, h3, h4, h5, h6, h7, h8, h9, h10, h11⟩ := h
  exact ⟨ten_kept h0 hB, ten_kept h1 hB, ten_kept h2 hB, ten_kept h3 hB, ten_kept h4 hB, ten_kept h5 hB, ten_kept h6 hB, ten_kept h7 hB, ten_kept h8 hB, ten_kept h9 hB, ten_kept h10 hB, ten_kept h11 hB⟩
theorem CsS.drew {p0 p1 p2 p3 p4 p5 p6 p7 p8 p9 p10 p11 : Addr} {v0 v1 v2 v3 v4 v5 v6 v7 v8 v9 v10 v11 : Value} {W : World} (h : CsS p0 p1 p2 p3 p4 p5 p6 p7 p8 p9 p10 p11 v0 v1 v2 v3 v4 v5 v6 v7 v8 v9 v10 v11 W) : CsS p0 p1 p2 p3 p4 p5 p6 p7 p8 p9 p10 p11 v0 v1 v2 v3 v4 v5 v6 v7 v8 v9 v10 v11 W.drew := h
set_option maxRecDepth 100000 in
set_option maxHeartbeats 4000000 in

theorem convsays_c (es : List Addr) (a b : Ten) (qs : List Int) (A : Option Addr) (qcap : Nat) (i : Int) (w : World) (hra : Ri w a.P a.zs) (hda : Ri w a.D a.ds) (hrb : Ri w b.P b.zs) (hdb : Ri w b.D b.ds) (hQ : Ri w A qs) (hi : -9223372036854775808 ≤ i ∧ i ≤ 9223372036854775807) (hZ : Ez w es) :
    Calls Tryd.prog 7 #[.agg (tcells a.P a.zs.length a.cap a.u a.D a.ds.length a.dcap), .agg (tcells b.P b.zs.length b.cap b.u b.D b.ds.length b.dcap), .slice A qs.length qcap, .int .i64 i] w fun e w' => e = .returned (.bool true) ∧ Below w.heap.size w w' := by
  obtain ⟨ah, am, ar, hah, har, ham, hE⟩ := E3.of hZ
  have HE := hide (fun W (hb : Below w.heap.size w W) => hE.below hb)
  have HEZ := hide (fun W (hb : Below w.heap.size w W) => hZ.below hb)
  have HQ := hide (fun W (hb : Below w.heap.size w W) => hQ.below hb)
  have HAH := hide hah
  have HAR := hide har
  have HAM := hide ham
  have HI := hide hi
  obtain ⟨sa, hsa⟩ : ∃ q_, Hid ((decide (a.zs.length ≤ 8) && decide (a.ds.length ≤ 300)) = q_) := ⟨_, hide rfl⟩
  obtain ⟨sb, hsb⟩ : ∃ q_, Hid ((decide (b.zs.length ≤ 8) && decide (b.ds.length ≤ 300)) = q_) := ⟨_, hide rfl⟩
  have WA := hide (fun W => worldtensor_c a.P a.D a.zs.length a.cap a.ds.length a.dcap a.u W)
  have WB := hide (fun W => worldtensor_c b.P b.D b.zs.length b.cap b.ds.length b.dcap b.u W)
  rw [hsa.out] at WA
  rw [hsb.out] at WB
  have IA : Hid (sa = true → ∀ W, Below w.heap.size w W → a.In W) := hide fun h W hb => by
    rw [← hsa.out] at h
    simp at h
    exact ⟨hra.below hb, hda.below hb, by omega, by omega⟩
  have IB : Hid (sb = true → ∀ W, Below w.heap.size w W → b.In W) := hide fun h W hb => by
    rw [← hsb.out] at h
    simp at h
    exact ⟨hrb.below hb, hdb.below hb, by omega, by omega⟩
  obtain ⟨nq, hnq⟩ : ∃ q_, Hid (qs.length = q_) := ⟨_, hide rfl⟩
  rw [hnq.out]
  clear hra hda hrb hdb hQ hi hZ hE hah har ham hsa hsb

  go_enter Tryd.func7, Tryd.ntmps7
  obtain ⟨wa, hwa⟩ : ∃ W, W = w.alloc (.cells #[.slice a.P a.zs.length a.cap, .bool a.u, .slice a.D a.ds.length a.dcap] 26) := ⟨_, rfl⟩
  have hbA : Below w.heap.size w wa := by rw [hwa]; exact (Below.refl _ _).alloc (Nat.le_refl _) _
  have Ba : Hid (Has wa w.heap.size 26 [.slice a.P a.zs.length a.cap, .bool a.u, .slice a.D a.ds.length a.dcap]) := hide (by rw [hwa]; exact Has.new _ _ _)
  have Hwa := hide hwa
  clear hwa hbA
  have HB : Hid (Below w.heap.size w wa) := hide (by rw [Hwa.out]; exact (Below.refl _ _).alloc (Nat.le_refl _) _)
  obtain ⟨wb, hwb⟩ : ∃ W, W = wa.alloc (.cells #[.slice b.P b.zs.length b.cap, .bool b.u, .slice b.D b.ds.length b.dcap] 26) := ⟨_, rfl⟩
  have hbA : Below wa.heap.size wa wb := by rw [hwb]; exact (Below.refl _ _).alloc (Nat.le_refl _) _
  have Bb : Hid (Has wb (w.heap.size + 1) 26 [.slice b.P b.zs.length b.cap, .bool b.u, .slice b.D b.ds.length b.dcap]) := hide (by rw [hwb]; exact box_at _ _ _ _ (by rw [Hwa.out]; simp))
  replace Ba := hide (Ba.out.below hbA Ba.out.lt)
  replace HB := hide (HB.out.trans (hbA.mono HB.out.size))
  have Hwb := hide hwb
  clear hwb hbA
  go_wp2_with fail
  rw [← Hwa.out]
  rw [← Hwb.out]
  clear Hwa Hwb
  refine (first9_c ah am ar _ (HE.out _ HB.out)).mono ?_
  rintro e w1 ⟨rfl, hb⟩
  replace Ba := hide (Ba.out.below hb Ba.out.lt)
  replace HB := hide (HB.out.trans (hb.mono HB.out.size))
  replace Bb := hide (Bb.out.below hb Bb.out.lt)
  clear hb
  have c_Ba0 := Ba.out.cell 0
  have c_Ba1 := Ba.out.cell 1
  have c_Ba2 := Ba.out.cell 2
  go_wp2_with fail
  clear c_Ba0 c_Ba1 c_Ba2
  refine (WA.out _).mono ?_
  rintro e w2 ⟨rfl, hb⟩
  replace Ba := hide (Ba.out.below hb Ba.out.lt)
  replace HB := hide (HB.out.trans (hb.mono HB.out.size))
  replace Bb := hide (Bb.out.below hb Bb.out.lt)
  clear hb
  cases sa
  case false =>
    go_wp2_with fail
    go_ret
    exact ⟨rfl, HB.out⟩
  case true =>
  replace IA := hide (IA.out rfl)
  have c_Bb0 := Bb.out.cell 0
  have c_Bb1 := Bb.out.cell 1
  have c_Bb2 := Bb.out.cell 2
  go_wp2_with fail
  clear c_Bb0 c_Bb1 c_Bb2
  refine (WB.out _).mono ?_
  rintro e w3 ⟨rfl, hb⟩
  replace Ba := hide (Ba.out.below hb Ba.out.lt)
  replace HB := hide (HB.out.trans (hb.mono HB.out.size))
  replace Bb := hide (Bb.out.below hb Bb.out.lt)
  clear hb
  cases sb
  case false =>
    go_wp2_with fail
    go_ret
    exact ⟨rfl, HB.out⟩
  case true =>
  replace IB := hide (IB.out rfl)
  by_cases hbig : 6 < nq
  case pos =>
    have hb6 : (6 : Int) < nq := by omega
    clear hbig
    go_wp2_with fail
    go_ret
    exact ⟨rfl, HB.out⟩
  case neg =>
  have hb6 : ¬ (6 : Int) < nq := by omega
  have HQL : Hid (qs.length ≤ 1000000) := hide (by rw [hnq.out]; omega)
  clear hbig
  have c_Ba0 := Ba.out.cell 0
  have c_Ba1 := Ba.out.cell 1
  have c_Ba2 := Ba.out.cell 2
  have c_Bb0 := Bb.out.cell 0
  have c_Bb1 := Bb.out.cell 1
  have c_Bb2 := Bb.out.cell 2
  go_wp2_with fail
  clear c_Ba0 c_Ba1 c_Ba2 c_Bb0 c_Bb1 c_Bb2
  have HDO := hide (cvdo_c qs A qcap a b ah am ar _ (HQ.out _ HB.out) HQL.out (IA.out _ HB.out) (IB.out _ HB.out) (HE.out _ HB.out))
  rw [hnq.out] at HDO
  clear hb6
  refine (HDO.out).mono ?_
  rintro e w4 ⟨⟨t, x, rfl, ht, -, htz, htu, htd, hx, -⟩, hb⟩
  replace Ba := hide (Ba.out.below hb Ba.out.lt)
  replace HB := hide (HB.out.trans (hb.mono HB.out.size))
  replace Bb := hide (Bb.out.below hb Bb.out.lt)
  clear hb
  have Zt := hide htz
  have Ut := hide htu
  have Dt := hide htd
  have Tt := hide ht
  have Xt := hide hx
  clear htz htu htd ht hx HDO
  have c_Ba0 := Ba.out.cell 0
  have c_Ba1 := Ba.out.cell 1
  have l_Ba := Ba.out.lt
  have c_Bb0 := Bb.out.cell 0
  have c_Bb1 := Bb.out.cell 1
  have l_Bb := Bb.out.lt
  obtain ⟨w5, hw5⟩ : ∃ W, W = w4.alloc (.cells #[.slice t.P t.zs.length t.cap, .bool t.u, .slice t.D t.ds.length t.dcap] 26) := ⟨_, rfl⟩
  have hbA : Below w4.heap.size w4 w5 := by rw [hw5]; exact (Below.refl _ _).alloc (Nat.le_refl _) _
  have Bt : Hid (Has w5 w4.heap.size 26 [.slice t.P t.zs.length t.cap, .bool t.u, .slice t.D t.ds.length t.dcap]) := hide (by rw [hw5]; exact Has.new _ _ _)
  replace Ba := hide (Ba.out.below hbA Ba.out.lt)
  replace HB := hide (HB.out.trans (hbA.mono HB.out.size))
  replace Bb := hide (Bb.out.below hbA Bb.out.lt)
  replace Tt := hide (Tt.out.below hbA)
  replace Xt := hide (Xt.out.down hbA)
  have Hw5 := hide hw5
  clear hw5 hbA
  go_wp2_with fail
  rw [← Hw5.out]
  clear Hw5 c_Ba0 c_Ba1 l_Ba c_Bb0 c_Bb1 l_Bb
  have HDO := hide (cresult_c qs A qcap a.look b.look ah am ar _ (HQ.out _ HB.out) HQL.out (IA.out _ HB.out).look (IB.out _ HB.out).look (HE.out _ HB.out))
  rw [hnq.out] at HDO
  refine (HDO.out).mono ?_
  rintro e w6 ⟨⟨d, rfl, hd, -, hdz, hdu⟩, hb⟩
  replace Ba := hide (Ba.out.below hb Ba.out.lt)
  replace HB := hide (HB.out.trans (hb.mono HB.out.size))
  replace Bb := hide (Bb.out.below hb Bb.out.lt)
  replace Tt := hide (Tt.out.below hb)
  replace Xt := hide (Xt.out.down hb)
  replace Bt := hide (Bt.out.below hb Bt.out.lt)
  clear hb
  have Zd := hide hdz
  have Ud := hide hdu
  have Td := hide hd
  clear hdz hdu hd HDO
  have c_Ba0 := Ba.out.cell 0
  have c_Ba1 := Ba.out.cell 1
  have l_Ba := Ba.out.lt
  have c_Bb0 := Bb.out.cell 0
  have c_Bb1 := Bb.out.cell 1
  have l_Bb := Bb.out.lt
  obtain ⟨w7, hw7⟩ : ∃ W, W = w6.alloc (.cells #[.slice d.P d.zs.length d.cap, .bool d.u] 24) := ⟨_, rfl⟩
  have hbA : Below w6.heap.size w6 w7 := by rw [hw7]; exact (Below.refl _ _).alloc (Nat.le_refl _) _
  have Bd : Hid (Has w7 w6.heap.size 24 [.slice d.P d.zs.length d.cap, .bool d.u]) := hide (by rw [hw7]; exact Has.new _ _ _)
  replace Ba := hide (Ba.out.below hbA Ba.out.lt)
  replace HB := hide (HB.out.trans (hbA.mono HB.out.size))
  replace Bb := hide (Bb.out.below hbA Bb.out.lt)
  replace Tt := hide (Tt.out.below hbA)
  replace Xt := hide (Xt.out.down hbA)
  replace Bt := hide (Bt.out.below hbA Bt.out.lt)
  replace Td := hide (Td.out.below hbA)
  have Hw7 := hide hw7
  clear hw7 hbA
  go_wp2_with fail
  rw [← Hw7.out]
  clear Hw7 c_Ba0 c_Ba1 l_Ba c_Bb0 c_Bb1 l_Bb
  have HDO := hide (rconv_c qs A qcap a.look b.look _ (HQ.out _ HB.out) (IA.out _ HB.out).look (IB.out _ HB.out).look)
  rw [hnq.out] at HDO
  refine (HDO.out).mono ?_
  rintro e w8 ⟨⟨y, rfl, hy, -, hyz, hyu⟩, hb⟩
  replace Ba := hide (Ba.out.below hb Ba.out.lt)
  replace HB := hide (HB.out.trans (hb.mono HB.out.size))
  replace Bb := hide (Bb.out.below hb Bb.out.lt)
  replace Tt := hide (Tt.out.below hb)
  replace Xt := hide (Xt.out.down hb)
  replace Bt := hide (Bt.out.below hb Bt.out.lt)
  replace Td := hide (Td.out.below hb)
  replace Bd := hide (Bd.out.below hb Bd.out.lt)
  clear hb
  have Zy := hide hyz
  have Uy := hide hyu
  have Ty := hide hy
  clear hyz hyu hy HDO
  have c_Ba0 := Ba.out.cell 0
  have c_Ba1 := Ba.out.cell 1
  have c_Ba2 := Ba.out.cell 2
  have l_Ba := Ba.out.lt
  obtain ⟨w8b, hw8b⟩ : ∃ W, W = w8.alloc (.cells #[.slice y.P y.zs.length y.cap, .bool y.u] 24) := ⟨_, rfl⟩
  have hbA : Below w8.heap.size w8 w8b := by rw [hw8b]; exact (Below.refl _ _).alloc (Nat.le_refl _) _
  have By : Hid (Has w8b w8.heap.size 24 [.slice y.P y.zs.length y.cap, .bool y.u]) := hide (by rw [hw8b]; exact Has.new _ _ _)
  replace Ba := hide (Ba.out.below hbA Ba.out.lt)
  replace HB := hide (HB.out.trans (hbA.mono HB.out.size))
  replace Bb := hide (Bb.out.below hbA Bb.out.lt)
  replace Tt := hide (Tt.out.below hbA)
  replace Xt := hide (Xt.out.down hbA)
  replace Bt := hide (Bt.out.below hbA Bt.out.lt)
  replace Td := hide (Td.out.below hbA)
  replace Bd := hide (Bd.out.below hbA Bd.out.lt)
  replace Ty := hide (Ty.out.below hbA)
  have Hw8b := hide hw8b
  clear hw8b hbA
  have HT : Hid (Below w8b.heap.size w8b w8b) := hide (Below.refl _ _)
  have HBs : Hid (w.heap.size ≤ w8b.heap.size) := hide HB.out.size
  have Tt0 := Tt
  have Xt0 := Xt
  have Td0 := Td
  have Ty0 := Ty
  have Ba0 := Ba
  have Bb0 := Bb
  have Bt0 := Bt
  have Bd0 := Bd
  have HB0 := HB
  have By0 := By
  go_wp2_with fail
  rw [← Hw8b.out]
  clear Hw8b c_Ba0 c_Ba1 c_Ba2 l_Ba
  obtain ⟨pa, ia, hfv⟩ := fval_is a.fault
  obtain ⟨ka, hka⟩ : ∃ q_, Hid (a.fault.1 = q_) := ⟨_, hide rfl⟩
  rw [hka.out] at hfv
  have HFA := hide hfv
  have HVA := rvalid_c a.zs a.ds a.P a.D a.cap a.dcap a.u _ (IA.out _ HB.out).shp (IA.out _ HB.out).dat (IA.out _ HB.out).ls (IA.out _ HB.out).ld
  rw [show Tens.fault a.zs a.u a.ds = a.fault from rfl, hfv] at HVA
  replace HVA := hide HVA
  clear hfv
  refine (HVA.out).mono ?_
  rintro e w9 ⟨rfl, hb⟩
  replace HT := hide (HT.out.trans (hb.mono HT.out.size))
  clear hb
  clear HVA
  clear Tt Xt Td Ty Ba Bb Bt Bd By HB
  by_cases h0 : ka = 0
  case neg =>
    obtain ⟨w10, hw10⟩ : ∃ W, W = w9.alloc (.cells #[.int .i64 ka, .bool pa, .int .i64 ia] 34) := ⟨_, rfl⟩
    have hbA : Below w9.heap.size w9 w10 := by rw [hw10]; exact (Below.refl _ _).alloc (Nat.le_refl _) _
    have Bf : Hid (Has w10 w9.heap.size 34 [.int .i64 ka, .bool pa, .int .i64 ia]) := hide (by rw [hw10]; exact Has.new _ _ _)
    have HWs : Hid (w8b.heap.size ≤ w9.heap.size ∧ w.heap.size ≤ w9.heap.size) := hide (by have h1 := HT.out.size; have h2 := HBs.out; omega)
    replace HT := hide (HT.out.trans (hbA.mono HT.out.size))
    have Hw10 := hide hw10
    clear hw10 hbA
    have HNF : Hid (Cel.fault [a, b] (Cv.code qs a.look b.look) ≠ (0, none)) := hide (by rw [Cel.fault_fst (fun h => h0 (by rw [← hka.out, h]))]; exact fun h => h0 (by rw [← hka.out, h]))
    have HFV : Hid (Tens.fval (Cel.fault [a, b] (Cv.code qs a.look b.look)) = gcells (ka : Int) pa ia) := hide (by rw [Cel.fault_fst (fun h => h0 (by rw [← hka.out, h])), HFA.out])
    have n1 : ((ka : Int) == 0) = false := by simp; omega
    have n2 : ((ka : Int) != 0) = true := by simp; omega
    clear h0
    have HB := hide (HB0.out.trans (HT.out.mono HB0.out.size))
    have Tt := hide (Tt0.out.below HT.out)
    have Td := hide (Td0.out.below HT.out)
    have Ty := hide (Ty0.out.below HT.out)
    have Xt := hide (Xt0.out.down HT.out)
    have Ba := hide (Ba0.out.below HT.out Ba0.out.lt)
    have Bb := hide (Bb0.out.below HT.out Bb0.out.lt)
    have Bt := hide (Bt0.out.below HT.out Bt0.out.lt)
    have Bd := hide (Bd0.out.below HT.out Bd0.out.lt)
    have By := hide (By0.out.below HT.out By0.out.lt)
    clear Tt0 Xt0 Td0 Ty0 Ba0 Bb0 Bt0 Bd0 By0 HB0 HT HBs
    go_wp2_with fail
    rw [← Hw10.out]
    clear Hw10
    refine (is_code HAH.out HAM.out HAR.out (Cv.code qs a.look b.look) (Cv.code_known qs a.look b.look) _ (HEZ.out _ HB.out)).mono ?_
    rintro e w10a ⟨rfl, hb⟩
    replace HB := hide (HB.out.trans (hb.mono HB.out.size))
    replace Tt := hide (Tt.out.below hb)
    replace Td := hide (Td.out.below hb)
    replace Ty := hide (Ty.out.below hb)
    replace Xt := hide (Xt.out.down hb)
    replace Ba := hide (Ba.out.below hb Ba.out.lt)
    replace Bb := hide (Bb.out.below hb Bb.out.lt)
    replace Bt := hide (Bt.out.below hb Bt.out.lt)
    replace Bd := hide (Bd.out.below hb Bd.out.lt)
    replace By := hide (By.out.below hb By.out.lt)
    replace Bf := hide (Bf.out.below hb Bf.out.lt)
    clear hb
    have c_Bd0 := Bd.out.cell 0
    have c_Bd1 := Bd.out.cell 1
    have c_By0 := By.out.cell 0
    have c_By1 := By.out.cell 1
    go_wp2_with fail
    clear c_Bd0 c_Bd1 c_By0 c_By1
    have h1 := Td.out
    have h2 := Ty.out
    have HSD := samedesc_c d.zs y.zs d.P y.P d.cap y.cap d.u y.u _ h1.shp h2.shp h1.ls h2.ls
    rw [decide_eq_true (Zd.out.trans Zy.out.symm), show (d.u == y.u) = true by rw [show d.u = y.u from Ud.out.trans Uy.out.symm]; simp] at HSD
    replace HSD := hide HSD
    clear h1 h2
    refine (HSD.out).mono ?_
    rintro e w10b ⟨rfl, hb⟩
    replace HB := hide (HB.out.trans (hb.mono HB.out.size))
    replace Tt := hide (Tt.out.below hb)
    replace Td := hide (Td.out.below hb)
    replace Ty := hide (Ty.out.below hb)
    replace Xt := hide (Xt.out.down hb)
    replace Ba := hide (Ba.out.below hb Ba.out.lt)
    replace Bb := hide (Bb.out.below hb Bb.out.lt)
    replace Bt := hide (Bt.out.below hb Bt.out.lt)
    replace Bd := hide (Bd.out.below hb Bd.out.lt)
    replace By := hide (By.out.below hb By.out.lt)
    replace Bf := hide (Bf.out.below hb Bf.out.lt)
    clear hb
    clear HSD
    have c_Bf0 := Bf.out.cell 0
    have c_Bf1 := Bf.out.cell 1
    have c_Bf2 := Bf.out.cell 2
    go_wp2_with fail
    clear c_Bf0 c_Bf1 c_Bf2
    have HSM := same_terr HAH.out HAM.out HAR.out x _ (Cel.fault_cases (ts := [a, b]) (Cv.code_known qs a.look b.look)) _ (HEZ.out _ HB.out) Xt.out
    rw [HFV.out] at HSM
    replace HSM := hide HSM
    refine (HSM.out).mono ?_
    rintro e w10c ⟨rfl, hb⟩
    replace HB := hide (HB.out.trans (hb.mono HB.out.size))
    replace Tt := hide (Tt.out.below hb)
    replace Td := hide (Td.out.below hb)
    replace Ty := hide (Ty.out.below hb)
    replace Xt := hide (Xt.out.down hb)
    replace Ba := hide (Ba.out.below hb Ba.out.lt)
    replace Bb := hide (Bb.out.below hb Bb.out.lt)
    replace Bt := hide (Bt.out.below hb Bt.out.lt)
    replace Bd := hide (Bd.out.below hb Bd.out.lt)
    replace By := hide (By.out.below hb By.out.lt)
    replace Bf := hide (Bf.out.below hb Bf.out.lt)
    clear hb
    clear HSM
    have e0 : t.ds.length = 0 := by rw [Dt.out, if_neg HNF.out]; rfl
    have e2 := Bt.out.cell 2
    rw [e0] at e2
    clear e0
    have c_Bf0 := Bf.out.cell 0
    have c_Ba0 := Ba.out.cell 0
    have c_Ba1 := Ba.out.cell 1
    have c_Ba2 := Ba.out.cell 2
    have c_Bb0 := Bb.out.cell 0
    have c_Bb1 := Bb.out.cell 1
    have c_Bb2 := Bb.out.cell 2
    go_wp2_with fail
    clear c_Bf0 c_Ba0 c_Ba1 c_Ba2 c_Bb0 c_Bb1 c_Bb2
    clear e2
    have HCC := cvcell_c qs A qcap a b i ah am ar _ (HQ.out _ HB.out) HQL.out (IA.out _ HB.out) (IB.out _ HB.out) HI.out (HE.out _ HB.out)
    rw [hnq.out, show Cv.cell qs a b i = 0 by unfold Cv.cell; rw [if_neg HNF.out]] at HCC
    replace HCC := hide HCC
    refine (HCC.out).mono ?_
    rintro e w10d ⟨rfl, hb⟩
    replace HB := hide (HB.out.trans (hb.mono HB.out.size))
    replace Tt := hide (Tt.out.below hb)
    replace Td := hide (Td.out.below hb)
    replace Ty := hide (Ty.out.below hb)
    replace Xt := hide (Xt.out.down hb)
    replace Ba := hide (Ba.out.below hb Ba.out.lt)
    replace Bb := hide (Bb.out.below hb Bb.out.lt)
    replace Bt := hide (Bt.out.below hb Bt.out.lt)
    replace Bd := hide (Bd.out.below hb Bd.out.lt)
    replace By := hide (By.out.below hb By.out.lt)
    replace Bf := hide (Bf.out.below hb Bf.out.lt)
    clear hb
    go_wp2_with fail
    go_ret
    exact ⟨rfl, HB.out⟩
  case pos =>
  obtain ⟨w10, hw10⟩ : ∃ W, W = w9.alloc (.cells #[.int .i64 ka, .bool pa, .int .i64 ia] 34) := ⟨_, rfl⟩
  have hbA : Below w9.heap.size w9 w10 := by rw [hw10]; exact (Below.refl _ _).alloc (Nat.le_refl _) _
  have Bf : Hid (Has w10 w9.heap.size 34 [.int .i64 ka, .bool pa, .int .i64 ia]) := hide (by rw [hw10]; exact Has.new _ _ _)
  have HWs : Hid (w8b.heap.size ≤ w9.heap.size ∧ w.heap.size ≤ w9.heap.size) := hide (by have h1 := HT.out.size; have h2 := HBs.out; omega)
  replace HT := hide (HT.out.trans (hbA.mono HT.out.size))
  have Hw10 := hide hw10
  clear hw10 hbA
  subst h0
  have HA0 : Hid (a.fault = (0, none)) := hide (Ten.fault_zero hka.out)
  have HWX : Hid (w10 = w9.alloc (.cells #[.int .i64 0, .bool pa, .int .i64 ia] 34)) := hide Hw10.out
  clear Hw10
  have HB := hide (HB0.out.trans (HT.out.mono HB0.out.size))
  have Bb := hide (Bb0.out.below HT.out Bb0.out.lt)
  obtain ⟨pb, ib, hfv⟩ := fval_is b.fault
  obtain ⟨kb, hkb⟩ : ∃ q_, Hid (b.fault.1 = q_) := ⟨_, hide rfl⟩
  rw [hkb.out] at hfv
  have HFB := hide hfv
  have HVA := rvalid_c b.zs b.ds b.P b.D b.cap b.dcap b.u _ (IB.out _ HB.out).shp (IB.out _ HB.out).dat (IB.out _ HB.out).ls (IB.out _ HB.out).ld
  rw [show Tens.fault b.zs b.u b.ds = b.fault from rfl, hfv] at HVA
  replace HVA := hide HVA
  clear hfv
  have hbZ := Bb0.out.below ((Below.refl w8b.heap.size w8b)) Bb0.out.lt
  have c0 : (w9.alloc (.cells #[.int .i64 0, .bool pa, .int .i64 ia] 34)).cell? ⟨w.heap.size + 1, 0, none⟩ = some (.slice b.P b.zs.length b.cap) := by rw [← HWX.out]; exact Bb.out.cell 0
  have c1 : (w9.alloc (.cells #[.int .i64 0, .bool pa, .int .i64 ia] 34)).cell? ⟨w.heap.size + 1, 1, none⟩ = some (.bool b.u) := by rw [← HWX.out]; exact Bb.out.cell 1
  have c2 : (w9.alloc (.cells #[.int .i64 0, .bool pa, .int .i64 ia] 34)).cell? ⟨w.heap.size + 1, 2, none⟩ = some (.slice b.D b.ds.length b.dcap) := by rw [← HWX.out]; exact Bb.out.cell 2
  clear hbZ
  go_wp2_with fail
  rw [← HWX.out]
  clear HWX c0 c1 c2
  refine HVA.out.mono ?_
  rintro e w11 ⟨rfl, hb⟩
  replace Bf := hide (Bf.out.below hb Bf.out.lt)
  replace HT := hide (HT.out.trans (hb.mono HT.out.size))
  clear hb HVA HB Bb
  obtain ⟨z0, z1, z2, zf0, zf1, zf2, HZf, HFf⟩ := elm_three Bf.out HT.out HWs.out.1 (.int .i64 kb) (.bool pb) (.int .i64 ib)
  obtain ⟨w12, hw12⟩ : ∃ W, Hid (W = ((w11.setCell ⟨w9.heap.size, 0, none⟩ (.int .i64 kb)).setCell ⟨w9.heap.size, 1, none⟩ (.bool pb)).setCell ⟨w9.heap.size, 2, none⟩ (.int .i64 ib)) := ⟨_, hide rfl⟩
  rw [← hw12.out] at HZf HFf
  by_cases h1 : kb = 0
  case neg =>
    have HT := HFf
    have Bf := HZf
    have hbn : b.fault ≠ (0, none) := fun h => h1 (by rw [← hkb.out, h])
    have HCF := hide (Cel.fault_snd (k := (Cv.code qs a.look b.look)) HA0.out hbn)
    have HNF : Hid (Cel.fault [a, b] (Cv.code qs a.look b.look) ≠ (0, none)) := hide (by rw [HCF.out]; exact hbn)
    have HFV : Hid (Tens.fval (Cel.fault [a, b] (Cv.code qs a.look b.look)) = gcells (kb : Int) pb ib) := hide (by rw [HCF.out, HFB.out])
    clear hbn
    have n1 : ((kb : Int) == 0) = false := by simp; omega
    have n2 : ((kb : Int) != 0) = true := by simp; omega
    clear h1
    have HB := hide (HB0.out.trans (HT.out.mono HB0.out.size))
    have Tt := hide (Tt0.out.below HT.out)
    have Td := hide (Td0.out.below HT.out)
    have Ty := hide (Ty0.out.below HT.out)
    have Xt := hide (Xt0.out.down HT.out)
    have Ba := hide (Ba0.out.below HT.out Ba0.out.lt)
    have Bb := hide (Bb0.out.below HT.out Bb0.out.lt)
    have Bt := hide (Bt0.out.below HT.out Bt0.out.lt)
    have Bd := hide (Bd0.out.below HT.out Bd0.out.lt)
    have By := hide (By0.out.below HT.out By0.out.lt)
    clear Tt0 Xt0 Td0 Ty0 Ba0 Bb0 Bt0 Bd0 By0 HB0 HT HBs
    go_wp2_with fail
    rw [← hw12.out]
    clear z0 z1 z2 zf0 zf1 zf2 HZf HFf
    refine (is_code HAH.out HAM.out HAR.out (Cv.code qs a.look b.look) (Cv.code_known qs a.look b.look) _ (HEZ.out _ HB.out)).mono ?_
    rintro e w12a ⟨rfl, hb⟩
    replace HB := hide (HB.out.trans (hb.mono HB.out.size))
    replace Tt := hide (Tt.out.below hb)
    replace Td := hide (Td.out.below hb)
    replace Ty := hide (Ty.out.below hb)
    replace Xt := hide (Xt.out.down hb)
    replace Ba := hide (Ba.out.below hb Ba.out.lt)
    replace Bb := hide (Bb.out.below hb Bb.out.lt)
    replace Bt := hide (Bt.out.below hb Bt.out.lt)
    replace Bd := hide (Bd.out.below hb Bd.out.lt)
    replace By := hide (By.out.below hb By.out.lt)
    replace Bf := hide (Bf.out.below hb Bf.out.lt)
    clear hb
    have c_Bd0 := Bd.out.cell 0
    have c_Bd1 := Bd.out.cell 1
    have c_By0 := By.out.cell 0
    have c_By1 := By.out.cell 1
    go_wp2_with fail
    clear c_Bd0 c_Bd1 c_By0 c_By1
    have h1 := Td.out
    have h2 := Ty.out
    have HSD := samedesc_c d.zs y.zs d.P y.P d.cap y.cap d.u y.u _ h1.shp h2.shp h1.ls h2.ls
    rw [decide_eq_true (Zd.out.trans Zy.out.symm), show (d.u == y.u) = true by rw [show d.u = y.u from Ud.out.trans Uy.out.symm]; simp] at HSD
    replace HSD := hide HSD
    clear h1 h2
    refine (HSD.out).mono ?_
    rintro e w12b ⟨rfl, hb⟩
    replace HB := hide (HB.out.trans (hb.mono HB.out.size))
    replace Tt := hide (Tt.out.below hb)
    replace Td := hide (Td.out.below hb)
    replace Ty := hide (Ty.out.below hb)
    replace Xt := hide (Xt.out.down hb)
    replace Ba := hide (Ba.out.below hb Ba.out.lt)
    replace Bb := hide (Bb.out.below hb Bb.out.lt)
    replace Bt := hide (Bt.out.below hb Bt.out.lt)
    replace Bd := hide (Bd.out.below hb Bd.out.lt)
    replace By := hide (By.out.below hb By.out.lt)
    replace Bf := hide (Bf.out.below hb Bf.out.lt)
    clear hb
    clear HSD
    have c_Bf0 := Bf.out.cell 0
    have c_Bf1 := Bf.out.cell 1
    have c_Bf2 := Bf.out.cell 2
    go_wp2_with fail
    clear c_Bf0 c_Bf1 c_Bf2
    have HSM := same_terr HAH.out HAM.out HAR.out x _ (Cel.fault_cases (ts := [a, b]) (Cv.code_known qs a.look b.look)) _ (HEZ.out _ HB.out) Xt.out
    rw [HFV.out] at HSM
    replace HSM := hide HSM
    refine (HSM.out).mono ?_
    rintro e w12c ⟨rfl, hb⟩
    replace HB := hide (HB.out.trans (hb.mono HB.out.size))
    replace Tt := hide (Tt.out.below hb)
    replace Td := hide (Td.out.below hb)
    replace Ty := hide (Ty.out.below hb)
    replace Xt := hide (Xt.out.down hb)
    replace Ba := hide (Ba.out.below hb Ba.out.lt)
    replace Bb := hide (Bb.out.below hb Bb.out.lt)
    replace Bt := hide (Bt.out.below hb Bt.out.lt)
    replace Bd := hide (Bd.out.below hb Bd.out.lt)
    replace By := hide (By.out.below hb By.out.lt)
    replace Bf := hide (Bf.out.below hb Bf.out.lt)
    clear hb
    clear HSM
    have e0 : t.ds.length = 0 := by rw [Dt.out, if_neg HNF.out]; rfl
    have e2 := Bt.out.cell 2
    rw [e0] at e2
    clear e0
    have c_Bf0 := Bf.out.cell 0
    have c_Ba0 := Ba.out.cell 0
    have c_Ba1 := Ba.out.cell 1
    have c_Ba2 := Ba.out.cell 2
    have c_Bb0 := Bb.out.cell 0
    have c_Bb1 := Bb.out.cell 1
    have c_Bb2 := Bb.out.cell 2
    go_wp2_with fail
    clear c_Bf0 c_Ba0 c_Ba1 c_Ba2 c_Bb0 c_Bb1 c_Bb2
    clear e2
    have HCC := cvcell_c qs A qcap a b i ah am ar _ (HQ.out _ HB.out) HQL.out (IA.out _ HB.out) (IB.out _ HB.out) HI.out (HE.out _ HB.out)
    rw [hnq.out, show Cv.cell qs a b i = 0 by unfold Cv.cell; rw [if_neg HNF.out]] at HCC
    replace HCC := hide HCC
    refine (HCC.out).mono ?_
    rintro e w12d ⟨rfl, hb⟩
    replace HB := hide (HB.out.trans (hb.mono HB.out.size))
    replace Tt := hide (Tt.out.below hb)
    replace Td := hide (Td.out.below hb)
    replace Ty := hide (Ty.out.below hb)
    replace Xt := hide (Xt.out.down hb)
    replace Ba := hide (Ba.out.below hb Ba.out.lt)
    replace Bb := hide (Bb.out.below hb Bb.out.lt)
    replace Bt := hide (Bt.out.below hb Bt.out.lt)
    replace Bd := hide (Bd.out.below hb Bd.out.lt)
    replace By := hide (By.out.below hb By.out.lt)
    replace Bf := hide (Bf.out.below hb Bf.out.lt)
    clear hb
    go_wp2_with fail
    go_ret
    exact ⟨rfl, HB.out⟩
  case pos =>
  subst h1
  have HB1 : Hid (b.fault = (0, none)) := hide (Ten.fault_zero hkb.out)
  have hw13 : Hid (w12 = ((w11.setCell ⟨w9.heap.size, 0, none⟩ (.int .i64 0)).setCell ⟨w9.heap.size, 1, none⟩ (.bool pb)).setCell ⟨w9.heap.size, 2, none⟩ (.int .i64 ib)) := hide hw12.out
  have HCF := hide (Cel.fault_thd (k := (Cv.code qs a.look b.look)) HA0.out HB1.out)
  obtain ⟨kq, hkq⟩ : ∃ q_, Hid ((Cv.code qs a.look b.look) = q_) := ⟨_, hide rfl⟩
  go_wp2_with fail
  rw [← hw13.out]
  clear z0 z1 z2 zf0 zf1 zf2 hw13 hw12
  refine (bare_c ((Cv.code qs a.look b.look) : Int) _).mono ?_
  rintro e w13 ⟨rfl, hb⟩
  have Bf2 := hide (HZf.out.below hb HZf.out.lt)
  have HT2 := hide (HFf.out.trans (hb.mono HFf.out.size))
  clear hb HZf HFf Bf HT
  obtain ⟨z0, z1, z2, zf0, zf1, zf2, HZf, HFf⟩ := elm_three Bf2.out HT2.out HWs.out.1 (.int .i64 ((Cv.code qs a.look b.look) : Int)) (.bool false) (.int .i64 0)
  obtain ⟨w14, hw14⟩ : ∃ W, Hid (W = ((w13.setCell ⟨w9.heap.size, 0, none⟩ (.int .i64 ((Cv.code qs a.look b.look) : Int))).setCell ⟨w9.heap.size, 1, none⟩ (.bool false)).setCell ⟨w9.heap.size, 2, none⟩ (.int .i64 0)) := ⟨_, hide rfl⟩
  rw [← hw14.out] at HZf HFf
  have HT := HFf
  have Bf := HZf
  clear Bf2 HT2
  have HFV : Hid (Tens.fval (Cel.fault [a, b] (Cv.code qs a.look b.look)) = gcells ((Cv.code qs a.look b.look) : Int) false 0) := hide (by rw [HCF.out]; rfl)
  have HB := hide (HB0.out.trans (HT.out.mono HB0.out.size))
  have Tt := hide (Tt0.out.below HT.out)
  have Td := hide (Td0.out.below HT.out)
  have Ty := hide (Ty0.out.below HT.out)
  have Xt := hide (Xt0.out.down HT.out)
  have Ba := hide (Ba0.out.below HT.out Ba0.out.lt)
  have Bb := hide (Bb0.out.below HT.out Bb0.out.lt)
  have Bt := hide (Bt0.out.below HT.out Bt0.out.lt)
  have Bd := hide (Bd0.out.below HT.out Bd0.out.lt)
  have By := hide (By0.out.below HT.out By0.out.lt)
  clear Tt0 Xt0 Td0 Ty0 Ba0 Bb0 Bt0 Bd0 By0 HB0 HT HBs
  go_wp2_with fail
  rw [← hw14.out]
  clear z0 z1 z2 zf0 zf1 zf2 HZf HFf hw14
  refine (is_code HAH.out HAM.out HAR.out (Cv.code qs a.look b.look) (Cv.code_known qs a.look b.look) _ (HEZ.out _ HB.out)).mono ?_
  rintro e w14a ⟨rfl, hb⟩
  replace HB := hide (HB.out.trans (hb.mono HB.out.size))
  replace Tt := hide (Tt.out.below hb)
  replace Td := hide (Td.out.below hb)
  replace Ty := hide (Ty.out.below hb)
  replace Xt := hide (Xt.out.down hb)
  replace Ba := hide (Ba.out.below hb Ba.out.lt)
  replace Bb := hide (Bb.out.below hb Bb.out.lt)
  replace Bt := hide (Bt.out.below hb Bt.out.lt)
  replace Bd := hide (Bd.out.below hb Bd.out.lt)
  replace By := hide (By.out.below hb By.out.lt)
  replace Bf := hide (Bf.out.below hb Bf.out.lt)
  clear hb
  have c_Bd0 := Bd.out.cell 0
  have c_Bd1 := Bd.out.cell 1
  have c_By0 := By.out.cell 0
  have c_By1 := By.out.cell 1
  go_wp2_with fail
  clear c_Bd0 c_Bd1 c_By0 c_By1
  have h1 := Td.out
  have h2 := Ty.out
  have HSD := samedesc_c d.zs y.zs d.P y.P d.cap y.cap d.u y.u _ h1.shp h2.shp h1.ls h2.ls
  rw [decide_eq_true (Zd.out.trans Zy.out.symm), show (d.u == y.u) = true by rw [show d.u = y.u from Ud.out.trans Uy.out.symm]; simp] at HSD
  replace HSD := hide HSD
  clear h1 h2
  refine (HSD.out).mono ?_
  rintro e w14b ⟨rfl, hb⟩
  replace HB := hide (HB.out.trans (hb.mono HB.out.size))
  replace Tt := hide (Tt.out.below hb)
  replace Td := hide (Td.out.below hb)
  replace Ty := hide (Ty.out.below hb)
  replace Xt := hide (Xt.out.down hb)
  replace Ba := hide (Ba.out.below hb Ba.out.lt)
  replace Bb := hide (Bb.out.below hb Bb.out.lt)
  replace Bt := hide (Bt.out.below hb Bt.out.lt)
  replace Bd := hide (Bd.out.below hb Bd.out.lt)
  replace By := hide (By.out.below hb By.out.lt)
  replace Bf := hide (Bf.out.below hb Bf.out.lt)
  clear hb
  clear HSD
  have c_Bf0 := Bf.out.cell 0
  have c_Bf1 := Bf.out.cell 1
  have c_Bf2 := Bf.out.cell 2
  go_wp2_with fail
  clear c_Bf0 c_Bf1 c_Bf2
  have HSM := same_terr HAH.out HAM.out HAR.out x _ (Cel.fault_cases (ts := [a, b]) (Cv.code_known qs a.look b.look)) _ (HEZ.out _ HB.out) Xt.out
  rw [HFV.out] at HSM
  replace HSM := hide HSM
  refine (HSM.out).mono ?_
  rintro e w14c ⟨rfl, hb⟩
  replace HB := hide (HB.out.trans (hb.mono HB.out.size))
  replace Tt := hide (Tt.out.below hb)
  replace Td := hide (Td.out.below hb)
  replace Ty := hide (Ty.out.below hb)
  replace Xt := hide (Xt.out.down hb)
  replace Ba := hide (Ba.out.below hb Ba.out.lt)
  replace Bb := hide (Bb.out.below hb Bb.out.lt)
  replace Bt := hide (Bt.out.below hb Bt.out.lt)
  replace Bd := hide (Bd.out.below hb Bd.out.lt)
  replace By := hide (By.out.below hb By.out.lt)
  replace Bf := hide (Bf.out.below hb Bf.out.lt)
  clear hb
  clear HSM
  by_cases hk0 : (Cv.code qs a.look b.look) = 0
  case neg =>
    have HNF : Hid (Cel.fault [a, b] (Cv.code qs a.look b.look) ≠ (0, none)) := hide (by rw [HCF.out]; intro h; exact hk0 (Prod.mk.inj h).1)
    have e0 : t.ds.length = 0 := by rw [Dt.out, if_neg HNF.out]; rfl
    have e2 := Bt.out.cell 2
    rw [e0] at e2
    clear e0
    have n1 : ((((Cv.code qs a.look b.look) : Nat) : Int) == 0) = false := by simp; omega
    have n2 : ((((Cv.code qs a.look b.look) : Nat) : Int) != 0) = true := by simp; omega
    clear hk0
    have c_Bf0 := Bf.out.cell 0
    have c_Ba0 := Ba.out.cell 0
    have c_Ba1 := Ba.out.cell 1
    have c_Ba2 := Ba.out.cell 2
    have c_Bb0 := Bb.out.cell 0
    have c_Bb1 := Bb.out.cell 1
    have c_Bb2 := Bb.out.cell 2
    go_wp2_with fail
    clear c_Bf0 c_Ba0 c_Ba1 c_Ba2 c_Bb0 c_Bb1 c_Bb2
    clear e2
    have HCC := cvcell_c qs A qcap a b i ah am ar _ (HQ.out _ HB.out) HQL.out (IA.out _ HB.out) (IB.out _ HB.out) HI.out (HE.out _ HB.out)
    rw [hnq.out, show Cv.cell qs a b i = 0 by unfold Cv.cell; rw [if_neg HNF.out]] at HCC
    replace HCC := hide HCC
    refine (HCC.out).mono ?_
    rintro e w15 ⟨rfl, hb⟩
    replace HB := hide (HB.out.trans (hb.mono HB.out.size))
    replace Tt := hide (Tt.out.below hb)
    replace Td := hide (Td.out.below hb)
    replace Ty := hide (Ty.out.below hb)
    replace Xt := hide (Xt.out.down hb)
    replace Ba := hide (Ba.out.below hb Ba.out.lt)
    replace Bb := hide (Bb.out.below hb Bb.out.lt)
    replace Bt := hide (Bt.out.below hb Bt.out.lt)
    replace Bd := hide (Bd.out.below hb Bd.out.lt)
    replace By := hide (By.out.below hb By.out.lt)
    replace Bf := hide (Bf.out.below hb Bf.out.lt)
    clear hb
    go_wp2_with fail
    go_ret
    exact ⟨rfl, HB.out⟩
  case pos =>
  have HFN : Hid (Cel.fault [a, b] (Cv.code qs a.look b.look) = (0, none)) := hide (by rw [HCF.out, hk0])
  have HL3 : Hid (nq = 3) := hide (by rw [← hnq.out]; exact Cv.len3 HFN.out)
  have f0 := Bf.out.cell 0
  rw [hk0] at f0
  have m1 : (((0 : Nat) : Int) != 0) = false := rfl
  have c_Ba0 := Ba.out.cell 0
  have c_Ba1 := Ba.out.cell 1
  have c_Ba2 := Ba.out.cell 2
  have l_Ba := Ba.out.lt
  have c_Bb0 := Bb.out.cell 0
  have c_Bb1 := Bb.out.cell 1
  have c_Bb2 := Bb.out.cell 2
  have l_Bb := Bb.out.lt
  obtain ⟨w16, hw16⟩ : ∃ W, W = w14c.alloc (.cells #[.slice a.P a.zs.length a.cap, .bool a.u, .slice a.D a.ds.length a.dcap, .slice b.P b.zs.length b.cap, .bool b.u, .slice b.D b.ds.length b.dcap] 26) := ⟨_, rfl⟩
  have hbA : Below w14c.heap.size w14c w16 := by rw [hw16]; exact (Below.refl _ _).alloc (Nat.le_refl _) _
  have ST : Hid (Has w16 w14c.heap.size 26 [.slice a.P a.zs.length a.cap, .bool a.u, .slice a.D a.ds.length a.dcap, .slice b.P b.zs.length b.cap, .bool b.u, .slice b.D b.ds.length b.dcap]) := hide (by rw [hw16]; exact Has.new _ _ _)
  replace HB := hide (HB.out.trans (hbA.mono HB.out.size))
  replace Tt := hide (Tt.out.below hbA)
  replace Td := hide (Td.out.below hbA)
  replace Ty := hide (Ty.out.below hbA)
  replace Xt := hide (Xt.out.down hbA)
  replace Ba := hide (Ba.out.below hbA Ba.out.lt)
  replace Bb := hide (Bb.out.below hbA Bb.out.lt)
  replace Bt := hide (Bt.out.below hbA Bt.out.lt)
  replace Bd := hide (Bd.out.below hbA Bd.out.lt)
  replace By := hide (By.out.below hbA By.out.lt)
  replace Bf := hide (Bf.out.below hbA Bf.out.lt)
  have Hw16 := hide hw16
  clear hw16 hbA
  go_wp2_with fail
  rw [← Hw16.out]
  clear Hw16 c_Ba0 c_Ba1 c_Ba2 l_Ba c_Bb0 c_Bb1 c_Bb2 l_Bb
  clear f0 m1
  have HAP := rapply_conv qs a b A (some ⟨w14c.heap.size, 0, none⟩) qcap 2 _ (HQ.out _ HB.out) (show Row _ _ ([a, b].flatMap Ten.vals) from ST.out.row) (IA.out _ HB.out) (IB.out _ HB.out) HFN.out
  unfold RTenE at HAP
  rw [show Tens.fval (Cel.fault [a, b] (Cv.code qs a.look b.look)) = gcells (0 : Int) false 0 by rw [HFN.out]; rfl, ← HL3.out] at HAP
  replace HAP := hide HAP
  refine (HAP.out).mono ?_
  rintro e w17 ⟨⟨s, rfl, hs, hsz, hsu, hsd⟩, hb⟩
  replace HB := hide (HB.out.trans (hb.mono HB.out.size))
  replace Tt := hide (Tt.out.below hb)
  replace Td := hide (Td.out.below hb)
  replace Ty := hide (Ty.out.below hb)
  replace Xt := hide (Xt.out.down hb)
  replace Ba := hide (Ba.out.below hb Ba.out.lt)
  replace Bb := hide (Bb.out.below hb Bb.out.lt)
  replace Bt := hide (Bt.out.below hb Bt.out.lt)
  replace Bd := hide (Bd.out.below hb Bd.out.lt)
  replace By := hide (By.out.below hb By.out.lt)
  replace Bf := hide (Bf.out.below hb Bf.out.lt)
  replace ST := hide (ST.out.below hb ST.out.lt)
  clear hb
  have Zs := hide hsz
  have Us := hide hsu
  have Ds := hide hsd
  have Ts := hide hs
  clear hsz hsu hsd hs HAP ST
  obtain ⟨w18, hw18⟩ : ∃ W, W = w17.alloc (.cells #[.slice s.P s.zs.length s.cap, .bool s.u, .slice s.D s.ds.length s.dcap] 26) := ⟨_, rfl⟩
  have hbA : Below w17.heap.size w17 w18 := by rw [hw18]; exact (Below.refl _ _).alloc (Nat.le_refl _) _
  have Bs : Hid (Has w18 w17.heap.size 26 [.slice s.P s.zs.length s.cap, .bool s.u, .slice s.D s.ds.length s.dcap]) := hide (by rw [hw18]; exact Has.new _ _ _)
  replace HB := hide (HB.out.trans (hbA.mono HB.out.size))
  replace Tt := hide (Tt.out.below hbA)
  replace Td := hide (Td.out.below hbA)
  replace Ty := hide (Ty.out.below hbA)
  replace Xt := hide (Xt.out.down hbA)
  replace Ba := hide (Ba.out.below hbA Ba.out.lt)
  replace Bb := hide (Bb.out.below hbA Bb.out.lt)
  replace Bt := hide (Bt.out.below hbA Bt.out.lt)
  replace Bd := hide (Bd.out.below hbA Bd.out.lt)
  replace By := hide (By.out.below hbA By.out.lt)
  replace Bf := hide (Bf.out.below hbA Bf.out.lt)
  replace Ts := hide (Ts.out.below hbA)
  have Hw18 := hide hw18
  clear hw18 hbA
  obtain ⟨w19, hw19⟩ : ∃ W, W = w18.alloc (.cells #[.int .i64 0, .bool false, .int .i64 0] 34) := ⟨_, rfl⟩
  have hbA : Below w18.heap.size w18 w19 := by rw [hw19]; exact (Below.refl _ _).alloc (Nat.le_refl _) _
  have Bg : Hid (Has w19 (w17.heap.size + 1) 34 [.int .i64 0, .bool false, .int .i64 0]) := hide (by rw [hw19]; exact box_at _ _ _ _ (by rw [Hw18.out]; simp))
  replace HB := hide (HB.out.trans (hbA.mono HB.out.size))
  replace Tt := hide (Tt.out.below hbA)
  replace Td := hide (Td.out.below hbA)
  replace Ty := hide (Ty.out.below hbA)
  replace Xt := hide (Xt.out.down hbA)
  replace Ba := hide (Ba.out.below hbA Ba.out.lt)
  replace Bb := hide (Bb.out.below hbA Bb.out.lt)
  replace Bt := hide (Bt.out.below hbA Bt.out.lt)
  replace Bd := hide (Bd.out.below hbA Bd.out.lt)
  replace By := hide (By.out.below hbA By.out.lt)
  replace Bf := hide (Bf.out.below hbA Bf.out.lt)
  replace Ts := hide (Ts.out.below hbA)
  replace Bs := hide (Bs.out.below hbA Bs.out.lt)
  have Hw19 := hide hw19
  clear hw19 hbA
  go_wp2_with fail
  rw [← Hw18.out]
  rw [← Hw19.out]
  clear Hw18 Hw19
  have H1 : Hid (∀ W, Below w19.heap.size w19 W → Calls Tryd.prog 21 #[.agg #[.slice t.P t.zs.length t.cap, .bool t.u, .slice t.D t.ds.length t.dcap], .agg #[.slice s.P s.zs.length s.cap, .bool s.u, .slice s.D s.ds.length s.dcap]] W fun e w' => e = .returned (.bool true) ∧ Below W.heap.size W w') := hide (fun W hb => by
    have h1 := Tt.out.below hb
    have h2 := Ts.out.below hb
    have h := sametensor_c t.zs s.zs t.ds s.ds t.P s.P t.D s.D t.cap s.cap t.dcap s.dcap t.u s.u W h1.shp h2.shp h1.dat h2.dat h1.ls h2.ls h1.ld h2.ld
    rw [decide_eq_true (Zt.out.trans Zs.out.symm), decide_eq_true (Dt.out.trans Ds.out.symm), show (t.u == s.u) = true by rw [show t.u = s.u from Ut.out.trans Us.out.symm]; simp] at h
    exact h)
  obtain ⟨v, hv⟩ : ∃ v, Hid (Cv.cell qs a b i = v) := ⟨_, hide rfl⟩
  have H7 : Hid (∀ W, Below w19.heap.size w19 W → Calls Tryd.prog 37 #[.agg #[.slice a.P a.zs.length a.cap, .bool a.u, .slice a.D a.ds.length a.dcap], .agg #[.slice b.P b.zs.length b.cap, .bool b.u, .slice b.D b.ds.length b.dcap], .int .i64 i, .slice A nq qcap] W fun e w' => e = .returned (.int .i64 v) ∧ Below W.heap.size W w') := hide (fun W hb => by
    have h := cvcell_c qs A qcap a b i ah am ar W (HQ.out _ (HB.out.trans (hb.mono HB.out.size))) HQL.out (IA.out _ (HB.out.trans (hb.mono HB.out.size))) (IB.out _ (HB.out.trans (hb.mono HB.out.size))) HI.out (HE.out _ (HB.out.trans (hb.mono HB.out.size)))
    rw [hv.out, hnq.out] at h
    exact h)
  have H8 : Hid (∀ W (gT : Nat), Below w19.heap.size w19 W → Has W gT 26 [.slice a.P a.zs.length a.cap, .bool a.u, .slice a.D a.ds.length a.dcap, .slice b.P b.zs.length b.cap, .bool b.u, .slice b.D b.ds.length b.dcap] → Calls Tryd.prog 25 #[.int .i64 13, .slice A nq qcap, .int .i64 i, .slice (some ⟨gT, 0, none⟩) 2 2] W fun e w' => e = .returned (.int .i64 v) ∧ Below W.heap.size W w') := hide (fun W gT hb h2 => by
    have h := relement_conv qs a b A (some ⟨gT, 0, none⟩) qcap 2 i W (HQ.out _ (HB.out.trans (hb.mono HB.out.size))) (show Row _ _ ([a, b].flatMap Ten.vals) from h2.row) (IA.out _ (HB.out.trans (hb.mono HB.out.size))) (IB.out _ (HB.out.trans (hb.mono HB.out.size))) HFN.out
    rw [hv.out, ← HL3.out] at h
    exact h)
  have hS00 : CsS ⟨w.heap.size, 0, none⟩ ⟨w.heap.size, 1, none⟩ ⟨w.heap.size, 2, none⟩ ⟨w.heap.size + 1, 0, none⟩ ⟨w.heap.size + 1, 1, none⟩ ⟨w.heap.size + 1, 2, none⟩ ⟨w4.heap.size, 0, none⟩ ⟨w4.heap.size, 1, none⟩ ⟨w4.heap.size, 2, none⟩ ⟨w17.heap.size, 0, none⟩ ⟨w17.heap.size, 1, none⟩ ⟨w17.heap.size, 2, none⟩ (.slice a.P a.zs.length a.cap) (.bool a.u) (.slice a.D a.ds.length a.dcap) (.slice b.P b.zs.length b.cap) (.bool b.u) (.slice b.D b.ds.length b.dcap) (.slice t.P t.zs.length t.cap) (.bool t.u) (.slice t.D t.ds.length t.dcap) (.slice s.P s.zs.length s.cap) (.bool s.u) (.slice s.D s.ds.length s.dcap) w19 := ⟨Ba.out.cell 0, Ba.out.cell 1, Ba.out.cell 2, Bb.out.cell 0, Bb.out.cell 1, Bb.out.cell 2, Bt.out.cell 0, Bt.out.cell 1, Bt.out.cell 2, Bs.out.cell 0, Bs.out.cell 1, Bs.out.cell 2⟩
  have hS0 := CsS.drew hS00
  have hX0 := hide (Below.refl w19.heap.size w19).drew
  clear hS00
  go_region_held3 (fun W => W.cell? ⟨w.heap.size, 0, none⟩ = some (.slice a.P a.zs.length a.cap) ∧ W.cell? ⟨w.heap.size, 1, none⟩ = some (.bool a.u) ∧ W.cell? ⟨w.heap.size, 2, none⟩ = some (.slice a.D a.ds.length a.dcap) ∧ W.cell? ⟨w.heap.size + 1, 0, none⟩ = some (.slice b.P b.zs.length b.cap) ∧ W.cell? ⟨w.heap.size + 1, 1, none⟩ = some (.bool b.u) ∧ W.cell? ⟨w.heap.size + 1, 2, none⟩ = some (.slice b.D b.ds.length b.dcap) ∧ W.cell? ⟨w4.heap.size, 0, none⟩ = some (.slice t.P t.zs.length t.cap) ∧ W.cell? ⟨w4.heap.size, 1, none⟩ = some (.bool t.u) ∧ W.cell? ⟨w4.heap.size, 2, none⟩ = some (.slice t.D t.ds.length t.dcap) ∧ W.cell? ⟨w17.heap.size, 0, none⟩ = some (.slice s.P s.zs.length s.cap) ∧ W.cell? ⟨w17.heap.size, 1, none⟩ = some (.bool s.u) ∧ W.cell? ⟨w17.heap.size, 2, none⟩ = some (.slice s.D s.ds.length s.dcap))
    (first | with_reducible exact hS0 | with_reducible exact hS1 | with_reducible exact hST | with_reducible exact hSc | with_reducible exact hScT | with_reducible exact hSe | with_reducible assumption)
    (first
      | (go_at_call 21; (with_reducible refine (H1.out w19.drew hX0.out).mono ?_); rintro e V1 ⟨rfl, hb⟩; have hX1 := hide (hX0.out.trans (hb.mono hX0.out.size)); have hS1 := CsS.keep hS0 hb; have hST := CsS.keep hS1 ((Below.refl V1.heap.size V1).alloc (Nat.le_refl _) (.cells #[.slice a.P a.zs.length a.cap, .bool a.u, .slice a.D a.ds.length a.dcap, .slice b.P b.zs.length b.cap, .bool b.u, .slice b.D b.ds.length b.dcap] 26)); have hXT := hide (hX1.out.alloc hX1.out.size (.cells #[.slice a.P a.zs.length a.cap, .bool a.u, .slice a.D a.ds.length a.dcap, .slice b.P b.zs.length b.cap, .bool b.u, .slice b.D b.ds.length b.dcap] 26)); have kT : Has (V1.alloc (.cells #[.slice a.P a.zs.length a.cap, .bool a.u, .slice a.D a.ds.length a.dcap, .slice b.P b.zs.length b.cap, .bool b.u, .slice b.D b.ds.length b.dcap] 26)) V1.heap.size 26 [.slice a.P a.zs.length a.cap, .bool a.u, .slice a.D a.ds.length a.dcap, .slice b.P b.zs.length b.cap, .bool b.u, .slice b.D b.ds.length b.dcap] := Has.new V1 _ _)
      | (go_at_call 37; (with_reducible refine (H7.out V1 hX1.out).mono ?_); rintro e Vc ⟨rfl, hb⟩; have hXc := hide (hX1.out.trans (hb.mono hX1.out.size)); have hSc := CsS.keep hS1 hb; have hScT := CsS.keep hSc ((Below.refl _ _).alloc (Nat.le_refl _) (.cells #[.slice a.P a.zs.length a.cap, .bool a.u, .slice a.D a.ds.length a.dcap, .slice b.P b.zs.length b.cap, .bool b.u, .slice b.D b.ds.length b.dcap] 26)))
      | (go_at_call 37; (with_reducible refine (H7.out (V1.alloc (.cells #[.slice a.P a.zs.length a.cap, .bool a.u, .slice a.D a.ds.length a.dcap, .slice b.P b.zs.length b.cap, .bool b.u, .slice b.D b.ds.length b.dcap] 26)) hXT.out).mono ?_); rintro e Vc ⟨rfl, hb⟩; have hXc := hide (hXT.out.trans (hb.mono hXT.out.size)); have hSc := CsS.keep hST hb; have hScT := CsS.keep hSc ((Below.refl _ _).alloc (Nat.le_refl _) (.cells #[.slice a.P a.zs.length a.cap, .bool a.u, .slice a.D a.ds.length a.dcap, .slice b.P b.zs.length b.cap, .bool b.u, .slice b.D b.ds.length b.dcap] 26)); have cT := kT.below hb kT.lt)
      | (go_at_call 25; (with_reducible refine (H8.out Vc _ hXc.out cT).mono ?_); rintro e Ve ⟨rfl, hb⟩; have HFin := hide (HB.out.trans ((hXc.out.trans (hb.mono hXc.out.size)).mono HB.out.size)); have hSe := CsS.keep hSc hb)
      | (go_at_call 25; have eX := hide (hXc.out.alloc hXc.out.size (.cells #[.slice a.P a.zs.length a.cap, .bool a.u, .slice a.D a.ds.length a.dcap, .slice b.P b.zs.length b.cap, .bool b.u, .slice b.D b.ds.length b.dcap] 26)); have eT : Has (Vc.alloc (.cells #[.slice a.P a.zs.length a.cap, .bool a.u, .slice a.D a.ds.length a.dcap, .slice b.P b.zs.length b.cap, .bool b.u, .slice b.D b.ds.length b.dcap] 26)) Vc.heap.size 26 [.slice a.P a.zs.length a.cap, .bool a.u, .slice a.D a.ds.length a.dcap, .slice b.P b.zs.length b.cap, .bool b.u, .slice b.D b.ds.length b.dcap] := Has.new Vc _ _; (with_reducible refine (H8.out (Vc.alloc (.cells #[.slice a.P a.zs.length a.cap, .bool a.u, .slice a.D a.ds.length a.dcap, .slice b.P b.zs.length b.cap, .bool b.u, .slice b.D b.ds.length b.dcap] 26)) _ eX.out eT).mono ?_); rintro e Ve ⟨rfl, hb⟩; have HFin := hide (HB.out.trans ((eX.out.trans (hb.mono eX.out.size)).mono HB.out.size)); have hSe := CsS.keep hScT hb))
  all_goals
    go_wp2_with fail
    go_ret
    exact ⟨rfl, HFin.out⟩
end Go.Proofs.YtkehdgjdieemkaaDoor
