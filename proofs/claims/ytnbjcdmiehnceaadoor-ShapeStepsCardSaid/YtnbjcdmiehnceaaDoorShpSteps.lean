/-
  The law ShapeSteps of package lodgelaw5, walked. By an AI agent. No person has read it.
-/
import Derived.Test.YtnbjcdmiehnceaaDoorShpT
import Derived.Test.YtnbjcdmiehnceaaDoorShpE
import Derived.Test.YtnbjcdmiehnceaaDoorBasE
import Derived.Deep.QuietTactic
import Derived.BigQuiet
namespace Go.Proofs.YtnbjcdmiehnceaaDoor
open Go.RowKit

theorem Shp.index_some (zs ys : List Int) (r : Int) (h : Shp.index zs ys = some r) : Shp.ok zs = true ∧ ys.length = zs.length ∧ Shp.within zs ys = true ∧ r = Shp.dot ys (Shp.steps zs) := by
  unfold Shp.index at h
  split at h
  · rename_i hc
    refine ⟨hc.1, hc.2, ?_, ?_⟩
    · rw [← Shp.idx_some zs ys 0, h]; rfl
    · have := Shp.idx_dot zs ys 0 r h
      rw [Int.zero_mul, Int.zero_add] at this
      exact this
  · cases h
theorem Shp.index_of (zs ys : List Int) (h : Shp.ok zs = true) (hl : ys.length = zs.length) : Shp.index zs ys = if Shp.within zs ys = true then some (Shp.dot ys (Shp.steps zs)) else none := by
  unfold Shp.index
  rw [if_pos ⟨h, hl⟩]
  have hs := Shp.idx_some zs ys 0
  cases hi : Shp.idx 0 zs ys with
  | none =>
    rw [hi] at hs
    rw [← hs]
    rfl
  | some r =>
    rw [hi] at hs
    have := Shp.idx_dot zs ys 0 r hi
    rw [Int.zero_mul, Int.zero_add] at this
    rw [← hs, this]
    rfl
set_option maxRecDepth 100000 in
theorem steps_long (am ar : Addr) (n m : Nat) (P Q : Option Addr) (cap capq : Nat) (dim : Int) (w : World) (hE : E2 w am ar) (hn : n ≤ 9223372036854775807) (hm : m ≤ 9223372036854775807) (h : 8 < n ∨ 8 < m) :
    Calls Tryd.prog 6 #[.slice P n cap, .slice Q m capq, .int .i64 dim] w fun e w' => e = .returned (.bool true) ∧ Below w.heap.size w w' := by
  have H0 := hide (first_c am ar w hE)
  clear hE
  by_cases h1 : 8 < n
  · have h1' : (8 : Int) < n := by omega
    clear h
    go_enter Tryd.func6, Tryd.ntmps6
    go_wp2_with fail
    refine H0.out.mono ?_
    rintro e w1 ⟨rfl, hb⟩
    go_wp2_with fail
    go_ret
    exact ⟨rfl, hb⟩
  · have h1' : ¬ (8 : Int) < n := by omega
    have h2' : (8 : Int) < m := by omega
    clear h
    go_enter Tryd.func6, Tryd.ntmps6
    go_wp2_with fail
    refine H0.out.mono ?_
    rintro e w1 ⟨rfl, hb⟩
    go_wp2_with fail
    go_ret
    exact ⟨rfl, hb⟩
set_option maxRecDepth 100000 in
theorem steps_out (am ar : Addr) (zs ys : List Int) (P Q : Option Addr) (cap capq : Nat) (dim : Int) (w : World) (hr : Ri w P zs) (hq : Ri w Q ys) (hE : E2 w am ar) (hn : zs.length ≤ 8) (hm : ys.length ≤ 8) (h : Shp.index zs ys = none) :
    Calls Tryd.prog 6 #[.slice P zs.length cap, .slice Q ys.length capq, .int .i64 dim] w fun e w' => e = .returned (.bool true) ∧ Below w.heap.size w w' := by
  have H0 := hide (first_c am ar w hE)
  have HI := hide (fun w1 hb => index_c zs ys P Q cap capq am ar w1 (hr.below hb) (hq.below hb) (by omega) (by omega) (hE.below hb))
  rw [h] at HI
  obtain ⟨n, hn'⟩ : ∃ n, Hid (zs.length = n) := ⟨_, hide rfl⟩
  obtain ⟨m, hm'⟩ : ∃ n, Hid (ys.length = n) := ⟨_, hide rfl⟩
  rw [hn'.out] at HI hn ⊢
  rw [hm'.out] at HI hm ⊢
  have h1' : (n : Int) ≤ 8 := by omega
  have h2' : (m : Int) ≤ 8 := by omega
  clear hr hq hE hn hm h hn' hm'
  go_enter Tryd.func6, Tryd.ntmps6
  go_wp2_with fail
  refine H0.out.mono ?_
  rintro e w1 ⟨rfl, hb⟩
  have HB := hide hb
  go_wp2_with fail
  refine (HI.out w1 hb).mono ?_
  clear hb
  rintro e w2 ⟨rfl, hb2⟩
  have hfin := HB.out.trans (hb2.mono HB.out.size)
  clear hb2
  go_wp2_with fail
  go_ret
  exact ⟨rfl, hfin⟩
set_option maxRecDepth 100000 in
set_option maxHeartbeats 4000000 in
theorem steps_in (am ar : Addr) (zs ys : List Int) (P Q : Option Addr) (cap capq : Nat) (dim r : Int) (w : World) (hr : Ri w P zs) (hq : Ri w Q ys) (hE : E2 w am ar) (h : Shp.index zs ys = some r) :
    Calls Tryd.prog 6 #[.slice P zs.length cap, .slice Q ys.length capq, .int .i64 dim] w fun e w' => e = .returned (.bool true) ∧ Below w.heap.size w w' := by
  obtain ⟨hok, hlen, hwi, hdot⟩ := Shp.index_some zs ys r h
  have hall := ((Shp.ok_iff zs).1 hok)
  have H0 := hide (first_c am ar w hE)
  have HI := hide (fun w1 hb => index_c zs ys P Q cap capq am ar w1 (hr.below hb) (hq.below hb) (by omega) (by omega) (hE.below hb))
  have HS := hide (fun w1 hb => steps_c zs P cap am ar w1 (hr.below hb) (by omega) (hE.below hb) hok)
  have HR := hide hr
  have HQ := hide hq
  have HE := hide hE
  rw [h] at HI
  rw [hlen] at HI ⊢
  obtain ⟨n, hn'⟩ : ∃ n, Hid (zs.length = n) := ⟨_, hide rfl⟩
  rw [hn'.out] at HI HS ⊢
  have hn : n ≤ 4 := by have := hall.1; rw [hn'.out] at this; exact this
  have hyl : Hid (ys.length = n) := hide (hlen.trans hn'.out)
  have h1' : (n : Int) ≤ 8 := by omega
  have HOK := hide hok
  have HW := hide hwi
  have HD := hide hdot
  have HALL := hide hall
  have hrb := Shp.dot_mono zs ys hall.2.1 hwi n
  have hrr : 0 ≤ r ∧ r ≤ 16384 := by
    rw [List.take_of_length_le (by rw [hyl.out]; exact Nat.le_refl _), List.take_of_length_le (by rw [Shp.steps_length, hn'.out]; exact Nat.le_refl _), ← hdot] at hrb
    have := hall.2.2
    omega
  clear hr hq hE h hlen hok hwi hdot hall hrb
  go_enter Tryd.func6, Tryd.ntmps6
  go_wp2_with fail
  refine H0.out.mono ?_
  rintro e w1 ⟨rfl, hb⟩
  have HB1 := hide hb
  clear hb
  go_wp2_with fail
  refine (HI.out w1 HB1.out).mono ?_
  rintro e w2 ⟨rfl, hb2⟩
  have HB2 := hide (HB1.out.trans (hb2.mono HB1.out.size))
  clear hb2 HB1 H0
  go_wp2_with fail
  refine (HS.out w2 HB2.out).mono ?_
  rintro e w3 ⟨⟨gl, rfl, hgl, hl3⟩, hb3⟩
  have HB3 := hide (HB2.out.trans (hb3.mono HB2.out.size))
  have HL3 := hide hl3
  clear hb3 hl3 hgl
  have HR3 := hide (HR.out.below HB3.out)
  have HQ3 := hide (HQ.out.below HB3.out)
  go_wp2_with fail
  go_loopw [11, 12] (fun s k wr => ∃ (i : Nat) (v : Int), i ≤ n ∧ k = .int .i64 i ∧ s = .int .i64 v ∧ Hid (v = Shp.dot (ys.take i) ((Shp.steps zs).take i)) ∧ ∃ q, wr = w3.drewN q) (fun _ k _ => n - (intOf k).toNat)
  case atStart => exact ⟨0, 0, by omega, rfl, rfl, hide (by rw [List.take_zero, List.take_zero]; rfl), 0, rfl⟩
  case round =>
    obtain ⟨i, v, hi, rfl, rfl, hV, q, rfl⟩ := hrel
    by_cases hlt : i < n
    · obtain ⟨bd, y, rfl, ey, cy⟩ := ri_at HQ3.out i (by rw [hyl.out]; exact hlt)
      obtain ⟨l, el⟩ : ∃ l, Hid ((Shp.steps zs)[i]? = some l) := ⟨_, hide (List.getElem?_eq_getElem (by rw [Shp.steps_length, hn'.out]; exact hlt))⟩
      have cl : w3.cell? ⟨gl, i, none⟩ = some (.int .i64 l) := by rw [HL3.out.cell, List.getElem?_map, el.out]; rfl
      have him : (i : Int) < n := by omega
      have d1 := Shp.dot_mono zs ys HALL.out.2.1 HW.out i
      have d2 := Shp.dot_mono zs ys HALL.out.2.1 HW.out (i + 1)
      have dt := Shp.dot_take ys (Shp.steps zs) i y l ey.out el.out
      rw [← hV.out] at d1 dt
      rw [dt] at d2
      have hp := HALL.out.2.2
      have hy0 : 0 ≤ y := (Shp.within_at zs ys HW.out).2 i _ y (List.getElem?_eq_getElem (by rw [hn'.out]; exact hlt)) ey.out |>.1
      have hl0 := (Shp.steps_pos zs HALL.out.2.1 i l el.out).1
      have hyl0 := Int.mul_nonneg hy0 (show 0 ≤ l by omega)
      have hw1 : wrap64 (y * l) = y * l := by unfold wrap64; omega
      have hw2 : wrap64 (v + y * l) = v + y * l := by unfold wrap64; omega
      obtain ⟨p, hpp⟩ : ∃ p, Hid (y * l = p) := ⟨_, hide rfl⟩
      have a1 : wrap64 (y * l) = p := hw1.trans hpp.out
      rw [hpp.out] at hw2 dt
      obtain ⟨t, htt⟩ : ∃ t, Hid (v + p = t) := ⟨_, hide rfl⟩
      have a2 : wrap64 (v + p) = t := hw2.trans htt.out
      rw [htt.out] at dt
      have a3 : IntKind.i64.wrap (y * l) = p := by rw [IntKind.wrap_i64]; have h := a1; unfold wrap64 at h; exact h
      have a4 : IntKind.i64.wrap (v + p) = t := by rw [IntKind.wrap_i64]; have h := a2; unfold wrap64 at h; exact h
      have HT := hide dt
      clear d1 d2 dt hp hy0 hl0 hyl0 hw1 hw2 hrr
      go_wp2_with fail
      go_quiet (fail)
      go_wp2_with fail
      go_roundw
      case rel => exact ⟨i + 1, t, by omega, by go_num, rfl, hide HT.out.symm, _, rfl⟩
      case measure => simp [intOf]; omega
    · obtain rfl : i = n := by omega
      have hvr : v = r := by
        rw [hV.out, HD.out, List.take_of_length_le (by rw [hyl.out]; exact Nat.le_refl _), List.take_of_length_le (by rw [Shp.steps_length, hn'.out]; exact Nat.le_refl _)]
      subst hvr
      obtain ⟨w4, hw4⟩ : ∃ w4, w3.drewN q = w4 := ⟨_, rfl⟩
      rw [hw4]
      have HB4 : Hid (Below w.heap.size w w4) := hide (by rw [← hw4]; exact below_drewN HB3.out q)
      have HL4 : Hid (Has w4 gl 3 (i64s (Shp.steps zs))) := hide (by rw [← hw4]; exact HL3.out)
      clear hw4 HL3 HB3 HR3 HQ3
      by_cases hn0 : i = 0
      · subst hn0
        have hfin := HB4.out
        go_wp2_with fail
        go_ret
        exact ⟨rfl, hfin⟩
      · have hn0' : ((i : Int) == 0) = false := by simp; omega
        go_wp2_with fail
        refine (number_c dim i (by omega) (by omega) i rfl w4).mono ?_
        rintro e w4 ⟨⟨k, hk, rfl⟩, rfl⟩
        have hki : (k : Int) < i := by omega
        obtain ⟨y, ey⟩ : ∃ y, Hid (ys[k]? = some y) := ⟨_, hide (List.getElem?_eq_getElem (by rw [hyl.out]; exact hk))⟩
        obtain ⟨z, ez⟩ : ∃ z, Hid (zs[k]? = some z) := ⟨_, hide (List.getElem?_eq_getElem (by rw [hn'.out]; exact hk))⟩
        obtain ⟨l, el⟩ : ∃ l, Hid ((Shp.steps zs)[k]? = some l) := ⟨_, hide (List.getElem?_eq_getElem (by rw [Shp.steps_length, hn'.out]; exact hk))⟩
        have hyb := (Shp.within_at zs ys HW.out).2 k z y ez.out ey.out
        have hzb := Shp.dims zs HOK.out k z ez.out
        have hlb := Shp.steps_pos zs HALL.out.2.1 k l el.out
        have hpb := HALL.out.2.2
        have hl1 : 1 ≤ l := hlb.1
        have hl2 : l ≤ 16384 := by omega
        have hy1 : 0 ≤ y := hyb.1
        have hy2 : y < 256 := by omega
        have hw1 : wrap64 (y + 1) = y + 1 := by unfold wrap64; omega
        have hw2 : wrap64 (v + l) = v + l := by unfold wrap64; omega
        have hw3 : IntKind.i64.wrap (v + l) = v + l := by rw [IntKind.wrap_i64]; have h := hw2; unfold wrap64 at h; exact h
        clear hyb hzb hlb hpb
        have hri := refints_c ys Q capq w4 (HQ.out.below HB4.out) (by rw [hyl.out]; omega)
        rw [hyl.out] at hri
        have HRI := hide hri
        clear hri
        go_wp2_with fail
        refine HRI.out.mono ?_
        rintro e w5 ⟨⟨g, capo, rest, rfl, hg, hc1, hc2, hh5⟩, hb5⟩
        have HB5 := hide (HB4.out.trans (hb5.mono HB4.out.size))
        have cy : w5.cell? ⟨g, k, none⟩ = some (.int .i64 y) := by
          rw [hh5.cell, List.getElem?_append_left (by simpa using (List.getElem?_eq_some_iff.1 ey.out).1), List.getElem?_map, ey.out]
          rfl
        have fy := hh5.frozen k
        have hs6 := hh5.set_ k (.int .i64 (y + 1))
        rw [List.set_append_left _ _ (by simpa using (List.getElem?_eq_some_iff.1 ey.out).1), show (Value.int .i64 (y + 1)) = (fun z => Value.int .i64 z) (y + 1) from rfl, ← List.map_set] at hs6
        have hb6 := (hb5.setCell (p := ⟨g, k, none⟩) hg (.int .i64 (y + 1)))
        have hl6 : Has (w5.setCell ⟨g, k, none⟩ (.int .i64 (y + 1))) gl 3 (i64s (Shp.steps zs)) := HL4.out.below hb6 HL4.out.lt
        obtain ⟨w6, hw6⟩ : ∃ w6, Hid (w5.setCell ⟨g, k, none⟩ (.int .i64 (y + 1)) = w6) := ⟨_, hide rfl⟩
        have hwf : ∀ x ∈ ys.set k (y + 1), (Lit.int .i64 x).wf = true := fun x hx => by
          rcases List.mem_or_eq_of_mem_set hx with hx | rfl
          · exact HQ.out.1 x hx
          · exact wf_i64 _ (by omega)
        have HB6 : Hid (Below w.heap.size w w6) := hide (by rw [← hw6.out]; exact HB4.out.trans (hb6.mono HB4.out.size))
        have HL6 : Hid (Has w6 gl 3 (i64s (Shp.steps zs))) := hide (by rw [← hw6.out]; exact hl6)
        have HO6 : Hid (Has w6 g 3 (i64s (ys.set k (y + 1)) ++ rest) ∧ Ri w6 (some ⟨g, 0, none⟩) (ys.set k (y + 1))) := hide (by rw [← hw6.out]; exact ⟨hs6, Has.ri_app hs6 hwf⟩)
        clear hh5 hb5 hg hs6 hb6 hl6 hwf HL4 HB4 HRI
        by_cases hyz : y + 1 < z
        · have hO : Shp.index zs (ys.set k (y + 1)) = some (v + l) := by
            rw [Shp.index_of zs _ HOK.out (by rw [List.length_set, hyl.out, hn'.out]), Shp.within_set zs ys k z y HW.out ez.out ey.out]
            rw [decide_eq_true hyz, if_pos rfl, Shp.dot_set ys _ k y l ey.out el.out, ← HD.out]
          have hix := index_c zs (ys.set k (y + 1)) P (some ⟨g, 0, none⟩) cap capo am ar w6 (HR.out.below HB6.out) HO6.out.2 (by rw [hn'.out]; omega) (by rw [List.length_set, hyl.out]; omega) (HE.out.below HB6.out)
          rw [hO, List.length_set, hyl.out, hn'.out] at hix
          obtain ⟨t, ht⟩ : ∃ t, Hid (v + l = t) := ⟨_, hide rfl⟩
          rw [ht.out] at hw3 hix
          have hw4 : IntKind.i64.wrap (v + l) = t := by rw [ht.out]; exact hw3
          have HIX := hide hix
          clear hO hix hw3 hw2
          go_wp2_with fail
          rw [hw6.out]
          refine HIX.out.mono ?_
          rintro e w7 ⟨rfl, hb7⟩
          have HB7 := hide (HB6.out.trans (hb7.mono HB6.out.size))
          have c1 : w7.cell? ⟨g, k, none⟩ = some (.int .i64 (y + 1)) := by
            rw [(HO6.out.1.below hb7 HO6.out.1.lt).cell, List.getElem?_append_left (by simpa using (List.getElem?_eq_some_iff.1 ey.out).1), List.getElem?_map, List.getElem?_set_self (List.getElem?_eq_some_iff.1 ey.out).1]
            rfl
          have c3 : w7.cell? ⟨gl, k, none⟩ = some (.int .i64 l) := by
            rw [(HL6.out.below hb7 HL6.out.lt).cell, List.getElem?_map, el.out]
            rfl
          obtain ⟨sd, z', rfl, ez', c2⟩ := ri_at (HR.out.below HB7.out) k (by rw [hn'.out]; exact hk)
          obtain rfl : z = z' := Option.some.inj (ez.out.symm.trans ez'.out)
          have hdy : decide (y + 1 < z) = true := decide_eq_true hyz
          clear hb7 HO6 HL6 HIX
          clear hw1
          go_wp2_with fail
          go_quiet (fail)
          have hfin := HB7.out
          go_wp2_with fail
          go_ret
          exact ⟨rfl, below_drewN hfin _⟩
        · have hO : Shp.index zs (ys.set k (y + 1)) = none := by
            rw [Shp.index_of zs _ HOK.out (by rw [List.length_set, hyl.out, hn'.out]), Shp.within_set zs ys k z y HW.out ez.out ey.out]
            rw [decide_eq_false hyz, if_neg (by decide)]
          have hix := index_c zs (ys.set k (y + 1)) P (some ⟨g, 0, none⟩) cap capo am ar w6 (HR.out.below HB6.out) HO6.out.2 (by rw [hn'.out]; omega) (by rw [List.length_set, hyl.out]; omega) (HE.out.below HB6.out)
          rw [hO, List.length_set, hyl.out, hn'.out] at hix
          have HIX := hide hix
          clear hO hix hw2 hw3
          go_wp2_with fail
          rw [hw6.out]
          refine HIX.out.mono ?_
          rintro e w7 ⟨rfl, hb7⟩
          have HB7 := hide (HB6.out.trans (hb7.mono HB6.out.size))
          have c1 : w7.cell? ⟨g, k, none⟩ = some (.int .i64 (y + 1)) := by
            rw [(HO6.out.1.below hb7 HO6.out.1.lt).cell, List.getElem?_append_left (by simpa using (List.getElem?_eq_some_iff.1 ey.out).1), List.getElem?_map, List.getElem?_set_self (List.getElem?_eq_some_iff.1 ey.out).1]
            rfl
          have c3 : w7.cell? ⟨gl, k, none⟩ = some (.int .i64 l) := by
            rw [(HL6.out.below hb7 HL6.out.lt).cell, List.getElem?_map, el.out]
            rfl
          obtain ⟨sd, z', rfl, ez', c2⟩ := ri_at (HR.out.below HB7.out) k (by rw [hn'.out]; exact hk)
          obtain rfl : z = z' := Option.some.inj (ez.out.symm.trans ez'.out)
          have hdy : decide (y + 1 < z) = false := decide_eq_false (by omega)
          clear hb7 HO6 HL6 HIX
          clear hw1
          go_wp2_with fail
          go_quiet (fail)
          have hfin := HB7.out
          go_wp2_with fail
          go_ret
          exact ⟨rfl, below_drewN hfin _⟩
theorem shapesteps_any (am ar : Addr) (zs ys : List Int) (P Q : Option Addr) (cap capq : Nat) (dim : Int) (w : World) (hr : Ri w P zs) (hq : Ri w Q ys) (h1 : zs.length ≤ cap) (h2 : cap ≤ 9223372036854775807) (k1 : ys.length ≤ capq) (k2 : capq ≤ 9223372036854775807) (hE : E2 w am ar) :
    Calls Tryd.prog 6 #[.slice P zs.length cap, .slice Q ys.length capq, .int .i64 dim] w fun e w' => e = .returned (.bool true) ∧ Below w.heap.size w w' := by
  by_cases h : 8 < zs.length ∨ 8 < ys.length
  · exact steps_long am ar _ _ P Q cap capq dim w hE (by omega) (by omega) h
  · cases hi : Shp.index zs ys with
    | none => exact steps_out am ar zs ys P Q cap capq dim w hr hq hE (by omega) (by omega) hi
    | some r => exact steps_in am ar zs ys P Q cap capq dim r w hr hq hE hi
end Go.Proofs.YtnbjcdmiehnceaaDoor
