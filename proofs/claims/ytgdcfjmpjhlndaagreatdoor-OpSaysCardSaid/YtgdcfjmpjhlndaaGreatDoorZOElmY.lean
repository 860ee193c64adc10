/-
  lodgeref3.ElemResult of any operation, walked. By an AI agent. No person has read it.
-/
import Derived.Test.YtgdcfjmpjhlndaaGreatDoorZOElmN
namespace Go.Proofs.YtgdcfjmpjhlndaaGreatDoor
open Go.RowKit
def Elm.Res (w : World) (sh : List Int) (kd : Bool) (code : Nat) (e : Ending) (w' : World) : Prop :=
 (∃ Q c, e = .returned (.tuple #[.agg (dcells Q sh.length c kd), .int .i64 (code : Nat)]) ∧ (code = 0 → ∃ g rest, Q = some ⟨g, 0, none⟩ ∧ w.heap.size ≤ g ∧ Has w' g 3 (i64s sh ++ rest))) ∧ Below w.heap.size w w'
theorem Elm.res_bad {w W' : World} {code : Nat} (hc : code ≠ 0) (hb : Below w.heap.size w W') : Elm.Res w [] false code (.returned (.tuple #[.agg (dcells none 0 0 false), .int .i64 (code : Nat)])) W' :=
 ⟨⟨none, 0, rfl, fun h => absurd h hc⟩, hb⟩
abbrev RsS (w : World) (b : Nat) (ad : Addr) (x0 x1 y0 y1 : Value) (W : World) : Prop := W.cell? ⟨b, 0, none⟩ = some x0 ∧ W.cell? ⟨b, 1, none⟩ = some x1 ∧ W.cell? ⟨ad.block, ad.off + 2, none⟩ = some y0 ∧ W.cell? ⟨ad.block, ad.off + 3, none⟩ = some y1 ∧ b < W.heap.size ∧ ad.block < W.heap.size ∧
 Hid (Has W w.heap.size 24 [.slice none 0 0, .bool false]) ∧ Hid (Has W b 24 [x0, x1]) ∧ Hid (Below w.heap.size w W)
theorem RsS.keep {w : World} {b : Nat} {ad : Addr} {x0 x1 y0 y1 : Value} {W W' : World} (h : RsS w b ad x0 x1 y0 y1 W) (hb : Below W.heap.size W W') : RsS w b ad x0 x1 y0 y1 W' := by
 obtain ⟨h0, h1, h2, h3, h4, h5, h6, h7, h8⟩ := h
 exact ⟨(hb.cell (p := ⟨b, 0, none⟩) h4).trans h0, (hb.cell (p := ⟨b, 1, none⟩) h4).trans h1, (hb.cell (p := ⟨ad.block, ad.off + 2, none⟩) h5).trans h2, (hb.cell (p := ⟨ad.block, ad.off + 3, none⟩) h5).trans h3, Nat.lt_of_lt_of_le h4 hb.size, Nat.lt_of_lt_of_le h5 hb.size, hide (h6.out.below hb h6.out.lt), hide (h7.out.below hb h7.out.lt), hide (h8.out.trans (hb.mono h8.out.size))⟩
theorem Elm.bad_shape {op : Int} {qs : List Int} {ds : List Dsc} (h : Elm.code op qs ds ≠ 0) : Elm.shape op qs ds = [] ∧ Elm.kind op qs ds = false := by
 unfold Elm.shape Elm.kind
 rw [if_neg h, if_neg h]
 exact ⟨rfl, rfl⟩
set_option maxRecDepth 100000 in
set_option maxHeartbeats 8000000 in
theorem rresult_none (op : Int) (h : ¬ (4 ≤ op ∧ op ≤ 11)) (qs : List Int) (ds : List Dsc) (A B : Option Addr) (qcap cap : Nat) (w : World) :
  Calls Tryz.prog 66 #[.int .i64 op, .slice A qs.length qcap, .slice B ds.length cap] w (Elm.Res w (Elm.shape op qs ds) (Elm.kind op qs ds) (Elm.code op qs ds)) := by
 have HZ0 := hide (Has.new w 24 [.slice none 0 0, .bool false])
 have HB0 := hide ((Below.refl w.heap.size w).alloc (Nat.le_refl _) (.cells #[.slice none 0 0, .bool false] 24))
 have hkf : Elm.known op = false := decide_eq_false h
 have ec : Elm.code op qs ds = 103 := by unfold Elm.code; rw [if_pos hkf]
 obtain ⟨es, ek⟩ := Elm.bad_shape (op := op) (qs := qs) (ds := ds) (by rw [ec]; decide)
 rw [ec, es, ek]
 obtain ⟨nq, hnq⟩ : ∃ n, qs.length = n := ⟨_, rfl⟩
 obtain ⟨nd, hnd⟩ : ∃ n, ds.length = n := ⟨_, rfl⟩
 rw [hnq, hnd]
 have n4 : (op == 4) = false := by simp; omega
 have m4 : (op != 4) = true := by simp; omega
 have n5 : (op == 5) = false := by simp; omega
 have m5 : (op != 5) = true := by simp; omega
 have n6 : (op == 6) = false := by simp; omega
 have m6 : (op != 6) = true := by simp; omega
 have n7 : (op == 7) = false := by simp; omega
 have m7 : (op != 7) = true := by simp; omega
 have n8 : (op == 8) = false := by simp; omega
 have m8 : (op != 8) = true := by simp; omega
 have n9 : (op == 9) = false := by simp; omega
 have m9 : (op != 9) = true := by simp; omega
 have n10 : (op == 10) = false := by simp; omega
 have m10 : (op != 10) = true := by simp; omega
 have n11 : (op == 11) = false := by simp; omega
 have m11 : (op != 11) = true := by simp; omega
 clear hkf ec es ek hnq hnd h
 go_enter Tryz.func66, Tryz.ntmps66
 go_wp2_with fail
 refine bodyPost_ret (results_desc rfl _ _ w.heap.size _ _ rfl HZ0.out) rfl ?_
 exact Elm.res_bad (by decide) HB0.out
set_option maxRecDepth 100000 in
set_option maxHeartbeats 8000000 in
theorem rresult_relu (op : Int) (h : op = 8) (qs : List Int) (ds : List Dsc) (A B : Option Addr) (qcap cap : Nat) (w : World) (hR : Row w B (ds.flatMap Dsc.vals)) (hI : ∀ d ∈ ds, d.In w) (hl : ds.length ≤ 1000000) :
  Calls Tryz.prog 66 #[.int .i64 op, .slice A qs.length qcap, .slice B ds.length cap] w (Elm.Res w (Elm.shape op qs ds) (Elm.kind op qs ds) (Elm.code op qs ds)) := by
 have HZ0 := hide (Has.new w 24 [.slice none 0 0, .bool false])
 have HB0 := hide ((Below.refl w.heap.size w).alloc (Nat.le_refl _) (.cells #[.slice none 0 0, .bool false] 24))
 subst h
 by_cases hlen : qs.length = 0 ∧ ds.length = 1
 case neg =>
  have ec : Elm.code 8 qs ds = 101 := by
   unfold Elm.code
   rw [if_neg (by decide), if_pos (by
    show ds.length ≠ 1 ∨ qs.length ≠ 0
    by_cases h : qs.length = 0
    ·exact .inl fun h2 => hlen ⟨h, h2⟩
    ·exact .inr h)]
  obtain ⟨es, ek⟩ := Elm.bad_shape (op := 8) (qs := qs) (ds := ds) (by rw [ec]; decide)
  rw [ec, es, ek]
  clear hR hI hl ec es ek
  obtain ⟨nq, hnq⟩ : ∃ n, qs.length = n := ⟨_, rfl⟩
  obtain ⟨nd, hnd⟩ : ∃ n, ds.length = n := ⟨_, rfl⟩
  rw [hnq, hnd] at hlen
  rw [hnq, hnd]
  clear hnq hnd
  by_cases hq : nq = 0
  ·subst hq
   have hd1 : ((nd : Int) == 1) = false := by simp; omega
   have hd2 : ((nd : Int) != 1) = true := by simp; omega
   clear hlen
   go_enter Tryz.func66, Tryz.ntmps66
   go_wp2_with fail
   refine bodyPost_ret (results_desc rfl _ _ w.heap.size _ _ rfl HZ0.out) rfl ?_
   exact Elm.res_bad (by decide) HB0.out
  ·have hd1 : ((nq : Int) == 0) = false := by simp; omega
   have hd2 : ((nq : Int) != 0) = true := by simp; omega
   clear hlen hq
   go_enter Tryz.func66, Tryz.ntmps66
   go_wp2_with fail
   refine bodyPost_ret (results_desc rfl _ _ w.heap.size _ _ rfl HZ0.out) rfl ?_
   exact Elm.res_bad (by decide) HB0.out
 case pos =>
 obtain ⟨hlq, hld⟩ := hlen
 have hc1 : Elm.code 8 qs ds = if Shp.firstbad ds ≠ 0 then Shp.firstbad ds else if Elm.alike 8 ds = false then 101 else if Elm.may 8 ((ds.head?.map (·.u)).getD false) qs = false then 102 else 0 := by
  unfold Elm.code
  rw [if_neg (by decide), if_neg (by
   intro h
   rcases h with h | h
   ·exact h hld
   ·exact h hlq)]
 have VD := hide (fun W (hb : Below w.heap.size w W) => descs_c ds B cap W (hR.below hb) (fun d hd => (hI d hd).below hb) hl)
 by_cases hfb : Shp.firstbad ds = 0
 case neg =>
  have ec : Elm.code 8 qs ds = Shp.firstbad ds := by rw [hc1, if_pos hfb]
  obtain ⟨es, ek⟩ := Elm.bad_shape (op := 8) (qs := qs) (ds := ds) (by rw [ec]; exact hfb)
  rw [ec, es, ek]
  obtain ⟨K, hK⟩ : ∃ K, Hid (Shp.firstbad ds = K) := ⟨_, hide rfl⟩
  rw [hK.out] at VD hfb ⊢
  rw [hld] at VD
  have HN := hide hfb
  have hf1 : ((K : Int) == 0) = false := by simp; omega
  have hf2 : ((K : Int) != 0) = true := by simp; omega
  rw [hlq, hld]
  clear hR hI hl ec es ek hc1 hK hfb hlq hld
  go_enter Tryz.func66, Tryz.ntmps66
  go_wp2_with fail
  refine (VD.out _ HB0.out).mono ?_
  rintro e w1 ⟨rfl, hb⟩
  have HB := hide (HB0.out.trans (hb.mono HB0.out.size))
  have HZ := hide (HZ0.out.below hb HZ0.out.lt)
  clear HB0 HZ0 VD hb
  obtain ⟨z0, z1, zf0, zf1, HZf, HFf⟩ := elm_two HZ.out HB.out (Nat.le_refl _) (.slice none 0 0) (.bool false)
  go_wp2_with fail
  refine bodyPost_ret (results_desc rfl _ _ w.heap.size _ _ rfl HZf.out) rfl ?_
  exact Elm.res_bad HN.out HFf.out
 case pos =>
 rw [hfb, if_neg (by simp)] at hc1
 rw [hfb] at VD
 obtain ⟨d, rfl⟩ := List.length_eq_one_iff.1 hld
 have hId := hI d (by simp)
 obtain ⟨ad, rfl, hadl, hcs⟩ := hR (by simp [Dsc.vals])
 have HC : Hid (∀ W, Below w.heap.size w W → W.cell? ad = some (.slice d.P d.zs.length d.cap) ∧ W.cell? ⟨ad.block, ad.off + 1, none⟩ = some (.bool d.u) ∧ ad.block < W.heap.size) := hide fun W hb => by
  have c0 := hcs 0 _ rfl
  have c1 := hcs 1 _ rfl
  rw [Addr.add_zero'] at c0
  simp only [Addr.add, Nat.reduceEqDiff, if_false] at c1
  exact ⟨(hb.cell hadl).trans c0, (hb.cell (p := ⟨ad.block, ad.off + 1, none⟩) hadl).trans c1, Nat.lt_of_lt_of_le hadl hb.size⟩
 have VR := hide (fun W (hb : Below w.heap.size w W) => rdesc_c d.zs d.P d.cap d.u W (hId.shp.below hb) hId.ls)
 have hsh : Elm.shape 8 qs [d] = if Elm.code 8 qs [d] = 0 then d.zs else [] := rfl
 have hki : Elm.kind 8 qs [d] = if Elm.code 8 qs [d] = 0 then Elm.wide 8 d.u else false := rfl
 have hc2 : Elm.code 8 qs [d] = if Elm.alike 8 [d] = false then 101 else if Elm.may 8 d.u qs = false then 102 else 0 := hc1
 clear hcs hR hI hc1 hfb hl hadl
 obtain ⟨dP, dz, dc, du⟩ := d
 dsimp only at HC VR hsh hki hc2
 have HSH := hide hsh
 have HKI := hide hki
 have HC2 := hide hc2
 clear hsh hki hc2
 have VD' : Hid (∀ W, Below w.heap.size w W → Calls Tryz.prog 49 #[.slice (some ad) 1 cap] W fun e w' => e = .returned (.int .i64 0) ∧ Below W.heap.size W w') := VD
 clear VD hId
 have hk : Elm.code 8 qs [⟨dP, dz, dc, du⟩] = 0 := by rw [HC2.out]; rfl
 rw [HSH.out, HKI.out, hk, if_pos rfl, if_pos rfl]
 clear HSH HKI HC2 hk
 rw [show Elm.wide 8 du = du by unfold Elm.wide; cases du <;> rfl]
 show Calls Tryz.prog 66 #[.int .i64 8, .slice A qs.length qcap, .slice (some ad) 1 cap] w _
 rw [hlq]
 clear hlq hld
 go_enter Tryz.func66, Tryz.ntmps66
 go_wp2_with fail
 refine (VD'.out _ HB0.out).mono ?_
 rintro e w1 ⟨rfl, hb⟩
 have HB := hide (HB0.out.trans (hb.mono HB0.out.size))
 have HZ := hide (HZ0.out.below hb HZ0.out.lt)
 clear HB0 HZ0 VD' hb
 obtain ⟨c0, c1, hadl⟩ := HC.out w1 HB.out
 have HX := hide (Has.new w1 24 [.slice dP dz.length dc, .bool du])
 have HZ1 := hide (HZ.out.alloc (.cells #[.slice dP dz.length dc, .bool du] 24))
 have HB1 := hide (HB.out.alloc HB.out.size (.cells #[.slice dP dz.length dc, .bool du] 24))
 clear HB HZ
 go_wp2_with fail
 go_quiet (fail)
 have HX := hide (HX.out.drewN nq)
 have HZ1 := hide (HZ1.out.drewN nq)
 have HB1 := hide (below_drewN HB1.out nq)
 clear c0 c1 hadl
 generalize (w1.alloc (.cells #[.slice dP dz.length dc, .bool du] 24)).drewN nq = w2 at *
 have x0 := HX.out.cell 0
 have x1 := HX.out.cell 1
 go_wp2_with fail
 refine (VR.out _ HB1.out).mono ?_
 rintro e w3 ⟨⟨g, c, rest, rfl, hg, hG⟩, hb⟩
 have hB3 := HB1.out.trans (hb.mono HB1.out.size)
 have hZ3 := HZ1.out.below hb HZ1.out.lt
 have hX3 := HX.out.below hb HX.out.lt
 have hzl := HZ1.out.lt
 have hgl := hG.lt
 have hz3l := hZ3.lt
 have fin : ∀ v : Bool, w3.cell? ⟨w.heap.size, 0, none⟩ = some (.slice none 0 0) ∧ w3.cell? ⟨w.heap.size, 1, none⟩ = some (.bool false) ∧ w3.frozen? ⟨w.heap.size, 0, none⟩ = false ∧ w3.frozen? ⟨w.heap.size, 1, none⟩ = false ∧
   Hid (Has (((w3.setCell ⟨w.heap.size, 0, none⟩ (.slice (some ⟨g, 0, none⟩) dz.length c)).setCell ⟨w.heap.size, 1, none⟩ (.bool v)).alloc (.cells #[.slice (some ⟨g, 0, none⟩) dz.length c, .bool v] 24)) w.heap.size 24 [.slice (some ⟨g, 0, none⟩) dz.length c, .bool v]) ∧
   Hid (Has (((w3.setCell ⟨w.heap.size, 0, none⟩ (.slice (some ⟨g, 0, none⟩) dz.length c)).setCell ⟨w.heap.size, 1, none⟩ (.bool v)).alloc (.cells #[.slice (some ⟨g, 0, none⟩) dz.length c, .bool v] 24)) g 3 (i64s dz ++ rest)) ∧
   Hid (Below w.heap.size w (((w3.setCell ⟨w.heap.size, 0, none⟩ (.slice (some ⟨g, 0, none⟩) dz.length c)).setCell ⟨w.heap.size, 1, none⟩ (.bool v)).alloc (.cells #[.slice (some ⟨g, 0, none⟩) dz.length c, .bool v] 24))) := fun v =>
  ⟨hZ3.cell 0, hZ3.cell 1, hZ3.frozen 0, hZ3.frozen 1, ((hZ3.set_ 0 (.slice (some ⟨g, 0, none⟩) dz.length c)).set_ 1 (.bool v)).alloc _,
   ((hG.far (p := ⟨w.heap.size, 0, none⟩) (by simp; omega) (.slice (some ⟨g, 0, none⟩) dz.length c)).far (p := ⟨w.heap.size, 1, none⟩) (by simp; omega) (.bool v)).alloc _,
   ((hB3.setCell (p := ⟨w.heap.size, 0, none⟩) (Nat.le_refl _) (.slice (some ⟨g, 0, none⟩) dz.length c)).setCell (p := ⟨w.heap.size, 1, none⟩) (Nat.le_refl _) (.bool v)).alloc (by simp; exact hB3.size) _⟩
 have hgs : w.heap.size < g := by omega
 have hgw : w.heap.size ≤ g := Nat.le_of_lt hgs
 clear x0 x1
 obtain ⟨z0, z1, zf0, zf1, HZf, HGf, HFf⟩ := fin du
 clear fin hZ3 hX3 hB3 hG HX HZ1 HB1 hg hb VR HC
 go_wp2_with fail
 refine bodyPost_ret (results_desc rfl _ _ w.heap.size _ _ rfl HZf.out) rfl ?_
 exact ⟨⟨_, c, rfl, fun _ => ⟨g, rest, rfl, hgw, HGf.out⟩⟩, HFf.out⟩
set_option maxRecDepth 100000 in
set_option maxHeartbeats 8000000 in
theorem rresult_clamp (op : Int) (h : op = 9) (qs : List Int) (ds : List Dsc) (A B : Option Addr) (qcap cap : Nat) (w : World) (hQ : Ri w A qs) (hR : Row w B (ds.flatMap Dsc.vals)) (hI : ∀ d ∈ ds, d.In w) (hl : ds.length ≤ 1000000) :
  Calls Tryz.prog 66 #[.int .i64 op, .slice A qs.length qcap, .slice B ds.length cap] w (Elm.Res w (Elm.shape op qs ds) (Elm.kind op qs ds) (Elm.code op qs ds)) := by
 have HZ0 := hide (Has.new w 24 [.slice none 0 0, .bool false])
 have HB0 := hide ((Below.refl w.heap.size w).alloc (Nat.le_refl _) (.cells #[.slice none 0 0, .bool false] 24))
 subst h
 by_cases hlen : qs.length = 2 ∧ ds.length = 1
 case neg =>
  have ec : Elm.code 9 qs ds = 101 := by
   unfold Elm.code
   rw [if_neg (by decide), if_pos (by
    show ds.length ≠ 1 ∨ qs.length ≠ 2
    by_cases h : qs.length = 2
    ·exact .inl fun h2 => hlen ⟨h, h2⟩
    ·exact .inr h)]
  obtain ⟨es, ek⟩ := Elm.bad_shape (op := 9) (qs := qs) (ds := ds) (by rw [ec]; decide)
  rw [ec, es, ek]
  clear hQ hR hI hl ec es ek
  obtain ⟨nq, hnq⟩ : ∃ n, qs.length = n := ⟨_, rfl⟩
  obtain ⟨nd, hnd⟩ : ∃ n, ds.length = n := ⟨_, rfl⟩
  rw [hnq, hnd] at hlen
  rw [hnq, hnd]
  clear hnq hnd
  by_cases hq : nq = 2
  ·subst hq
   have hd1 : ((nd : Int) == 1) = false := by simp; omega
   have hd2 : ((nd : Int) != 1) = true := by simp; omega
   clear hlen
   go_enter Tryz.func66, Tryz.ntmps66
   go_wp2_with fail
   refine bodyPost_ret (results_desc rfl _ _ w.heap.size _ _ rfl HZ0.out) rfl ?_
   exact Elm.res_bad (by decide) HB0.out
  ·have hd1 : ((nq : Int) == 2) = false := by simp; omega
   have hd2 : ((nq : Int) != 2) = true := by simp; omega
   clear hlen hq
   go_enter Tryz.func66, Tryz.ntmps66
   go_wp2_with fail
   refine bodyPost_ret (results_desc rfl _ _ w.heap.size _ _ rfl HZ0.out) rfl ?_
   exact Elm.res_bad (by decide) HB0.out
 case pos =>
 obtain ⟨hlq, hld⟩ := hlen
 have hc1 : Elm.code 9 qs ds = if Shp.firstbad ds ≠ 0 then Shp.firstbad ds else if Elm.alike 9 ds = false then 101 else if Elm.may 9 ((ds.head?.map (·.u)).getD false) qs = false then 102 else 0 := by
  unfold Elm.code
  rw [if_neg (by decide), if_neg (by
   intro h
   rcases h with h | h
   ·exact h hld
   ·exact h hlq)]
 have VD := hide (fun W (hb : Below w.heap.size w W) => descs_c ds B cap W (hR.below hb) (fun d hd => (hI d hd).below hb) hl)
 by_cases hfb : Shp.firstbad ds = 0
 case neg =>
  have ec : Elm.code 9 qs ds = Shp.firstbad ds := by rw [hc1, if_pos hfb]
  obtain ⟨es, ek⟩ := Elm.bad_shape (op := 9) (qs := qs) (ds := ds) (by rw [ec]; exact hfb)
  rw [ec, es, ek]
  obtain ⟨K, hK⟩ : ∃ K, Hid (Shp.firstbad ds = K) := ⟨_, hide rfl⟩
  rw [hK.out] at VD hfb ⊢
  rw [hld] at VD
  have HN := hide hfb
  have hf1 : ((K : Int) == 0) = false := by simp; omega
  have hf2 : ((K : Int) != 0) = true := by simp; omega
  rw [hlq, hld]
  clear hQ hR hI hl ec es ek hc1 hK hfb hlq hld
  go_enter Tryz.func66, Tryz.ntmps66
  go_wp2_with fail
  refine (VD.out _ HB0.out).mono ?_
  rintro e w1 ⟨rfl, hb⟩
  have HB := hide (HB0.out.trans (hb.mono HB0.out.size))
  have HZ := hide (HZ0.out.below hb HZ0.out.lt)
  clear HB0 HZ0 VD hb
  obtain ⟨z0, z1, zf0, zf1, HZf, HFf⟩ := elm_two HZ.out HB.out (Nat.le_refl _) (.slice none 0 0) (.bool false)
  go_wp2_with fail
  refine bodyPost_ret (results_desc rfl _ _ w.heap.size _ _ rfl HZf.out) rfl ?_
  exact Elm.res_bad HN.out HFf.out
 case pos =>
 rw [hfb, if_neg (by simp)] at hc1
 rw [hfb] at VD
 obtain ⟨d, rfl⟩ := List.length_eq_one_iff.1 hld
 have hId := hI d (by simp)
 obtain ⟨ad, rfl, hadl, hcs⟩ := hR (by simp [Dsc.vals])
 have HC : Hid (∀ W, Below w.heap.size w W → W.cell? ad = some (.slice d.P d.zs.length d.cap) ∧ W.cell? ⟨ad.block, ad.off + 1, none⟩ = some (.bool d.u) ∧ ad.block < W.heap.size) := hide fun W hb => by
  have c0 := hcs 0 _ rfl
  have c1 := hcs 1 _ rfl
  rw [Addr.add_zero'] at c0
  simp only [Addr.add, Nat.reduceEqDiff, if_false] at c1
  exact ⟨(hb.cell hadl).trans c0, (hb.cell (p := ⟨ad.block, ad.off + 1, none⟩) hadl).trans c1, Nat.lt_of_lt_of_le hadl hb.size⟩
 have VR := hide (fun W (hb : Below w.heap.size w W) => rdesc_c d.zs d.P d.cap d.u W (hId.shp.below hb) hId.ls)
 have hsh : Elm.shape 9 qs [d] = if Elm.code 9 qs [d] = 0 then d.zs else [] := rfl
 have hki : Elm.kind 9 qs [d] = if Elm.code 9 qs [d] = 0 then Elm.wide 9 d.u else false := rfl
 have hc2 : Elm.code 9 qs [d] = if Elm.alike 9 [d] = false then 101 else if Elm.may 9 d.u qs = false then 102 else 0 := hc1
 clear hcs hR hI hc1 hfb hl hadl
 obtain ⟨dP, dz, dc, du⟩ := d
 dsimp only at HC VR hsh hki hc2
 have HSH := hide hsh
 have HKI := hide hki
 have HC2 := hide hc2
 clear hsh hki hc2
 have VD' : Hid (∀ W, Below w.heap.size w W → Calls Tryz.prog 49 #[.slice (some ad) 1 cap] W fun e w' => e = .returned (.int .i64 0) ∧ Below W.heap.size W w') := VD
 clear VD hId
 obtain ⟨a, b, rfl⟩ := list_two hlq
 obtain ⟨qa, rfl, hqa, p0, p1⟩ := ri_two hQ
 have HA : Hid (∀ W, Below w.heap.size w W → qa.block < W.heap.size ∧ W.cell? qa = some (.int .i64 a) ∧ W.cell? ⟨qa.block, qa.off + 1, none⟩ = some (.int .i64 b)) := hide fun W hb => ⟨Nat.lt_of_lt_of_le hqa hb.size, (hb.cell hqa).trans p0, (hb.cell (p := ⟨qa.block, qa.off + 1, none⟩) hqa).trans p1⟩
 clear hqa p0 p1 hQ
 have H1 := hide (fun W => in3_c a du W)
 have H2 := hide (fun W => in3_c b du W)
 obtain ⟨x, hx⟩ : ∃ x, Hid (Tens.fit du a = x) := ⟨_, hide rfl⟩
 obtain ⟨y, hy⟩ : ∃ x, Hid (Tens.fit du b = x) := ⟨_, hide rfl⟩
 rw [hx.out] at H1
 rw [hy.out] at H2
 cases x
 ·have hk : Elm.code 9 [a, b] [⟨dP, dz, dc, du⟩] = 102 := by
   rw [HC2.out]
   show (if (decide (a ≤ b) && Tens.fit du a && Tens.fit du b) = false then 102 else 0) = 102
   rw [hx.out]
   simp
  rw [HSH.out, HKI.out, hk, if_neg (by decide), if_neg (by decide)]
  clear HSH HKI HC2 hk
  show Calls Tryz.prog 66 #[.int .i64 9, .slice (some qa) 2 qcap, .slice (some ad) 1 cap] w _
  clear hlq hld
  clear hx hy
  go_enter Tryz.func66, Tryz.ntmps66
  go_wp2_with fail
  refine (VD'.out _ HB0.out).mono ?_
  rintro e w1 ⟨rfl, hb⟩
  have HB := hide (HB0.out.trans (hb.mono HB0.out.size))
  have HZ := hide (HZ0.out.below hb HZ0.out.lt)
  clear HB0 HZ0 VD' hb
  obtain ⟨c0, c1, hadl⟩ := HC.out w1 HB.out
  have HX := hide (Has.new w1 24 [.slice dP dz.length dc, .bool du])
  have HZ1 := hide (HZ.out.alloc (.cells #[.slice dP dz.length dc, .bool du] 24))
  have HB1 := hide (HB.out.alloc HB.out.size (.cells #[.slice dP dz.length dc, .bool du] 24))
  clear HB HZ
  go_wp2_with fail
  go_quiet (fail)
  have HX := hide (HX.out.drewN nq)
  have HZ1 := hide (HZ1.out.drewN nq)
  have HB1 := hide (below_drewN HB1.out nq)
  clear c0 c1 hadl
  generalize (w1.alloc (.cells #[.slice dP dz.length dc, .bool du] 24)).drewN nq = w2 at *
  have x0 := HX.out.cell 0
  have x1 := HX.out.cell 1
  go_wp2_with fail
  refine (VR.out _ HB1.out).mono ?_
  rintro e w3 ⟨⟨g, c, rest, rfl, hg, hG⟩, hb⟩
  have hB3 := HB1.out.trans (hb.mono HB1.out.size)
  have hZ3 := HZ1.out.below hb HZ1.out.lt
  have hX3 := HX.out.below hb HX.out.lt
  have hzl := HZ1.out.lt
  have hgl := hG.lt
  have hz3l := hZ3.lt
  have fin : ∀ v : Bool, w3.cell? ⟨w.heap.size, 0, none⟩ = some (.slice none 0 0) ∧ w3.cell? ⟨w.heap.size, 1, none⟩ = some (.bool false) ∧ w3.frozen? ⟨w.heap.size, 0, none⟩ = false ∧ w3.frozen? ⟨w.heap.size, 1, none⟩ = false ∧
    Hid (Has (((w3.setCell ⟨w.heap.size, 0, none⟩ (.slice (some ⟨g, 0, none⟩) dz.length c)).setCell ⟨w.heap.size, 1, none⟩ (.bool v)).alloc (.cells #[.slice (some ⟨g, 0, none⟩) dz.length c, .bool v] 24)) w.heap.size 24 [.slice (some ⟨g, 0, none⟩) dz.length c, .bool v]) ∧
    Hid (Has (((w3.setCell ⟨w.heap.size, 0, none⟩ (.slice (some ⟨g, 0, none⟩) dz.length c)).setCell ⟨w.heap.size, 1, none⟩ (.bool v)).alloc (.cells #[.slice (some ⟨g, 0, none⟩) dz.length c, .bool v] 24)) g 3 (i64s dz ++ rest)) ∧
    Hid (Below w.heap.size w (((w3.setCell ⟨w.heap.size, 0, none⟩ (.slice (some ⟨g, 0, none⟩) dz.length c)).setCell ⟨w.heap.size, 1, none⟩ (.bool v)).alloc (.cells #[.slice (some ⟨g, 0, none⟩) dz.length c, .bool v] 24))) := fun v =>
   ⟨hZ3.cell 0, hZ3.cell 1, hZ3.frozen 0, hZ3.frozen 1, ((hZ3.set_ 0 (.slice (some ⟨g, 0, none⟩) dz.length c)).set_ 1 (.bool v)).alloc _,
    ((hG.far (p := ⟨w.heap.size, 0, none⟩) (by simp; omega) (.slice (some ⟨g, 0, none⟩) dz.length c)).far (p := ⟨w.heap.size, 1, none⟩) (by simp; omega) (.bool v)).alloc _,
    ((hB3.setCell (p := ⟨w.heap.size, 0, none⟩) (Nat.le_refl _) (.slice (some ⟨g, 0, none⟩) dz.length c)).setCell (p := ⟨w.heap.size, 1, none⟩) (Nat.le_refl _) (.bool v)).alloc (by simp; exact hB3.size) _⟩
  have hgs : w.heap.size < g := by omega
  have hgw : w.heap.size ≤ g := Nat.le_of_lt hgs
  clear x0 x1
  obtain ⟨hqa, p0, p1⟩ := HA.out w3 hB3
  have x1 : w3.cell? ⟨w1.heap.size, 1, none⟩ = some (.bool du) := hX3.cell 1
  have hx3l := hX3.lt
  have HX4 := hide (Has.new w3 24 [.slice (some ⟨g, 0, none⟩) dz.length c, .bool du])
  have HZ4 := hide (hZ3.alloc (.cells #[.slice (some ⟨g, 0, none⟩) dz.length c, .bool du] 24))
  have HG4 := hide (hG.alloc (.cells #[.slice (some ⟨g, 0, none⟩) dz.length c, .bool du] 24))
  have HB4 := hide (hB3.alloc hB3.size (.cells #[.slice (some ⟨g, 0, none⟩) dz.length c, .bool du] 24))
  clear fin hZ3 hX3 hB3 hG HX HZ1 HB1 hg hb VR HC HA
  go_wp2_with fail
  go_quiet ((go_at_call 64; first | (with_reducible exact Calls.quiet_of_same (H1.out _)) | (with_reducible exact Calls.quiet_of_same (H2.out _))))
  replace HX4 := hide (HX4.out.drewN nq)
  replace HZ4 := hide (HZ4.out.drewN nq)
  replace HG4 := hide (HG4.out.drewN nq)
  replace HB4 := hide (below_drewN HB4.out nq)
  clear x1 p0 p1 hqa hz3l
  generalize (w3.alloc (.cells #[.slice (some ⟨g, 0, none⟩) dz.length c, .bool du] 24)).drewN nq = w4 at *
  obtain ⟨z0, z1, zf0, zf1, HZf, HFf⟩ := elm_two HZ4.out HB4.out (Nat.le_refl _) (.slice none 0 0) (.bool false)
  go_wp2_with fail
  refine bodyPost_ret (results_desc rfl _ _ w.heap.size _ _ rfl HZf.out) rfl ?_
  exact Elm.res_bad (by decide) HFf.out
 ·cases y
  ·have hk : Elm.code 9 [a, b] [⟨dP, dz, dc, du⟩] = 102 := by
    rw [HC2.out]
    show (if (decide (a ≤ b) && Tens.fit du a && Tens.fit du b) = false then 102 else 0) = 102
    rw [hy.out]
    simp
   rw [HSH.out, HKI.out, hk, if_neg (by decide), if_neg (by decide)]
   clear HSH HKI HC2 hk
   show Calls Tryz.prog 66 #[.int .i64 9, .slice (some qa) 2 qcap, .slice (some ad) 1 cap] w _
   clear hlq hld
   clear hx hy
   go_enter Tryz.func66, Tryz.ntmps66
   go_wp2_with fail
   refine (VD'.out _ HB0.out).mono ?_
   rintro e w1 ⟨rfl, hb⟩
   have HB := hide (HB0.out.trans (hb.mono HB0.out.size))
   have HZ := hide (HZ0.out.below hb HZ0.out.lt)
   clear HB0 HZ0 VD' hb
   obtain ⟨c0, c1, hadl⟩ := HC.out w1 HB.out
   have HX := hide (Has.new w1 24 [.slice dP dz.length dc, .bool du])
   have HZ1 := hide (HZ.out.alloc (.cells #[.slice dP dz.length dc, .bool du] 24))
   have HB1 := hide (HB.out.alloc HB.out.size (.cells #[.slice dP dz.length dc, .bool du] 24))
   clear HB HZ
   go_wp2_with fail
   go_quiet (fail)
   have HX := hide (HX.out.drewN nq)
   have HZ1 := hide (HZ1.out.drewN nq)
   have HB1 := hide (below_drewN HB1.out nq)
   clear c0 c1 hadl
   generalize (w1.alloc (.cells #[.slice dP dz.length dc, .bool du] 24)).drewN nq = w2 at *
   have x0 := HX.out.cell 0
   have x1 := HX.out.cell 1
   go_wp2_with fail
   refine (VR.out _ HB1.out).mono ?_
   rintro e w3 ⟨⟨g, c, rest, rfl, hg, hG⟩, hb⟩
   have hB3 := HB1.out.trans (hb.mono HB1.out.size)
   have hZ3 := HZ1.out.below hb HZ1.out.lt
   have hX3 := HX.out.below hb HX.out.lt
   have hzl := HZ1.out.lt
   have hgl := hG.lt
   have hz3l := hZ3.lt
   have fin : ∀ v : Bool, w3.cell? ⟨w.heap.size, 0, none⟩ = some (.slice none 0 0) ∧ w3.cell? ⟨w.heap.size, 1, none⟩ = some (.bool false) ∧ w3.frozen? ⟨w.heap.size, 0, none⟩ = false ∧ w3.frozen? ⟨w.heap.size, 1, none⟩ = false ∧
     Hid (Has (((w3.setCell ⟨w.heap.size, 0, none⟩ (.slice (some ⟨g, 0, none⟩) dz.length c)).setCell ⟨w.heap.size, 1, none⟩ (.bool v)).alloc (.cells #[.slice (some ⟨g, 0, none⟩) dz.length c, .bool v] 24)) w.heap.size 24 [.slice (some ⟨g, 0, none⟩) dz.length c, .bool v]) ∧
     Hid (Has (((w3.setCell ⟨w.heap.size, 0, none⟩ (.slice (some ⟨g, 0, none⟩) dz.length c)).setCell ⟨w.heap.size, 1, none⟩ (.bool v)).alloc (.cells #[.slice (some ⟨g, 0, none⟩) dz.length c, .bool v] 24)) g 3 (i64s dz ++ rest)) ∧
     Hid (Below w.heap.size w (((w3.setCell ⟨w.heap.size, 0, none⟩ (.slice (some ⟨g, 0, none⟩) dz.length c)).setCell ⟨w.heap.size, 1, none⟩ (.bool v)).alloc (.cells #[.slice (some ⟨g, 0, none⟩) dz.length c, .bool v] 24))) := fun v =>
    ⟨hZ3.cell 0, hZ3.cell 1, hZ3.frozen 0, hZ3.frozen 1, ((hZ3.set_ 0 (.slice (some ⟨g, 0, none⟩) dz.length c)).set_ 1 (.bool v)).alloc _,
     ((hG.far (p := ⟨w.heap.size, 0, none⟩) (by simp; omega) (.slice (some ⟨g, 0, none⟩) dz.length c)).far (p := ⟨w.heap.size, 1, none⟩) (by simp; omega) (.bool v)).alloc _,
     ((hB3.setCell (p := ⟨w.heap.size, 0, none⟩) (Nat.le_refl _) (.slice (some ⟨g, 0, none⟩) dz.length c)).setCell (p := ⟨w.heap.size, 1, none⟩) (Nat.le_refl _) (.bool v)).alloc (by simp; exact hB3.size) _⟩
   have hgs : w.heap.size < g := by omega
   have hgw : w.heap.size ≤ g := Nat.le_of_lt hgs
   clear x0 x1
   obtain ⟨hqa, p0, p1⟩ := HA.out w3 hB3
   have x1 : w3.cell? ⟨w1.heap.size, 1, none⟩ = some (.bool du) := hX3.cell 1
   have hx3l := hX3.lt
   have HX4 := hide (Has.new w3 24 [.slice (some ⟨g, 0, none⟩) dz.length c, .bool du])
   have HZ4 := hide (hZ3.alloc (.cells #[.slice (some ⟨g, 0, none⟩) dz.length c, .bool du] 24))
   have HG4 := hide (hG.alloc (.cells #[.slice (some ⟨g, 0, none⟩) dz.length c, .bool du] 24))
   have HB4 := hide (hB3.alloc hB3.size (.cells #[.slice (some ⟨g, 0, none⟩) dz.length c, .bool du] 24))
   clear fin hZ3 hX3 hB3 hG HX HZ1 HB1 hg hb VR HC HA
   go_wp2_with fail
   go_quiet ((go_at_call 64; first | (with_reducible exact Calls.quiet_of_same (H1.out _)) | (with_reducible exact Calls.quiet_of_same (H2.out _))))
   replace HX4 := hide (HX4.out.drewN nq)
   replace HZ4 := hide (HZ4.out.drewN nq)
   replace HG4 := hide (HG4.out.drewN nq)
   replace HB4 := hide (below_drewN HB4.out nq)
   clear x1 p0 p1 hqa hz3l
   generalize (w3.alloc (.cells #[.slice (some ⟨g, 0, none⟩) dz.length c, .bool du] 24)).drewN nq = w4 at *
   obtain ⟨z0, z1, zf0, zf1, HZf, HFf⟩ := elm_two HZ4.out HB4.out (Nat.le_refl _) (.slice none 0 0) (.bool false)
   go_wp2_with fail
   refine bodyPost_ret (results_desc rfl _ _ w.heap.size _ _ rfl HZf.out) rfl ?_
   exact Elm.res_bad (by decide) HFf.out
  ·by_cases hab : a ≤ b
   ·have hk : Elm.code 9 [a, b] [⟨dP, dz, dc, du⟩] = 0 := by
     rw [HC2.out]
     show (if (decide (a ≤ b) && Tens.fit du a && Tens.fit du b) = false then 102 else 0) = 0
     rw [hx.out, hy.out, decide_eq_true hab]
     rfl
    rw [HSH.out, HKI.out, hk, if_pos rfl, if_pos rfl]
    clear HSH HKI HC2 hk
    rw [show Elm.wide 9 du = du by unfold Elm.wide; cases du <;> rfl]
    show Calls Tryz.prog 66 #[.int .i64 9, .slice (some qa) 2 qcap, .slice (some ad) 1 cap] w _
    clear hlq hld
    clear hx hy
    go_enter Tryz.func66, Tryz.ntmps66
    go_wp2_with fail
    refine (VD'.out _ HB0.out).mono ?_
    rintro e w1 ⟨rfl, hb⟩
    have HB := hide (HB0.out.trans (hb.mono HB0.out.size))
    have HZ := hide (HZ0.out.below hb HZ0.out.lt)
    clear HB0 HZ0 VD' hb
    obtain ⟨c0, c1, hadl⟩ := HC.out w1 HB.out
    have HX := hide (Has.new w1 24 [.slice dP dz.length dc, .bool du])
    have HZ1 := hide (HZ.out.alloc (.cells #[.slice dP dz.length dc, .bool du] 24))
    have HB1 := hide (HB.out.alloc HB.out.size (.cells #[.slice dP dz.length dc, .bool du] 24))
    clear HB HZ
    go_wp2_with fail
    go_quiet (fail)
    have HX := hide (HX.out.drewN nq)
    have HZ1 := hide (HZ1.out.drewN nq)
    have HB1 := hide (below_drewN HB1.out nq)
    clear c0 c1 hadl
    generalize (w1.alloc (.cells #[.slice dP dz.length dc, .bool du] 24)).drewN nq = w2 at *
    have x0 := HX.out.cell 0
    have x1 := HX.out.cell 1
    go_wp2_with fail
    refine (VR.out _ HB1.out).mono ?_
    rintro e w3 ⟨⟨g, c, rest, rfl, hg, hG⟩, hb⟩
    have hB3 := HB1.out.trans (hb.mono HB1.out.size)
    have hZ3 := HZ1.out.below hb HZ1.out.lt
    have hX3 := HX.out.below hb HX.out.lt
    have hzl := HZ1.out.lt
    have hgl := hG.lt
    have hz3l := hZ3.lt
    have fin : ∀ v : Bool, w3.cell? ⟨w.heap.size, 0, none⟩ = some (.slice none 0 0) ∧ w3.cell? ⟨w.heap.size, 1, none⟩ = some (.bool false) ∧ w3.frozen? ⟨w.heap.size, 0, none⟩ = false ∧ w3.frozen? ⟨w.heap.size, 1, none⟩ = false ∧
      Hid (Has (((w3.setCell ⟨w.heap.size, 0, none⟩ (.slice (some ⟨g, 0, none⟩) dz.length c)).setCell ⟨w.heap.size, 1, none⟩ (.bool v)).alloc (.cells #[.slice (some ⟨g, 0, none⟩) dz.length c, .bool v] 24)) w.heap.size 24 [.slice (some ⟨g, 0, none⟩) dz.length c, .bool v]) ∧
      Hid (Has (((w3.setCell ⟨w.heap.size, 0, none⟩ (.slice (some ⟨g, 0, none⟩) dz.length c)).setCell ⟨w.heap.size, 1, none⟩ (.bool v)).alloc (.cells #[.slice (some ⟨g, 0, none⟩) dz.length c, .bool v] 24)) g 3 (i64s dz ++ rest)) ∧
      Hid (Below w.heap.size w (((w3.setCell ⟨w.heap.size, 0, none⟩ (.slice (some ⟨g, 0, none⟩) dz.length c)).setCell ⟨w.heap.size, 1, none⟩ (.bool v)).alloc (.cells #[.slice (some ⟨g, 0, none⟩) dz.length c, .bool v] 24))) := fun v =>
     ⟨hZ3.cell 0, hZ3.cell 1, hZ3.frozen 0, hZ3.frozen 1, ((hZ3.set_ 0 (.slice (some ⟨g, 0, none⟩) dz.length c)).set_ 1 (.bool v)).alloc _,
      ((hG.far (p := ⟨w.heap.size, 0, none⟩) (by simp; omega) (.slice (some ⟨g, 0, none⟩) dz.length c)).far (p := ⟨w.heap.size, 1, none⟩) (by simp; omega) (.bool v)).alloc _,
      ((hB3.setCell (p := ⟨w.heap.size, 0, none⟩) (Nat.le_refl _) (.slice (some ⟨g, 0, none⟩) dz.length c)).setCell (p := ⟨w.heap.size, 1, none⟩) (Nat.le_refl _) (.bool v)).alloc (by simp; exact hB3.size) _⟩
    have hgs : w.heap.size < g := by omega
    have hgw : w.heap.size ≤ g := Nat.le_of_lt hgs
    clear x0 x1
    obtain ⟨hqa, p0, p1⟩ := HA.out w3 hB3
    have x1 : w3.cell? ⟨w1.heap.size, 1, none⟩ = some (.bool du) := hX3.cell 1
    have hx3l := hX3.lt
    have HX4 := hide (Has.new w3 24 [.slice (some ⟨g, 0, none⟩) dz.length c, .bool du])
    have HZ4 := hide (hZ3.alloc (.cells #[.slice (some ⟨g, 0, none⟩) dz.length c, .bool du] 24))
    have HG4 := hide (hG.alloc (.cells #[.slice (some ⟨g, 0, none⟩) dz.length c, .bool du] 24))
    have HB4 := hide (hB3.alloc hB3.size (.cells #[.slice (some ⟨g, 0, none⟩) dz.length c, .bool du] 24))
    clear fin hZ3 hX3 hB3 hG HX HZ1 HB1 hg hb VR HC HA
    go_wp2_with fail
    go_quiet ((go_at_call 64; first | (with_reducible exact Calls.quiet_of_same (H1.out _)) | (with_reducible exact Calls.quiet_of_same (H2.out _))))
    replace HX4 := hide (HX4.out.drewN nq)
    replace HZ4 := hide (HZ4.out.drewN nq)
    replace HG4 := hide (HG4.out.drewN nq)
    replace HB4 := hide (below_drewN HB4.out nq)
    clear x1 p0 p1 hqa hz3l
    generalize (w3.alloc (.cells #[.slice (some ⟨g, 0, none⟩) dz.length c, .bool du] 24)).drewN nq = w4 at *
    have y0 := HX4.out.cell 0
    have y1 := HX4.out.cell 1
    obtain ⟨z0, z1, zf0, zf1, HZf, HFf⟩ := elm_two HZ4.out HB4.out (Nat.le_refl _) (.slice (some ⟨g, 0, none⟩) dz.length c) (.bool du)
    have HGf := hide ((HG4.out.far (p := ⟨w.heap.size, 0, none⟩) (by simp; omega) (.slice (some ⟨g, 0, none⟩) dz.length c)).far (p := ⟨w.heap.size, 1, none⟩) (by simp; omega) (.bool du))
    clear HX4 HZ4 HG4 HB4
    go_wp2_with fail
    refine bodyPost_ret (results_desc rfl _ _ w.heap.size _ _ rfl HZf.out) rfl ?_
    exact ⟨⟨_, c, rfl, fun _ => ⟨g, rest, rfl, hgw, HGf.out⟩⟩, HFf.out⟩
   ·have hk : Elm.code 9 [a, b] [⟨dP, dz, dc, du⟩] = 102 := by
     rw [HC2.out]
     show (if (decide (a ≤ b) && Tens.fit du a && Tens.fit du b) = false then 102 else 0) = 102
     rw [decide_eq_false hab]
     simp
    rw [HSH.out, HKI.out, hk, if_neg (by decide), if_neg (by decide)]
    clear HSH HKI HC2 hk
    show Calls Tryz.prog 66 #[.int .i64 9, .slice (some qa) 2 qcap, .slice (some ad) 1 cap] w _
    clear hlq hld
    clear hx hy
    go_enter Tryz.func66, Tryz.ntmps66
    go_wp2_with fail
    refine (VD'.out _ HB0.out).mono ?_
    rintro e w1 ⟨rfl, hb⟩
    have HB := hide (HB0.out.trans (hb.mono HB0.out.size))
    have HZ := hide (HZ0.out.below hb HZ0.out.lt)
    clear HB0 HZ0 VD' hb
    obtain ⟨c0, c1, hadl⟩ := HC.out w1 HB.out
    have HX := hide (Has.new w1 24 [.slice dP dz.length dc, .bool du])
    have HZ1 := hide (HZ.out.alloc (.cells #[.slice dP dz.length dc, .bool du] 24))
    have HB1 := hide (HB.out.alloc HB.out.size (.cells #[.slice dP dz.length dc, .bool du] 24))
    clear HB HZ
    go_wp2_with fail
    go_quiet (fail)
    have HX := hide (HX.out.drewN nq)
    have HZ1 := hide (HZ1.out.drewN nq)
    have HB1 := hide (below_drewN HB1.out nq)
    clear c0 c1 hadl
    generalize (w1.alloc (.cells #[.slice dP dz.length dc, .bool du] 24)).drewN nq = w2 at *
    have x0 := HX.out.cell 0
    have x1 := HX.out.cell 1
    go_wp2_with fail
    refine (VR.out _ HB1.out).mono ?_
    rintro e w3 ⟨⟨g, c, rest, rfl, hg, hG⟩, hb⟩
    have hB3 := HB1.out.trans (hb.mono HB1.out.size)
    have hZ3 := HZ1.out.below hb HZ1.out.lt
    have hX3 := HX.out.below hb HX.out.lt
    have hzl := HZ1.out.lt
    have hgl := hG.lt
    have hz3l := hZ3.lt
    have fin : ∀ v : Bool, w3.cell? ⟨w.heap.size, 0, none⟩ = some (.slice none 0 0) ∧ w3.cell? ⟨w.heap.size, 1, none⟩ = some (.bool false) ∧ w3.frozen? ⟨w.heap.size, 0, none⟩ = false ∧ w3.frozen? ⟨w.heap.size, 1, none⟩ = false ∧
      Hid (Has (((w3.setCell ⟨w.heap.size, 0, none⟩ (.slice (some ⟨g, 0, none⟩) dz.length c)).setCell ⟨w.heap.size, 1, none⟩ (.bool v)).alloc (.cells #[.slice (some ⟨g, 0, none⟩) dz.length c, .bool v] 24)) w.heap.size 24 [.slice (some ⟨g, 0, none⟩) dz.length c, .bool v]) ∧
      Hid (Has (((w3.setCell ⟨w.heap.size, 0, none⟩ (.slice (some ⟨g, 0, none⟩) dz.length c)).setCell ⟨w.heap.size, 1, none⟩ (.bool v)).alloc (.cells #[.slice (some ⟨g, 0, none⟩) dz.length c, .bool v] 24)) g 3 (i64s dz ++ rest)) ∧
      Hid (Below w.heap.size w (((w3.setCell ⟨w.heap.size, 0, none⟩ (.slice (some ⟨g, 0, none⟩) dz.length c)).setCell ⟨w.heap.size, 1, none⟩ (.bool v)).alloc (.cells #[.slice (some ⟨g, 0, none⟩) dz.length c, .bool v] 24))) := fun v =>
     ⟨hZ3.cell 0, hZ3.cell 1, hZ3.frozen 0, hZ3.frozen 1, ((hZ3.set_ 0 (.slice (some ⟨g, 0, none⟩) dz.length c)).set_ 1 (.bool v)).alloc _,
      ((hG.far (p := ⟨w.heap.size, 0, none⟩) (by simp; omega) (.slice (some ⟨g, 0, none⟩) dz.length c)).far (p := ⟨w.heap.size, 1, none⟩) (by simp; omega) (.bool v)).alloc _,
      ((hB3.setCell (p := ⟨w.heap.size, 0, none⟩) (Nat.le_refl _) (.slice (some ⟨g, 0, none⟩) dz.length c)).setCell (p := ⟨w.heap.size, 1, none⟩) (Nat.le_refl _) (.bool v)).alloc (by simp; exact hB3.size) _⟩
    have hgs : w.heap.size < g := by omega
    have hgw : w.heap.size ≤ g := Nat.le_of_lt hgs
    clear x0 x1
    obtain ⟨hqa, p0, p1⟩ := HA.out w3 hB3
    have x1 : w3.cell? ⟨w1.heap.size, 1, none⟩ = some (.bool du) := hX3.cell 1
    have hx3l := hX3.lt
    have HX4 := hide (Has.new w3 24 [.slice (some ⟨g, 0, none⟩) dz.length c, .bool du])
    have HZ4 := hide (hZ3.alloc (.cells #[.slice (some ⟨g, 0, none⟩) dz.length c, .bool du] 24))
    have HG4 := hide (hG.alloc (.cells #[.slice (some ⟨g, 0, none⟩) dz.length c, .bool du] 24))
    have HB4 := hide (hB3.alloc hB3.size (.cells #[.slice (some ⟨g, 0, none⟩) dz.length c, .bool du] 24))
    clear fin hZ3 hX3 hB3 hG HX HZ1 HB1 hg hb VR HC HA
    go_wp2_with fail
    go_quiet ((go_at_call 64; first | (with_reducible exact Calls.quiet_of_same (H1.out _)) | (with_reducible exact Calls.quiet_of_same (H2.out _))))
    replace HX4 := hide (HX4.out.drewN nq)
    replace HZ4 := hide (HZ4.out.drewN nq)
    replace HG4 := hide (HG4.out.drewN nq)
    replace HB4 := hide (below_drewN HB4.out nq)
    clear x1 p0 p1 hqa hz3l
    generalize (w3.alloc (.cells #[.slice (some ⟨g, 0, none⟩) dz.length c, .bool du] 24)).drewN nq = w4 at *
    obtain ⟨z0, z1, zf0, zf1, HZf, HFf⟩ := elm_two HZ4.out HB4.out (Nat.le_refl _) (.slice none 0 0) (.bool false)
    go_wp2_with fail
    refine bodyPost_ret (results_desc rfl _ _ w.heap.size _ _ rfl HZf.out) rfl ?_
    exact Elm.res_bad (by decide) HFf.out
set_option maxRecDepth 100000 in
set_option maxHeartbeats 8000000 in
theorem rresult_requant (op : Int) (h : op = 10) (qs : List Int) (ds : List Dsc) (A B : Option Addr) (qcap cap : Nat) (w : World) (hQ : Ri w A qs) (hR : Row w B (ds.flatMap Dsc.vals)) (hI : ∀ d ∈ ds, d.In w) (hl : ds.length ≤ 1000000) :
  Calls Tryz.prog 66 #[.int .i64 op, .slice A qs.length qcap, .slice B ds.length cap] w (Elm.Res w (Elm.shape op qs ds) (Elm.kind op qs ds) (Elm.code op qs ds)) := by
 have HZ0 := hide (Has.new w 24 [.slice none 0 0, .bool false])
 have HB0 := hide ((Below.refl w.heap.size w).alloc (Nat.le_refl _) (.cells #[.slice none 0 0, .bool false] 24))
 subst h
 by_cases hlen : qs.length = 3 ∧ ds.length = 1
 case neg =>
  have ec : Elm.code 10 qs ds = 101 := by
   unfold Elm.code
   rw [if_neg (by decide), if_pos (by
    show ds.length ≠ 1 ∨ qs.length ≠ 3
    by_cases h : qs.length = 3
    ·exact .inl fun h2 => hlen ⟨h, h2⟩
    ·exact .inr h)]
  obtain ⟨es, ek⟩ := Elm.bad_shape (op := 10) (qs := qs) (ds := ds) (by rw [ec]; decide)
  rw [ec, es, ek]
  clear hQ hR hI hl ec es ek
  obtain ⟨nq, hnq⟩ : ∃ n, qs.length = n := ⟨_, rfl⟩
  obtain ⟨nd, hnd⟩ : ∃ n, ds.length = n := ⟨_, rfl⟩
  rw [hnq, hnd] at hlen
  rw [hnq, hnd]
  clear hnq hnd
  by_cases hq : nq = 3
  ·subst hq
   have hd1 : ((nd : Int) == 1) = false := by simp; omega
   have hd2 : ((nd : Int) != 1) = true := by simp; omega
   clear hlen
   go_enter Tryz.func66, Tryz.ntmps66
   go_wp2_with fail
   refine bodyPost_ret (results_desc rfl _ _ w.heap.size _ _ rfl HZ0.out) rfl ?_
   exact Elm.res_bad (by decide) HB0.out
  ·have hd1 : ((nq : Int) == 3) = false := by simp; omega
   have hd2 : ((nq : Int) != 3) = true := by simp; omega
   clear hlen hq
   go_enter Tryz.func66, Tryz.ntmps66
   go_wp2_with fail
   refine bodyPost_ret (results_desc rfl _ _ w.heap.size _ _ rfl HZ0.out) rfl ?_
   exact Elm.res_bad (by decide) HB0.out
 case pos =>
 obtain ⟨hlq, hld⟩ := hlen
 have hc1 : Elm.code 10 qs ds = if Shp.firstbad ds ≠ 0 then Shp.firstbad ds else if Elm.alike 10 ds = false then 101 else if Elm.may 10 ((ds.head?.map (·.u)).getD false) qs = false then 102 else 0 := by
  unfold Elm.code
  rw [if_neg (by decide), if_neg (by
   intro h
   rcases h with h | h
   ·exact h hld
   ·exact h hlq)]
 have VD := hide (fun W (hb : Below w.heap.size w W) => descs_c ds B cap W (hR.below hb) (fun d hd => (hI d hd).below hb) hl)
 by_cases hfb : Shp.firstbad ds = 0
 case neg =>
  have ec : Elm.code 10 qs ds = Shp.firstbad ds := by rw [hc1, if_pos hfb]
  obtain ⟨es, ek⟩ := Elm.bad_shape (op := 10) (qs := qs) (ds := ds) (by rw [ec]; exact hfb)
  rw [ec, es, ek]
  obtain ⟨K, hK⟩ : ∃ K, Hid (Shp.firstbad ds = K) := ⟨_, hide rfl⟩
  rw [hK.out] at VD hfb ⊢
  rw [hld] at VD
  have HN := hide hfb
  have hf1 : ((K : Int) == 0) = false := by simp; omega
  have hf2 : ((K : Int) != 0) = true := by simp; omega
  rw [hlq, hld]
  clear hQ hR hI hl ec es ek hc1 hK hfb hlq hld
  go_enter Tryz.func66, Tryz.ntmps66
  go_wp2_with fail
  refine (VD.out _ HB0.out).mono ?_
  rintro e w1 ⟨rfl, hb⟩
  have HB := hide (HB0.out.trans (hb.mono HB0.out.size))
  have HZ := hide (HZ0.out.below hb HZ0.out.lt)
  clear HB0 HZ0 VD hb
  obtain ⟨z0, z1, zf0, zf1, HZf, HFf⟩ := elm_two HZ.out HB.out (Nat.le_refl _) (.slice none 0 0) (.bool false)
  go_wp2_with fail
  refine bodyPost_ret (results_desc rfl _ _ w.heap.size _ _ rfl HZf.out) rfl ?_
  exact Elm.res_bad HN.out HFf.out
 case pos =>
 rw [hfb, if_neg (by simp)] at hc1
 rw [hfb] at VD
 obtain ⟨d, rfl⟩ := List.length_eq_one_iff.1 hld
 have hId := hI d (by simp)
 obtain ⟨ad, rfl, hadl, hcs⟩ := hR (by simp [Dsc.vals])
 have HC : Hid (∀ W, Below w.heap.size w W → W.cell? ad = some (.slice d.P d.zs.length d.cap) ∧ W.cell? ⟨ad.block, ad.off + 1, none⟩ = some (.bool d.u) ∧ ad.block < W.heap.size) := hide fun W hb => by
  have c0 := hcs 0 _ rfl
  have c1 := hcs 1 _ rfl
  rw [Addr.add_zero'] at c0
  simp only [Addr.add, Nat.reduceEqDiff, if_false] at c1
  exact ⟨(hb.cell hadl).trans c0, (hb.cell (p := ⟨ad.block, ad.off + 1, none⟩) hadl).trans c1, Nat.lt_of_lt_of_le hadl hb.size⟩
 have VR := hide (fun W (hb : Below w.heap.size w W) => rdesc_c d.zs d.P d.cap d.u W (hId.shp.below hb) hId.ls)
 have hsh : Elm.shape 10 qs [d] = if Elm.code 10 qs [d] = 0 then d.zs else [] := rfl
 have hki : Elm.kind 10 qs [d] = if Elm.code 10 qs [d] = 0 then Elm.wide 10 d.u else false := rfl
 have hc2 : Elm.code 10 qs [d] = if Elm.alike 10 [d] = false then 101 else if Elm.may 10 d.u qs = false then 102 else 0 := hc1
 clear hcs hR hI hc1 hfb hl hadl
 obtain ⟨dP, dz, dc, du⟩ := d
 dsimp only at HC VR hsh hki hc2
 have HSH := hide hsh
 have HKI := hide hki
 have HC2 := hide hc2
 clear hsh hki hc2
 have VD' : Hid (∀ W, Below w.heap.size w W → Calls Tryz.prog 49 #[.slice (some ad) 1 cap] W fun e w' => e = .returned (.int .i64 0) ∧ Below W.heap.size W w') := VD
 clear VD hId
 obtain ⟨a, b, cc, rfl⟩ := list_three hlq
 obtain ⟨qa, rfl, hqa, p0, p1, p2⟩ := ri_three hQ
 have HA : Hid (∀ W, Below w.heap.size w W → qa.block < W.heap.size ∧ W.cell? qa = some (.int .i64 a) ∧ W.cell? ⟨qa.block, qa.off + 1, none⟩ = some (.int .i64 b) ∧ W.cell? ⟨qa.block, qa.off + 2, none⟩ = some (.int .i64 cc)) := hide fun W hb => ⟨Nat.lt_of_lt_of_le hqa hb.size, (hb.cell hqa).trans p0, (hb.cell (p := ⟨qa.block, qa.off + 1, none⟩) hqa).trans p1, (hb.cell (p := ⟨qa.block, qa.off + 2, none⟩) hqa).trans p2⟩
 clear hqa p0 p1 p2 hQ
 cases du
 ·have hk : Elm.code 10 [a, b, cc] [⟨dP, dz, dc, false⟩] = 101 := by rw [HC2.out]; rfl
  rw [HSH.out, HKI.out, hk, if_neg (by decide), if_neg (by decide)]
  clear HSH HKI HC2 hk
  show Calls Tryz.prog 66 #[.int .i64 10, .slice (some qa) 3 qcap, .slice (some ad) 1 cap] w _
  clear hlq hld
  go_enter Tryz.func66, Tryz.ntmps66
  go_wp2_with fail
  refine (VD'.out _ HB0.out).mono ?_
  rintro e w1 ⟨rfl, hb⟩
  have HB := hide (HB0.out.trans (hb.mono HB0.out.size))
  have HZ := hide (HZ0.out.below hb HZ0.out.lt)
  clear HB0 HZ0 VD' hb
  obtain ⟨c0, c1, hadl⟩ := HC.out w1 HB.out
  have HX := hide (Has.new w1 24 [.slice dP dz.length dc, .bool false])
  have HZ1 := hide (HZ.out.alloc (.cells #[.slice dP dz.length dc, .bool false] 24))
  have HB1 := hide (HB.out.alloc HB.out.size (.cells #[.slice dP dz.length dc, .bool false] 24))
  clear HB HZ
  go_wp2_with fail
  go_quiet (fail)
  have HX := hide (HX.out.drewN nq)
  have HZ1 := hide (HZ1.out.drewN nq)
  have HB1 := hide (below_drewN HB1.out nq)
  clear c0 c1 hadl
  generalize (w1.alloc (.cells #[.slice dP dz.length dc, .bool false] 24)).drewN nq = w2 at *
  obtain ⟨z0, z1, zf0, zf1, HZf, HFf⟩ := elm_two HZ1.out HB1.out (Nat.le_refl _) (.slice none 0 0) (.bool false)
  go_wp2_with fail
  refine bodyPost_ret (results_desc rfl _ _ w.heap.size _ _ rfl HZf.out) rfl ?_
  exact Elm.res_bad (by decide) HFf.out
 ·have H1 := hide (fun W => rnarrow_c cc W)
  obtain ⟨x, hx⟩ : ∃ x, Hid (Tens.fit false cc = x) := ⟨_, hide rfl⟩
  rw [hx.out] at H1
  by_cases h1 : 0 ≤ a
  ·by_cases h2 : a ≤ 2147483647
   ·by_cases h3 : 0 ≤ b
    ·by_cases h4 : b ≤ 62
     ·cases x
      ·have hk : Elm.code 10 [a, b, cc] [⟨dP, dz, dc, true⟩] = 102 := by
        rw [HC2.out]
        show (if (decide (0 ≤ a) && decide (a ≤ 2147483647) && decide (0 ≤ b) && decide (b ≤ 62) && Tens.fit false cc) = false then 102 else 0) = 102
        rw [hx.out]
        simp
       rw [HSH.out, HKI.out, hk, if_neg (by decide), if_neg (by decide)]
       clear HSH HKI HC2 hk
       show Calls Tryz.prog 66 #[.int .i64 10, .slice (some qa) 3 qcap, .slice (some ad) 1 cap] w _
       clear hlq hld
       clear hx
       go_enter Tryz.func66, Tryz.ntmps66
       go_wp2_with fail
       refine (VD'.out _ HB0.out).mono ?_
       rintro e w1 ⟨rfl, hb⟩
       have HB := hide (HB0.out.trans (hb.mono HB0.out.size))
       have HZ := hide (HZ0.out.below hb HZ0.out.lt)
       clear HB0 HZ0 VD' hb
       obtain ⟨c0, c1, hadl⟩ := HC.out w1 HB.out
       have HX := hide (Has.new w1 24 [.slice dP dz.length dc, .bool true])
       have HZ1 := hide (HZ.out.alloc (.cells #[.slice dP dz.length dc, .bool true] 24))
       have HB1 := hide (HB.out.alloc HB.out.size (.cells #[.slice dP dz.length dc, .bool true] 24))
       clear HB HZ
       go_wp2_with fail
       go_quiet (fail)
       have HX := hide (HX.out.drewN nq)
       have HZ1 := hide (HZ1.out.drewN nq)
       have HB1 := hide (below_drewN HB1.out nq)
       clear c0 c1 hadl
       generalize (w1.alloc (.cells #[.slice dP dz.length dc, .bool true] 24)).drewN nq = w2 at *
       have x0 := HX.out.cell 0
       have x1 := HX.out.cell 1
       go_wp2_with fail
       refine (VR.out _ HB1.out).mono ?_
       rintro e w3 ⟨⟨g, c, rest, rfl, hg, hG⟩, hb⟩
       have hB3 := HB1.out.trans (hb.mono HB1.out.size)
       have hZ3 := HZ1.out.below hb HZ1.out.lt
       have hX3 := HX.out.below hb HX.out.lt
       have hzl := HZ1.out.lt
       have hgl := hG.lt
       have hz3l := hZ3.lt
       have fin : ∀ v : Bool, w3.cell? ⟨w.heap.size, 0, none⟩ = some (.slice none 0 0) ∧ w3.cell? ⟨w.heap.size, 1, none⟩ = some (.bool false) ∧ w3.frozen? ⟨w.heap.size, 0, none⟩ = false ∧ w3.frozen? ⟨w.heap.size, 1, none⟩ = false ∧
         Hid (Has (((w3.setCell ⟨w.heap.size, 0, none⟩ (.slice (some ⟨g, 0, none⟩) dz.length c)).setCell ⟨w.heap.size, 1, none⟩ (.bool v)).alloc (.cells #[.slice (some ⟨g, 0, none⟩) dz.length c, .bool v] 24)) w.heap.size 24 [.slice (some ⟨g, 0, none⟩) dz.length c, .bool v]) ∧
         Hid (Has (((w3.setCell ⟨w.heap.size, 0, none⟩ (.slice (some ⟨g, 0, none⟩) dz.length c)).setCell ⟨w.heap.size, 1, none⟩ (.bool v)).alloc (.cells #[.slice (some ⟨g, 0, none⟩) dz.length c, .bool v] 24)) g 3 (i64s dz ++ rest)) ∧
         Hid (Below w.heap.size w (((w3.setCell ⟨w.heap.size, 0, none⟩ (.slice (some ⟨g, 0, none⟩) dz.length c)).setCell ⟨w.heap.size, 1, none⟩ (.bool v)).alloc (.cells #[.slice (some ⟨g, 0, none⟩) dz.length c, .bool v] 24))) := fun v =>
        ⟨hZ3.cell 0, hZ3.cell 1, hZ3.frozen 0, hZ3.frozen 1, ((hZ3.set_ 0 (.slice (some ⟨g, 0, none⟩) dz.length c)).set_ 1 (.bool v)).alloc _,
         ((hG.far (p := ⟨w.heap.size, 0, none⟩) (by simp; omega) (.slice (some ⟨g, 0, none⟩) dz.length c)).far (p := ⟨w.heap.size, 1, none⟩) (by simp; omega) (.bool v)).alloc _,
         ((hB3.setCell (p := ⟨w.heap.size, 0, none⟩) (Nat.le_refl _) (.slice (some ⟨g, 0, none⟩) dz.length c)).setCell (p := ⟨w.heap.size, 1, none⟩) (Nat.le_refl _) (.bool v)).alloc (by simp; exact hB3.size) _⟩
       have hgs : w.heap.size < g := by omega
       have hgw : w.heap.size ≤ g := Nat.le_of_lt hgs
       clear x0 x1
       obtain ⟨hqa, p0, p1, p2⟩ := HA.out w3 hB3
       obtain ⟨z0, z1, zf0, zf1, HZg, HFg⟩ := elm_two hZ3 hB3 (Nat.le_refl _) (.slice none 0 0) (.bool false)
       have HZf := hide (HZg.out.alloc (.cells #[.slice (some ⟨g, 0, none⟩) dz.length c, .bool true] 24))
       have HFf := hide (HFg.out.alloc HFg.out.size (.cells #[.slice (some ⟨g, 0, none⟩) dz.length c, .bool true] 24))
       clear fin hZ3 hX3 hB3 hG HX HZ1 HB1 hg hb VR HC HZg HFg
       go_wp2_with fail
       refine (H1.out _).mono ?_
       rintro e w4 ⟨rfl, rfl⟩
       go_wp2_with fail
       refine bodyPost_ret (results_desc rfl _ _ w.heap.size _ _ rfl HZf.out) rfl ?_
       exact Elm.res_bad (by decide) HFf.out
      ·have hk : Elm.code 10 [a, b, cc] [⟨dP, dz, dc, true⟩] = 0 := by
        rw [HC2.out]
        show (if (decide (0 ≤ a) && decide (a ≤ 2147483647) && decide (0 ≤ b) && decide (b ≤ 62) && Tens.fit false cc) = false then 102 else 0) = 0
        rw [hx.out, decide_eq_true h1, decide_eq_true h2, decide_eq_true h3, decide_eq_true h4]
        rfl
       rw [HSH.out, HKI.out, hk, if_pos rfl, if_pos rfl]
       clear HSH HKI HC2 hk
       rw [show Elm.wide 10 true = false from rfl]
       show Calls Tryz.prog 66 #[.int .i64 10, .slice (some qa) 3 qcap, .slice (some ad) 1 cap] w _
       clear hlq hld
       clear hx
       go_enter Tryz.func66, Tryz.ntmps66
       go_wp2_with fail
       refine (VD'.out _ HB0.out).mono ?_
       rintro e w1 ⟨rfl, hb⟩
       have HB := hide (HB0.out.trans (hb.mono HB0.out.size))
       have HZ := hide (HZ0.out.below hb HZ0.out.lt)
       clear HB0 HZ0 VD' hb
       obtain ⟨c0, c1, hadl⟩ := HC.out w1 HB.out
       have HX := hide (Has.new w1 24 [.slice dP dz.length dc, .bool true])
       have HZ1 := hide (HZ.out.alloc (.cells #[.slice dP dz.length dc, .bool true] 24))
       have HB1 := hide (HB.out.alloc HB.out.size (.cells #[.slice dP dz.length dc, .bool true] 24))
       clear HB HZ
       go_wp2_with fail
       go_quiet (fail)
       have HX := hide (HX.out.drewN nq)
       have HZ1 := hide (HZ1.out.drewN nq)
       have HB1 := hide (below_drewN HB1.out nq)
       clear c0 c1 hadl
       generalize (w1.alloc (.cells #[.slice dP dz.length dc, .bool true] 24)).drewN nq = w2 at *
       have x0 := HX.out.cell 0
       have x1 := HX.out.cell 1
       go_wp2_with fail
       refine (VR.out _ HB1.out).mono ?_
       rintro e w3 ⟨⟨g, c, rest, rfl, hg, hG⟩, hb⟩
       have hB3 := HB1.out.trans (hb.mono HB1.out.size)
       have hZ3 := HZ1.out.below hb HZ1.out.lt
       have hX3 := HX.out.below hb HX.out.lt
       have hzl := HZ1.out.lt
       have hgl := hG.lt
       have hz3l := hZ3.lt
       have fin : ∀ v : Bool, w3.cell? ⟨w.heap.size, 0, none⟩ = some (.slice none 0 0) ∧ w3.cell? ⟨w.heap.size, 1, none⟩ = some (.bool false) ∧ w3.frozen? ⟨w.heap.size, 0, none⟩ = false ∧ w3.frozen? ⟨w.heap.size, 1, none⟩ = false ∧
         Hid (Has (((w3.setCell ⟨w.heap.size, 0, none⟩ (.slice (some ⟨g, 0, none⟩) dz.length c)).setCell ⟨w.heap.size, 1, none⟩ (.bool v)).alloc (.cells #[.slice (some ⟨g, 0, none⟩) dz.length c, .bool v] 24)) w.heap.size 24 [.slice (some ⟨g, 0, none⟩) dz.length c, .bool v]) ∧
         Hid (Has (((w3.setCell ⟨w.heap.size, 0, none⟩ (.slice (some ⟨g, 0, none⟩) dz.length c)).setCell ⟨w.heap.size, 1, none⟩ (.bool v)).alloc (.cells #[.slice (some ⟨g, 0, none⟩) dz.length c, .bool v] 24)) g 3 (i64s dz ++ rest)) ∧
         Hid (Below w.heap.size w (((w3.setCell ⟨w.heap.size, 0, none⟩ (.slice (some ⟨g, 0, none⟩) dz.length c)).setCell ⟨w.heap.size, 1, none⟩ (.bool v)).alloc (.cells #[.slice (some ⟨g, 0, none⟩) dz.length c, .bool v] 24))) := fun v =>
        ⟨hZ3.cell 0, hZ3.cell 1, hZ3.frozen 0, hZ3.frozen 1, ((hZ3.set_ 0 (.slice (some ⟨g, 0, none⟩) dz.length c)).set_ 1 (.bool v)).alloc _,
         ((hG.far (p := ⟨w.heap.size, 0, none⟩) (by simp; omega) (.slice (some ⟨g, 0, none⟩) dz.length c)).far (p := ⟨w.heap.size, 1, none⟩) (by simp; omega) (.bool v)).alloc _,
         ((hB3.setCell (p := ⟨w.heap.size, 0, none⟩) (Nat.le_refl _) (.slice (some ⟨g, 0, none⟩) dz.length c)).setCell (p := ⟨w.heap.size, 1, none⟩) (Nat.le_refl _) (.bool v)).alloc (by simp; exact hB3.size) _⟩
       have hgs : w.heap.size < g := by omega
       have hgw : w.heap.size ≤ g := Nat.le_of_lt hgs
       clear x0 x1
       obtain ⟨hqa, p0, p1, p2⟩ := HA.out w3 hB3
       obtain ⟨z0, z1, zf0, zf1, HZf, HGf, HFf⟩ := fin false
       clear fin hZ3 hX3 hB3 hG HX HZ1 HB1 hg hb VR HC
       go_wp2_with fail
       refine (H1.out _).mono ?_
       rintro e w4 ⟨rfl, rfl⟩
       go_wp2_with fail
       refine bodyPost_ret (results_desc rfl _ _ w.heap.size _ _ rfl HZf.out) rfl ?_
       exact ⟨⟨_, c, rfl, fun _ => ⟨g, rest, rfl, hgw, HGf.out⟩⟩, HFf.out⟩
     ·have hk : Elm.code 10 [a, b, cc] [⟨dP, dz, dc, true⟩] = 102 := by
       rw [HC2.out]
       show (if (decide (0 ≤ a) && decide (a ≤ 2147483647) && decide (0 ≤ b) && decide (b ≤ 62) && Tens.fit false cc) = false then 102 else 0) = 102
       rw [decide_eq_false h4]
       simp
      rw [HSH.out, HKI.out, hk, if_neg (by decide), if_neg (by decide)]
      clear HSH HKI HC2 hk
      show Calls Tryz.prog 66 #[.int .i64 10, .slice (some qa) 3 qcap, .slice (some ad) 1 cap] w _
      clear hlq hld
      clear hx
      go_enter Tryz.func66, Tryz.ntmps66
      go_wp2_with fail
      refine (VD'.out _ HB0.out).mono ?_
      rintro e w1 ⟨rfl, hb⟩
      have HB := hide (HB0.out.trans (hb.mono HB0.out.size))
      have HZ := hide (HZ0.out.below hb HZ0.out.lt)
      clear HB0 HZ0 VD' hb
      obtain ⟨c0, c1, hadl⟩ := HC.out w1 HB.out
      have HX := hide (Has.new w1 24 [.slice dP dz.length dc, .bool true])
      have HZ1 := hide (HZ.out.alloc (.cells #[.slice dP dz.length dc, .bool true] 24))
      have HB1 := hide (HB.out.alloc HB.out.size (.cells #[.slice dP dz.length dc, .bool true] 24))
      clear HB HZ
      go_wp2_with fail
      go_quiet (fail)
      have HX := hide (HX.out.drewN nq)
      have HZ1 := hide (HZ1.out.drewN nq)
      have HB1 := hide (below_drewN HB1.out nq)
      clear c0 c1 hadl
      generalize (w1.alloc (.cells #[.slice dP dz.length dc, .bool true] 24)).drewN nq = w2 at *
      have x0 := HX.out.cell 0
      have x1 := HX.out.cell 1
      go_wp2_with fail
      refine (VR.out _ HB1.out).mono ?_
      rintro e w3 ⟨⟨g, c, rest, rfl, hg, hG⟩, hb⟩
      have hB3 := HB1.out.trans (hb.mono HB1.out.size)
      have hZ3 := HZ1.out.below hb HZ1.out.lt
      have hX3 := HX.out.below hb HX.out.lt
      have hzl := HZ1.out.lt
      have hgl := hG.lt
      have hz3l := hZ3.lt
      have fin : ∀ v : Bool, w3.cell? ⟨w.heap.size, 0, none⟩ = some (.slice none 0 0) ∧ w3.cell? ⟨w.heap.size, 1, none⟩ = some (.bool false) ∧ w3.frozen? ⟨w.heap.size, 0, none⟩ = false ∧ w3.frozen? ⟨w.heap.size, 1, none⟩ = false ∧
        Hid (Has (((w3.setCell ⟨w.heap.size, 0, none⟩ (.slice (some ⟨g, 0, none⟩) dz.length c)).setCell ⟨w.heap.size, 1, none⟩ (.bool v)).alloc (.cells #[.slice (some ⟨g, 0, none⟩) dz.length c, .bool v] 24)) w.heap.size 24 [.slice (some ⟨g, 0, none⟩) dz.length c, .bool v]) ∧
        Hid (Has (((w3.setCell ⟨w.heap.size, 0, none⟩ (.slice (some ⟨g, 0, none⟩) dz.length c)).setCell ⟨w.heap.size, 1, none⟩ (.bool v)).alloc (.cells #[.slice (some ⟨g, 0, none⟩) dz.length c, .bool v] 24)) g 3 (i64s dz ++ rest)) ∧
        Hid (Below w.heap.size w (((w3.setCell ⟨w.heap.size, 0, none⟩ (.slice (some ⟨g, 0, none⟩) dz.length c)).setCell ⟨w.heap.size, 1, none⟩ (.bool v)).alloc (.cells #[.slice (some ⟨g, 0, none⟩) dz.length c, .bool v] 24))) := fun v =>
       ⟨hZ3.cell 0, hZ3.cell 1, hZ3.frozen 0, hZ3.frozen 1, ((hZ3.set_ 0 (.slice (some ⟨g, 0, none⟩) dz.length c)).set_ 1 (.bool v)).alloc _,
        ((hG.far (p := ⟨w.heap.size, 0, none⟩) (by simp; omega) (.slice (some ⟨g, 0, none⟩) dz.length c)).far (p := ⟨w.heap.size, 1, none⟩) (by simp; omega) (.bool v)).alloc _,
        ((hB3.setCell (p := ⟨w.heap.size, 0, none⟩) (Nat.le_refl _) (.slice (some ⟨g, 0, none⟩) dz.length c)).setCell (p := ⟨w.heap.size, 1, none⟩) (Nat.le_refl _) (.bool v)).alloc (by simp; exact hB3.size) _⟩
      have hgs : w.heap.size < g := by omega
      have hgw : w.heap.size ≤ g := Nat.le_of_lt hgs
      clear x0 x1
      obtain ⟨hqa, p0, p1, p2⟩ := HA.out w3 hB3
      obtain ⟨z0, z1, zf0, zf1, HZg, HFg⟩ := elm_two hZ3 hB3 (Nat.le_refl _) (.slice none 0 0) (.bool false)
      have HZf := hide (HZg.out.alloc (.cells #[.slice (some ⟨g, 0, none⟩) dz.length c, .bool true] 24))
      have HFf := hide (HFg.out.alloc HFg.out.size (.cells #[.slice (some ⟨g, 0, none⟩) dz.length c, .bool true] 24))
      clear fin hZ3 hX3 hB3 hG HX HZ1 HB1 hg hb VR HC HZg HFg
      go_wp2_with fail
      refine bodyPost_ret (results_desc rfl _ _ w.heap.size _ _ rfl HZf.out) rfl ?_
      exact Elm.res_bad (by decide) HFf.out
    ·have hk : Elm.code 10 [a, b, cc] [⟨dP, dz, dc, true⟩] = 102 := by
      rw [HC2.out]
      show (if (decide (0 ≤ a) && decide (a ≤ 2147483647) && decide (0 ≤ b) && decide (b ≤ 62) && Tens.fit false cc) = false then 102 else 0) = 102
      rw [decide_eq_false h3]
      simp
     rw [HSH.out, HKI.out, hk, if_neg (by decide), if_neg (by decide)]
     clear HSH HKI HC2 hk
     show Calls Tryz.prog 66 #[.int .i64 10, .slice (some qa) 3 qcap, .slice (some ad) 1 cap] w _
     clear hlq hld
     clear hx
     go_enter Tryz.func66, Tryz.ntmps66
     go_wp2_with fail
     refine (VD'.out _ HB0.out).mono ?_
     rintro e w1 ⟨rfl, hb⟩
     have HB := hide (HB0.out.trans (hb.mono HB0.out.size))
     have HZ := hide (HZ0.out.below hb HZ0.out.lt)
     clear HB0 HZ0 VD' hb
     obtain ⟨c0, c1, hadl⟩ := HC.out w1 HB.out
     have HX := hide (Has.new w1 24 [.slice dP dz.length dc, .bool true])
     have HZ1 := hide (HZ.out.alloc (.cells #[.slice dP dz.length dc, .bool true] 24))
     have HB1 := hide (HB.out.alloc HB.out.size (.cells #[.slice dP dz.length dc, .bool true] 24))
     clear HB HZ
     go_wp2_with fail
     go_quiet (fail)
     have HX := hide (HX.out.drewN nq)
     have HZ1 := hide (HZ1.out.drewN nq)
     have HB1 := hide (below_drewN HB1.out nq)
     clear c0 c1 hadl
     generalize (w1.alloc (.cells #[.slice dP dz.length dc, .bool true] 24)).drewN nq = w2 at *
     have x0 := HX.out.cell 0
     have x1 := HX.out.cell 1
     go_wp2_with fail
     refine (VR.out _ HB1.out).mono ?_
     rintro e w3 ⟨⟨g, c, rest, rfl, hg, hG⟩, hb⟩
     have hB3 := HB1.out.trans (hb.mono HB1.out.size)
     have hZ3 := HZ1.out.below hb HZ1.out.lt
     have hX3 := HX.out.below hb HX.out.lt
     have hzl := HZ1.out.lt
     have hgl := hG.lt
     have hz3l := hZ3.lt
     have fin : ∀ v : Bool, w3.cell? ⟨w.heap.size, 0, none⟩ = some (.slice none 0 0) ∧ w3.cell? ⟨w.heap.size, 1, none⟩ = some (.bool false) ∧ w3.frozen? ⟨w.heap.size, 0, none⟩ = false ∧ w3.frozen? ⟨w.heap.size, 1, none⟩ = false ∧
       Hid (Has (((w3.setCell ⟨w.heap.size, 0, none⟩ (.slice (some ⟨g, 0, none⟩) dz.length c)).setCell ⟨w.heap.size, 1, none⟩ (.bool v)).alloc (.cells #[.slice (some ⟨g, 0, none⟩) dz.length c, .bool v] 24)) w.heap.size 24 [.slice (some ⟨g, 0, none⟩) dz.length c, .bool v]) ∧
       Hid (Has (((w3.setCell ⟨w.heap.size, 0, none⟩ (.slice (some ⟨g, 0, none⟩) dz.length c)).setCell ⟨w.heap.size, 1, none⟩ (.bool v)).alloc (.cells #[.slice (some ⟨g, 0, none⟩) dz.length c, .bool v] 24)) g 3 (i64s dz ++ rest)) ∧
       Hid (Below w.heap.size w (((w3.setCell ⟨w.heap.size, 0, none⟩ (.slice (some ⟨g, 0, none⟩) dz.length c)).setCell ⟨w.heap.size, 1, none⟩ (.bool v)).alloc (.cells #[.slice (some ⟨g, 0, none⟩) dz.length c, .bool v] 24))) := fun v =>
      ⟨hZ3.cell 0, hZ3.cell 1, hZ3.frozen 0, hZ3.frozen 1, ((hZ3.set_ 0 (.slice (some ⟨g, 0, none⟩) dz.length c)).set_ 1 (.bool v)).alloc _,
       ((hG.far (p := ⟨w.heap.size, 0, none⟩) (by simp; omega) (.slice (some ⟨g, 0, none⟩) dz.length c)).far (p := ⟨w.heap.size, 1, none⟩) (by simp; omega) (.bool v)).alloc _,
       ((hB3.setCell (p := ⟨w.heap.size, 0, none⟩) (Nat.le_refl _) (.slice (some ⟨g, 0, none⟩) dz.length c)).setCell (p := ⟨w.heap.size, 1, none⟩) (Nat.le_refl _) (.bool v)).alloc (by simp; exact hB3.size) _⟩
     have hgs : w.heap.size < g := by omega
     have hgw : w.heap.size ≤ g := Nat.le_of_lt hgs
     clear x0 x1
     obtain ⟨hqa, p0, p1, p2⟩ := HA.out w3 hB3
     obtain ⟨z0, z1, zf0, zf1, HZg, HFg⟩ := elm_two hZ3 hB3 (Nat.le_refl _) (.slice none 0 0) (.bool false)
     have HZf := hide (HZg.out.alloc (.cells #[.slice (some ⟨g, 0, none⟩) dz.length c, .bool true] 24))
     have HFf := hide (HFg.out.alloc HFg.out.size (.cells #[.slice (some ⟨g, 0, none⟩) dz.length c, .bool true] 24))
     clear fin hZ3 hX3 hB3 hG HX HZ1 HB1 hg hb VR HC HZg HFg
     go_wp2_with fail
     refine bodyPost_ret (results_desc rfl _ _ w.heap.size _ _ rfl HZf.out) rfl ?_
     exact Elm.res_bad (by decide) HFf.out
   ·have hk : Elm.code 10 [a, b, cc] [⟨dP, dz, dc, true⟩] = 102 := by
     rw [HC2.out]
     show (if (decide (0 ≤ a) && decide (a ≤ 2147483647) && decide (0 ≤ b) && decide (b ≤ 62) && Tens.fit false cc) = false then 102 else 0) = 102
     rw [decide_eq_false h2]
     simp
    rw [HSH.out, HKI.out, hk, if_neg (by decide), if_neg (by decide)]
    clear HSH HKI HC2 hk
    show Calls Tryz.prog 66 #[.int .i64 10, .slice (some qa) 3 qcap, .slice (some ad) 1 cap] w _
    clear hlq hld
    clear hx
    go_enter Tryz.func66, Tryz.ntmps66
    go_wp2_with fail
    refine (VD'.out _ HB0.out).mono ?_
    rintro e w1 ⟨rfl, hb⟩
    have HB := hide (HB0.out.trans (hb.mono HB0.out.size))
    have HZ := hide (HZ0.out.below hb HZ0.out.lt)
    clear HB0 HZ0 VD' hb
    obtain ⟨c0, c1, hadl⟩ := HC.out w1 HB.out
    have HX := hide (Has.new w1 24 [.slice dP dz.length dc, .bool true])
    have HZ1 := hide (HZ.out.alloc (.cells #[.slice dP dz.length dc, .bool true] 24))
    have HB1 := hide (HB.out.alloc HB.out.size (.cells #[.slice dP dz.length dc, .bool true] 24))
    clear HB HZ
    go_wp2_with fail
    go_quiet (fail)
    have HX := hide (HX.out.drewN nq)
    have HZ1 := hide (HZ1.out.drewN nq)
    have HB1 := hide (below_drewN HB1.out nq)
    clear c0 c1 hadl
    generalize (w1.alloc (.cells #[.slice dP dz.length dc, .bool true] 24)).drewN nq = w2 at *
    have x0 := HX.out.cell 0
    have x1 := HX.out.cell 1
    go_wp2_with fail
    refine (VR.out _ HB1.out).mono ?_
    rintro e w3 ⟨⟨g, c, rest, rfl, hg, hG⟩, hb⟩
    have hB3 := HB1.out.trans (hb.mono HB1.out.size)
    have hZ3 := HZ1.out.below hb HZ1.out.lt
    have hX3 := HX.out.below hb HX.out.lt
    have hzl := HZ1.out.lt
    have hgl := hG.lt
    have hz3l := hZ3.lt
    have fin : ∀ v : Bool, w3.cell? ⟨w.heap.size, 0, none⟩ = some (.slice none 0 0) ∧ w3.cell? ⟨w.heap.size, 1, none⟩ = some (.bool false) ∧ w3.frozen? ⟨w.heap.size, 0, none⟩ = false ∧ w3.frozen? ⟨w.heap.size, 1, none⟩ = false ∧
      Hid (Has (((w3.setCell ⟨w.heap.size, 0, none⟩ (.slice (some ⟨g, 0, none⟩) dz.length c)).setCell ⟨w.heap.size, 1, none⟩ (.bool v)).alloc (.cells #[.slice (some ⟨g, 0, none⟩) dz.length c, .bool v] 24)) w.heap.size 24 [.slice (some ⟨g, 0, none⟩) dz.length c, .bool v]) ∧
      Hid (Has (((w3.setCell ⟨w.heap.size, 0, none⟩ (.slice (some ⟨g, 0, none⟩) dz.length c)).setCell ⟨w.heap.size, 1, none⟩ (.bool v)).alloc (.cells #[.slice (some ⟨g, 0, none⟩) dz.length c, .bool v] 24)) g 3 (i64s dz ++ rest)) ∧
      Hid (Below w.heap.size w (((w3.setCell ⟨w.heap.size, 0, none⟩ (.slice (some ⟨g, 0, none⟩) dz.length c)).setCell ⟨w.heap.size, 1, none⟩ (.bool v)).alloc (.cells #[.slice (some ⟨g, 0, none⟩) dz.length c, .bool v] 24))) := fun v =>
     ⟨hZ3.cell 0, hZ3.cell 1, hZ3.frozen 0, hZ3.frozen 1, ((hZ3.set_ 0 (.slice (some ⟨g, 0, none⟩) dz.length c)).set_ 1 (.bool v)).alloc _,
      ((hG.far (p := ⟨w.heap.size, 0, none⟩) (by simp; omega) (.slice (some ⟨g, 0, none⟩) dz.length c)).far (p := ⟨w.heap.size, 1, none⟩) (by simp; omega) (.bool v)).alloc _,
      ((hB3.setCell (p := ⟨w.heap.size, 0, none⟩) (Nat.le_refl _) (.slice (some ⟨g, 0, none⟩) dz.length c)).setCell (p := ⟨w.heap.size, 1, none⟩) (Nat.le_refl _) (.bool v)).alloc (by simp; exact hB3.size) _⟩
    have hgs : w.heap.size < g := by omega
    have hgw : w.heap.size ≤ g := Nat.le_of_lt hgs
    clear x0 x1
    obtain ⟨hqa, p0, p1, p2⟩ := HA.out w3 hB3
    obtain ⟨z0, z1, zf0, zf1, HZg, HFg⟩ := elm_two hZ3 hB3 (Nat.le_refl _) (.slice none 0 0) (.bool false)
    have HZf := hide (HZg.out.alloc (.cells #[.slice (some ⟨g, 0, none⟩) dz.length c, .bool true] 24))
    have HFf := hide (HFg.out.alloc HFg.out.size (.cells #[.slice (some ⟨g, 0, none⟩) dz.length c, .bool true] 24))
    clear fin hZ3 hX3 hB3 hG HX HZ1 HB1 hg hb VR HC HZg HFg
    go_wp2_with fail
    refine bodyPost_ret (results_desc rfl _ _ w.heap.size _ _ rfl HZf.out) rfl ?_
    exact Elm.res_bad (by decide) HFf.out
  ·have hk : Elm.code 10 [a, b, cc] [⟨dP, dz, dc, true⟩] = 102 := by
    rw [HC2.out]
    show (if (decide (0 ≤ a) && decide (a ≤ 2147483647) && decide (0 ≤ b) && decide (b ≤ 62) && Tens.fit false cc) = false then 102 else 0) = 102
    rw [decide_eq_false h1]
    simp
   rw [HSH.out, HKI.out, hk, if_neg (by decide), if_neg (by decide)]
   clear HSH HKI HC2 hk
   show Calls Tryz.prog 66 #[.int .i64 10, .slice (some qa) 3 qcap, .slice (some ad) 1 cap] w _
   clear hlq hld
   clear hx
   go_enter Tryz.func66, Tryz.ntmps66
   go_wp2_with fail
   refine (VD'.out _ HB0.out).mono ?_
   rintro e w1 ⟨rfl, hb⟩
   have HB := hide (HB0.out.trans (hb.mono HB0.out.size))
   have HZ := hide (HZ0.out.below hb HZ0.out.lt)
   clear HB0 HZ0 VD' hb
   obtain ⟨c0, c1, hadl⟩ := HC.out w1 HB.out
   have HX := hide (Has.new w1 24 [.slice dP dz.length dc, .bool true])
   have HZ1 := hide (HZ.out.alloc (.cells #[.slice dP dz.length dc, .bool true] 24))
   have HB1 := hide (HB.out.alloc HB.out.size (.cells #[.slice dP dz.length dc, .bool true] 24))
   clear HB HZ
   go_wp2_with fail
   go_quiet (fail)
   have HX := hide (HX.out.drewN nq)
   have HZ1 := hide (HZ1.out.drewN nq)
   have HB1 := hide (below_drewN HB1.out nq)
   clear c0 c1 hadl
   generalize (w1.alloc (.cells #[.slice dP dz.length dc, .bool true] 24)).drewN nq = w2 at *
   have x0 := HX.out.cell 0
   have x1 := HX.out.cell 1
   go_wp2_with fail
   refine (VR.out _ HB1.out).mono ?_
   rintro e w3 ⟨⟨g, c, rest, rfl, hg, hG⟩, hb⟩
   have hB3 := HB1.out.trans (hb.mono HB1.out.size)
   have hZ3 := HZ1.out.below hb HZ1.out.lt
   have hX3 := HX.out.below hb HX.out.lt
   have hzl := HZ1.out.lt
   have hgl := hG.lt
   have hz3l := hZ3.lt
   have fin : ∀ v : Bool, w3.cell? ⟨w.heap.size, 0, none⟩ = some (.slice none 0 0) ∧ w3.cell? ⟨w.heap.size, 1, none⟩ = some (.bool false) ∧ w3.frozen? ⟨w.heap.size, 0, none⟩ = false ∧ w3.frozen? ⟨w.heap.size, 1, none⟩ = false ∧
     Hid (Has (((w3.setCell ⟨w.heap.size, 0, none⟩ (.slice (some ⟨g, 0, none⟩) dz.length c)).setCell ⟨w.heap.size, 1, none⟩ (.bool v)).alloc (.cells #[.slice (some ⟨g, 0, none⟩) dz.length c, .bool v] 24)) w.heap.size 24 [.slice (some ⟨g, 0, none⟩) dz.length c, .bool v]) ∧
     Hid (Has (((w3.setCell ⟨w.heap.size, 0, none⟩ (.slice (some ⟨g, 0, none⟩) dz.length c)).setCell ⟨w.heap.size, 1, none⟩ (.bool v)).alloc (.cells #[.slice (some ⟨g, 0, none⟩) dz.length c, .bool v] 24)) g 3 (i64s dz ++ rest)) ∧
     Hid (Below w.heap.size w (((w3.setCell ⟨w.heap.size, 0, none⟩ (.slice (some ⟨g, 0, none⟩) dz.length c)).setCell ⟨w.heap.size, 1, none⟩ (.bool v)).alloc (.cells #[.slice (some ⟨g, 0, none⟩) dz.length c, .bool v] 24))) := fun v =>
    ⟨hZ3.cell 0, hZ3.cell 1, hZ3.frozen 0, hZ3.frozen 1, ((hZ3.set_ 0 (.slice (some ⟨g, 0, none⟩) dz.length c)).set_ 1 (.bool v)).alloc _,
     ((hG.far (p := ⟨w.heap.size, 0, none⟩) (by simp; omega) (.slice (some ⟨g, 0, none⟩) dz.length c)).far (p := ⟨w.heap.size, 1, none⟩) (by simp; omega) (.bool v)).alloc _,
     ((hB3.setCell (p := ⟨w.heap.size, 0, none⟩) (Nat.le_refl _) (.slice (some ⟨g, 0, none⟩) dz.length c)).setCell (p := ⟨w.heap.size, 1, none⟩) (Nat.le_refl _) (.bool v)).alloc (by simp; exact hB3.size) _⟩
   have hgs : w.heap.size < g := by omega
   have hgw : w.heap.size ≤ g := Nat.le_of_lt hgs
   clear x0 x1
   obtain ⟨hqa, p0, p1, p2⟩ := HA.out w3 hB3
   obtain ⟨z0, z1, zf0, zf1, HZg, HFg⟩ := elm_two hZ3 hB3 (Nat.le_refl _) (.slice none 0 0) (.bool false)
   have HZf := hide (HZg.out.alloc (.cells #[.slice (some ⟨g, 0, none⟩) dz.length c, .bool true] 24))
   have HFf := hide (HFg.out.alloc HFg.out.size (.cells #[.slice (some ⟨g, 0, none⟩) dz.length c, .bool true] 24))
   clear fin hZ3 hX3 hB3 hG HX HZ1 HB1 hg hb VR HC HZg HFg
   go_wp2_with fail
   refine bodyPost_ret (results_desc rfl _ _ w.heap.size _ _ rfl HZf.out) rfl ?_
   exact Elm.res_bad (by decide) HFf.out
set_option maxRecDepth 100000 in
set_option maxHeartbeats 8000000 in
theorem rresult_widen (op : Int) (h : op = 11) (qs : List Int) (ds : List Dsc) (A B : Option Addr) (qcap cap : Nat) (w : World) (hQ : Ri w A qs) (hR : Row w B (ds.flatMap Dsc.vals)) (hI : ∀ d ∈ ds, d.In w) (hl : ds.length ≤ 1000000) :
  Calls Tryz.prog 66 #[.int .i64 op, .slice A qs.length qcap, .slice B ds.length cap] w (Elm.Res w (Elm.shape op qs ds) (Elm.kind op qs ds) (Elm.code op qs ds)) := by
 have HZ0 := hide (Has.new w 24 [.slice none 0 0, .bool false])
 have HB0 := hide ((Below.refl w.heap.size w).alloc (Nat.le_refl _) (.cells #[.slice none 0 0, .bool false] 24))
 subst h
 by_cases hlen : qs.length = 1 ∧ ds.length = 1
 case neg =>
  have ec : Elm.code 11 qs ds = 101 := by
   unfold Elm.code
   rw [if_neg (by decide), if_pos (by
    show ds.length ≠ 1 ∨ qs.length ≠ 1
    by_cases h : qs.length = 1
    ·exact .inl fun h2 => hlen ⟨h, h2⟩
    ·exact .inr h)]
  obtain ⟨es, ek⟩ := Elm.bad_shape (op := 11) (qs := qs) (ds := ds) (by rw [ec]; decide)
  rw [ec, es, ek]
  clear hQ hR hI hl ec es ek
  obtain ⟨nq, hnq⟩ : ∃ n, qs.length = n := ⟨_, rfl⟩
  obtain ⟨nd, hnd⟩ : ∃ n, ds.length = n := ⟨_, rfl⟩
  rw [hnq, hnd] at hlen
  rw [hnq, hnd]
  clear hnq hnd
  by_cases hq : nq = 1
  ·subst hq
   have hd1 : ((nd : Int) == 1) = false := by simp; omega
   have hd2 : ((nd : Int) != 1) = true := by simp; omega
   clear hlen
   go_enter Tryz.func66, Tryz.ntmps66
   go_wp2_with fail
   refine bodyPost_ret (results_desc rfl _ _ w.heap.size _ _ rfl HZ0.out) rfl ?_
   exact Elm.res_bad (by decide) HB0.out
  ·have hd1 : ((nq : Int) == 1) = false := by simp; omega
   have hd2 : ((nq : Int) != 1) = true := by simp; omega
   clear hlen hq
   go_enter Tryz.func66, Tryz.ntmps66
   go_wp2_with fail
   refine bodyPost_ret (results_desc rfl _ _ w.heap.size _ _ rfl HZ0.out) rfl ?_
   exact Elm.res_bad (by decide) HB0.out
 case pos =>
 obtain ⟨hlq, hld⟩ := hlen
 have hc1 : Elm.code 11 qs ds = if Shp.firstbad ds ≠ 0 then Shp.firstbad ds else if Elm.alike 11 ds = false then 101 else if Elm.may 11 ((ds.head?.map (·.u)).getD false) qs = false then 102 else 0 := by
  unfold Elm.code
  rw [if_neg (by decide), if_neg (by
   intro h
   rcases h with h | h
   ·exact h hld
   ·exact h hlq)]
 have VD := hide (fun W (hb : Below w.heap.size w W) => descs_c ds B cap W (hR.below hb) (fun d hd => (hI d hd).below hb) hl)
 by_cases hfb : Shp.firstbad ds = 0
 case neg =>
  have ec : Elm.code 11 qs ds = Shp.firstbad ds := by rw [hc1, if_pos hfb]
  obtain ⟨es, ek⟩ := Elm.bad_shape (op := 11) (qs := qs) (ds := ds) (by rw [ec]; exact hfb)
  rw [ec, es, ek]
  obtain ⟨K, hK⟩ : ∃ K, Hid (Shp.firstbad ds = K) := ⟨_, hide rfl⟩
  rw [hK.out] at VD hfb ⊢
  rw [hld] at VD
  have HN := hide hfb
  have hf1 : ((K : Int) == 0) = false := by simp; omega
  have hf2 : ((K : Int) != 0) = true := by simp; omega
  rw [hlq, hld]
  clear hQ hR hI hl ec es ek hc1 hK hfb hlq hld
  go_enter Tryz.func66, Tryz.ntmps66
  go_wp2_with fail
  refine (VD.out _ HB0.out).mono ?_
  rintro e w1 ⟨rfl, hb⟩
  have HB := hide (HB0.out.trans (hb.mono HB0.out.size))
  have HZ := hide (HZ0.out.below hb HZ0.out.lt)
  clear HB0 HZ0 VD hb
  obtain ⟨z0, z1, zf0, zf1, HZf, HFf⟩ := elm_two HZ.out HB.out (Nat.le_refl _) (.slice none 0 0) (.bool false)
  go_wp2_with fail
  refine bodyPost_ret (results_desc rfl _ _ w.heap.size _ _ rfl HZf.out) rfl ?_
  exact Elm.res_bad HN.out HFf.out
 case pos =>
 rw [hfb, if_neg (by simp)] at hc1
 rw [hfb] at VD
 obtain ⟨d, rfl⟩ := List.length_eq_one_iff.1 hld
 have hId := hI d (by simp)
 obtain ⟨ad, rfl, hadl, hcs⟩ := hR (by simp [Dsc.vals])
 have HC : Hid (∀ W, Below w.heap.size w W → W.cell? ad = some (.slice d.P d.zs.length d.cap) ∧ W.cell? ⟨ad.block, ad.off + 1, none⟩ = some (.bool d.u) ∧ ad.block < W.heap.size) := hide fun W hb => by
  have c0 := hcs 0 _ rfl
  have c1 := hcs 1 _ rfl
  rw [Addr.add_zero'] at c0
  simp only [Addr.add, Nat.reduceEqDiff, if_false] at c1
  exact ⟨(hb.cell hadl).trans c0, (hb.cell (p := ⟨ad.block, ad.off + 1, none⟩) hadl).trans c1, Nat.lt_of_lt_of_le hadl hb.size⟩
 have VR := hide (fun W (hb : Below w.heap.size w W) => rdesc_c d.zs d.P d.cap d.u W (hId.shp.below hb) hId.ls)
 have hsh : Elm.shape 11 qs [d] = if Elm.code 11 qs [d] = 0 then d.zs else [] := rfl
 have hki : Elm.kind 11 qs [d] = if Elm.code 11 qs [d] = 0 then Elm.wide 11 d.u else false := rfl
 have hc2 : Elm.code 11 qs [d] = if Elm.alike 11 [d] = false then 101 else if Elm.may 11 d.u qs = false then 102 else 0 := hc1
 clear hcs hR hI hc1 hfb hl hadl
 obtain ⟨dP, dz, dc, du⟩ := d
 dsimp only at HC VR hsh hki hc2
 have HSH := hide hsh
 have HKI := hide hki
 have HC2 := hide hc2
 clear hsh hki hc2
 have VD' : Hid (∀ W, Below w.heap.size w W → Calls Tryz.prog 49 #[.slice (some ad) 1 cap] W fun e w' => e = .returned (.int .i64 0) ∧ Below W.heap.size W w') := VD
 clear VD hId
 obtain ⟨a, rfl⟩ := list_one hlq
 obtain ⟨qa, rfl, hqa, p0⟩ := ri_one hQ
 have HA : Hid (∀ W, Below w.heap.size w W → qa.block < W.heap.size ∧ W.cell? qa = some (.int .i64 a)) := hide fun W hb => ⟨Nat.lt_of_lt_of_le hqa hb.size, (hb.cell hqa).trans p0⟩
 clear hqa p0 hQ
 cases du
 ·have H1 := hide (fun W => rnarrow_c a W)
  obtain ⟨x, hx⟩ : ∃ x, Hid (Tens.fit false a = x) := ⟨_, hide rfl⟩
  rw [hx.out] at H1
  cases x
  ·have hk : Elm.code 11 [a] [⟨dP, dz, dc, false⟩] = 102 := by
    rw [HC2.out]
    show (if Tens.fit false a = false then 102 else 0) = 102
    rw [hx.out]
    rfl
   rw [HSH.out, HKI.out, hk, if_neg (by decide), if_neg (by decide)]
   clear HSH HKI HC2 hk
   show Calls Tryz.prog 66 #[.int .i64 11, .slice (some qa) 1 qcap, .slice (some ad) 1 cap] w _
   clear hlq hld
   clear hx
   go_enter Tryz.func66, Tryz.ntmps66
   go_wp2_with fail
   refine (VD'.out _ HB0.out).mono ?_
   rintro e w1 ⟨rfl, hb⟩
   have HB := hide (HB0.out.trans (hb.mono HB0.out.size))
   have HZ := hide (HZ0.out.below hb HZ0.out.lt)
   clear HB0 HZ0 VD' hb
   obtain ⟨c0, c1, hadl⟩ := HC.out w1 HB.out
   have HX := hide (Has.new w1 24 [.slice dP dz.length dc, .bool false])
   have HZ1 := hide (HZ.out.alloc (.cells #[.slice dP dz.length dc, .bool false] 24))
   have HB1 := hide (HB.out.alloc HB.out.size (.cells #[.slice dP dz.length dc, .bool false] 24))
   clear HB HZ
   go_wp2_with fail
   go_quiet (fail)
   have HX := hide (HX.out.drewN nq)
   have HZ1 := hide (HZ1.out.drewN nq)
   have HB1 := hide (below_drewN HB1.out nq)
   clear c0 c1 hadl
   generalize (w1.alloc (.cells #[.slice dP dz.length dc, .bool false] 24)).drewN nq = w2 at *
   have x0 := HX.out.cell 0
   have x1 := HX.out.cell 1
   go_wp2_with fail
   refine (VR.out _ HB1.out).mono ?_
   rintro e w3 ⟨⟨g, c, rest, rfl, hg, hG⟩, hb⟩
   have hB3 := HB1.out.trans (hb.mono HB1.out.size)
   have hZ3 := HZ1.out.below hb HZ1.out.lt
   have hX3 := HX.out.below hb HX.out.lt
   have hzl := HZ1.out.lt
   have hgl := hG.lt
   have hz3l := hZ3.lt
   have fin : ∀ v : Bool, w3.cell? ⟨w.heap.size, 0, none⟩ = some (.slice none 0 0) ∧ w3.cell? ⟨w.heap.size, 1, none⟩ = some (.bool false) ∧ w3.frozen? ⟨w.heap.size, 0, none⟩ = false ∧ w3.frozen? ⟨w.heap.size, 1, none⟩ = false ∧
     Hid (Has (((w3.setCell ⟨w.heap.size, 0, none⟩ (.slice (some ⟨g, 0, none⟩) dz.length c)).setCell ⟨w.heap.size, 1, none⟩ (.bool v)).alloc (.cells #[.slice (some ⟨g, 0, none⟩) dz.length c, .bool v] 24)) w.heap.size 24 [.slice (some ⟨g, 0, none⟩) dz.length c, .bool v]) ∧
     Hid (Has (((w3.setCell ⟨w.heap.size, 0, none⟩ (.slice (some ⟨g, 0, none⟩) dz.length c)).setCell ⟨w.heap.size, 1, none⟩ (.bool v)).alloc (.cells #[.slice (some ⟨g, 0, none⟩) dz.length c, .bool v] 24)) g 3 (i64s dz ++ rest)) ∧
     Hid (Below w.heap.size w (((w3.setCell ⟨w.heap.size, 0, none⟩ (.slice (some ⟨g, 0, none⟩) dz.length c)).setCell ⟨w.heap.size, 1, none⟩ (.bool v)).alloc (.cells #[.slice (some ⟨g, 0, none⟩) dz.length c, .bool v] 24))) := fun v =>
    ⟨hZ3.cell 0, hZ3.cell 1, hZ3.frozen 0, hZ3.frozen 1, ((hZ3.set_ 0 (.slice (some ⟨g, 0, none⟩) dz.length c)).set_ 1 (.bool v)).alloc _,
     ((hG.far (p := ⟨w.heap.size, 0, none⟩) (by simp; omega) (.slice (some ⟨g, 0, none⟩) dz.length c)).far (p := ⟨w.heap.size, 1, none⟩) (by simp; omega) (.bool v)).alloc _,
     ((hB3.setCell (p := ⟨w.heap.size, 0, none⟩) (Nat.le_refl _) (.slice (some ⟨g, 0, none⟩) dz.length c)).setCell (p := ⟨w.heap.size, 1, none⟩) (Nat.le_refl _) (.bool v)).alloc (by simp; exact hB3.size) _⟩
   have hgs : w.heap.size < g := by omega
   have hgw : w.heap.size ≤ g := Nat.le_of_lt hgs
   clear x0 x1
   obtain ⟨hqa, p0⟩ := HA.out w3 hB3
   obtain ⟨z0, z1, zf0, zf1, HZg, HFg⟩ := elm_two hZ3 hB3 (Nat.le_refl _) (.slice none 0 0) (.bool false)
   have HZf := hide (HZg.out.alloc (.cells #[.slice (some ⟨g, 0, none⟩) dz.length c, .bool false] 24))
   have HFf := hide (HFg.out.alloc HFg.out.size (.cells #[.slice (some ⟨g, 0, none⟩) dz.length c, .bool false] 24))
   clear fin hZ3 hX3 hB3 hG HX HZ1 HB1 hg hb VR HC HZg HFg
   go_wp2_with fail
   refine (H1.out _).mono ?_
   rintro e w4 ⟨rfl, rfl⟩
   go_wp2_with fail
   refine bodyPost_ret (results_desc rfl _ _ w.heap.size _ _ rfl HZf.out) rfl ?_
   exact Elm.res_bad (by decide) HFf.out
  ·have hk : Elm.code 11 [a] [⟨dP, dz, dc, false⟩] = 0 := by
    rw [HC2.out]
    show (if Tens.fit false a = false then 102 else 0) = 0
    rw [hx.out]
    rfl
   rw [HSH.out, HKI.out, hk, if_pos rfl, if_pos rfl]
   clear HSH HKI HC2 hk
   rw [show Elm.wide 11 false = true from rfl]
   show Calls Tryz.prog 66 #[.int .i64 11, .slice (some qa) 1 qcap, .slice (some ad) 1 cap] w _
   clear hlq hld
   clear hx
   go_enter Tryz.func66, Tryz.ntmps66
   go_wp2_with fail
   refine (VD'.out _ HB0.out).mono ?_
   rintro e w1 ⟨rfl, hb⟩
   have HB := hide (HB0.out.trans (hb.mono HB0.out.size))
   have HZ := hide (HZ0.out.below hb HZ0.out.lt)
   clear HB0 HZ0 VD' hb
   obtain ⟨c0, c1, hadl⟩ := HC.out w1 HB.out
   have HX := hide (Has.new w1 24 [.slice dP dz.length dc, .bool false])
   have HZ1 := hide (HZ.out.alloc (.cells #[.slice dP dz.length dc, .bool false] 24))
   have HB1 := hide (HB.out.alloc HB.out.size (.cells #[.slice dP dz.length dc, .bool false] 24))
   clear HB HZ
   go_wp2_with fail
   go_quiet (fail)
   have HX := hide (HX.out.drewN nq)
   have HZ1 := hide (HZ1.out.drewN nq)
   have HB1 := hide (below_drewN HB1.out nq)
   clear c0 c1 hadl
   generalize (w1.alloc (.cells #[.slice dP dz.length dc, .bool false] 24)).drewN nq = w2 at *
   have x0 := HX.out.cell 0
   have x1 := HX.out.cell 1
   go_wp2_with fail
   refine (VR.out _ HB1.out).mono ?_
   rintro e w3 ⟨⟨g, c, rest, rfl, hg, hG⟩, hb⟩
   have hB3 := HB1.out.trans (hb.mono HB1.out.size)
   have hZ3 := HZ1.out.below hb HZ1.out.lt
   have hX3 := HX.out.below hb HX.out.lt
   have hzl := HZ1.out.lt
   have hgl := hG.lt
   have hz3l := hZ3.lt
   have fin : ∀ v : Bool, w3.cell? ⟨w.heap.size, 0, none⟩ = some (.slice none 0 0) ∧ w3.cell? ⟨w.heap.size, 1, none⟩ = some (.bool false) ∧ w3.frozen? ⟨w.heap.size, 0, none⟩ = false ∧ w3.frozen? ⟨w.heap.size, 1, none⟩ = false ∧
     Hid (Has (((w3.setCell ⟨w.heap.size, 0, none⟩ (.slice (some ⟨g, 0, none⟩) dz.length c)).setCell ⟨w.heap.size, 1, none⟩ (.bool v)).alloc (.cells #[.slice (some ⟨g, 0, none⟩) dz.length c, .bool v] 24)) w.heap.size 24 [.slice (some ⟨g, 0, none⟩) dz.length c, .bool v]) ∧
     Hid (Has (((w3.setCell ⟨w.heap.size, 0, none⟩ (.slice (some ⟨g, 0, none⟩) dz.length c)).setCell ⟨w.heap.size, 1, none⟩ (.bool v)).alloc (.cells #[.slice (some ⟨g, 0, none⟩) dz.length c, .bool v] 24)) g 3 (i64s dz ++ rest)) ∧
     Hid (Below w.heap.size w (((w3.setCell ⟨w.heap.size, 0, none⟩ (.slice (some ⟨g, 0, none⟩) dz.length c)).setCell ⟨w.heap.size, 1, none⟩ (.bool v)).alloc (.cells #[.slice (some ⟨g, 0, none⟩) dz.length c, .bool v] 24))) := fun v =>
    ⟨hZ3.cell 0, hZ3.cell 1, hZ3.frozen 0, hZ3.frozen 1, ((hZ3.set_ 0 (.slice (some ⟨g, 0, none⟩) dz.length c)).set_ 1 (.bool v)).alloc _,
     ((hG.far (p := ⟨w.heap.size, 0, none⟩) (by simp; omega) (.slice (some ⟨g, 0, none⟩) dz.length c)).far (p := ⟨w.heap.size, 1, none⟩) (by simp; omega) (.bool v)).alloc _,
     ((hB3.setCell (p := ⟨w.heap.size, 0, none⟩) (Nat.le_refl _) (.slice (some ⟨g, 0, none⟩) dz.length c)).setCell (p := ⟨w.heap.size, 1, none⟩) (Nat.le_refl _) (.bool v)).alloc (by simp; exact hB3.size) _⟩
   have hgs : w.heap.size < g := by omega
   have hgw : w.heap.size ≤ g := Nat.le_of_lt hgs
   clear x0 x1
   obtain ⟨hqa, p0⟩ := HA.out w3 hB3
   obtain ⟨z0, z1, zf0, zf1, HZf, HGf, HFf⟩ := fin true
   clear fin hZ3 hX3 hB3 hG HX HZ1 HB1 hg hb VR HC
   go_wp2_with fail
   refine (H1.out _).mono ?_
   rintro e w4 ⟨rfl, rfl⟩
   go_wp2_with fail
   refine bodyPost_ret (results_desc rfl _ _ w.heap.size _ _ rfl HZf.out) rfl ?_
   exact ⟨⟨_, c, rfl, fun _ => ⟨g, rest, rfl, hgw, HGf.out⟩⟩, HFf.out⟩
 ·have hk : Elm.code 11 [a] [⟨dP, dz, dc, true⟩] = 101 := by rw [HC2.out]; rfl
  rw [HSH.out, HKI.out, hk, if_neg (by decide), if_neg (by decide)]
  clear HSH HKI HC2 hk
  show Calls Tryz.prog 66 #[.int .i64 11, .slice (some qa) 1 qcap, .slice (some ad) 1 cap] w _
  clear hlq hld
  go_enter Tryz.func66, Tryz.ntmps66
  go_wp2_with fail
  refine (VD'.out _ HB0.out).mono ?_
  rintro e w1 ⟨rfl, hb⟩
  have HB := hide (HB0.out.trans (hb.mono HB0.out.size))
  have HZ := hide (HZ0.out.below hb HZ0.out.lt)
  clear HB0 HZ0 VD' hb
  obtain ⟨c0, c1, hadl⟩ := HC.out w1 HB.out
  have HX := hide (Has.new w1 24 [.slice dP dz.length dc, .bool true])
  have HZ1 := hide (HZ.out.alloc (.cells #[.slice dP dz.length dc, .bool true] 24))
  have HB1 := hide (HB.out.alloc HB.out.size (.cells #[.slice dP dz.length dc, .bool true] 24))
  clear HB HZ
  go_wp2_with fail
  go_quiet (fail)
  have HX := hide (HX.out.drewN nq)
  have HZ1 := hide (HZ1.out.drewN nq)
  have HB1 := hide (below_drewN HB1.out nq)
  clear c0 c1 hadl
  generalize (w1.alloc (.cells #[.slice dP dz.length dc, .bool true] 24)).drewN nq = w2 at *
  obtain ⟨z0, z1, zf0, zf1, HZf, HFf⟩ := elm_two HZ1.out HB1.out (Nat.le_refl _) (.slice none 0 0) (.bool false)
  go_wp2_with fail
  refine bodyPost_ret (results_desc rfl _ _ w.heap.size _ _ rfl HZf.out) rfl ?_
  exact Elm.res_bad (by decide) HFf.out
set_option maxRecDepth 100000 in
set_option maxHeartbeats 40000000 in
theorem rresult_two (op : Int) (h4 : op = 4 ∨ op = 5 ∨ op = 6 ∨ op = 7) (qs : List Int) (ds : List Dsc) (A B : Option Addr) (qcap cap : Nat) (w : World) (hR : Row w B (ds.flatMap Dsc.vals)) (hI : ∀ d ∈ ds, d.In w) (hl : ds.length ≤ 1000000) :
  Calls Tryz.prog 66 #[.int .i64 op, .slice A qs.length qcap, .slice B ds.length cap] w (Elm.Res w (Elm.shape op qs ds) (Elm.kind op qs ds) (Elm.code op qs ds)) := by
 have HZ0 := hide (Has.new w 24 [.slice none 0 0, .bool false])
 have HB0 := hide ((Below.refl w.heap.size w).alloc (Nat.le_refl _) (.cells #[.slice none 0 0, .bool false] 24))
 by_cases hlen : qs.length = 0 ∧ ds.length = 2
 case neg =>
  have ec : Elm.code op qs ds = 101 := by
   rcases h4 with rfl | rfl | rfl | rfl
   all_goals
   unfold Elm.code
   rw [if_neg (by decide), if_pos (by
    show ds.length ≠ 2 ∨ qs.length ≠ 0
    by_cases h : qs.length = 0
    ·exact .inl fun h2 => hlen ⟨h, h2⟩
    ·exact .inr h)]
  obtain ⟨es, ek⟩ := Elm.bad_shape (op := op) (qs := qs) (ds := ds) (by rw [ec]; decide)
  rw [ec, es, ek]
  clear hR hI hl ec es ek
  obtain ⟨nq, hnq⟩ : ∃ n, qs.length = n := ⟨_, rfl⟩
  obtain ⟨nd, hnd⟩ : ∃ n, ds.length = n := ⟨_, rfl⟩
  rw [hnq, hnd] at hlen
  rw [hnq, hnd]
  clear hnq hnd
  by_cases hq : nq = 0
  ·subst hq
   have hd1 : ((nd : Int) == 2) = false := by simp; omega
   have hd2 : ((nd : Int) != 2) = true := by simp; omega
   clear hlen
   rcases h4 with rfl | rfl | rfl | rfl
   all_goals
   go_enter Tryz.func66, Tryz.ntmps66
   go_wp2_with fail
   refine bodyPost_ret (results_desc rfl _ _ w.heap.size _ _ rfl HZ0.out) rfl ?_
   exact Elm.res_bad (by decide) HB0.out
  ·have hd1 : ((nq : Int) == 0) = false := by simp; omega
   have hd2 : ((nq : Int) != 0) = true := by simp; omega
   clear hlen hq
   rcases h4 with rfl | rfl | rfl | rfl
   all_goals
   go_enter Tryz.func66, Tryz.ntmps66
   go_wp2_with fail
   refine bodyPost_ret (results_desc rfl _ _ w.heap.size _ _ rfl HZ0.out) rfl ?_
   exact Elm.res_bad (by decide) HB0.out
 case pos =>
 obtain ⟨hlq, hld⟩ := hlen
 have hc1 : Elm.code op qs ds = if Shp.firstbad ds ≠ 0 then Shp.firstbad ds else if Elm.alike op ds = false then 101 else if Elm.may op ((ds.head?.map (·.u)).getD false) qs = false then 102 else 0 := by
  rcases h4 with rfl | rfl | rfl | rfl
  all_goals
  unfold Elm.code
  rw [if_neg (by decide), if_neg (by
   intro h
   rcases h with h | h
   ·exact h hld
   ·exact h hlq)]
 have VD := hide (fun W (hb : Below w.heap.size w W) => descs_c ds B cap W (hR.below hb) (fun d hd => (hI d hd).below hb) hl)
 by_cases hfb : Shp.firstbad ds = 0
 case neg =>
  have ec : Elm.code op qs ds = Shp.firstbad ds := by rw [hc1, if_pos hfb]
  obtain ⟨es, ek⟩ := Elm.bad_shape (op := op) (qs := qs) (ds := ds) (by rw [ec]; exact hfb)
  rw [ec, es, ek]
  obtain ⟨K, hK⟩ : ∃ K, Hid (Shp.firstbad ds = K) := ⟨_, hide rfl⟩
  rw [hK.out] at VD hfb ⊢
  rw [hld] at VD
  have HN := hide hfb
  have hf1 : ((K : Int) == 0) = false := by simp; omega
  have hf2 : ((K : Int) != 0) = true := by simp; omega
  rw [hlq, hld]
  clear hR hI hl ec es ek hc1 hK hfb hlq hld
  rcases h4 with rfl | rfl | rfl | rfl
  all_goals
  go_enter Tryz.func66, Tryz.ntmps66
  go_wp2_with fail
  refine (VD.out _ HB0.out).mono ?_
  rintro e w1 ⟨rfl, hb⟩
  have HB := hide (HB0.out.trans (hb.mono HB0.out.size))
  have HZ := hide (HZ0.out.below hb HZ0.out.lt)
  clear HB0 HZ0 VD hb
  obtain ⟨z0, z1, zf0, zf1, HZf, HFf⟩ := elm_two HZ.out HB.out (Nat.le_refl _) (.slice none 0 0) (.bool false)
  go_wp2_with fail
  refine bodyPost_ret (results_desc rfl _ _ w.heap.size _ _ rfl HZf.out) rfl ?_
  exact Elm.res_bad HN.out HFf.out
 case pos =>
 rw [hfb, if_neg (by simp)] at hc1
 rw [hfb] at VD
 obtain ⟨d, f, rfl⟩ : ∃ d f, ds = [d, f] := by
  obtain ⟨d, l, rfl⟩ := List.exists_cons_of_length_eq_add_one hld
  obtain ⟨f, rfl⟩ := List.length_eq_one_iff.1 (by simpa using hld)
  exact ⟨d, f, rfl⟩
 have hId := hI d (by simp)
 have hIf := hI f (by simp)
 obtain ⟨ad, rfl, hadl, hcs⟩ := hR (by simp [Dsc.vals])
 have HC : Hid (∀ W, Below w.heap.size w W → W.cell? ad = some (.slice d.P d.zs.length d.cap) ∧ W.cell? ⟨ad.block, ad.off + 1, none⟩ = some (.bool d.u) ∧ W.cell? ⟨ad.block, ad.off + 2, none⟩ = some (.slice f.P f.zs.length f.cap) ∧ W.cell? ⟨ad.block, ad.off + 3, none⟩ = some (.bool f.u) ∧ ad.block < W.heap.size) := hide fun W hb => by
  have c0 := hcs 0 _ rfl
  have c1 := hcs 1 _ rfl
  have c2 := hcs 2 _ rfl
  have c3 := hcs 3 _ rfl
  rw [Addr.add_zero'] at c0
  simp only [Addr.add, Nat.reduceEqDiff, if_false] at c1 c2 c3
  exact ⟨(hb.cell hadl).trans c0, (hb.cell (p := ⟨ad.block, ad.off + 1, none⟩) hadl).trans c1, (hb.cell (p := ⟨ad.block, ad.off + 2, none⟩) hadl).trans c2, (hb.cell (p := ⟨ad.block, ad.off + 3, none⟩) hadl).trans c3, Nat.lt_of_lt_of_le hadl hb.size⟩
 have VR := hide (fun W (hb : Below w.heap.size w W) => rdesc_c d.zs d.P d.cap d.u W (hId.shp.below hb) hId.ls)
 have VS := hide (fun W (hb : Below w.heap.size w W) => samedesc_c d.zs f.zs d.P f.P d.cap f.cap d.u f.u W (hId.shp.below hb) (hIf.shp.below hb) hId.ls hIf.ls)
 have hsh : Elm.shape op qs [d, f] = if Elm.code op qs [d, f] = 0 then d.zs else [] := rfl
 have hki : Elm.kind op qs [d, f] = if Elm.code op qs [d, f] = 0 then Elm.wide op d.u else false := rfl
 have hc2 : Elm.code op qs [d, f] = if (decide (d.zs = f.zs) && (d.u == f.u)) = false then 101 else if Elm.may op d.u qs = false then 102 else 0 := by rcases h4 with rfl | rfl | rfl | rfl <;> exact hc1
 clear hcs hR hI hc1 hfb hl hadl
 obtain ⟨al, hal⟩ : ∃ al, Hid ((decide (d.zs = f.zs) && (d.u == f.u)) = al) := ⟨_, hide rfl⟩
 rw [hal.out] at hc2 VS
 obtain ⟨dP, dz, dc, du⟩ := d
 obtain ⟨fP, fz, fc, fu⟩ := f
 dsimp only at HC VR VS hsh hki hc2
 have HSH := hide hsh
 have HKI := hide hki
 have HC2 := hide hc2
 clear hsh hki hc2 hal
 have VD' : Hid (∀ W, Below w.heap.size w W → Calls Tryz.prog 49 #[.slice (some ad) 2 cap] W fun e w' => e = .returned (.int .i64 0) ∧ Below W.heap.size W w') := VD
 clear VD hId hIf
 cases al
 ·have hk : Elm.code op qs [⟨dP, dz, dc, du⟩, ⟨fP, fz, fc, fu⟩] = 101 := by rw [HC2.out]; rfl
  rw [HSH.out, HKI.out, hk, if_neg (by decide), if_neg (by decide)]
  clear HSH HKI HC2 hk
  show Calls Tryz.prog 66 #[.int .i64 op, .slice A qs.length qcap, .slice (some ad) 2 cap] w _
  rw [hlq]
  clear hlq hld
  rcases h4 with rfl | rfl | rfl | rfl
  all_goals
  go_enter Tryz.func66, Tryz.ntmps66
  go_wp2_with fail
  refine (VD'.out _ HB0.out).mono ?_
  rintro e w1 ⟨rfl, hb⟩
  have HB := hide (HB0.out.trans (hb.mono HB0.out.size))
  have HZ := hide (HZ0.out.below hb HZ0.out.lt)
  clear HB0 HZ0 VD' hb
  obtain ⟨c0, c1, c2, c3, hadl⟩ := HC.out w1 HB.out
  have HX := hide (Has.new w1 24 [.slice dP dz.length dc, .bool du])
  have HZ1 := hide (HZ.out.alloc (.cells #[.slice dP dz.length dc, .bool du] 24))
  have HB1 := hide (HB.out.alloc HB.out.size (.cells #[.slice dP dz.length dc, .bool du] 24))
  clear HB HZ
  go_wp2_with fail
  obtain ⟨hS0⟩ : Nonempty (RsS w w1.heap.size ad (.slice dP dz.length dc) (.bool du) (.slice fP fz.length fc) (.bool fu) (w1.alloc (.cells #[.slice dP dz.length dc, .bool du] 24)).drew) := ⟨⟨HX.out.cell 0, HX.out.cell 1, (((Below.refl w1.heap.size w1).alloc (Nat.le_refl _) (.cells #[.slice dP dz.length dc, .bool du] 24)).cell (p := ⟨ad.block, ad.off + 2, none⟩) hadl).trans c2, (((Below.refl w1.heap.size w1).alloc (Nat.le_refl _) (.cells #[.slice dP dz.length dc, .bool du] 24)).cell (p := ⟨ad.block, ad.off + 3, none⟩) hadl).trans c3, HX.out.lt, by simp [World.drew]; omega, hide (HZ1.out.drewN 1), hide (HX.out.drewN 1), hide HB1.out.drew⟩⟩
  clear c0 c1 c2 c3 hadl HX HZ1 HB1
  refine wp_region_held_drew (S := RsS w w1.heap.size ad (.slice dP dz.length dc) (.bool du) (.slice fP fz.length fc) (.bool fu)) (by kernel_rfl) hS0 (fun hH0 => ?_)
  clear hS0
  generalize World.drew _ = wd at *
  refine wpAnyH_take (i := 0) (oi := { dst := some 75, op := Op.move (Operand.tmp 8), type := 4, pos := "ops.go:58", after := #[], guard := none }) (v := ?_) rfl (by kernel_rfl) (by kernel_rfl) (by kernel_rfl) (fun _ _ _ h => h) (Or.inl ⟨by rfl, ?_⟩) (by assumption) ?_
  rotate_left
  ·intro w hSw
   (try dsimp only at hSw)
   go_simp
   all_goals with_reducible rfl
  (try simp only [Act.put, List.setIfInBounds_toArray, List.set_cons_zero, List.set_cons_succ])
  refine wpAnyH_take (i := 1) (oi := { dst := some 76, op := Op.move (Operand.tmp 75), type := 4, pos := "ops.go:58", after := #[{ on := 0, ground := Ground.data }], guard := none }) (v := ?_) rfl (by kernel_rfl) (by kernel_rfl) (by kernel_rfl) (fun _ _ _ h => h) (Or.inl ⟨by rfl, ?_⟩) (by assumption) ?_
  rotate_left
  ·intro w hSw
   (try dsimp only at hSw)
   go_simp
   all_goals with_reducible rfl
  (try simp only [Act.put, List.setIfInBounds_toArray, List.set_cons_zero, List.set_cons_succ])
  refine wpAnyH_take (i := 2) (oi := { dst := some 77, op := Op.load 24 (Operand.tmp 12), type := 24, pos := "ops.go:58", after := #[{ on := 1, ground := Ground.guard }], guard := some (1, true) }) (v := ?_) rfl (by kernel_rfl) (by kernel_rfl) (by kernel_rfl) (fun _ _ _ h => h) (Or.inl ⟨by rfl, ?_⟩) (by assumption) ?_
  rotate_left
  ·intro w hSw
   (try dsimp only at hSw)
   go_simp
   all_goals with_reducible rfl
  (try simp only [Act.put, List.setIfInBounds_toArray, List.set_cons_zero, List.set_cons_succ])
  refine wpAnyH_take (i := 3) (oi := { dst := some 78, op := Op.move (Operand.tmp 2), type := 45, pos := "ops.go:58", after := #[{ on := 1, ground := Ground.guard }], guard := some (1, true) }) (v := ?_) rfl (by kernel_rfl) (by kernel_rfl) (by kernel_rfl) (fun _ _ _ h => h) (Or.inl ⟨by rfl, ?_⟩) (by assumption) ?_
  rotate_left
  ·intro w hSw
   (try dsimp only at hSw)
   go_simp
   all_goals with_reducible rfl
  (try simp only [Act.put, List.setIfInBounds_toArray, List.set_cons_zero, List.set_cons_succ])
  refine wpAnyH_take (i := 4) (oi := { dst := some 79, op := Op.indexAddr 45 (Operand.tmp 78) (Operand.const (Value.int IntKind.i64 1)), type := 0, pos := "ops.go:58", after := #[{ on := 3, ground := Ground.data }, { on := 1, ground := Ground.guard }], guard := some (1, true) }) (v := ?_) rfl (by kernel_rfl) (by kernel_rfl) (by kernel_rfl) (fun _ _ _ h => h) (Or.inl ⟨by rfl, ?_⟩) (by assumption) ?_
  rotate_left
  ·intro w hSw
   (try dsimp only at hSw)
   go_simp
   all_goals with_reducible rfl
  (try simp only [Act.put, List.setIfInBounds_toArray, List.set_cons_zero, List.set_cons_succ])
  refine wpAnyH_take (i := 5) (oi := { dst := some 80, op := Op.load 24 (Operand.tmp 79), type := 24, pos := "ops.go:58", after := #[{ on := 4, ground := Ground.data }, { on := 1, ground := Ground.guard }], guard := some (1, true) }) (v := ?_) rfl (by kernel_rfl) (by kernel_rfl) (by kernel_rfl) (fun _ _ _ h => h) (Or.inl ⟨by rfl, ?_⟩) (by assumption) ?_
  rotate_left
  ·intro w hSw
   (try dsimp only at hSw)
   go_simp
   all_goals with_reducible rfl
  (try simp only [Act.put, List.setIfInBounds_toArray, List.set_cons_zero, List.set_cons_succ])
  refine wpAnyH_ready (rs := [6]) (by kernel_rfl) (by simp) ?_
  refine AllReadyH.cons (o := { dst := some 81, op := Op.call { callee := Callee.value (Operand.func 17), args := #[Operand.tmp 77, Operand.tmp 80], argTypes := #[24, 24] }, type := 4, pos := "ops.go:58", after := #[{ on := 2, ground := Ground.data }, { on := 5, ground := Ground.data }, { on := 1, ground := Ground.chain }, { on := 1, ground := Ground.guard }], guard := some (1, true) }) rfl (fun K hK => ?_) AllReadyH.nil
  go_simp
  refine (VS.out _ hH0.2.2.2.2.2.2.2.2.out).mono ?_
  rintro e W6 ⟨rfl, hb⟩
  go_wp2_with fail
  refine hK.out _ _ ?_ (fun hH1 => ?_)
  ·exact RsS.keep (by assumption) hb
  clear hK K hb hH0
  (try simp only [Act.put, List.setIfInBounds_toArray, List.set_cons_zero, List.set_cons_succ])
  refine wpAnyH_take (i := 7) (oi := { dst := some 82, op := Op.unOp UnOp.not 4 (Operand.tmp 81), type := 4, pos := "ops.go:58", after := #[{ on := 6, ground := Ground.data }, { on := 1, ground := Ground.guard }], guard := some (1, true) }) (v := ?_) rfl (by kernel_rfl) (by kernel_rfl) (by kernel_rfl) (fun _ _ _ h => h) (Or.inl ⟨by rfl, ?_⟩) (by assumption) ?_
  rotate_left
  ·intro w hSw
   (try dsimp only at hSw)
   go_simp
   all_goals with_reducible rfl
  (try simp only [Act.put, List.setIfInBounds_toArray, List.set_cons_zero, List.set_cons_succ])
  refine wpAnyH_take (i := 8) (oi := { dst := some 83, op := Op.pick (Operand.tmp 76) (Operand.tmp 82) (Operand.const (Value.bool false)), type := 4, pos := "ops.go:58", after := #[{ on := 1, ground := Ground.data }, { on := 7, ground := Ground.data }], guard := none }) (v := ?_) rfl (by kernel_rfl) (by kernel_rfl) (by kernel_rfl) (fun _ _ _ h => h) (Or.inl ⟨by rfl, ?_⟩) (by assumption) ?_
  rotate_left
  ·intro w hSw
   (try dsimp only at hSw)
   go_simp
   all_goals with_reducible rfl
  (try simp only [Act.put, List.setIfInBounds_toArray, List.set_cons_zero, List.set_cons_succ])
  refine wpAnyH_take (i := 9) (oi := { dst := some 84, op := Op.move (Operand.tmp 83), type := 4, pos := "ops.go:58", after := #[{ on := 8, ground := Ground.data }, { on := 6, ground := Ground.chain }], guard := none }) (v := ?_) rfl (by kernel_rfl) (by kernel_rfl) (by kernel_rfl) (fun _ _ _ h => h) (Or.inl ⟨by rfl, ?_⟩) (by assumption) ?_
  rotate_left
  ·intro w hSw
   (try dsimp only at hSw)
   go_simp
   all_goals with_reducible rfl
  (try simp only [Act.put, List.setIfInBounds_toArray, List.set_cons_zero, List.set_cons_succ])
  refine wpAnyH_take (i := 10) (oi := { dst := some 85, op := Op.move (Operand.tmp 0), type := 3, pos := "ops.go:58", after := #[{ on := 9, ground := Ground.guard }], guard := some (9, false) }) (v := undef) rfl (by kernel_rfl) (by kernel_rfl) (by kernel_rfl) (fun _ _ _ h => h) (Or.inr ⟨by rfl, rfl⟩) (by assumption) ?_
  (try simp only [Act.put, List.setIfInBounds_toArray, List.set_cons_zero, List.set_cons_succ])
  refine wpAnyH_take (i := 11) (oi := { dst := some 86, op := Op.binOp BinOp.eql 3 (Operand.tmp 85) (Operand.const (Value.int IntKind.i64 10)) 3, type := 4, pos := "ops.go:58", after := #[{ on := 10, ground := Ground.data }, { on := 9, ground := Ground.guard }], guard := some (9, false) }) (v := undef) rfl (by kernel_rfl) (by kernel_rfl) (by kernel_rfl) (fun _ _ _ h => h) (Or.inr ⟨by rfl, rfl⟩) (by assumption) ?_
  (try simp only [Act.put, List.setIfInBounds_toArray, List.set_cons_zero, List.set_cons_succ])
  refine wpAnyH_take (i := 12) (oi := { dst := some 87, op := Op.move (Operand.tmp 86), type := 4, pos := "ops.go:58", after := #[{ on := 11, ground := Ground.data }, { on := 9, ground := Ground.chain }, { on := 9, ground := Ground.guard }], guard := some (9, false) }) (v := undef) rfl (by kernel_rfl) (by kernel_rfl) (by kernel_rfl) (fun _ _ _ h => h) (Or.inr ⟨by rfl, rfl⟩) (by assumption) ?_
  (try simp only [Act.put, List.setIfInBounds_toArray, List.set_cons_zero, List.set_cons_succ])
  refine wpAnyH_take (i := 13) (oi := { dst := some 88, op := Op.fieldAddr 24 (Operand.tmp 12) 1, type := 0, pos := "ops.go:58", after := #[{ on := 12, ground := Ground.guard }], guard := some (12, true) }) (v := undef) rfl (by kernel_rfl) (by kernel_rfl) (by kernel_rfl) (fun _ _ _ h => h) (Or.inr ⟨by rfl, rfl⟩) (by assumption) ?_
  (try simp only [Act.put, List.setIfInBounds_toArray, List.set_cons_zero, List.set_cons_succ])
  refine wpAnyH_take (i := 14) (oi := { dst := some 89, op := Op.load 4 (Operand.tmp 88), type := 4, pos := "ops.go:58", after := #[{ on := 13, ground := Ground.data }, { on := 12, ground := Ground.guard }], guard := some (12, true) }) (v := undef) rfl (by kernel_rfl) (by kernel_rfl) (by kernel_rfl) (fun _ _ _ h => h) (Or.inr ⟨by rfl, rfl⟩) (by assumption) ?_
  (try simp only [Act.put, List.setIfInBounds_toArray, List.set_cons_zero, List.set_cons_succ])
  refine wpAnyH_take (i := 15) (oi := { dst := some 90, op := Op.unOp UnOp.not 4 (Operand.tmp 89), type := 4, pos := "ops.go:58", after := #[{ on := 14, ground := Ground.data }, { on := 12, ground := Ground.guard }], guard := some (12, true) }) (v := undef) rfl (by kernel_rfl) (by kernel_rfl) (by kernel_rfl) (fun _ _ _ h => h) (Or.inr ⟨by rfl, rfl⟩) (by assumption) ?_
  (try simp only [Act.put, List.setIfInBounds_toArray, List.set_cons_zero, List.set_cons_succ])
  refine wpAnyH_take (i := 16) (oi := { dst := some 91, op := Op.pick (Operand.tmp 87) (Operand.tmp 90) (Operand.const (Value.bool false)), type := 4, pos := "ops.go:58", after := #[{ on := 12, ground := Ground.data }, { on := 15, ground := Ground.data }, { on := 9, ground := Ground.guard }], guard := some (9, false) }) (v := undef) rfl (by kernel_rfl) (by kernel_rfl) (by kernel_rfl) (fun _ _ _ h => h) (Or.inr ⟨by rfl, rfl⟩) (by assumption) ?_
  (try simp only [Act.put, List.setIfInBounds_toArray, List.set_cons_zero, List.set_cons_succ])
  refine wpAnyH_take (i := 17) (oi := { dst := some 92, op := Op.pick (Operand.tmp 84) (Operand.const (Value.bool true)) (Operand.tmp 91), type := 4, pos := "ops.go:58", after := #[{ on := 9, ground := Ground.data }, { on := 16, ground := Ground.data }], guard := none }) (v := ?_) rfl (by kernel_rfl) (by kernel_rfl) (by kernel_rfl) (fun _ _ _ h => h) (Or.inl ⟨by rfl, ?_⟩) (by assumption) ?_
  rotate_left
  ·intro w hSw
   (try dsimp only at hSw)
   go_simp
   all_goals with_reducible rfl
  (try simp only [Act.put, List.setIfInBounds_toArray, List.set_cons_zero, List.set_cons_succ])
  refine wpAnyH_take (i := 18) (oi := { dst := some 93, op := Op.move (Operand.tmp 92), type := 4, pos := "ops.go:58", after := #[{ on := 17, ground := Ground.data }, { on := 12, ground := Ground.chain }], guard := none }) (v := ?_) rfl (by kernel_rfl) (by kernel_rfl) (by kernel_rfl) (fun _ _ _ h => h) (Or.inl ⟨by rfl, ?_⟩) (by assumption) ?_
  rotate_left
  ·intro w hSw
   (try dsimp only at hSw)
   go_simp
   all_goals with_reducible rfl
  (try simp only [Act.put, List.setIfInBounds_toArray, List.set_cons_zero, List.set_cons_succ])
  refine wpAnyH_take (i := 19) (oi := { dst := some 94, op := Op.move (Operand.tmp 0), type := 3, pos := "ops.go:58", after := #[{ on := 18, ground := Ground.guard }], guard := some (18, false) }) (v := undef) rfl (by kernel_rfl) (by kernel_rfl) (by kernel_rfl) (fun _ _ _ h => h) (Or.inr ⟨by rfl, rfl⟩) (by assumption) ?_
  (try simp only [Act.put, List.setIfInBounds_toArray, List.set_cons_zero, List.set_cons_succ])
  refine wpAnyH_take (i := 20) (oi := { dst := some 95, op := Op.binOp BinOp.eql 3 (Operand.tmp 94) (Operand.const (Value.int IntKind.i64 11)) 3, type := 4, pos := "ops.go:58", after := #[{ on := 19, ground := Ground.data }, { on := 18, ground := Ground.guard }], guard := some (18, false) }) (v := undef) rfl (by kernel_rfl) (by kernel_rfl) (by kernel_rfl) (fun _ _ _ h => h) (Or.inr ⟨by rfl, rfl⟩) (by assumption) ?_
  (try simp only [Act.put, List.setIfInBounds_toArray, List.set_cons_zero, List.set_cons_succ])
  refine wpAnyH_take (i := 21) (oi := { dst := some 96, op := Op.move (Operand.tmp 95), type := 4, pos := "ops.go:58", after := #[{ on := 20, ground := Ground.data }, { on := 18, ground := Ground.chain }, { on := 18, ground := Ground.guard }], guard := some (18, false) }) (v := undef) rfl (by kernel_rfl) (by kernel_rfl) (by kernel_rfl) (fun _ _ _ h => h) (Or.inr ⟨by rfl, rfl⟩) (by assumption) ?_
  (try simp only [Act.put, List.setIfInBounds_toArray, List.set_cons_zero, List.set_cons_succ])
  refine wpAnyH_take (i := 22) (oi := { dst := some 97, op := Op.fieldAddr 24 (Operand.tmp 12) 1, type := 0, pos := "ops.go:58", after := #[{ on := 21, ground := Ground.guard }], guard := some (21, true) }) (v := undef) rfl (by kernel_rfl) (by kernel_rfl) (by kernel_rfl) (fun _ _ _ h => h) (Or.inr ⟨by rfl, rfl⟩) (by assumption) ?_
  (try simp only [Act.put, List.setIfInBounds_toArray, List.set_cons_zero, List.set_cons_succ])
  refine wpAnyH_take (i := 23) (oi := { dst := some 98, op := Op.load 4 (Operand.tmp 97), type := 4, pos := "ops.go:58", after := #[{ on := 22, ground := Ground.data }, { on := 21, ground := Ground.guard }], guard := some (21, true) }) (v := undef) rfl (by kernel_rfl) (by kernel_rfl) (by kernel_rfl) (fun _ _ _ h => h) (Or.inr ⟨by rfl, rfl⟩) (by assumption) ?_
  (try simp only [Act.put, List.setIfInBounds_toArray, List.set_cons_zero, List.set_cons_succ])
  refine wpAnyH_take (i := 24) (oi := { dst := some 99, op := Op.pick (Operand.tmp 96) (Operand.tmp 98) (Operand.const (Value.bool false)), type := 4, pos := "ops.go:58", after := #[{ on := 21, ground := Ground.data }, { on := 23, ground := Ground.data }, { on := 18, ground := Ground.guard }], guard := some (18, false) }) (v := undef) rfl (by kernel_rfl) (by kernel_rfl) (by kernel_rfl) (fun _ _ _ h => h) (Or.inr ⟨by rfl, rfl⟩) (by assumption) ?_
  (try simp only [Act.put, List.setIfInBounds_toArray, List.set_cons_zero, List.set_cons_succ])
  refine wpAnyH_take (i := 25) (oi := { dst := some 100, op := Op.pick (Operand.tmp 93) (Operand.const (Value.bool true)) (Operand.tmp 99), type := 4, pos := "ops.go:58", after := #[{ on := 18, ground := Ground.data }, { on := 24, ground := Ground.data }], guard := none }) (v := ?_) rfl (by kernel_rfl) (by kernel_rfl) (by kernel_rfl) (fun _ _ _ h => h) (Or.inl ⟨by rfl, ?_⟩) (by assumption) ?_
  rotate_left
  ·intro w hSw
   (try dsimp only at hSw)
   go_simp
   all_goals with_reducible rfl
  (try simp only [Act.put, List.setIfInBounds_toArray, List.set_cons_zero, List.set_cons_succ])
  refine wpAnyH_done (by kernel_rfl) ?_ _
  have HZ1 := hH1.2.2.2.2.2.2.1
  have HX := hH1.2.2.2.2.2.2.2.1
  have HB1 := hH1.2.2.2.2.2.2.2.2
  clear hH1 VS
  obtain ⟨z0, z1, zf0, zf1, HZf, HFf⟩ := elm_two HZ1.out HB1.out (Nat.le_refl _) (.slice none 0 0) (.bool false)
  go_wp2_with fail
  refine bodyPost_ret (results_desc rfl _ _ w.heap.size _ _ rfl HZf.out) rfl ?_
  exact Elm.res_bad (by decide) HFf.out
 ·have hk : Elm.code op qs [⟨dP, dz, dc, du⟩, ⟨fP, fz, fc, fu⟩] = 0 := by rw [HC2.out]; rcases h4 with rfl | rfl | rfl | rfl <;> rfl
  rw [HSH.out, HKI.out, hk, if_pos rfl, if_pos rfl]
  clear HSH HKI HC2 hk
  rw [show Elm.wide op du = du by unfold Elm.wide; rcases h4 with rfl | rfl | rfl | rfl <;> cases du <;> rfl]
  show Calls Tryz.prog 66 #[.int .i64 op, .slice A qs.length qcap, .slice (some ad) 2 cap] w _
  rw [hlq]
  clear hlq hld
  rcases h4 with rfl | rfl | rfl | rfl
  all_goals
  go_enter Tryz.func66, Tryz.ntmps66
  go_wp2_with fail
  refine (VD'.out _ HB0.out).mono ?_
  rintro e w1 ⟨rfl, hb⟩
  have HB := hide (HB0.out.trans (hb.mono HB0.out.size))
  have HZ := hide (HZ0.out.below hb HZ0.out.lt)
  clear HB0 HZ0 VD' hb
  obtain ⟨c0, c1, c2, c3, hadl⟩ := HC.out w1 HB.out
  have HX := hide (Has.new w1 24 [.slice dP dz.length dc, .bool du])
  have HZ1 := hide (HZ.out.alloc (.cells #[.slice dP dz.length dc, .bool du] 24))
  have HB1 := hide (HB.out.alloc HB.out.size (.cells #[.slice dP dz.length dc, .bool du] 24))
  clear HB HZ
  go_wp2_with fail
  obtain ⟨hS0⟩ : Nonempty (RsS w w1.heap.size ad (.slice dP dz.length dc) (.bool du) (.slice fP fz.length fc) (.bool fu) (w1.alloc (.cells #[.slice dP dz.length dc, .bool du] 24)).drew) := ⟨⟨HX.out.cell 0, HX.out.cell 1, (((Below.refl w1.heap.size w1).alloc (Nat.le_refl _) (.cells #[.slice dP dz.length dc, .bool du] 24)).cell (p := ⟨ad.block, ad.off + 2, none⟩) hadl).trans c2, (((Below.refl w1.heap.size w1).alloc (Nat.le_refl _) (.cells #[.slice dP dz.length dc, .bool du] 24)).cell (p := ⟨ad.block, ad.off + 3, none⟩) hadl).trans c3, HX.out.lt, by simp [World.drew]; omega, hide (HZ1.out.drewN 1), hide (HX.out.drewN 1), hide HB1.out.drew⟩⟩
  clear c0 c1 c2 c3 hadl HX HZ1 HB1
  refine wp_region_held_drew (S := RsS w w1.heap.size ad (.slice dP dz.length dc) (.bool du) (.slice fP fz.length fc) (.bool fu)) (by kernel_rfl) hS0 (fun hH0 => ?_)
  clear hS0
  generalize World.drew _ = wd at *
  refine wpAnyH_take (i := 0) (oi := { dst := some 75, op := Op.move (Operand.tmp 8), type := 4, pos := "ops.go:58", after := #[], guard := none }) (v := ?_) rfl (by kernel_rfl) (by kernel_rfl) (by kernel_rfl) (fun _ _ _ h => h) (Or.inl ⟨by rfl, ?_⟩) (by assumption) ?_
  rotate_left
  ·intro w hSw
   (try dsimp only at hSw)
   go_simp
   all_goals with_reducible rfl
  (try simp only [Act.put, List.setIfInBounds_toArray, List.set_cons_zero, List.set_cons_succ])
  refine wpAnyH_take (i := 1) (oi := { dst := some 76, op := Op.move (Operand.tmp 75), type := 4, pos := "ops.go:58", after := #[{ on := 0, ground := Ground.data }], guard := none }) (v := ?_) rfl (by kernel_rfl) (by kernel_rfl) (by kernel_rfl) (fun _ _ _ h => h) (Or.inl ⟨by rfl, ?_⟩) (by assumption) ?_
  rotate_left
  ·intro w hSw
   (try dsimp only at hSw)
   go_simp
   all_goals with_reducible rfl
  (try simp only [Act.put, List.setIfInBounds_toArray, List.set_cons_zero, List.set_cons_succ])
  refine wpAnyH_take (i := 2) (oi := { dst := some 77, op := Op.load 24 (Operand.tmp 12), type := 24, pos := "ops.go:58", after := #[{ on := 1, ground := Ground.guard }], guard := some (1, true) }) (v := ?_) rfl (by kernel_rfl) (by kernel_rfl) (by kernel_rfl) (fun _ _ _ h => h) (Or.inl ⟨by rfl, ?_⟩) (by assumption) ?_
  rotate_left
  ·intro w hSw
   (try dsimp only at hSw)
   go_simp
   all_goals with_reducible rfl
  (try simp only [Act.put, List.setIfInBounds_toArray, List.set_cons_zero, List.set_cons_succ])
  refine wpAnyH_take (i := 3) (oi := { dst := some 78, op := Op.move (Operand.tmp 2), type := 45, pos := "ops.go:58", after := #[{ on := 1, ground := Ground.guard }], guard := some (1, true) }) (v := ?_) rfl (by kernel_rfl) (by kernel_rfl) (by kernel_rfl) (fun _ _ _ h => h) (Or.inl ⟨by rfl, ?_⟩) (by assumption) ?_
  rotate_left
  ·intro w hSw
   (try dsimp only at hSw)
   go_simp
   all_goals with_reducible rfl
  (try simp only [Act.put, List.setIfInBounds_toArray, List.set_cons_zero, List.set_cons_succ])
  refine wpAnyH_take (i := 4) (oi := { dst := some 79, op := Op.indexAddr 45 (Operand.tmp 78) (Operand.const (Value.int IntKind.i64 1)), type := 0, pos := "ops.go:58", after := #[{ on := 3, ground := Ground.data }, { on := 1, ground := Ground.guard }], guard := some (1, true) }) (v := ?_) rfl (by kernel_rfl) (by kernel_rfl) (by kernel_rfl) (fun _ _ _ h => h) (Or.inl ⟨by rfl, ?_⟩) (by assumption) ?_
  rotate_left
  ·intro w hSw
   (try dsimp only at hSw)
   go_simp
   all_goals with_reducible rfl
  (try simp only [Act.put, List.setIfInBounds_toArray, List.set_cons_zero, List.set_cons_succ])
  refine wpAnyH_take (i := 5) (oi := { dst := some 80, op := Op.load 24 (Operand.tmp 79), type := 24, pos := "ops.go:58", after := #[{ on := 4, ground := Ground.data }, { on := 1, ground := Ground.guard }], guard := some (1, true) }) (v := ?_) rfl (by kernel_rfl) (by kernel_rfl) (by kernel_rfl) (fun _ _ _ h => h) (Or.inl ⟨by rfl, ?_⟩) (by assumption) ?_
  rotate_left
  ·intro w hSw
   (try dsimp only at hSw)
   go_simp
   all_goals with_reducible rfl
  (try simp only [Act.put, List.setIfInBounds_toArray, List.set_cons_zero, List.set_cons_succ])
  refine wpAnyH_ready (rs := [6]) (by kernel_rfl) (by simp) ?_
  refine AllReadyH.cons (o := { dst := some 81, op := Op.call { callee := Callee.value (Operand.func 17), args := #[Operand.tmp 77, Operand.tmp 80], argTypes := #[24, 24] }, type := 4, pos := "ops.go:58", after := #[{ on := 2, ground := Ground.data }, { on := 5, ground := Ground.data }, { on := 1, ground := Ground.chain }, { on := 1, ground := Ground.guard }], guard := some (1, true) }) rfl (fun K hK => ?_) AllReadyH.nil
  go_simp
  refine (VS.out _ hH0.2.2.2.2.2.2.2.2.out).mono ?_
  rintro e W6 ⟨rfl, hb⟩
  go_wp2_with fail
  refine hK.out _ _ ?_ (fun hH1 => ?_)
  ·exact RsS.keep (by assumption) hb
  clear hK K hb hH0
  (try simp only [Act.put, List.setIfInBounds_toArray, List.set_cons_zero, List.set_cons_succ])
  refine wpAnyH_take (i := 7) (oi := { dst := some 82, op := Op.unOp UnOp.not 4 (Operand.tmp 81), type := 4, pos := "ops.go:58", after := #[{ on := 6, ground := Ground.data }, { on := 1, ground := Ground.guard }], guard := some (1, true) }) (v := ?_) rfl (by kernel_rfl) (by kernel_rfl) (by kernel_rfl) (fun _ _ _ h => h) (Or.inl ⟨by rfl, ?_⟩) (by assumption) ?_
  rotate_left
  ·intro w hSw
   (try dsimp only at hSw)
   go_simp
   all_goals with_reducible rfl
  (try simp only [Act.put, List.setIfInBounds_toArray, List.set_cons_zero, List.set_cons_succ])
  refine wpAnyH_take (i := 8) (oi := { dst := some 83, op := Op.pick (Operand.tmp 76) (Operand.tmp 82) (Operand.const (Value.bool false)), type := 4, pos := "ops.go:58", after := #[{ on := 1, ground := Ground.data }, { on := 7, ground := Ground.data }], guard := none }) (v := ?_) rfl (by kernel_rfl) (by kernel_rfl) (by kernel_rfl) (fun _ _ _ h => h) (Or.inl ⟨by rfl, ?_⟩) (by assumption) ?_
  rotate_left
  ·intro w hSw
   (try dsimp only at hSw)
   go_simp
   all_goals with_reducible rfl
  (try simp only [Act.put, List.setIfInBounds_toArray, List.set_cons_zero, List.set_cons_succ])
  refine wpAnyH_take (i := 9) (oi := { dst := some 84, op := Op.move (Operand.tmp 83), type := 4, pos := "ops.go:58", after := #[{ on := 8, ground := Ground.data }, { on := 6, ground := Ground.chain }], guard := none }) (v := ?_) rfl (by kernel_rfl) (by kernel_rfl) (by kernel_rfl) (fun _ _ _ h => h) (Or.inl ⟨by rfl, ?_⟩) (by assumption) ?_
  rotate_left
  ·intro w hSw
   (try dsimp only at hSw)
   go_simp
   all_goals with_reducible rfl
  (try simp only [Act.put, List.setIfInBounds_toArray, List.set_cons_zero, List.set_cons_succ])
  refine wpAnyH_take (i := 10) (oi := { dst := some 85, op := Op.move (Operand.tmp 0), type := 3, pos := "ops.go:58", after := #[{ on := 9, ground := Ground.guard }], guard := some (9, false) }) (v := ?_) rfl (by kernel_rfl) (by kernel_rfl) (by kernel_rfl) (fun _ _ _ h => h) (Or.inl ⟨by rfl, ?_⟩) (by assumption) ?_
  rotate_left
  ·intro w hSw
   (try dsimp only at hSw)
   go_simp
   all_goals with_reducible rfl
  (try simp only [Act.put, List.setIfInBounds_toArray, List.set_cons_zero, List.set_cons_succ])
  refine wpAnyH_take (i := 11) (oi := { dst := some 86, op := Op.binOp BinOp.eql 3 (Operand.tmp 85) (Operand.const (Value.int IntKind.i64 10)) 3, type := 4, pos := "ops.go:58", after := #[{ on := 10, ground := Ground.data }, { on := 9, ground := Ground.guard }], guard := some (9, false) }) (v := ?_) rfl (by kernel_rfl) (by kernel_rfl) (by kernel_rfl) (fun _ _ _ h => h) (Or.inl ⟨by rfl, ?_⟩) (by assumption) ?_
  rotate_left
  ·intro w hSw
   (try dsimp only at hSw)
   go_simp
   all_goals with_reducible rfl
  (try simp only [Act.put, List.setIfInBounds_toArray, List.set_cons_zero, List.set_cons_succ])
  refine wpAnyH_take (i := 12) (oi := { dst := some 87, op := Op.move (Operand.tmp 86), type := 4, pos := "ops.go:58", after := #[{ on := 11, ground := Ground.data }, { on := 9, ground := Ground.chain }, { on := 9, ground := Ground.guard }], guard := some (9, false) }) (v := ?_) rfl (by kernel_rfl) (by kernel_rfl) (by kernel_rfl) (fun _ _ _ h => h) (Or.inl ⟨by rfl, ?_⟩) (by assumption) ?_
  rotate_left
  ·intro w hSw
   (try dsimp only at hSw)
   go_simp
   all_goals with_reducible rfl
  (try simp only [Act.put, List.setIfInBounds_toArray, List.set_cons_zero, List.set_cons_succ])
  refine wpAnyH_take (i := 13) (oi := { dst := some 88, op := Op.fieldAddr 24 (Operand.tmp 12) 1, type := 0, pos := "ops.go:58", after := #[{ on := 12, ground := Ground.guard }], guard := some (12, true) }) (v := undef) rfl (by kernel_rfl) (by kernel_rfl) (by kernel_rfl) (fun _ _ _ h => h) (Or.inr ⟨by rfl, rfl⟩) (by assumption) ?_
  (try simp only [Act.put, List.setIfInBounds_toArray, List.set_cons_zero, List.set_cons_succ])
  refine wpAnyH_take (i := 14) (oi := { dst := some 89, op := Op.load 4 (Operand.tmp 88), type := 4, pos := "ops.go:58", after := #[{ on := 13, ground := Ground.data }, { on := 12, ground := Ground.guard }], guard := some (12, true) }) (v := undef) rfl (by kernel_rfl) (by kernel_rfl) (by kernel_rfl) (fun _ _ _ h => h) (Or.inr ⟨by rfl, rfl⟩) (by assumption) ?_
  (try simp only [Act.put, List.setIfInBounds_toArray, List.set_cons_zero, List.set_cons_succ])
  refine wpAnyH_take (i := 15) (oi := { dst := some 90, op := Op.unOp UnOp.not 4 (Operand.tmp 89), type := 4, pos := "ops.go:58", after := #[{ on := 14, ground := Ground.data }, { on := 12, ground := Ground.guard }], guard := some (12, true) }) (v := undef) rfl (by kernel_rfl) (by kernel_rfl) (by kernel_rfl) (fun _ _ _ h => h) (Or.inr ⟨by rfl, rfl⟩) (by assumption) ?_
  (try simp only [Act.put, List.setIfInBounds_toArray, List.set_cons_zero, List.set_cons_succ])
  refine wpAnyH_take (i := 16) (oi := { dst := some 91, op := Op.pick (Operand.tmp 87) (Operand.tmp 90) (Operand.const (Value.bool false)), type := 4, pos := "ops.go:58", after := #[{ on := 12, ground := Ground.data }, { on := 15, ground := Ground.data }, { on := 9, ground := Ground.guard }], guard := some (9, false) }) (v := ?_) rfl (by kernel_rfl) (by kernel_rfl) (by kernel_rfl) (fun _ _ _ h => h) (Or.inl ⟨by rfl, ?_⟩) (by assumption) ?_
  rotate_left
  ·intro w hSw
   (try dsimp only at hSw)
   go_simp
   all_goals with_reducible rfl
  (try simp only [Act.put, List.setIfInBounds_toArray, List.set_cons_zero, List.set_cons_succ])
  refine wpAnyH_take (i := 17) (oi := { dst := some 92, op := Op.pick (Operand.tmp 84) (Operand.const (Value.bool true)) (Operand.tmp 91), type := 4, pos := "ops.go:58", after := #[{ on := 9, ground := Ground.data }, { on := 16, ground := Ground.data }], guard := none }) (v := ?_) rfl (by kernel_rfl) (by kernel_rfl) (by kernel_rfl) (fun _ _ _ h => h) (Or.inl ⟨by rfl, ?_⟩) (by assumption) ?_
  rotate_left
  ·intro w hSw
   (try dsimp only at hSw)
   go_simp
   all_goals with_reducible rfl
  (try simp only [Act.put, List.setIfInBounds_toArray, List.set_cons_zero, List.set_cons_succ])
  refine wpAnyH_take (i := 18) (oi := { dst := some 93, op := Op.move (Operand.tmp 92), type := 4, pos := "ops.go:58", after := #[{ on := 17, ground := Ground.data }, { on := 12, ground := Ground.chain }], guard := none }) (v := ?_) rfl (by kernel_rfl) (by kernel_rfl) (by kernel_rfl) (fun _ _ _ h => h) (Or.inl ⟨by rfl, ?_⟩) (by assumption) ?_
  rotate_left
  ·intro w hSw
   (try dsimp only at hSw)
   go_simp
   all_goals with_reducible rfl
  (try simp only [Act.put, List.setIfInBounds_toArray, List.set_cons_zero, List.set_cons_succ])
  refine wpAnyH_take (i := 19) (oi := { dst := some 94, op := Op.move (Operand.tmp 0), type := 3, pos := "ops.go:58", after := #[{ on := 18, ground := Ground.guard }], guard := some (18, false) }) (v := ?_) rfl (by kernel_rfl) (by kernel_rfl) (by kernel_rfl) (fun _ _ _ h => h) (Or.inl ⟨by rfl, ?_⟩) (by assumption) ?_
  rotate_left
  ·intro w hSw
   (try dsimp only at hSw)
   go_simp
   all_goals with_reducible rfl
  (try simp only [Act.put, List.setIfInBounds_toArray, List.set_cons_zero, List.set_cons_succ])
  refine wpAnyH_take (i := 20) (oi := { dst := some 95, op := Op.binOp BinOp.eql 3 (Operand.tmp 94) (Operand.const (Value.int IntKind.i64 11)) 3, type := 4, pos := "ops.go:58", after := #[{ on := 19, ground := Ground.data }, { on := 18, ground := Ground.guard }], guard := some (18, false) }) (v := ?_) rfl (by kernel_rfl) (by kernel_rfl) (by kernel_rfl) (fun _ _ _ h => h) (Or.inl ⟨by rfl, ?_⟩) (by assumption) ?_
  rotate_left
  ·intro w hSw
   (try dsimp only at hSw)
   go_simp
   all_goals with_reducible rfl
  (try simp only [Act.put, List.setIfInBounds_toArray, List.set_cons_zero, List.set_cons_succ])
  refine wpAnyH_take (i := 21) (oi := { dst := some 96, op := Op.move (Operand.tmp 95), type := 4, pos := "ops.go:58", after := #[{ on := 20, ground := Ground.data }, { on := 18, ground := Ground.chain }, { on := 18, ground := Ground.guard }], guard := some (18, false) }) (v := ?_) rfl (by kernel_rfl) (by kernel_rfl) (by kernel_rfl) (fun _ _ _ h => h) (Or.inl ⟨by rfl, ?_⟩) (by assumption) ?_
  rotate_left
  ·intro w hSw
   (try dsimp only at hSw)
   go_simp
   all_goals with_reducible rfl
  (try simp only [Act.put, List.setIfInBounds_toArray, List.set_cons_zero, List.set_cons_succ])
  refine wpAnyH_take (i := 22) (oi := { dst := some 97, op := Op.fieldAddr 24 (Operand.tmp 12) 1, type := 0, pos := "ops.go:58", after := #[{ on := 21, ground := Ground.guard }], guard := some (21, true) }) (v := undef) rfl (by kernel_rfl) (by kernel_rfl) (by kernel_rfl) (fun _ _ _ h => h) (Or.inr ⟨by rfl, rfl⟩) (by assumption) ?_
  (try simp only [Act.put, List.setIfInBounds_toArray, List.set_cons_zero, List.set_cons_succ])
  refine wpAnyH_take (i := 23) (oi := { dst := some 98, op := Op.load 4 (Operand.tmp 97), type := 4, pos := "ops.go:58", after := #[{ on := 22, ground := Ground.data }, { on := 21, ground := Ground.guard }], guard := some (21, true) }) (v := undef) rfl (by kernel_rfl) (by kernel_rfl) (by kernel_rfl) (fun _ _ _ h => h) (Or.inr ⟨by rfl, rfl⟩) (by assumption) ?_
  (try simp only [Act.put, List.setIfInBounds_toArray, List.set_cons_zero, List.set_cons_succ])
  refine wpAnyH_take (i := 24) (oi := { dst := some 99, op := Op.pick (Operand.tmp 96) (Operand.tmp 98) (Operand.const (Value.bool false)), type := 4, pos := "ops.go:58", after := #[{ on := 21, ground := Ground.data }, { on := 23, ground := Ground.data }, { on := 18, ground := Ground.guard }], guard := some (18, false) }) (v := ?_) rfl (by kernel_rfl) (by kernel_rfl) (by kernel_rfl) (fun _ _ _ h => h) (Or.inl ⟨by rfl, ?_⟩) (by assumption) ?_
  rotate_left
  ·intro w hSw
   (try dsimp only at hSw)
   go_simp
   all_goals with_reducible rfl
  (try simp only [Act.put, List.setIfInBounds_toArray, List.set_cons_zero, List.set_cons_succ])
  refine wpAnyH_take (i := 25) (oi := { dst := some 100, op := Op.pick (Operand.tmp 93) (Operand.const (Value.bool true)) (Operand.tmp 99), type := 4, pos := "ops.go:58", after := #[{ on := 18, ground := Ground.data }, { on := 24, ground := Ground.data }], guard := none }) (v := ?_) rfl (by kernel_rfl) (by kernel_rfl) (by kernel_rfl) (fun _ _ _ h => h) (Or.inl ⟨by rfl, ?_⟩) (by assumption) ?_
  rotate_left
  ·intro w hSw
   (try dsimp only at hSw)
   go_simp
   all_goals with_reducible rfl
  (try simp only [Act.put, List.setIfInBounds_toArray, List.set_cons_zero, List.set_cons_succ])
  refine wpAnyH_done (by kernel_rfl) ?_ _
  have HZ1 := hH1.2.2.2.2.2.2.1
  have HX := hH1.2.2.2.2.2.2.2.1
  have HB1 := hH1.2.2.2.2.2.2.2.2
  clear hH1 VS
  have x0 := HX.out.cell 0
  have x1 := HX.out.cell 1
  go_wp2_with fail
  refine (VR.out _ HB1.out).mono ?_
  rintro e w3 ⟨⟨g, c, rest, rfl, hg, hG⟩, hb⟩
  have hB3 := HB1.out.trans (hb.mono HB1.out.size)
  have hZ3 := HZ1.out.below hb HZ1.out.lt
  have hX3 := HX.out.below hb HX.out.lt
  have hzl := HZ1.out.lt
  have hgl := hG.lt
  have hz3l := hZ3.lt
  have fin : ∀ v : Bool, w3.cell? ⟨w.heap.size, 0, none⟩ = some (.slice none 0 0) ∧ w3.cell? ⟨w.heap.size, 1, none⟩ = some (.bool false) ∧ w3.frozen? ⟨w.heap.size, 0, none⟩ = false ∧ w3.frozen? ⟨w.heap.size, 1, none⟩ = false ∧
    Hid (Has (((w3.setCell ⟨w.heap.size, 0, none⟩ (.slice (some ⟨g, 0, none⟩) dz.length c)).setCell ⟨w.heap.size, 1, none⟩ (.bool v)).alloc (.cells #[.slice (some ⟨g, 0, none⟩) dz.length c, .bool v] 24)) w.heap.size 24 [.slice (some ⟨g, 0, none⟩) dz.length c, .bool v]) ∧
    Hid (Has (((w3.setCell ⟨w.heap.size, 0, none⟩ (.slice (some ⟨g, 0, none⟩) dz.length c)).setCell ⟨w.heap.size, 1, none⟩ (.bool v)).alloc (.cells #[.slice (some ⟨g, 0, none⟩) dz.length c, .bool v] 24)) g 3 (i64s dz ++ rest)) ∧
    Hid (Below w.heap.size w (((w3.setCell ⟨w.heap.size, 0, none⟩ (.slice (some ⟨g, 0, none⟩) dz.length c)).setCell ⟨w.heap.size, 1, none⟩ (.bool v)).alloc (.cells #[.slice (some ⟨g, 0, none⟩) dz.length c, .bool v] 24))) := fun v =>
   ⟨hZ3.cell 0, hZ3.cell 1, hZ3.frozen 0, hZ3.frozen 1, ((hZ3.set_ 0 (.slice (some ⟨g, 0, none⟩) dz.length c)).set_ 1 (.bool v)).alloc _,
    ((hG.far (p := ⟨w.heap.size, 0, none⟩) (by simp; omega) (.slice (some ⟨g, 0, none⟩) dz.length c)).far (p := ⟨w.heap.size, 1, none⟩) (by simp; omega) (.bool v)).alloc _,
    ((hB3.setCell (p := ⟨w.heap.size, 0, none⟩) (Nat.le_refl _) (.slice (some ⟨g, 0, none⟩) dz.length c)).setCell (p := ⟨w.heap.size, 1, none⟩) (Nat.le_refl _) (.bool v)).alloc (by simp; exact hB3.size) _⟩
  have hgs : w.heap.size < g := by omega
  have hgw : w.heap.size ≤ g := Nat.le_of_lt hgs
  clear x0 x1
  obtain ⟨z0, z1, zf0, zf1, HZf, HGf, HFf⟩ := fin du
  clear fin hZ3 hX3 hB3 hG HX HZ1 HB1 hg hb VR HC
  go_wp2_with fail
  refine bodyPost_ret (results_desc rfl _ _ w.heap.size _ _ rfl HZf.out) rfl ?_
  exact ⟨⟨_, c, rfl, fun _ => ⟨g, rest, rfl, hgw, HGf.out⟩⟩, HFf.out⟩
theorem rresult_c (op : Int) (qs : List Int) (ds : List Dsc) (A B : Option Addr) (qcap cap : Nat) (w : World) (hQ : Ri w A qs) (hR : Row w B (ds.flatMap Dsc.vals)) (hI : ∀ d ∈ ds, d.In w) (hl : ds.length ≤ 1000000) :
  Calls Tryz.prog 66 #[.int .i64 op, .slice A qs.length qcap, .slice B ds.length cap] w (Elm.Res w (Elm.shape op qs ds) (Elm.kind op qs ds) (Elm.code op qs ds)) := by
 have hc : op = 4 ∨ op = 5 ∨ op = 6 ∨ op = 7 ∨ op = 8 ∨ op = 9 ∨ op = 10 ∨ op = 11 ∨ ¬ (4 ≤ op ∧ op ≤ 11) := by omega
 rcases hc with h | h | h | h | h | h | h | h | h
 ·exact rresult_two op (by omega) qs ds A B qcap cap w hR hI hl
 ·exact rresult_two op (by omega) qs ds A B qcap cap w hR hI hl
 ·exact rresult_two op (by omega) qs ds A B qcap cap w hR hI hl
 ·exact rresult_two op (by omega) qs ds A B qcap cap w hR hI hl
 ·exact rresult_relu op h qs ds A B qcap cap w hR hI hl
 ·exact rresult_clamp op h qs ds A B qcap cap w hQ hR hI hl
 ·exact rresult_requant op h qs ds A B qcap cap w hQ hR hI hl
 ·exact rresult_widen op h qs ds A B qcap cap w hQ hR hI hl
 ·exact rresult_none op h qs ds A B qcap cap w
end Go.Proofs.YtgdcfjmpjhlndaaGreatDoor
