/-
  What an operation makes of one element. By an AI agent. No person has read it.
-/
import Derived.Test.YtgdcfjmpjhlndaaGreatDoorZOBasA
import Derived.Test.YtgdcfjmpjhlndaaGreatDoorZOShpA
namespace Go.Proofs.YtgdcfjmpjhlndaaGreatDoor
open Go.RowKit
def Elm.kept (u : Bool) (n : Int) : Int := if u = true then Tens.wide n else Tens.narrow n
def Elm.bin (op : Int) (u : Bool) (x y : Int) : Int := if op = 4 then Elm.kept u (IntKind.i64.wrap (x + y)) else if op = 5 then Elm.kept u (IntKind.i64.wrap (x - y)) else if op = 6 then Elm.kept u (IntKind.i64.wrap (x * y)) else max x y
set_option maxRecDepth 100000 in
theorem kept_c (u : Bool) (n : Int) (w : World) : Calls Tryz.prog 132 #[.bool u, .int .i64 n] w fun e w' => e = .returned (.int .i64 (Elm.kept u n)) ∧ w' = w := by
 have H1 := hide (wide_c n)
 have H2 := hide (narrow_c n)
 unfold Elm.kept
 obtain ⟨a, ha⟩ : ∃ a, Hid (Tens.wide n = a) := ⟨_, hide rfl⟩
 obtain ⟨b, hb⟩ : ∃ a, Hid (Tens.narrow n = a) := ⟨_, hide rfl⟩
 rw [ha.out] at H1 ⊢
 rw [hb.out] at H2 ⊢
 clear ha hb
 cases u
 ·go_enter Tryz.func132, Tryz.ntmps132
  go_wp2_with fail
  refine (H2.out _).mono ?_
  rintro e w1 ⟨rfl, rfl⟩
  go_wp2_with fail
  go_ret
  exact ⟨rfl, rfl⟩
 ·go_enter Tryz.func132, Tryz.ntmps132
  go_wp2_with fail
  refine (H1.out _).mono ?_
  rintro e w1 ⟨rfl, rfl⟩
  go_wp2_with fail
  go_ret
  exact ⟨rfl, rfl⟩
set_option maxRecDepth 100000 in
set_option maxHeartbeats 4000000 in
theorem value_bin (op : Int) (ho : op = 4 ∨ op = 5 ∨ op = 6 ∨ op = 7) (u : Bool) (x y : Int) (A : Option Addr) (n cap : Nat) (w : World) :
  Calls Tryz.prog 128 #[.int .i64 op, .bool u, .int .i64 x, .int .i64 y, .slice A n cap] w fun e w' => e = .returned (.int .i64 (Elm.bin op u x y)) ∧ w' = w := by
 have H := hide (fun n => kept_c u n)
 rcases ho with rfl | rfl | rfl | rfl
 ·have e : Elm.bin 4 u x y = Elm.kept u (IntKind.i64.wrap (x + y)) := rfl
  rw [e]
  obtain ⟨s, hs⟩ : ∃ s, IntKind.i64.wrap (x + y) = s := ⟨_, rfl⟩
  rw [hs]
  go_enter Tryz.func128, Tryz.ntmps128
  go_wp2_with fail
  refine (H.out s _).mono ?_
  rintro e w1 ⟨rfl, rfl⟩
  go_wp2_with fail
  go_ret
  exact ⟨rfl, rfl⟩
 ·have e : Elm.bin 5 u x y = Elm.kept u (IntKind.i64.wrap (x - y)) := rfl
  rw [e]
  obtain ⟨s, hs⟩ : ∃ s, IntKind.i64.wrap (x - y) = s := ⟨_, rfl⟩
  rw [hs]
  go_enter Tryz.func128, Tryz.ntmps128
  go_wp2_with fail
  refine (H.out s _).mono ?_
  rintro e w1 ⟨rfl, rfl⟩
  go_wp2_with fail
  go_ret
  exact ⟨rfl, rfl⟩
 ·have e : Elm.bin 6 u x y = Elm.kept u (IntKind.i64.wrap (x * y)) := rfl
  rw [e]
  obtain ⟨s, hs⟩ : ∃ s, IntKind.i64.wrap (x * y) = s := ⟨_, rfl⟩
  rw [hs]
  go_enter Tryz.func128, Tryz.ntmps128
  go_wp2_with fail
  refine (H.out s _).mono ?_
  rintro e w1 ⟨rfl, rfl⟩
  go_wp2_with fail
  go_ret
  exact ⟨rfl, rfl⟩
 ·have e : Elm.bin 7 u x y = max x y := rfl
  rw [e]
  clear H
  rcases Int.lt_trichotomy x y with h | rfl | h
  ·have e : max x y = y := by omega
   rw [e]
   go_enter Tryz.func128, Tryz.ntmps128
   go_wp2_with fail
   all_goals go_ret
   all_goals exact ⟨by first | rfl | (exfalso; omega), rfl⟩
  ·have e : max x x = x := by omega
   rw [e]
   go_enter Tryz.func128, Tryz.ntmps128
   go_wp2_with fail
   all_goals go_ret
   all_goals exact ⟨by first | rfl | (exfalso; omega), rfl⟩
  ·have e : max x y = x := by omega
   rw [e]
   go_enter Tryz.func128, Tryz.ntmps128
   go_wp2_with fail
   all_goals go_ret
   all_goals exact ⟨by first | rfl | (exfalso; omega), rfl⟩
theorem results_three {fn : Func} {p u x : Tmp} (h : fn.results = #[.tmp p, .tmp u, .tmp x]) (tmps : Array Value) (w : World) : (results fn tmps).run Tryz.prog w = .ok (.tuple #[tmps.getD p undef, tmps.getD u undef, tmps.getD x undef]) w := by
 simp [results, h]
end Go.Proofs.YtgdcfjmpjhlndaaGreatDoor
namespace Go.Proofs.YtgdcfjmpjhlndaaGreatDoor
open Go.RowKit
set_option maxRecDepth 100000 in
set_option maxHeartbeats 4000000 in
theorem refvalid_c (zs : List Int) (P : Option Addr) (cap : Nat) (wide : Bool) (w : World) (hr : Ri w P zs) (hm : zs.length ≤ 9223372036854775807) :
  Calls Tryz.prog 63 #[.agg (dcells P zs.length cap wide)] w fun e w' => e = .returned (.int .i64 (Shp.code zs)) ∧ Below w.heap.size w w' := by
 obtain ⟨n, hn⟩ : ∃ n, Hid (zs.length = n) := ⟨_, hide rfl⟩
 rw [hn.out] at hm ⊢
 have hb1 := (Below.refl _ w).alloc (Nat.le_refl _) (Obj.cells (dcells P n cap wide) 24)
 have HB1 := hide hb1
 have HA := hide (hr.below hb1)
 have HC := hide (cell_of_row (w.alloc (Obj.cells (dcells P n cap wide) 24)) w.heap.size 0 _ 24 (0, 0) (heap_alloc_new w _))
 clear hb1 hr
 obtain ⟨R, hR⟩ : ∃ R, Hid (Shp.code zs = R) := ⟨_, hide rfl⟩
 rw [hR.out]
 by_cases h4 : 4 < n
 ·have h4' : (4 : Int) < n := by omega
  obtain rfl : 104 = R := by
   have := hR.out
   unfold Shp.code at this
   rw [if_pos (by rw [hn.out]; exact h4)] at this
   exact this
  clear hR HC
  go_enter Tryz.func63, Tryz.ntmps63
  go_wp2_with fail
  go_ret
  exact ⟨rfl, HB1.out⟩
 ·have h4' : ¬ (4 : Int) < n := by omega
  have h4n : n ≤ 4 := by omega
  have hR2 : Hid ((if zs.all Shp.okDim = false then 102 else if 16384 < Shp.prod zs then 104 else 0) = R) := by
   have := hR.out
   unfold Shp.code at this
   rw [if_neg (by rw [hn.out]; exact h4)] at this
   exact hide this
  clear hR h4
  go_enter Tryz.func63, Tryz.ntmps63
  go_wp2_with fail
  obtain ⟨w1, hw1⟩ : ∃ w1, Hid (w.alloc (Obj.cells (dcells P n cap wide) 24) = w1) := ⟨_, hide rfl⟩
  rw [hw1.out] at HB1 HA HC
  have hw1' := hw1.out
  rw [hw1']
  clear hw1 hw1'
  have cd : w1.cell? ⟨w.heap.size, 0, none⟩ = some (.slice P n cap) := HC.out
  go_loopw [3, 4] (fun p k wr => ∃ (i : Nat) (v : Int), i ≤ n ∧ k = .int .i64 i ∧ p = .int .i64 v ∧ Hid (Shp.prod (zs.take i) = v) ∧ Hid ((zs.take i).all Shp.okDim = true) ∧ wr = w1) (fun _ k _ => n - (intOf k).toNat)
  case atStart => exact ⟨0, 1, by omega, rfl, rfl, hide rfl, hide rfl, rfl⟩
  case round =>
   obtain ⟨i, v, hi, rfl, rfl, hI, hD, rfl⟩ := hrel
   have hv := Shp.prod_pos _ hD.out
   rw [hI.out, List.length_take, hn.out, Nat.min_eq_left hi] at hv
   by_cases hlt : i < n
   ·obtain ⟨ad, z, rfl, ez, cz⟩ := ri_at HA.out i (by rw [hn.out]; exact hlt)
    have him : (i : Int) < n := by omega
    by_cases hz1 : z < 1
    ·obtain rfl : 102 = R := by
      rw [← hR2.out, if_pos (Shp.not_all zs i z ez.out (by omega))]
     clear hR2 hv
     go_wp2_with fail
     go_ret
     exact ⟨rfl, HB1.out⟩
    ·by_cases hz2 : 256 < z
     ·obtain rfl : 102 = R := by
       rw [← hR2.out, if_pos (Shp.not_all zs i z ez.out (by omega))]
      clear hR2 hv
      go_wp2_with fail
      go_ret
      exact ⟨rfl, HB1.out⟩
     ·have hp : Shp.prod (zs.take (i + 1)) = v * z := by
       rw [List.take_add_one, ez.out, Option.toList_some, Shp.prod_snoc, hI.out]
      have ha : (zs.take (i + 1)).all Shp.okDim = true := by
       rw [List.take_add_one, ez.out, Option.toList_some]
       exact Shp.all_snoc _ z hD.out (by omega)
      have hq := Shp.prod_pos _ ha
      rw [hp, List.length_take, hn.out, Nat.min_eq_left (by omega)] at hq
      have hq2 := Shp.pow_le (i + 1) (by omega)
      have hw : wrap64 (v * z) = v * z := by unfold wrap64; omega
      obtain ⟨t, ht⟩ : ∃ t, Hid (v * z = t) := ⟨_, hide rfl⟩
      have hwr : wrap64 (v * z) = t := hw.trans ht.out
      clear hw
      rw [ht.out] at hp
      have HP := hide hp
      have HA' := hide ha
      clear hp ha hq hq2 hv
      go_wp2_with fail
      go_roundw
      case rel => exact ⟨i + 1, t, by omega, by go_num, by rw [hwr], HP, HA', trivial⟩
      case measure => simp [intOf]; omega
   ·obtain rfl : i = n := by omega
    have hall : zs.all Shp.okDim = true := by
     have := hD.out
     rwa [List.take_of_length_le (by rw [hn.out]; exact Nat.le_refl _)] at this
    have hpr : Shp.prod zs = v := by
     have := hI.out
     rwa [List.take_of_length_le (by rw [hn.out]; exact Nat.le_refl _)] at this
    by_cases hbig : 16384 < v
    ·obtain rfl : 104 = R := by
      rw [← hR2.out, if_neg (by rw [hall]; decide), if_pos (by rw [hpr]; exact hbig)]
     clear hR2 hv hall hpr
     go_wp2_with fail
     go_ret
     exact ⟨rfl, HB1.out⟩
    ·obtain rfl : 0 = R := by
      rw [← hR2.out, if_neg (by rw [hall]; decide), if_neg (by rw [hpr]; exact hbig)]
     clear hR2 hv hall hpr
     go_wp2_with fail
     go_ret
     exact ⟨rfl, HB1.out⟩
end Go.Proofs.YtgdcfjmpjhlndaaGreatDoor
namespace Go.Proofs.YtgdcfjmpjhlndaaGreatDoor
open Go.RowKit
def Shp.idx : Int → List Int → List Int → Option Int
 | v, [], [] => some v
 | v, z :: zs, y :: ys => if 0 ≤ y ∧ y < z then Shp.idx (v * z + y) zs ys else none
 | _, _, _ => none
def Shp.index (zs ys : List Int) : Option Int := if Shp.ok zs = true ∧ ys.length = zs.length then Shp.idx 0 zs ys else none
set_option maxRecDepth 100000 in
set_option maxHeartbeats 4000000 in
theorem refelems_c (zs : List Int) (P : Option Addr) (cap : Nat) (w : World) (hr : Ri w P zs) (hm : zs.length ≤ 9223372036854775807) :
  Calls Tryz.prog 54 #[.slice P zs.length cap] w fun e w' => e = .returned (.int .i64 (Shp.elems zs)) ∧ Below w.heap.size w w' := by
 have HV := hide (refvalid_c zs P cap false w hr hm)
 have HA0 := hide hr
 clear hr
 unfold Shp.elems
 cases hk : Shp.ok zs
 ·rw [if_neg (by decide)]
  have hne : ((Shp.code zs : Nat) : Int) ≠ 0 := by
   unfold Shp.ok at hk
   rw [decide_eq_false_iff_not] at hk
   omega
  have hne' : (((Shp.code zs : Nat) : Int) != 0) = true := by simpa using hne
  obtain ⟨n, hn⟩ : ∃ n, Hid (zs.length = n) := ⟨_, hide rfl⟩
  obtain ⟨c, hc⟩ : ∃ c, Hid (Shp.code zs = c) := ⟨_, hide rfl⟩
  rw [hn.out, hc.out] at HV
  rw [hc.out] at hne'
  rw [hn.out] at hm ⊢
  clear hk HA0 hn hne hc
  go_enter Tryz.func54, Tryz.ntmps54
  go_wp2_with fail
  refine HV.out.mono ?_
  rintro e w1 ⟨rfl, hb⟩
  go_wp2_with fail
  go_ret
  exact ⟨rfl, hb⟩
 ·rw [if_pos rfl]
  have hc0 : Shp.code zs = 0 := by unfold Shp.ok at hk; simpa using hk
  rw [hc0] at HV
  rw [Shp.ok_iff] at hk
  obtain ⟨n, hn⟩ : ∃ n, Hid (zs.length = n) := ⟨_, hide rfl⟩
  rw [hn.out] at HV hm hk ⊢
  obtain ⟨h4n, hall, -⟩ := hk
  have HALL := hide hall
  clear hall hc0
  obtain ⟨R, hR⟩ : ∃ R, Hid (Shp.prod zs = R) := ⟨_, hide rfl⟩
  rw [hR.out]
  go_enter Tryz.func54, Tryz.ntmps54
  go_wp2_with fail
  refine HV.out.mono ?_
  rintro e w1 ⟨rfl, hb⟩
  have HB1 := hide hb
  have HA := hide (HA0.out.below hb)
  clear hb HV HA0
  go_wp2_with fail
  go_loopw [3, 4] (fun p k wr => ∃ (i : Nat) (v : Int), i ≤ n ∧ k = .int .i64 i ∧ p = .int .i64 v ∧ Hid (Shp.prod (zs.take i) = v) ∧ wr = w1) (fun _ k _ => n - (intOf k).toNat)
  case atStart => exact ⟨0, 1, by omega, rfl, rfl, hide rfl, rfl⟩
  case round =>
   obtain ⟨i, v, hi, rfl, rfl, hI, rfl⟩ := hrel
   by_cases hlt : i < n
   ·obtain ⟨ad, z, rfl, ez, cz⟩ := ri_at HA.out i (by rw [hn.out]; exact hlt)
    have him : (i : Int) < n := by omega
    have hp : Shp.prod (zs.take (i + 1)) = v * z := by
     rw [List.take_add_one, ez.out, Option.toList_some, Shp.prod_snoc, hI.out]
    have ha : (zs.take (i + 1)).all Shp.okDim = true := by
     have := HALL.out
     rw [List.all_eq_true] at this ⊢
     exact fun x hx => this x (List.mem_of_mem_take hx)
    have hq := Shp.prod_pos _ ha
    rw [hp, List.length_take, hn.out, Nat.min_eq_left (by omega)] at hq
    have hq2 := Shp.pow_le (i + 1) (by omega)
    have hw : wrap64 (v * z) = v * z := by unfold wrap64; omega
    obtain ⟨t, ht⟩ : ∃ t, Hid (v * z = t) := ⟨_, hide rfl⟩
    have hwr : wrap64 (v * z) = t := hw.trans ht.out
    clear hw
    rw [ht.out] at hp
    have HP := hide hp
    clear hp ha hq hq2
    go_wp2_with fail
    go_roundw
    case rel => exact ⟨i + 1, t, by omega, by go_num, by rw [hwr], HP, trivial⟩
    case measure => simp [intOf]; omega
   ·obtain rfl : i = n := by omega
    obtain rfl : v = R := by
     have := hI.out
     rw [List.take_of_length_le (by rw [hn.out]; exact Nat.le_refl _), hR.out] at this
     exact this.symm
    go_wp2_with fail
    go_ret
    exact ⟨rfl, HB1.out⟩
end Go.Proofs.YtgdcfjmpjhlndaaGreatDoor
