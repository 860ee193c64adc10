/-
  The law FltBytes of package lodgelaw3, walked. By an AI agent. No person has read it.
-/
import Derived.Test.YteeiehaebiigfaaDoorFltBz
import Derived.Test.YteeiehaebiigfaaDoorFltR
namespace Go.Proofs.YteeiehaebiigfaaDoor
open Go.RowKit

theorem es_at {w : World} {es : List Addr} (h : Ez w es) (j : Nat) (hj : j < 21) : ∃ a, es[j]? = some a := ⟨_, List.getElem?_eq_getElem (by rw [h.1]; exact hj)⟩
/-- What both readers say of any bytes. -/
theorem reads_any (es : List Addr) (bs : List Nat) (A : Option Addr) (cap : Nat) (w : World) (hr : Rb w A bs) (h : Ez w es) (hm : bs.length ≤ 9223372036854775807) : ∃ (v : Nat) (ev : Value) (k : Int),
    (Calls Tryd.prog 36 #[.slice A bs.length cap] w fun e w' => e = .returned (.tuple #[.float .f64 v, ev]) ∧ ∃ q, w' = w.drewN q) ∧
    (∀ q, Calls Tryd.prog 37 #[.slice A bs.length cap] (w.drewN q) fun e w' => e = .returned (.tuple #[.float .f64 v, .int .i64 k]) ∧ w' = w.drewN q) ∧
    ∀ w', Ez w' es → Calls Tryd.prog 41 #[ev, .int .i64 k] w' fun e w2 => e = .returned (.bool true) ∧ Below w'.heap.size w' w2 := by
  rcases Nat.lt_trichotomy bs.length 8 with h8 | h8 | h8
  · obtain ⟨a, ha⟩ := es_at h 4 (by decide)
    exact ⟨0, errv a, 105, readend_c es a ha A _ cap w h h8, fun q => refend_c A _ cap _ h8, fun w' h' => is_c es 4 a ha 105 w' h'⟩
  · rw [h8]
    refine ⟨Flt.le bs, .nilIface, 0, (read8_c bs A cap w hr h8).mono fun e w' ⟨he, hw⟩ => ⟨he, 0, hw⟩, fun q => refread8_c bs A cap _ (hr.below (below_drewN (Below.refl _ w) q)) h8, fun w' _ => is_nil 0 w'⟩
  · obtain ⟨a, ha⟩ := es_at h 3 (by decide)
    exact ⟨0, errv a, 104, readmany_c es a ha A _ cap w h h8 hm, fun q => refmany_c A _ cap _ h8 hm, fun w' h' => is_c es 3 a ha 104 w' h'⟩
theorem same_told (x : Nat) : Flt.same (Flt.told x) x = true := by
  unfold Flt.same Flt.told
  cases h : Flt.nanb x
  · simp
  · rw [if_pos rfl, show Flt.nanb 9221120237041090561 = true by decide]
    rfl
theorem same_self (x : Nat) : Flt.same x x = true := by
  unfold Flt.same
  simp
set_option maxRecDepth 100000 in
theorem bytes_long (x : Nat) (A : Option Addr) (n cap : Nat) (w : World) (hl : 40 < n) (hm : n ≤ 9223372036854775807) (hT : Tz w) :
    Calls Tryd.prog 7 #[.float .f64 x, .slice A n cap] w fun e w' => e = .returned (.bool true) ∧ Below w.heap.size w w' := by
  have H0 := hide (first_c w hT)
  have hl' : (40 : Int) < n := by omega
  go_enter Tryd.func7, Tryd.ntmps7
  go_wp2_with fail
  refine H0.out.mono ?_
  rintro e' w2 ⟨rfl, rfl⟩
  go_wp2_with fail
  go_ret
  exact ⟨rfl, Below.refl _ _⟩
set_option maxRecDepth 100000 in
set_option maxHeartbeats 4000000 in
theorem bytes_short (es : List Addr) (x : Nat) (hx : x < 18446744073709551616) (bs : List Nat) (A : Option Addr) (cap : Nat) (w : World) (hr : Rb w A bs) (hl : bs.length ≤ 40) (hT : Tz w) (hE : Ez w es) :
    Calls Tryd.prog 7 #[.float .f64 x, .slice A bs.length cap] w fun e w' => e = .returned (.bool true) ∧ Below w.heap.size w w' := by
  have H0 := hide (first_c w hT)
  obtain ⟨v, ev, k, h1, h2, h3⟩ := reads_any es bs A cap w hr hE (by omega)
  have H1 := hide h1
  have H2 := hide h2
  have H3 := hide h3
  have HE := hide hE
  obtain ⟨n, hn⟩ : ∃ n, Hid (bs.length = n) := ⟨_, hide rfl⟩
  rw [hn.out] at H1 H2 hl ⊢
  clear h1 h2 h3 hr hT hE
  have hl' : (n : Int) ≤ 40 := by omega
  obtain ⟨t, ht⟩ : ∃ t, Hid (Flt.told x = t) := ⟨_, hide rfl⟩
  obtain ⟨L, hL⟩ : ∃ L, Hid (Flt.by8 t = L) := ⟨_, hide rfl⟩
  have htl : t < 18446744073709551616 := by rw [← ht.out]; exact Flt.told_lt x hx
  have hLl : Hid (L.length = 8) := by rw [← hL.out]; exact hide rfl
  have hLb : Hid (∀ c ∈ L, c < 256) := by rw [← hL.out]; exact hide (Flt.by8_lt t)
  have hLe : Hid (Flt.le L = t) := by rw [← hL.out]; exact hide (Flt.le_by8 t htl)
  have hb1 := fun w => floatbytes_c x hx w
  have hb2 := fun w => reffloatbytes_c x hx w
  rw [ht.out, hL.out] at hb1 hb2
  have hs1 := fun w => same_c v v w
  rw [same_self] at hs1
  have hs2 := fun w => same_c t x w
  rw [show Flt.same t x = true by rw [← ht.out]; exact same_told x] at hs2
  have HB1 := hide hb1
  have HB2 := hide hb2
  have HS1 := hide hs1
  have HS2 := hide hs2
  clear hb1 hb2 hs1 hs2 htl hx hL ht
  go_enter Tryd.func7, Tryd.ntmps7
  go_wp2_with fail
  refine H0.out.mono ?_
  rintro e' w2 ⟨rfl, rfl⟩
  go_wp2_with fail
  refine H1.out.mono ?_
  rintro e' w3 ⟨rfl, q, rfl⟩
  go_wp2_with fail
  refine (H2.out q).mono ?_
  rintro e' w3 ⟨rfl, rfl⟩
  obtain ⟨w3, hw3⟩ : ∃ w3, w2.drewN q = w3 := ⟨_, rfl⟩
  rw [hw3]
  have HW3 : Hid (Below w2.heap.size w2 w3) := hide (by rw [← hw3]; exact below_drewN (Below.refl _ w2) q)
  clear hw3
  go_wp2_with fail
  refine (HB1.out w3).mono ?_
  rintro e' w4 ⟨⟨g, rfl, hg⟩, hb4⟩
  have HW4 := hide (HW3.out.trans (hb4.mono HW3.out.size))
  have hrd := read8_c L (some ⟨g, 0, none⟩) 8 w4 (hg.rb hLb.out) hLl.out
  rw [hLe.out] at hrd
  have HRD := hide hrd
  clear hg hb4 hrd
  go_wp2_with fail
  refine HRD.out.mono ?_
  rintro e' w4 ⟨rfl, rfl⟩
  go_wp2_with fail
  refine (HB1.out w4).mono ?_
  rintro e' w5 ⟨⟨g5, rfl, hg5⟩, hb5⟩
  have HW5 := hide (HW4.out.trans (hb5.mono HW4.out.size))
  have HG5 := hide (hg5.rb hLb.out)
  clear hb5 hg5
  go_wp2_with fail
  refine (HB2.out w5).mono ?_
  rintro e' w6 ⟨⟨A6, c6, rfl, hg6⟩, hb6⟩
  have HW6 := hide (HW5.out.trans (hb6.mono HW5.out.size))
  have hsb := samebytes_c L L (some ⟨g5, 0, none⟩) A6 8 c6 w6 (HG5.out.below hb6) hg6 (by rw [hLl.out]; decide) (by rw [hLl.out]; decide)
  rw [hLl.out, decide_eq_true rfl] at hsb
  have HSB := hide hsb
  clear hb6 hg6 hsb HG5
  go_wp2_with fail
  refine HSB.out.mono ?_
  rintro e' w7 ⟨rfl, hb7⟩
  have HW7 := hide (HW6.out.trans (hb7.mono HW6.out.size))
  clear hb7
  go_wp2_with fail
  refine (HS1.out w7).mono ?_
  rintro e' w7 ⟨rfl, rfl⟩
  go_wp2_with fail
  refine (H3.out w7 (HE.out.below HW7.out)).mono ?_
  rintro e' w8 ⟨rfl, hb8⟩
  have hfin := HW7.out.trans (hb8.mono HW7.out.size)
  clear hb8
  go_wp2_with fail
  refine (HS2.out w8).mono ?_
  rintro e' w8 ⟨rfl, rfl⟩
  go_wp2_with fail
  go_ret
  exact ⟨rfl, hfin⟩
theorem bytes_any (es : List Addr) (x : Nat) (hx : x < 18446744073709551616) (bs : List Nat) (A : Option Addr) (cap : Nat) (w : World) (hr : Rb w A bs) (h1 : bs.length ≤ cap) (h2 : cap ≤ 9223372036854775807) (hT : Tz w) (hE : Ez w es) :
    Calls Tryd.prog 7 #[.float .f64 x, .slice A bs.length cap] w fun e w' => e = .returned (.bool true) ∧ Below w.heap.size w w' := by
  by_cases h : bs.length ≤ 40
  · exact bytes_short es x hx bs A cap w hr h hT hE
  · exact bytes_long x A bs.length cap w (by omega) (by omega) hT
end Go.Proofs.YteeiehaebiigfaaDoor
