/-
  The law ShapePlaces, walked. By an AI agent. No person has read it.
-/
import Derived.Test.YtnbjcdmiehnceaaDoorShpW
import Derived.Test.YtnbjcdmiehnceaaDoorShpD
import Derived.Test.YtnbjcdmiehnceaaDoorShpE
import Derived.Test.YtnbjcdmiehnceaaDoorBasE
namespace Go.Proofs.YtnbjcdmiehnceaaDoor
open Go.RowKit

def Shp.has (zs : List Int) (i : Int) : Bool := decide (0 ≤ i ∧ i < Shp.elems zs)
def Shp.where (zs : List Int) (i : Int) : List Int := if Shp.has zs i = true then (Shp.at zs i).1 else []
/-- What comes of At, of both. -/
theorem at_said (zs : List Int) (i : Int) (hi2 : i ≤ 9223372036854775807) {e : Ending} {w' : World}
    (h : (i < 0 ∧ e = .returned (.tuple #[.slice none 0 0, .bool false])) ∨ (0 ≤ i ∧ ((Shp.elems zs ≤ i ∧ e = .returned (.tuple #[.slice none 0 0, .bool false])) ∨ (i < Shp.elems zs ∧ ∃ g, e = .returned (.tuple #[.slice (some ⟨g, 0, none⟩) zs.length zs.length, .bool true]) ∧ Has w' g 3 (i64s (Shp.at zs i).1))))) :
    ∃ A, e = .returned (.tuple #[.slice A (Shp.where zs i).length (Shp.where zs i).length, .bool (Shp.has zs i)]) ∧ Ri w' A (Shp.where zs i) := by
  unfold Shp.where Shp.has
  rcases h with ⟨h, rfl⟩ | ⟨h0, ⟨h, rfl⟩ | ⟨h, g, rfl, hg⟩⟩
  · rw [decide_eq_false (by omega), if_neg (by decide)]
    exact ⟨none, rfl, Ri.nil _ _⟩
  · rw [decide_eq_false (by omega), if_neg (by decide)]
    exact ⟨none, rfl, Ri.nil _ _⟩
  · rw [decide_eq_true ⟨h0, h⟩, if_pos rfl, Shp.at_length]
    refine ⟨_, rfl, hg.ri fun x hx => ?_⟩
    have hok : Shp.ok zs = true := by
      have h' := h
      unfold Shp.elems at h'
      split at h'
      · assumption
      · omega
    have := (Shp.at_bound zs i h0 (fun z hz => by
      obtain ⟨j, hj⟩ := List.getElem?_of_mem hz
      exact (Shp.dims zs hok j z hj).1)).2 x hx
    exact wf_i64 x (by omega)
theorem Shp.where_length (zs : List Int) (i : Int) : (Shp.where zs i).length ≤ zs.length := by
  unfold Shp.where
  split
  · rw [Shp.at_length]; exact Nat.le_refl _
  · exact Nat.zero_le _
theorem at_any (zs : List Int) (P : Option Addr) (cap : Nat) (i : Int) (am ar : Addr) (w : World) (hr : Ri w P zs) (hm : zs.length ≤ 9223372036854775807) (hE : E2 w am ar) (hi2 : i ≤ 9223372036854775807) :
    Calls Tryd.prog 33 #[.slice P zs.length cap, .int .i64 i] w fun e w' =>
      (∃ A, e = .returned (.tuple #[.slice A (Shp.where zs i).length (Shp.where zs i).length, .bool (Shp.has zs i)]) ∧ Ri w' A (Shp.where zs i)) ∧ Below w.heap.size w w' := by
  by_cases hi : i < 0
  · exact (at_neg _ cap P i hi w).mono fun e w' h => ⟨at_said zs i hi2 (.inl ⟨hi, h.1⟩), h.2⟩
  · exact (at_c zs P cap i am ar w hr hm hE (by omega) hi2).mono fun e w' h => ⟨at_said zs i hi2 (.inr ⟨by omega, h.1⟩), h.2⟩
theorem refat_any (zs : List Int) (P : Option Addr) (cap : Nat) (i : Int) (w : World) (hr : Ri w P zs) (hm : zs.length ≤ 9223372036854775807) (hi2 : i ≤ 9223372036854775807) :
    Calls Tryd.prog 34 #[.slice P zs.length cap, .int .i64 i] w fun e w' =>
      (∃ A, e = .returned (.tuple #[.slice A (Shp.where zs i).length (Shp.where zs i).length, .bool (Shp.has zs i)]) ∧ Ri w' A (Shp.where zs i)) ∧ Below w.heap.size w w' := by
  by_cases hi : i < 0
  · exact (refat_neg _ cap P i hi w).mono fun e w' h => ⟨at_said zs i hi2 (.inl ⟨hi, h.1⟩), h.2⟩
  · exact (refat_c zs P cap i w hr hm (by omega) hi2).mono fun e w' h => ⟨at_said zs i hi2 (.inr ⟨by omega, h.1⟩), h.2⟩
set_option maxRecDepth 100000 in
theorem places_long (am ar : Addr) (n m : Nat) (P Q : Option Addr) (cap capq : Nat) (i : Int) (w : World) (hE : E2 w am ar) (hn : n ≤ 9223372036854775807) (hm : m ≤ 9223372036854775807) (h : 8 < n ∨ 8 < m) :
    Calls Tryd.prog 4 #[.slice P n cap, .slice Q m capq, .int .i64 i] w fun e w' => e = .returned (.bool true) ∧ Below w.heap.size w w' := by
  have H0 := hide (first_c am ar w hE)
  clear hE
  by_cases h1 : 8 < n
  · have h1' : (8 : Int) < n := by omega
    clear h
    go_enter Tryd.func4, Tryd.ntmps4
    go_wp2_with fail
    refine H0.out.mono ?_
    rintro e w1 ⟨rfl, hb⟩
    go_wp2_with fail
    go_ret
    exact ⟨rfl, hb⟩
  · have h1' : ¬ (8 : Int) < n := by omega
    have h2' : (8 : Int) < m := by omega
    clear h
    go_enter Tryd.func4, Tryd.ntmps4
    go_wp2_with fail
    refine H0.out.mono ?_
    rintro e w1 ⟨rfl, hb⟩
    go_wp2_with fail
    go_ret
    exact ⟨rfl, hb⟩
set_option maxRecDepth 100000 in
set_option maxHeartbeats 4000000 in
theorem places_short (am ar : Addr) (zs ys : List Int) (P Q : Option Addr) (cap capq : Nat) (i : Int) (w : World) (hr : Ri w P zs) (hq : Ri w Q ys) (hE : E2 w am ar) (hn : zs.length ≤ 8) (hm : ys.length ≤ 8) (hi : i ≤ 9223372036854775807) :
    Calls Tryd.prog 4 #[.slice P zs.length cap, .slice Q ys.length capq, .int .i64 i] w fun e w' => e = .returned (.bool true) ∧ Below w.heap.size w w' := by
  have H0 := hide (first_c am ar w hE)
  have HI := hide (fun w1 hb => index_c zs ys P Q cap capq am ar w1 (hr.below hb) (hq.below hb) (by omega) (by omega) (hE.below hb))
  have HJ := hide (fun w1 hb => refindex_c zs ys P Q cap capq w1 (hr.below hb) (hq.below hb) (by omega) (by omega))
  have HK := hide (fun w1 hb => at_any zs P cap i am ar w1 (hr.below hb) (by omega) (hE.below hb) hi)
  have HL := hide (fun w1 hb => refat_any zs P cap i w1 (hr.below hb) (by omega) hi)
  have hlw := Shp.where_length zs i
  have HS := hide (fun A B (w1 : World) (ha : Ri w1 A (Shp.where zs i)) (hb : Ri w1 B (Shp.where zs i)) => sameints_c (Shp.where zs i) (Shp.where zs i) A B (Shp.where zs i).length (Shp.where zs i).length w1 ha hb (by omega) (by omega))
  obtain ⟨L, hL⟩ : ∃ L, Hid (Shp.where zs i = L) := ⟨_, hide rfl⟩
  obtain ⟨b, hb'⟩ : ∃ b, Hid (Shp.has zs i = b) := ⟨_, hide rfl⟩
  rw [hL.out] at HK HL HS
  rw [hb'.out] at HK HL
  obtain ⟨l, hl⟩ : ∃ l, Hid (L.length = l) := ⟨_, hide rfl⟩
  rw [hl.out] at HK HL HS
  rw [decide_eq_true (rfl : L = L)] at HS
  obtain ⟨O, hO⟩ : ∃ O, Hid ((Shp.index zs ys).getD 0 = O) := ⟨_, hide rfl⟩
  obtain ⟨c, hc⟩ : ∃ c, Hid ((Shp.index zs ys).isSome = c) := ⟨_, hide rfl⟩
  rw [hO.out, hc.out] at HI HJ
  obtain ⟨n, hn'⟩ : ∃ n, Hid (zs.length = n) := ⟨_, hide rfl⟩
  obtain ⟨m, hm'⟩ : ∃ n, Hid (ys.length = n) := ⟨_, hide rfl⟩
  rw [hn'.out] at HI HJ HK HL hn ⊢
  rw [hm'.out] at HI HJ hm ⊢
  have h1' : (n : Int) ≤ 8 := by omega
  have h2' : (m : Int) ≤ 8 := by omega
  clear hr hq hE hn hm hn' hm' hL hb' hl hO hc hlw hi
  go_enter Tryd.func4, Tryd.ntmps4
  go_wp2_with fail
  refine H0.out.mono ?_
  rintro e w1 ⟨rfl, hb⟩
  have HB := hide hb
  go_wp2_with fail
  refine (HI.out w1 hb).mono ?_
  clear hb
  rintro e w2 ⟨rfl, hb2⟩
  have HB2 := hide (HB.out.trans (hb2.mono HB.out.size))
  clear hb2 HB HI H0
  go_wp2_with fail
  refine (HJ.out w2 HB2.out).mono ?_
  rintro e w3 ⟨rfl, hb3⟩
  have HB3 := hide (HB2.out.trans (hb3.mono HB2.out.size))
  clear hb3 HB2 HJ
  go_wp2_with fail
  refine (HK.out w3 HB3.out).mono ?_
  rintro e w4 ⟨⟨A, rfl, hA⟩, hb4⟩
  have HB4 := hide (HB3.out.trans (hb4.mono HB3.out.size))
  have HA := hide hA
  clear hb4 HB3 HK hA
  go_wp2_with fail
  refine (HL.out w4 HB4.out).mono ?_
  rintro e w5 ⟨⟨B, rfl, hB⟩, hb5⟩
  have HB5 := hide (HB4.out.trans (hb5.mono HB4.out.size))
  have HS5 := hide (HS.out A B w5 (HA.out.below hb5) hB)
  clear hb5 HB4 HL hB HA HS
  go_wp2_with fail
  refine HS5.out.mono ?_
  rintro e w6 ⟨rfl, hb6⟩
  have hfin := HB5.out.trans (hb6.mono HB5.out.size)
  clear hb6
  go_wp2_with fail
  go_ret
  exact ⟨rfl, hfin⟩
theorem shapeplaces_any (am ar : Addr) (zs ys : List Int) (P Q : Option Addr) (cap capq : Nat) (i : Int) (w : World) (hr : Ri w P zs) (hq : Ri w Q ys) (h1 : zs.length ≤ cap) (h2 : cap ≤ 9223372036854775807) (k1 : ys.length ≤ capq) (k2 : capq ≤ 9223372036854775807) (hi : (Lit.int .i64 i).wf = true) (hE : E2 w am ar) :
    Calls Tryd.prog 4 #[.slice P zs.length cap, .slice Q ys.length capq, .int .i64 i] w fun e w' => e = .returned (.bool true) ∧ Below w.heap.size w w' := by
  by_cases h : 8 < zs.length ∨ 8 < ys.length
  · exact places_long am ar _ _ P Q cap capq i w hE (by omega) (by omega) h
  · exact places_short am ar zs ys P Q cap capq i w hr hq hE (by omega) (by omega) (i64_wf hi).2
end Go.Proofs.YtnbjcdmiehnceaaDoor
