/-
  The examples of package lodgelaw6, walked. By an AI agent. No person has read it.
-/
import Derived.Test.YtnbjcdmiehnceaaDoorTenF
import Derived.Test.YtnbjcdmiehnceaaDoorBasC
import Derived.Test.YtnbjcdmiehnceaaDoorBasE
namespace Go.Proofs.YtnbjcdmiehnceaaDoor
open Go.RowKit

theorem e3_of {w : World} {es : List Addr} (h : Ez w es) : ∃ ah am ar, es[0]? = some ah ∧ es[3]? = some am ∧ es[1]? = some ar ∧ E3 w ah am ar := by
  obtain ⟨ah, hh⟩ : ∃ a, es[0]? = some a := ⟨_, List.getElem?_eq_getElem (by rw [h.1]; decide)⟩
  obtain ⟨am, hm⟩ : ∃ a, es[3]? = some a := ⟨_, List.getElem?_eq_getElem (by rw [h.1]; decide)⟩
  obtain ⟨ar, hr⟩ : ∃ a, es[1]? = some a := ⟨_, List.getElem?_eq_getElem (by rw [h.1]; decide)⟩
  exact ⟨ah, am, ar, hh, hm, hr, h.2.2 0 _ ah rfl hh, h.2.2 3 _ am rfl hm, h.2.2 1 _ ar rfl hr⟩
theorem first_bytes : Tens.bytes [] false [5] = [0, 5] := by decide
theorem first_fault : Tens.fault [] false [5] = (0, none) := by decide
set_option maxRecDepth 100000 in
set_option maxHeartbeats 4000000 in
theorem first6_c (ah am ar : Addr) (w : World) (hE : E3 w ah am ar) :
    Calls Tryd.prog 38 #[] w fun e w' => e = .returned (.bool true) ∧ Below w.heap.size w w' := by
  have hb0 := (Below.refl _ w).alloc (Nat.le_refl _) (Obj.cells #[.int .i64 5] 3)
  have HN := hide (tnew_c [] [5] none (some ⟨w.heap.size, 0, none⟩) 0 1 false ah am ar (w.alloc (Obj.cells #[.int .i64 5] 3)) (Ri.nil _ _) (new_ri w 3 [5] (by decide)) (by decide) (by decide) (hE.below hb0))
  have HB := hide (fun g gd c cd W rest rd (hb : Below w.heap.size w W) (h1 : Has W g 3 (i64s [] ++ rest)) (h2 : Has W gd 3 (i64s [5] ++ rd)) => tbytes_c [] [5] (some ⟨g, 0, none⟩) (some ⟨gd, 0, none⟩) c cd false ah am ar W (h1.ri_app (by decide)) (h2.ri_app (by decide)) (by decide) (by decide) (hE.below hb))
  have HB0 := hide hb0
  rw [first_bytes] at HB
  clear hb0 hE
  have HS := hide (fun A B ca cb W (ha : Rb W A [0, 5]) (hb : Rb W B [0, 5]) => samebytes_c [0, 5] [0, 5] A B ca cb W ha hb (by decide) (by decide))
  rw [decide_eq_true (rfl : ([0, 5] : List Nat) = [0, 5])] at HS
  go_enter Tryd.func38, Tryd.ntmps38
  go_wp2_with fail
  refine HN.out.mono ?_
  rintro e w1 ⟨h1, -, hb1⟩
  obtain ⟨g, c, rest, gd, cd, rd, rfl, hg, hc1, hc2, hC, hgd, hd1, hd2, hD, hne⟩ := h1 first_fault
  have hF := HB0.out.trans (hb1.mono HB0.out.size)
  have hbT := (Below.refl _ w1).alloc (Nat.le_refl _) (Obj.cells (tcells (some ⟨g, 0, none⟩) ([] : List Int).length c false (some ⟨gd, 0, none⟩) [(5 : Int)].length cd) 53)
  have hF2 := hF.trans (hbT.mono hF.size)
  have HB2 := hide (HB.out g gd c cd _ rest rd hF2 (hC.below hbT hC.lt) (hD.below hbT hD.lt))
  have HF2 := hide hF2
  clear h1 hb1 hC hD hF hbT hF2 HN HB HB0
  go_wp2_with fail
  refine HB2.out.mono ?_
  rintro e w2 ⟨⟨v, rfl, hv⟩, hb2⟩
  obtain ⟨A, ca, rfl, -, -, -, hrb⟩ := own_rb hv (by decide)
  have hF3 := HF2.out.trans (hb2.mono HF2.out.size)
  have hba := (Below.refl w2.heap.size w2).alloc (Nat.le_refl _) (Obj.cells (u8s [0, 5]).toArray 5)
  have HS2 := hide (HS.out A (some ⟨w2.heap.size, 0, none⟩) ca 2 _ (hrb.below hba) ((Has.new w2 5 (u8s [0, 5])).rb (by decide)))
  have HF4 := hide (hF3.trans (hba.mono hF3.size))
  clear hv hb2 hrb hF3 hba HS HB2 HF2
  go_wp2_with fail
  refine HS2.out.mono ?_
  rintro e w3 ⟨rfl, hb3⟩
  have hfin := HF4.out.trans (hb3.mono HF4.out.size)
  clear hb3
  go_wp2_with fail
  go_ret
  exact ⟨rfl, hfin⟩
/-- n gone round wide, cut to narrow. -/
def Tens.wide (n : Int) : Int := (n + 2147483648) % 4294967296 - 2147483648
def Tens.narrow (n : Int) : Int := max (-128) (min n 127)
theorem wide_c (n : Int) (w : World) : Calls Tryd.prog 50 #[.int .i64 n] w fun e w' => e = .returned (.int .i64 (Tens.wide n)) ∧ w' = w := by
  have h1 : IntKind.i32.wrap n = Tens.wide n := by rw [IntKind.wrap_i32]; rfl
  have h2 : IntKind.i64.wrap (Tens.wide n) = Tens.wide n := by rw [IntKind.wrap_i64]; unfold Tens.wide; omega
  obtain ⟨q, hq⟩ : ∃ q, Hid (Tens.wide n = q) := ⟨_, hide rfl⟩
  rw [hq.out] at h1 h2 ⊢
  clear hq
  go_enter Tryd.func50, Tryd.ntmps50
  go_wp2_with fail
  go_ret
  exact ⟨rfl, rfl⟩
theorem narrow_c (n : Int) (w : World) : Calls Tryd.prog 49 #[.int .i64 n] w fun e w' => e = .returned (.int .i64 (Tens.narrow n)) ∧ w' = w := by
  by_cases h1 : n < -128
  · have e : Tens.narrow n = -128 := by unfold Tens.narrow; omega
    rw [e]
    go_enter Tryd.func49, Tryd.ntmps49
    go_wp2_with fail
    all_goals go_ret
    all_goals refine ⟨?_, rfl⟩
    all_goals first | rfl | (obtain rfl : n = -128 := (by omega); rfl)
  · by_cases h2 : 127 < n
    · have e : Tens.narrow n = 127 := by unfold Tens.narrow; omega
      rw [e]
      go_enter Tryd.func49, Tryd.ntmps49
      go_wp2_with fail
      all_goals go_ret
      all_goals refine ⟨?_, rfl⟩
      all_goals first | rfl | (obtain rfl : n = -128 := (by omega); rfl)
    · have e : Tens.narrow n = n := by unfold Tens.narrow; omega
      rw [e]
      go_enter Tryd.func49, Tryd.ntmps49
      go_wp2_with fail
      all_goals go_ret
      all_goals refine ⟨?_, rfl⟩
      all_goals first | rfl | (obtain rfl : n = -128 := (by omega); rfl)
end Go.Proofs.YtnbjcdmiehnceaaDoor
