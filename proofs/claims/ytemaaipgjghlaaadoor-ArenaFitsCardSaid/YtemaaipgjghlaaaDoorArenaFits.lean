/-
  The law ArenaFits, walked. By an AI agent. No person has read it.
-/
import Derived.Test.YtemaaipgjghlaaaDoorAreFc
import Derived.Test.YtemaaipgjghlaaaDoorErrD
namespace Go.Proofs.YtemaaipgjghlaaaDoor
open Go.RowKit

/-- k blocks of n bytes, one behind the other. -/
def Fit.bl (n : Nat) : Nat → Nat → List (Nat × Nat)
  | _, 0 => []
  | s, k + 1 => (s, n) :: Fit.bl n (s + n) k
theorem Fit.len (n : Nat) : ∀ (k s : Nat), (Fit.bl n s k).length = k
  | 0, _ => rfl
  | k + 1, s => by rw [Fit.bl, List.length_cons, Fit.len n k]
theorem Fit.sum (n : Nat) : ∀ (k s : Nat), Bk.sum (Fit.bl n s k) = k * n
  | 0, _ => by simp [Fit.bl, Bk.sum]
  | k + 1, s => by
    have h := Fit.sum n k (s + n)
    unfold Bk.sum at h ⊢
    rw [Fit.bl, List.map_cons, List.sum_cons, h, Nat.succ_mul]
    omega
theorem Fit.snoc (n : Nat) : ∀ (k s : Nat), Fit.bl n s k ++ [(s + k * n, n)] = Fit.bl n s (k + 1)
  | 0, s => by simp [Fit.bl]
  | k + 1, s => by
    rw [Fit.bl, List.cons_append, Fit.bl, show s + (k + 1) * n = (s + n) + k * n by rw [Nat.succ_mul]; omega, Fit.snoc n k (s + n)]
theorem Fit.gap (n size : Nat) (hn : 1 ≤ n) : ∀ (k s i : Nat), Ar.gap (n : Int) size s i (Fit.bl n s k) = (s + k * n, i + k, decide ((n : Int) ≤ (size : Int) - ((s + k * n : Nat) : Int)))
  | 0, s, i => by simp [Fit.bl, Ar.gap]
  | k + 1, s, i => by
    rw [Fit.bl, Ar.gap, if_neg (by omega), Fit.gap n size hn k (s + n) (i + 1), Nat.succ_mul, show s + n + k * n = s + (k * n + n) by omega, show i + 1 + k = i + (k + 1) by omega]
theorem Fit.at_ (n : Nat) : ∀ (k s j : Nat), j < k → (Fit.bl n s k)[j]? = some (s + j * n, n)
  | 0, _, _, h => by omega
  | k + 1, s, 0, _ => by simp [Fit.bl]
  | k + 1, s, j + 1, h => by
    rw [Fit.bl, List.getElem?_cons_succ, Fit.at_ n k (s + n) j (by omega), Nat.succ_mul, show s + n + j * n = s + (j * n + n) by omega]
theorem Fit.spot (n : Nat) (hn : 1 ≤ n) : ∀ (k s i j : Nat), j < k → Ar.spot ((s + j * n : Nat) : Int) i (Fit.bl n s k) = ((i + j : Nat) : Int)
  | 0, _, _, _, h => by omega
  | k + 1, s, i, 0, _ => by
    rw [Fit.bl, Ar.spot, if_pos (by show (s : Int) = _; simp)]
    simp
  | k + 1, s, i, j + 1, h => by
    have hm : (j + 1) * n = j * n + n := Nat.succ_mul j n
    rw [Fit.bl, Ar.spot, if_neg (by show ¬ (s : Int) = _; omega), show s + (j + 1) * n = (s + n) + j * n by omega, Fit.spot n hn k (s + n) (i + 1) j (by omega)]
    congr 1
    omega
theorem Fit.again (n size : Nat) (hn : 1 ≤ n) : ∀ (k s i j : Nat), j < k → s + k * n ≤ size → Ar.gap (n : Int) size s i ((Fit.bl n s k).take j ++ (Fit.bl n s k).drop (j + 1)) = (s + j * n, i + j, true)
  | 0, _, _, _, h, _ => by omega
  | k + 1, s, i, 0, _, hs => by
    have hm : (k + 1) * n = k * n + n := Nat.succ_mul k n
    rw [Fit.bl, List.take_zero, List.nil_append, List.drop_succ_cons, List.drop_zero]
    cases k with
    | zero =>
      simp only [Fit.bl, Ar.gap, Nat.zero_mul, Nat.add_zero, Prod.mk.injEq, true_and, decide_eq_true_eq]
      omega
    | succ k =>
      rw [Fit.bl, Ar.gap, if_pos (by show (n : Int) ≤ ((s + n : Nat) : Int) - (s : Int); omega)]
      simp
  | k + 1, s, i, j + 1, h, hs => by
    have hm : (j + 1) * n = j * n + n := Nat.succ_mul j n
    have hk : (k + 1) * n = k * n + n := Nat.succ_mul k n
    rw [Fit.bl, List.take_succ_cons, List.cons_append, List.drop_succ_cons, Ar.gap, if_neg (by omega), Fit.again n size hn k (s + n) (i + 1) j (by omega) (by omega)]
    rw [show s + n + j * n = s + (j + 1) * n by omega, show i + 1 + j = i + (j + 1) by omega]

set_option maxRecDepth 100000 in
set_option maxHeartbeats 8000000 in
theorem arenafits_c (n0 n1 n2 : Int) (es : List Addr) (w : World) (hE : Ez w es) :
    Calls Tryd.prog 5 #[.int .i64 n0, .int .i64 n1, .int .i64 n2] w fun e w' => e = .returned (.bool true) ∧ Below w.heap.size w w' := by
  have HE := hide hE
  obtain ⟨ar, har⟩ : ∃ ar, es[5]? = some ar := ⟨_, List.getElem?_eq_getElem (by rw [hE.1]; decide)⟩
  have HAR := hide har
  clear hE har
  go_enter Tryd.func5, Tryd.ntmps5
  go_wp2_with fail
  refine (first13_c w).mono ?_
  rintro e w1 ⟨rfl, hb⟩
  have HB1 := hide hb
  clear hb
  go_wp2_with fail
  refine (number_c n0 300 (by decide) (by decide) 300 rfl w1).mono ?_
  rintro e w2 ⟨⟨s0, hs0, rfl⟩, rfl⟩
  obtain ⟨s, hs⟩ : ∃ s, Hid (s0 + 1 = s) := ⟨_, hide rfl⟩
  have fs : IntKind.i64.wrap ((s0 : Int) + 1) = (s : Int) := by rw [IntKind.wrap_i64]; have := hs.out; omega
  go_wp2_with fail
  refine (number_c n1 20 (by decide) (by decide) 20 rfl w2).mono ?_
  rintro e w3 ⟨⟨m0, hm0, rfl⟩, rfl⟩
  obtain ⟨n, hn⟩ : ∃ n, Hid (m0 + 1 = n) := ⟨_, hide rfl⟩
  have fn : IntKind.i64.wrap ((m0 : Int) + 1) = (n : Int) := by rw [IntKind.wrap_i64]; have := hn.out; omega
  have hsb : 1 ≤ s ∧ s ≤ 300 := by have := hs.out; omega
  have hnb : 1 ≤ n ∧ n ≤ 20 := by have := hn.out; omega
  have fs5 : IntKind.i64.wrap ((s : Int) + 5) = ((s + 5 : Nat) : Int) := by rw [IntKind.wrap_i64]; omega
  have VN := hide (fnew (s + 5) (by omega) (by omega) w3)
  rw [show ((s + 5 : Nat) : Int) = (s : Int) + 5 by omega] at VN
  go_wp2_with fail
  refine VN.out.mono ?_
  rintro e w4 ⟨a, rfl, hI, hb⟩
  have HI4 := hide hI
  have HB4 := hide (HB1.out.trans (hb.mono HB1.out.size))
  have VA := hide (fadd_ok 3 s 0 0 hI (by decide) hsb.1 rfl (by rw [List.length_replicate]; simp only [List.map_nil, Ar.gap, Prod.mk.injEq, true_and, decide_eq_true_eq]; omega))
  have HW3 : w.heap.size ≤ w3.heap.size := HB1.out.size
  clear hI hb VN HB1
  obtain ⟨B, hB⟩ : ∃ B, Hid (w3.heap.size = B) := ⟨_, hide rfl⟩
  rw [hB.out] at HI4 VA
  have hBw : w.heap.size ≤ B := by rw [← hB.out]; exact HW3
  go_wp2_with fail
  refine VA.out.mono ?_
  rintro e w5 ⟨rfl, hI, hT⟩
  have HB5 := hide (HB4.out.trans (hT.below.mono hBw))
  have HB6 := hide (HB5.out.alloc HB5.out.size (.cells #[.int .i64 3, .int .i64 0, .int .i64 (s : Nat)] 30))
  have HI6 := hide (hI.below ((Below.refl w5.heap.size w5).alloc (Nat.le_refl _) (.cells #[.int .i64 3, .int .i64 0, .int .i64 (s : Nat)] 30))).1
  obtain ⟨W, hW⟩ : ∃ W, Hid (w5.alloc (.cells #[.int .i64 3, .int .i64 0, .int .i64 (s : Nat)] 30) = W) := ⟨_, hide rfl⟩
  obtain ⟨mem, hmem⟩ : ∃ mem, Hid (List.replicate (s + 5) 0 = mem) := ⟨_, hide rfl⟩
  rw [hW.out] at HB6 HI6
  rw [hmem.out] at HI6
  have HI7 : Hid (Ar.Is B W a mem [⟨3, 0, s, Fit.bl n 0 0⟩] fun _ => False) := HI6
  clear hI hT HB4 HB5 HI4 HI6 VA fs fn fs5 hs0 hm0
  go_wp2_with fail
  rw [hW.out]
  go_loopw [12] (fun v wr => ∃ k : Nat, k * n ≤ s ∧ k ≤ 300 ∧ v = .int .i64 k ∧ Hid (Ar.Is B wr a mem [⟨3, 0, s, Fit.bl n 0 k⟩] fun _ => False) ∧ Hid (Below w.heap.size w wr)) (fun v _ => 301 - (intOf v).toNat)
  case atStart => exact ⟨0, by omega, by omega, rfl, HI7, HB6⟩
  case round =>
    obtain ⟨k, hks, hk3, rfl, HI, HB⟩ := hrel
    have hg := Fit.gap n s hnb.1 k 0 0
    rw [Nat.zero_add, Nat.zero_add] at hg
    have hkn : k ≤ k * n := Nat.le_mul_of_pos_right k hnb.1
    by_cases hfit : n ≤ s - k * n
    · rw [decide_eq_true (by omega)] at hg
      have VT := hide (ftake_ok 3 n (k * n) k 0 ⟨3, 0, s, Fit.bl n 0 k⟩ HI.out rfl rfl hnb.1 (by show s ≤ _; omega) hg)
      have hml : IntKind.i64.wrap ((k : Int) * (n : Int)) = ((k * n : Nat) : Int) := by rw [IntKind.wrap_i64, ← Int.natCast_mul]; omega
      obtain ⟨q, hq⟩ : ∃ q, Hid (k * n = q) := ⟨_, hide rfl⟩
      have hlen := Fit.len n k 0
      have hsn := Fit.snoc n k 0
      rw [Nat.zero_add] at hsn
      have e : (Pt.mk 3 0 s (Fit.bl n 0 k)).with_ ((Fit.bl n 0 k).take k ++ (k * n, n) :: (Fit.bl n 0 k).drop k) = ⟨3, 0, s, Fit.bl n 0 (k + 1)⟩ := by
        rw [List.take_of_length_le (by omega), List.drop_eq_nil_of_le (by omega), hsn]
        rfl
      have hk1 : (k + 1) * n ≤ s := by rw [Nat.succ_mul]; omega
      have hk2 : k + 1 ≤ 300 := by
        have := Nat.le_mul_of_pos_right (k + 1) hnb.1
        omega
      have hrest : [(Pt.mk 3 0 s (Fit.bl n 0 k))].set 0 ((Pt.mk 3 0 s (Fit.bl n 0 k)).with_ ((Fit.bl n 0 k).take k ++ (k * n, n) :: (Fit.bl n 0 k).drop k)) = [⟨3, 0, s, Fit.bl n 0 (k + 1)⟩] := by
        rw [e]
        rfl
      dsimp only at VT
      rw [hrest] at VT
      rw [hq.out] at VT hml
      have HK1 := hide hk1
      have HKN := hide hks
      clear hg hlen hsn e hrest HI hk1 hks hfit
      go_wp2_with fail
      refine VT.out.mono ?_
      rintro e w8 ⟨rfl, hI, hT⟩
      have HI8 := hide hI
      have HB8 := hide (HB.out.trans (hT.below.mono hBw))
      clear hI hT VT HB
      go_wp2_with fail
      go_roundw
      case rel => exact ⟨k + 1, HK1.out, hk2, by go_num, HI8, HB8⟩
      case measure => simp [intOf]; omega
    · rw [decide_eq_false (by omega)] at hg
      have hE8 := (HE.out.below HB.out)
      have VT := hide (ftake_full 3 n (k * n) k 0 ⟨3, 0, s, Fit.bl n 0 k⟩ HI.out rfl rfl hnb.1 (by show s ≤ _; omega) hg ar (hE8.2.2 5 _ ar rfl HAR.out))
      have hml : IntKind.i64.wrap ((k : Int) * (n : Int)) = ((k * n : Nat) : Int) := by rw [IntKind.wrap_i64, ← Int.natCast_mul]; omega
      have hdv : s / n = k := by
        have h1 : (k + 1) * n = k * n + n := Nat.succ_mul k n
        exact Nat.div_eq_of_lt_le (by omega) (by omega)
      have hdi : (s : Int) / (n : Int) = (k : Int) := by rw [← Int.natCast_ediv, hdv]
      have hdt : (s : Int).tdiv (n : Int) = (k : Int) := by rw [Int.tdiv_eq_ediv_of_nonneg (by omega)]; exact hdi
      have hsum := Fit.sum n k 0
      obtain ⟨q, hq⟩ : ∃ q, Hid (k * n = q) := ⟨_, hide rfl⟩
      rw [hq.out] at hml hsum
      have HKS := hide hks
      have HSUM := hide hsum
      have HML := hide hml
      have HDI := hide hdi
      have HDT := hide hdt
      clear hg hE8 hks hfit hdv hdi hdt hsum hml hkn
      go_wp2_with fail
      refine VT.out.mono ?_
      rintro e w8 ⟨rfl, hI, hT⟩
      have HI8 := hide hI
      have HB8 := hide (HB.out.trans (hT.below.mono hBw))
      clear hI hT VT HB HI
      go_wp2_with fail
      refine (is_c es 5 ar HAR.out 106 w8 (HE.out.below HB8.out)).mono ?_
      rintro e w9 ⟨rfl, hb⟩
      have HI9 := hide (HI8.out.below hb).1
      have HB9 := hide (HB8.out.trans (hb.mono HB8.out.size))
      clear hb HI8 HB8
      have hn0 : ¬ ((n : Int) = 0) := by omega
      have hn1 : ¬ (n = 0) := by omega
      have hq1 := HDI.out
      have hq2 := HDT.out
      have hq3 : wrap64 (k : Int) = (k : Int) := by unfold wrap64; omega
      have hml := HML.out
      have VU := hide (fused 3 0 ⟨3, 0, s, Fit.bl n 0 k⟩ HI9.out rfl rfl (by show s ≤ _; omega))
      rw [show Bk.sum (Pt.mk 3 0 s (Fit.bl n 0 k)).bs = q from HSUM.out] at VU
      go_wp2_with fail
      refine VU.out.mono ?_
      rintro e w10 ⟨rfl, hb⟩
      have HI10 := hide (HI9.out.below hb).1
      have HB10 := hide (HB9.out.trans (hb.mono HB9.out.size))
      clear hb HI9 HB9 VU
      by_cases hk0 : k = 0
      · obtain rfl : q = 0 := by rw [← hq.out, hk0, Nat.zero_mul]
        subst hk0
        clear hq1 hq2 hq3 hml
        go_wp2_with fail
        go_ret
        exact ⟨rfl, HB10.out⟩
      · have hk0' : ¬ ((k : Int) = 0) := by omega
        clear hq1 hq2 hq3
        go_wp2_with fail
        refine (number_c n2 k (by omega) (by omega) k rfl w10).mono ?_
        rintro e w11 ⟨⟨j, hj, rfl⟩, rfl⟩
        clear hml
        have hjs : j * n < k * n := Nat.mul_lt_mul_of_pos_right hj hnb.1
        have hjl : IntKind.i64.wrap ((j : Int) * (n : Int)) = ((j * n : Nat) : Int) := by
          have h1 := HKS.out
          rw [IntKind.wrap_i64, ← Int.natCast_mul]
          omega
        have hsp := Fit.spot n hnb.1 k 0 0 j hj
        have hat := Fit.at_ n k 0 j hj
        have hag := Fit.again n s hnb.1 k 0 0 j hj (by have := HKS.out; omega)
        rw [Nat.zero_add, Nat.zero_add] at hsp hag
        rw [Nat.zero_add] at hat
        have VD := hide (fdrop 3 (j * n) n j 0 ⟨3, 0, s, Fit.bl n 0 k⟩ HI10.out rfl rfl (by show s ≤ _; omega) hat hsp)
        have VT2 := hide (fun W T mem' (hI : Ar.Is B W a mem' ([(Pt.mk 3 0 s (Fit.bl n 0 k))].set 0 ((Pt.mk 3 0 s (Fit.bl n 0 k)).with_ ((Fit.bl n 0 k).take j ++ (Fit.bl n 0 k).drop (j + 1)))) T) => ftake_ok 3 n (j * n) j 0 ⟨3, 0, s, (Fit.bl n 0 k).take j ++ (Fit.bl n 0 k).drop (j + 1)⟩ hI rfl rfl hnb.1 (by show s ≤ _; omega) hag)
        obtain ⟨x, hx⟩ : ∃ x, Hid (j * n = x) := ⟨_, hide rfl⟩
        rw [hx.out] at hjl VD VT2
        clear hjs hsp hat hag HI10
        go_wp2_with fail
        refine VD.out.mono ?_
        rintro e w12 ⟨rfl, hI, hT⟩
        have HB12 := hide (HB10.out.trans (hT.below.mono hBw))
        have HT2 := hide (VT2.out _ _ _ hI)
        clear hI hT VD VT2 HB10
        go_wp2_with fail
        refine HT2.out.mono ?_
        rintro e w13 ⟨rfl, -, hT⟩
        have HB13 := hide (HB12.out.trans (hT.below.mono hBw))
        clear hT HT2 HB12
        go_wp2_with fail
        go_ret
        exact ⟨rfl, HB13.out⟩
end Go.Proofs.YtemaaipgjghlaaaDoor
