/-
  The document's own SHA-256, lodgeref1.Sum, walked: its answer is the digest. By an AI agent. No person has read it.
-/
import Derived.Test.YtijgomgiinlcoaaDoorShaRefL4
import Derived.Test.YtijgomgiinlcoaaDoorShaRefL5
import Derived.Test.YtijgomgiinlcoaaDoorShaRefL6
import Derived.Test.YtijgomgiinlcoaaDoorShaRefL7
namespace Go.Proofs.YtijgomgiinlcoaaDoor
open Go.RowKit

set_option maxRecDepth 100000 in
set_option maxHeartbeats 16000000 in
theorem refsum_c (bs : List Nat) (A : Option Addr) (cap : Nat) (W : World) (hR : Rb W A bs) (hl : bs.length ≤ 1000000) :
    Calls Tryd.prog 13 #[.slice A bs.length cap] W fun e w' => e = .returned (.agg (u8s (Sha.digest bs)).toArray) ∧ Below W.heap.size W w' := by
  obtain ⟨n, hn⟩ : ∃ n, Hid (bs.length = n) := ⟨_, hide rfl⟩
  rw [hn.out] at hl ⊢
  have HR := hide hR
  have hbb := hide hR.1
  clear hR
  obtain ⟨i0, hi0, hz0, hz1, hz2⟩ := u8info
  obtain ⟨Z, hZ⟩ : ∃ Z, Hid (madeCells (Value.int .u8 0).cells (n + 72) = Z) := ⟨_, hide rfl⟩
  have hZs : Hid (Z.size = n + 72) := hide (by rw [← hZ.out, size_madeCells])
  have hmk : ∀ w : World, (Instr.makeSlice 22 (.int .i64 0) (.int .i64 ((n : Int) + 72))).run Tryd.prog w = .ok (.slice (some ⟨w.heap.size, 0, none⟩) 0 (n + 72)) (w.alloc (.cells Z 5)) := by
    intro w
    have h := run_make (P := Tryd.prog) w 22 5 i0 (.int .u8 0) ubs hi0 hz0 .i64 .i64 0 ((n : Int) + 72) (by omega) (by omega) (by rw [hz2]; omega) (by omega)
    rw [hz1, show ((n : Int) + 72).toNat = n + 72 by omega, Nat.mul_one, hZ.out] at h
    exact h
  clear hi0 hz0 hz1 hz2
  have hr0 : Has (W.alloc (.cells (u8s (List.replicate 32 0)).toArray 24)) W.heap.size 24 (u8s (List.replicate 32 0)) := Has.new W _ _
  have hB1 : Below W.heap.size W (W.alloc (.cells (u8s (List.replicate 32 0)).toArray 24)) := (Below.refl _ _).alloc (Nat.le_refl _) _
  have HO1 := hide (heap_alloc_new W (.cells (u8s (List.replicate 32 0)).toArray 24))
  have hP0 : PadI W ((W.alloc (.cells (u8s (List.replicate 32 0)).toArray 24)).alloc (.cells Z 5)) (.slice (some ⟨W.heap.size + 1, 0, none⟩) 0 (n + 72)) [] := by
    refine ⟨⟨by simp, .inr ⟨_, n + 72, Z, rfl, Nat.le_refl _, ?_, by simp, by unfold maxLen; omega, by rw [hZs.out]; omega, by simp⟩⟩, hB1.alloc (by simp) _, hr0.alloc _⟩
    have h := heap_alloc_new (W.alloc (.cells (u8s (List.replicate 32 0)).toArray 24)) (.cells Z 5)
    rw [World.size_alloc] at h
    exact h
  have HP0 := hide hP0
  clear hP0 hr0 hB1 HO1
  have hb0 : Hid (0 + n ≤ 1000000000000) := hide (by omega)
  have hsz : Hid (W.heap.size + 1 ≤ ((W.alloc (.cells (u8s (List.replicate 32 0)).toArray 24)).alloc (.cells Z 5)).heap.size) := hide (by simp)
  have hR2 : Hid (Rb ((W.alloc (.cells (u8s (List.replicate 32 0)).toArray 24)).alloc (.cells Z 5)) A bs) := hide (HR.out.below (((Below.refl _ _).alloc (Nat.le_refl _) _).alloc (by simp) _))
  go_enter Tryd.func13, Tryd.ntmps13
  go_wp2_with (at_builtin; refine wpList_append_bs rfl (.tmp 27) (.tmp 28) rfl (W.heap.size + 1) _ 0 [] rfl HP0.out.1 A n cap bs rfl hn hR2.out hb0.out hsz.out ?_)
  intro v1 w1 hown1 hgrow1 _
  have hP1 : PadI W w1 v1 bs := HP0.out.app (by simpa using hown1) (by simp [hn.out]) hgrow1
  have HP1 := hide hP1
  have HP1a := hide (hP1.alloc (.cells #[.int .u8 128] 5))
  clear hown1 hgrow1 hP1 hR2 hsz hb0 HP0
  have hsz : Hid (W.heap.size + 1 ≤ (w1.alloc (.cells #[.int .u8 128] 5)).heap.size) := hide (by have := HP1.out.2.2.lt; simp; omega)
  have hb0 : Hid (bs.length + 1 ≤ 1000000000000) := hide (by rw [hn.out]; omega)
  have hr1 := hide (new_rb w1 128 128 rfl (by decide))
  go_wp2_with (at_builtin; refine wpList_append_bs rfl (.tmp 30) (.tmp 31) rfl (W.heap.size + 1) v1 bs.length (u8s bs) rfl HP1a.out.1 (some ⟨w1.heap.size, 0, none⟩) 1 1 [128] rfl (hide rfl) hr1.out hb0.out hsz.out ?_)
  intro v2 w2 hown2 hgrow2 _
  have hP2 : PadI W w2 v2 (Sha.pad0 bs 0) := by rw [Sha.pad0_zero]; exact HP1a.out.app hown2 (by simp) hgrow2
  clear hown2 hgrow2 HP1a HP1 hb0 hsz hr1
  go_wp2_with fail
  go_loopg [3] (Sha.zeros n) (fun k v wr => ∃ (j : Nat) (u : Value), j + k = Sha.zeros n ∧ u = v ∧ PadI W wr u (Sha.pad0 bs j))
  case atStart => exact ⟨0, _, by omega, rfl, hP2⟩
  case round =>
    obtain ⟨j, u, hj, rfl, hP⟩ := hrel
    clear hP2
    obtain ⟨L, hL⟩ : ∃ L, Hid ((Sha.pad0 bs j).length = L) := ⟨_, hide rfl⟩
    have hLe : Hid (n + 1 + j = L) := hide (by rw [← hL.out, Sha.pad0_length, hn.out])
    have hzl := Sha.zeros_lt n
    have hLl : L ≤ 1000100 := by have := hLe.out; omega
    have hat := Sha.zeros_at n j (by omega)
    rw [hLe.out] at hat
    have hrem : (L : Int).tmod 64 = (L : Int) % 64 := Int.tmod_eq_emod_of_nonneg (by omega)
    have h1 := hP.1
    rw [hL.out] at h1
    obtain ⟨A2, cap2, rfl, -, -, -, -, -⟩ := own_rb h1 (pad0_bytes hbb.out j)
    have H1 := hide h1
    have HP := hide hP
    clear h1 hP
    by_cases hlt : j < Sha.zeros n
    ·
      have ht : ((L : Int) % 64 != 56) = true := by
        rw [bne_iff_ne]
        intro e
        have := hat.1 (by omega)
        omega
      have HJ := hide hj
      have HAT := hide hat
      clear hj hat
      have HPa := hide (HP.out.alloc (.cells #[.int .u8 0] 5))
      have H1a := hide (H1.out.alloc (.cells #[.int .u8 0] 5))
      have hsz : Hid (W.heap.size + 1 ≤ (wr.alloc (.cells #[.int .u8 0] 5)).heap.size) := hide (by have := HP.out.2.2.lt; simp; omega)
      have hb0 : Hid (L + 1 ≤ 1000000000000) := hide (by omega)
      have hr1 := hide (new_rb wr 0 0 rfl (by decide))
      go_wp2_with (at_builtin; refine wpList_append_bs rfl (.tmp 37) (.tmp 38) rfl (W.heap.size + 1) _ L (u8s (Sha.pad0 bs j)) rfl H1a.out (some ⟨wr.heap.size, 0, none⟩) 1 1 [0] rfl (hide rfl) hr1.out hb0.out hsz.out ?_)
      intro v3 w3 hown3 hgrow3 _
      have hP3 : PadI W w3 v3 (Sha.pad0 bs (j + 1)) := by rw [← Sha.pad0_succ]; exact HPa.out.app hown3 (by simp [hL.out]) hgrow3
      clear hown3 hgrow3
      go_wp2_with fail
      go_roundg (gk - 1)
      case measure => have := HJ.out; omega
      case rel => exact ⟨j + 1, _, by have := HJ.out; omega, rfl, hP3⟩
    · obtain rfl : j = Sha.zeros n := by omega
      have ht : ((L : Int) % 64 != 56) = false := by
        have := hat.2 rfl
        simp
        omega
      have hP1 : PadI W wr (.slice A2 L cap2) (Sha.pad1 bs 0) := by rw [Sha.pad1_zero, hn.out]; exact HP.out
      have HP1 := hide hP1
      clear hP1 hj hat HP H1
      have hu : IntKind.u64.wrap ((n : Int) * 8) = (n : Int) * 8 := by rw [IntKind.wrap_u64]; omega
      go_wp2_with fail
      clear hrem ht hLl hLe hL hu
      go_loopg [3, 5] 8 (fun k v v5 wr => ∃ (i : Nat) (u : Value), i + k = 8 ∧ u = v ∧ v5 = .int .i64 (7 - (i : Int)) ∧ PadI W wr u (Sha.pad1 bs i))
      case atStart => exact ⟨0, _, rfl, rfl, rfl, HP1.out⟩
      case round =>
        obtain ⟨i, u, hi, rfl, rfl, hP⟩ := hrel
        clear HP1
        have HI := hide hi
        have hile : i ≤ 8 := by omega
        clear hi
        obtain ⟨L, hL⟩ : ∃ L, Hid ((Sha.pad1 bs i).length = L) := ⟨_, hide rfl⟩
        have hLl : L ≤ 1000100 := by rw [← hL.out, Sha.pad1_length _ _ hile, hn.out]; omega
        have h1 := hP.1
        rw [hL.out] at h1
        have HP := hide hP
        clear hP
        by_cases hlt : i < 8
        ·
          obtain ⟨A2, cap2, rfl, -, -, -, -, -⟩ := own_rb h1 (pad1_bytes hbb.out i)
          have H1 := hide h1
          clear h1
          obtain ⟨c, hc⟩ : ∃ c, Hid (7 - i = c) := ⟨_, hide rfl⟩
          have hci : 7 - (i : Int) = (c : Int) := by have := hc.out; omega
          have hcl : c ≤ 7 := by have := hc.out; omega
          rw [hci]
          clear hci
          obtain ⟨x, hx⟩ : ∃ x, Hid (n * 8 / 2 ^ (8 * c) % 256 = x) := ⟨_, hide rfl⟩
          have hx2 : (n : Int) * 8 / 2 ^ (8 * c) % 256 = (x : Int) := by rw [← hx.out]; simp
          have hxl : x < 256 := by rw [← hx.out]; exact Nat.mod_lt _ (by decide)
          have hw8 : IntKind.i64.wrap (8 * (c : Int)) = 8 * (c : Int) := by rw [IntKind.wrap_i64]; omega
          have hu8 : IntKind.u64.wrap (8 * (c : Int)) = 8 * (c : Int) := by rw [IntKind.wrap_u64]; omega
          have htn : (8 * (c : Int)).toNat = 8 * c := by omega
          have HPa := hide (HP.out.alloc (.cells #[.int .u8 (x : Int)] 5))
          have H1a := hide (H1.out.alloc (.cells #[.int .u8 (x : Int)] 5))
          have hsz : Hid (W.heap.size + 1 ≤ (wr.alloc (.cells #[.int .u8 (x : Int)] 5)).heap.size) := hide (by have := HP.out.2.2.lt; simp; omega)
          have hb0 : Hid (L + 1 ≤ 1000000000000) := hide (by omega)
          have hr1 := hide (new_rb wr x x rfl hxl)
          go_wp2_with (at_builtin; refine wpList_append_bs rfl (.tmp 48) (.tmp 55) rfl (W.heap.size + 1) _ L (u8s (Sha.pad1 bs i)) rfl H1a.out (some ⟨wr.heap.size, 0, none⟩) 1 1 [x] rfl (hide rfl) hr1.out hb0.out hsz.out ?_)
          intro v3 w3 hown3 hgrow3 _
          have hP3 : PadI W w3 v3 (Sha.pad1 bs (i + 1)) := by
            rw [← Sha.pad1_succ bs i hlt, hn.out, show 56 - 8 * i = 8 * c by have := hc.out; omega, hx.out]
            exact HPa.out.app hown3 (by simp [hL.out]) hgrow3
          clear hown3 hgrow3
          go_wp2_with fail
          go_roundg (gk - 1)
          case measure => have := HI.out; omega
          case rel => exact ⟨i + 1, _, by have := HI.out; omega, rfl, by first | (rw [show (7 : Int) - ((i + 1 : Nat) : Int) = (c : Int) - 1 by have := hc.out; omega]) | go_num, hP3⟩
        · rw [show (7 : Int) - (i : Int) = -1 by omega]
          obtain rfl : i = 8 := by omega
          have hMb0 := pad1_bytes hbb.out 8
          obtain ⟨M, hM⟩ : ∃ M, Hid (Sha.pad1 bs 8 = M) := ⟨_, hide rfl⟩
          have hL64 : L % 64 = 0 := by
            have hz := (Sha.zeros_at n (Sha.zeros n) (Nat.le_refl _)).2 rfl
            rw [← hL.out, Sha.pad1_length _ _ (Nat.le_refl _), hn.out]
            omega
          have hLpos : 0 < L := by rw [← hL.out, Sha.pad1_length _ _ (Nat.le_refl _)]; omega
          rw [hM.out] at h1 hMb0 hL
          have HP3 := hide (HP.out.2)
          rcases h1.2 with ⟨-, h0⟩ | ⟨gm, capm, cur, rfl, hge, hh, hcl, hcm, -, -⟩
          · omega
          have hgml := (h1.lt gm rfl).2
          have hRm : Hid (Rb wr (some ⟨gm, 0, none⟩) M) := hide ⟨hMb0, fun _ => ⟨_, rfl, hgml, fun i b hi => h1.cells (g := gm) rfl i _ (by rw [List.getElem?_map, hi]; rfl)⟩⟩
          clear h1 hh HP hMb0
          have hcapm : capm ≤ 9223372036854775807 := by unfold maxLen at hcm; omega
          go_wp2_with fail
          refine (refrounds_c wr).mono ?_
          rintro e w1 ⟨rfl, hK1, hB1⟩
          go_wp2_with fail
          refine (begin_c w1).mono ?_
          rintro e w2 ⟨rfl, hH2, hB2⟩
          have hB12 := hB1.trans (hB2.mono hB1.size)
          have hkl := hK1.lt
          have hRK2 : RK W gm wr.heap.size w1.heap.size M w2 := ⟨HP3.out.2.below hB12 HP3.out.2.lt, hK1.below hB2 hK1.lt, hRm.out.below hB12, HP3.out.1.trans (hB12.mono HP3.out.1.size), by omega, hgml, hkl, hH2.lt⟩
          obtain ⟨gk, hgk⟩ : ∃ g, Hid (wr.heap.size = g) := ⟨_, hide rfl⟩
          obtain ⟨gh, hgh⟩ : ∃ g, Hid (w1.heap.size = g) := ⟨_, hide rfl⟩
          rw [hgk.out, hgh.out] at hRK2
          rw [hgh.out] at hH2
          rw [hgk.out, hgh.out]
          have HRK2 := hide hRK2
          have HH2 := hide hH2
          obtain ⟨q, hq⟩ : ∃ q, Hid (64 * q = L) := ⟨L / 64, hide (by omega)⟩
          have hqL := hq.out
          clear hRK2 hH2 hRm HP3 hB12 hB1 hB2 hK1 hkl hge hgml
          go_wp2_with fail
          go_loopw [8] (fun v wr => ∃ k a : Nat, k ≤ q ∧ Hid (64 * k = a) ∧ v = .int .i64 (a : Int) ∧ RK W gm gk gh M wr ∧ Has wr gh 28 (u32s (Sha.chainN M k))) (fun v _ => L - (intOf v).toNat)
          case atStart => exact ⟨0, 0, by omega, hide rfl, rfl, HRK2.out, HH2.out⟩
          case round =>
            obtain ⟨k, a, hk, ha, rfl, hRK, hst⟩ := hrel
            clear HRK2 HH2
            obtain ⟨wo, rfl⟩ : ∃ x, x = wr := ⟨_, rfl⟩
            have HRK := hide hRK
            have HST := hide hst
            clear hRK hst
            obtain ⟨st, hst⟩ : ∃ st, Hid (Sha.chainN M k = st) := ⟨_, hide rfl⟩
            have hstw : Hid (Sha.Words st) := hide (by rw [← hst.out]; exact Sha.chainN_words _ _)
            obtain ⟨b, hb⟩ : ∃ b, Hid (Sha.blk M k = b) := ⟨_, hide rfl⟩
            have hbB : Hid (Sha.Bytes b) := hide (by rw [← hb.out]; exact blk_bytes HRK.out.2.2.1.1 _)
            rw [hst.out] at HST
            by_cases hlt : k < q
            · have haL : a + 64 ≤ L := by have := ha.out; omega
              have haI : (a : Int) < L := by omega
              go_wp2_with fail
              have hS0 : Hid (Sched wo b wo.heap.size 0 (wo.alloc (.cells (u32s (List.replicate 64 0)).toArray 55))) := hide ⟨Has.new _ _ _, (Below.refl _ _).alloc (Nat.le_refl _) _, rfl⟩
              refine loop4_c _ gm L capm a k wo.heap.size M b wo _ HRK.out.2.2.1 hL ha haL (by have := hLl; omega) hcl hb hbB rfl hS0.out ?_
              intro u10 u11 u12 u13 u65 u66 u67 u68 u69 u70 u71 u72 u73 u74 u75 u76 u77 u78 u79 u80 u81 u82 u83 u84 u85 u86 u87 u88 u89 u90 u91 u92 u93 u94 u95 u96 u97 u98 u99 u100 u101 u102 u103 u104 u105 u106 u107 u108 u109 u110 u111 u112 u113 u114 u115 u116 u117 u118 u119 u120 u121 u122 u123 u124 u125 u126 u127 u128 u129 u130 u131 u132 u133 u134 u135 u136 u137 u138 u139 u140 u141 u142 u143 u144 u145 u146 u147 u148 u149 u150 u151 u152 u153 u154 wr hS
              obtain ⟨hw1, hw2, -⟩ := hS
              rw [Sha.row_all] at hw1
              obtain ⟨ws, hws⟩ : ∃ ws, Hid (Sha.sched b 64 = ws) := ⟨_, hide rfl⟩
              have hwsl : Hid (ws.length = 64) := hide (by rw [← hws.out]; exact Sha.sched_length _ _)
              have hwsB : Hid (∀ x ∈ ws, x < 4294967296) := hide (by rw [← hws.out]; exact Sha.sched_lt _ hbB.out 64)
              rw [hws.out] at hw1
              have HW1 := hide hw1
              have HW2 := hide hw2
              have hsz0 := hw2.size
              clear hw1 hw2 hqL
              obtain ⟨i4, hi4, hz40, hz41, hz42⟩ := info4
              have HI4 := hide hi4
              have HZ40 := hide hz40
              have HZ41 := hide hz41
              have HZ42 := hide hz42
              clear hi4 hz40 hz41 hz42
              obtain ⟨z8, hz8⟩ : ∃ z, Hid (List.replicate 8 0 = z) := ⟨_, hide rfl⟩
              obtain ⟨Z8, hZ8⟩ : ∃ Z, Hid ((u32s z8).toArray = Z) := ⟨_, hide rfl⟩
              have hmk8 : ∀ w : World, (Instr.makeSlice 26 (.int .i64 0) (.int .i64 8)).run Tryd.prog w = .ok (.slice (some ⟨w.heap.size, 0, none⟩) 0 8) (w.alloc (.cells Z8 28)) := by
                intro w
                rw [← hZ8.out, ← hz8.out]
                kernel_rfl
              have hown8 : Hid ((wr.alloc (.cells Z8 28)).ownsRow wo.heap.size 28 1 (.slice (some ⟨wr.heap.size, 0, none⟩) 0 8) 0 []) := hide (by
                refine ⟨by simp, .inr ⟨_, 8, Z8, rfl, hsz0, heap_alloc_new wr _, by omega, by unfold maxLen; omega, by rw [← hZ8.out, ← hz8.out]; rfl, by simp⟩⟩)
              have hnews : Hid (∀ (j : Nat) (u : Value), (u32s st)[j]? = some u → (wr.alloc (.cells Z8 28)).cell? ((⟨gh, 0, none⟩ : Addr).add j) = some u) := hide (fun j u hj => by
                have h := ((HST.out.below HW2.out HST.out.lt).alloc (.cells Z8 28)).cell j
                have e : (⟨gh, 0, none⟩ : Addr).add j = ⟨gh, j, none⟩ := by unfold Addr.add; split <;> simp_all
                rw [e, h]; exact hj)
              have hone : Hid (∀ u ∈ u32s st, u.oneCell' = true) := hide (by
                intro u hu
                obtain ⟨x, _, rfl⟩ := List.mem_map.1 hu
                rfl)
              have hstl : Hid ((u32s st).length = 8 * 1) := hide (by rw [List.length_map, hstw.out.1])
              have hb1 : Hid (0 + 8 ≤ maxLen) := hide (by unfold maxLen; omega)
              have hb2 : Hid ((0 + 8) * 4 ≤ 140737488355328) := hide (by omega)
              have hb3 : Hid (wo.heap.size ≤ (wr.alloc (.cells Z8 28)).heap.size) := hide (by simp; omega)
              go_wp2_with (at_builtin; refine wpList_append_own_at _ rfl (.tmp 155) (.tmp 156) 26 rfl wo.heap.size 28 i4 (.int .u32 0) 1 4 und26 HI4.out HZ40.out HZ41.out HZ42.out rfl (by decide) _ 0 [] rfl hown8.out ⟨gh, 0, none⟩ 8 8 (u32s st) rfl hstl.out hnews.out hone.out hb1.out hb2.out hb3.out ?_)
              intro v9 w9 hown9 hgrow9 _ _
              have hV9 : V8 wo.heap.size w9 v9 st := by
                rcases hown9.2 with ⟨-, h0⟩ | ⟨gv, capv, cur, rfl, hge, hh, hcl, hcm, -, -⟩
                · omega
                · refine ⟨gv, capv, rfl, by omega, hge, (hown9.lt gv rfl).2, fun j c hj => ?_⟩
                  have e : (⟨gv, j, none⟩ : Addr) = (⟨gv, 0, none⟩ : Addr).add j := by unfold Addr.add; split <;> simp_all
                  rw [e]
                  exact hown9.cells (g := gv) rfl j _ (by first | (rw [List.getElem?_map, hj]; rfl) | (rw [List.nil_append, List.getElem?_map, hj]; rfl))
              have hW9 : Has w9 wo.heap.size 55 (u32s ws) := (HW1.out.alloc _).grown hgrow9 (by simp [Value.ownBlock]; have := HW1.out.lt; omega)
              have hB9 : Below wo.heap.size wo w9 := (HW2.out.alloc hsz0 _).grown hgrow9 (by simp; omega) (fun k hk => by simp [Value.ownBlock] at hk; omega)
              have HV9 := hide hV9
              have HW9 := hide hW9
              have HB9 := hide hB9
              clear hown9 hgrow9 hV9 hW9 hB9 hown8 hnews hone hstl hb1 hb2 hb3 hmk8 HW1 HW2
              go_wp2_with fail
              refine loop5_c _ gk wo.heap.size st ws v9 wo w9 HRK.out.2.1 rfl hwsl hwsB hstw HV9.out HW9.out HB9.out ?_
              intro u14 u15 u16 u17 u18 u19 u20 u158 u159 u160 u161 u162 u163 u164 u165 u166 u167 u168 u169 u170 u171 u172 u173 u174 u175 u176 u177 u178 u179 u180 u181 u182 u183 u184 u185 u186 u187 u188 u189 u190 u191 u192 u193 u194 u195 u196 u197 u198 u199 u200 u201 u202 u203 u204 u205 u206 u207 u208 u209 u210 u211 u212 u213 u214 u215 u216 u217 u218 u219 u220 u221 u222 u223 u224 u225 u226 u227 u228 u229 u230 u231 u232 u233 u234 u235 u236 u237 u238 u239 u240 u241 u242 u243 u244 u245 u246 u247 u248 u249 u250 u251 u252 u253 u254 u255 u256 u257 u258 u259 u260 u261 u262 u263 u264 u265 u266 u267 u268 u269 u270 u271 u272 u273 w6 hV hW6 hB6
              obtain ⟨gv, capv, rfl, hcv, hgv, hgvl, hcells⟩ := hV
              obtain ⟨s, hs⟩ : ∃ s, Hid (Sha.rounds st ws 64 = s) := ⟨_, hide rfl⟩
              have hsw : Hid (Sha.Words s) := hide (by rw [← hs.out]; exact Sha.rounds_words hstw.out _ _)
              rw [hs.out] at hcells
              have hgh := HRK.out.2.2.2.2.2.2.2
              have HI0 : Hid (Has w6 gh 28 (u32s st)) := hide (HST.out.below hB6 HST.out.lt)
              have HB6 := hide hB6
              have HC := hide hcells
              clear hcells hW6 hB6
              go_wp2_with fail
              refine loop6_c _ gh gv capv st s w6 HI0.out (by omega) hgvl HC.out hstw hsw ?_
              intro u21 u274 u275 u276 u277 u278 u279 u280 u281 u282 u283 u284 u285 u286 u287 u288 u289 wr hA hG
              have HN : Hid (Has wr gh 28 (u32s (Sha.chainN M (k + 1)))) := hide (by
                rw [Sha.addTo_all _ _ hstw.out.1 hsw.out.1, ← hs.out, ← hws.out] at hA
                rw [Sha.chainN, hst.out, hb.out]
                exact hA)
              have HRN : Hid (RK W gm gk gh M wr) := hide ((HRK.out.below HB6.out).grown hG)
              clear hA hG
              go_wp2_with fail
              go_roundw
              case rel => exact ⟨k + 1, a + 64, by omega, hide (by have := ha.out; omega), by go_num, HRN.out, HN.out⟩
              case measure => simp [intOf]; omega
            ·
              obtain rfl : k = q := by omega
              obtain rfl : a = L := by have := ha.out; omega
              obtain ⟨z32, hz32⟩ : ∃ z, Hid (List.replicate 32 0 = z) := ⟨_, hide rfl⟩
              have HO0 : Hid (Has (wo.alloc (.cells (u8s (List.replicate 32 0)).toArray 24)) wo.heap.size 24 (u8s (outB st 0))) := hide (by rw [outB_zero]; exact Has.new _ _ _)
              have hgh := HRK.out.2.2.2.2.2.2.2
              go_wp2_with fail
              refine loop7_c _ gh wo.heap.size st wo _ HST.out rfl hstw HO0.out ((Below.refl _ _).alloc (Nat.le_refl _) _) ?_
              intro u23 u290 u291 u292 u293 u294 u295 u296 u297 u298 u299 u300 u301 u302 u303 u304 u305 u306 u307 wr hO hB
              rw [outB_all _ hstw.out.1] at hO
              obtain ⟨D, hD⟩ : ∃ D : Array Value, Hid ((u8s (Sha.bytesOf st)).toArray = D) := ⟨_, hide rfl⟩
              have hDs : Hid ((Tryd.prog.info? 24).map (·.size) = some D.size) := by
                rw [← hD.out]
                show _ = some ((u8s (Sha.bytesOf st)).toArray).size
                rw [List.size_toArray, List.length_map, Sha.bytesOf_length, hstw.out.1]
                kernel_rfl
              have hDl : Hid ((u8s (List.replicate 32 0)).toArray.size = D.size) := by
                rw [← hD.out]
                simp [Hid, Sha.bytesOf_length, hstw.out.1]
              have hD1 : Hid (D.all (·.oneCell') = true) := by
                rw [← hD.out]
                simp [Hid, Function.comp_def, Value.oneCell']
              have q1' : Hid (wr.heap[wo.heap.size]? = some (.cells D 24 (0, 0))) := by rw [← hD.out]; exact hO
              have q2' : Hid (wr.heap[W.heap.size]? = some (.cells (u8s (List.replicate 32 0)).toArray 24 (0, 0))) := HRK.out.1.below hB HRK.out.1.lt
              have hBW : Hid (Below W.heap.size W wr) := hide (HRK.out.2.2.2.1.trans (hB.mono HRK.out.2.2.2.1.size))
              have hfin : Hid (Sha.bytesOf st = Sha.digest bs) := hide (by
                rw [← hst.out, ← hM.out]
                unfold Sha.digest Sha.pad
                rw [hM.out, hL.out]
                congr 2
                omega)
              clear hO hB
              go_wp2_with (first
                | (refine wpList_load_row rfl 24 (.tmp 22) rfl wo.heap.size rfl 24 D (0, 0) _ q1'.out Tryd.underlying24 rfl hDs.out ?_)
                | (refine wpList_store_row rfl 24 (.tmp 2) (.tmp 308) rfl W.heap.size D rfl rfl _ _ q2'.out hDs.out hDl.out hD1.out ?_))
              refine bodyPost_ret (results_cell_row rfl _ _ W.heap.size 24 D (0, 0) _ rfl (setRow_heap _ _ _ _ _ _ q2'.out) Tryd.underlying24 rfl hDs.out) rfl ?_
              refine ⟨?_, below_setRow hBW.out (Nat.le_refl _) _⟩
              rw [← hD.out, hfin.out]
end Go.Proofs.YtijgomgiinlcoaaDoor
