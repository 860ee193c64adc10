/-
  The law TensRows, walked. By an AI agent. No person has read it.
-/
import Derived.Test.YtnbjcdmiehnceaaDoorTenRa
import Derived.Test.YtnbjcdmiehnceaaDoorTenG
import Derived.Test.YtnbjcdmiehnceaaDoorTenX
namespace Go.Proofs.YtnbjcdmiehnceaaDoor
open Go.RowKit

set_option maxRecDepth 100000 in
set_option maxHeartbeats 4000000 in
theorem rows_c (ah am ar : Addr) (a b c : Int) (u : Bool) (w : World) (hE : E3 w ah am ar) :
    Calls Tryd.prog 13 #[.int .i64 a, .int .i64 b, .int .i64 c, .bool u] w fun e w' => e = .returned (.bool true) ∧ Below w.heap.size w w' := by
  have HF := hide (first6_c ah am ar w hE)
  have HE := hide hE
  clear hE
  go_enter Tryd.func13, Tryd.ntmps13
  go_wp2_with fail
  refine HF.out.mono ?_
  rintro e w1 ⟨rfl, hb⟩
  have HB := hide hb
  have HE1 := hide (HE.out.below hb)
  clear hb HF
  go_wp2_with fail
  refine (number_c a 6 (by decide) (by decide) 6 rfl w1).mono ?_
  rintro e w2 ⟨⟨A0, hA0, rfl⟩, rfl⟩
  obtain ⟨A, hA⟩ : ∃ A : Nat, A = A0 + 1 := ⟨_, rfl⟩
  have hAw : IntKind.i64.wrap ((A0 : Int) + 1) = (A : Int) := by rw [IntKind.wrap_i64]; omega
  have hA6 : 1 ≤ A ∧ A ≤ 6 := by omega
  have HA6 := hide hA6
  clear hA0 hA hA6
  go_wp2_with fail
  refine (number_c b 6 (by decide) (by decide) 6 rfl w2).mono ?_
  rintro e w3 ⟨⟨B0, hB0, rfl⟩, rfl⟩
  obtain ⟨B, hB⟩ : ∃ B : Nat, B = B0 + 1 := ⟨_, rfl⟩
  have hBw : IntKind.i64.wrap ((B0 : Int) + 1) = (B : Int) := by rw [IntKind.wrap_i64]; omega
  have hB6 : 1 ≤ B ∧ B ≤ 6 := by omega
  have HB6 := hide hB6
  clear hB0 hB hB6
  go_wp2_with fail
  refine (number_c c 6 (by decide) (by decide) 6 rfl w3).mono ?_
  rintro e w4 ⟨⟨C0, hC0, rfl⟩, rfl⟩
  obtain ⟨C, hC⟩ : ∃ C : Nat, C = C0 + 1 := ⟨_, rfl⟩
  have hCw : IntKind.i64.wrap ((C0 : Int) + 1) = (C : Int) := by rw [IntKind.wrap_i64]; omega
  have hC6 : 1 ≤ C ∧ C ≤ 6 := by omega
  have HC6 := hide hC6
  clear hC0 hC hC6
  have hA6 := HA6.out
  have hB6 := HB6.out
  have hC6 := HC6.out
  have HFault := hide (Rw.fault A B C u hA6 hB6 hC6)
  have HGet := hide (fun x y z i => Rw.get A B C x y z i u hA6 hB6 hC6)
  have HOut := hide (Rw.out A B C u)
  have HRaw := hide (Rw.raw A B C u hA6 hB6 hC6)
  have HBytes := hide (Rw.bytes A B C u hA6 hB6 hC6)
  obtain ⟨hAB, hN⟩ := Rw.le A B C hA6.2 hB6.2 hC6.2
  have hN1 := Rw.pos A B C hA6.1 hB6.1 hC6.1
  have hm1 : (A : Int) * (B : Int) = ((A * B : Nat) : Int) := (Int.natCast_mul A B).symm
  have hm2 : ((A * B : Nat) : Int) * (C : Int) = ((A * B * C : Nat) : Int) := (Int.natCast_mul (A * B) C).symm
  obtain ⟨M, hM⟩ : ∃ M, Hid (A * B = M) := ⟨_, hide rfl⟩
  rw [hM.out] at hAB hN hN1 hm1 hm2 HFault HGet HOut HRaw HBytes
  obtain ⟨N, hNN⟩ : ∃ N, Hid (M * C = N) := ⟨_, hide rfl⟩
  rw [hNN.out] at hN hN1 hm2 HFault HGet HOut HRaw HBytes
  have hw1 : IntKind.i64.wrap ((A : Int) * (B : Int)) = (M : Int) := by rw [hm1, IntKind.wrap_i64]; omega
  have hw2 : IntKind.i64.wrap ((M : Int) * (C : Int)) = (N : Int) := by rw [hm2, IntKind.wrap_i64]; omega
  clear hm1 hm2 hA6 hB6 hC6
  go_wp2_with fail
  have hS : Has ((w4.alloc (Obj.cells #[.int .i64 (A : Int), .int .i64 (B : Int), .int .i64 (C : Int)] 3)).alloc (Obj.cells #[.slice (some ⟨w4.heap.size, 0, none⟩) 3 3, .bool u] 24)) w4.heap.size 3 (i64s [(A : Int), (B : Int), (C : Int)]) :=
    (Has.new w4 3 (i64s [(A : Int), (B : Int), (C : Int)])).alloc _
  have hd : Has ((w4.alloc (Obj.cells #[.int .i64 (A : Int), .int .i64 (B : Int), .int .i64 (C : Int)] 3)).alloc (Obj.cells #[.slice (some ⟨w4.heap.size, 0, none⟩) 3 3, .bool u] 24)) (w4.heap.size + 1) 24 [.slice (some ⟨w4.heap.size, 0, none⟩) 3 3, .bool u] := by
    have h := Has.new (w4.alloc (Obj.cells #[.int .i64 (A : Int), .int .i64 (B : Int), .int .i64 (C : Int)] 3)) 24 [.slice (some ⟨w4.heap.size, 0, none⟩) 3 3, .bool u]
    simpa using h
  have hb2 := ((Below.refl _ w4).alloc (Nat.le_refl _) (Obj.cells #[.int .i64 (A : Int), .int .i64 (B : Int), .int .i64 (C : Int)] 3)).alloc (by simp) (Obj.cells #[.slice (some ⟨w4.heap.size, 0, none⟩) 3 3, .bool u] 24)
  generalize (w4.alloc (Obj.cells #[.int .i64 (A : Int), .int .i64 (B : Int), .int .i64 (C : Int)] 3)).alloc (Obj.cells #[.slice (some ⟨w4.heap.size, 0, none⟩) 3 3, .bool u] 24) = W0 at *
  have HE2 := hide (HE1.out.below hb2)
  have HB2 := hide (HB.out.trans (hb2.mono HB.out.size))
  have HS := hide hS
  have HDd := hide hd
  have hs4 := hd.lt
  clear hS hd hb2 HB HE1
  generalize w4.heap.size = S0 at *
  go_loopw [11, 12] (fun l k wr => ∃ i : Nat, i ≤ N ∧ k = .int .i64 i ∧ Hid (wr.ownsRow W0.heap.size 3 1 l i (i64s (Rw.L i))) ∧ Hid (Below W0.heap.size W0 wr)) (fun _ k _ => N - (intOf k).toNat)
  case atStart => exact ⟨0, Nat.zero_le _, rfl, hide (by simpa [Rw.L] using World.ownsRow_nil _ _ _ _), hide (Below.refl _ _)⟩
  case round =>
    obtain ⟨i, hi, rfl, hI, hBl⟩ := hrel
    by_cases hlt : i < N
    · have hin : (i : Int) < N := by omega
      have hrem : (i : Int).tmod 256 = i := by rw [Int.tmod_eq_emod_of_nonneg (by omega)]; omega
      have hsub : IntKind.i64.wrap ((i : Int) - 128) = (i : Int) - 128 := by rw [IntKind.wrap_i64]; omega
      have hadd : IntKind.i64.wrap ((i : Int) + 1) = (i : Int) + 1 := by rw [IntKind.wrap_i64]; omega
      have HOWN := hide (hI.out.alloc (.cells #[.int .i64 ((i : Int) - 128)] 3))
      have HRI := hide ((Has.new wr 3 (i64s [(i : Int) - 128])).ri (zs := [(i : Int) - 128]) (fun z hz => by simp at hz; exact wf_i64 z (by omega)))
      have HNB := hide (show i + 1 ≤ 1000000000000 by omega)
      have HSZ := hide (show W0.heap.size ≤ (wr.alloc (.cells #[.int .i64 ((i : Int) - 128)] 3)).heap.size by have := hBl.out.size; simp; omega)
      go_wp2_with (at_builtin; refine wpList_append_is rfl (.tmp 51) (.tmp 55) rfl W0.heap.size _ i (i64s (Rw.L i)) rfl HOWN.out (some ⟨wr.heap.size, 0, none⟩) 1 1 [(i : Int) - 128] rfl (hide rfl) HRI.out HNB.out HSZ.out ?_)
      intro v' w' a1 a2 a3
      have HI2 : Hid (w'.ownsRow W0.heap.size 3 1 v' (i + 1) (i64s (Rw.L (i + 1)))) := hide (by rw [Rw.L_succ]; simpa [i64s] using a1)
      have HBl2 : Hid (Below W0.heap.size W0 w') := hide ((hBl.out.alloc hBl.out.size (.cells #[.int .i64 ((i : Int) - 128)] 3)).grown a2 HSZ.out (fun k hk => (hI.out.lt k hk).1))
      clear a1 a2 a3 HOWN HRI HNB HSZ hI hBl
      go_wp2_with fail
      go_roundw
      case rel => exact ⟨i + 1, by omega, by go_num, HI2, HBl2⟩
      case measure => simp [intOf]; omega
    · obtain rfl : i = N := by omega
      obtain ⟨g, cg, rg, rfl, -, hg, hcg, hcg2, hL⟩ := own_has hI.out (by
        rintro rfl
        obtain ⟨-, h⟩ := hI.out
        rcases h with ⟨-, h⟩ | ⟨g, cap, cur, h, -⟩
        · omega
        · cases h)
      have HL := hide hL
      clear hL hI
      have hBw := hBl.out
      have hdw := HDd.out.below hBw hs4
      have e0 : wr.cell? ⟨S0 + 1, 0, none⟩ = some (.slice (some ⟨S0, 0, none⟩) 3 3) := by rw [hdw.cell]; rfl
      have e1 : wr.cell? ⟨S0 + 1, 1, none⟩ = some (.bool u) := by rw [hdw.cell]; rfl
      have hswf : ∀ z ∈ [(A : Int), (B : Int), (C : Int)], (Lit.int .i64 z).wf = true := by
        have h1 := HA6.out
        have h2 := HB6.out
        have h3 := HC6.out
        intro z hz
        simp at hz
        exact wf_i64 z (by omega)
      have hsw := (HS.out.below hBw (by omega)).ri hswf
      have HNew := hide (tnew_c [(A : Int), (B : Int), (C : Int)] (Rw.L i) (some ⟨S0, 0, none⟩) (some ⟨g, 0, none⟩) 3 cg u ah am ar wr hsw (HL.out.ri_app (Rw.L_wf i (by omega))) (by simp) (by rw [Rw.L_length]; omega) (HE2.out.below hBw))
      rw [Rw.L_length] at HNew
      have HSW := hide hswf
      clear hBw hdw hsw hswf
      go_wp2_with fail
      refine HNew.out.mono ?_
      rintro e w5 ⟨h1, -, hb⟩
      obtain ⟨g2, c2, r2, gd, cd, rd, rfl, hg2, hc1, hc2, hC, hgd, hd1, hd2, hD, hne⟩ := h1 HFault.out
      have hBB := hBl.out.trans (hb.mono hBl.out.size)
      have hB5 := hBB.alloc hBB.size (Obj.cells #[.slice (some ⟨g2, 0, none⟩) 3 c2, .bool u, .slice (some ⟨gd, 0, none⟩) i cd] 53)
      have hTb : Has (w5.alloc (Obj.cells #[.slice (some ⟨g2, 0, none⟩) 3 c2, .bool u, .slice (some ⟨gd, 0, none⟩) i cd] 53)) w5.heap.size 53 [.slice (some ⟨g2, 0, none⟩) 3 c2, .bool u, .slice (some ⟨gd, 0, none⟩) i cd] := Has.new w5 _ _
      have hlL := HL.out.lt
      have hL5 := (HL.out.below hb hlL).alloc (Obj.cells #[.slice (some ⟨g2, 0, none⟩) 3 c2, .bool u, .slice (some ⟨gd, 0, none⟩) i cd] 53)
      have hC5 := hC.alloc (Obj.cells #[.slice (some ⟨g2, 0, none⟩) 3 c2, .bool u, .slice (some ⟨gd, 0, none⟩) i cd] 53)
      have hD5 := hD.alloc (Obj.cells #[.slice (some ⟨g2, 0, none⟩) 3 c2, .bool u, .slice (some ⟨gd, 0, none⟩) i cd] 53)
      have hq1 : g < w5.heap.size := Nat.lt_of_lt_of_le hlL hb.size
      have hq2 : g ≠ g2 ∧ g ≠ gd := by omega
      clear h1 hb hBB hC hD hlL HNew hg2 hgd hBl
      go_wp2_with fail
      generalize w5.alloc (Obj.cells #[.slice (some ⟨g2, 0, none⟩) 3 c2, .bool u, .slice (some ⟨gd, 0, none⟩) i cd] 53) = W5 at *
      generalize w5.heap.size = T5 at *
      have HB5 := hide hB5
      have HE5 := hide (HE2.out.below hB5)
      have HTb := hide hTb
      have HL5 := hide hL5
      have HC5 := hide hC5
      have HD5 := hide hD5
      clear hB5 hTb hL5 hC5 hD5 HL
      go_loopw [15, 16] (fun I x wr => ∃ X J : Nat, X ≤ A ∧ x = .int .i64 X ∧ I = .int .i64 J ∧ Hid (J = X * B * C) ∧ Hid (Below W5.heap.size W5 wr)) (fun _ x _ => A - (intOf x).toNat)
      case atStart => exact ⟨0, 0, Nat.zero_le _, rfl, rfl, hide (by simp), hide (Below.refl _ _)⟩
      case round =>
        obtain ⟨X, J, hX, rfl, rfl, hJ, hBx⟩ := hrel
        by_cases hlx : X < A
        · have hxa : (X : Int) < A := by omega
          have hxw : IntKind.i64.wrap ((X : Int) + 1) = (X : Int) + 1 := by rw [IntKind.wrap_i64]; have := HA6.out; omega
          go_wp2_with fail
          go_loopw [15, 17] (fun I y wr => ∃ Y J : Nat, Y ≤ B ∧ y = .int .i64 Y ∧ I = .int .i64 J ∧ Hid (J = (X * B + Y) * C) ∧ Hid (Below W5.heap.size W5 wr)) (fun _ y _ => B - (intOf y).toNat)
          case atStart => exact ⟨0, J, Nat.zero_le _, rfl, rfl, hide (by rw [hJ.out, Nat.add_zero]), hBx⟩
          case round =>
            clear hJ hBx
            obtain ⟨Y, J, hY, rfl, rfl, hJ, hBx⟩ := hrel
            by_cases hly : Y < B
            · have hyb : (Y : Int) < B := by omega
              have hyw : IntKind.i64.wrap ((Y : Int) + 1) = (Y : Int) + 1 := by rw [IntKind.wrap_i64]; have := HB6.out; omega
              go_wp2_with fail
              go_loopw [15, 18] (fun I z wr => ∃ Z J : Nat, Z ≤ C ∧ z = .int .i64 Z ∧ I = .int .i64 J ∧ Hid (J = (X * B + Y) * C + Z) ∧ Hid (Below W5.heap.size W5 wr)) (fun _ z _ => C - (intOf z).toNat)
              case atStart => exact ⟨0, J, Nat.zero_le _, rfl, rfl, hide (by rw [hJ.out, Nat.add_zero]), hBx⟩
              case round =>
                clear hJ hBx
                obtain ⟨Z, J, hZ, rfl, rfl, hJ, hBx⟩ := hrel
                by_cases hlz : Z < C
                · have hzc : (Z : Int) < C := by omega
                  have hzw : IntKind.i64.wrap ((Z : Int) + 1) = (Z : Int) + 1 := by rw [IntKind.wrap_i64]; have := HC6.out; omega
                  obtain ⟨hgz, hji⟩ := HGet.out X Y Z J hlx hly hlz hJ.out
                  have hjw : IntKind.i64.wrap ((J : Int) + 1) = (J : Int) + 1 := by rw [IntKind.wrap_i64]; omega
                  have hjn : (J : Int) < i := by omega
                  have hba := hBx.out.alloc hBx.out.size (Obj.cells (i64s [(X : Int), (Y : Int), (Z : Int)]).toArray 3)
                  have HG := hide (tget_c [(A : Int), (B : Int), (C : Int)] (Rw.L i) [(X : Int), (Y : Int), (Z : Int)] (some ⟨g2, 0, none⟩) (some ⟨gd, 0, none⟩) (some ⟨wr.heap.size, 0, none⟩) c2 cd 3 u ah am ar _ ((HC5.out.below hba HC5.out.lt).ri_app HSW.out) ((HD5.out.below hba HD5.out.lt).ri_app (Rw.L_wf i (by omega))) (new_ri wr 3 [(X : Int), (Y : Int), (Z : Int)] (by
                    have h1 := HA6.out
                    have h2 := HB6.out
                    have h3 := HC6.out
                    intro z hz
                    simp at hz
                    omega)) (by simp) (by rw [Rw.L_length]; omega) (by simp) (HE5.out.below hba))
                  rw [hgz, Rw.L_length] at HG
                  have hTw := HTb.out.below hBx.out HTb.out.lt
                  have t0 : wr.cell? ⟨T5, 0, none⟩ = some (.slice (some ⟨g2, 0, none⟩) 3 c2) := by rw [hTw.cell]; rfl
                  have t1 : wr.cell? ⟨T5, 1, none⟩ = some (.bool u) := by rw [hTw.cell]; rfl
                  have t2 : wr.cell? ⟨T5, 2, none⟩ = some (.slice (some ⟨gd, 0, none⟩) i cd) := by rw [hTw.cell]; rfl
                  have HBa := hide hba
                  clear hba hTw hgz
                  go_wp2_with fail
                  refine HG.out.mono ?_
                  rintro e w6 ⟨rfl, hb⟩
                  have hB6 := HBa.out.trans (hb.mono HBa.out.size)
                  have hLw := HL5.out.below hB6 HL5.out.lt
                  have lg : w6.cell? ⟨g, J, none⟩ = some (.int .i64 ((J : Int) - 128)) := by
                    rw [hLw.cell, List.getElem?_append_left (by simp [Rw.L_length]; exact hji), List.getElem?_map, Rw.L_get _ _ hji]
                    rfl
                  have HB6' := hide hB6
                  have HJ2 : Hid (J + 1 = (X * B + Y) * C + (Z + 1)) := hide (by rw [hJ.out]; omega)
                  clear hb hB6 hLw HBa HG t0 t1 t2 hBx hJ
                  go_wp2_with fail
                  go_roundw
                  case rel => exact ⟨Z + 1, J + 1, by omega, by go_num, by go_num, HJ2, HB6'⟩
                  case measure => simp [intOf]; omega
                · obtain rfl : Z = C := by omega
                  go_wp2_with fail
                  go_roundw
                  case rel => exact ⟨Y + 1, J, by omega, by go_num, rfl, hide (by rw [hJ.out, ← Nat.add_assoc, Nat.succ_mul]), hBx⟩
                  case measure => simp [intOf]; omega
            · obtain rfl : Y = B := by omega
              go_wp2_with fail
              go_roundw
              case rel => exact ⟨X + 1, J, by omega, by go_num, rfl, hide (by rw [hJ.out, Nat.succ_mul]), hBx⟩
              case measure => simp [intOf]; omega
        · obtain rfl : X = A := by omega
          have hba := hBx.out.alloc hBx.out.size (Obj.cells (i64s [(X : Int), 0, 0]).toArray 3)
          have HG := hide (tget_c [(X : Int), (B : Int), (C : Int)] (Rw.L i) [(X : Int), 0, 0] (some ⟨g2, 0, none⟩) (some ⟨gd, 0, none⟩) (some ⟨wr.heap.size, 0, none⟩) c2 cd 3 u ah am ar _ ((HC5.out.below hba HC5.out.lt).ri_app HSW.out) ((HD5.out.below hba HD5.out.lt).ri_app (Rw.L_wf i (by omega))) (new_ri wr 3 [(X : Int), 0, 0] (by
            have h1 := HA6.out
            intro z hz
            simp at hz
            omega)) (by simp) (by rw [Rw.L_length]; omega) (by simp) (HE5.out.below hba))
          rw [HOut.out, Rw.L_length] at HG
          have hTw := HTb.out.below hBx.out HTb.out.lt
          have t0 : wr.cell? ⟨T5, 0, none⟩ = some (.slice (some ⟨g2, 0, none⟩) 3 c2) := by rw [hTw.cell]; rfl
          have t1 : wr.cell? ⟨T5, 1, none⟩ = some (.bool u) := by rw [hTw.cell]; rfl
          have t2 : wr.cell? ⟨T5, 2, none⟩ = some (.slice (some ⟨gd, 0, none⟩) i cd) := by rw [hTw.cell]; rfl
          have HBa := hide hba
          clear hba hTw hJ
          go_wp2_with fail
          refine HG.out.mono ?_
          rintro e w6 ⟨rfl, hb⟩
          have hB6 := HBa.out.trans (hb.mono HBa.out.size)
          have hLw := HL5.out.below hB6 HL5.out.lt
          have lg : w6.cell? ⟨g, 0, none⟩ = some (.int .i64 (-128)) := by
            rw [hLw.cell, List.getElem?_append_left (by simp [Rw.L_length]; omega), List.getElem?_map, Rw.L_get _ _ (by omega)]
            rfl
          have lf := hLw.frozen 0
          have h0i : (0 : Int) < i := by omega
          have hW06 := HB5.out.trans (hB6.mono HB5.out.size)
          have hww6 := HB2.out.trans (hW06.mono HB2.out.size)
          have hs0 := HB2.out.size
          have hT6 := HTb.out.below hB6 HTb.out.lt
          have hC6 := HC5.out.below hB6 HC5.out.lt
          have hD6 := HD5.out.below hB6 HD5.out.lt
          have hS6 := HS.out.below hW06 (by omega)
          have hd6 := HDd.out.below hW06 hs4
          have hT7 := hT6.far (p := ⟨g, 0, none⟩) (by simp; omega) (.int .i64 55)
          have hC7 := hC6.far (p := ⟨g, 0, none⟩) (by simp; omega) (.int .i64 55)
          have hD7 := hD6.far (p := ⟨g, 0, none⟩) (by simp; omega) (.int .i64 55)
          have hS7 := hS6.far (p := ⟨g, 0, none⟩) (by simp; omega) (.int .i64 55)
          have hd7 := hd6.far (p := ⟨g, 0, none⟩) (by simp; omega) (.int .i64 55)
          have hw7 := hww6.setCell (p := ⟨g, 0, none⟩) (by simp; omega) (.int .i64 55)
          clear hW06 hww6 hT6 hC6 hD6 hS6 hd6 hB6 hLw hb t0 t1 t2 HBa HG hBx
          have t0 : (w6.setCell ⟨g, 0, none⟩ (.int .i64 55)).cell? ⟨T5, 0, none⟩ = some (.slice (some ⟨g2, 0, none⟩) 3 c2) := by rw [hT7.cell]; rfl
          have t1 : (w6.setCell ⟨g, 0, none⟩ (.int .i64 55)).cell? ⟨T5, 1, none⟩ = some (.bool u) := by rw [hT7.cell]; rfl
          have t2 : (w6.setCell ⟨g, 0, none⟩ (.int .i64 55)).cell? ⟨T5, 2, none⟩ = some (.slice (some ⟨gd, 0, none⟩) i cd) := by rw [hT7.cell]; rfl
          have HRw := hide (traw_c [(X : Int), (B : Int), (C : Int)] (Rw.L i) (some ⟨g2, 0, none⟩) (some ⟨gd, 0, none⟩) c2 cd u ah am ar _ (hC7.ri_app HSW.out) (hD7.ri_app (Rw.L_wf i (by omega))) (by simp) (by rw [Rw.L_length]; omega) (HE.out.below hw7))
          rw [Rw.L_length] at HRw
          have HT7 := hide hT7
          have HC7 := hide hC7
          have HD7 := hide hD7
          have HS7 := hide hS7
          have Hd7 := hide hd7
          have HW7 := hide hw7
          clear hT7 hC7 hD7 hS7 hd7 hw7
          cases u
          · have hr := HRaw.out
            have hbt := HBytes.out
            rw [show i * Tens.each false = i from Nat.mul_one i] at hr hbt
            have HRl := hide hr
            have HBt := hide hbt
            have h7 : IntKind.i64.wrap ((i : Int) + 7) = ((i + 7 : Nat) : Int) := by rw [IntKind.wrap_i64]; omega
            obtain ⟨q, hq⟩ : ∃ q, Hid (i = q) := ⟨_, hide rfl⟩
            have hqi := hq.out
            obtain ⟨q7, hq7⟩ : ∃ q7, Hid (i + 7 = q7) := ⟨_, hide rfl⟩
            rw [hq7.out] at h7 HBt
            clear hr hbt HRaw HBytes hqi
            go_wp2_with fail
            refine HRw.out.mono ?_
            rintro e w8 ⟨⟨v, rfl, hv⟩, hb⟩
            rw [HRl.out] at hv
            obtain ⟨A1, cp1, rfl, -, -, -, -⟩ := own_rb hv (Tens.raw_lt _ _ _)
            have hw8 := HW7.out.trans (hb.mono HW7.out.size)
            have hT8 := HT7.out.below hb HT7.out.lt
            have hC8 := HC7.out.below hb HC7.out.lt
            have hD8 := HD7.out.below hb HD7.out.lt
            have hS8 := HS7.out.below hb HS7.out.lt
            have hd8 := Hd7.out.below hb Hd7.out.lt
            clear hv hb t0 t1 t2 lg lf HRw HRl HT7 HC7 HD7 HS7 Hd7 HW7
            have t0 : w8.cell? ⟨T5, 0, none⟩ = some (.slice (some ⟨g2, 0, none⟩) 3 c2) := by rw [hT8.cell]; rfl
            have t1 : w8.cell? ⟨T5, 1, none⟩ = some (.bool false) := by rw [hT8.cell]; rfl
            have t2 : w8.cell? ⟨T5, 2, none⟩ = some (.slice (some ⟨gd, 0, none⟩) i cd) := by rw [hT8.cell]; rfl
            have HBy := hide (tbytes_c [(X : Int), (B : Int), (C : Int)] (Rw.L i) (some ⟨g2, 0, none⟩) (some ⟨gd, 0, none⟩) c2 cd false ah am ar _ (hC8.ri_app HSW.out) (hD8.ri_app (Rw.L_wf i (by omega))) (by simp) (by rw [Rw.L_length]; omega) (HE.out.below hw8))
            rw [Rw.L_length] at HBy
            have HT8 := hide hT8
            have HC8 := hide hC8
            have HD8 := hide hD8
            have HS8 := hide hS8
            have Hd8 := hide hd8
            have HW8 := hide hw8
            clear hT8 hC8 hD8 hS8 hd8 hw8
            go_wp2_with fail
            refine HBy.out.mono ?_
            rintro e w9 ⟨⟨v, rfl, hv⟩, hb⟩
            rw [HBt.out] at hv
            obtain ⟨A2, cp2, rfl, -, -, -, -⟩ := own_rb hv (Tens.bytes_lt _ _ _)
            have hw9 := HW8.out.trans (hb.mono HW8.out.size)
            have hT9 := HT8.out.below hb HT8.out.lt
            have hC9 := HC8.out.below hb HC8.out.lt
            have hD9 := HD8.out.below hb HD8.out.lt
            have hS9 := HS8.out.below hb HS8.out.lt
            have hd9 := Hd8.out.below hb Hd8.out.lt
            clear hv hb t0 t1 t2 HBy HBt HT8 HC8 HD8 HS8 Hd8 HW8
            have t0 : w9.cell? ⟨T5, 0, none⟩ = some (.slice (some ⟨g2, 0, none⟩) 3 c2) := by rw [hT9.cell]; rfl
            have t2 : w9.cell? ⟨T5, 2, none⟩ = some (.slice (some ⟨gd, 0, none⟩) i cd) := by rw [hT9.cell]; rfl
            have e0 : w9.cell? ⟨S0 + 1, 0, none⟩ = some (.slice (some ⟨S0, 0, none⟩) 3 3) := by rw [hd9.cell]; rfl
            have dg : w9.cell? ⟨gd, 0, none⟩ = some (.int .i64 (-128)) := by
              rw [hD9.cell, List.getElem?_append_left (by simp [Rw.L_length]; omega), List.getElem?_map, Rw.L_get _ _ (by omega)]
              rfl
            have HSI := hide (sameints_c [(X : Int), (B : Int), (C : Int)] [(X : Int), (B : Int), (C : Int)] (some ⟨g2, 0, none⟩) (some ⟨S0, 0, none⟩) c2 3 w9 (hC9.ri_app HSW.out) (hS9.ri HSW.out) (by simp) (by simp))
            rw [decide_eq_true (rfl : [(X : Int), (B : Int), (C : Int)] = [(X : Int), (B : Int), (C : Int)])] at HSI
            have HW9 := hide hw9
            clear hw9 hT9 hC9 hD9 hS9 hd9
            go_wp2_with fail
            refine HSI.out.mono ?_
            rintro e w10 ⟨rfl, hb⟩
            have HFin := hide (HW9.out.trans (hb.mono HW9.out.size))
            clear hb HW9 HSI t0 t2 e0 dg
            go_wp2_with fail
            go_ret
            exact ⟨by first | rfl | simp, HFin.out⟩
          · have hr := HRaw.out
            have hbt := HBytes.out
            rw [show i * Tens.each true = i * 4 from rfl] at hr hbt
            have HRl := hide hr
            have HBt := hide hbt
            have h4 : IntKind.i64.wrap ((i : Int) * 4) = ((i * 4 : Nat) : Int) := by rw [IntKind.wrap_i64]; omega
            have h7 : IntKind.i64.wrap (((i * 4 : Nat) : Int) + 7) = ((i * 4 + 7 : Nat) : Int) := by rw [IntKind.wrap_i64]; omega
            obtain ⟨q, hq⟩ : ∃ q, Hid (i * 4 = q) := ⟨_, hide rfl⟩
            rw [hq.out] at h4 h7 HRl HBt
            obtain ⟨q7, hq7⟩ : ∃ q7, Hid (q + 7 = q7) := ⟨_, hide rfl⟩
            rw [hq7.out] at h7 HBt
            clear hr hbt HRaw HBytes
            go_wp2_with fail
            refine HRw.out.mono ?_
            rintro e w8 ⟨⟨v, rfl, hv⟩, hb⟩
            rw [HRl.out] at hv
            obtain ⟨A1, cp1, rfl, -, -, -, -⟩ := own_rb hv (Tens.raw_lt _ _ _)
            have hw8 := HW7.out.trans (hb.mono HW7.out.size)
            have hT8 := HT7.out.below hb HT7.out.lt
            have hC8 := HC7.out.below hb HC7.out.lt
            have hD8 := HD7.out.below hb HD7.out.lt
            have hS8 := HS7.out.below hb HS7.out.lt
            have hd8 := Hd7.out.below hb Hd7.out.lt
            clear hv hb t0 t1 t2 lg lf HRw HRl HT7 HC7 HD7 HS7 Hd7 HW7
            have t0 : w8.cell? ⟨T5, 0, none⟩ = some (.slice (some ⟨g2, 0, none⟩) 3 c2) := by rw [hT8.cell]; rfl
            have t1 : w8.cell? ⟨T5, 1, none⟩ = some (.bool true) := by rw [hT8.cell]; rfl
            have t2 : w8.cell? ⟨T5, 2, none⟩ = some (.slice (some ⟨gd, 0, none⟩) i cd) := by rw [hT8.cell]; rfl
            have HBy := hide (tbytes_c [(X : Int), (B : Int), (C : Int)] (Rw.L i) (some ⟨g2, 0, none⟩) (some ⟨gd, 0, none⟩) c2 cd true ah am ar _ (hC8.ri_app HSW.out) (hD8.ri_app (Rw.L_wf i (by omega))) (by simp) (by rw [Rw.L_length]; omega) (HE.out.below hw8))
            rw [Rw.L_length] at HBy
            have HT8 := hide hT8
            have HC8 := hide hC8
            have HD8 := hide hD8
            have HS8 := hide hS8
            have Hd8 := hide hd8
            have HW8 := hide hw8
            clear hT8 hC8 hD8 hS8 hd8 hw8
            go_wp2_with fail
            refine HBy.out.mono ?_
            rintro e w9 ⟨⟨v, rfl, hv⟩, hb⟩
            rw [HBt.out] at hv
            obtain ⟨A2, cp2, rfl, -, -, -, -⟩ := own_rb hv (Tens.bytes_lt _ _ _)
            have hw9 := HW8.out.trans (hb.mono HW8.out.size)
            have hT9 := HT8.out.below hb HT8.out.lt
            have hC9 := HC8.out.below hb HC8.out.lt
            have hD9 := HD8.out.below hb HD8.out.lt
            have hS9 := HS8.out.below hb HS8.out.lt
            have hd9 := Hd8.out.below hb Hd8.out.lt
            clear hv hb t0 t1 t2 HBy HBt HT8 HC8 HD8 HS8 Hd8 HW8
            have t0 : w9.cell? ⟨T5, 0, none⟩ = some (.slice (some ⟨g2, 0, none⟩) 3 c2) := by rw [hT9.cell]; rfl
            have t2 : w9.cell? ⟨T5, 2, none⟩ = some (.slice (some ⟨gd, 0, none⟩) i cd) := by rw [hT9.cell]; rfl
            have e0 : w9.cell? ⟨S0 + 1, 0, none⟩ = some (.slice (some ⟨S0, 0, none⟩) 3 3) := by rw [hd9.cell]; rfl
            have dg : w9.cell? ⟨gd, 0, none⟩ = some (.int .i64 (-128)) := by
              rw [hD9.cell, List.getElem?_append_left (by simp [Rw.L_length]; omega), List.getElem?_map, Rw.L_get _ _ (by omega)]
              rfl
            have HSI := hide (sameints_c [(X : Int), (B : Int), (C : Int)] [(X : Int), (B : Int), (C : Int)] (some ⟨g2, 0, none⟩) (some ⟨S0, 0, none⟩) c2 3 w9 (hC9.ri_app HSW.out) (hS9.ri HSW.out) (by simp) (by simp))
            rw [decide_eq_true (rfl : [(X : Int), (B : Int), (C : Int)] = [(X : Int), (B : Int), (C : Int)])] at HSI
            have HW9 := hide hw9
            clear hw9 hT9 hC9 hD9 hS9 hd9
            go_wp2_with fail
            refine HSI.out.mono ?_
            rintro e w10 ⟨rfl, hb⟩
            have HFin := hide (HW9.out.trans (hb.mono HW9.out.size))
            clear hb HW9 HSI t0 t2 e0 dg
            go_wp2_with fail
            go_ret
            exact ⟨by first | rfl | simp, HFin.out⟩
end Go.Proofs.YtnbjcdmiehnceaaDoor
