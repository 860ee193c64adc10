/-
  Arena.within, walked, where the bytes lie in a block. By an AI agent. No person has read it.
-/
import Derived.Test.YtemaaipgjghlaaaDoorAreT
import Derived.Test.YtemaaipgjghlaaaDoorAreN
namespace Go.Proofs.YtemaaipgjghlaaaDoor
open Go.RowKit

/-- So many bytes from there on lie within a block. -/
def Bk.has (off n : Nat) (b : Nat × Nat) : Prop := b.1 ≤ off ∧ off + n ≤ b.1 + b.2

set_option maxRecDepth 100000 in
set_option maxHeartbeats 8000000 in
theorem within_ok (id : Int) (base a m off n i : Nat) (v : Value) (mem : List Nat) (l : List Hd) (h : Hd) (w : World) (hA : ArIn base w a m v mem l) (hl : l.length ≤ 1000) (hmem : mem.length ≤ 1048576) (hi : l[i]? = some h) (hf : Ar.find id 0 l = (i : Int)) (hbl : h.bs.length ≤ 1000000) (hb : ∃ b ∈ h.bs, Bk.has off n b) (hbs : ∀ b ∈ h.bs, b.1 + b.2 ≤ h.size) (hfit : h.off + h.size ≤ mem.length) (hlt : h.off + off < mem.length) :
    Calls Tryd.prog 26 #[.pointer (some ⟨a, 0, none⟩), .int .i64 id, .int .i64 (off : Nat), .int .i64 (n : Nat)] w fun e w' => e = .returned (.tuple #[.slice (some ⟨m, h.off + off, none⟩) n (mem.length - (h.off + off)), .bool true]) ∧ Below w.heap.size w w' := by
  have hil := (List.getElem?_eq_some_iff.1 hi).1
  have hbo : h.off + off + n ≤ mem.length := by
    obtain ⟨b, hbm, h1, h2⟩ := hb
    have := hbs b hbm
    omega
  obtain ⟨p, c, rfl, hnc⟩ := own_some hA.row (by omega)
  obtain ⟨A, c0, e0, -, hlie, -, -⟩ := own_lie hA.row
  cases e0
  have HA := hide hA
  have HI := hide hi
  have HB := hide hb
  obtain ⟨nd, hnd⟩ : ∃ n, Hid (l.length = n) := ⟨_, hide rfl⟩
  have VF := hide (fun W (hb : Below w.heap.size w W) => find_c l (some ⟨p, 0, none⟩) c a _ id W (hlie.below hb) (by omega) (hA.below hb).box)
  rw [hf] at VF
  have hin : i < nd := by rw [← hnd.out]; exact hil
  have HS := hide (fun b (hm : b ∈ h.bs) => show b.1 + b.2 ≤ 1048576 from by have := hbs b hm; omega)
  have VP := hide (fun W (hb' : Below w.heap.size w W) => piece_c base a m h.off h.size off n h.id _ mem l W (hA.below hb') hmem hbo hlt)
  obtain ⟨hm, hmm⟩ : ∃ hm, Hid (h.bs.length = hm) := ⟨_, hide rfl⟩
  have VL := hide (fun W (hb : Below w.heap.size w W) => by
    obtain ⟨A2, c2, e2, -, hl2, -, -⟩ := own_lie (((hA.below hb).bks h (List.mem_of_getElem? hi)))
    cases e2
    exact hl2)
  obtain ⟨A2, hA2⟩ : ∃ A2, Hid (h.A = A2) := ⟨_, hide rfl⟩
  rw [hA2.out] at VL
  have hni : ¬ ((i : Int) < 0) := by omega
  have hnn : ¬ ((n : Int) < 0) := by omega
  have hoff : off ≤ 1048576 := by omega
  have hnb : n ≤ 1048576 := by omega
  have hml : hm ≤ 1000000 := by rw [← hmm.out]; exact hbl
  clear hA hi hb hlie hf hil hbs hbo hlt hfit
  go_enter Tryd.func26, Tryd.ntmps26
  go_wp2_with fail
  refine (VF.out _ (Below.refl _ _)).mono ?_
  rintro e w1 ⟨rfl, hb1⟩
  have HB1 := hide hb1
  have c1 : w1.cell? ⟨a, 1, none⟩ = some (.slice (some ⟨p, 0, none⟩) nd c) := by
    rw [← hnd.out]
    exact ((HA.out.below HB1.out).box).cell 1
  obtain ⟨k0, k1, k2, k3, -⟩ := (HA.out.below HB1.out).cells HI.out
  rw [hmm.out, hA2.out] at k3
  have HB2 := hide (HB1.out.alloc HB1.out.size (.cells #[.int .i64 h.id, .int .i64 (h.off : Nat), .int .i64 (h.size : Nat), .slice A2 hm h.c] 62))
  have HX2 := hide (Has.new w1 62 [.int .i64 h.id, .int .i64 (h.off : Nat), .int .i64 (h.size : Nat), .slice A2 hm h.c])
  obtain ⟨W2, hW2⟩ : ∃ W2, Hid (W2 = w1.alloc (.cells #[.int .i64 h.id, .int .i64 (h.off : Nat), .int .i64 (h.size : Nat), .slice A2 hm h.c] 62)) := ⟨_, hide rfl⟩
  clear VF hb1
  go_wp2_with fail
  rw [← hW2.out]
  rw [← hW2.out] at HB2 HX2
  clear c1 k0 k1 k2 k3
  go_loopw [33] (fun k wr => ∃ j : Nat, j ≤ hm ∧ k = .int .i64 j ∧ Hid (Below W2.heap.size W2 wr) ∧ Hid (∃ b ∈ h.bs.drop j, Bk.has off n b)) (fun k _ => hm - (intOf k).toNat)
  case atStart => exact ⟨0, by omega, rfl, hide (Below.refl _ _), hide (by rw [List.drop_zero]; exact HB.out)⟩
  case round =>
    obtain ⟨j, hj, rfl, HBr, HK⟩ := hrel
    by_cases hlt : j < hm
    · have HBw := hide (HB2.out.trans (HBr.out.mono HB2.out.size))
      obtain ⟨ad, b, hBad, had, hd, c0, c1⟩ := lie_bk (VL.out wr HBw.out) j (by rw [hmm.out]; exact hlt)
      have hbb := HS.out b (List.mem_of_getElem? hd.out)
      have hdr : h.bs.drop j = b :: h.bs.drop (j + 1) := by
        obtain ⟨h1, h2⟩ := List.getElem?_eq_some_iff.1 hd.out
        rw [List.drop_eq_getElem_cons h1, h2]
      have hk := HK.out
      rw [hdr] at hk
      have HXr := hide (HX2.out.below HBr.out HX2.out.lt)
      obtain ⟨b0, b1⟩ := b
      have HBa := hide (HBw.out.alloc HBw.out.size (.cells #[.int .i64 (b0 : Nat), .int .i64 (b1 : Nat)] 64))
      have HBc := hide (HBr.out.alloc HBr.out.size (.cells #[.int .i64 (b0 : Nat), .int .i64 (b1 : Nat)] 64))
      have HXa := hide (HXr.out.alloc (.cells #[.int .i64 (b0 : Nat), .int .i64 (b1 : Nat)] 64))
      clear had HK hdr HBr
      dsimp only at *
      have hw2 : IntKind.i64.wrap ((b0 : Int) + (b1 : Int)) = (b0 : Int) + (b1 : Int) := by rw [IntKind.wrap_i64]; omega
      have hw3 : IntKind.i64.wrap ((b0 : Int) + (b1 : Int) - (off : Int)) = (b0 : Int) + (b1 : Int) - (off : Int) := by rw [IntKind.wrap_i64]; omega
      subst hBad
      by_cases g1 : b0 ≤ off
      · have f1 : decide ((b0 : Int) ≤ (off : Int)) = true := decide_eq_true (by omega)
        have f1' : (b0 : Int) ≤ (off : Int) := by omega
        by_cases g2 : off ≤ b0 + b1
        · have f2' : (off : Int) ≤ (b0 : Int) + (b1 : Int) := by omega
          by_cases g3 : off + n ≤ b0 + b1
          · have f3' : (n : Int) ≤ (b0 : Int) + (b1 : Int) - (off : Int) := by omega
            have p0 := HXa.out.cell 0
            have p1 := HXa.out.cell 1
            have p2 := HXa.out.cell 2
            have VPP := hide (VP.out _ HBa.out)
            clear hk g1 g2 g3
            go_wp2_with fail
            refine VPP.out.mono ?_
            rintro e w5 ⟨rfl, hb5⟩
            go_wp2_with fail
            refine bodyPost_ret (results_two rfl _ _) rfl ?_
            exact ⟨rfl, HBa.out.trans (hb5.mono HBa.out.size)⟩
          · have f3' : ¬ ((n : Int) ≤ (b0 : Int) + (b1 : Int) - (off : Int)) := by omega
            have HK1 : Hid (∃ b ∈ h.bs.drop (j + 1), Bk.has off n b) := hide (by
              obtain ⟨b, hb, hh⟩ := hk
              rcases List.mem_cons.1 hb with rfl | hb
              · exact absurd hh.2 g3
              · exact ⟨b, hb, hh⟩)
            clear hk g1 g2 g3
            go_wp2_with fail
            go_roundw
            case rel => exact ⟨j + 1, by omega, by go_num, HBc, HK1⟩
            case measure => simp [intOf]; omega
        · have f2' : ¬ ((off : Int) ≤ (b0 : Int) + (b1 : Int)) := by omega
          have HK1 : Hid (∃ b ∈ h.bs.drop (j + 1), Bk.has off n b) := hide (by
            obtain ⟨b, hb, hh⟩ := hk
            rcases List.mem_cons.1 hb with rfl | hb
            · have := hh.2
              dsimp only at this
              omega
            · exact ⟨b, hb, hh⟩)
          clear hk g1 g2
          go_wp2_with fail
          go_roundw
          case rel => exact ⟨j + 1, by omega, by go_num, HBc, HK1⟩
          case measure => simp [intOf]; omega
      · have f1' : ¬ ((b0 : Int) ≤ (off : Int)) := by omega
        have HK1 : Hid (∃ b ∈ h.bs.drop (j + 1), Bk.has off n b) := hide (by
          obtain ⟨b, hb, hh⟩ := hk
          rcases List.mem_cons.1 hb with rfl | hb
          · exact absurd hh.1 g1
          · exact ⟨b, hb, hh⟩)
        clear hk g1
        go_wp2_with fail
        go_roundw
        case rel => exact ⟨j + 1, by omega, by go_num, HBc, HK1⟩
        case measure => simp [intOf]; omega
    · obtain rfl : j = hm := by omega
      have hk := HK.out
      rw [List.drop_eq_nil_of_le (by rw [hmm.out]; omega)] at hk
      obtain ⟨b, hb, -⟩ := hk
      cases hb
end Go.Proofs.YtemaaipgjghlaaaDoor
