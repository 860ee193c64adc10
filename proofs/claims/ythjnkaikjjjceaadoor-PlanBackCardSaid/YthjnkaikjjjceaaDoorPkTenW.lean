/-
  Package tens's Numbers of wide ones, walked. By an AI agent. No person has read it.
-/
import Derived.Test.YthjnkaikjjjceaaDoorPkTenF
namespace Go.Proofs.YthjnkaikjjjceaaDoor
open Go.RowKit
/-- The number of four bytes from place q on. -/
def Tens.v4 (bs : List Nat) (q : Nat) : Nat := bs.getD q 0 + bs.getD (q + 1) 0 * 256 + bs.getD (q + 2) 0 * 65536 + bs.getD (q + 3) 0 * 16777216
def Tens.nums4 (bs : List Nat) : List Int := (List.range (bs.length / 4)).map fun i => Tens.wide (Tens.v4 bs (4 * i) : Int)
theorem wide_wrap (n : Int) : IntKind.i32.wrap n = Tens.wide n := by rw [IntKind.wrap_i32]; rfl
theorem wide_in (n : Int) : IntKind.i64.wrap (Tens.wide n) = Tens.wide n := by rw [IntKind.wrap_i64]; unfold Tens.wide; omega
theorem or32 (x b k : Nat) (hx : x < 2 ^ k) (h1 : x < 4294967296) (h2 : b * 2 ^ k < 4294967296) : bits .or .u32 (x : Int) ((b * 2 ^ k : Nat) : Int) = ((x + b * 2 ^ k : Nat) : Int) := by
  rw [u32_or_nat x _ h1 h2]
  exact congrArg (fun n : Nat => (n : Int)) (pk_or_add x b k hx)
set_option maxRecDepth 100000 in
set_option maxHeartbeats 4000000 in
theorem numbers_w (bs : List Nat) (A : Option Addr) (cap : Nat) (w : World) (hr : Rb w A bs) (hl : bs.length ≤ 1000000) (hc : bs.length ≤ cap) :
    Calls Tryd.prog 101 #[.slice A bs.length cap, .bool true] w fun e w' => (∃ g, e = .returned (.slice (some ⟨g, 0, none⟩) (bs.length / 4) (bs.length / 4)) ∧ w.heap.size ≤ g ∧ Has w' g 3 (i64s (Tens.nums4 bs))) ∧ Below w.heap.size w w' := by
  obtain ⟨m, hm⟩ : ∃ m, Hid (bs.length = m) := ⟨_, hide rfl⟩
  rw [hm.out] at hl hc ⊢
  obtain ⟨n, hn⟩ : ∃ n, Hid (m / 4 = n) := ⟨_, hide rfl⟩
  have hnm : 4 * n ≤ m := by rw [← hn.out]; omega
  rw [hn.out]
  have hL : (Tens.nums4 bs).length = n := by simp [Tens.nums4, hm.out, hn.out]
  obtain ⟨Z, hZ, hmk⟩ := made_ints n (by omega)
  have HSz := hide (fun W => size_of true W)
  have hq : (m : Int).tdiv 4 = (n : Int) := by rw [← hn.out, Int.tdiv_eq_ediv_of_nonneg (by omega)]; omega
  have hR0 : Has (w.alloc (Obj.cells Z 3)) w.heap.size 3 (i64s (List.replicate n 0)) := by rw [hZ.out]; exact Has.new w _ _
  have hb0 := (Below.refl _ w).alloc (Nat.le_refl _) (Obj.cells Z 3)
  have HR0 := hide hR0
  have HB0 := hide hb0
  have HA0 := hide hr
  have hwn : wrap64 (n : Int) = (n : Int) := by unfold wrap64; omega
  have HN6 := hide (show n ≤ 1000000 by omega)
  have HLn := hide hL
  have HNM := hide hnm
  have HC := hide hc
  clear hR0 hb0 hr hL hnm hc hn
  go_enter Tryd.func101, Tryd.ntmps101
  go_wp2_with fail
  refine (HSz.out w).mono ?_
  rintro e w1 ⟨rfl, rfl⟩
  rw [show ((Tens.each true : Nat) : Int) = 4 from rfl]
  clear HSz
  go_wp2_with fail
  have hR1 : Has (w1.alloc (Obj.cells Z 3)) w1.heap.size 3 (i64s (Tens.fill (Tens.nums4 bs) n 0)) := by
    have h := HR0.out
    simpa [Tens.fill] using h
  clear HR0
  generalize hW1 : w1.alloc (Obj.cells Z 3) = W1 at *
  clear hW1
  go_loopw [18] (fun k wr => ∃ i : Nat, i ≤ n ∧ k = .int .i64 i ∧ Hid (Has wr w1.heap.size 3 (i64s (Tens.fill (Tens.nums4 bs) n i))) ∧ Hid (Below w1.heap.size w1 wr)) (fun k _ => n - (intOf k).toNat)
  case atStart => exact ⟨0, Nat.zero_le _, rfl, hide hR1, HB0⟩
  case round =>
    obtain ⟨i, hi, rfl, hR, hB⟩ := hrel
    by_cases hlt : i < n
    · have hAr := HA0.out.below hB.out
      have him : (i : Int) < n := by omega
      obtain ⟨q, hqi⟩ : ∃ q, Hid (4 * i = q) := ⟨_, hide rfl⟩
      have hqm : q + 4 ≤ m := by rw [← hqi.out]; have := HNM.out; omega
      have hqc : q + 4 ≤ cap := Nat.le_trans hqm HC.out
      obtain ⟨A2, hA2⟩ : ∃ A2, Hid ((if cap = q then A else A.map (·.add (q * 1))) = A2) := ⟨_, hide rfl⟩
      have hcut0 := fun W => cut_run A A2 m cap q (q + 4) hA2 (by omega) hqc W
      rw [show q + 4 - q = 4 by omega] at hcut0
      have hrb2 := hAr.cut (lo := q) (hi := q + 4) hA2 (by rw [hm.out]; exact hqm) (by rw [hm.out]; exact HC.out)
      have hcs : ∀ j, j < 4 → ((bs.take (q + 4)).drop q)[j]? = some (bs.getD (q + j) 0) := by
        intro j hj
        rw [List.getElem?_drop, List.getElem?_take, if_pos (by omega), List.getD_eq_getElem?_getD, List.getElem?_eq_getElem (by rw [hm.out]; omega)]
        rfl
      obtain ⟨ad, hA2e, -, hcell⟩ := hrb2.2 (fun h => by have := hcs 0 (by omega); rw [h] at this; simp at this)
      subst hA2e
      have b0 := hcell 0 _ (hcs 0 (by omega))
      have b1 := hcell 1 _ (hcs 1 (by omega))
      have b2 := hcell 2 _ (hcs 2 (by omega))
      have b3 := hcell 3 _ (hcs 3 (by omega))
      have l0 := hrb2.1 _ (List.mem_of_getElem? (hcs 0 (by omega)))
      have l1 := hrb2.1 _ (List.mem_of_getElem? (hcs 1 (by omega)))
      have l2 := hrb2.1 _ (List.mem_of_getElem? (hcs 2 (by omega)))
      have l3 := hrb2.1 _ (List.mem_of_getElem? (hcs 3 (by omega)))
      have hv4 : Hid (Tens.v4 bs q = bs.getD (q + 0) 0 + bs.getD (q + 1) 0 * 256 + bs.getD (q + 2) 0 * 65536 + bs.getD (q + 3) 0 * 16777216) := hide rfl
      generalize bs.getD (q + 0) 0 = c0 at *
      generalize bs.getD (q + 1) 0 = c1 at *
      generalize bs.getD (q + 2) 0 = c2 at *
      generalize bs.getD (q + 3) 0 = c3 at *
      clear hcell hcs hrb2 hAr hA2
      have b0' := b0
      simp [Addr.add] at b0'
      have b1' := b1
      simp [Addr.add] at b1'
      have b2' := b2
      simp [Addr.add] at b2'
      have b3' := b3
      simp [Addr.add] at b3'
      have hn6 := HN6.out
      clear hwn
      have hqw : IntKind.i64.wrap (4 * (i : Int)) = (q : Int) := by rw [IntKind.wrap_i64, ← hqi.out]; omega
      obtain ⟨q4, hq4⟩ : ∃ q4, Hid (q + 4 = q4) := ⟨_, hide rfl⟩
      rw [hq4.out] at hcut0
      have hqw4 : IntKind.i64.wrap ((q : Int) + 4) = (q4 : Int) := by rw [IntKind.wrap_i64, ← hq4.out]; omega
      have hadd : IntKind.i64.wrap ((i : Int) + 1) = (i : Int) + 1 := by rw [IntKind.wrap_i64]; omega
      have w0 : IntKind.u32.wrap (c0 : Int) = (c0 : Int) := by rw [IntKind.wrap_u32]; omega
      have w1' : IntKind.u32.wrap (c1 : Int) = (c1 : Int) := by rw [IntKind.wrap_u32]; omega
      have w2 : IntKind.u32.wrap (c2 : Int) = (c2 : Int) := by rw [IntKind.wrap_u32]; omega
      have w3 : IntKind.u32.wrap (c3 : Int) = (c3 : Int) := by rw [IntKind.wrap_u32]; omega
      have s1 : IntKind.u32.wrap ((c1 : Int) * 256) = ((c1 * 256 : Nat) : Int) := by rw [IntKind.wrap_u32]; omega
      have s2 : IntKind.u32.wrap ((c2 : Int) * 65536) = ((c2 * 65536 : Nat) : Int) := by rw [IntKind.wrap_u32]; omega
      have s3 : IntKind.u32.wrap ((c3 : Int) * 16777216) = ((c3 * 16777216 : Nat) : Int) := by rw [IntKind.wrap_u32]; omega
      have o1 := or32 c0 c1 8 (by omega) (by omega) (by omega)
      have o2 := or32 (c0 + c1 * 256) c2 16 (by omega) (by omega) (by omega)
      have o3 := or32 (c0 + c1 * 256 + c2 * 65536) c3 24 (by omega) (by omega) (by omega)
      rw [show (2 : Nat) ^ 8 = 256 from rfl] at o1
      rw [show (2 : Nat) ^ 16 = 65536 from rfl] at o2
      rw [show (2 : Nat) ^ 24 = 16777216 from rfl] at o3
      have hV : c0 + c1 * 256 + c2 * 65536 + c3 * 16777216 < 4294967296 := by omega
      obtain ⟨x1, hx1⟩ : ∃ x, Hid (c1 * 256 = x) := ⟨_, hide rfl⟩
      obtain ⟨x2, hx2⟩ : ∃ x, Hid (c2 * 65536 = x) := ⟨_, hide rfl⟩
      obtain ⟨x3, hx3⟩ : ∃ x, Hid (c3 * 16777216 = x) := ⟨_, hide rfl⟩
      rw [hx1.out] at s1 o1 o2 o3 hV
      rw [hx1.out, hx2.out, hx3.out] at hv4
      rw [hx2.out] at s2 o2 o3 hV
      rw [hx3.out] at s3 o3 hV
      obtain ⟨y1, hy1⟩ : ∃ y, Hid (c0 + x1 = y) := ⟨_, hide rfl⟩
      rw [hy1.out] at o1 o2 o3 hV hv4
      obtain ⟨y2, hy2⟩ : ∃ y, Hid (y1 + x2 = y) := ⟨_, hide rfl⟩
      rw [hy2.out] at o2 o3 hV hv4
      obtain ⟨y3, hy3⟩ : ∃ y, Hid (y2 + x3 = y) := ⟨_, hide rfl⟩
      rw [hy3.out] at o3 hV hv4
      have hi32 : IntKind.i32.wrap (y3 : Int) = Tens.wide (y3 : Int) := wide_wrap _
      have hi64 : IntKind.i64.wrap (Tens.wide (y3 : Int)) = Tens.wide (y3 : Int) := wide_in _
      have hlz : (Tens.nums4 bs)[i]? = some (Tens.wide (y3 : Int)) := by
        have hil : i < bs.length / 4 := by have := HLn.out; simp [Tens.nums4] at this; omega
        simp only [Tens.nums4, List.getElem?_map, List.getElem?_range hil, Option.map_some]
        rw [hqi.out, hv4.out]
      obtain ⟨z, hz⟩ : ∃ z, Hid (Tens.wide (y3 : Int) = z) := ⟨_, hide rfl⟩
      rw [hz.out] at hi32 hi64 hlz
      have hu32 : IntKind.u32.wrap (x1 : Int) = (x1 : Int) := by rw [IntKind.wrap_u32]; have := hx1.out; omega
      have hcell : ∃ u, wr.cell? ⟨w1.heap.size, i, none⟩ = some u := by
        rw [hR.out.cell]
        exact ⟨_, List.getElem?_eq_getElem (by simp [Tens.fill, HLn.out]; omega)⟩
      obtain ⟨u, hu⟩ := hcell
      have hf := hR.out.frozen i
      have hR2 := hR.out.set_ i (.int .i64 z)
      rw [Tens.fill_set _ n i z HLn.out hlz] at hR2
      have HR2 := hide (show Has (wr.setCell ⟨w1.heap.size, i, none⟩ (.int .i64 z)) w1.heap.size 3 (i64s (Tens.fill (Tens.nums4 bs) n (i + 1))) from hR2)
      have HB2 := hide (hB.out.setCell (p := ⟨w1.heap.size, i, none⟩) (Nat.le_refl _) (.int .i64 z))
      clear hR hR2 hlz hB hV hqm hqi hv4 hx1 hx2 hx3 hy1 hy2 hy3 l0 l1 l2 l3 hqc
      clear hq4 hz hmk hq hn6
      go_wp2_with fail
      go_still_tail 27, (by kernel_rfl)
      change wpList _ _ _ _ _ wr.drew
      go_wp2_with fail
      go_roundw
      case rel => exact ⟨i + 1, by omega, by go_num, hide (HR2.out.drewN 1), hide HB2.out.drew⟩
      case measure => simp [intOf]; omega
    · obtain rfl : i = n := by omega
      have hfin := hR.out
      have e : Tens.fill (Tens.nums4 bs) i i = Tens.nums4 bs := by
        unfold Tens.fill
        rw [List.take_of_length_le (by rw [HLn.out]; exact Nat.le_refl _), Nat.sub_self]
        simp
      rw [e] at hfin
      have HF := hide hfin
      clear hfin e hR
      go_wp2_with fail
      go_ret
      exact ⟨⟨_, rfl, Nat.le_refl _, HF.out⟩, hB.out⟩
end Go.Proofs.YthjnkaikjjjceaaDoor
