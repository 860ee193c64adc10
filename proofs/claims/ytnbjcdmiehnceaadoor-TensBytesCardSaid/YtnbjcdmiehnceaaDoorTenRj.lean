/-
  lodgeref3.number, walked. By an AI agent. No person has read it.
-/
import Derived.Test.YtnbjcdmiehnceaaDoorTenRi
namespace Go.Proofs.YtnbjcdmiehnceaaDoor
open Go.RowKit

set_option maxRecDepth 100000 in
set_option maxHeartbeats 4000000 in
theorem rnum_n (bs : List Nat) (A : Option Addr) (cap i : Nat) (w : World) (hr : Rb w A bs) (hi : i < bs.length) :
    Calls Tryd.prog 82 #[.slice A bs.length cap, .int .i64 (i : Int), .bool false] w fun e w' => e = .returned (.int .i64 (Tens.num1 (bs.getD i 0))) ∧ Below w.heap.size w w' := by
  obtain ⟨ad, b, rfl, eb, lb, cb⟩ := rb_at hr i hi
  have hg : bs.getD i 0 = b := by rw [List.getD_eq_getElem?_getD, eb.out]; rfl
  rw [hg]
  obtain ⟨n, hn⟩ : ∃ n, Hid (bs.length = n) := ⟨_, hide rfl⟩
  rw [hn.out] at hi ⊢
  have hw8 := num1_wrap b lb
  have hbd := num1_bounds b lb
  obtain ⟨z, hz⟩ : ∃ z, Hid (Tens.num1 b = z) := ⟨_, hide rfl⟩
  rw [hz.out] at hw8 hbd ⊢
  have hw64 : IntKind.i64.wrap z = z := by rw [IntKind.wrap_i64]; omega
  have hin : (i : Int) < n := by omega
  clear hr hg eb hbd
  go_enter Tryd.func82, Tryd.ntmps82
  go_wp2_with fail
  go_ret
  exact ⟨rfl, Below.refl _ _⟩
set_option maxRecDepth 100000 in
set_option maxHeartbeats 4000000 in
theorem rnum_w (bs : List Nat) (A : Option Addr) (cap i : Nat) (w : World) (hr : Rb w A bs) (hi : 4 * i + 4 ≤ bs.length) (hl : bs.length ≤ 1000000) (hc : bs.length ≤ cap) :
    Calls Tryd.prog 82 #[.slice A bs.length cap, .int .i64 (i : Int), .bool true] w fun e w' => e = .returned (.int .i64 (Tens.wide (Tens.v4 bs (4 * i) : Int))) ∧ Below w.heap.size w w' := by
  obtain ⟨m, hm⟩ : ∃ m, Hid (bs.length = m) := ⟨_, hide rfl⟩
  rw [hm.out] at hi hl hc ⊢
  obtain ⟨q, hqi⟩ : ∃ q, Hid (4 * i = q) := ⟨_, hide rfl⟩
  have hqw : IntKind.i64.wrap (4 * (i : Int)) = (q : Int) := by rw [IntKind.wrap_i64, ← hqi.out]; omega
  rw [hqi.out] at hi ⊢
  have hqc : q + 4 ≤ cap := Nat.le_trans hi hc
  obtain ⟨A2, hA2⟩ : ∃ A2, Hid ((if cap = q then A else A.map (·.add (q * 1))) = A2) := ⟨_, hide rfl⟩
  have hcut0 := fun W => cut_run A A2 m cap q (q + 4) hA2 (by omega) hqc W
  rw [show q + 4 - q = 4 by omega] at hcut0
  have hrb2 := hr.cut (lo := q) (hi := q + 4) hA2 (by rw [hm.out]; exact hi) (by rw [hm.out]; exact hc)
  have hcs : ∀ j, j < 4 → ((bs.take (q + 4)).drop q)[j]? = some (bs.getD (q + j) 0) := by
    intro j hj
    rw [List.getElem?_drop, List.getElem?_take, if_pos (by omega), List.getD_eq_getElem?_getD, List.getElem?_eq_getElem (by rw [hm.out]; omega)]
    rfl
  obtain ⟨ad, hA2e, -, hcell⟩ := hrb2.2 (fun h => by have := hcs 0 (by omega); rw [h] at this; simp at this)
  subst hA2e
  have b0 := hcell 0 _ (hcs 0 (by omega))
  have b1 := hcell 1 _ (hcs 1 (by omega))
  have b2 := hcell 2 _ (hcs 2 (by omega))
  have b3 := hcell 3 _ (hcs 3 (by omega))
  have l0 := hrb2.1 _ (List.mem_of_getElem? (hcs 0 (by omega)))
  have l1 := hrb2.1 _ (List.mem_of_getElem? (hcs 1 (by omega)))
  have l2 := hrb2.1 _ (List.mem_of_getElem? (hcs 2 (by omega)))
  have l3 := hrb2.1 _ (List.mem_of_getElem? (hcs 3 (by omega)))
  have hv4 : Tens.v4 bs q = bs.getD (q + 0) 0 + bs.getD (q + 1) 0 * 256 + bs.getD (q + 2) 0 * 65536 + bs.getD (q + 3) 0 * 16777216 := rfl
  rw [hv4]
  generalize bs.getD (q + 0) 0 = c0 at *
  generalize bs.getD (q + 1) 0 = c1 at *
  generalize bs.getD (q + 2) 0 = c2 at *
  generalize bs.getD (q + 3) 0 = c3 at *
  clear hcell hcs hrb2 hr hA2 hv4
  have b0' := b0
  simp [Addr.add] at b0'
  have b1' := b1
  simp [Addr.add] at b1'
  have b2' := b2
  simp [Addr.add] at b2'
  have b3' := b3
  simp [Addr.add] at b3'
  obtain ⟨q4, hq4⟩ : ∃ q4, Hid (q + 4 = q4) := ⟨_, hide rfl⟩
  rw [hq4.out] at hcut0
  have hqw4 : IntKind.i64.wrap ((q : Int) + 4) = (q4 : Int) := by rw [IntKind.wrap_i64, ← hq4.out]; omega
  have w0 : IntKind.u32.wrap (c0 : Int) = (c0 : Int) := by rw [IntKind.wrap_u32]; omega
  have w1' : IntKind.u32.wrap (c1 : Int) = (c1 : Int) := by rw [IntKind.wrap_u32]; omega
  have w2 : IntKind.u32.wrap (c2 : Int) = (c2 : Int) := by rw [IntKind.wrap_u32]; omega
  have w3 : IntKind.u32.wrap (c3 : Int) = (c3 : Int) := by rw [IntKind.wrap_u32]; omega
  have s1 : IntKind.u32.wrap ((c1 : Int) * 256) = ((c1 * 256 : Nat) : Int) := by rw [IntKind.wrap_u32]; omega
  have s2 : IntKind.u32.wrap ((c2 : Int) * 65536) = ((c2 * 65536 : Nat) : Int) := by rw [IntKind.wrap_u32]; omega
  have s3 : IntKind.u32.wrap ((c3 : Int) * 16777216) = ((c3 * 16777216 : Nat) : Int) := by rw [IntKind.wrap_u32]; omega
  have o1 := or32 c0 c1 8 (by omega) (by omega) (by omega)
  have o2 := or32 (c0 + c1 * 256) c2 16 (by omega) (by omega) (by omega)
  have o3 := or32 (c0 + c1 * 256 + c2 * 65536) c3 24 (by omega) (by omega) (by omega)
  rw [show (2 : Nat) ^ 8 = 256 from rfl] at o1
  rw [show (2 : Nat) ^ 16 = 65536 from rfl] at o2
  rw [show (2 : Nat) ^ 24 = 16777216 from rfl] at o3
  obtain ⟨x1, hx1⟩ : ∃ x, Hid (c1 * 256 = x) := ⟨_, hide rfl⟩
  obtain ⟨x2, hx2⟩ : ∃ x, Hid (c2 * 65536 = x) := ⟨_, hide rfl⟩
  obtain ⟨x3, hx3⟩ : ∃ x, Hid (c3 * 16777216 = x) := ⟨_, hide rfl⟩
  rw [hx1.out] at s1 o1 o2 o3 ⊢
  rw [hx2.out] at s2 o2 o3 ⊢
  rw [hx3.out] at s3 o3 ⊢
  obtain ⟨y1, hy1⟩ : ∃ y, Hid (c0 + x1 = y) := ⟨_, hide rfl⟩
  rw [hy1.out] at o1 o2 o3 ⊢
  obtain ⟨y2, hy2⟩ : ∃ y, Hid (y1 + x2 = y) := ⟨_, hide rfl⟩
  rw [hy2.out] at o2 o3 ⊢
  obtain ⟨y3, hy3⟩ : ∃ y, Hid (y2 + x3 = y) := ⟨_, hide rfl⟩
  rw [hy3.out] at o3 ⊢
  have hi32 : IntKind.i32.wrap (y3 : Int) = Tens.wide (y3 : Int) := wide_wrap _
  have hi64 : IntKind.i64.wrap (Tens.wide (y3 : Int)) = Tens.wide (y3 : Int) := wide_in _
  obtain ⟨z, hz⟩ : ∃ z, Hid (Tens.wide (y3 : Int) = z) := ⟨_, hide rfl⟩
  rw [hz.out] at hi32 hi64 ⊢
  have hu32 : IntKind.u32.wrap (x1 : Int) = (x1 : Int) := by rw [IntKind.wrap_u32]; have := hx1.out; omega
  clear hx1 hx2 hx3 hy1 hy2 hy3 l0 l1 l2 l3 hqc hq4 hz hqi hi hl hc hm
  go_enter Tryd.func82, Tryd.ntmps82
  go_wp2_with fail
  go_still_tail 23, (by kernel_rfl)
  change wpList _ _ _ _ _ w.drew
  go_wp2_with fail
  go_ret
  exact ⟨rfl, (Below.refl _ _).drew⟩
end Go.Proofs.YtnbjcdmiehnceaaDoor
