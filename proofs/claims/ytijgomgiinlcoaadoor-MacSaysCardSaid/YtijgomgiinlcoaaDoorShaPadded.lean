import Derived.Test.YtijgomgiinlcoaaDoorShaHex
import Derived.Laws.CopyOwn
namespace Go.Proofs.YtijgomgiinlcoaaDoor
open Go.RowKit

namespace Sha
/-- A key with zeros up to a block. -/
def full (k : List Nat) : List Nat := k ++ List.replicate (64 - k.length) 0
/-- .. and each byte turned by a mask, the first i of them. -/
def turned (k : List Nat) (mask i : Nat) : List Nat := ((full k).take i).map (· ^^^ mask) ++ (full k).drop i
theorem full_length (k : List Nat) (h : k.length ≤ 64) : (full k).length = 64 := by simp [full]; omega
theorem turned_length (k : List Nat) (mask i : Nat) (h : k.length ≤ 64) (hi : i ≤ 64) : (turned k mask i).length = 64 := by simp [turned, full_length k h]; omega
theorem full_bytes {k : List Nat} (h : Bytes k) : Bytes (full k) := h.append fun b hb => by
  have := (List.mem_replicate.1 hb).2; omega
theorem turned_next {k : List Nat} {mask i x : Nat} (h : k.length ≤ 64) (hi : i < 64) (hx : (full k)[i]? = some x) : (turned k mask i).set i (x ^^^ mask) = turned k mask (i + 1) := by
  have hf := full_length k h
  unfold turned
  rw [List.take_add_one, hx, List.drop_eq_getElem_cons (by omega)]
  have hl : (((full k).take i).map (· ^^^ mask)).length = i := by simp [hf]; omega
  rw [List.set_append_right _ _ (by omega), hl, Nat.sub_self, List.set_cons_zero]
  simp
end Sha
theorem splice_zeros (k : List Nat) (N : Nat) : splice (u8s (List.replicate N 0)) 0 (u8s k) = u8s (k ++ List.replicate (N - k.length) 0) := by
  simp [splice, u8s]
theorem turned_zero (k : List Nat) (mask : Nat) : Sha.turned k mask 0 = k ++ List.replicate (64 - k.length) 0 := by
  unfold Sha.turned Sha.full
  rw [List.take_zero, List.map_nil, List.nil_append, List.drop_zero]
theorem turned_at {k : List Nat} {mask i : Nat} (h : k.length ≤ 64) (hb : Sha.Bytes k) (hi : i < 64) : ∃ x : Nat, Hid ((Sha.full k)[i]? = some x) ∧ x < 256 ∧ (u8s (Sha.turned k mask i))[i]? = some (.int .u8 (x : Int)) := by
  have hf := Sha.full_length k h
  have hi' : i < (Sha.full k).length := by omega
  refine ⟨(Sha.full k)[i], List.getElem?_eq_getElem hi', Sha.full_bytes hb _ (List.getElem_mem hi'), ?_⟩
  rw [List.getElem?_map, Sha.turned, List.getElem?_append_right (by simp; omega)]
  simp [hf, Nat.min_eq_left (Nat.le_of_lt hi), List.getElem?_eq_getElem hi']

set_option maxRecDepth 100000 in
set_option maxHeartbeats 4000000 in
theorem padded_c (k : List Nat) (A : Option Addr) (cap mask : Nat) (maskI : Int) (hmI : maskI = mask) (w : World) (hk : Rb w A k) (hl : k.length ≤ 64) (hm : mask < 256) :
    Calls Tryd.prog 39 #[.slice A k.length cap, .int .u8 maskI] w fun e w' => e = .returned (.slice (some ⟨w.heap.size, 0, none⟩) 64 64) ∧ Has w' w.heap.size 5 (u8s (Sha.turned k mask 64)) ∧ Below w.heap.size w w' := by
  subst hmI
  obtain ⟨Zl, hZl⟩ : ∃ Zl, Hid (u8s (List.replicate 64 0) = Zl) := ⟨_, hide rfl⟩
  obtain ⟨Z, hZ⟩ : ∃ Z, Hid (Zl.toArray = Z) := ⟨_, hide rfl⟩
  have hmk : ∀ w : World, (Instr.makeSlice 22 (.int .i64 64) (.int .i64 64)).run Tryd.prog w = .ok (.slice (some ⟨w.heap.size, 0, none⟩) 64 64) (w.alloc (.cells Z 5)) := by
    intro w
    rw [← hZ.out, ← hZl.out]
    kernel_rfl
  obtain ⟨n, hn⟩ : ∃ n, Hid (k.length = n) := ⟨_, hide rfl⟩
  have HL := hide hl
  have HK := hide hk
  have hrow : Hid ((w.alloc (.cells Z 5)).heap[w.heap.size]? = some (.cells Zl.toArray 5 (0, 0))) := by
    rw [hZ.out]; exact heap_alloc_new w _
  have hcl : Hid ((u8s k).length = Nat.min n 64) := hide (by rw [List.length_map, hn.out]; have := HL.out; rw [hn.out] at this; exact (Nat.min_eq_left this).symm)
  have hpos : Hid (0 < (u8s k).length → (some (⟨w.heap.size, 0, none⟩ : Addr)) = some ⟨w.heap.size, 0, none⟩ ∧ ∃ ad, A = some ad ∧ ∀ j v, (u8s k)[j]? = some v → (w.alloc (.cells Z 5)).cell? (ad.add j) = some v) := hide (by
    intro h0
    refine ⟨rfl, ?_⟩
    obtain ⟨ad, e, h1, h2⟩ := HK.out.2 (by rintro rfl; simp at h0)
    refine ⟨ad, e, fun j v hj => ?_⟩
    rw [List.getElem?_map, Option.map_eq_some_iff] at hj
    obtain ⟨b, hb, rfl⟩ := hj
    rw [(Below.alloc (Below.refl _ w) (Nat.le_refl _) _).cell (p := ad.add j) (by rw [block_add]; exact h1)]
    exact h2 j b hb)
  have hfit : Hid (0 + (u8s k).length ≤ Zl.length) := hide (by rw [← hZl.out]; simpa using HL.out)
  have h1c : Hid (∀ v ∈ u8s k, v.oneCell' = true) := hide (by
    intro v hv
    simp only [List.mem_map] at hv
    obtain ⟨b, _, rfl⟩ := hv
    rfl)
  have hb0 : Hid (Below w.heap.size w (w.alloc (.cells Z 5))) := hide ((Below.refl _ _).alloc (Nat.le_refl _) _)
  have hsz : Hid ((Tryd.prog.info? 5).map (·.size) = some 1) := hide (by kernel_rfl)
  have hu : Hid (Tryd.prog.underlying 22 = some (.slice 5)) := hide (by kernel_rfl)
  rw [hn.out]
  clear hl hk
  go_enter Tryd.func39, Tryd.ntmps39
  go_wp2_with (refine wpList_copy_splice rfl (.tmp 8) (.tmp 9) _ _ rfl 5 hu.out hsz.out (some ⟨w.heap.size, 0, none⟩) A 64 64 n cap rfl rfl w.heap.size 0 Zl 5 hrow.out (u8s k) hcl.out hpos.out hfit.out h1c.out w.heap.size w hb0.out (Nat.le_refl _) ?_)
  intro w' hw' hB'
  have hI0 : Has w' w.heap.size 5 (u8s (Sha.turned k mask 0)) := by
    have h := hw'.out
    rw [← hZl.out, splice_zeros, ← turned_zero k mask] at h
    exact h
  clear hw' hpos h1c hfit hcl hrow hmk
  go_wp2_with fail
  go_loopw [13] (fun v wr => ∃ i : Nat, i ≤ 64 ∧ v = .int .i64 i ∧ Has wr w.heap.size 5 (u8s (Sha.turned k mask i)) ∧ Below w.heap.size w wr) (fun v _ => 64 - (intOf v).toNat)
  case atStart => exact ⟨0, by omega, rfl, hI0, hB'⟩
  case round =>
    obtain ⟨i, hi, rfl, hI, hB⟩ := hrel
    clear hI0 hB'
    by_cases hlt : i < 64
    · have hi64 : (i : Int) < 64 := by omega
      obtain ⟨x, hx, hx2, hc⟩ := turned_at (mask := mask) HL.out HK.out.1 hlt
      have c1 := (hI.cell i).trans hc
      have f1 := hI.frozen i
      have hxor := u8_xor_nat x mask hx2 hm
      clear hc
      go_wp2_with fail
      go_roundw
      case rel =>
        refine ⟨i + 1, by omega, by go_num, ?_, hB.setCell (Nat.le_refl _) _⟩
        have h := hI.set_ i (.int .u8 ((x ^^^ mask : Nat) : Int))
        rw [u8s_set, Sha.turned_next HL.out hlt hx.out] at h
        exact h
      case measure => simp [intOf]; omega
    · obtain rfl : i = 64 := by omega
      go_wp2_with fail
      go_ret
      exact ⟨rfl, hI, hB⟩
end Go.Proofs.YtijgomgiinlcoaaDoor
