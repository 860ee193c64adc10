/-
  mac.Sub, walked: the tag of a name's bytes in memory of its own. By an AI agent. No person has read it.
-/
import Derived.Test.YtijgomgiinlcoaaDoorShaMacTag
import Derived.Laws.IdiomStrings
namespace Go.Proofs.YtijgomgiinlcoaaDoor
open Go.RowKit

/-- The string of some bytes. -/
def strB (bs : List Nat) : ByteArray := ⟨(bs.map UInt8.ofNat).toArray⟩
theorem strB_size (bs : List Nat) : (strB bs).size = bs.length := by simp [strB, ByteArray.size]
/-- '[]byte(s)'. -/
theorem bytes_of (bs : List Nat) (hb : Sha.Bytes bs) (hl : bs.length ≤ 1000000) (w : World) : ∃ (wx : World) (cc : Nat),
    (convert 9 22 (.string (strB bs))).run Tryd.prog w = .ok (.slice (some ⟨w.heap.size, 0, none⟩) bs.length cc) wx ∧
    Rb wx (some ⟨w.heap.size, 0, none⟩) bs ∧ bs.length ≤ cc ∧ cc ≤ 9223372036854775807 ∧ Below w.heap.size w wx ∧ wx.heap.size = w.heap.size + 1 := by
  have h := run_bytes_of_string (P := Tryd.prog) w 9 22 5 (strB bs) (by kernel_rfl) (by kernel_rfl) (by kernel_rfl)
  rw [strB_size] at h
  refine ⟨_, _, h, ⟨hb, fun _ => ⟨_, rfl, by rw [World.size_alloc]; exact Nat.lt_succ_self w.heap.size, fun i b hi => ?_⟩⟩, grownCap_ge _ _ _ _, ?_, ((Below.refl _ w).drew).alloc (Nat.le_refl _) _, by rw [World.size_alloc]; rfl⟩
  · have e : (⟨w.heap.size, 0, none⟩ : Addr).add i = ⟨w.heap.size, i, none⟩ := by unfold Addr.add; split <;> simp_all
    rw [e, cell_of_row _ w.heap.size i _ _ _ (heap_alloc_new w.drew _)]
    have hil := (List.getElem?_eq_some_iff.1 hi).1
    have hb256 := hb b (List.mem_of_getElem? hi)
    unfold bytesRow
    rw [Array.getElem?_append_left (by simp [strB]; exact hil)]
    have hi2 := (List.getElem?_eq_some_iff.1 hi).2
    simp [strB, hi]
    omega
  · have := grownCap_le_maxLen w bs.length 0 5 (by unfold maxLen; omega)
    unfold maxLen at this
    omega

set_option maxRecDepth 100000 in
set_option maxHeartbeats 4000000 in
theorem sub_c (k bs : List Nat) (A : Option Addr) (capk : Nat) (w : World) (hk : Rb w A k) (hkm : k.length ≤ 1000000) (hkc : k.length ≤ capk) (hkc2 : capk ≤ 9223372036854775807) (hb : Sha.Bytes bs) (hl : bs.length ≤ 1000000) (hT : Table w) :
    Calls Tryd.prog 33 #[.slice A k.length capk, .string (strB bs)] w fun e w' => Below w.heap.size w w' ∧ ∃ g, e = .returned (.slice (some ⟨g, 0, none⟩) 32 32) ∧ w.heap.size ≤ g ∧ Has w' g 24 (u8s (Sha.tag k bs)) := by
  obtain ⟨n, hn⟩ : ∃ n, Hid (k.length = n) := ⟨_, hide rfl⟩
  obtain ⟨m, hm⟩ : ∃ m, Hid (bs.length = m) := ⟨_, hide rfl⟩
  obtain ⟨S, hS⟩ : ∃ S, Hid (strB bs = S) := ⟨_, hide rfl⟩
  obtain ⟨wx, cc, hcv, hrx, hc1, hc2, hBx, hsx⟩ := bytes_of bs hb hl w
  have hp := parts_one (w := wx) hrx hc1 hc2
  have hw := mactag_c k A (some ⟨wx.heap.size, 0, none⟩) capk 1 [bs] _ ((hk.below hBx).below ((Below.refl _ _).alloc (Nat.le_refl _) (.cells #[.slice (some ⟨w.heap.size, 0, none⟩) bs.length cc] 22))) hkm hkc hkc2 hp (by simp) (by simp; omega) (hT.below (hBx.alloc hBx.size _))
  obtain ⟨D, hD⟩ : ∃ D : Array Value, Hid ((u8s (Sha.tag k bs)).toArray = D) := ⟨_, hide rfl⟩
  rw [show [bs].flatten = bs by simp, hD.out, hn.out, hm.out] at hw
  rw [hS.out, hm.out] at hcv
  rw [hn.out, hS.out]
  have HW := hide hw
  have HBX := hide hBx
  have HSX := hide hsx
  have hDs : Hid ((Tryd.prog.info? 24).map (·.size) = some D.size) := by
    rw [← hD.out]
    show _ = some ((u8s (Sha.tag k bs)).toArray).size
    rw [List.size_toArray, List.length_map, tag_length]
    kernel_rfl
  have hDl : Hid ((u8s (List.replicate 32 0)).toArray.size = D.size) := by
    rw [← hD.out]
    simp [Hid, tag_length]
  have hD1 : Hid (D.all (·.oneCell') = true) := by
    rw [← hD.out]
    simp [Hid, Function.comp_def, Value.oneCell']
  clear hw hBx hsx hp hrx hk hT
  go_enter Tryd.func33, Tryd.ntmps33
  go_wp2_with fail
  refine HW.out.mono ?_
  rintro e w1 ⟨rfl, hB1⟩
  have hB1' : Below w.heap.size w w1 := (HBX.out.alloc HBX.out.size _).trans (hB1.mono (by have := HBX.out.size; simp; omega))
  have hz : Hid ((w1.alloc (.cells (u8s (List.replicate 32 0)).toArray 24)).heap[w1.heap.size]? = some (.cells (u8s (List.replicate 32 0)).toArray 24 (0, 0))) := heap_alloc_new w1 _
  have hz2 : Hid (((w1.alloc (.cells (u8s (List.replicate 32 0)).toArray 24)).setRow w1.heap.size D).heap[w1.heap.size]? = some (.cells D 24 (0, 0))) := setRow_heap _ _ _ D _ _ hz.out
  have hB2 : Hid (Below w.heap.size w ((w1.alloc (.cells (u8s (List.replicate 32 0)).toArray 24)).setRow w1.heap.size D)) := hide (below_setRow (hB1'.alloc hB1'.size _) hB1'.size _)
  have hs1 := hB1'.size
  clear hB1 hB1'
  go_wp2_with (refine wpList_store_row rfl 24 (.tmp 5) (.tmp 10) rfl w1.heap.size D rfl rfl _ _ hz.out hDs.out hDl.out hD1.out ?_
               generalize hw8 : World.setRow _ w1.heap.size D = w8
               have hw8' : (w1.alloc (.cells (u8s (List.replicate 32 0)).toArray 24)).setRow w1.heap.size D = w8 := hw8
               rw [hw8'] at hz2 hB2
               clear hz hw8 hw8')
  go_ret
  exact ⟨hB2.out, w1.heap.size, rfl, hs1, by unfold Has; rw [hz2.out, hD.out]⟩
end Go.Proofs.YtijgomgiinlcoaaDoor
