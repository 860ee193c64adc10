/-
  The chapter's example of a tag; two lists of bytes held against each other (mac.Same, mac.Differ). By an AI agent. No person has read it.
-/
import Derived.Test.YtijgomgiinlcoaaDoorShaMacOf
import Derived.Test.YtijgomgiinlcoaaDoorShaHex
namespace Go.Proofs.YtijgomgiinlcoaaDoor
open Go.RowKit

theorem mac_text : hexStr (Sha.mac [] []) = { data := #[98, 54, 49, 51, 54, 55, 57, 97, 48, 56, 49, 52, 100, 57, 101, 99, 55, 55, 50, 102, 57, 53, 100, 55, 55, 56, 99, 51, 53, 102, 99, 53, 102, 102, 49, 54, 57, 55, 99, 52, 57, 51, 55, 49, 53, 54, 53, 51, 99, 54, 99, 55, 49, 50, 49, 52, 52, 50, 57, 50, 99, 53, 97, 100] } := by
  kernel_rfl

set_option maxRecDepth 100000 in
set_option maxHeartbeats 4000000 in
theorem macfirst_c (w : World) (hT : Table w) :
    Calls Tryd.prog 29 #[] w fun e w' => e = .returned (.bool true) ∧ Below w.heap.size w w' := by
  have HT := hide hT
  clear hT
  obtain ⟨D, hD⟩ : ∃ D : Array Value, Hid ((u8s (Sha.mac [] [])).toArray = D) := ⟨_, hide rfl⟩
  have hml : (Sha.mac [] []).length = 32 := Sha.digest_length _
  have hDs : Hid ((Tryd.prog.info? 24).map (·.size) = some D.size) := by
    rw [← hD.out]
    show _ = some ((u8s (Sha.mac [] [])).toArray).size
    rw [List.size_toArray, List.length_map, hml]
    kernel_rfl
  have hDl : Hid ((u8s (List.replicate 32 0)).toArray.size = D.size) := by
    rw [← hD.out]
    simp [Hid, hml]
  have hD1 : Hid (D.all (·.oneCell') = true) := by
    rw [← hD.out]
    simp [Hid, Function.comp_def, Value.oneCell']
  go_enter Tryd.func29, Tryd.ntmps29
  go_wp2_with fail
  have hw := macof_c [] none none 0 0 [] w (Rb.nil w none) (by simp) (by intro i p h; simp at h) (by simp) (by simp) HT.out
  rw [show ([] : List (List Nat)).flatten = [] from rfl, hD.out] at hw
  refine hw.mono ?_
  rintro e w1 ⟨rfl, hB1⟩
  clear hw
  have hz : Hid ((w1.alloc (.cells (u8s (List.replicate 32 0)).toArray 24)).heap[w1.heap.size]? = some (.cells (u8s (List.replicate 32 0)).toArray 24 (0, 0))) := heap_alloc_new w1 _
  have hz2 : Hid (((w1.alloc (.cells (u8s (List.replicate 32 0)).toArray 24)).setRow w1.heap.size D).heap[w1.heap.size]? = some (.cells D 24 (0, 0))) := setRow_heap _ _ _ D _ _ hz.out
  have hB2 : Hid (Below w.heap.size w ((w1.alloc (.cells (u8s (List.replicate 32 0)).toArray 24)).setRow w1.heap.size D)) := hide (below_setRow (hB1.alloc hB1.size _) hB1.size _)
  go_wp2_with (first
    | (refine wpList_store_row rfl 24 (.tmp 1) (.tmp 2) rfl w1.heap.size D rfl rfl _ _ hz.out hDs.out hDl.out hD1.out ?_
       generalize hw8 : World.setRow _ w1.heap.size D = w8
       have hw8' : (w1.alloc (.cells (u8s (List.replicate 32 0)).toArray 24)).setRow w1.heap.size D = w8 := hw8
       rw [hw8'] at hz2 hB2
       clear hz hw8 hw8')
    | (refine wpList_load_row rfl 24 (.tmp 1) rfl w1.heap.size rfl 24 D (0, 0) _ hz2.out Tryd.underlying24 rfl hDs.out ?_))
  have hx := hex_c (Sha.mac [] []) hml (Sha.digest_bytes _) w8
  rw [hD.out, mac_text] at hx
  refine hx.mono ?_
  rintro e w2 ⟨rfl, hB3⟩
  clear hx
  have hB4 := hB2.out.trans (hB3.mono hB2.out.size)
  clear hB3
  go_wp2_with fail
  go_ret
  exact ⟨rfl, hB4⟩

/-- What two bytes have unlike, gathered. -/
def gath (a b : List Nat) (i : Nat) : Nat := ((List.zipWith (fun x y => x ^^^ y) a b).take i).foldl (fun s x => s ||| x) 0
/-- How many of the first ones differ. -/
def unlike (a b : List Nat) (i : Nat) : Nat := ((List.zipWith (fun x y => if x = y then 0 else 1) a b).take i).sum
end Go.Proofs.YtijgomgiinlcoaaDoor
