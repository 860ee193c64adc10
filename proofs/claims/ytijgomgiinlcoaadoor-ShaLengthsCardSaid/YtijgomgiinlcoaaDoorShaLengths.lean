/-
  The law ShaLengths of package lodgelaw1, walked. By an AI agent. No person has read it.
-/
import Derived.Test.YtijgomgiinlcoaaDoorShaRef2
import Derived.Test.YtijgomgiinlcoaaDoorShaAny
import Derived.Test.YtijgomgiinlcoaaDoorShaHex
namespace Go.Proofs.YtijgomgiinlcoaaDoor
open Go.RowKit

/-- So many bytes of one kind, and nothings behind. -/
def fill (n c i : Nat) : List Nat := List.replicate i c ++ List.replicate (n - i) 0
theorem fill_length (n c i : Nat) (h : i ≤ n) : (fill n c i).length = n := by simp [fill]; omega
theorem fill_set (n c i : Nat) (h : i < n) : (fill n c i).set i c = fill n c (i + 1) := by
  have e : List.replicate (n - i) 0 = 0 :: List.replicate (n - (i + 1)) 0 := by
    rw [show n - i = (n - (i + 1)) + 1 by omega]; rfl
  unfold fill
  rw [List.set_append_right _ _ (by simp), e]
  simp [List.replicate_succ']
theorem made_zero (n : Nat) : madeCells (Value.int .u8 0).cells n = (u8s (List.replicate n 0)).toArray := by
  have e : (Value.int .u8 0).cells = #[.int .u8 0] := rfl
  rw [e]
  apply Array.ext
  · simp [madeCells]
  · intro i h1 h2
    simp [madeCells, Nat.mod_one]
theorem size_hex (l : List Nat) (h : l.length = 32) : (strOfNums ((Sha.hex l).map Int.ofNat)).size = 64 := by
  rw [strOfNums_size, List.length_map, Sha.hex_length, h]

set_option maxRecDepth 100000 in
set_option maxHeartbeats 4000000 in
theorem lengths_c (n0 : Int) (c : Nat) (hc : c < 256) (W : World) (hT : Table W) :
    Calls Tryd.prog 5 #[.int .i64 n0, .int .u8 (c : Int)] W fun e w' => e = .returned (.bool true) ∧ Below W.heap.size W w' := by
  have HT := hide hT
  clear hT
  go_enter Tryd.func5, Tryd.ntmps5
  go_wp2_with fail
  refine (first_c W HT.out).mono ?_
  rintro e w1 ⟨rfl, hB1⟩
  go_wp2_with fail
  refine (number_c n0 300 (by decide) (by decide) 300 rfl w1).mono ?_
  rintro e w2 ⟨rfl, rfl⟩
  have hnl := num_lt n0 300 (by decide)
  obtain ⟨n, hn⟩ : ∃ n, Hid (num n0 300 = n) := ⟨_, hide rfl⟩
  rw [hn.out] at hnl ⊢
  clear hn
  obtain ⟨i0, hi0, hz0, hz1, hz2⟩ := u8info
  obtain ⟨Z, hZ⟩ : ∃ Z, Hid ((u8s (List.replicate n 0)).toArray = Z) := ⟨_, hide rfl⟩
  have hmk : ∀ w : World, (Instr.makeSlice 22 (.int .i64 (n : Int)) (.int .i64 (n : Int))).run Tryd.prog w = .ok (.slice (some ⟨w.heap.size, 0, none⟩) n n) (w.alloc (.cells Z 5)) := by
    intro w
    have h := run_make (P := Tryd.prog) w 22 5 i0 (.int .u8 0) ubs hi0 hz0 .i64 .i64 (n : Int) (n : Int) (by omega) (by omega) (by rw [hz2]; omega) (by omega)
    rw [hz1, Int.toNat_natCast, Nat.mul_one, made_zero, hZ.out] at h
    exact h
  clear hi0 hz0 hz1 hz2
  have hF0 : Has (w2.alloc (.cells Z 5)) w2.heap.size 5 (u8s (fill n c 0)) := by
    rw [← hZ.out, show fill n c 0 = List.replicate n 0 by simp [fill]]
    exact Has.new w2 _ _
  have hB2 : Below W.heap.size W (w2.alloc (.cells Z 5)) := hB1.alloc hB1.size _
  have hWs := hB1.size
  have HF0 := hide hF0
  have HB2 := hide hB2
  clear hF0 hB2 hB1
  go_wp2_with fail
  go_loopw [7] (fun k wr => ∃ i : Nat, i ≤ n ∧ k = .int .i64 i ∧ Has wr w2.heap.size 5 (u8s (fill n c i)) ∧ Below W.heap.size W wr) (fun k _ => n - (intOf k).toNat)
  case atStart => exact ⟨0, by omega, rfl, HF0.out, HB2.out⟩
  case round =>
    obtain ⟨i, hi, rfl, hH, hB⟩ := hrel
    clear HF0 HB2
    have HH := hide hH
    have HB := hide hB
    by_cases hlt : i < n
    · have him : (i : Int) < n := by omega
      have hcl : wr.cell? ⟨w2.heap.size, i, none⟩ = some _ := (hH.cell i).trans (u8s_at _ i (by rw [fill_length _ _ _ hi]; exact hlt))
      have hfr := hH.frozen i
      clear hH hB
      go_wp2_with fail
      go_roundw
      case rel =>
        have h := HH.out.set_ i (.int .u8 (c : Int))
        rw [u8s_set, fill_set _ _ _ hlt] at h
        exact ⟨i + 1, by omega, by go_num, h, HB.out.setCell (by simpa using hWs) _⟩
      case measure => simp [intOf]; omega
    · obtain rfl : i = n := by omega
      rw [show fill i c i = List.replicate i c by simp [fill]] at HH
      obtain ⟨b, hb⟩ : ∃ b, Hid (List.replicate i c = b) := ⟨_, hide rfl⟩
      have hbl : Hid (b.length = i) := hide (by rw [← hb.out]; simp)
      have hbB : Sha.Bytes b := by rw [← hb.out]; intro x hx; have := (List.mem_replicate.1 hx).2; omega
      rw [hb.out] at HH
      have hg := HH.out.lt
      have HR : Hid (Rb wr (some ⟨w2.heap.size, 0, none⟩) b) := hide ⟨hbB, fun _ => ⟨_, rfl, hg, fun j x hj => by
        have e : (⟨w2.heap.size, 0, none⟩ : Addr).add j = ⟨w2.heap.size, j, none⟩ := by unfold Addr.add; split <;> simp_all
        rw [e, HH.out.cell, List.getElem?_map, hj]
        rfl⟩⟩
      have HTr := hide (HT.out.below hB)
      have hbl2 : Hid (b.length < 1099511627000) := hide (by rw [hbl.out]; omega)
      have hp := hide (parts_one (cap := i) HR.out (by rw [hbl.out]; exact Nat.le_refl _) (by omega))
      rw [hbl.out] at hp
      obtain ⟨D, hD⟩ : ∃ D, Hid ((u8s (Sha.digest b)).toArray = D) := ⟨_, hide rfl⟩
      have hBa : Hid (Below wr.heap.size wr (wr.alloc (.cells #[.slice (some ⟨w2.heap.size, 0, none⟩) i i] 22))) := hide ((Below.refl _ _).alloc (Nat.le_refl _) _)
      have hw := of_c (some ⟨wr.heap.size, 0, none⟩) [b] 1 _ hp.out (by simp) (by simpa using hbl2.out) (HTr.out.below hBa.out)
      rw [show [b].flatten = b by simp, hD.out] at hw
      have HW := hide hw
      clear hw hH hB hg hmk
      go_wp2_with fail
      refine HW.out.mono ?_
      rintro e w3 ⟨rfl, hB3⟩
      have HB3 := hide (hBa.out.trans (hB3.mono hBa.out.size))
      clear hB3 HW hp hBa
      go_wp2_with fail
      have hw := refsum_c b (some ⟨w2.heap.size, 0, none⟩) i w3 (HR.out.below HB3.out) (by rw [hbl.out]; omega)
      rw [hbl.out, hD.out] at hw
      refine hw.mono ?_
      rintro e w4 ⟨rfl, hB4⟩
      clear hw
      have HB4 := hide (HB3.out.trans (hB4.mono HB3.out.size))
      clear hB4
      go_wp2_with fail
      have hs := samesum_c (Sha.digest b) (Sha.digest_length _) (Sha.digest_bytes _) w4
      rw [hD.out] at hs
      refine hs.mono ?_
      rintro e w5 ⟨rfl, hB5⟩
      clear hs
      have HB5 := hide (HB4.out.trans (hB5.mono HB4.out.size))
      clear hB5
      have hp := hide (parts_one (cap := i) (HR.out.below HB5.out) (by rw [hbl.out]; exact Nat.le_refl _) (by omega))
      rw [hbl.out] at hp
      have hBa : Hid (Below wr.heap.size wr (w5.alloc (.cells #[.slice (some ⟨w2.heap.size, 0, none⟩) i i] 22))) := hide (HB5.out.alloc HB5.out.size _)
      have hw := of_c (some ⟨w5.heap.size, 0, none⟩) [b] 1 _ hp.out (by simp) (by simpa using hbl2.out) (HTr.out.below hBa.out)
      rw [show [b].flatten = b by simp, hD.out] at hw
      have HW := hide hw
      clear hw
      go_wp2_with fail
      refine HW.out.mono ?_
      rintro e w6 ⟨rfl, hB6⟩
      have HB6 := hide (hBa.out.trans (hB6.mono hBa.out.size))
      clear hB6 HW hp hBa
      go_wp2_with fail
      have ht := text_c (Sha.digest b) (Sha.digest_length _) (Sha.digest_bytes _) w6
      obtain ⟨S, hS⟩ : ∃ S, Hid (strOfNums ((Sha.hex (Sha.digest b)).map Int.ofNat) = S) := ⟨_, hide rfl⟩
      have hSs : S.size = 64 := by rw [← hS.out]; exact size_hex _ (Sha.digest_length _)
      rw [hD.out, hS.out] at ht
      refine ht.mono ?_
      rintro e w7 ⟨rfl, hB7⟩
      clear ht
      have HB7 := hide (HB6.out.trans (hB7.mono HB6.out.size))
      clear hB7
      go_wp2_with fail
      go_ret
      exact ⟨rfl, HB.out.trans (HB7.out.mono HB.out.size)⟩
end Go.Proofs.YtijgomgiinlcoaaDoor
