import Derived.Test.YtijgomgiinlcoaaDoorShaHash
import Derived.Test.YtijgomgiinlcoaaDoorShaMix
namespace Go.Proofs.YtijgomgiinlcoaaDoor
open Go.RowKit

theorem rest_from (g n : Nat) (W : World) :
    (Instr.sliceAt 58 (.pointer (some ⟨g, 8, none⟩)) (some (.int .i64 ((n : Int) % 64))) none none).run Tryd.prog W = .ok (.slice (some ⟨g, 8 + n % 64, none⟩) (64 - n % 64) (64 - n % 64)) W := by
  rw [run_sliceAt_array_l W _ _ und58 _ _ (by omega) (by rw [len58]; omega), size58, len58]
  simp only [Result.andThen, slicedAt]
  have e1 : ((n : Int) % 64).toNat = n % 64 := by omega
  rw [e1, if_neg (by omega)]
  simp [Addr.add]

theorem Table.ne {w : World} {g : Nat} {m : List Nat} (h : Table w) (k : HashIs w g m) : g ≠ 0 := by
  rintro rfl
  obtain ⟨t, fr, h1, _⟩ := h
  obtain ⟨st, bs, ⟨k1, k2, k3⟩, _⟩ := k
  unfold Has at k1
  rw [k1] at h1
  injection h1 with h1
  injection h1 with h1
  have := congrArg Array.size h1
  simp [k2, k3, Sha.K_length] at this
theorem Table.grown {w w' : World} {g : Nat} (h : Table w) (hb : w.grownBy w' (some g)) (hg : g ≠ 0) : Table w' := by
  obtain ⟨t, fr, h1, h2⟩ := h
  exact ⟨t, fr, (hb.block 0 h2 (fun e => hg (by injection e with e; exact e.symm))).trans h1, Nat.lt_of_lt_of_le h2 hb.size⟩

/-- 'left[k:]': the address stays where nothing is left. -/
theorem rd_cut (ad : Addr) (len cap k : Nat) (A2 : Option Addr) (hA : Hid ((if cap = k then some ad else (some ad).map (·.add (k * 1))) = A2)) (hk : k ≤ len) (_hc : len ≤ cap) (W : World) :
    (Instr.slice 22 (.slice (some ad) len cap) (some (.int .i64 (k : Int))) none none).run Tryd.prog W = .ok (.slice A2 (len - k) (cap - k)) W := by
  rw [← hA.out]
  have hu : Tryd.prog.underlying 22 = some (.slice (Tryd.prog.elem 22)) := by kernel_rfl
  have hz : ∀ W : World, (sizeOf (Tryd.prog.elem 22)).run Tryd.prog W = .ok 1 W := fun _ => by kernel_rfl
  rw [run_slice_l W _ _ _ _ hu _ _ (by omega) (by omega), hz]
  simp only [Result.andThen, sliced, Int.toNat_natCast]
/-- How far a Write has come. -/
def WInv (w : World) (g : Nat) (m b : List Nat) (v : Value) (wr : World) : Prop :=
  ∃ (done left : List Nat) (A : Option Addr) (cap : Nat), b = done ++ left ∧ v = .slice A left.length cap ∧ left.length ≤ cap ∧ cap ≤ 9223372036854775807 ∧ HashIs wr g (m ++ done) ∧ w.grownBy wr (some g) ∧ Rd wr g A left
theorem WInv.next {w wr w5 w6 : World} {g n k cap : Nat} {m b done left c st bs : List Nat} {A2 : Option Addr} (hG : w.grownBy wr (some g)) (hG5 : wr.grownBy w5 (some g)) (hG6 : w5.grownBy w6 (some g))
    (hM : HasHash w6 g st bs (n + k)) (hS : Sha.Holds (m ++ done ++ c) st bs) (hR : Rd w6 g A2 (left.drop k)) (HB : Hid (b = done ++ left)) (hc : Hid (left.take k = c)) (hn : Hid ((m ++ done).length = n)) (hl : Hid (c.length = k))
    (hk : k ≤ left.length) (h1 : left.length ≤ cap) (h2 : cap ≤ 9223372036854775807) : WInv w g m b (.slice A2 (left.length - k) (cap - k)) w6 := by
  refine ⟨done ++ c, left.drop k, A2, cap - k, ?_, by simp, by simp; omega, by omega, ?_, grown_trans (grown_trans hG hG5) hG6, hR⟩
  · rw [HB.out, ← hc.out, List.append_assoc, List.take_append_drop]
  · rw [← List.append_assoc]
    refine ⟨st, bs, ?_, hS⟩
    rw [List.length_append, hn.out, hl.out]
    exact hM
def wleft : Value → Nat
  | .slice _ n _ => n
  | _ => 0

set_option maxRecDepth 100000 in
set_option maxHeartbeats 8000000 in
theorem write_c (g : Nat) (m b : List Nat) (A : Option Addr) (cap : Nat) (w : World) (h : HashIs w g m) (hr : Rd w g A b) (hlen : m.length + b.length < 1099511627776) (hcap : b.length ≤ cap) (hcap2 : cap ≤ 9223372036854775807) (hT : Table w) :
    Calls Tryd.prog 25 #[.pointer (some ⟨g, 0, none⟩), .slice A b.length cap] w fun e w' => e = .returned (.int .i64 b.length) ∧ HashIs w' g (m ++ b) ∧ w.grownBy w' (some g) := by
  go_enter Tryd.func25, Tryd.ntmps25
  go_wp2
  go_loopw [5] (fun v wr => WInv w g m b v wr) (fun v _ => wleft v)
  case atStart => exact ⟨[], b, A, cap, rfl, rfl, hcap, hcap2, by simpa using h, World.grownBy.refl w _, hr⟩
  case round =>
    obtain ⟨done, left, A', cap', hb, rfl, hc1, hc2, hH, hG, hR⟩ := hrel
    have HB := hide hb
    clear hb
    by_cases h0 : left.length = 0
    · obtain rfl : left = [] := List.eq_nil_of_length_eq_zero h0
      rw [List.length_nil]
      go_wp2
      go_ret
      have e := HB.out
      rw [List.append_nil] at e
      rw [e]
      exact ⟨rfl, hH, hG⟩
    · have hpos : 0 < left.length := by omega
      have hTr := hT.grown hG (hT.ne h)
      obtain ⟨st, bs, hM, hS⟩ := hH
      obtain ⟨n, hn⟩ : ∃ n, Hid ((m ++ done).length = n) := ⟨_, rfl⟩
      rw [hn.out] at hM
      have hnl : n < 1099511627776 := by
        have e1 := hn.out
        have e2 := congrArg List.length HB.out
        simp at e1 e2
        omega
      have cn : wr.cell? ⟨g, 72, none⟩ = some (.int .i64 (n : Int)) := hM.count
      have fn := hM.1.frozen 72
      have hsl := rest_from g n
      have hrm : (0 : Int) ≤ (n : Int) % 64 := by omega
      have hlt64 : n % 64 < 64 := Nat.mod_lt _ (by decide)
      have hrem : (n : Int).tmod 64 = (n : Int) % 64 := Int.tmod_eq_emod_of_nonneg (by omega)
      obtain ⟨k, hk⟩ : ∃ k, Hid (min left.length (64 - n % 64) = k) := ⟨_, rfl⟩
      have hk1 : k ≤ left.length := by rw [← hk.out]; exact Nat.min_le_left _ _
      have hk2 : k ≤ 64 - n % 64 := by rw [← hk.out]; exact Nat.min_le_right _ _
      have hk0 : 0 < k := by rw [← hk.out]; omega
      obtain ⟨c, hc⟩ : ∃ c, Hid (left.take k = c) := ⟨_, rfl⟩
      have hcl : c.length = k := by rw [← hc.out]; simp; omega
      obtain ⟨ad, rfl, ha1, ha2, ha3⟩ := hR.2 (fun e => by simp [e] at hpos)
      have hsrc : ∀ (j : Nat) (v : Value), (u8s c)[j]? = some v → wr.cell? (ad.add j) = some v := fun j v hj => by
        rw [← hc.out] at hj
        simp only [u8s, List.map_take, List.getElem?_take] at hj
        split at hj
        · simp only [List.getElem?_map, Option.map_eq_some_iff] at hj
          obtain ⟨x, hx, rfl⟩ := hj
          exact ha3 j x hx
        · cases hj
      have HCL := hide hcl
      have HA3 := hide ha3
      have HSRC := hide hsrc
      clear hcl ha3 hsrc
      go_wp2_with fail
      go_still_tail 10, (by kernel_rfl)
      change wpList _ _ _ _ _ wr.drew
      have hg2 : wr.drew.heap[g]? = some (.cells (u32s st ++ (u8s bs ++ [Value.int .i64 (n : Int)])).toArray 60 (0, 0)) := hM.1
      have HG2 := hide hg2
      clear hg2
      refine wpList_copy_own rfl (.tmp 19) (.tmp 20) _ _ rfl 5 Tryd.underlying22 (by kernel_rfl) g (8 + n % 64) (64 - n % 64) (64 - n % 64) ad left.length cap' rfl rfl _ _ HG2.out (u8s c) ?_ HSRC.out ?_ ?_ ?_
      · rw [u8s, List.length_map, HCL.out, ← hk.out]
      · simp [HCL.out, hM.2.1, hM.2.2]; omega
      · intro v hv
        obtain ⟨x, _, rfl⟩ := List.mem_map.1 hv
        rfl
      rw [show goInt ((u8s c).length : Nat) = .int .i64 (k : Int) by rw [u8s, List.length_map, HCL.out]; rfl]
      have hlaid : ∃ w4, Hid (wr.drew.setRow g ((u32s st ++ (u8s bs ++ [Value.int .i64 (n : Int)])).toArray.toList.take (8 + n % 64) ++ (u8s c ++ (u32s st ++ (u8s bs ++ [Value.int .i64 (n : Int)])).toArray.toList.drop (8 + n % 64 + (u8s c).length))).toArray = w4) ∧
          HasHash w4 g st (Sha.laid (m ++ done) bs c) n ∧ wr.grownBy w4 (some g) := by
        have hd : HasHash wr.drew g st bs n := hM
        have h4 := hd.laid (m ++ done) c (by rw [hn.out, HCL.out]; omega)
        rw [hn.out] at h4
        exact ⟨_, rfl, h4, grown_setRow (grown_drew (World.grownBy.refl wr _)) _⟩
      obtain ⟨w4, e4, hM4, hG4⟩ := hlaid
      rw [e4.out]
      have cn4 := hM4.count
      have fn4 := hM4.1.frozen 72
      obtain ⟨A2, eA2⟩ : ∃ A2, Hid ((if cap' = k then some ad else (some ad).map (·.add (k * 1))) = A2) := ⟨_, rfl⟩
      have hcut := rd_cut ad left.length cap' k A2 eA2 hk1 hc1
      have hkI : (k : Int) ≤ (left.length : Int) := by omega
      have hrem2 : ((n : Int) + (k : Int)).tmod 64 = ((n : Int) + (k : Int)) % 64 := Int.tmod_eq_emod_of_nonneg (by omega)
      have hsum : IntKind.i64.wrap ((n : Int) + (k : Int)) = (n : Int) + (k : Int) := by rw [IntKind.wrap_i64]; omega
      have hR2 : Rd w4 g A2 (left.drop k) := by rw [← eA2.out]; exact (hR.grown hG4).cut hc1
      have hM5 : HasHash (w4.setCell ⟨g, 72, none⟩ (.int .i64 ((n : Int) + (k : Int)))) g st (Sha.laid (m ++ done) bs c) (n + k) := hM4.setCount (n + k)
      have hG5 : wr.grownBy (w4.setCell ⟨g, 72, none⟩ (.int .i64 ((n : Int) + (k : Int)))) (some g) := grown_setCell hG4 (.inl rfl) _
      have hR5 : Rd (w4.setCell ⟨g, 72, none⟩ (.int .i64 ((n : Int) + (k : Int)))) g A2 (left.drop k) := hR2.grown (grown_setCell (World.grownBy.refl w4 _) (.inl rfl) _)
      have hcb : Sha.Bytes c := by rw [← hc.out]; exact hR.1.take k
      by_cases hfull : n % 64 + k = 64
      · have ht : (((n : Int) + (k : Int)) % 64 == 0) = true := by simp; omega
        have hS5 : Sha.Holds (m ++ done ++ c) (Sha.compress st (Sha.laid (m ++ done) bs c)) (Sha.laid (m ++ done) bs c) := hS.full hcb (by rw [hn.out, HCL.out]; exact hfull)
        have HF := hide hfull
        clear hfull
        go_wp2_with fail
        refine (mix_c g st (Sha.laid (m ++ done) bs c) (n + k) _ hM5 (Sha.laid_bytes hS.2.2.2.1 hcb) hS.words.2 (hTr.grown hG5 (hT.ne h))).mono ?_
        rintro e w6 ⟨rfl, hM6, hG6⟩
        go_wp2
        go_roundw
        case rel => exact WInv.next hG hG5 hG6 hM6 hS5 (hR5.grown hG6) HB hc hn HCL hk1 hc1 hc2
        case measure => simp [wleft]; omega
      · have ht : (((n : Int) + (k : Int)) % 64 == 0) = false := by simp; omega
        have hS5 : Sha.Holds (m ++ done ++ c) st (Sha.laid (m ++ done) bs c) := hS.more hcb (by rw [hn.out, HCL.out]; omega)
        have HF := hide hfull
        clear hfull
        go_wp2_with fail
        go_roundw
        case rel => exact WInv.next hG hG5 (World.grownBy.refl _ _) hM5 hS5 hR5 HB hc hn HCL hk1 hc1 hc2
        case measure => simp [wleft]; omega
end Go.Proofs.YtijgomgiinlcoaaDoor
