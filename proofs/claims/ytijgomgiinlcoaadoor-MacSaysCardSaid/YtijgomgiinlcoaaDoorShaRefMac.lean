/-
  lodgeref1.Mac, walked: the tag. By an AI agent. No person has read it.
-/
import Derived.Test.YtijgomgiinlcoaaDoorShaMacTag
import Derived.Test.YtijgomgiinlcoaaDoorShaSame
import Derived.Test.YtijgomgiinlcoaaDoorShaRef2
namespace Go.Proofs.YtijgomgiinlcoaaDoor
open Go.RowKit

theorem made_zeros (k : Nat) : madeCells (Value.int .u8 0).cells k = (u8s (List.replicate k 0)).toArray := by
  have e : (Value.int .u8 0).cells = #[.int .u8 0] := rfl
  rw [e]
  apply Array.ext
  · simp [madeCells]
  · intro i h1 h2
    simp [madeCells, Nat.mod_one]
/-- A block of a key's turned bytes, the first i of them, and room behind. -/
def Sha.inn (k : List Nat) (mask r i : Nat) : List Nat := ((Sha.full k).take i).map (· ^^^ mask) ++ List.replicate (64 - i + r) 0
theorem inn_zero (k : List Nat) (mask r : Nat) : Sha.inn k mask r 0 = List.replicate (64 + r) 0 := by simp [Sha.inn]
theorem inn_all (k : List Nat) (mask r : Nat) (h : k.length ≤ 64) : Sha.inn k mask r 64 = Sha.turned k mask 64 ++ List.replicate r 0 := by
  have hf := Sha.full_length k h
  unfold Sha.inn Sha.turned
  rw [List.drop_eq_nil_of_le (by omega)]
  simp
theorem inn_next {k : List Nat} {mask r i x : Nat} (h : k.length ≤ 64) (hi : i < 64) (hx : (Sha.full k)[i]? = some x) : (Sha.inn k mask r i).set i (x ^^^ mask) = Sha.inn k mask r (i + 1) := by
  have hf := Sha.full_length k h
  unfold Sha.inn
  rw [List.take_add_one, hx, show 64 - i + r = (64 - (i + 1) + r) + 1 by omega, List.replicate_succ]
  have hl : (((Sha.full k).take i).map (· ^^^ mask)).length = i := by simp [hf]; omega
  rw [List.set_append_right _ _ (by omega), hl, Nat.sub_self, List.set_cons_zero]
  simp
theorem inn_at (k : List Nat) (mask r i : Nat) (h : k.length ≤ 64) (hi : i < 64) : (u8s (Sha.inn k mask r i))[i]? = some (.int .u8 0) := by
  have hf := Sha.full_length k h
  have hl : (((Sha.full k).take i).map (· ^^^ mask)).length = i := by simp [hf]; omega
  rw [List.getElem?_map, Sha.inn, List.getElem?_append_right (by rw [hl]; exact Nat.le_refl _), hl, Nat.sub_self, List.getElem?_replicate, if_pos (by omega)]
  rfl
theorem full_at {k : List Nat} {i : Nat} (hi : i < k.length) : (Sha.full k)[i]? = some (k.getD i 0) := by
  unfold Sha.full
  rw [List.getElem?_append_left hi, List.getD_eq_getElem?_getD, List.getElem?_eq_getElem hi]
  rfl
theorem full_beyond {k : List Nat} {i : Nat} (hi : k.length ≤ i) (h64 : i < 64) : (Sha.full k)[i]? = some 0 := by
  unfold Sha.full
  rw [List.getElem?_append_right hi, List.getElem?_replicate, if_pos (by omega)]
theorem has_own {w : World} {g base n cap : Nat} {xs ys : List Nat} (h : Has w g 5 (u8s (xs ++ ys))) (hn : xs.length = n) (hc : n + ys.length = cap) (hb : base ≤ g) (hm : cap ≤ 1000000) : w.ownsRow base 5 1 (.slice (some ⟨g, 0, none⟩) n cap) n (u8s xs) := by
  subst hn
  subst hc
  refine ⟨by simp, .inr ⟨g, _, _, rfl, hb, h, by omega, by unfold maxLen; omega, by simp, ?_⟩⟩
  simp [u8s]
/-- How far both blocks are turned. -/
def TwInv (w8 : World) (k : List Nat) (n i : Nat) (wr : World) : Prop := Has wr w8.heap.size 5 (u8s (Sha.inn k 54 n i)) ∧ Has wr (w8.heap.size + 1) 5 (u8s (Sha.inn k 92 32 i)) ∧ Below w8.heap.size w8 wr

set_option maxRecDepth 100000 in
set_option maxHeartbeats 4000000 in
theorem refmac_c (ks bs : List Nat) (KA A : Option Addr) (ck cap : Nat) (W : World) (hK : Rb W KA ks) (hkl : ks.length ≤ 1000000) (hR : Rb W A bs) (hl : bs.length ≤ 900000) :
    Calls Tryd.prog 30 #[.slice KA ks.length ck, .slice A bs.length cap] W fun e w' => e = .returned (.agg (u8s (Sha.tag ks bs)).toArray) ∧ Below W.heap.size W w' := by
  obtain ⟨nk, hnk⟩ : ∃ n, Hid (ks.length = n) := ⟨_, hide rfl⟩
  obtain ⟨n, hn⟩ : ∃ n, Hid (bs.length = n) := ⟨_, hide rfl⟩
  rw [hnk.out] at hkl ⊢
  rw [hn.out] at hl ⊢
  have HKS := hide hK.1
  have HR := hide hR
  obtain ⟨i0, hi0, hz0, hz1, hz2⟩ := u8info
  obtain ⟨Z, hZ⟩ : ∃ Z, Hid (madeCells (Value.int .u8 0).cells 64 = Z) := ⟨_, hide rfl⟩
  obtain ⟨ZI, hZI⟩ : ∃ Z, Hid ((u8s (Sha.inn [] 54 n 0)).toArray = Z) := ⟨_, hide rfl⟩
  obtain ⟨ZO, hZO⟩ : ∃ Z, Hid ((u8s (Sha.inn [] 92 32 0)).toArray = Z) := ⟨_, hide rfl⟩
  have hZs : Hid (Z.size = 64) := hide (by rw [← hZ.out, size_madeCells])
  have hmk : ∀ w : World, (Instr.makeSlice 22 (.int .i64 0) (.int .i64 64)).run Tryd.prog w = .ok (.slice (some ⟨w.heap.size, 0, none⟩) 0 64) (w.alloc (.cells Z 5)) := by
    intro w
    have h := run_make (P := Tryd.prog) w 22 5 i0 (.int .u8 0) ubs hi0 hz0 .i64 .i64 0 64 (by omega) (by omega) (by rw [hz2]; omega) (by omega)
    rw [hz1, show (64 : Int).toNat = 64 by rfl, Nat.mul_one, hZ.out] at h
    exact h
  have hmkI : ∀ w : World, (Instr.makeSlice 22 (.int .i64 64) (.int .i64 (64 + (n : Int)))).run Tryd.prog w = .ok (.slice (some ⟨w.heap.size, 0, none⟩) 64 (64 + n)) (w.alloc (.cells ZI 5)) := by
    intro w
    have h := run_make (P := Tryd.prog) w 22 5 i0 (.int .u8 0) ubs hi0 hz0 .i64 .i64 64 (64 + (n : Int)) (by omega) (by omega) (by rw [hz2]; omega) (by omega)
    rw [hz1, show (64 : Int).toNat = 64 by rfl, show (64 + (n : Int)).toNat = 64 + n by omega, Nat.mul_one, made_zeros, ← inn_zero [] 54 n, hZI.out] at h
    exact h
  have hmkO : ∀ w : World, (Instr.makeSlice 22 (.int .i64 64) (.int .i64 96)).run Tryd.prog w = .ok (.slice (some ⟨w.heap.size, 0, none⟩) 64 96) (w.alloc (.cells ZO 5)) := by
    intro w
    have h := run_make (P := Tryd.prog) w 22 5 i0 (.int .u8 0) ubs hi0 hz0 .i64 .i64 64 96 (by omega) (by omega) (by rw [hz2]; omega) (by omega)
    rw [hz1, show (64 : Int).toNat = 64 by rfl, show (96 : Int).toNat = 64 + 32 by rfl, Nat.mul_one, made_zeros, ← inn_zero [] 92 32, hZO.out] at h
    exact h
  clear hi0 hz0 hz1 hz2
  obtain ⟨WR, hWR⟩ : ∃ x, x = W.alloc (.cells (u8s (List.replicate 32 0)).toArray 24) := ⟨_, rfl⟩
  have hres := hide (Has.new W 24 (u8s (List.replicate 32 0)))
  have hBR : Below W.heap.size W (W.alloc (.cells (u8s (List.replicate 32 0)).toArray 24)) := (Below.refl _ _).alloc (Nat.le_refl _) _
  have hWs : WR.heap.size = W.heap.size + 1 := by rw [hWR, World.size_alloc]
  rw [← hWR] at hres hBR
  have HBR := hide hBR
  have hK1 := hide (((hK.below hBR)).below ((Below.refl WR.heap.size WR).alloc (Nat.le_refl _) (.cells Z 5)))
  have hown0 : Hid ((WR.alloc (.cells Z 5)).ownsRow WR.heap.size 5 1 (.slice (some ⟨WR.heap.size, 0, none⟩) 0 64) 0 (u8s [])) := hide (by
    refine ⟨by simp, .inr ⟨_, 64, Z, rfl, Nat.le_refl _, heap_alloc_new WR _, by omega, by unfold maxLen; omega, by rw [hZs.out], by simp⟩⟩)
  have hb0 : Hid (0 + nk ≤ 1000000000000) := hide (by omega)
  have hsz : Hid (WR.heap.size ≤ (WR.alloc (.cells Z 5)).heap.size) := hide (by simp)
  have hBa : Hid (Below WR.heap.size WR (WR.alloc (.cells Z 5))) := hide ((Below.refl _ _).alloc (Nat.le_refl _) _)
  rw [hWR] at hK1 hown0 hsz
  rw [World.size_alloc] at hown0
  clear hK hR hBR
  obtain ⟨kk, hkk⟩ : ∃ l, Hid (Sha.keyOf ks = l) := ⟨_, hide rfl⟩
  have hkkb : Hid (Sha.Bytes kk) := hide (by
    rw [← hkk.out]
    unfold Sha.keyOf
    split
    · exact HKS.out
    · exact Sha.digest_bytes _)
  have hkk64 : Hid (kk.length ≤ 64) := hide (by
    rw [← hkk.out]
    unfold Sha.keyOf
    split
    · assumption
    · rw [Sha.digest_length]; decide)
  have htag : Hid (Sha.tag ks bs = Sha.mac kk bs) := hide (by unfold Sha.tag; rw [hkk.out])
  by_cases h64 : 64 < nk
  · have h64' : (64 : Int) < nk := by omega
    go_enter Tryd.func30, Tryd.ntmps30
    go_wp2_with (at_builtin; refine wpList_append_bs rfl (.tmp 12) (.tmp 13) rfl (W.heap.size + 1) _ 0 (u8s []) rfl hown0.out KA nk ck ks rfl hnk hK1.out hb0.out (by rw [← World.size_alloc W]; exact hsz.out) ?_)
    intro v1 w1 hown1 hgrow1 _
    have hgrow1' : (WR.alloc (.cells Z 5)).grownBy w1 (some (W.heap.size + 1)) := by rw [hWR]; exact hgrow1
    have hB1 : Hid (Below WR.heap.size WR w1) := hide (hBa.out.grown hgrow1' (by simp) (fun k hk => by rw [hWs]; cases hk; exact Nat.le_refl _))
    have hown1' : w1.ownsRow (W.heap.size + 1) 5 1 v1 nk (u8s ks) := by simpa using hown1
    obtain ⟨A1, c1, rfl, -, hc1, hc12, hr1, -⟩ := own_rb hown1' HKS.out
    have HR1 := hide hr1
    clear hown1 hown1' hgrow1 hgrow1' hr1 hK1 hown0 hb0 hsz hBa hmk
    have hkd : Hid (Sha.digest ks = kk) := hide (by rw [← hkk.out]; unfold Sha.keyOf; rw [if_neg (by rw [hnk.out]; omega)])
    have hkl32 : Hid (kk.length = 32) := hide (by rw [← hkd.out]; exact Sha.digest_length _)
    have hkm : Hid (kk.length = 32) := hkl32
    obtain ⟨DK, hDK⟩ : ∃ D : Array Value, Hid ((u8s kk).toArray = D) := ⟨_, hide rfl⟩
    have hDKs : Hid ((Tryd.prog.info? 24).map (·.size) = some DK.size) := by
      rw [← hDK.out]
      show _ = some ((u8s kk).toArray).size
      rw [List.size_toArray, List.length_map, hkl32.out]
      kernel_rfl
    have hDKl : Hid ((u8s (List.replicate 32 0)).toArray.size = DK.size) := by
      rw [← hDK.out]
      simp [Hid, hkl32.out]
    have hDK1 : Hid (DK.all (·.oneCell') = true) := by
      rw [← hDK.out]
      simp [Hid, Function.comp_def, Value.oneCell']
    have hw := refsum_c ks A1 c1 w1 HR1.out (by rw [hnk.out]; omega)
    rw [hnk.out, hkd.out, hDK.out] at hw
    have HW := hide hw
    clear hw
    go_wp2_with fail
    refine HW.out.mono ?_
    rintro e w2 ⟨rfl, hB2⟩
    have HB2 := hide (hB1.out.trans (hB2.mono hB1.out.size))
    clear hB1 hB2 HW HR1
    have hz : Hid ((w2.alloc (.cells (u8s (List.replicate 32 0)).toArray 24)).heap[w2.heap.size]? = some (.cells (u8s (List.replicate 32 0)).toArray 24 (0, 0))) := heap_alloc_new w2 _
    have hz2 : Hid (((w2.alloc (.cells (u8s (List.replicate 32 0)).toArray 24)).setRow w2.heap.size DK).heap[w2.heap.size]? = some (.cells DK 24 (0, 0))) := setRow_heap _ _ _ DK _ _ hz.out
    have hB3 : Hid (Below WR.heap.size WR ((w2.alloc (.cells (u8s (List.replicate 32 0)).toArray 24)).setRow w2.heap.size DK)) := hide (below_setRow (HB2.out.alloc HB2.out.size _) HB2.out.size _)
    go_wp2_with (first
      | (refine wpList_store_row rfl 24 (.tmp 6) (.tmp 19) rfl w2.heap.size DK rfl rfl _ _ hz.out hDKs.out hDKl.out hDK1.out ?_
         generalize hw8 : World.setRow _ w2.heap.size DK = w8
         have hw8' : (w2.alloc (.cells (u8s (List.replicate 32 0)).toArray 24)).setRow w2.heap.size DK = w8 := hw8
         rw [hw8'] at hz2 hB3
         clear hz hw8 hw8'
         have hk8 : Hid (Rb w8 (some ⟨w2.heap.size, 0, none⟩) kk) := hide (has_rb (t := 24) (by unfold Has; rw [hDK.out]; exact hz2.out) hkkb.out)))
    generalize hA8 : (some (⟨w2.heap.size, 0, none⟩ : Addr)) = A8
    rw [hA8] at hk8
    have HK8 := hk8
    have HB8 := hB3
    clear hk8 hB3 HB2 hz2
    have e1 : (u8s (Sha.inn kk 54 n 0)).toArray = ZI := by rw [inn_zero, ← inn_zero [] 54 n]; exact hZI.out
    have e2 : (u8s (Sha.inn kk 92 32 0)).toArray = ZO := by rw [inn_zero, ← inn_zero [] 92 32]; exact hZO.out
    have hI0 : TwInv w8 kk n 0 ((w8.alloc (.cells ZI 5)).alloc (.cells ZO 5)) := by
      refine ⟨?_, ?_, ((Below.refl _ _).alloc (Nat.le_refl _) _).alloc (by simp) _⟩
      · unfold Has
        rw [e1]
        exact (Below.heap_alloc _ _ _ (by simp)).trans (heap_alloc_new w8 _)
      · unfold Has
        rw [e2]
        have h := heap_alloc_new (w8.alloc (.cells ZI 5)) (.cells ZO 5)
        rwa [World.size_alloc] at h
    clear e1 e2 hmkI hmkO
    have HI0 := hide hI0
    clear hI0
    go_loopw [9, 10] (fun v _ wr => ∃ i : Nat, i ≤ 64 ∧ v = .int .i64 i ∧ TwInv w8 kk n i wr) (fun v _ _ => 64 - (intOf v).toNat)
    case atStart => exact ⟨0, by omega, rfl, HI0.out⟩
    case round =>
      obtain ⟨i, hi, rfl, hI1, hI2, hIB⟩ := hrel
      clear HI0
      by_cases hlt : i < 64
      · have hi64 : (i : Int) < 64 := by omega
        have c1 := (hI1.cell i).trans (inn_at kk 54 n i hkk64.out hlt)
        have f1 := hI1.frozen i
        have c2 := (hI2.cell i).trans (inn_at kk 92 32 i hkk64.out hlt)
        have f2 := hI2.frozen i
        by_cases hlm : i < 32
        · have him : (i : Int) < 32 := by omega
          obtain ⟨ad, x, rfl, ex, lx, cx⟩ := rb_byte (HK8.out.below hIB) i (by rw [hkm.out]; exact hlm)
          have hfx : Hid ((Sha.full kk)[i]? = some x) := hide (by rw [full_at (by rw [hkm.out]; exact hlm), ex.out])
          have hx1 : bits .xor .u8 (x : Int) 54 = ((x ^^^ 54 : Nat) : Int) := u8_xor_nat x 54 lx (by decide)
          have hx2 : bits .xor .u8 (x : Int) 92 = ((x ^^^ 92 : Nat) : Int) := u8_xor_nat x 92 lx (by decide)
          go_wp2_with fail
          go_roundw
          case rel =>
            refine ⟨i + 1, by omega, by go_num, ?_, ?_, (hIB.setCell (Nat.le_refl _) _).setCell (Nat.le_succ _) _⟩
            · have h := (hI1.set_ i (.int .u8 ((x ^^^ 54 : Nat) : Int))).far (p := ⟨w8.heap.size + 1, i, none⟩) (by simp) (.int .u8 ((x ^^^ 92 : Nat) : Int))
              rw [u8s_set, inn_next hkk64.out hlt hfx.out] at h
              exact h
            · have h := (hI2.far (p := ⟨w8.heap.size, i, none⟩) (by simp) (.int .u8 ((x ^^^ 54 : Nat) : Int))).set_ i (.int .u8 ((x ^^^ 92 : Nat) : Int))
              rw [u8s_set, inn_next hkk64.out hlt hfx.out] at h
              exact h
          case measure => simp [intOf]; omega
        · have him : ¬ ((i : Int) < 32) := by omega
          have him' : 32 ≤ (i : Int) := by omega
          have hfx : Hid ((Sha.full kk)[i]? = some 0) := hide (full_beyond (by rw [hkm.out]; omega) hlt)
          go_wp2_with fail
          go_roundw
          case rel =>
            refine ⟨i + 1, by omega, by go_num, ?_, ?_, (hIB.setCell (Nat.le_refl _) _).setCell (Nat.le_succ _) _⟩
            · have h := (hI1.set_ i (.int .u8 ((0 ^^^ 54 : Nat) : Int))).far (p := ⟨w8.heap.size + 1, i, none⟩) (by simp) (.int .u8 ((0 ^^^ 92 : Nat) : Int))
              rw [u8s_set, inn_next hkk64.out hlt hfx.out] at h
              exact h
            · have h := (hI2.far (p := ⟨w8.heap.size, i, none⟩) (by simp) (.int .u8 ((0 ^^^ 54 : Nat) : Int))).set_ i (.int .u8 ((0 ^^^ 92 : Nat) : Int))
              rw [u8s_set, inn_next hkk64.out hlt hfx.out] at h
              exact h
          case measure => simp [intOf]; omega
      · obtain rfl : i = 64 := by omega
        rw [inn_all kk 54 n hkk64.out] at hI1
        rw [inn_all kk 92 32 hkk64.out] at hI2
        have hwl : W.heap.size < WR.heap.size := by rw [hWs]; exact Nat.lt_succ_self _
        have hw8s := HB8.out.size
        have hBW : Hid (Below W.heap.size W wr) := hide (HBR.out.trans ((HB8.out.trans (hIB.mono hw8s)).mono (Nat.le_of_lt hwl)))
        have hresr : Hid (Has wr W.heap.size 24 (u8s (List.replicate 32 0))) := hide ((hres.out.below HB8.out hwl).below hIB (Nat.lt_of_lt_of_le hwl hw8s))
        have hlt8 : W.heap.size < w8.heap.size := Nat.lt_of_lt_of_le hwl hw8s
        have t1 : Hid ((Sha.turned kk 54 64).length = 64) := hide (Sha.turned_length kk 54 64 hkk64.out (Nat.le_refl _))
        have t2 : Hid ((Sha.turned kk 92 64).length = 64) := hide (Sha.turned_length kk 92 64 hkk64.out (Nat.le_refl _))
        have HOWN := hide (has_own hI1 t1.out (by rw [List.length_replicate]) (Nat.le_refl _) (by omega))
        have hRb := hide (HR.out.below hBW.out)
        have hb0 : Hid (64 + n ≤ 1000000000000) := hide (by omega)
        have hsz : Hid (w8.heap.size ≤ wr.heap.size) := hide hIB.size
        have HI2 := hide hI2
        have HIB := hide hIB
        clear hI1 hI2 hIB HK8 HB8 hwl hw8s hres HBR
        go_wp2_with (at_builtin; refine wpList_append_bs rfl (.tmp 48) (.tmp 49) rfl w8.heap.size _ 64 (u8s (Sha.turned kk 54 64)) rfl HOWN.out A n cap bs rfl hn hRb.out hb0.out hsz.out ?_)
        intro v3 w3 hown3 hgrow3 _
        have hgrow3' : wr.grownBy w3 (some w8.heap.size) := hgrow3
        have hI3 := hide (HI2.out.grown hgrow3' (by simp))
        have hBW3 : Hid (Below W.heap.size W w3) := hide (hBW.out.grown hgrow3' hBW.out.size (fun k hk => by cases hk; omega))
        have hres3 := hide (hresr.out.grown hgrow3' (by simp; omega))
        have hs3 : Hid (w8.heap.size ≤ w3.heap.size) := hide (Nat.le_trans hsz.out hgrow3'.size)
        have hown3' : w3.ownsRow w8.heap.size 5 1 v3 (64 + n) (u8s (Sha.turned kk 54 64 ++ bs)) := by simpa [u8s] using hown3
        obtain ⟨A3, c3, rfl, hl3, -, -, hr3, -⟩ := own_rb hown3' ((turned_bytes hkkb.out (by decide)).append HR.out.1)
        have HL3 := hide hl3
        have HR3 := hide hr3
        clear hown3 hown3' hgrow3 hgrow3' hl3 hr3 HI2 hBW hresr HOWN hRb hb0 hsz HIB
        obtain ⟨d, hd⟩ : ∃ d, Hid (Sha.digest (Sha.turned kk 54 64 ++ bs) = d) := ⟨_, hide rfl⟩
        have hdl : Hid (d.length = 32) := hide (by rw [← hd.out]; exact Sha.digest_length _)
        have hdb : Hid (Sha.Bytes d) := hide (by rw [← hd.out]; exact Sha.digest_bytes _)
        obtain ⟨D, hD⟩ : ∃ D : Array Value, Hid ((u8s d).toArray = D) := ⟨_, hide rfl⟩
        have hDs : Hid ((Tryd.prog.info? 24).map (·.size) = some D.size) := by
          rw [← hD.out]
          show _ = some ((u8s d).toArray).size
          rw [List.size_toArray, List.length_map, hdl.out]
          kernel_rfl
        have hDl : Hid ((u8s (List.replicate 32 0)).toArray.size = D.size) := by
          rw [← hD.out]
          simp [Hid, hdl.out]
        have hD1 : Hid (D.all (·.oneCell') = true) := by
          rw [← hD.out]
          simp [Hid, Function.comp_def, Value.oneCell']
        have hw := refsum_c (Sha.turned kk 54 64 ++ bs) A3 c3 w3 HR3.out (by rw [HL3.out]; omega)
        rw [HL3.out, hd.out, hD.out] at hw
        have HW3 := hide hw
        clear hw
        go_wp2_with fail
        refine HW3.out.mono ?_
        rintro e w4 ⟨rfl, hB4⟩
        have hI4 := hide (hI3.out.below hB4 hI3.out.lt)
        have hBW4 := hide (hBW3.out.trans (hB4.mono hBW3.out.size))
        have hres4 := hide (hres3.out.below hB4 hres3.out.lt)
        have hs4 : Hid (w8.heap.size ≤ w4.heap.size) := hide (Nat.le_trans hs3.out hB4.size)
        clear hB4 HW3 HR3 hI3 hBW3 hres3 hs3
        have hz : Hid ((w4.alloc (.cells (u8s (List.replicate 32 0)).toArray 24)).heap[w4.heap.size]? = some (.cells (u8s (List.replicate 32 0)).toArray 24 (0, 0))) := heap_alloc_new w4 _
        have hz2 : Hid (((w4.alloc (.cells (u8s (List.replicate 32 0)).toArray 24)).setRow w4.heap.size D).heap[w4.heap.size]? = some (.cells D 24 (0, 0))) := setRow_heap _ _ _ D _ _ hz.out
        have hB5 : Hid (Below w4.heap.size w4 ((w4.alloc (.cells (u8s (List.replicate 32 0)).toArray 24)).setRow w4.heap.size D)) := hide (below_setRow ((Below.refl _ _).alloc (Nat.le_refl _) _) (Nat.le_refl _) _)
        obtain ⟨w5, hw5⟩ : ∃ x, (w4.alloc (.cells (u8s (List.replicate 32 0)).toArray 24)).setRow w4.heap.size D = x := ⟨_, rfl⟩
        rw [hw5] at hz2 hB5
        have hI5 := hide (hI4.out.below hB5.out hI4.out.lt)
        have hBW5 := hide (hBW4.out.trans (hB5.out.mono hBW4.out.size))
        have hres5 := hide (hres4.out.below hB5.out hres4.out.lt)
        have hs5 : Hid (w8.heap.size ≤ w5.heap.size) := hide (Nat.le_trans hs4.out hB5.out.size)
        have hk5 : Hid (Rb w5 (some ⟨w4.heap.size, 0, none⟩) d) := hide (has_rb (t := 24) (by unfold Has; rw [hD.out]; exact hz2.out) hdb.out)
        have HOWN := hide (has_own hI5.out t2.out (by rw [List.length_replicate]) (Nat.le_succ w8.heap.size) (by decide))
        have hb0 : Hid (64 + 32 ≤ 1000000000000) := hide (by decide)
        clear hI4 hBW4 hres4 hs4 hI5 hB5 hz2
        go_wp2_with (first
          | (refine wpList_store_row rfl 24 (.tmp 11) (.tmp 51) rfl w4.heap.size D rfl rfl _ _ hz.out hDs.out hDl.out hD1.out ?_
             generalize hw8 : World.setRow _ w4.heap.size D = w5'
             have hw8' : w5' = w5 := hw8.symm.trans hw5
             rw [hw8']
             clear hz hw8 hw8' hw5)
          | (at_builtin; refine wpList_append_bs rfl (.tmp 52) (.tmp 53) rfl w8.heap.size _ 64 (u8s (Sha.turned kk 92 64)) rfl HOWN.out (some ⟨w4.heap.size, 0, none⟩) 32 32 d rfl hdl hk5.out hb0.out hs5.out ?_))
        intro v6 w6 hown6 hgrow6 _
        have hgrow6' : w5.grownBy w6 (some (w8.heap.size + 1)) := hgrow6
        have hBW6 : Hid (Below W.heap.size W w6) := hide (hBW5.out.grown hgrow6' hBW5.out.size (fun k hk => by cases hk; omega))
        have hres6 := hide (hres5.out.grown hgrow6' (by simp; omega))
        have hown6' : w6.ownsRow w8.heap.size 5 1 v6 96 (u8s (Sha.turned kk 92 64 ++ d)) := by simpa [u8s] using hown6
        obtain ⟨A6, c6, rfl, hl6, -, -, hr6, -⟩ := own_rb hown6' ((turned_bytes hkkb.out (by decide)).append hdb.out)
        have HL6 := hide hl6
        have HR6 := hide hr6
        clear hown6 hown6' hgrow6 hgrow6' hl6 hr6 hBW5 hres5 HOWN hk5
        have hM0 : Hid (Sha.digest (Sha.turned kk 92 64 ++ d) = Sha.tag ks bs) := hide (by rw [htag.out, Sha.mac, hd.out])
        have hMl : Hid ((Sha.tag ks bs).length = 32) := hide (tag_length _ _)
        obtain ⟨M, hM⟩ : ∃ M : Array Value, Hid ((u8s (Sha.tag ks bs)).toArray = M) := ⟨_, hide rfl⟩
        have hMs : Hid ((Tryd.prog.info? 24).map (·.size) = some M.size) := by
          rw [← hM.out]
          show _ = some ((u8s (Sha.tag ks bs)).toArray).size
          rw [List.size_toArray, List.length_map, hMl.out]
          kernel_rfl
        have hMo : Hid ((u8s (List.replicate 32 0)).toArray.size = M.size) := by
          rw [← hM.out]
          simp [Hid, hMl.out]
        have hM1 : Hid (M.all (·.oneCell') = true) := by
          rw [← hM.out]
          simp [Hid, Function.comp_def, Value.oneCell']
        have hw := refsum_c (Sha.turned kk 92 64 ++ d) A6 c6 w6 HR6.out (by rw [HL6.out]; decide)
        rw [HL6.out, hM0.out, hM.out] at hw
        have HW6 := hide hw
        clear hw
        go_wp2_with fail
        refine HW6.out.mono ?_
        rintro e w7 ⟨rfl, hB7⟩
        have hBW7 := hide (hBW6.out.trans (hB7.mono hBW6.out.size))
        have hres7 : Hid (w7.heap[W.heap.size]? = some (.cells (u8s (List.replicate 32 0)).toArray 24 (0, 0))) := hide (hres6.out.below hB7 hres6.out.lt)
        clear hB7 HW6 HR6 hBW6 hres6
        go_wp2_with (refine wpList_store_row rfl 24 (.tmp 4) (.tmp 55) rfl W.heap.size M rfl rfl _ _ hres7.out hMs.out hMo.out hM1.out ?_)
        refine bodyPost_ret (results_cell_row rfl _ _ W.heap.size 24 M (0, 0) _ rfl (setRow_heap _ _ _ _ _ _ hres7.out) Tryd.underlying24 rfl hMs.out) rfl ?_
        exact ⟨by rw [hM.out], below_setRow hBW7.out (Nat.le_refl _) _⟩
  · have h64' : ¬ ((64 : Int) < nk) := by omega
    have h64'' : (nk : Int) ≤ 64 := by omega
    go_enter Tryd.func30, Tryd.ntmps30
    go_wp2_with (at_builtin; refine wpList_append_bs rfl (.tmp 12) (.tmp 13) rfl (W.heap.size + 1) _ 0 (u8s []) rfl hown0.out KA nk ck ks rfl hnk hK1.out hb0.out (by rw [← World.size_alloc W]; exact hsz.out) ?_)
    intro v1 w1 hown1 hgrow1 _
    have hgrow1' : (WR.alloc (.cells Z 5)).grownBy w1 (some (W.heap.size + 1)) := by rw [hWR]; exact hgrow1
    have hB1 : Hid (Below WR.heap.size WR w1) := hide (hBa.out.grown hgrow1' (by simp) (fun k hk => by rw [hWs]; cases hk; exact Nat.le_refl _))
    have hown1' : w1.ownsRow (W.heap.size + 1) 5 1 v1 nk (u8s ks) := by simpa using hown1
    obtain ⟨A1, c1, rfl, -, hc1, hc12, hr1, -⟩ := own_rb hown1' HKS.out
    have HR1 := hide hr1
    clear hown1 hown1' hgrow1 hgrow1' hr1 hK1 hown0 hb0 hsz hBa hmk
    have hks : Hid (ks = kk) := hide (by rw [← hkk.out]; unfold Sha.keyOf; rw [if_pos (by rw [hnk.out]; omega)])
    have hkm : Hid (kk.length = nk) := hide (by rw [← hks.out]; exact hnk.out)
    obtain ⟨w8, rfl⟩ : ∃ x, x = w1 := ⟨_, rfl⟩
    obtain ⟨A8, rfl⟩ : ∃ x, x = A1 := ⟨_, rfl⟩
    rw [hks.out] at HR1
    have HK8 := HR1
    have HB8 := hB1
    clear HR1 hB1
    go_wp2_with fail
    have e1 : (u8s (Sha.inn kk 54 n 0)).toArray = ZI := by rw [inn_zero, ← inn_zero [] 54 n]; exact hZI.out
    have e2 : (u8s (Sha.inn kk 92 32 0)).toArray = ZO := by rw [inn_zero, ← inn_zero [] 92 32]; exact hZO.out
    have hI0 : TwInv w8 kk n 0 ((w8.alloc (.cells ZI 5)).alloc (.cells ZO 5)) := by
      refine ⟨?_, ?_, ((Below.refl _ _).alloc (Nat.le_refl _) _).alloc (by simp) _⟩
      · unfold Has
        rw [e1]
        exact (Below.heap_alloc _ _ _ (by simp)).trans (heap_alloc_new w8 _)
      · unfold Has
        rw [e2]
        have h := heap_alloc_new (w8.alloc (.cells ZI 5)) (.cells ZO 5)
        rwa [World.size_alloc] at h
    clear e1 e2 hmkI hmkO
    have HI0 := hide hI0
    clear hI0
    go_loopw [9, 10] (fun v _ wr => ∃ i : Nat, i ≤ 64 ∧ v = .int .i64 i ∧ TwInv w8 kk n i wr) (fun v _ _ => 64 - (intOf v).toNat)
    case atStart => exact ⟨0, by omega, rfl, HI0.out⟩
    case round =>
      obtain ⟨i, hi, rfl, hI1, hI2, hIB⟩ := hrel
      clear HI0
      by_cases hlt : i < 64
      · have hi64 : (i : Int) < 64 := by omega
        have c1 := (hI1.cell i).trans (inn_at kk 54 n i hkk64.out hlt)
        have f1 := hI1.frozen i
        have c2 := (hI2.cell i).trans (inn_at kk 92 32 i hkk64.out hlt)
        have f2 := hI2.frozen i
        by_cases hlm : i < nk
        · have him : (i : Int) < nk := by omega
          obtain ⟨ad, x, rfl, ex, lx, cx⟩ := rb_byte (HK8.out.below hIB) i (by rw [hkm.out]; exact hlm)
          have hfx : Hid ((Sha.full kk)[i]? = some x) := hide (by rw [full_at (by rw [hkm.out]; exact hlm), ex.out])
          have hx1 : bits .xor .u8 (x : Int) 54 = ((x ^^^ 54 : Nat) : Int) := u8_xor_nat x 54 lx (by decide)
          have hx2 : bits .xor .u8 (x : Int) 92 = ((x ^^^ 92 : Nat) : Int) := u8_xor_nat x 92 lx (by decide)
          go_wp2_with fail
          go_roundw
          case rel =>
            refine ⟨i + 1, by omega, by go_num, ?_, ?_, (hIB.setCell (Nat.le_refl _) _).setCell (Nat.le_succ _) _⟩
            · have h := (hI1.set_ i (.int .u8 ((x ^^^ 54 : Nat) : Int))).far (p := ⟨w8.heap.size + 1, i, none⟩) (by simp) (.int .u8 ((x ^^^ 92 : Nat) : Int))
              rw [u8s_set, inn_next hkk64.out hlt hfx.out] at h
              exact h
            · have h := (hI2.far (p := ⟨w8.heap.size, i, none⟩) (by simp) (.int .u8 ((x ^^^ 54 : Nat) : Int))).set_ i (.int .u8 ((x ^^^ 92 : Nat) : Int))
              rw [u8s_set, inn_next hkk64.out hlt hfx.out] at h
              exact h
          case measure => simp [intOf]; omega
        · have him : ¬ ((i : Int) < nk) := by omega
          have him' : nk ≤ (i : Int) := by omega
          have hfx : Hid ((Sha.full kk)[i]? = some 0) := hide (full_beyond (by rw [hkm.out]; omega) hlt)
          go_wp2_with fail
          go_roundw
          case rel =>
            refine ⟨i + 1, by omega, by go_num, ?_, ?_, (hIB.setCell (Nat.le_refl _) _).setCell (Nat.le_succ _) _⟩
            · have h := (hI1.set_ i (.int .u8 ((0 ^^^ 54 : Nat) : Int))).far (p := ⟨w8.heap.size + 1, i, none⟩) (by simp) (.int .u8 ((0 ^^^ 92 : Nat) : Int))
              rw [u8s_set, inn_next hkk64.out hlt hfx.out] at h
              exact h
            · have h := (hI2.far (p := ⟨w8.heap.size, i, none⟩) (by simp) (.int .u8 ((0 ^^^ 54 : Nat) : Int))).set_ i (.int .u8 ((0 ^^^ 92 : Nat) : Int))
              rw [u8s_set, inn_next hkk64.out hlt hfx.out] at h
              exact h
          case measure => simp [intOf]; omega
      · obtain rfl : i = 64 := by omega
        rw [inn_all kk 54 n hkk64.out] at hI1
        rw [inn_all kk 92 32 hkk64.out] at hI2
        have hwl : W.heap.size < WR.heap.size := by rw [hWs]; exact Nat.lt_succ_self _
        have hw8s := HB8.out.size
        have hBW : Hid (Below W.heap.size W wr) := hide (HBR.out.trans ((HB8.out.trans (hIB.mono hw8s)).mono (Nat.le_of_lt hwl)))
        have hresr : Hid (Has wr W.heap.size 24 (u8s (List.replicate 32 0))) := hide ((hres.out.below HB8.out hwl).below hIB (Nat.lt_of_lt_of_le hwl hw8s))
        have hlt8 : W.heap.size < w8.heap.size := Nat.lt_of_lt_of_le hwl hw8s
        have t1 : Hid ((Sha.turned kk 54 64).length = 64) := hide (Sha.turned_length kk 54 64 hkk64.out (Nat.le_refl _))
        have t2 : Hid ((Sha.turned kk 92 64).length = 64) := hide (Sha.turned_length kk 92 64 hkk64.out (Nat.le_refl _))
        have HOWN := hide (has_own hI1 t1.out (by rw [List.length_replicate]) (Nat.le_refl _) (by omega))
        have hRb := hide (HR.out.below hBW.out)
        have hb0 : Hid (64 + n ≤ 1000000000000) := hide (by omega)
        have hsz : Hid (w8.heap.size ≤ wr.heap.size) := hide hIB.size
        have HI2 := hide hI2
        have HIB := hide hIB
        clear hI1 hI2 hIB HK8 HB8 hwl hw8s hres HBR
        go_wp2_with (at_builtin; refine wpList_append_bs rfl (.tmp 48) (.tmp 49) rfl w8.heap.size _ 64 (u8s (Sha.turned kk 54 64)) rfl HOWN.out A n cap bs rfl hn hRb.out hb0.out hsz.out ?_)
        intro v3 w3 hown3 hgrow3 _
        have hgrow3' : wr.grownBy w3 (some w8.heap.size) := hgrow3
        have hI3 := hide (HI2.out.grown hgrow3' (by simp))
        have hBW3 : Hid (Below W.heap.size W w3) := hide (hBW.out.grown hgrow3' hBW.out.size (fun k hk => by cases hk; omega))
        have hres3 := hide (hresr.out.grown hgrow3' (by simp; omega))
        have hs3 : Hid (w8.heap.size ≤ w3.heap.size) := hide (Nat.le_trans hsz.out hgrow3'.size)
        have hown3' : w3.ownsRow w8.heap.size 5 1 v3 (64 + n) (u8s (Sha.turned kk 54 64 ++ bs)) := by simpa [u8s] using hown3
        obtain ⟨A3, c3, rfl, hl3, -, -, hr3, -⟩ := own_rb hown3' ((turned_bytes hkkb.out (by decide)).append HR.out.1)
        have HL3 := hide hl3
        have HR3 := hide hr3
        clear hown3 hown3' hgrow3 hgrow3' hl3 hr3 HI2 hBW hresr HOWN hRb hb0 hsz HIB
        obtain ⟨d, hd⟩ : ∃ d, Hid (Sha.digest (Sha.turned kk 54 64 ++ bs) = d) := ⟨_, hide rfl⟩
        have hdl : Hid (d.length = 32) := hide (by rw [← hd.out]; exact Sha.digest_length _)
        have hdb : Hid (Sha.Bytes d) := hide (by rw [← hd.out]; exact Sha.digest_bytes _)
        obtain ⟨D, hD⟩ : ∃ D : Array Value, Hid ((u8s d).toArray = D) := ⟨_, hide rfl⟩
        have hDs : Hid ((Tryd.prog.info? 24).map (·.size) = some D.size) := by
          rw [← hD.out]
          show _ = some ((u8s d).toArray).size
          rw [List.size_toArray, List.length_map, hdl.out]
          kernel_rfl
        have hDl : Hid ((u8s (List.replicate 32 0)).toArray.size = D.size) := by
          rw [← hD.out]
          simp [Hid, hdl.out]
        have hD1 : Hid (D.all (·.oneCell') = true) := by
          rw [← hD.out]
          simp [Hid, Function.comp_def, Value.oneCell']
        have hw := refsum_c (Sha.turned kk 54 64 ++ bs) A3 c3 w3 HR3.out (by rw [HL3.out]; omega)
        rw [HL3.out, hd.out, hD.out] at hw
        have HW3 := hide hw
        clear hw
        go_wp2_with fail
        refine HW3.out.mono ?_
        rintro e w4 ⟨rfl, hB4⟩
        have hI4 := hide (hI3.out.below hB4 hI3.out.lt)
        have hBW4 := hide (hBW3.out.trans (hB4.mono hBW3.out.size))
        have hres4 := hide (hres3.out.below hB4 hres3.out.lt)
        have hs4 : Hid (w8.heap.size ≤ w4.heap.size) := hide (Nat.le_trans hs3.out hB4.size)
        clear hB4 HW3 HR3 hI3 hBW3 hres3 hs3
        have hz : Hid ((w4.alloc (.cells (u8s (List.replicate 32 0)).toArray 24)).heap[w4.heap.size]? = some (.cells (u8s (List.replicate 32 0)).toArray 24 (0, 0))) := heap_alloc_new w4 _
        have hz2 : Hid (((w4.alloc (.cells (u8s (List.replicate 32 0)).toArray 24)).setRow w4.heap.size D).heap[w4.heap.size]? = some (.cells D 24 (0, 0))) := setRow_heap _ _ _ D _ _ hz.out
        have hB5 : Hid (Below w4.heap.size w4 ((w4.alloc (.cells (u8s (List.replicate 32 0)).toArray 24)).setRow w4.heap.size D)) := hide (below_setRow ((Below.refl _ _).alloc (Nat.le_refl _) _) (Nat.le_refl _) _)
        obtain ⟨w5, hw5⟩ : ∃ x, (w4.alloc (.cells (u8s (List.replicate 32 0)).toArray 24)).setRow w4.heap.size D = x := ⟨_, rfl⟩
        rw [hw5] at hz2 hB5
        have hI5 := hide (hI4.out.below hB5.out hI4.out.lt)
        have hBW5 := hide (hBW4.out.trans (hB5.out.mono hBW4.out.size))
        have hres5 := hide (hres4.out.below hB5.out hres4.out.lt)
        have hs5 : Hid (w8.heap.size ≤ w5.heap.size) := hide (Nat.le_trans hs4.out hB5.out.size)
        have hk5 : Hid (Rb w5 (some ⟨w4.heap.size, 0, none⟩) d) := hide (has_rb (t := 24) (by unfold Has; rw [hD.out]; exact hz2.out) hdb.out)
        have HOWN := hide (has_own hI5.out t2.out (by rw [List.length_replicate]) (Nat.le_succ w8.heap.size) (by decide))
        have hb0 : Hid (64 + 32 ≤ 1000000000000) := hide (by decide)
        clear hI4 hBW4 hres4 hs4 hI5 hB5 hz2
        go_wp2_with (first
          | (refine wpList_store_row rfl 24 (.tmp 11) (.tmp 51) rfl w4.heap.size D rfl rfl _ _ hz.out hDs.out hDl.out hD1.out ?_
             generalize hw8 : World.setRow _ w4.heap.size D = w5'
             have hw8' : w5' = w5 := hw8.symm.trans hw5
             rw [hw8']
             clear hz hw8 hw8' hw5)
          | (at_builtin; refine wpList_append_bs rfl (.tmp 52) (.tmp 53) rfl w8.heap.size _ 64 (u8s (Sha.turned kk 92 64)) rfl HOWN.out (some ⟨w4.heap.size, 0, none⟩) 32 32 d rfl hdl hk5.out hb0.out hs5.out ?_))
        intro v6 w6 hown6 hgrow6 _
        have hgrow6' : w5.grownBy w6 (some (w8.heap.size + 1)) := hgrow6
        have hBW6 : Hid (Below W.heap.size W w6) := hide (hBW5.out.grown hgrow6' hBW5.out.size (fun k hk => by cases hk; omega))
        have hres6 := hide (hres5.out.grown hgrow6' (by simp; omega))
        have hown6' : w6.ownsRow w8.heap.size 5 1 v6 96 (u8s (Sha.turned kk 92 64 ++ d)) := by simpa [u8s] using hown6
        obtain ⟨A6, c6, rfl, hl6, -, -, hr6, -⟩ := own_rb hown6' ((turned_bytes hkkb.out (by decide)).append hdb.out)
        have HL6 := hide hl6
        have HR6 := hide hr6
        clear hown6 hown6' hgrow6 hgrow6' hl6 hr6 hBW5 hres5 HOWN hk5
        have hM0 : Hid (Sha.digest (Sha.turned kk 92 64 ++ d) = Sha.tag ks bs) := hide (by rw [htag.out, Sha.mac, hd.out])
        have hMl : Hid ((Sha.tag ks bs).length = 32) := hide (tag_length _ _)
        obtain ⟨M, hM⟩ : ∃ M : Array Value, Hid ((u8s (Sha.tag ks bs)).toArray = M) := ⟨_, hide rfl⟩
        have hMs : Hid ((Tryd.prog.info? 24).map (·.size) = some M.size) := by
          rw [← hM.out]
          show _ = some ((u8s (Sha.tag ks bs)).toArray).size
          rw [List.size_toArray, List.length_map, hMl.out]
          kernel_rfl
        have hMo : Hid ((u8s (List.replicate 32 0)).toArray.size = M.size) := by
          rw [← hM.out]
          simp [Hid, hMl.out]
        have hM1 : Hid (M.all (·.oneCell') = true) := by
          rw [← hM.out]
          simp [Hid, Function.comp_def, Value.oneCell']
        have hw := refsum_c (Sha.turned kk 92 64 ++ d) A6 c6 w6 HR6.out (by rw [HL6.out]; decide)
        rw [HL6.out, hM0.out, hM.out] at hw
        have HW6 := hide hw
        clear hw
        go_wp2_with fail
        refine HW6.out.mono ?_
        rintro e w7 ⟨rfl, hB7⟩
        have hBW7 := hide (hBW6.out.trans (hB7.mono hBW6.out.size))
        have hres7 : Hid (w7.heap[W.heap.size]? = some (.cells (u8s (List.replicate 32 0)).toArray 24 (0, 0))) := hide (hres6.out.below hB7 hres6.out.lt)
        clear hB7 HW6 HR6 hBW6 hres6
        go_wp2_with (refine wpList_store_row rfl 24 (.tmp 4) (.tmp 55) rfl W.heap.size M rfl rfl _ _ hres7.out hMs.out hMo.out hM1.out ?_)
        refine bodyPost_ret (results_cell_row rfl _ _ W.heap.size 24 M (0, 0) _ rfl (setRow_heap _ _ _ _ _ _ hres7.out) Tryd.underlying24 rfl hMs.out) rfl ?_
        exact ⟨by rw [hM.out], below_setRow hBW7.out (Nat.le_refl _) _⟩
end Go.Proofs.YtijgomgiinlcoaaDoor
