/-
  The text of a shape: the reference's, walked. By an AI agent. No person has read it.
-/
import Derived.Test.YtnbjcdmiehnceaaDoorShpZ
import Derived.Test.YtnbjcdmiehnceaaDoorShpX
namespace Go.Proofs.YtnbjcdmiehnceaaDoor
open Go.RowKit

def Shp.txt (zs : List Int) : List UInt8 := Lib.join (zs.map Lib.itoa) [120]
def Shp.pre (wide : Bool) : List UInt8 := if wide = true then [119, 91] else [110, 91]
def Shp.text (zs : List Int) (wide : Bool) : List UInt8 := Shp.pre wide ++ Shp.txt zs ++ [93]
theorem Shp.txt_one (z : Int) : Shp.txt [z] = Lib.itoa z := Lib.join_one _ _
theorem Shp.txt_snoc (y : Int) (ys : List Int) (z : Int) : Shp.txt (y :: ys ++ [z]) = Shp.txt (y :: ys) ++ [120] ++ Lib.itoa z := by
  unfold Shp.txt
  rw [List.cons_append, List.map_cons, List.map_cons, Lib.join_cons, Lib.join_cons, List.map_append, Lib.joinTail, Lib.joinTail, List.map_append, List.flatten_append]
  simp
theorem Shp.txt_take (zs : List Int) (i : Nat) (z : Int) (hz : zs[i]? = some z) (hi : 0 < i) : Shp.txt (zs.take (i + 1)) = Shp.txt (zs.take i) ++ [120] ++ Lib.itoa z := by
  rw [List.take_add_one, hz, Option.toList_some]
  cases hc : zs.take i with
  | nil =>
    have h1 := congrArg List.length hc
    have h2 := (List.getElem?_eq_some_iff.1 hz).1
    rw [List.length_take, List.length_nil] at h1
    omega
  | cons y ys => exact Shp.txt_snoc y ys z
/-- A string's bytes. -/
def Sb (s : ByteArray) (l : List UInt8) : Prop := s.data.toList = l
theorem Sb.add {s t : ByteArray} {l m : List UInt8} (h : Sb s l) (k : Sb t m) : Sb (s ++ t) (l ++ m) := by
  unfold Sb at h k ⊢
  rw [ByteArray.data_append, Array.toList_append, h, k]
theorem dec_len (u : Nat) (h : u < 1000) : (Lib.decDigits u).length ≤ 3 := by
  rw [Lib.decDigits]
  split
  · simp
  · rw [List.length_append, Lib.decDigits]
    split
    · simp
    · rw [List.length_append, Lib.decDigits, dif_pos (by omega)]
      simp
theorem itoa_len (z : Int) (h0 : 0 ≤ z) (h : z < 1000) : (Lib.itoa z).length ≤ 3 := by
  unfold Lib.itoa
  rw [if_neg (by omega)]
  exact dec_len _ (by omega)
theorem Sb.size {s : ByteArray} {l : List UInt8} (h : Sb s l) : s.size = l.length := by
  unfold Sb at h
  rw [← h]
  rfl
theorem Sb.mk (l : List UInt8) : Sb ⟨l.toArray⟩ l := by simp [Sb]
set_option maxRecDepth 100000 in
set_option maxHeartbeats 4000000 in
theorem desctext_c (zs : List Int) (P : Option Addr) (cap : Nat) (wide : Bool) (w : World) (hr : Ri w P zs) (hP : Pz w) (hok : Shp.ok zs = true) :
    Calls Tryd.prog 30 #[.agg (dcells P zs.length cap wide)] w fun e w' => (∃ s, e = .returned (.string s) ∧ Sb s (Shp.text zs wide)) ∧ Below w.heap.size w w' := by
  have hb1 := (Below.refl _ w).alloc (Nat.le_refl _) (Obj.cells (dcells P zs.length cap wide) 24)
  have HB1 := hide hb1
  have HA := hide (hr.below hb1)
  have HD := hide (desc_row w P zs.length cap wide)
  have HP := hide hP
  have HOK := hide hok
  have h4 := ((Shp.ok_iff zs).1 hok).1
  obtain ⟨n, hn⟩ : ∃ n, Hid (zs.length = n) := ⟨_, hide rfl⟩
  rw [hn.out] at HB1 HA HD h4 ⊢
  obtain ⟨p, hp⟩ : ∃ p : ByteArray, Hid (p = ⟨(Shp.pre wide).toArray⟩) := ⟨_, hide rfl⟩
  have HPre : Hid (Sb p (Shp.pre wide)) := hide (by rw [hp.out]; simp [Sb])
  clear hr hb1 hP hok
  cases wide
  · go_enter Tryd.func30, Tryd.ntmps30
    go_wp2_with fail
    obtain ⟨w1, hw1⟩ : ∃ w1, Hid (w.alloc (Obj.cells (dcells P n cap false) 24) = w1) := ⟨_, hide rfl⟩
    rw [hw1.out] at HB1 HA HD
    have hw1' := hw1.out
    rw [hw1']
    clear hw1 hw1'
    go_loopw [3, 4] (fun s k wr => ∃ (i : Nat) (t : ByteArray), i ≤ n ∧ k = .int .i64 i ∧ s = .string t ∧ Hid (Sb t (Shp.pre false ++ Shp.txt (zs.take i))) ∧ t.size ≤ 2 + 4 * i ∧ Hid (Below w1.heap.size w1 wr)) (fun _ k _ => n - (intOf k).toNat)
    case atStart => exact ⟨0, _, by omega, rfl, rfl, hide (by rfl), by decide, hide (Below.refl _ _)⟩
    case round =>
      obtain ⟨i, t, hi, rfl, rfl, hT, htz, hB⟩ := hrel
      have cd : wr.cell? ⟨w.heap.size, 0, none⟩ = some (.slice P n cap) := by
        have h := (HD.out.below hB.out HD.out.lt).cell 0
        simpa using h
      by_cases hlt : i < n
      · obtain ⟨ad, z, rfl, ez, cz⟩ := ri_at (HA.out.below hB.out) i (by rw [hn.out]; exact hlt)
        have him : (i : Int) < n := by omega
        have hzb := Shp.dims zs HOK.out i z ez.out
        obtain ⟨q, hq⟩ : ∃ q : ByteArray, Hid (⟨(Lib.itoa z).toArray⟩ = q) := ⟨_, hide rfl⟩
        have hqb : Sb q (Lib.itoa z) := by rw [← hq.out]; exact Sb.mk _
        have hqz : q.size ≤ 3 := by rw [hqb.size]; exact itoa_len z (by omega) (by omega)
        have HQB := hide hqb
        have HI := hide (itoa_c z (by omega) (by omega) wr (HP.out.below (HB1.out.trans (hB.out.mono HB1.out.size)) HP.out.lt))
        rw [hq.out] at HI
        clear hqb
        by_cases h0 : i = 0
        · subst h0
          have cz0 : wr.cell? ad = some (.int .i64 z) := by simpa [Addr.add] using cz
          have hn0 : (0 : Int) < n := by omega
          have hT2 : Sb (t ++ q) (Shp.pre false ++ Shp.txt (zs.take (0 + 1))) := by
            have h := hT.out.add HQB.out
            rw [List.take_add_one, ez.out, Option.toList_some, List.take_zero, List.nil_append, Shp.txt_one]
            rw [List.take_zero, show Shp.txt [] = [] from rfl, List.append_nil] at h
            exact h
          have HT2 := hide hT2
          have g1 : t.size + 1 ≤ 9223372036854775807 := by omega
          have g2 : t.size + 1 + q.size ≤ 9223372036854775807 := by omega
          have g3 : t.size + q.size ≤ 9223372036854775807 := by omega
          have HTZ := hide htz
          have HQZ := hide hqz
          clear hT2
          go_wp2_with fail
          refine HI.out.mono ?_
          rintro e w5 ⟨rfl, hb5⟩
          have HB5 := hide (hB.out.trans (hb5.mono hB.out.size))
          clear hb5
          go_wp2_with fail
          go_roundw
          case rel => exact ⟨1, _, by omega, by go_num, rfl, HT2, by have h1 := HTZ.out; have h2 := HQZ.out; simp only [ByteArray.size_append]; have h3 : ByteArray.size ⟨#[120]⟩ = 1 := rfl; omega, HB5⟩
          case measure => simp [intOf]; omega
        · have h0' : (0 : Int) < i := by omega
          have hT2 : Sb (t ++ ⟨#[120]⟩ ++ q) (Shp.pre false ++ Shp.txt (zs.take (i + 1))) := by
            have h := (hT.out.add (Sb.mk [120])).add HQB.out
            rw [Shp.txt_take zs i z ez.out (by omega)]
            simpa using h
          have HT2 := hide hT2
          have g1 : t.size + 1 ≤ 9223372036854775807 := by omega
          have g2 : t.size + 1 + q.size ≤ 9223372036854775807 := by omega
          have g3 : t.size + q.size ≤ 9223372036854775807 := by omega
          have HTZ := hide htz
          have HQZ := hide hqz
          clear hT2
          go_wp2_with fail
          refine HI.out.mono ?_
          rintro e w5 ⟨rfl, hb5⟩
          have HB5 := hide (hB.out.trans (hb5.mono hB.out.size))
          clear hb5
          go_wp2_with fail
          go_roundw
          case rel => exact ⟨i + 1, _, by omega, by go_num, rfl, HT2, by have h1 := HTZ.out; have h2 := HQZ.out; simp only [ByteArray.size_append]; have h3 : ByteArray.size ⟨#[120]⟩ = 1 := rfl; omega, HB5⟩
          case measure => simp [intOf]; omega
      · obtain rfl : i = n := by omega
        have hT2 : Sb (t ++ ⟨#[93]⟩) (Shp.text zs false) := by
          have h := hT.out.add (Sb.mk [93])
          rw [List.take_of_length_le (by rw [hn.out]; exact Nat.le_refl _)] at h
          exact h
        have hfin := HB1.out.trans (hB.out.mono HB1.out.size)
        have g1 : t.size + 1 ≤ 9223372036854775807 := by omega
        go_wp2_with fail
        go_ret
        exact ⟨⟨_, rfl, hT2⟩, hfin⟩
  · go_enter Tryd.func30, Tryd.ntmps30
    go_wp2_with fail
    obtain ⟨w1, hw1⟩ : ∃ w1, Hid (w.alloc (Obj.cells (dcells P n cap true) 24) = w1) := ⟨_, hide rfl⟩
    rw [hw1.out] at HB1 HA HD
    have hw1' := hw1.out
    rw [hw1']
    clear hw1 hw1'
    go_loopw [3, 4] (fun s k wr => ∃ (i : Nat) (t : ByteArray), i ≤ n ∧ k = .int .i64 i ∧ s = .string t ∧ Hid (Sb t (Shp.pre true ++ Shp.txt (zs.take i))) ∧ t.size ≤ 2 + 4 * i ∧ Hid (Below w1.heap.size w1 wr)) (fun _ k _ => n - (intOf k).toNat)
    case atStart => exact ⟨0, _, by omega, rfl, rfl, hide (by rfl), by decide, hide (Below.refl _ _)⟩
    case round =>
      obtain ⟨i, t, hi, rfl, rfl, hT, htz, hB⟩ := hrel
      have cd : wr.cell? ⟨w.heap.size, 0, none⟩ = some (.slice P n cap) := by
        have h := (HD.out.below hB.out HD.out.lt).cell 0
        simpa using h
      by_cases hlt : i < n
      · obtain ⟨ad, z, rfl, ez, cz⟩ := ri_at (HA.out.below hB.out) i (by rw [hn.out]; exact hlt)
        have him : (i : Int) < n := by omega
        have hzb := Shp.dims zs HOK.out i z ez.out
        obtain ⟨q, hq⟩ : ∃ q : ByteArray, Hid (⟨(Lib.itoa z).toArray⟩ = q) := ⟨_, hide rfl⟩
        have hqb : Sb q (Lib.itoa z) := by rw [← hq.out]; exact Sb.mk _
        have hqz : q.size ≤ 3 := by rw [hqb.size]; exact itoa_len z (by omega) (by omega)
        have HQB := hide hqb
        have HI := hide (itoa_c z (by omega) (by omega) wr (HP.out.below (HB1.out.trans (hB.out.mono HB1.out.size)) HP.out.lt))
        rw [hq.out] at HI
        clear hqb
        by_cases h0 : i = 0
        · subst h0
          have cz0 : wr.cell? ad = some (.int .i64 z) := by simpa [Addr.add] using cz
          have hn0 : (0 : Int) < n := by omega
          have hT2 : Sb (t ++ q) (Shp.pre true ++ Shp.txt (zs.take (0 + 1))) := by
            have h := hT.out.add HQB.out
            rw [List.take_add_one, ez.out, Option.toList_some, List.take_zero, List.nil_append, Shp.txt_one]
            rw [List.take_zero, show Shp.txt [] = [] from rfl, List.append_nil] at h
            exact h
          have HT2 := hide hT2
          have g1 : t.size + 1 ≤ 9223372036854775807 := by omega
          have g2 : t.size + 1 + q.size ≤ 9223372036854775807 := by omega
          have g3 : t.size + q.size ≤ 9223372036854775807 := by omega
          have HTZ := hide htz
          have HQZ := hide hqz
          clear hT2
          go_wp2_with fail
          refine HI.out.mono ?_
          rintro e w5 ⟨rfl, hb5⟩
          have HB5 := hide (hB.out.trans (hb5.mono hB.out.size))
          clear hb5
          go_wp2_with fail
          go_roundw
          case rel => exact ⟨1, _, by omega, by go_num, rfl, HT2, by have h1 := HTZ.out; have h2 := HQZ.out; simp only [ByteArray.size_append]; have h3 : ByteArray.size ⟨#[120]⟩ = 1 := rfl; omega, HB5⟩
          case measure => simp [intOf]; omega
        · have h0' : (0 : Int) < i := by omega
          have hT2 : Sb (t ++ ⟨#[120]⟩ ++ q) (Shp.pre true ++ Shp.txt (zs.take (i + 1))) := by
            have h := (hT.out.add (Sb.mk [120])).add HQB.out
            rw [Shp.txt_take zs i z ez.out (by omega)]
            simpa using h
          have HT2 := hide hT2
          have g1 : t.size + 1 ≤ 9223372036854775807 := by omega
          have g2 : t.size + 1 + q.size ≤ 9223372036854775807 := by omega
          have g3 : t.size + q.size ≤ 9223372036854775807 := by omega
          have HTZ := hide htz
          have HQZ := hide hqz
          clear hT2
          go_wp2_with fail
          refine HI.out.mono ?_
          rintro e w5 ⟨rfl, hb5⟩
          have HB5 := hide (hB.out.trans (hb5.mono hB.out.size))
          clear hb5
          go_wp2_with fail
          go_roundw
          case rel => exact ⟨i + 1, _, by omega, by go_num, rfl, HT2, by have h1 := HTZ.out; have h2 := HQZ.out; simp only [ByteArray.size_append]; have h3 : ByteArray.size ⟨#[120]⟩ = 1 := rfl; omega, HB5⟩
          case measure => simp [intOf]; omega
      · obtain rfl : i = n := by omega
        have hT2 : Sb (t ++ ⟨#[93]⟩) (Shp.text zs true) := by
          have h := hT.out.add (Sb.mk [93])
          rw [List.take_of_length_le (by rw [hn.out]; exact Nat.le_refl _)] at h
          exact h
        have hfin := HB1.out.trans (hB.out.mono HB1.out.size)
        have g1 : t.size + 1 ≤ 9223372036854775807 := by omega
        go_wp2_with fail
        go_ret
        exact ⟨⟨_, rfl, hT2⟩, hfin⟩
end Go.Proofs.YtnbjcdmiehnceaaDoor
