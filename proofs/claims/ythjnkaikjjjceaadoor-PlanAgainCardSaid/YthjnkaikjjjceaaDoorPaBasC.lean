/-
  lodgeref.SameBytes, walked. By an AI agent. No person has read it.
-/
import Derived.Test.YthjnkaikjjjceaaDoorPaBasA
import Derived.Test.YthjnkaikjjjceaaDoorPaBasD
import Derived.Test.YthjnkaikjjjceaaDoorPaTenU
import Derived.Test.YthjnkaikjjjceaaDoorPaTenF
import Derived.Test.YthjnkaikjjjceaaDoorPaShpC
import Derived.Laws.BitsAllLaws
import Derived.StillTailTactics
namespace Go.Proofs.YthjnkaikjjjceaaDoor
open Go.RowKit
set_option maxRecDepth 100000 in
set_option maxHeartbeats 4000000 in
theorem samebytes_c (a b : List Nat) (A B : Option Addr) (ca cb : Nat) (w : World) (ha : Rb w A a) (hb : Rb w B b) (hl : a.length ≤ 1000000) (hl2 : b.length ≤ 1000000) :
    Calls Tryd.prog 21 #[.slice A a.length ca, .slice B b.length cb] w fun e w' => e = .returned (.bool (decide (a = b))) ∧ Below w.heap.size w w' := by
  obtain ⟨n, hn⟩ : ∃ n, Hid (a.length = n) := ⟨_, hide rfl⟩
  obtain ⟨m, hm⟩ : ∃ m, Hid (b.length = m) := ⟨_, hide rfl⟩
  rw [hn.out] at hl
  rw [hm.out] at hl2
  rw [hn.out, hm.out]
  have HA := hide ha
  have HB := hide hb
  clear ha hb
  obtain ⟨r, hr⟩ : ∃ r, Hid (decide (a = b) = r) := ⟨_, hide rfl⟩
  rw [hr.out]
  by_cases hnm : n = m
  · subst hnm
    go_enter Tryd.func21, Tryd.ntmps21
    go_wp2_with fail
    go_loopw [5] (fun k wr => ∃ i : Nat, i ≤ n ∧ k = .int .i64 i ∧ Hid (∀ j, j < i → a[j]? = b[j]?) ∧ ∃ q, wr = w.drewN q) (fun k _ => n - (intOf k).toNat)
    case atStart => exact ⟨0, by omega, rfl, hide (fun j hj => by omega), 0, rfl⟩
    case round =>
      obtain ⟨i, hi, rfl, hI, q, rfl⟩ := hrel
      by_cases hlt : i < n
      · obtain ⟨ad, x, rfl, ex, lx, cx⟩ := rb_at HA.out i (by rw [hn.out]; exact hlt)
        obtain ⟨bd, y, rfl, ey, ly, cy⟩ := rb_at HB.out i (by rw [hm.out]; exact hlt)
        have him : (i : Int) < n := by omega
        by_cases hxy : x = y
        · have hne : (((x : Int) == (y : Int)) : Bool) = true := by simp; omega
          have HXY := hide hxy
          clear hxy
          go_wp2_with fail
          go_quiet (fail)
          go_wp2_with fail
          go_roundw
          case rel =>
            refine ⟨i + 1, by omega, by go_num, hide (fun j hj => ?_), _, rfl⟩
            rcases Nat.lt_or_ge j i with h | h
            · exact hI.out j h
            · obtain rfl : j = i := by omega
              rw [ex.out, ey.out]
              exact congrArg some HXY.out
          case measure => simp [intOf]; omega
        · have hne : (((x : Int) == (y : Int)) : Bool) = false := by simp; omega
          have hrf : r = false := by
            rw [← hr.out, decide_eq_false_iff_not]
            rintro rfl
            exact hxy (Option.some.inj (ex.out.symm.trans ey.out))
          subst hrf
          clear hxy
          go_wp2_with fail
          go_quiet (fail)
          go_wp2_with fail
          go_ret
          exact ⟨rfl, ⟨rfl, rfl, rfl, Nat.le_refl _, fun _ _ => rfl⟩⟩
      · obtain rfl : i = n := by omega
        have hrt : r = true := by
          rw [← hr.out, decide_eq_true_eq]
          refine List.ext_getElem? fun j => ?_
          rcases Nat.lt_or_ge j i with h | h
          · exact hI.out j h
          · rw [List.getElem?_eq_none (by rw [hn.out]; exact h), List.getElem?_eq_none (by rw [hm.out]; exact h)]
        subst hrt
        go_wp2_with fail
        go_ret
        exact ⟨rfl, ⟨rfl, rfl, rfl, Nat.le_refl _, fun _ _ => rfl⟩⟩
  · have hne : (((n : Int) == (m : Int)) : Bool) = false := by simp; omega
    have hd : decide (a = b) = false := by
      rw [decide_eq_false_iff_not]
      rintro rfl
      exact hnm (hn.out.symm.trans hm.out)
    rw [hr.out] at hd
    subst hd
    clear hnm
    go_enter Tryd.func21, Tryd.ntmps21
    go_wp2_with fail
    go_ret
    exact ⟨rfl, Below.refl _ _⟩
end Go.Proofs.YthjnkaikjjjceaaDoor
namespace Go.Proofs.YthjnkaikjjjceaaDoor
open Go.RowKit
/-- n gone round wide, cut to narrow. -/
def Tens.wide (n : Int) : Int := (n + 2147483648) % 4294967296 - 2147483648
def Tens.narrow (n : Int) : Int := max (-128) (min n 127)
theorem wide_c (n : Int) (w : World) : Calls Tryd.prog 107 #[.int .i64 n] w fun e w' => e = .returned (.int .i64 (Tens.wide n)) ∧ w' = w := by
  have h1 : IntKind.i32.wrap n = Tens.wide n := by rw [IntKind.wrap_i32]; rfl
  have h2 : IntKind.i64.wrap (Tens.wide n) = Tens.wide n := by rw [IntKind.wrap_i64]; unfold Tens.wide; omega
  obtain ⟨q, hq⟩ : ∃ q, Hid (Tens.wide n = q) := ⟨_, hide rfl⟩
  rw [hq.out] at h1 h2 ⊢
  clear hq
  go_enter Tryd.func107, Tryd.ntmps107
  go_wp2_with fail
  go_ret
  exact ⟨rfl, rfl⟩
end Go.Proofs.YthjnkaikjjjceaaDoor
namespace Go.Proofs.YthjnkaikjjjceaaDoor
open Go.RowKit
/-- A byte as a narrow number; four bytes as a wide one. -/
def Tens.num1 (b : Nat) : Int := if b < 128 then (b : Int) else (b : Int) - 256
def Tens.nums1 (bs : List Nat) : List Int := bs.map Tens.num1
theorem num1_wrap (b : Nat) (h : b < 256) : IntKind.i8.wrap (b : Int) = Tens.num1 b := by
  unfold Tens.num1
  simp [IntKind.wrap, IntKind.bits, IntKind.signed]
  split <;> omega
theorem num1_bounds (b : Nat) (h : b < 256) : -128 ≤ Tens.num1 b ∧ Tens.num1 b ≤ 127 := by unfold Tens.num1; split <;> omega
/-- The row, its first i filled. -/
def Tens.fill (l : List Int) (n i : Nat) : List Int := l.take i ++ List.replicate (n - i) 0
theorem Tens.fill_set (l : List Int) (n i : Nat) (z : Int) (hn : l.length = n) (hz : l[i]? = some z) : (i64s (Tens.fill l n i)).set i (.int .i64 z) = i64s (Tens.fill l n (i + 1)) := by
  have hi := (List.getElem?_eq_some_iff.1 hz).1
  rw [show (Value.int .i64 z) = (fun z => Value.int .i64 z) z from rfl, ← List.map_set]
  congr 1
  unfold Tens.fill
  have e : n - i = (n - (i + 1)) + 1 := by omega
  rw [List.set_append_right _ _ (by rw [List.length_take]; omega), List.length_take, Nat.min_eq_left (by omega), Nat.sub_self, e, List.replicate_succ, List.set_cons_zero, List.take_add_one, hz, Option.toList_some, List.append_assoc]
  rfl
set_option maxRecDepth 100000 in
set_option maxHeartbeats 4000000 in
theorem numbers_n (bs : List Nat) (A : Option Addr) (cap : Nat) (w : World) (hr : Rb w A bs) (hl : bs.length ≤ 1000000) :
    Calls Tryd.prog 101 #[.slice A bs.length cap, .bool false] w fun e w' => (∃ g, e = .returned (.slice (some ⟨g, 0, none⟩) bs.length bs.length) ∧ w.heap.size ≤ g ∧ Has w' g 3 (i64s (Tens.nums1 bs))) ∧ Below w.heap.size w w' := by
  obtain ⟨n, hn⟩ : ∃ n, Hid (bs.length = n) := ⟨_, hide rfl⟩
  rw [hn.out] at hl ⊢
  obtain ⟨Z, hZ, hmk⟩ := made_ints n hl
  have HSz := hide (fun W => size_of false W)
  have hq : (n : Int).tdiv 1 = (n : Int) := by simp
  have hR0 : Has (w.alloc (Obj.cells Z 3)) w.heap.size 3 (i64s (List.replicate n 0)) := by rw [hZ.out]; exact Has.new w _ _
  have hb0 := (Below.refl _ w).alloc (Nat.le_refl _) (Obj.cells Z 3)
  have HR0 := hide hR0
  have HB0 := hide hb0
  have HA := hide (hr.below hb0)
  have HA0 := hide hr
  clear hR0 hb0 hr
  go_enter Tryd.func101, Tryd.ntmps101
  go_wp2_with fail
  refine (HSz.out w).mono ?_
  rintro e w1 ⟨rfl, rfl⟩
  rw [show ((Tens.each false : Nat) : Int) = 1 from rfl]
  clear HSz
  go_wp2_with fail
  have hR1 : Has (w1.alloc (Obj.cells Z 3)) w1.heap.size 3 (i64s (Tens.fill (Tens.nums1 bs) n 0)) := by
    have h := HR0.out
    simpa [Tens.fill] using h
  have hAl : ∀ ad, A = some ad → bs ≠ [] → ad.block < w1.heap.size := fun ad e hne => by
    obtain ⟨ad', e', h1, -⟩ := HA0.out.2 hne
    rw [e] at e'
    cases e'
    exact h1
  have HAl := hide hAl
  clear hAl HR0 HA
  generalize hW1 : w1.alloc (Obj.cells Z 3) = W1 at *
  have hs1 : W1.heap.size = w1.heap.size + 1 := by rw [← hW1]; simp
  clear hW1
  go_loopw [18] (fun k wr => ∃ i : Nat, i ≤ n ∧ k = .int .i64 i ∧ Hid (Has wr w1.heap.size 3 (i64s (Tens.fill (Tens.nums1 bs) n i))) ∧ Hid (Below w1.heap.size w1 wr)) (fun k _ => n - (intOf k).toNat)
  case atStart => exact ⟨0, Nat.zero_le _, rfl, hide hR1, HB0⟩
  case round =>
    obtain ⟨i, hi, rfl, hR, hB⟩ := hrel
    by_cases hlt : i < n
    · have hAr := HA0.out.below hB.out
      obtain ⟨ad, b, rfl, eb, lb, cb⟩ := rb_at hAr i (by rw [hn.out]; exact hlt)
      have him : (i : Int) < n := by omega
      have hw8 := num1_wrap b lb
      have hbd := num1_bounds b lb
      obtain ⟨z, hz⟩ : ∃ z, Hid (Tens.num1 b = z) := ⟨_, hide rfl⟩
      rw [hz.out] at hw8 hbd
      have hw64 : IntKind.i64.wrap z = z := by rw [IntKind.wrap_i64]; omega
      have hadd : IntKind.i64.wrap ((i : Int) + 1) = (i : Int) + 1 := by rw [IntKind.wrap_i64]; omega
      have hcell : ∃ u, wr.cell? ⟨w1.heap.size, i, none⟩ = some u := by
        rw [hR.out.cell]
        exact ⟨_, List.getElem?_eq_getElem (by simp [Tens.fill, Tens.nums1, hn.out]; omega)⟩
      obtain ⟨u, hu⟩ := hcell
      have hf := hR.out.frozen i
      have hR2 := hR.out.set_ i (.int .i64 z)
      have hlz : (Tens.nums1 bs)[i]? = some z := by unfold Tens.nums1; rw [List.getElem?_map, eb.out]; exact congrArg some hz.out
      rw [Tens.fill_set _ n i z (by simp [Tens.nums1, hn.out]) hlz] at hR2
      have HR2 := hide hR2
      have HB2 := hide (hB.out.setCell (p := ⟨w1.heap.size, i, none⟩) (Nat.le_refl _) (.int .i64 z))
      clear hAr hbd hR hR2 hlz hB eb
      go_wp2_with fail
      go_roundw
      case rel => exact ⟨i + 1, by omega, by go_num, HR2, HB2⟩
      case measure => simp [intOf]; omega
    · obtain rfl : i = n := by omega
      have hfin := hR.out
      have e : Tens.fill (Tens.nums1 bs) i i = Tens.nums1 bs := by
        unfold Tens.fill
        rw [List.take_of_length_le (by simp [Tens.nums1, hn.out]), Nat.sub_self]
        simp
      rw [e] at hfin
      have HF := hide hfin
      clear hfin e hR
      go_wp2_with fail
      go_ret
      exact ⟨⟨_, rfl, Nat.le_refl _, HF.out⟩, hB.out⟩
end Go.Proofs.YthjnkaikjjjceaaDoor
