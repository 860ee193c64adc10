/-
  The law ShaWrites of package lodgelaw1, walked. By an AI agent. No person has read it.
-/
import Derived.Test.YtijgomgiinlcoaaDoorShaAny
import Derived.Deep.RegionHeld3
import Derived.Lib.SlBytesConst
namespace Go.Proofs.YtijgomgiinlcoaaDoor
open Go.RowKit

theorem Parts.below {w wr : World} {P : Option Addr} {ps : List (List Nat)} (h : Parts w P ps) (hb : Below w.heap.size w wr) : Parts wr P ps := by
  intro i p hp
  obtain ⟨ad, A, cap, e, h1, h2, h3, h4, h5⟩ := h i p hp
  exact ⟨ad, A, cap, e, Nat.lt_of_lt_of_le h1 hb.size, (hb.cell (p := ad.add i) (by rw [block_add]; exact h1)).trans h2, h3, h4, h5.below hb⟩
theorem Rb.grown {w w' : World} {A : Option Addr} {bs : List Nat} {row : Option Nat} (h : Rb w A bs) (hb : w.grownBy w' row) (hr : ∀ ad, A = some ad → some ad.block ≠ row) : Rb w' A bs := by
  refine ⟨h.1, fun hn => ?_⟩
  obtain ⟨ad, e, h1, h2⟩ := h.2 hn
  refine ⟨ad, e, Nat.lt_of_lt_of_le h1 hb.size, fun i b hi => ?_⟩
  have hne := hr ad e
  rw [World.cell?_of_block (hb.block (ad.add i).block (by rw [block_add]; exact h1) (by rw [block_add]; exact hne))]
  exact h2 i b hi
theorem parts_one {w : World} {A : Option Addr} {bs : List Nat} {cap : Nat} (hr : Rb w A bs) (h1 : bs.length ≤ cap) (h2 : cap ≤ 9223372036854775807) :
    Parts (w.alloc (.cells #[.slice A bs.length cap] 22)) (some ⟨w.heap.size, 0, none⟩) [bs] :=
  ((PV.nil w).add (p := bs) (A := A) (cap := cap) h1 h2 hr).parts ((Below.refl _ _).alloc (Nat.le_refl _) _) (by simp) (new_cells w 22 [.slice A bs.length cap])
theorem parts_two {w : World} {A A2 : Option Addr} {bs b2 : List Nat} {cap cap2 : Nat} (hr : Rb w A bs) (h1 : bs.length ≤ cap) (h2 : cap ≤ 9223372036854775807) (hr2 : Rb w A2 b2) (k1 : b2.length ≤ cap2) (k2 : cap2 ≤ 9223372036854775807) :
    Parts (w.alloc (.cells #[.slice A bs.length cap, .slice A2 b2.length cap2] 22)) (some ⟨w.heap.size, 0, none⟩) [bs, b2] :=
  (((PV.nil w).add (p := bs) (A := A) (cap := cap) h1 h2 hr).add (p := b2) (A := A2) (cap := cap2) k1 k2 hr2).parts ((Below.refl _ _).alloc (Nat.le_refl _) _) (by simp) (new_cells w 22 [.slice A bs.length cap, .slice A2 b2.length cap2])
theorem reset_hash (g : Nat) (m : List Nat) (w : World) (h : HashIs w g m) :
    Calls Tryd.prog 28 #[.pointer (some ⟨g, 0, none⟩)] w fun e w' => e = .returned (.tuple #[]) ∧ HashIs w' g [] ∧ w.grownBy w' (some g) := by
  obtain ⟨CS, h1, h2, _, _⟩ := h.cells
  refine (reset_c g CS w h1.out h2.out).mono ?_
  rintro e w' ⟨rfl, rfl⟩
  exact ⟨rfl, ⟨Sha.H0, List.replicate 64 0, ⟨setRow_heap _ _ _ _ _ _ h1.out, rfl, by simp⟩, Sha.Holds.none⟩, grown_setRow (World.grownBy.refl _ _) _⟩

theorem own_below {w w' : World} {base : Nat} {e : TypeId} {v : Value} {n : Nat} {xs : List Value} (h : w.ownsRow base e 1 v n xs) (hb : Below w.heap.size w w') : w'.ownsRow base e 1 v n xs :=
  h.kept (grown_of_below hb none) (by rcases v.ownBlock with _ | k <;> simp)

def other : List Nat := [111, 116, 104, 101, 114]
theorem other_length : other.length = 5 := rfl
theorem other_cv (w : World) : (convert 22 22 (.slice (some ⟨w.heap.size, 0, none⟩) 5 5)).run Tryd.prog (w.alloc (.cells #[.int .u8 111, .int .u8 116, .int .u8 104, .int .u8 101, .int .u8 114] 5)) =
    .ok (.slice (some ⟨w.heap.size, 0, none⟩) 5 5) (w.alloc (.cells #[.int .u8 111, .int .u8 116, .int .u8 104, .int .u8 101, .int .u8 114] 5 (5, 6))) :=
  Lib.run_convert_bytes_const (P := Tryd.prog) w 22 5 #[.int .u8 111, .int .u8 116, .int .u8 104, .int .u8 101, .int .u8 114] 5 5 (by kernel_rfl) (by kernel_rfl)
theorem other_rb (w : World) : Rb (w.alloc (.cells #[.int .u8 111, .int .u8 116, .int .u8 104, .int .u8 101, .int .u8 114] 5 (5, 6))) (some ⟨w.heap.size, 0, none⟩) other := by
  refine ⟨fun b hb => by simp [other] at hb; omega, fun _ => ⟨_, rfl, by simp, fun k b hk => ?_⟩⟩
  have e : (⟨w.heap.size, 0, none⟩ : Addr).add k = ⟨w.heap.size, k, none⟩ := by unfold Addr.add; split <;> simp_all
  rw [e, cell_of_row _ w.heap.size k #[.int .u8 111, .int .u8 116, .int .u8 104, .int .u8 101, .int .u8 114] 5 (5, 6) (heap_alloc_new w _)]
  match k, hk with
  | 0, hk | 1, hk | 2, hk | 3, hk | 4, hk => simp [other] at hk; subst hk; rfl
  | n + 5, hk => simp [other] at hk

/-- What was written so far. -/
def flatTo (ps : List (List Nat)) (i : Nat) : List Nat := (ps.take i).flatten
/-- The clone, and the copy of what was written when it was made. -/
def Side (g : Nat) (f : List Nat) (u7 u8 u9 : Value) (wr : World) : Prop :=
  ∃ gc A cap, u8 = .pointer (some ⟨gc, 0, none⟩) ∧ u9 = .slice A f.length cap ∧ f.length ≤ cap ∧ cap ≤ 9223372036854775807 ∧ g < gc ∧ HashIs wr gc f ∧ Rb wr A f ∧
    (∀ ad, A = some ad → gc < ad.block ∧ ad.block < wr.heap.size ∧ u7.ownBlock ≠ some ad.block) ∧ u7.ownBlock ≠ some gc
theorem Side.grown {g : Nat} {f : List Nat} {u7 u7' u8 u9 : Value} {wr w' : World} {row : Option Nat} (h : Side g f u7 u8 u9 wr) (hb : wr.grownBy w' row) (hr : row = none ∨ row = some g ∨ row = u7.ownBlock)
    (ho : u7'.ownBlock = u7.ownBlock ∨ u7'.ownBlock = some wr.heap.size) : Side g f u7' u8 u9 w' := by
  obtain ⟨gc, A, cap, e1, e2, h1, h2, h3, h4, h5, h6, h7⟩ := h
  have hl := h4.lt
  refine ⟨gc, A, cap, e1, e2, h1, h2, h3, h4.grown hb ?_, h5.grown hb (fun ad e => ?_), fun ad e => ?_, ?_⟩
  · rcases hr with rfl | rfl | rfl
    · simp
    · simp; omega
    · exact fun e => h7 e.symm
  · obtain ⟨k1, k2, k3⟩ := h6 ad e
    rcases hr with rfl | rfl | rfl
    · simp
    · simp; omega
    · exact fun e => k3 e.symm
  · obtain ⟨k1, k2, k3⟩ := h6 ad e
    refine ⟨k1, Nat.lt_of_lt_of_le k2 hb.size, ?_⟩
    rcases ho with e | e
    · rw [e]; exact k3
    · rw [e]; simp; omega
  · rcases ho with e | e
    · rw [e]; exact h7
    · rw [e]; simp; omega
theorem side_grown {Q R : Prop} {g : Nat} {f : List Nat} {u7 u7' u8 u9 : Value} {wr w' : World} {row : Option Nat} (h : Hid (Q ∨ (R ∧ Side g f u7 u8 u9 wr))) (hb : wr.grownBy w' row) (hr : row = none ∨ row = some g ∨ row = u7.ownBlock)
    (ho : u7'.ownBlock = u7.ownBlock ∨ u7'.ownBlock = some wr.heap.size) : Hid (Q ∨ (R ∧ Side g f u7' u8 u9 w')) := by
  rcases h.out with h | ⟨h1, h2⟩
  · exact hide (.inl h)
  · exact hide (.inr ⟨h1, h2.grown hb hr ho⟩)
/-- What holds at a round's head, but for the clone. -/
def Main (W : World) (g : Nat) (f : List Nat) (u7 : Value) (wr : World) : Prop := HashIs wr g f ∧ Below W.heap.size W wr ∧ wr.ownsRow (g + 1) 5 1 u7 f.length (u8s f)

theorem flat_bound (ps : List (List Nat)) (i : Nat) (h : ∀ (j : Nat) (p : List Nat), ps[j]? = some p → p.length ≤ 200) (hi : i ≤ 20) : (flatTo ps i).length ≤ 200 * i := by
  induction i with
  | zero => simp [flatTo]
  | succ i ih =>
    have := ih (by omega)
    unfold flatTo at this ⊢
    rw [List.take_add_one]
    cases hp : ps[i]? with
    | none => simp; simp at this; omega
    | some p =>
      have := h i p hp
      simp
      simp at *
      omega
theorem flat_bytes (ps : List (List Nat)) (i : Nat) (h : ∀ (j : Nat) (p : List Nat), ps[j]? = some p → Sha.Bytes p) : Sha.Bytes (flatTo ps i) := by
  intro b hb
  obtain ⟨p, hp, hb⟩ := List.mem_flatten.1 hb
  obtain ⟨j, hj⟩ := List.mem_iff_getElem?.1 (List.mem_of_mem_take hp)
  exact h j p hj b hb

set_option maxRecDepth 100000 in
set_option maxHeartbeats 8000000 in
theorem writes_c (P : Option Addr) (ps : List (List Nat)) (capp : Nat) (at0 : Int) (W : World) (hP : Parts W P ps) (hpl : ps.length ≤ 9223372036854775807) (hT : Table W) :
    Calls Tryd.prog 4 #[.slice P ps.length capp, .int .i64 at0] W fun e w' => e = .returned (.bool true) ∧ Below W.heap.size W w' := by
  obtain ⟨m, hm⟩ : ∃ m, Hid (ps.length = m) := ⟨_, hide rfl⟩
  rw [hm.out] at hpl ⊢
  have HP := hide hP
  have HT := hide hT
  clear hP hT
  go_enter Tryd.func4, Tryd.ntmps4
  go_wp2_with fail
  refine (first_c W HT.out).mono ?_
  rintro e w1 ⟨rfl, hB1⟩
  go_wp2_with fail
  have hw := isbytes_c P ps capp w1 (HP.out.below hB1) (by rw [hm.out]; exact hpl)
  rw [hm.out] at hw
  refine hw.mono ?_
  rintro e w2 ⟨rfl, b, rfl, hb⟩
  clear hw
  cases b with
  | false =>
    go_wp2_with fail
    go_ret
    exact ⟨rfl, hB1⟩
  | true =>
    obtain ⟨hm20, hlong⟩ := hb rfl
    have HLONG := hide hlong
    clear hb hlong
    go_wp2_with fail
    refine (new_c w2).mono ?_
    rintro e w3 ⟨rfl, hH3, hB3⟩
    have hB3' := hB1.trans (hB3.mono hB1.size)
    have hg := hB1.size
    have hgl := hH3.lt
    obtain ⟨g, hgg⟩ : ∃ g, Hid (w2.heap.size = g) := ⟨_, hide rfl⟩
    rw [hgg.out] at hH3 hg hgl ⊢
    have hM3 : Main W g (flatTo ps 0) (.slice none 0 0) w3 := ⟨by simpa [flatTo] using hH3, hB3', by simpa [flatTo] using World.ownsRow_nil _ _ _ _⟩
    have HM3 := hide hM3
    clear hM3 hH3 hB3 hB3' hB1 hgg
    go_wp2_with fail
    have hsum : IntKind.i64.wrap ((m : Int) + 1) = (m : Int) + 1 := by rw [IntKind.wrap_i64]; omega
    refine (number_c at0 (m + 1) (by omega) (by omega) _ (by first | rfl | omega) w3).mono ?_
    rintro e w4 ⟨rfl, rfl⟩
    have hal := num_lt at0 (m + 1) (by omega)
    obtain ⟨a, ha⟩ : ∃ a, Hid (num at0 (m + 1) = a) := ⟨_, hide rfl⟩
    rw [ha.out] at hal ⊢
    clear ha hsum
    go_wp2_with fail
    go_loopw [7, 8, 9, 10] (fun v7 v8 v9 k wr => ∃ (i : Nat) (u7 u8 u9 : Value), i ≤ m ∧ k = .int .i64 i ∧ u7 = v7 ∧ u8 = v8 ∧ u9 = v9 ∧ Main W g (flatTo ps i) u7 wr ∧
      ((i ≤ a ∧ u8 = .pointer none ∧ u9 = .slice none 0 0) ∨ (a < i ∧ Side g (flatTo ps a) u7 u8 u9 wr))) (fun _ _ _ k _ => m - (intOf k).toNat)
    case atStart => exact ⟨0, _, _, _, by omega, rfl, rfl, rfl, rfl, HM3.out, .inl ⟨by omega, rfl, rfl⟩⟩
    case round =>
      obtain ⟨i, u7, u8, u9, hi, rfl, rfl, rfl, rfl, hM, hS⟩ := hrel
      clear HM3
      by_cases hlt : i < m
      ·
        --{
        obtain ⟨p, hp⟩ : ∃ p, Hid (ps[i]? = some p) := ⟨_, hide (List.getElem?_eq_getElem (by rw [hm.out]; exact hlt))⟩
        have him : (i : Int) < m := by omega
        have hpp := HP.out i p hp.out
        have hplen := HLONG.out i p hp.out
        have hf1 : Hid (flatTo ps (i + 1) = flatTo ps i ++ p) := hide (by unfold flatTo; rw [List.take_add_one, hp.out]; simp)
        have hfb : Hid (Sha.Bytes (flatTo ps (i + 1))) := hide (flat_bytes ps (i + 1) (fun j q hq => by obtain ⟨_, _, _, _, _, _, _, _, hr⟩ := HP.out j q hq; exact hr.1))
        have hfb0 : Hid (Sha.Bytes (flatTo ps i)) := hide (flat_bytes ps i (fun j q hq => by obtain ⟨_, _, _, _, _, _, _, _, hr⟩ := HP.out j q hq; exact hr.1))
        have hfl := flat_bound ps i HLONG.out (by omega)
        obtain ⟨ad, A, cp, rfl, had, hc, hc1, hc2, hr⟩ := hpp
        have HR := hide hr
        have HC := hide hc
        clear hr hc
        have hsp : (i < a ∧ u8 = .pointer none ∧ u9 = .slice none 0 0) ∨ i = a ∨ (a < i ∧ Side g (flatTo ps a) u7 u8 u9 wr) := by
          rcases hS with ⟨h1, h2, h3⟩ | h
          · rcases Nat.lt_or_ge i a with h | h
            · exact .inl ⟨h, h2, h3⟩
            · exact .inr (.inl (by omega))
          · exact .inr (.inr h)
        clear hS
        obtain ⟨hH, hB, hown⟩ := hM
        obtain ⟨L, hL⟩ : ∃ L, Hid ((flatTo ps i).length = L) := ⟨_, hide rfl⟩
        rw [hL.out] at hown hfl
        obtain ⟨A7, cap7, rfl, -, hc7, hc72, hr7, ho7⟩ := own_rb hown hfb0.out
        have HR7 := hide hr7
        have HO7 := hide ho7
        clear hr7 ho7
        rcases hsp with ⟨hia, rfl, rfl⟩ | hia | ⟨hia, hS⟩
        focus
          have hne : ((i : Int) == (a : Int)) = false := by simp; omega
          have hS : Hid ((i + 1 ≤ a ∧ Value.pointer none = .pointer none ∧ Value.slice none 0 0 = .slice none 0 0) ∨ (a < i + 1 ∧ Side g (flatTo ps a) (.slice A7 L cap7) (.pointer none) (.slice none 0 0) wr)) := hide (.inl ⟨hia, rfl, rfl⟩)
          obtain ⟨w6, rfl⟩ : ∃ x, x = wr := ⟨_, rfl⟩
          go_wp2_with fail
        rotate_left
        focus
          have hne : ((i : Int) == (a : Int)) = true := by simp; omega
          have HIA := hide hia
          clear hia
          go_wp2_with fail
          refine (clone_c g _ wr hH).mono ?_
          rintro e w5 ⟨rfl, hK5, hB5⟩
          have hgc := hH.lt
          have hown5 := own_below hown hB5
          have hw := refbytes_c (flatTo ps i) A7 cap7 w5 (HR7.out.below hB5) (by rw [hL.out]; omega)
          rw [hL.out] at hw
          go_wp2_with fail
          refine hw.mono ?_
          clear hw
          have hl7 := hide hown.lt
          rintro e w6 ⟨hB6, v9, rfl, hown9, -⟩
          obtain ⟨A9, cap9, rfl, -, hc9, hc92, hr9, ho9⟩ := own_rb hown9 hfb0.out
          have hS : Hid ((i + 1 ≤ a ∧ Value.pointer (some ⟨wr.heap.size, 0, none⟩) = .pointer none ∧ Value.slice A9 L cap9 = .slice none 0 0) ∨ (a < i + 1 ∧ Side g (flatTo ps a) (.slice A7 L cap7) (.pointer (some ⟨wr.heap.size, 0, none⟩)) (.slice A9 L cap9) w6)) := by
            refine hide (.inr ⟨by have := HIA.out; omega, wr.heap.size, A9, cap9, rfl, ?_⟩)
            rw [← HIA.out, hL.out]
            have hk5 := hK5.lt
            have h7 := hown.lt
            refine ⟨rfl, hc9, hc92, hgc, hK5.below hB6, hr9, fun ad e => ?_, fun e => ?_⟩
            · obtain ⟨k1, k2, k3⟩ := ho9 ad e
              refine ⟨by omega, k3, fun e2 => ?_⟩
              have := h7 _ e2
              omega
            · have := h7 _ e
              omega
          have hB65 := hB5.trans (hB6.mono hB5.size)
          have hHn := hH.below hB65
          have hownn := own_below hown hB65
          have hBn := hB.trans (hB65.mono hB.size)
          have HR7n := hide (HR7.out.below hB65)
          clear hown9 hr9 ho9 hl7 hown5 hK5 hB5 hB6 hB65 hH hown hB HR7 HO7 hgc
          obtain ⟨gc, hgc⟩ : ∃ gc, Hid (wr.heap.size = gc) := ⟨_, hide rfl⟩
          rw [hgc.out] at hS ⊢
          clear hgc
          have hH := hHn
          have hown := hownn
          have hB := hBn
          have HR7 := HR7n
          clear hHn hownn hBn HR7n
          go_wp2_with fail
        rotate_left
        focus
          have hne : ((i : Int) == (a : Int)) = false := by simp; omega
          have hS := hide (Or.inr (a := (i + 1 ≤ a ∧ u8 = .pointer none ∧ u9 = .slice none 0 0)) (show a < i + 1 ∧ Side g (flatTo ps a) (.slice A7 L cap7) u8 u9 wr from ⟨by omega, hS⟩))
          obtain ⟨w6, rfl⟩ : ∃ x, x = wr := ⟨_, rfl⟩
          go_wp2_with fail
        rotate_left
        all_goals
          have hcell := (hB.cell (p := ad.add i) (by rw [block_add]; exact had)).trans HC.out
          have HB := hide hB
          have HOWN := hide hown
          have HH := hide hH
          have hw := hide (write_c g (flatTo ps i) p A cp w6.drew hH (HR.out.rd hB.drew hg) (by rw [hL.out]; omega) hc1 hc2 (HT.out.below hB.drew))
          clear hB hown hH
          go_region_with (go_at_call 25; refine hw.out.mono ?_; rintro e w5 ⟨rfl, hH5, hG5⟩; have hcell5 := ((HB.out.drew.trans (below_of_grown hG5 hg HB.out.drew.size)).cell (p := ad.add i) (by rw [block_add]; exact had)).trans HC.out)
        all_goals
          have hB5 : Below W.heap.size W w5 := HB.out.drew.trans (below_of_grown hG5 hg HB.out.drew.size)
          have hne5 : Value.ownBlock (.slice A7 L cap7) ≠ some g := fun e => by have := (HOWN.out.lt _ e).1; omega
          have hown5 := hide (HOWN.out.drew.kept hG5 (.inr hne5))
          have hG5' : w6.grownBy w5 (some g) := ⟨hG5.os, hG5.tape, hG5.output, hG5.size, hG5.block⟩
          have hS5 := side_grown hS hG5' (.inr (.inl rfl)) (.inl rfl)
          clear hG5'
          have hr5 := hide (HR.out.below hB5)
          have hb1 : Hid (L + p.length ≤ 1000000000000) := hide (by omega)
          have hbase : Hid (g + 1 ≤ w5.heap.size) := hide hH5.lt
          have HB5 := hide hB5
          have HNE5 := hide hne5
          have HH5 := hide hH5
          clear hB5 hne5 hH5 hG5 HOWN HH HB hS hcell hw
          go_wp2_with (at_builtin; refine wpList_append_bs rfl (.tmp 55) (.tmp 59) rfl (g + 1) _ L (u8s (flatTo ps i)) rfl hown5.out A p.length cp p rfl (hide rfl) hr5.out hb1.out hbase.out ?_)
          intro v' w7 hown7 hgrow hat
          rw [show u8s (flatTo ps i) ++ u8s p = u8s (flatTo ps (i + 1)) by rw [hf1.out]; simp [u8s]] at hown7
          obtain ⟨N, hN⟩ : ∃ N, Hid (L + p.length = N) := ⟨_, hide rfl⟩
          have hNl : N ≤ 8000 := by rw [← hN.out]; omega
          have hLN : Hid ((flatTo ps (i + 1)).length = N) := hide (by rw [hf1.out, List.length_append, hL.out, hN.out])
          rw [hN.out] at hown7
          obtain ⟨A', cap', rfl, -, hc', hc2', hr', -⟩ := own_rb hown7 hfb.out
          have hH7 : HashIs w7 g (flatTo ps (i + 1)) := by
            rw [hf1.out]
            exact HH5.out.grown hgrow (fun e => HNE5.out e.symm)
          have hS7 := side_grown hS5 hgrow (.inr (.inr rfl)) hat
          have hB7 : Below W.heap.size W w7 := HB5.out.grown hgrow HB5.out.size (fun k hk => by have := (hown5.out.lt k hk).1; omega)
          have HT7 := hide (HT.out.below hB7)
          have HB7 := hide hB7
          have HOWN7 := hide hown7
          have HR7' := hide hr'
          have hl7 : Hid ((flatTo ps (i + 1)).length < 1099511627000) := hide (by rw [hLN.out]; omega)
          clear hgrow hat hB7 hown7 hr' hcell5 hown5 hS5 hr5 hb1 hbase HB5 HNE5 HH5
          obtain ⟨D, hD⟩ : ∃ D, Hid ((u8s (Sha.digest (flatTo ps (i + 1)))).toArray = D) := ⟨_, hide rfl⟩
          go_wp2_with fail
          have hw := len_c g _ w7 hH7
          rw [hLN.out] at hw
          refine hw.mono ?_
          rintro e w8 ⟨rfl, rfl⟩
          clear hw
          go_wp2_with fail
          refine (sum_c g _ w8 hH7 hl7.out HT7.out).mono ?_
          rintro e w9 ⟨rfl, hB9⟩
          rw [hD.out]
          go_wp2_with fail
          have hp1 := parts_one (cap := cap') (HR7'.out.below hB9) (by rw [hLN.out]; exact hc') hc2'
          rw [hLN.out] at hp1
          have hBa : Below w8.heap.size w8 (w9.alloc (.cells #[.slice A' N cap'] 22)) := hB9.alloc hB9.size _
          have hw := of_c (some ⟨w9.heap.size, 0, none⟩) [flatTo ps (i + 1)] 1 _ hp1 (by simp) (by simpa using hl7.out) (HT7.out.below hBa)
          rw [show [flatTo ps (i + 1)].flatten = flatTo ps (i + 1) by simp, hD.out] at hw
          refine hw.mono ?_
          rintro e wa ⟨rfl, hB10⟩
          clear hw hp1
          have hBa2 := hBa.trans (hB10.mono hBa.size)
          clear hBa hB10 hB9
          go_wp2_with fail
          have hs := samesum_c (Sha.digest (flatTo ps (i + 1))) (Sha.digest_length _) (Sha.digest_bytes _) wa
          rw [hD.out] at hs
          refine hs.mono ?_
          rintro e wb ⟨rfl, hB11⟩
          clear hs
          have hBb := hBa2.trans (hB11.mono hBa2.size)
          clear hBa2 hB11
          go_wp2_with fail
          refine (sum_c g _ wb (hH7.below hBb) hl7.out (HT7.out.below hBb)).mono ?_
          rintro e wc ⟨rfl, hB12⟩
          rw [hD.out]
          have hBc := hBb.trans (hB12.mono hBb.size)
          clear hBb hB12
          go_wp2_with fail
          refine (sum_c g _ wc (hH7.below hBc) hl7.out (HT7.out.below hBc)).mono ?_
          rintro e wd ⟨rfl, hB13⟩
          rw [hD.out]
          have hBd := hBc.trans (hB13.mono hBc.size)
          clear hBc hB13
          go_wp2_with fail
          have hs := samesum_c (Sha.digest (flatTo ps (i + 1))) (Sha.digest_length _) (Sha.digest_bytes _) wd
          rw [hD.out] at hs
          refine hs.mono ?_
          rintro e we ⟨rfl, hB14⟩
          clear hs
          have hBe := hBd.trans (hB14.mono hBd.size)
          clear hBd hB14
          have hMe : Hid (Main W g (flatTo ps (i + 1)) (.slice A' N cap') we) := hide ⟨hH7.below hBe, HB7.out.trans (hBe.mono HB7.out.size), by rw [hLN.out]; exact own_below HOWN7.out hBe⟩
          have hSe := side_grown hS7 (grown_of_below hBe none) (.inl rfl) (.inl rfl)
          clear hBe
          go_wp2_with fail
          go_roundw
          case rel => exact ⟨i + 1, _, _, _, by omega, by go_num, rfl, rfl, rfl, hMe.out, by simpa using hSe.out⟩
          case measure => simp [intOf]; omega
        --}
      · obtain ⟨F, hF⟩ : ∃ F, Hid (flatTo ps i = F) := ⟨_, hide rfl⟩
        have hFb : Hid (Sha.Bytes F) := hide (by rw [← hF.out]; exact flat_bytes ps i (fun j q hq => by obtain ⟨_, _, _, _, _, _, _, _, hr⟩ := HP.out j q hq; exact hr.1))
        have hFl := flat_bound ps i HLONG.out (by omega)
        have hGl := flat_bound ps a HLONG.out (by omega)
        obtain ⟨G, hG⟩ : ∃ G, Hid (flatTo ps a = G) := ⟨_, hide rfl⟩
        rw [hF.out] at hM hFl
        rw [hG.out] at hS hGl
        obtain ⟨hH, hB, hown⟩ := hM
        obtain ⟨L, hL⟩ : ∃ L, Hid (F.length = L) := ⟨_, hide rfl⟩
        rw [hL.out] at hown hFl
        have hLl : L ≤ 4000 := by omega
        have hGl' : G.length ≤ 4000 := by omega
        obtain ⟨A7, cap7, rfl, -, hc7, hc72, -, -⟩ := own_rb hown hFb.out
        have HB := hide hB
        have HTr := hide (HT.out.below hB)
        obtain ⟨D0, hD0⟩ : ∃ D, Hid ((u8s (Sha.digest [])).toArray = D) := ⟨_, hide rfl⟩
        clear hown hFl hGl hB
        rcases hS with ⟨hia, rfl, rfl⟩ | ⟨hia, gc, A9, cap9, rfl, rfl, h9, h92, hgc, hK, hR9, h96, -⟩
        · obtain rfl : i = m := by omega
          go_wp2_with fail
          refine (reset_hash g F wr hH).mono ?_
          rintro e w5 ⟨rfl, hH5, hG5⟩
          have hB5 := HB.out.trans (below_of_grown hG5 hg HB.out.size)
          have HT5 := hide (HT.out.below hB5)
          go_wp2_with fail
          refine (len_c g _ w5 hH5).mono ?_
          rintro e w6 ⟨rfl, rfl⟩
          rw [List.length_nil]
          go_wp2_with fail
          refine (sum_c g [] w6 hH5 (by simp) HT5.out).mono ?_
          rintro e w7 ⟨rfl, hB7⟩
          rw [hD0.out]
          have hB7' := hB5.trans (hB7.mono hB5.size)
          go_wp2_with fail
          have hw := of_c none [] 0 w7 (by intro i p h; simp at h) (by simp) (by simp) (HT.out.below hB7')
          rw [show ([] : List (List Nat)).flatten = [] from rfl, hD0.out] at hw
          refine hw.mono ?_
          rintro e w8 ⟨rfl, hB8⟩
          clear hw
          have hB8' := hB7'.trans (hB8.mono hB7'.size)
          go_wp2_with fail
          have hs := samesum_c (Sha.digest []) (Sha.digest_length _) (Sha.digest_bytes _) w8
          rw [hD0.out] at hs
          refine hs.mono ?_
          rintro e w9 ⟨rfl, hB9⟩
          clear hs
          have hB9' := hB8'.trans (hB9.mono hB8'.size)
          go_wp2_with fail
          go_ret
          exact ⟨rfl, hB9'⟩
        · obtain rfl : i = m := by omega
          have hcv := other_cv
          have HH := hide hH
          have HK := hide hK
          have HR9 := hide hR9
          have H96 := hide h96
          have hKl := hK.lt
          have hHl := hH.lt
          clear hH hR9 h96
          go_wp2_with fail
          have hKw : HashIs (wr.alloc (.cells #[.int .u8 111, .int .u8 116, .int .u8 104, .int .u8 101, .int .u8 114] 5 (5, 6))) gc G := hK.grown (grown_alloc (World.grownBy.refl wr none) _) (by simp)
          have hBw := HB.out.alloc (B := W.heap.size) HB.out.size (.cells #[.int .u8 111, .int .u8 116, .int .u8 104, .int .u8 101, .int .u8 114] 5 (5, 6))
          have hrd : Rd (wr.alloc (.cells #[.int .u8 111, .int .u8 116, .int .u8 104, .int .u8 101, .int .u8 114] 5 (5, 6))) gc (some ⟨wr.heap.size, 0, none⟩) other := by
            obtain ⟨h1, h2⟩ := other_rb wr
            refine ⟨h1, fun hn => ?_⟩
            obtain ⟨ad2, e, k1, k2⟩ := h2 hn
            cases e
            exact ⟨_, rfl, by simp; omega, k1, k2⟩
          have hw := write_c gc G other (some ⟨wr.heap.size, 0, none⟩) 5 _ hKw hrd (by rw [other_length]; omega) (by rw [other_length]; omega) (by decide) (HT.out.below hBw)
          rw [other_length] at hw
          refine hw.mono ?_
          rintro e w5 ⟨rfl, hK5, hG5⟩
          clear hw hrd hKw
          have hG5' : wr.grownBy w5 (some gc) := grown_trans (grown_alloc (World.grownBy.refl wr _) _) hG5
          have hB5 := HB.out.trans (below_of_grown hG5' (by omega) HB.out.size)
          have hH5 := HH.out.grown hG5' (by simp; omega)
          have hR5 := HR9.out.grown hG5' (fun ad2 e => by have := (H96.out ad2 e).1; simp; omega)
          clear hG5 hG5' hK hKl hHl hBw
          have HT5 := hide (HT.out.below hB5)
          have HR5 := hide hR5
          have HH5 := hide hH5
          clear hR5 hH5
          obtain ⟨D, hD⟩ : ∃ D, Hid ((u8s (Sha.digest (G ++ other))).toArray = D) := ⟨_, hide rfl⟩
          have hGo : Hid ((G ++ other).length < 1099511627000) := hide (by rw [List.length_append, other_length]; omega)
          go_wp2_with fail
          refine (sum_c gc _ w5 hK5 hGo.out HT5.out).mono ?_
          rintro e w6 ⟨rfl, hB6⟩
          rw [hD.out]
          have hB6' := hB5.trans (hB6.mono hB5.size)
          have hBx : Below w5.heap.size w5 (w6.alloc (.cells #[.int .u8 111, .int .u8 116, .int .u8 104, .int .u8 101, .int .u8 114] 5 (5, 6))) := hB6.alloc hB6.size _
          have hp2 := parts_two (A := A9) (cap := cap9) (cap2 := 5) (HR5.out.below hBx) h9 h92 (other_rb w6) (by decide) (by decide)
          have hBW : Below W.heap.size W ((w6.alloc (.cells #[.int .u8 111, .int .u8 116, .int .u8 104, .int .u8 101, .int .u8 114] 5 (5, 6))).alloc (.cells #[.slice A9 G.length cap9, .slice (some ⟨w6.heap.size, 0, none⟩) other.length 5] 22)) :=
            (hB6'.alloc hB6'.size _).alloc (by have := hB6'.size; simp; omega) _
          have hBy := hBx.alloc hBx.size (.cells #[.slice A9 G.length cap9, .slice (some ⟨w6.heap.size, 0, none⟩) other.length 5] 22)
          have hw := of_c _ [G, other] 2 _ hp2 (by simp) (by simpa using hGo.out) (HT.out.below hBW)
          rw [show [G, other].flatten = G ++ other by simp, hD.out, other_length, World.size_alloc] at hw
          have HW := hide hw
          have HBW := hide hBW
          have HBY := hide hBy
          clear hBx hp2 hBW hw hBy
          go_wp2_with fail
          refine HW.out.mono ?_
          rintro e w8 ⟨rfl, hB8⟩
          have hB8' := HBW.out.trans (hB8.mono HBW.out.size)
          have hH8 := HH5.out.below (HBY.out.trans (hB8.mono HBY.out.size))
          clear hB8 HW HBW HBY
          go_wp2_with fail
          have hs := samesum_c (Sha.digest (G ++ other)) (Sha.digest_length _) (Sha.digest_bytes _) w8
          rw [hD.out] at hs
          refine hs.mono ?_
          rintro e w9 ⟨rfl, hB9⟩
          clear hs
          have hB9' := hB8'.trans (hB9.mono hB8'.size)
          have hH9 := hH8.below hB9
          clear hB8' hB9 hH8
          go_wp2_with fail
          have hw := len_c g F w9 hH9
          rw [hL.out] at hw
          refine hw.mono ?_
          rintro e wr ⟨rfl, rfl⟩
          clear hw
          have HB := hide hB9'
          go_wp2_with fail
          refine (reset_hash g F wr hH9).mono ?_
          rintro e w5 ⟨rfl, hH5, hG5⟩
          have hB5 := HB.out.trans (below_of_grown hG5 hg HB.out.size)
          have HT5 := hide (HT.out.below hB5)
          go_wp2_with fail
          refine (len_c g _ w5 hH5).mono ?_
          rintro e w6 ⟨rfl, rfl⟩
          rw [List.length_nil]
          go_wp2_with fail
          refine (sum_c g [] w6 hH5 (by simp) HT5.out).mono ?_
          rintro e w7 ⟨rfl, hB7⟩
          rw [hD0.out]
          have hB7' := hB5.trans (hB7.mono hB5.size)
          go_wp2_with fail
          have hw := of_c none [] 0 w7 (by intro i p h; simp at h) (by simp) (by simp) (HT.out.below hB7')
          rw [show ([] : List (List Nat)).flatten = [] from rfl, hD0.out] at hw
          refine hw.mono ?_
          rintro e w8 ⟨rfl, hB8⟩
          clear hw
          have hB8' := hB7'.trans (hB8.mono hB7'.size)
          go_wp2_with fail
          have hs := samesum_c (Sha.digest []) (Sha.digest_length _) (Sha.digest_bytes _) w8
          rw [hD0.out] at hs
          refine hs.mono ?_
          rintro e w9 ⟨rfl, hB9⟩
          clear hs
          have hB9' := hB8'.trans (hB9.mono hB8'.size)
          go_wp2_with fail
          go_ret
          exact ⟨rfl, hB9'⟩
end Go.Proofs.YtijgomgiinlcoaaDoor
