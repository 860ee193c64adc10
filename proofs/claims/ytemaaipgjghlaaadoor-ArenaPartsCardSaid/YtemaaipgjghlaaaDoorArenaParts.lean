/-
  The law ArenaParts, walked. By an AI agent. No person has read it.
-/
import Derived.Test.YtemaaipgjghlaaaDoorAreFc
import Derived.Test.YtemaaipgjghlaaaDoorAreGp
import Derived.Test.YtemaaipgjghlaaaDoorBasN
import Derived.Test.YtemaaipgjghlaaaDoorErrD
namespace Go.Proofs.YtemaaipgjghlaaaDoor
open Go.RowKit

/-- Parts of such sizes, one behind the other. -/
def Pp.ps : Nat → Nat → List Nat → List Pt
  | _, _, [] => []
  | i, off, n :: l => ⟨(i : Int), off, n, []⟩ :: Pp.ps (i + 1) (off + n) l
theorem Pp.len : ∀ (l : List Nat) (i off : Nat), (Pp.ps i off l).length = l.length
  | [], _, _ => rfl
  | n :: l, i, off => by rw [Pp.ps, List.length_cons, Pp.len l, List.length_cons]
theorem Pp.snoc : ∀ (l : List Nat) (i off n : Nat), Pp.ps i off (l ++ [n]) = Pp.ps i off l ++ [⟨((i + l.length : Nat) : Int), off + l.sum, n, []⟩]
  | [], i, off, n => by simp [Pp.ps]
  | m :: l, i, off, n => by
    rw [List.cons_append, Pp.ps, Pp.snoc l, Pp.ps, List.cons_append, List.length_cons, List.sum_cons, show i + 1 + l.length = i + (l.length + 1) by omega, show off + m + l.sum = off + (m + l.sum) by omega]
theorem Pp.gap (n : Int) (room : Nat) (hn : 1 ≤ n) : ∀ (l : List Nat) (i s j : Nat), Ar.gap n room s j ((Pp.ps i s l).map Pt.pr) = (s + l.sum, j + l.length, decide (n ≤ (room : Int) - ((s + l.sum : Nat) : Int)))
  | [], i, s, j => by rw [Pp.ps, List.map_nil, Ar.gap, List.sum_nil, List.length_nil, Nat.add_zero, Nat.add_zero]
  | m :: l, i, s, j => by
    rw [Pp.ps, List.map_cons, Ar.gap, if_neg (by show ¬ n ≤ (s : Int) - (s : Int); omega)]
    show Ar.gap n room (s + m) (j + 1) _ = _
    rw [Pp.gap n room hn l (i + 1) (s + m) (j + 1), List.sum_cons, List.length_cons, show s + m + l.sum = s + (m + l.sum) by omega, show j + 1 + l.length = j + (l.length + 1) by omega]
theorem Pp.find_no (id : Int) : ∀ (l : List Nat) (i off j : Nat), (id < (i : Int) ∨ ((i + l.length : Nat) : Int) ≤ id) → Pt.find id j (Pp.ps i off l) = -1
  | [], _, _, _, _ => rfl
  | n :: l, i, off, j, h => by
    rw [List.length_cons] at h
    rw [Pp.ps, Pt.find, if_neg (by show ¬ (i : Int) = id; omega), Pp.find_no id l (i + 1) (off + n) (j + 1) (by omega)]
theorem Pp.find_at : ∀ (l : List Nat) (i off j k : Nat), k < l.length → Pt.find ((i + k : Nat) : Int) j (Pp.ps i off l) = ((j + k : Nat) : Int)
  | [], _, _, _, _, h => by simp at h
  | n :: l, i, off, j, 0, h => by
    rw [Pp.ps, Pt.find, if_pos (by show (i : Int) = _; simp)]
    simp
  | n :: l, i, off, j, k + 1, h => by
    rw [List.length_cons] at h
    rw [Pp.ps, Pt.find, if_neg (by show ¬ (i : Int) = _; omega), show i + (k + 1) = (i + 1) + k by omega, Pp.find_at l (i + 1) (off + n) (j + 1) k (by omega), show j + 1 + k = j + (k + 1) by omega]
theorem Pp.at_ : ∀ (l : List Nat) (i off k n : Nat), l[k]? = some n → (Pp.ps i off l)[k]? = some ⟨((i + k : Nat) : Int), off + (l.take k).sum, n, []⟩
  | [], _, _, _, _, h => by simp at h
  | m :: l, i, off, 0, n, h => by
    simp at h
    subst h
    simp [Pp.ps]
  | m :: l, i, off, k + 1, n, h => by
    rw [Pp.ps, List.getElem?_cons_succ, Pp.at_ l (i + 1) (off + m) k n (by simpa using h), List.take_succ_cons, List.sum_cons, show i + 1 + k = i + (k + 1) by omega, show off + m + (l.take k).sum = off + (m + (l.take k).sum) by omega]
theorem find_app (id : Int) : ∀ (a b : List Pt) (j : Nat), Pt.find id j a = -1 → Pt.find id j (a ++ b) = Pt.find id (j + a.length) b
  | [], b, j, _ => by simp
  | x :: a, b, j, h => by
    rw [Pt.find] at h
    split at h
    · omega
    · next hx => rw [List.cons_append, Pt.find, if_neg hx, find_app id a b (j + 1) h, List.length_cons, show j + 1 + a.length = j + (a.length + 1) by omega]
theorem find_take (id : Int) : ∀ (a : List Pt) (j k : Nat), Pt.find id j a = -1 → Pt.find id j (a.take k) = -1 ∧ ∀ j', Pt.find id j' (a.drop k) = -1
  | [], j, k, _ => by simp [Pt.find]
  | x :: a, j, 0, h => by
    have all : ∀ (a : List Pt) (j : Nat), Pt.find id j a = -1 → ∀ j', Pt.find id j' a = -1 := by
      intro a
      induction a with
      | nil => intro _ _ _; rfl
      | cons y a ih =>
        intro j h j'
        rw [Pt.find] at h ⊢
        split at h
        · omega
        · next hx => rw [if_neg hx]; exact ih _ h _
    exact ⟨rfl, all _ j h⟩
  | x :: a, j, k + 1, h => by
    rw [Pt.find] at h
    split at h
    · omega
    · next hx =>
      obtain ⟨h1, h2⟩ := find_take id a (j + 1) k h
      exact ⟨by rw [List.take_succ_cons, Pt.find, if_neg hx]; exact h1, h2⟩
/-- With the k-th one gone the gap is its place. -/
theorem Pp.again (n room : Nat) (hn : 1 ≤ n) : ∀ (l : List Nat) (i s j k : Nat), l[k]? = some n → s + l.sum ≤ room → Ar.gap (n : Int) room s j (((Pp.ps i s l).take k ++ (Pp.ps i s l).drop (k + 1)).map Pt.pr) = (s + (l.take k).sum, j + k, true)
  | [], _, _, _, _, h, _ => by simp at h
  | m :: l, i, s, j, 0, h, hs => by
    simp at h
    subst h
    rw [List.sum_cons] at hs
    rw [Pp.ps, List.take_zero, List.nil_append, List.drop_succ_cons, List.drop_zero, List.take_zero]
    cases l with
    | nil =>
      simp only [Pp.ps, List.map_nil, Ar.gap, List.sum_nil, Nat.add_zero, Prod.mk.injEq, true_and, decide_eq_true_eq]
      omega
    | cons q l =>
      rw [Pp.ps, List.map_cons, Ar.gap, if_pos (by show (m : Int) ≤ ((s + m : Nat) : Int) - (s : Int); omega)]
      simp
  | m :: l, i, s, j, k + 1, h, hs => by
    rw [List.sum_cons] at hs
    rw [Pp.ps, List.take_succ_cons, List.cons_append, List.drop_succ_cons, List.map_cons, Ar.gap, if_neg (by show ¬ (n : Int) ≤ (s : Int) - (s : Int); omega)]
    show Ar.gap (n : Int) room (s + m) (j + 1) _ = _
    rw [Pp.again n room hn l (i + 1) (s + m) (j + 1) k (by simpa using h) (by omega), List.take_succ_cons, List.sum_cons, show s + m + (l.take k).sum = s + (m + (l.take k).sum) by omega, show j + 1 + k = j + (k + 1) by omega]
/-- The sizes that the law makes of numbers. -/
def Pp.ns (zs : List Int) : List Nat := zs.map fun z => numv z 50 + 1
theorem Pp.ns_sum : ∀ (zs : List Int), (Pp.ns zs).sum ≤ 50 * zs.length
  | [] => by simp [Pp.ns]
  | z :: zs => by
    have h := Pp.ns_sum zs
    have h2 := numv_lt z 50 (by decide)
    unfold Pp.ns at h ⊢
    rw [List.map_cons, List.sum_cons, List.length_cons]
    omega

theorem Pp.ns_len (zs : List Int) : (Pp.ns zs).length = zs.length := by
  unfold Pp.ns
  rw [List.length_map]
theorem Pp.ns_next (zs : List Int) (i : Nat) (z : Int) (hz : zs[i]? = some z) : Pp.ns (zs.take (i + 1)) = Pp.ns (zs.take i) ++ [numv z 50 + 1] := by
  unfold Pp.ns
  rw [List.take_add_one, hz, Option.toList_some, List.map_append, List.map_cons, List.map_nil]
theorem parts_next (B a i q : Nat) (mem : List Nat) (T : Nat → Prop) (zs : List Int) (z : Int) (wr : World) (hz : zs[i]? = some z) (hi : i < 12) (hQ : (Pp.ns (zs.take i)).sum = q) (HI : Ar.Is B wr a mem (Pp.ps 0 0 (Pp.ns (zs.take i))) T) (hml : mem.length = 700) :
    Calls Tryd.prog 9 #[.pointer (some ⟨a, 0, none⟩), .int .i64 (i : Nat), .int .i64 ((numv z 50 + 1 : Nat) : Int)] wr fun e w' => e = .returned (.tuple #[.agg #[.int .i64 (i : Nat), .int .i64 (q : Nat), .int .i64 ((numv z 50 + 1 : Nat) : Int)], .nilIface]) ∧ Ar.Is B w' a mem (Pp.ps 0 0 (Pp.ns (zs.take (i + 1)))) T ∧ Ar.To B T wr w' := by
  have hzl := (List.getElem?_eq_some_iff.1 hz).1
  have hlen : (Pp.ns (zs.take i)).length = i := by rw [Pp.ns_len, List.length_take]; omega
  have hs := Pp.ns_sum (zs.take i)
  rw [hQ, List.length_take] at hs
  have hnv := numv_lt z 50 (by decide)
  have hg := Pp.gap ((numv z 50 + 1 : Nat) : Int) mem.length (by omega) (Pp.ns (zs.take i)) 0 0 0
  rw [hQ, hlen, Nat.zero_add, Nat.zero_add, decide_eq_true (by rw [hml]; omega)] at hg
  have h := fadd_ok (i : Int) (numv z 50 + 1) q i HI (by rw [Pp.len, hlen]; omega) (by omega) (Pp.find_no _ _ 0 0 0 (.inr (by rw [hlen]; omega))) hg
  have hps : (Pp.ps 0 0 (Pp.ns (zs.take i))).take i ++ ⟨(i : Int), q, numv z 50 + 1, []⟩ :: (Pp.ps 0 0 (Pp.ns (zs.take i))).drop i = Pp.ps 0 0 (Pp.ns (zs.take (i + 1))) := by
    rw [Pp.ns_next zs i z hz, Pp.snoc, hQ, hlen, Nat.zero_add, Nat.zero_add, List.take_of_length_le (by rw [Pp.len, hlen]; exact Nat.le_refl _), List.drop_eq_nil_of_le (by rw [Pp.len, hlen]; exact Nat.le_refl _)]
  rw [hps] at h
  exact h

/-- What the law asks of the parts once all stand. -/
theorem Pp.facts (zs : List Int) (k : Nat) (zk : Int) (hz : zs[k]? = some zk) (hl : zs.length ≤ 12) (PS : List Pt) (hPS : PS = Pp.ps 0 0 (Pp.ns zs)) (n offk q : Nat) (hn : n = numv zk 50 + 1) (ho : offk = ((Pp.ns zs).take k).sum) (hq : q = (Pp.ns zs).sum) :
    PS[k]? = some ⟨(k : Int), offk, n, []⟩ ∧ Pt.find (k : Int) 0 PS = (k : Int) ∧ Ar.gap (n : Int) 700 0 0 ((PS.take k ++ PS.drop (k + 1)).map Pt.pr) = (offk, k, true) ∧ Pt.find 100 0 (PS.take k ++ PS.drop (k + 1)) = -1 ∧
      ((PS.take k ++ PS.drop (k + 1)).take k ++ (⟨100, offk, n, []⟩ : Pt) :: (PS.take k ++ PS.drop (k + 1)).drop k) = PS.take k ++ (⟨100, offk, n, []⟩ : Pt) :: PS.drop (k + 1) ∧
      0 ≤ Pt.find 100 0 (PS.take k ++ (⟨100, offk, n, []⟩ : Pt) :: PS.drop (k + 1)) ∧ Pt.find 200 0 (PS.take k ++ (⟨100, offk, n, []⟩ : Pt) :: PS.drop (k + 1)) = -1 ∧
      (∀ m : Nat, 1 ≤ m → Ar.gap (m : Int) 700 0 0 ((PS.take k ++ (⟨100, offk, n, []⟩ : Pt) :: PS.drop (k + 1)).map Pt.pr) = (q, zs.length, decide ((m : Int) ≤ 700 - (q : Int)))) ∧
      1 ≤ n ∧ n ≤ 50 ∧ q ≤ 600 ∧ PS.length = zs.length := by
  have hkl := (List.getElem?_eq_some_iff.1 hz).1
  have hns : (Pp.ns zs)[k]? = some n := by
    rw [hn]
    unfold Pp.ns
    rw [List.getElem?_map, hz]
    rfl
  have hlen : PS.length = zs.length := by rw [hPS, Pp.len, Pp.ns_len]
  have hs := Pp.ns_sum zs
  have hnv := numv_lt zk 50 (by decide)
  have hat := Pp.at_ (Pp.ns zs) 0 0 k n hns
  rw [Nat.zero_add, Nat.zero_add, ← ho, ← hPS] at hat
  have hf := Pp.find_at (Pp.ns zs) 0 0 0 k (by rw [Pp.ns_len]; exact hkl)
  rw [Nat.zero_add, ← hPS] at hf
  have hag := Pp.again n 700 (by omega) (Pp.ns zs) 0 0 0 k hns (by omega)
  rw [Nat.zero_add, Nat.zero_add, ← ho, ← hPS] at hag
  have hno : ∀ id : Int, 100 ≤ id → Pt.find id 0 PS = -1 := fun id h => by
    rw [hPS]
    exact Pp.find_no id _ 0 0 0 (.inr (by rw [Pp.ns_len]; omega))
  have htk : (PS.take k).length = k := by rw [List.length_take, hlen]; omega
  have hr : ∀ id : Int, 100 ≤ id → Pt.find id 0 (PS.take k) = -1 ∧ ∀ j, Pt.find id j (PS.drop (k + 1)) = -1 := fun id h => ⟨(find_take id PS 0 k (hno id h)).1, (find_take id PS 0 (k + 1) (hno id h)).2⟩
  have hpr : (PS.take k ++ (⟨100, offk, n, []⟩ : Pt) :: PS.drop (k + 1)).map Pt.pr = PS.map Pt.pr := by
    have e : PS = PS.take k ++ ⟨(k : Int), offk, n, []⟩ :: PS.drop (k + 1) := by
      obtain ⟨h1, h2⟩ := List.getElem?_eq_some_iff.1 hat
      rw [← h2, ← List.drop_eq_getElem_cons h1, List.take_append_drop]
    conv => rhs; rw [e]
    rw [List.map_append, List.map_append, List.map_cons, List.map_cons]
    rfl
  refine ⟨hat, hf, hag, ?_, ?_, ?_, ?_, fun m hm => ?_, by omega, by omega, by omega, hlen⟩
  · rw [find_app 100 _ _ 0 (hr 100 (by decide)).1, (hr 100 (by decide)).2]
  · rw [List.take_left' htk, List.drop_left' htk]
  · rw [find_app 100 _ _ 0 (hr 100 (by decide)).1, Pt.find, if_pos rfl]
    omega
  · rw [find_app 200 _ _ 0 (hr 200 (by decide)).1, Pt.find, if_neg (by show ¬ (100 : Int) = 200; decide), (hr 200 (by decide)).2]
  · have h := Pp.gap (m : Int) 700 (by omega) (Pp.ns zs) 0 0 0
    rw [Nat.zero_add, Nat.zero_add, ← hq, Pp.ns_len, ← hPS] at h
    rw [hpr]
    exact h

set_option maxRecDepth 100000 in
set_option maxHeartbeats 4000000 in
theorem parts_out (zs : List Int) (A : Option Addr) (cap : Nat) (n1 : Int) (w : World) (hl : 12 < zs.length ∨ zs.length = 0) :
    Calls Tryd.prog 6 #[.slice A zs.length cap, .int .i64 n1] w fun e w' => e = .returned (.bool true) ∧ Below w.heap.size w w' := by
  obtain ⟨L, hL⟩ : ∃ L, Hid (zs.length = L) := ⟨_, hide rfl⟩
  rw [hL.out] at hl ⊢
  rcases hl with hl | rfl
  · have hli : (12 : Int) < (L : Int) := by omega
    go_enter Tryd.func6, Tryd.ntmps6
    go_wp2_with fail
    refine (first13_c w).mono ?_
    rintro e w1 ⟨rfl, hb⟩
    have HB1 := hide hb
    clear hb
    go_wp2_with fail
    go_ret
    exact ⟨rfl, HB1.out⟩
  · go_enter Tryd.func6, Tryd.ntmps6
    go_wp2_with fail
    refine (first13_c w).mono ?_
    rintro e w1 ⟨rfl, hb⟩
    have HB1 := hide hb
    clear hb
    go_wp2_with fail
    go_ret
    exact ⟨rfl, HB1.out⟩

set_option maxRecDepth 100000 in
set_option maxHeartbeats 8000000 in
theorem parts_in (zs : List Int) (A : Option Addr) (cap : Nat) (n1 : Int) (es : List Addr) (w : World) (hR : Ri w A zs) (hE : Ez w es) (h0 : 1 ≤ zs.length) (h12 : zs.length ≤ 12) :
    Calls Tryd.prog 6 #[.slice A zs.length cap, .int .i64 n1] w fun e w' => e = .returned (.bool true) ∧ Below w.heap.size w w' := by
  have HR := hide hR
  have HE := hide hE
  obtain ⟨ar, har⟩ : ∃ ar, es[1]? = some ar := ⟨_, List.getElem?_eq_getElem (by rw [hE.1]; decide)⟩
  obtain ⟨ao, hao⟩ : ∃ ao, es[5]? = some ao := ⟨_, List.getElem?_eq_getElem (by rw [hE.1]; decide)⟩
  have HAR := hide har
  have HAO := hide hao
  obtain ⟨L, hL⟩ : ∃ L, Hid (zs.length = L) := ⟨_, hide rfl⟩
  rw [hL.out] at h0 h12 ⊢
  have hl1 : ¬ ((12 : Int) < (L : Int)) := by omega
  have hl2 : ¬ ((L : Int) = 0) := by omega
  have hl3 : ((L : Int) == 0) = false := by simpa using hl2
  have hl4 : decide ((12 : Int) < (L : Int)) = false := decide_eq_false hl1
  clear hE har hao hR
  go_enter Tryd.func6, Tryd.ntmps6
  go_wp2_with fail
  refine (first13_c w).mono ?_
  rintro e w1 ⟨rfl, hb⟩
  have HB1 := hide hb
  clear hb
  have VN := hide (fnew 700 (by decide) (by decide) w1)
  go_wp2_with fail
  refine VN.out.mono ?_
  rintro e w4 ⟨a, rfl, hI, hb⟩
  obtain ⟨mem, hmem⟩ : ∃ mem, Hid (List.replicate 700 0 = mem) := ⟨_, hide rfl⟩
  obtain ⟨B, hB⟩ : ∃ B, Hid (w1.heap.size = B) := ⟨_, hide rfl⟩
  have hBw : w.heap.size ≤ B := by rw [← hB.out]; exact HB1.out.size
  have hml : Hid (mem.length = 700) := hide (by rw [← hmem.out, List.length_replicate])
  have HI4 : Hid (Ar.Is B w4 a mem (Pp.ps 0 0 (Pp.ns (zs.take 0))) fun _ => False) := hide (by rw [hB.out, hmem.out] at hI; exact hI)
  have HB4 := hide (HB1.out.trans (hb.mono HB1.out.size))
  clear hI hb HB1 VN
  go_wp2_with fail
  go_loopw [9, 8] (fun v o wr => ∃ (i q : Nat), i ≤ L ∧ q ≤ 50 * i ∧ v = .int .i64 i ∧ o = .int .i64 q ∧ Hid ((Pp.ns (zs.take i)).sum = q) ∧ Hid (Ar.Is B wr a mem (Pp.ps 0 0 (Pp.ns (zs.take i))) fun _ => False) ∧ Hid (Below w.heap.size w wr)) (fun v _ _ => L - (intOf v).toNat)
  case atStart => exact ⟨0, 0, by omega, by omega, rfl, rfl, hide rfl, HI4, HB4⟩
  case round =>
    obtain ⟨i, q, hi, hq, rfl, rfl, HQ, HI, HB⟩ := hrel
    by_cases hlt : i < L
    · obtain ⟨ad, z, hA, hz, hcell⟩ := ri_at (HR.out.below HB.out) i (by rw [hL.out]; exact hlt)
      subst hA
      have hli : (i : Int) < (L : Int) := by omega
      have VA := hide (parts_next B a i q mem (fun _ => False) zs z wr hz.out (by omega) HQ.out HI.out hml.out)
      have hnx := Pp.ns_next zs i z hz.out
      have hnv := numv_lt z 50 (by decide)
      obtain ⟨c, hc⟩ : ∃ c, Hid (numv z 50 = c) := ⟨_, hide rfl⟩
      obtain ⟨n, hn⟩ : ∃ n, Hid (c + 1 = n) := ⟨_, hide rfl⟩
      have VZ := hide (number_v z 50 (by decide) (by decide) 50 rfl wr)
      rw [hc.out] at VZ VA hnv hnx
      rw [hn.out] at VA hnx
      have hnb : 1 ≤ n ∧ n ≤ 50 := by
        have := hn.out
        omega
      have HQ1 : Hid ((Pp.ns (zs.take (i + 1))).sum = q + n) := hide (by
        rw [hnx, List.sum_append, HQ.out]
        simp)
      have fn : IntKind.i64.wrap ((c : Int) + 1) = (n : Int) := by rw [IntKind.wrap_i64]; have := hn.out; omega
      clear hnx hnv hz HQ HI
      go_wp2_with fail
      refine VZ.out.mono ?_
      rintro e w5 ⟨rfl, rfl⟩
      go_wp2_with fail
      refine VA.out.mono ?_
      rintro e w6 ⟨rfl, hI, hT⟩
      have HB6 := hide (HB.out.trans (hT.below.mono hBw))
      have HB7 := hide (HB6.out.alloc HB6.out.size (.cells #[.int .i64 (i : Nat), .int .i64 (q : Nat), .int .i64 (n : Nat)] 30))
      have HI7 := hide (hI.below ((Below.refl w6.heap.size w6).alloc (Nat.le_refl _) (.cells #[.int .i64 (i : Nat), .int .i64 (q : Nat), .int .i64 (n : Nat)] 30))).1
      have fq : IntKind.i64.wrap ((q : Int) + (n : Int)) = ((q + n : Nat) : Int) := by rw [IntKind.wrap_i64]; omega
      obtain ⟨q', hq'⟩ : ∃ q', Hid (q + n = q') := ⟨_, hide rfl⟩
      have hq1 : q' ≤ 50 * (i + 1) := by have := hq'.out; omega
      rw [hq'.out] at fq HQ1
      clear hI hT VA VZ HB HB6 fn
      go_wp2_with fail
      go_roundw
      case rel => exact ⟨i + 1, q', by omega, hq1, by go_num, rfl, HQ1, HI7, HB7⟩
      case measure => simp [intOf]; omega
    · obtain rfl : i = L := by omega
      have htk : zs.take i = zs := List.take_of_length_le (by rw [hL.out]; exact Nat.le_refl _)
      rw [htk] at HI HQ
      have hkL := numv_lt n1 i (by omega)
      have VZ := hide (number_v n1 i (by omega) (by omega) i rfl wr)
      obtain ⟨k, hk⟩ : ∃ k, Hid (numv n1 i = k) := ⟨_, hide rfl⟩
      rw [hk.out] at VZ hkL
      clear htk hlt hi hk
      go_wp2_with fail
      refine VZ.out.mono ?_
      rintro e w5 ⟨rfl, rfl⟩
      obtain ⟨ad, zk, hA, hz, hcell⟩ := ri_at (HR.out.below HB.out) k (by rw [hL.out]; exact hkL)
      subst hA
      have hki : (k : Int) < (i : Int) := by omega
      have VY := hide (number_v zk 50 (by decide) (by decide) 50 rfl w5)
      have hnv := numv_lt zk 50 (by decide)
      obtain ⟨c, hc⟩ : ∃ c, Hid (numv zk 50 = c) := ⟨_, hide rfl⟩
      obtain ⟨n, hn⟩ : ∃ n, Hid (c + 1 = n) := ⟨_, hide rfl⟩
      obtain ⟨o, ho⟩ : ∃ o, Hid (o = ((Pp.ns zs).take k).sum) := ⟨_, hide rfl⟩
      obtain ⟨PS, hPS⟩ : ∃ PS, Hid (PS = Pp.ps 0 0 (Pp.ns zs)) := ⟨_, hide rfl⟩
      obtain ⟨p1, p2, p3, p4, p5, p6, p7, p8, p9, p10, p11, p12⟩ := Pp.facts zs k zk hz.out (by rw [hL.out]; omega) PS hPS.out n o q (by rw [hc.out, hn.out]) ho.out HQ.out.symm
      rw [hL.out] at p8 p12
      have P1 := hide p1
      have P2 := hide p2
      have P3 := hide p3
      have P4 := hide p4
      have P5 := hide p5
      have P6 := hide p6
      have P7 := hide p7
      have P8 := hide p8
      have P12 := hide p12
      rw [hc.out] at VY hnv
      have fn : IntKind.i64.wrap ((c : Int) + 1) = (n : Int) := by rw [IntKind.wrap_i64]; have := hn.out; omega
      rw [← hPS.out] at HI
      have VPa := hide (fparts HI.out)
      rw [P12.out] at VPa
      clear p1 p2 p3 p4 p5 p6 p7 p8 p12 hz VZ hnv
      go_wp2_with fail
      refine VY.out.mono ?_
      rintro e w6 ⟨rfl, rfl⟩
      go_wp2_with fail
      refine VPa.out.mono ?_
      rintro e w7 ⟨⟨g, rfl, hg1, hg2⟩, hb⟩
      have HB7 := hide (HB.out.trans (hb.mono HB.out.size))
      have hI7 := (HI.out.below hb).1
      have hpc : ∀ (j : Nat) (x : Value), j < 3 → (Pt.p3 ⟨(k : Int), o, n, []⟩)[j]? = some x → w7.cell? ⟨g, k * 3 + j, none⟩ = some x := fun j x hj hx => by
        rw [hg2.cell, flat_at Pt.p3 3 PS (fun _ _ => rfl) k _ P1.out j hj]
        exact hx
      have k0 : w7.cell? ⟨g, k * 3, none⟩ = some (.int .i64 (k : Nat)) := hpc 0 _ (by decide) rfl
      have k1 : w7.cell? ⟨g, k * 3 + 1, none⟩ = some (.int .i64 (o : Nat)) := hpc 1 _ (by decide) rfl
      have k2 : w7.cell? ⟨g, k * 3 + 2, none⟩ = some (.int .i64 (n : Nat)) := hpc 2 _ (by decide) rfl
      have HB8 := hide (HB7.out.alloc HB7.out.size (.cells #[.int .i64 (k : Nat), .int .i64 (o : Nat), .int .i64 (n : Nat)] 30))
      have HX8 := hide (Has.new w7 30 [.int .i64 (k : Nat), .int .i64 (o : Nat), .int .i64 (n : Nat)])
      have hT8 := hI7.more (S := []) (Off.of_below ((Below.refl w7.heap.size w7).alloc (Nat.le_refl _) (.cells #[.int .i64 (k : Nat), .int .i64 (o : Nat), .int .i64 (n : Nat)] 30))) (fun k hk => by cases hk)
      obtain ⟨T, hT⟩ : ∃ T : Nat → Prop, Hid (T = fun b => False ∨ (w7.heap.size ≤ b ∧ b < (w7.alloc (.cells #[.int .i64 (k : Nat), .int .i64 (o : Nat), .int .i64 (n : Nat)] 30)).heap.size)) := ⟨_, hide rfl⟩
      have HT8 : Hid (T w7.heap.size) := hide (by rw [hT.out]; exact .inr ⟨Nat.le_refl _, by simp⟩)
      have HI8 : Hid (Ar.Is B (w7.alloc (.cells #[.int .i64 (k : Nat), .int .i64 (o : Nat), .int .i64 (n : Nat)] 30)) a mem PS T) := hide (by rw [hT.out]; exact hT8)
      have hfit : o + n ≤ mem.length := by
        obtain ⟨_, _, _, _, _, _, hW⟩ := HI8.out
        exact (hW.part (List.mem_of_getElem? P1.out)).1
      have hml2 : Hid ((Ar.wipe mem o n).length = 700) := hide (by rw [Ar.wipe_len mem o n hfit, hml.out])
      have VR := hide (fremove (k : Int) k ⟨(k : Int), o, n, []⟩ HI8.out P1.out P2.out)
      obtain ⟨mem2, hmem2⟩ : ∃ mem2, Hid (Ar.wipe mem o n = mem2) := ⟨_, hide rfl⟩
      rw [show Ar.wipe mem (Pt.mk (k : Int) o n []).off (Pt.mk (k : Int) o n []).size = mem2 from hmem2.out] at VR
      rw [hmem2.out] at hml2
      have hRl : Hid ((PS.take k ++ PS.drop (k + 1)).length = i - 1) := hide (by rw [List.length_append, List.length_take, List.length_drop, P12.out]; omega)
      obtain ⟨R, hRR⟩ : ∃ R, Hid (PS.take k ++ PS.drop (k + 1) = R) := ⟨_, hide rfl⟩
      obtain ⟨Q1, hQ1⟩ : ∃ Q1, Hid (PS.take k ++ (⟨100, o, n, []⟩ : Pt) :: PS.drop (k + 1) = Q1) := ⟨_, hide rfl⟩
      rw [hRR.out] at VR P3 P4 P5 hRl
      rw [hQ1.out] at P5 P6 P7 P8
      have fi : IntKind.i64.wrap ((i : Int) - 1) = ((i - 1 : Nat) : Int) := by rw [IntKind.wrap_i64]; omega
      clear hb hI7 hpc hT8 hfit hg1 hg2 HB HI VPa VY fn hcell
      go_wp2_with fail
      refine VR.out.mono ?_
      rintro e w9 ⟨rfl, hI, hT⟩
      have HB9 := hide (HB8.out.trans (hT.below.mono hBw))
      have HX9 : Hid (Has w9 w7.heap.size 30 [.int .i64 (k : Nat), .int .i64 (o : Nat), .int .i64 (n : Nat)]) := hide ((hT.keep _ HT8.out).trans HX8.out)
      have HI9 := hide hI
      have VPa := hide (fparts hI)
      rw [hRl.out] at VPa
      obtain ⟨r, hr⟩ : ∃ r, Hid (i - 1 = r) := ⟨_, hide rfl⟩
      rw [hr.out] at VPa fi
      clear hI hT VR HB8 HX8 HI8 k0 k1 k2
      go_wp2_with fail
      refine VPa.out.mono ?_
      rintro e w10 ⟨⟨g2, rfl, -, -⟩, hb⟩
      have HB10 := hide (HB9.out.trans (hb.mono HB9.out.size))
      have HX10 := hide (HX9.out.below hb HX9.out.lt)
      have VA := hide (fadd_ok 100 n o k (HI9.out.below hb).1 (by rw [hRl.out]; omega) p9 P4.out (by rw [hml2.out]; exact P3.out))
      rw [P5.out] at VA
      clear hb VPa HB9 HX9 HI9
      go_wp2_with fail
      refine VA.out.mono ?_
      rintro e w11 ⟨rfl, hI, hT⟩
      have HB11 := hide (HB10.out.trans (hT.below.mono hBw))
      have HX11 : Hid (Has w11 w7.heap.size 30 [.int .i64 (k : Nat), .int .i64 (o : Nat), .int .i64 (n : Nat)]) := hide ((hT.keep _ HT8.out).trans HX10.out)
      have HB12 := hide (HB11.out.alloc HB11.out.size (.cells #[.int .i64 100, .int .i64 (o : Nat), .int .i64 (n : Nat)] 30))
      have HX12 := hide (HX11.out.alloc (.cells #[.int .i64 100, .int .i64 (o : Nat), .int .i64 (n : Nat)] 30))
      have HI12 := hide ((hI.below ((Below.refl w11.heap.size w11).alloc (Nat.le_refl _) (.cells #[.int .i64 100, .int .i64 (o : Nat), .int .i64 (n : Nat)] 30))).1.fewer (T' := fun _ => False) (fun k hk => hk.elim))
      have x1 : (w11.alloc (.cells #[.int .i64 100, .int .i64 (o : Nat), .int .i64 (n : Nat)] 30)).cell? ⟨w7.heap.size, 1, none⟩ = some (.int .i64 (o : Nat)) := HX12.out.cell 1
      have x0 : w11.cell? ⟨w7.heap.size, 1, none⟩ = some (.int .i64 (o : Nat)) := HX11.out.cell 1
      have hE12 := HE.out.below HB12.out
      have VB := hide (fadd_there 100 1 HI12.out (by decide) P6.out ar (hE12.2.2 1 _ ar rfl HAR.out))
      clear hI hT VA HB10 HX10 HX11 HB11 hE12
      go_wp2_with fail
      refine VB.out.mono ?_
      rintro e w13 ⟨rfl, hI, hT⟩
      have HB13 := hide (HB12.out.trans (hT.below.mono hBw))
      have HB14 := hide (HB13.out.alloc HB13.out.size (.cells #[.int .i64 0, .int .i64 0, .int .i64 0] 30))
      have HI14 := hide (hI.below ((Below.refl w13.heap.size w13).alloc (Nat.le_refl _) (.cells #[.int .i64 0, .int .i64 0, .int .i64 0] 30))).1
      have hq6 : q ≤ 600 := p11
      have hE14 := HE.out.below HB14.out
      have g1 := P8.out (701 - q) (by omega)
      rw [decide_eq_false (by omega)] at g1
      have VC := hide (fadd_full 200 (701 - q) q i HI14.out (by omega) P7.out (by rw [hml2.out]; exact g1) ao (hE14.2.2 5 _ ao rfl HAO.out))
      have f1 : IntKind.i64.wrap (701 - (q : Int)) = ((701 - q : Nat) : Int) := by rw [IntKind.wrap_i64]; omega
      obtain ⟨m1, hm1⟩ : ∃ m1, Hid (701 - q = m1) := ⟨_, hide rfl⟩
      rw [hm1.out] at VC f1
      clear hI hT VB HB12 HB13 HI12 HX12 x0 x1 hE14 g1 fi
      go_wp2_with fail
      refine VC.out.mono ?_
      rintro e w15 ⟨rfl, hI, hT⟩
      have HB15 := hide (HB14.out.trans (hT.below.mono hBw))
      have HB16 := hide (HB15.out.alloc HB15.out.size (.cells #[.int .i64 0, .int .i64 0, .int .i64 0] 30))
      have HI16 := hide (hI.below ((Below.refl w15.heap.size w15).alloc (Nat.le_refl _) (.cells #[.int .i64 0, .int .i64 0, .int .i64 0] 30))).1
      have g2' := P8.out (700 - q) (by omega)
      rw [decide_eq_true (by omega)] at g2'
      have hlq : Q1.length < 1000 := by
        rw [← hQ1.out, List.length_append, List.length_cons, List.length_take, List.length_drop, P12.out]
        omega
      have VD := hide (fadd_ok 200 (700 - q) q i HI16.out hlq (by omega) P7.out (by rw [hml2.out]; exact g2'))
      have f2 : IntKind.i64.wrap (700 - (q : Int)) = ((700 - q : Nat) : Int) := by rw [IntKind.wrap_i64]; omega
      obtain ⟨m0, hm0⟩ : ∃ m0, Hid (700 - q = m0) := ⟨_, hide rfl⟩
      rw [hm0.out] at VD f2
      clear hI hT VC HB14 HB15 HI14 g2' f1
      go_wp2_with fail
      refine VD.out.mono ?_
      rintro e w17 ⟨rfl, hI, hT⟩
      have HB17 := hide (HB16.out.trans (hT.below.mono hBw))
      have HB18 := hide (HB17.out.alloc HB17.out.size (.cells #[.int .i64 200, .int .i64 (q : Nat), .int .i64 (m0 : Nat)] 30))
      have HX18 := hide (Has.new w17 30 [.int .i64 200, .int .i64 (q : Nat), .int .i64 (m0 : Nat)])
      have VE := hide (is_c es 1 ar HAR.out 102 _ (HE.out.below HB18.out))
      clear hI hT VD HB16 HB17 HI16 f2
      go_wp2_with fail
      refine VE.out.mono ?_
      rintro e w19 ⟨rfl, hb⟩
      have HB19 := hide (HB18.out.trans (hb.mono HB18.out.size))
      have HX19 := hide (HX18.out.below hb HX18.out.lt)
      have VF := hide (is_c es 5 ao HAO.out 106 _ (HE.out.below HB19.out))
      clear hb VE HB18 HX18
      go_wp2_with fail
      refine VF.out.mono ?_
      rintro e w20 ⟨rfl, hb⟩
      have HB20 := hide (HB19.out.trans (hb.mono HB19.out.size))
      have x1 : w20.cell? ⟨w17.heap.size, 1, none⟩ = some (.int .i64 (q : Nat)) := (HX19.out.below hb HX19.out.lt).cell 1
      clear hb VF HB19 HX19
      go_wp2_with fail
      go_ret
      exact ⟨rfl, HB20.out⟩

theorem arenaparts_c (zs : List Int) (A : Option Addr) (cap : Nat) (n1 : Int) (es : List Addr) (w : World) (hR : Ri w A zs) (hE : Ez w es) :
    Calls Tryd.prog 6 #[.slice A zs.length cap, .int .i64 n1] w fun e w' => e = .returned (.bool true) ∧ Below w.heap.size w w' := by
  by_cases h : 12 < zs.length ∨ zs.length = 0
  · exact parts_out zs A cap n1 w h
  · exact parts_in zs A cap n1 es w hR hE (by omega) (by omega)
end Go.Proofs.YtemaaipgjghlaaaDoor
