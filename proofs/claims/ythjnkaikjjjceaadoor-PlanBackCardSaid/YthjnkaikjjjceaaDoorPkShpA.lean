/-
  Package shape's Valid, valid and Elems, walked; what they say of any numbers. By an AI agent. No person has read it.
-/
import Derived.Test.YthjnkaikjjjceaaDoorPkBasA
import Derived.Test.YthjnkaikjjjceaaDoorPkErrA
namespace Go.Proofs.YthjnkaikjjjceaaDoor
open Go.RowKit
/-- How many elements so many dimensions have. -/
def Shp.prod : List Int → Int
  | [] => 1
  | z :: zs => z * Shp.prod zs
def Shp.okDim (z : Int) : Bool := decide (1 ≤ z ∧ z ≤ 256)
/-- What is wrong with a shape: the error's number. -/
def Shp.code (zs : List Int) : Nat := if 4 < zs.length then 104 else if zs.all Shp.okDim = false then 102 else if 16384 < Shp.prod zs then 104 else 0
theorem Shp.prod_snoc (zs : List Int) (z : Int) : Shp.prod (zs ++ [z]) = Shp.prod zs * z := by
  induction zs with
  | nil => simp [Shp.prod]
  | cons y ys ih => rw [List.cons_append, Shp.prod, ih, Shp.prod, Int.mul_assoc]
theorem Shp.prod_pos (zs : List Int) (h : zs.all Shp.okDim = true) : 1 ≤ Shp.prod zs ∧ Shp.prod zs ≤ 256 ^ zs.length := by
  induction zs with
  | nil => decide
  | cons z zs ih =>
    rw [List.all_cons, Bool.and_eq_true] at h
    obtain ⟨h1, h2⟩ := h
    obtain ⟨i1, i2⟩ := ih h2
    unfold Shp.okDim at h1
    rw [decide_eq_true_eq] at h1
    refine ⟨?_, ?_⟩
    · have := Int.mul_le_mul h1.1 i1 (by decide) (by omega)
      simpa [Shp.prod] using this
    · have := Int.mul_le_mul h1.2 i2 (by omega) (by decide)
      rw [Shp.prod, List.length_cons, Int.pow_succ, Int.mul_comm ((256 : Int) ^ zs.length)]
      exact this
theorem Shp.pow_le (n : Nat) (h : n ≤ 4) : (256 : Int) ^ n ≤ 4294967296 := by
  have : n = 0 ∨ n = 1 ∨ n = 2 ∨ n = 3 ∨ n = 4 := by omega
  rcases this with rfl | rfl | rfl | rfl | rfl <;> decide
theorem Shp.all_snoc (zs : List Int) (z : Int) (h : zs.all Shp.okDim = true) (hz : 1 ≤ z ∧ z ≤ 256) : (zs ++ [z]).all Shp.okDim = true := by
  rw [List.all_append, h, List.all_cons, List.all_nil]
  simp [Shp.okDim, hz.1, hz.2]
theorem Shp.not_all (zs : List Int) (i : Nat) (z : Int) (h : zs[i]? = some z) (hz : ¬ (1 ≤ z ∧ z ≤ 256)) : zs.all Shp.okDim = false := by
  rw [List.all_eq_false]
  exact ⟨z, List.mem_of_getElem? h, by unfold Shp.okDim; rw [decide_eq_true_eq]; exact hz⟩

/-- The two errors that package shape tells. -/
def E2 (w : World) (am ar : Addr) : Prop := ErrIs w 1 am ∧ ErrIs w 2 ar
theorem E2.below {w wr : World} {am ar : Addr} (h : E2 w am ar) (hb : Below w.heap.size w wr) : E2 wr am ar := ⟨h.1.below hb, h.2.below hb⟩
def Shp.err (am ar : Addr) (k : Nat) : Value := if k = 104 then errv am else if k = 102 then errv ar else .nilIface
/-- A desc as a value. -/
abbrev dcells (P : Option Addr) (n cap : Nat) (wide : Bool) : Array Value := #[.slice P n cap, .bool wide]

set_option maxRecDepth 100000 in
set_option maxHeartbeats 4000000 in
theorem valid_c (zs : List Int) (P : Option Addr) (cap : Nat) (wide : Bool) (am ar : Addr) (w : World) (hr : Ri w P zs) (hm : zs.length ≤ 9223372036854775807) (hE : E2 w am ar) :
    Calls Tryd.prog 97 #[.agg (dcells P zs.length cap wide)] w fun e w' => e = .returned (Shp.err am ar (Shp.code zs)) ∧ Below w.heap.size w w' := by
  obtain ⟨n, hn⟩ : ∃ n, Hid (zs.length = n) := ⟨_, hide rfl⟩
  rw [hn.out] at hm ⊢
  have hb1 := (Below.refl _ w).alloc (Nat.le_refl _) (Obj.cells (dcells P n cap wide) 59)
  have HB1 := hide hb1
  have HA := hide (hr.below hb1)
  have hE1 := hE.below hb1
  obtain ⟨⟨c1, -, -, -⟩, c2, -, -, -⟩ := hE1
  clear hb1 hr hE
  obtain ⟨R, hR⟩ : ∃ R, Hid (Shp.err am ar (Shp.code zs) = R) := ⟨_, hide rfl⟩
  rw [hR.out]
  by_cases h4 : 4 < n
  · have h4' : (4 : Int) < n := by omega
    obtain rfl : errv am = R := by
      have := hR.out
      unfold Shp.code at this
      rw [if_pos (by rw [hn.out]; exact h4)] at this
      exact this
    clear hR
    go_enter Tryd.func97, Tryd.ntmps97
    go_wp2_with fail
    go_ret
    exact ⟨rfl, HB1.out⟩
  · have h4' : ¬ (4 : Int) < n := by omega
    have h4n : n ≤ 4 := by omega
    have hR2 : Hid ((if zs.all Shp.okDim = false then errv ar else if 16384 < Shp.prod zs then errv am else Value.nilIface) = R) := by
      have := hR.out
      unfold Shp.code at this
      rw [if_neg (by rw [hn.out]; exact h4)] at this
      refine hide ?_
      rw [← this]
      unfold Shp.err
      split
      · rfl
      · split <;> rfl
    clear hR h4
    go_enter Tryd.func97, Tryd.ntmps97
    go_wp2_with fail
    obtain ⟨w1, hw1⟩ : ∃ w1, Hid (w.alloc (Obj.cells (dcells P n cap wide) 59) = w1) := ⟨_, hide rfl⟩
    rw [hw1.out] at HB1 HA c1 c2
    have hw1' := hw1.out
    rw [hw1']
    clear hw1 hw1'
    go_loopw [3, 14] (fun p k wr => ∃ (i : Nat) (v : Int), i ≤ n ∧ k = .int .i64 i ∧ p = .int .i64 v ∧ Hid (Shp.prod (zs.take i) = v) ∧ Hid ((zs.take i).all Shp.okDim = true) ∧ wr = w1) (fun _ k _ => n - (intOf k).toNat)
    case atStart => exact ⟨0, 1, by omega, rfl, rfl, hide rfl, hide rfl, rfl⟩
    case round =>
      obtain ⟨i, v, hi, rfl, rfl, hI, hD, rfl⟩ := hrel
      have hv := Shp.prod_pos _ hD.out
      rw [hI.out, List.length_take, hn.out, Nat.min_eq_left hi] at hv
      by_cases hlt : i < n
      · obtain ⟨ad, z, rfl, ez, cz⟩ := ri_at HA.out i (by rw [hn.out]; exact hlt)
        have him : (i : Int) < n := by omega
        by_cases hz1 : z < 1
        · obtain rfl : errv ar = R := by
            rw [← hR2.out, if_pos (Shp.not_all zs i z ez.out (by omega))]
          clear hR2 hv
          go_wp2_with fail
          go_ret
          exact ⟨rfl, HB1.out⟩
        · by_cases hz2 : 256 < z
          · obtain rfl : errv ar = R := by
              rw [← hR2.out, if_pos (Shp.not_all zs i z ez.out (by omega))]
            clear hR2 hv
            go_wp2_with fail
            go_ret
            exact ⟨rfl, HB1.out⟩
          · have hp : Shp.prod (zs.take (i + 1)) = v * z := by
              rw [List.take_add_one, ez.out, Option.toList_some, Shp.prod_snoc, hI.out]
            have ha : (zs.take (i + 1)).all Shp.okDim = true := by
              rw [List.take_add_one, ez.out, Option.toList_some]
              exact Shp.all_snoc _ z hD.out (by omega)
            have hq := Shp.prod_pos _ ha
            rw [hp, List.length_take, hn.out, Nat.min_eq_left (by omega)] at hq
            have hq2 := Shp.pow_le (i + 1) (by omega)
            have hw : wrap64 (v * z) = v * z := by unfold wrap64; omega
            obtain ⟨t, ht⟩ : ∃ t, Hid (v * z = t) := ⟨_, hide rfl⟩
            have hwr : wrap64 (v * z) = t := hw.trans ht.out
            clear hw
            rw [ht.out] at hp
            have HP := hide hp
            have HA' := hide ha
            clear hp ha hq hq2 hv
            go_wp2_with fail
            go_roundw
            case rel => exact ⟨i + 1, t, by omega, by go_num, by rw [hwr], HP, HA', trivial⟩
            case measure => simp [intOf]; omega
      · obtain rfl : i = n := by omega
        have hall : zs.all Shp.okDim = true := by
          have := hD.out
          rwa [List.take_of_length_le (by rw [hn.out]; exact Nat.le_refl _)] at this
        have hpr : Shp.prod zs = v := by
          have := hI.out
          rwa [List.take_of_length_le (by rw [hn.out]; exact Nat.le_refl _)] at this
        by_cases hbig : 16384 < v
        · obtain rfl : errv am = R := by
            rw [← hR2.out, if_neg (by rw [hall]; decide), if_pos (by rw [hpr]; exact hbig)]
          clear hR2 hv hall hpr
          go_wp2_with fail
          go_ret
          exact ⟨rfl, HB1.out⟩
        · obtain rfl : Value.nilIface = R := by
            rw [← hR2.out, if_neg (by rw [hall]; decide), if_neg (by rw [hpr]; exact hbig)]
          clear hR2 hv hall hpr
          go_wp2_with fail
          go_ret
          exact ⟨rfl, HB1.out⟩

theorem run_nilerr (am ar : Addr) (k : Nat) (h : k = 104 ∨ k = 102 ∨ k = 0) (w : World) : (binOp .eql 32 (Shp.err am ar k) .nilIface).run Tryd.prog w = .ok (.bool (decide (k = 0))) w := by
  rcases h with rfl | rfl | rfl <;> kernel_rfl
theorem run_nilguard (am ar : Addr) (k : Nat) (h : k = 104 ∨ k = 102 ∨ k = 0) (j : Tmp) (w : World) : (eqGuard .eql 32 (Operand.tmp j) (Operand.const Value.nilIface) (Shp.err am ar k) .nilIface).run Tryd.prog w = .ok () w := by
  rcases h with rfl | rfl | rfl <;> kernel_rfl
theorem Shp.code_is (zs : List Int) : Shp.code zs = 104 ∨ Shp.code zs = 102 ∨ Shp.code zs = 0 := by
  unfold Shp.code
  split
  · exact .inl rfl
  · split
    · exact .inr (.inl rfl)
    · split
      · exact .inl rfl
      · exact .inr (.inr rfl)
/-- A shape that may be. -/
def Shp.ok (zs : List Int) : Bool := decide (Shp.code zs = 0)
theorem Shp.ok_iff (zs : List Int) : Shp.ok zs = true ↔ zs.length ≤ 4 ∧ zs.all Shp.okDim = true ∧ Shp.prod zs ≤ 16384 := by
  unfold Shp.ok Shp.code
  rw [decide_eq_true_eq]
  split
  · rename_i h
    constructor
    · intro h; simp at h
    · intro h; omega
  · rename_i h1
    split
    · rename_i h
      rw [h]
      simp
    · rename_i h2
      have h2 : zs.all Shp.okDim = true := by simpa using h2
      split
      · rename_i h3
        constructor
        · intro h; simp at h
        · intro h; omega
      · rename_i h3
        exact ⟨fun _ => ⟨by omega, h2, by omega⟩, fun _ => rfl⟩
set_option maxRecDepth 100000 in
theorem isvalid_c (zs : List Int) (P : Option Addr) (cap : Nat) (am ar : Addr) (w : World) (hr : Ri w P zs) (hm : zs.length ≤ 9223372036854775807) (hE : E2 w am ar) :
    Calls Tryd.prog 109 #[.slice P zs.length cap] w fun e w' => e = .returned (.bool (Shp.ok zs)) ∧ Below w.heap.size w w' := by
  have HV := hide (valid_c zs P cap false am ar w hr hm hE)
  have hq := run_nilerr am ar (Shp.code zs) (Shp.code_is zs)
  have hg := run_nilguard am ar (Shp.code zs) (Shp.code_is zs)
  unfold Shp.ok
  obtain ⟨n, hn⟩ : ∃ n, Hid (zs.length = n) := ⟨_, hide rfl⟩
  obtain ⟨r, hr⟩ : ∃ r, Hid (decide (Shp.code zs = 0) = r) := ⟨_, hide rfl⟩
  obtain ⟨R, hR⟩ : ∃ R, Hid (Shp.err am ar (Shp.code zs) = R) := ⟨_, hide rfl⟩
  rw [hr.out, hR.out] at hq
  rw [hR.out] at hg
  rw [hn.out, hR.out] at HV
  rw [hn.out, hr.out]
  clear hR hr hn hE
  go_enter Tryd.func109, Tryd.ntmps109
  go_wp2_with fail
  refine HV.out.mono ?_
  rintro e w1 ⟨rfl, hb⟩
  go_wp2_with fail
  go_ret
  exact ⟨rfl, hb⟩
/-- How many elements such a shape has. -/
def Shp.elems (zs : List Int) : Int := if Shp.ok zs = true then Shp.prod zs else 0
theorem Shp.elems_le (zs : List Int) : 0 ≤ Shp.elems zs ∧ Shp.elems zs ≤ 16384 := by
  unfold Shp.elems
  split
  · rename_i h
    rw [Shp.ok_iff] at h
    have := (Shp.prod_pos zs h.2.1).1
    omega
  · omega
set_option maxRecDepth 100000 in
set_option maxHeartbeats 4000000 in
theorem elems_c (zs : List Int) (P : Option Addr) (cap : Nat) (am ar : Addr) (w : World) (hr : Ri w P zs) (hm : zs.length ≤ 9223372036854775807) (hE : E2 w am ar) :
    Calls Tryd.prog 98 #[.slice P zs.length cap] w fun e w' => e = .returned (.int .i64 (Shp.elems zs)) ∧ Below w.heap.size w w' := by
  have HV := hide (isvalid_c zs P cap am ar w hr hm hE)
  have HA0 := hide hr
  clear hr hE
  unfold Shp.elems
  cases hk : Shp.ok zs
  · rw [if_neg (by decide)]
    rw [hk] at HV
    obtain ⟨n, hn⟩ : ∃ n, Hid (zs.length = n) := ⟨_, hide rfl⟩
    rw [hn.out] at HV hm ⊢
    clear hk HA0 hn
    go_enter Tryd.func98, Tryd.ntmps98
    go_wp2_with fail
    refine HV.out.mono ?_
    rintro e w1 ⟨rfl, hb⟩
    go_wp2_with fail
    go_ret
    exact ⟨rfl, hb⟩
  · rw [if_pos rfl]
    rw [hk] at HV
    rw [Shp.ok_iff] at hk
    obtain ⟨n, hn⟩ : ∃ n, Hid (zs.length = n) := ⟨_, hide rfl⟩
    rw [hn.out] at HV hm hk ⊢
    obtain ⟨h4n, hall, -⟩ := hk
    have HALL := hide hall
    clear hall
    obtain ⟨R, hR⟩ : ∃ R, Hid (Shp.prod zs = R) := ⟨_, hide rfl⟩
    rw [hR.out]
    go_enter Tryd.func98, Tryd.ntmps98
    go_wp2_with fail
    refine HV.out.mono ?_
    rintro e w1 ⟨rfl, hb⟩
    have HB1 := hide hb
    have HA := hide (HA0.out.below hb)
    clear hb HV HA0
    go_wp2_with fail
    go_loopw [3, 11] (fun p k wr => ∃ (i : Nat) (v : Int), i ≤ n ∧ k = .int .i64 i ∧ p = .int .i64 v ∧ Hid (Shp.prod (zs.take i) = v) ∧ wr = w1) (fun _ k _ => n - (intOf k).toNat)
    case atStart => exact ⟨0, 1, by omega, rfl, rfl, hide rfl, rfl⟩
    case round =>
      obtain ⟨i, v, hi, rfl, rfl, hI, rfl⟩ := hrel
      by_cases hlt : i < n
      · obtain ⟨ad, z, rfl, ez, cz⟩ := ri_at HA.out i (by rw [hn.out]; exact hlt)
        have him : (i : Int) < n := by omega
        have hp : Shp.prod (zs.take (i + 1)) = v * z := by
          rw [List.take_add_one, ez.out, Option.toList_some, Shp.prod_snoc, hI.out]
        have ha : (zs.take (i + 1)).all Shp.okDim = true := by
          have := HALL.out
          rw [List.all_eq_true] at this ⊢
          exact fun x hx => this x (List.mem_of_mem_take hx)
        have hq := Shp.prod_pos _ ha
        rw [hp, List.length_take, hn.out, Nat.min_eq_left (by omega)] at hq
        have hq2 := Shp.pow_le (i + 1) (by omega)
        have hw : wrap64 (v * z) = v * z := by unfold wrap64; omega
        obtain ⟨t, ht⟩ : ∃ t, Hid (v * z = t) := ⟨_, hide rfl⟩
        have hwr : wrap64 (v * z) = t := hw.trans ht.out
        clear hw
        rw [ht.out] at hp
        have HP := hide hp
        clear hp ha hq hq2
        go_wp2_with fail
        go_roundw
        case rel => exact ⟨i + 1, t, by omega, by go_num, by rw [hwr], HP, trivial⟩
        case measure => simp [intOf]; omega
      · obtain rfl : i = n := by omega
        obtain rfl : v = R := by
          have := hI.out
          rw [List.take_of_length_le (by rw [hn.out]; exact Nat.le_refl _), hR.out] at this
          exact this.symm
        go_wp2_with fail
        go_ret
        exact ⟨rfl, HB1.out⟩
end Go.Proofs.YthjnkaikjjjceaaDoor
