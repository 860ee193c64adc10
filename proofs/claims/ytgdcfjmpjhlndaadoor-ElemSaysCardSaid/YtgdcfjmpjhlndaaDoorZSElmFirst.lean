/-
  The examples of package lodgelaw7, walked. By an AI agent. No person has read it.
-/
import Derived.Test.YtgdcfjmpjhlndaaDoorZSElmU
import Derived.Test.YtgdcfjmpjhlndaaDoorZSBasE
import Derived.Test.YtgdcfjmpjhlndaaDoorZSElmS
import Derived.Test.YtgdcfjmpjhlndaaDoorZSSftN
import Derived.Test.YtgdcfjmpjhlndaaDoorZSCnvC
import Derived.Test.YtgdcfjmpjhlndaaDoorZSOpJ
import Derived.Test.YtgdcfjmpjhlndaaDoorZSShpCl
import Derived.Test.YtgdcfjmpjhlndaaDoorZSElmN
namespace Go.Proofs.YtgdcfjmpjhlndaaDoor
open Go.RowKit
set_option maxRecDepth 100000 in
set_option maxHeartbeats 4000000 in
theorem first7_c (ah am ar ak : Addr) (w : World) (hE : E4 w ah am ar ak) :
    Calls Tryd.prog 10 #[] w fun e w' => e = .returned (.bool true) ∧ Below w.heap.size w w' := by
  obtain ⟨W, hW⟩ : ∃ W, W = (w.alloc (.cells #[.int .i64 100] 3)).alloc (.cells #[.slice none 0 0, .bool false, .slice (some ⟨w.heap.size, 0, none⟩) 1 1] 26) := ⟨_, rfl⟩
  have hBW : Below w.heap.size w W := by
    rw [hW]
    exact ((Below.refl _ w).alloc (Nat.le_refl _) _).alloc (by simp) _
  have hZW : Has W (w.heap.size + 1) 26 [.slice none 0 0, .bool false, .slice (some ⟨w.heap.size, 0, none⟩) 1 1] := by
    rw [hW]
    exact box_at (w.alloc (.cells #[.int .i64 100] 3)) 26 [.slice none 0 0, .bool false, .slice (some ⟨w.heap.size, 0, none⟩) 1 1] (w.heap.size + 1) (by simp)
  have hR : Ri W (some ⟨w.heap.size, 0, none⟩) [100] := by
    have h := (new_ri w 3 [100] (by decide)).below ((Below.refl (w.alloc (.cells (i64s [100]).toArray 3)).heap.size _).alloc (Nat.le_refl _) (.cells #[.slice none 0 0, .bool false, .slice (some ⟨w.heap.size, 0, none⟩) 1 1] 26))
    rw [hW]
    exact h
  have ha : Ten.In W ⟨none, [], 0, false, some ⟨w.heap.size, 0, none⟩, [100], 1⟩ := ⟨Ri.nil _ _, hR, by simp, by simp⟩
  have HV := hide (two_c 4 ⟨none, [], 0, false, some ⟨w.heap.size, 0, none⟩, [100], 1⟩ ⟨none, [], 0, false, some ⟨w.heap.size, 0, none⟩, [100], 1⟩ ah am ar ak W ha ha (hE.below hBW))
  have e1 : Elm.fault 4 [] [⟨none, [], 0, false, some ⟨w.heap.size, 0, none⟩, [100], 1⟩, ⟨none, [], 0, false, some ⟨w.heap.size, 0, none⟩, [100], 1⟩] = (0, none) := by rfl
  have e2 : Elm.ods 4 [] [⟨none, [], 0, false, some ⟨w.heap.size, 0, none⟩, [100], 1⟩, ⟨none, [], 0, false, some ⟨w.heap.size, 0, none⟩, [100], 1⟩] = [127] := by rfl
  rw [e1, e2] at HV
  have HB := hide hBW
  have HW := hide hW
  have z0 := hZW.cell 0
  have z1 := hZW.cell 1
  have z2 := hZW.cell 2
  clear hE hBW hZW hR ha e1 e2
  go_enter Tryd.func10, Tryd.ntmps10
  go_wp2_with fail
  rw [← HW.out]
  refine HV.out.mono ?_
  rintro e w2 ⟨⟨t, x, rfl, hIn, -, -, -, e3, hEr⟩, hb⟩
  have hB2 := HB.out.trans (hb.mono HB.out.size)
  obtain rfl : x = .nilIface := by
    unfold Elm.Err at hEr
    rw [if_neg (by simp)] at hEr
    exact hEr
  have hD := hIn.dat
  rw [e3] at hD
  have hB3 := hB2.alloc hB2.size (.cells #[.slice t.P t.zs.length t.cap, .bool t.u, .slice t.D 1 t.dcap] 26)
  have hB4 := hB3.alloc hB3.size (.cells #[.int .i64 127] 3)
  have hD4 := (hD.below ((Below.refl _ w2).alloc (Nat.le_refl _) (.cells #[.slice t.P t.zs.length t.cap, .bool t.u, .slice t.D 1 t.dcap] 26))).below ((Below.refl _ _).alloc (Nat.le_refl _) (.cells #[.int .i64 127] 3))
  have HS := hide (sameints_c [127] [127] t.D (some ⟨w2.heap.size + 1, 0, none⟩) t.dcap 1 _ hD4 (by
    have h := new_ri (w2.alloc (.cells #[.slice t.P t.zs.length t.cap, .bool t.u, .slice t.D 1 t.dcap] 26)) 3 [127] (by decide)
    simpa using h) (by decide) (by decide))
  rw [decide_eq_true (rfl : ([127] : List Int) = [127])] at HS
  have HB4 := hide hB4
  rw [e3]
  clear hEr hIn hD e3 hB2 hB3 hB4 hD4 HV HB hb HW
  go_wp2_with fail
  refine HS.out.mono ?_
  rintro e w3 ⟨rfl, hb⟩
  have HF := hide (HB4.out.trans (hb.mono HB4.out.size))
  clear hb HS HB4
  go_wp2_with fail
  go_ret
  exact ⟨rfl, HF.out⟩
end Go.Proofs.YtgdcfjmpjhlndaaDoor
namespace Go.Proofs.YtgdcfjmpjhlndaaDoor
open Go.RowKit
/-- Two good tensors that look alike. -/
structure Elm.Pair (a b : Ten) : Prop where
  fa : a.fault = (0, none)
  fb : b.fault = (0, none)
  z : a.zs = b.zs
  u : a.u = b.u
theorem Elm.Pair.len {a b : Ten} (h : Elm.Pair a b) : b.ds.length = a.ds.length := by
  have h1 := (fine_len h.fa).1
  have h2 := (fine_len h.fb).1
  rw [h.z] at h1
  omega
end Go.Proofs.YtgdcfjmpjhlndaaDoor
namespace Go.Proofs.YtgdcfjmpjhlndaaDoor
open Go.RowKit
theorem Sf.fitn {z : Int} (h : -128 ≤ z ∧ z ≤ 127) : Tens.fit false z = true := by unfold Tens.fit; simp [h]
theorem Sf.fitw {z : Int} (h : -2147483648 ≤ z ∧ z ≤ 2147483647) : Tens.fit true z = true := by unfold Tens.fit; simp [h]
end Go.Proofs.YtgdcfjmpjhlndaaDoor
namespace Go.Proofs.YtgdcfjmpjhlndaaDoor
open Go.RowKit
theorem Elm.part_getD (op : Int) (u : Bool) (qs ds es : List Int) (m i : Nat) (hi : i < m) : (Elm.part op u qs ds es 0 m)[i]? = some (Elm.val op u (ds.getD i 0) (es.getD i 0) qs) := by
  unfold Elm.part
  rw [List.getElem?_map, List.getElem?_range hi, Option.map_some, Nat.zero_add]
theorem Tens.fit_wide_any (n : Int) : Tens.fit true (Tens.wide n) = true := by
  unfold Tens.fit
  rw [if_pos rfl]
  exact decide_eq_true (by unfold Tens.wide; omega)
theorem Tens.fit_narrow_any (n : Int) : Tens.fit false (Tens.narrow n) = true := by
  unfold Tens.fit
  rw [if_neg (by decide)]
  exact decide_eq_true (by unfold Tens.narrow; omega)
theorem Tens.fit_zero (u : Bool) : Tens.fit u 0 = true := by cases u <;> decide
theorem Elm.fit_get {u : Bool} {xs : List Int} (h : ∀ d ∈ xs, Tens.fit u d = true) (i : Nat) : Tens.fit u (xs.getD i 0) = true := by
  rw [List.getD_eq_getElem?_getD]
  cases e : xs[i]? with
  | none => exact Tens.fit_zero u
  | some q => exact h q (List.mem_of_getElem? e)
theorem Elm.fit_two (op : Int) (u : Bool) (x y : Int) (ho : 4 ≤ op ∧ op ≤ 7) (hx : Tens.fit u x = true) (hy : Tens.fit u y = true) : Tens.fit u (Elm.val op u x y []) = true := by
  have hk : ∀ n, Tens.fit u (Elm.kept u n) = true := fun n => by
    unfold Elm.kept
    cases u
    · rw [if_neg (by decide)]; exact Tens.fit_narrow_any n
    · rw [if_pos rfl]; exact Tens.fit_wide_any n
  unfold Elm.val
  rw [if_neg (by omega), if_neg (by omega), if_neg (by omega), if_neg (by omega)]
  unfold Elm.bin
  split
  · exact hk _
  · split
    · exact hk _
    · split
      · exact hk _
      · rcases Int.le_total x y with h | h
        · rw [Int.max_eq_right h]; exact hy
        · rw [Int.max_eq_left h]; exact hx
theorem Elm.part_fits {op : Int} {u v : Bool} {qs ds es : List Int} {n : Nat} (h : ∀ i, Tens.fit v (Elm.val op u (ds.getD i 0) (es.getD i 0) qs) = true) : ∀ z ∈ Elm.part op u qs ds es 0 n, Tens.fit v z = true := by
  intro z hz
  unfold Elm.part at hz
  obtain ⟨i, -, rfl⟩ := List.mem_map.1 hz
  exact h _
theorem Mix.sum {t a : Ten} {n : Nat} (ia : Mat.Is a 1 n true) (hd : t.ds = Sf.part (Sf.sum a.ds (Sf.last a)) 0 (Shp.prod a.zs.dropLast).toNat) : t.ds = Sf.part (Sf.sum a.ds n) 0 1 := by
  have hl : Sf.last a = n := by
    unfold Sf.last
    rw [ia.zs]
    rfl
  rw [hd, hl, ia.zs]
  rfl
/-- Two values that are no slices of one block. -/
def Apart2 (u v : Value) : Prop := ∀ k, u.ownBlock = some k → v.ownBlock ≠ some k
theorem Apart2.new {w : World} {base m : Nat} {e : TypeId} {s : Nat} {u u' v : Value} {ys : List Value} (h : Apart2 u v) (ho : w.ownsRow base e s v m ys) (hn : u'.ownBlock = u.ownBlock ∨ u'.ownBlock = some w.heap.size) : Apart2 u' v := by
  intro k hk hv
  rcases hn with hn | hn
  · exact h k (hn ▸ hk) hv
  · have h1 := (ho.lt k hv).2
    rw [hn] at hk
    have := Option.some.inj hk
    omega
end Go.Proofs.YtgdcfjmpjhlndaaDoor
