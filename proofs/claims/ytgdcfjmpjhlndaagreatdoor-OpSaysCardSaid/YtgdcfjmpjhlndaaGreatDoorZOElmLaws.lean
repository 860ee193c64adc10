/-
  The law ElemLaws, walked. By an AI agent. No person has read it.
-/
import Derived.Test.YtgdcfjmpjhlndaaGreatDoorZOElmN
import Derived.Test.YtgdcfjmpjhlndaaGreatDoorZOElmR
import Derived.Test.YtgdcfjmpjhlndaaGreatDoorZOBasE
import Derived.Test.YtgdcfjmpjhlndaaGreatDoorZOElmS
import Derived.Test.YtgdcfjmpjhlndaaGreatDoorZOSftN
import Derived.Test.YtgdcfjmpjhlndaaGreatDoorZOOpK
import Derived.Test.YtgdcfjmpjhlndaaGreatDoorZOShpCl
namespace Go.Proofs.YtgdcfjmpjhlndaaGreatDoor
open Go.RowKit
theorem kept_fit (u : Bool) (n : Int) : Tens.fit u (Elm.kept u n) = true := by
 unfold Elm.kept
 cases u
 ·exact decide_eq_true (by show -128 ≤ Tens.narrow n ∧ Tens.narrow n ≤ 127; unfold Tens.narrow; omega)
 ·exact decide_eq_true (by show -2147483648 ≤ Tens.wide n ∧ Tens.wide n ≤ 2147483647; unfold Tens.wide; omega)
structure Elm.Pair (a b : Ten) : Prop where
 fa : a.fault = (0, none)
 fb : b.fault = (0, none)
 z : a.zs = b.zs
 u : a.u = b.u
theorem Elm.Pair.len {a b : Ten} (h : Elm.Pair a b) : b.ds.length = a.ds.length := by
 have h1 := (fine_len h.fa).1
 have h2 := (fine_len h.fb).1
 rw [h.z] at h1
 omega
theorem fault_fine {zs ds es : List Int} {u : Bool} (h : Tens.fault zs u ds = (0, none)) (hl : es.length = ds.length) (hf : ∀ z ∈ es, Tens.fit u z = true) : Tens.fault zs u es = (0, none) :=
 Tens.fault_none zs u es (fine_len h).2 (by have := (fine_len h).1; omega) (fun _ _ hj => hf _ (List.mem_of_getElem? hj))
theorem Elm.part_fit (op : Int) (ho : op = 4 ∨ op = 6) (u : Bool) (ds es : List Int) (n : Nat) : ∀ z ∈ Elm.part op u [] ds es 0 n, Tens.fit u z = true := by
 intro z hz
 unfold Elm.part at hz
 obtain ⟨i, -, rfl⟩ := List.mem_map.1 hz
 rcases ho with rfl | rfl
 ·exact kept_fit u _
 ·exact kept_fit u _
theorem Elm.Pair.good {a b : Ten} (h : Elm.Pair a b) (op : Int) (ho : op = 4 ∨ op = 6) {t : Ten} (h1 : t.zs = a.zs) (h2 : t.u = a.u) (h3 : t.ds = Elm.part op a.u [] a.ds b.ds 0 a.ds.length) : Tens.fault t.zs t.u t.ds = (0, none) := by
 rw [h1, h2, h3]
 exact fault_fine h.fa (Elm.part_length _ _ _ _ _ _ _) (Elm.part_fit op ho _ _ _ _)
end Go.Proofs.YtgdcfjmpjhlndaaGreatDoor
namespace Go.Proofs.YtgdcfjmpjhlndaaGreatDoor
open Go.RowKit
theorem Sf.fitn {z : Int} (h : -128 ≤ z ∧ z ≤ 127) : Tens.fit false z = true := by unfold Tens.fit; simp [h]
theorem Sf.fitw {z : Int} (h : -2147483648 ≤ z ∧ z ≤ 2147483647) : Tens.fit true z = true := by unfold Tens.fit; simp [h]
end Go.Proofs.YtgdcfjmpjhlndaaGreatDoor
namespace Go.Proofs.YtgdcfjmpjhlndaaGreatDoor
open Go.RowKit
theorem Elm.part_getD (op : Int) (u : Bool) (qs ds es : List Int) (m i : Nat) (hi : i < m) : (Elm.part op u qs ds es 0 m)[i]? = some (Elm.val op u (ds.getD i 0) (es.getD i 0) qs) := by
 unfold Elm.part
 rw [List.getElem?_map, List.getElem?_range hi, Option.map_some, Nat.zero_add]
theorem Tens.fit_wide_any (n : Int) : Tens.fit true (Tens.wide n) = true := by
 unfold Tens.fit
 rw [if_pos rfl]
 exact decide_eq_true (by unfold Tens.wide; omega)
theorem Tens.fit_narrow_any (n : Int) : Tens.fit false (Tens.narrow n) = true := by
 unfold Tens.fit
 rw [if_neg (by decide)]
 exact decide_eq_true (by unfold Tens.narrow; omega)
theorem Tens.fit_zero (u : Bool) : Tens.fit u 0 = true := by cases u <;> decide
theorem Elm.fit_get {u : Bool} {xs : List Int} (h : ∀ d ∈ xs, Tens.fit u d = true) (i : Nat) : Tens.fit u (xs.getD i 0) = true := by
 rw [List.getD_eq_getElem?_getD]
 cases e : xs[i]? with
 | none => exact Tens.fit_zero u
 | some q => exact h q (List.mem_of_getElem? e)
theorem Elm.fit_two (op : Int) (u : Bool) (x y : Int) (ho : 4 ≤ op ∧ op ≤ 7) (hx : Tens.fit u x = true) (hy : Tens.fit u y = true) : Tens.fit u (Elm.val op u x y []) = true := by
 have hk : ∀ n, Tens.fit u (Elm.kept u n) = true := fun n => by
  unfold Elm.kept
  cases u
  ·rw [if_neg (by decide)]; exact Tens.fit_narrow_any n
  ·rw [if_pos rfl]; exact Tens.fit_wide_any n
 unfold Elm.val
 rw [if_neg (by omega), if_neg (by omega), if_neg (by omega), if_neg (by omega)]
 unfold Elm.bin
 split
 ·exact hk _
 ·split
  ·exact hk _
  ·split
   ·exact hk _
   ·rcases Int.le_total x y with h | h
    ·rw [Int.max_eq_right h]; exact hy
    ·rw [Int.max_eq_left h]; exact hx
theorem Elm.part_fits {op : Int} {u v : Bool} {qs ds es : List Int} {n : Nat} (h : ∀ i, Tens.fit v (Elm.val op u (ds.getD i 0) (es.getD i 0) qs) = true) : ∀ z ∈ Elm.part op u qs ds es 0 n, Tens.fit v z = true := by
 intro z hz
 unfold Elm.part at hz
 obtain ⟨i, -, rfl⟩ := List.mem_map.1 hz
 exact h _
end Go.Proofs.YtgdcfjmpjhlndaaGreatDoor
