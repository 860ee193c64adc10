/-
  What there is to know of an operation: package op's Known, of, Ins, Args, Name, Named, walked. By an AI agent. No person has read it.
-/
import Derived.Test.YtgdcfjmpjhlndaaGreatDoorZOElmR
import Derived.Deep.LoopGhost
namespace Go.Proofs.YtgdcfjmpjhlndaaGreatDoor
open Go.RowKit
def Op.names : List (List UInt8) := [[97, 100, 100], [115, 117, 98], [109, 117, 108], [109, 97, 120], [114, 101, 108, 117], [99, 108, 97, 109, 112], [114, 101, 113, 117, 97, 110, 116], [119, 105, 100, 101, 110], [109, 97, 116, 109, 117, 108], [99, 111, 110, 118], [109, 97, 120, 112, 111, 111, 108], [97, 118, 103, 112, 111, 111, 108], [115, 111, 102, 116, 109, 97, 120], [103, 97, 116, 104, 101, 114], [114, 101, 115, 104, 97, 112, 101], [97, 114, 103, 109, 97, 120], [115, 117, 109], [116, 117, 114, 110]]
def Op.nin : List Nat := [2, 2, 2, 2, 1, 1, 1, 1, 2, 2, 1, 1, 2, 2, 1, 1, 1, 1]
def Op.narg : List Nat := [0, 0, 0, 0, 0, 2, 3, 1, 2, 3, 2, 2, 0, 0, 0, 0, 0, 0]
def Op.nm (i : Nat) : ByteArray := ⟨(Op.names.getD i []).toArray⟩
def Op.str (l : List UInt8) : Value := .string ⟨l.toArray⟩
def Op.kcells : List Value := [Op.str [97, 100, 100], .int .i64 2, .int .i64 0, Op.str [115, 117, 98], .int .i64 2, .int .i64 0, Op.str [109, 117, 108], .int .i64 2, .int .i64 0, Op.str [109, 97, 120], .int .i64 2, .int .i64 0, Op.str [114, 101, 108, 117], .int .i64 1, .int .i64 0, Op.str [99, 108, 97, 109, 112], .int .i64 1, .int .i64 2, Op.str [114, 101, 113, 117, 97, 110, 116], .int .i64 1, .int .i64 3, Op.str [119, 105, 100, 101, 110], .int .i64 1, .int .i64 1, Op.str [109, 97, 116, 109, 117, 108], .int .i64 2, .int .i64 2, Op.str [99, 111, 110, 118], .int .i64 2, .int .i64 3, Op.str [109, 97, 120, 112, 111, 111, 108], .int .i64 1, .int .i64 2, Op.str [97, 118, 103, 112, 111, 111, 108], .int .i64 1, .int .i64 2, Op.str [115, 111, 102, 116, 109, 97, 120], .int .i64 2, .int .i64 0, Op.str [103, 97, 116, 104, 101, 114], .int .i64 2, .int .i64 0, Op.str [114, 101, 115, 104, 97, 112, 101], .int .i64 1, .int .i64 0, Op.str [97, 114, 103, 109, 97, 120], .int .i64 1, .int .i64 0, Op.str [115, 117, 109], .int .i64 1, .int .i64 0, Op.str [116, 117, 114, 110], .int .i64 1, .int .i64 0]
def Kz (w : World) : Prop := ∃ t, Has w 2 t Op.kcells
theorem Kz.lt {w : World} (h : Kz w) : 2 < w.heap.size := by
 obtain ⟨t, h⟩ := h
 exact h.lt
theorem Kz.below {w w' : World} (h : Kz w) (hb : Below w.heap.size w w') : Kz w' := by
 obtain ⟨t, h⟩ := h
 exact ⟨t, h.below hb h.lt⟩
theorem Kz.cell {w : World} (h : Kz w) (j : Nat) : w.cell? ⟨2, j, none⟩ = Op.kcells[j]? := by
 obtain ⟨t, h⟩ := h
 exact h.cell j
def Op.known (op : Int) : Prop := 4 ≤ op ∧ op ≤ 21
instance (op : Int) : Decidable (Op.known op) := inferInstanceAs (Decidable (4 ≤ op ∧ op ≤ 21))
def Op.name (op : Int) : List UInt8 := if Op.known op then Op.names.getD (op - 4).toNat [] else []
def Op.ins (op : Int) : Nat := if Op.known op then Op.nin.getD (op - 4).toNat 0 else 0
def Op.args (op : Int) : Nat := if Op.known op then Op.narg.getD (op - 4).toNat 0 else 0
theorem Op.cells_at (i : Nat) (h : i < 18) : Op.kcells[i * 3]? = some (Op.str (Op.names.getD i [])) ∧ Op.kcells[i * 3 + 1]? = some (.int .i64 (Op.nin.getD i 0 : Nat)) ∧ Op.kcells[i * 3 + 2]? = some (.int .i64 (Op.narg.getD i 0 : Nat)) := by
 match i, h with
 | 0, _ => exact ⟨rfl, rfl, rfl⟩
 | 1, _ => exact ⟨rfl, rfl, rfl⟩
 | 2, _ => exact ⟨rfl, rfl, rfl⟩
 | 3, _ => exact ⟨rfl, rfl, rfl⟩
 | 4, _ => exact ⟨rfl, rfl, rfl⟩
 | 5, _ => exact ⟨rfl, rfl, rfl⟩
 | 6, _ => exact ⟨rfl, rfl, rfl⟩
 | 7, _ => exact ⟨rfl, rfl, rfl⟩
 | 8, _ => exact ⟨rfl, rfl, rfl⟩
 | 9, _ => exact ⟨rfl, rfl, rfl⟩
 | 10, _ => exact ⟨rfl, rfl, rfl⟩
 | 11, _ => exact ⟨rfl, rfl, rfl⟩
 | 12, _ => exact ⟨rfl, rfl, rfl⟩
 | 13, _ => exact ⟨rfl, rfl, rfl⟩
 | 14, _ => exact ⟨rfl, rfl, rfl⟩
 | 15, _ => exact ⟨rfl, rfl, rfl⟩
 | 16, _ => exact ⟨rfl, rfl, rfl⟩
 | 17, _ => exact ⟨rfl, rfl, rfl⟩
 | n + 18, h => exact absurd h (by omega)
set_option maxRecDepth 100000 in
theorem opknown_c (op : Int) (w : World) : Calls Tryz.prog 26 #[.int .i64 op] w fun e w' => e = .returned (.bool (decide (Op.known op))) ∧ w' = w := by
 by_cases h1 : 4 ≤ op
 ·by_cases h2 : op ≤ 21
  ·rw [decide_eq_true (show Op.known op from ⟨h1, h2⟩)]
   go_enter Tryz.func26, Tryz.ntmps26
   go_wp2_with fail
   go_ret
   exact ⟨rfl, rfl⟩
  ·rw [decide_eq_false (show ¬ Op.known op from fun h => h2 h.2)]
   go_enter Tryz.func26, Tryz.ntmps26
   go_wp2_with fail
   go_ret
   exact ⟨rfl, rfl⟩
 ·rw [decide_eq_false (show ¬ Op.known op from fun h => h1 h.1)]
  go_enter Tryz.func26, Tryz.ntmps26
  go_wp2_with fail
  go_ret
  exact ⟨rfl, rfl⟩
def Op.kind (op : Int) : Value := .agg #[Op.str (Op.name op), .int .i64 (Op.ins op : Nat), .int .i64 (Op.args op : Nat)]
theorem results_kind {fn : Func} {p : Tmp} (h : fn.results = #[.cell p 90]) (tmps : Array Value) (w : World) (g : Nat) (x y z : Value)
  (hp : tmps.getD p undef = .pointer (some ⟨g, 0, none⟩)) (hg : Has w g 90 [x, y, z]) : (results fn tmps).run Tryz.prog w = .ok (.agg #[x, y, z]) w :=
 results_cell_row h tmps w g 90 #[x, y, z] (0, 0) _ hp hg Tryz.underlying90 rfl (by kernel_rfl)
set_option maxRecDepth 100000 in
set_option maxHeartbeats 2000000 in
theorem opof_c (op : Int) (w : World) (hK : Kz w) : Calls Tryz.prog 60 #[.int .i64 op] w fun e w' => e = .returned (Op.kind op) ∧ Below w.heap.size w w' := by
 have HN := hide (fun W => opknown_c op W)
 have hkl : 2 < w.heap.size := hK.lt
 obtain ⟨W0, hW0⟩ : ∃ W, W = w.alloc (.cells #[.string ⟨#[]⟩, .int .i64 0, .int .i64 0] 90) := ⟨_, rfl⟩
 have HZ : Hid (Has W0 w.heap.size 90 [.string ⟨#[]⟩, .int .i64 0, .int .i64 0]) := hide (by rw [hW0]; exact Has.new _ _ _)
 have HB0 : Hid (Below w.heap.size w W0) := hide (by rw [hW0]; exact (Below.refl _ _).alloc (Nat.le_refl _) _)
 have HK0 := hide (hK.below HB0.out)
 have HW := hide hW0
 by_cases hk : Op.known op
 case neg =>
  have hv : Op.kind op = .agg #[.string ⟨#[]⟩, .int .i64 0, .int .i64 0] := by
   unfold Op.kind Op.name Op.ins Op.args
   rw [if_neg hk, if_neg hk, if_neg hk]
   rfl
  rw [hv]
  rw [decide_eq_false hk] at HN
  obtain ⟨z0, z1, z2, zf0, zf1, zf2, HZf, HFf⟩ := elm_three HZ.out HB0.out (Nat.le_refl _) (.string ⟨#[]⟩) (.int .i64 0) (.int .i64 0)
  clear hK hW0 hk hv
  go_enter Tryz.func60, Tryz.ntmps60
  go_wp2_with fail
  rw [← HW.out]
  clear HW
  refine (HN.out _).mono ?_
  rintro e wq ⟨rfl, hw⟩
  have hw := hw.symm
  subst hw
  go_wp2_with fail
  refine bodyPost_ret (results_kind rfl _ _ w.heap.size _ _ _ rfl HZf.out) rfl ?_
  exact ⟨rfl, HFf.out⟩
 case pos =>
  obtain ⟨i, hi⟩ : ∃ i, Hid ((op - 4).toNat = i) := ⟨_, hide rfl⟩
  have hk1 := hk.1
  have hk2 := hk.2
  have hi18 : i < 18 := by rw [← hi.out]; omega
  have hw4 : IntKind.i64.wrap (op - 4) = (i : Int) := by rw [IntKind.wrap_i64, ← hi.out]; omega
  have hw5 : wrap64 (op - 4) = (i : Int) := by rw [← hi.out]; unfold wrap64; omega
  obtain ⟨c1, c2, c3⟩ := Op.cells_at i hi18
  obtain ⟨nm, hnm⟩ : ∃ x, Hid (Op.nm i = x) := ⟨_, hide rfl⟩
  obtain ⟨ni, hni⟩ : ∃ x, Hid (Op.nin.getD i 0 = x) := ⟨_, hide rfl⟩
  obtain ⟨na, hna⟩ : ∃ x, Hid (Op.narg.getD i 0 = x) := ⟨_, hide rfl⟩
  rw [show Op.str (Op.names.getD i []) = .string (Op.nm i) from rfl, hnm.out] at c1
  rw [hni.out] at c2
  rw [hna.out] at c3
  have hv : Op.kind op = .agg #[.string nm, .int .i64 ni, .int .i64 na] := by
   unfold Op.kind Op.name Op.ins Op.args
   rw [if_pos hk, if_pos hk, if_pos hk, hi.out, show Op.str (Op.names.getD i []) = .string (Op.nm i) from rfl, hnm.out, hni.out, hna.out]
  rw [hv]
  rw [decide_eq_true hk] at HN
  have d1 : W0.cell? ⟨2, i * 3, none⟩ = some (.string nm) := by rw [HK0.out.cell]; exact c1
  have d2 : W0.cell? ⟨2, i * 3 + 1, none⟩ = some (.int .i64 ni) := by rw [HK0.out.cell]; exact c2
  have d3 : W0.cell? ⟨2, i * 3 + 2, none⟩ = some (.int .i64 na) := by rw [HK0.out.cell]; exact c3
  obtain ⟨z0, z1, z2, zf0, zf1, zf2, HZf, HFf⟩ := elm_three HZ.out HB0.out (Nat.le_refl _) (.string nm) (.int .i64 ni) (.int .i64 na)
  have hi0 : (0 : Int) ≤ (i : Int) := by omega
  have hi2 : (i : Int) < 18 := by omega
  clear hK hW0 hk hv hk1 hk2 c1 c2 c3
  go_enter Tryz.func60, Tryz.ntmps60
  go_wp2_with fail
  rw [← HW.out]
  clear HW
  refine (HN.out _).mono ?_
  rintro e wq ⟨rfl, hw⟩
  have hw := hw.symm
  subst hw
  go_wp2_with fail
  refine bodyPost_ret (results_kind rfl _ _ w.heap.size _ _ _ rfl HZf.out) rfl ?_
  exact ⟨rfl, HFf.out⟩
set_option maxRecDepth 100000 in
theorem opins_c (op : Int) (w : World) (hK : Kz w) : Calls Tryz.prog 27 #[.int .i64 op] w fun e w' => e = .returned (.int .i64 (Op.ins op : Nat)) ∧ Below w.heap.size w w' := by
 have HF := hide (opof_c op w hK)
 obtain ⟨nm, hnm⟩ : ∃ x, Hid (Op.str (Op.name op) = x) := ⟨_, hide rfl⟩
 obtain ⟨ni, hni⟩ : ∃ x, Hid (Value.int .i64 (Op.ins op : Nat) = x) := ⟨_, hide rfl⟩
 obtain ⟨na, hna⟩ : ∃ x, Hid (Value.int .i64 (Op.args op : Nat) = x) := ⟨_, hide rfl⟩
 unfold Op.kind at HF
 rw [hnm.out, hni.out, hna.out] at HF
 rw [hni.out]
 have hfd : ∀ W, (Instr.field 90 (.agg #[nm, ni, na]) 1).run Tryz.prog W = .ok ni W := fun _ => by kernel_rfl
 clear hK hnm hni hna
 go_enter Tryz.func27, Tryz.ntmps27
 go_wp2_with fail
 refine HF.out.mono ?_
 rintro e w1 ⟨rfl, hb⟩
 have HB := hide hb
 clear hb HF
 go_wp2_with fail
 go_ret
 exact ⟨rfl, HB.out⟩
set_option maxRecDepth 100000 in
theorem opargs_c (op : Int) (w : World) (hK : Kz w) : Calls Tryz.prog 29 #[.int .i64 op] w fun e w' => e = .returned (.int .i64 (Op.args op : Nat)) ∧ Below w.heap.size w w' := by
 have HF := hide (opof_c op w hK)
 obtain ⟨nm, hnm⟩ : ∃ x, Hid (Op.str (Op.name op) = x) := ⟨_, hide rfl⟩
 obtain ⟨ni, hni⟩ : ∃ x, Hid (Value.int .i64 (Op.ins op : Nat) = x) := ⟨_, hide rfl⟩
 obtain ⟨na, hna⟩ : ∃ x, Hid (Value.int .i64 (Op.args op : Nat) = x) := ⟨_, hide rfl⟩
 unfold Op.kind at HF
 rw [hnm.out, hni.out, hna.out] at HF
 rw [hna.out]
 have hfd : ∀ W, (Instr.field 90 (.agg #[nm, ni, na]) 2).run Tryz.prog W = .ok na W := fun _ => by kernel_rfl
 clear hK hnm hni hna
 go_enter Tryz.func29, Tryz.ntmps29
 go_wp2_with fail
 refine HF.out.mono ?_
 rintro e w1 ⟨rfl, hb⟩
 have HB := hide hb
 clear hb HF
 go_wp2_with fail
 go_ret
 exact ⟨rfl, HB.out⟩
set_option maxRecDepth 100000 in
theorem opname_c (op : Int) (w : World) (hK : Kz w) : Calls Tryz.prog 24 #[.int .i64 op] w fun e w' => e = .returned (Op.str (Op.name op)) ∧ Below w.heap.size w w' := by
 have HF := hide (opof_c op w hK)
 obtain ⟨nm, hnm⟩ : ∃ x, Hid (Op.str (Op.name op) = x) := ⟨_, hide rfl⟩
 obtain ⟨ni, hni⟩ : ∃ x, Hid (Value.int .i64 (Op.ins op : Nat) = x) := ⟨_, hide rfl⟩
 obtain ⟨na, hna⟩ : ∃ x, Hid (Value.int .i64 (Op.args op : Nat) = x) := ⟨_, hide rfl⟩
 unfold Op.kind at HF
 rw [hnm.out, hni.out, hna.out] at HF
 rw [hnm.out]
 have hfd : ∀ W, (Instr.field 90 (.agg #[nm, ni, na]) 0).run Tryz.prog W = .ok nm W := fun _ => by kernel_rfl
 clear hK hnm hni hna
 go_enter Tryz.func24, Tryz.ntmps24
 go_wp2_with fail
 refine HF.out.mono ?_
 rintro e w1 ⟨rfl, hb⟩
 have HB := hide hb
 clear hb HF
 go_wp2_with fail
 go_ret
 exact ⟨rfl, HB.out⟩
def Op.hit (s : ByteArray) (i : Nat) : Bool := (Op.nm i).toList == s.toList
def Op.find (s : ByteArray) : Int := match (List.range 18).find? (Op.hit s) with
 | some i => 4 + (i : Int)
 | none => 0
theorem Op.find_hit {s : ByteArray} {i : Nat} (hi : i < 18) (h : Op.hit s i = true) (hn : ∀ j, j < i → Op.hit s j = false) : Op.find s = 4 + (i : Int) := by
 unfold Op.find
 rw [List.find?_range_eq_some.2 ⟨h, List.mem_range.2 hi, fun j hj => by rw [hn j hj]; rfl⟩]
theorem Op.find_none {s : ByteArray} (hn : ∀ j, j < 18 → Op.hit s j = false) : Op.find s = 0 := by
 unfold Op.find
 rw [List.find?_range_eq_none.2 (fun j hj => by rw [hn j hj]; rfl)]
theorem Op.index_at (K : Array Value) (hK : K = Op.kcells.toArray) (i : Nat) (h : i < 18) (W : World) : (Instr.index 91 (.agg K) (.int .i64 i)).run Tryz.prog W = .ok (.agg #[.string (Op.nm i), .int .i64 (Op.nin.getD i 0 : Nat), .int .i64 (Op.narg.getD i 0 : Nat)]) W := by
 subst hK
 match i, h with
 | 0, _ => show _ = _; kernel_rfl
 | 1, _ => show _ = _; kernel_rfl
 | 2, _ => show _ = _; kernel_rfl
 | 3, _ => show _ = _; kernel_rfl
 | 4, _ => show _ = _; kernel_rfl
 | 5, _ => show _ = _; kernel_rfl
 | 6, _ => show _ = _; kernel_rfl
 | 7, _ => show _ = _; kernel_rfl
 | 8, _ => show _ = _; kernel_rfl
 | 9, _ => show _ = _; kernel_rfl
 | 10, _ => show _ = _; kernel_rfl
 | 11, _ => show _ = _; kernel_rfl
 | 12, _ => show _ = _; kernel_rfl
 | 13, _ => show _ = _; kernel_rfl
 | 14, _ => show _ = _; kernel_rfl
 | 15, _ => show _ = _; kernel_rfl
 | 16, _ => show _ = _; kernel_rfl
 | 17, _ => show _ = _; kernel_rfl
 | n + 18, h => exact absurd h (by omega)
set_option maxRecDepth 100000 in
set_option maxHeartbeats 2000000 in
theorem opnamed_c (s : ByteArray) (w : World) (hK : Kz w) : Calls Tryz.prog 23 #[.string s] w fun e w' => e = .returned (.tuple #[.int .i64 (Op.find s), .bool (Op.find s != 0)]) ∧ Below w.heap.size w w' := by
 obtain ⟨K, hKK⟩ : ∃ K, Hid (K = Op.kcells.toArray) := ⟨_, hide rfl⟩
 have HI := hide (Op.index_at K hKK.out)
 obtain ⟨tk, hK⟩ := hK
 have HG : w.heap[2]? = some (.cells K tk (0, 0)) := by rw [hKK.out]; exact hK
 have hKs := hide (show (Tryz.prog.info? 91).map (·.size) = some K.size by rw [hKK.out]; kernel_rfl)
 have HKG := hide HG
 clear hK hKK HG
 go_enter Tryz.func23, Tryz.ntmps23
 go_wp2_with (refine wpList_load_row rfl 91 _ rfl 2 rfl tk K (0, 0) _ HKG.out Tryz.underlying91 rfl hKs.out ?_)
 have HB := hide (Below.refl w.heap.size w)
 go_loopg [7] 18 (fun gq k wr => ∃ i : Nat, gq + i = 18 ∧ k = .int .i64 i ∧ Hid (∀ j, j < i → Op.hit s j = false) ∧ Hid (Below w.heap.size w wr))
 case atStart => exact ⟨0, by omega, rfl, hide (fun j hj => by omega), HB⟩
 case round =>
  clear HB
  obtain ⟨i, hi9, rfl, HH, HB⟩ := hrel
  by_cases hlt : i < 18
  ·have hii : (i : Int) < 18 := by omega
   have hi0 : (0 : Int) ≤ (i : Int) := by omega
   have hix := HI.out i hlt
   obtain ⟨nm, hnm⟩ : ∃ x, Hid (Op.nm i = x) := ⟨_, hide rfl⟩
   obtain ⟨ni, hni⟩ : ∃ x, Hid (((Op.nin.getD i 0 : Nat) : Int) = x) := ⟨_, hide rfl⟩
   obtain ⟨na, hna⟩ : ∃ x, Hid (((Op.narg.getD i 0 : Nat) : Int) = x) := ⟨_, hide rfl⟩
   rw [hnm.out, hni.out, hna.out] at hix
   have HB2 := hide (HB.out.alloc HB.out.size (.cells #[.string nm, .int .i64 ni, .int .i64 na] 90))
   cases hh : Op.hit s i with
   | false =>
    have hq : (nm.toList == s.toList) = false := by rw [← hnm.out]; exact hh
    have HH2 := hide hh
    clear hh hni hna
    go_wp2_with fail
    go_roundg (18 - (i + 1))
    case measure => omega
    case rel =>
     refine ⟨i + 1, by omega, by go_num, hide (fun j hj => ?_), HB2⟩
     by_cases e : j = i
     ·rw [e]; exact HH2.out
     ·exact HH.out j (by omega)
   | true =>
    have hq : (nm.toList == s.toList) = true := by rw [← hnm.out]; exact hh
    have hf := Op.find_hit hlt hh HH.out
    have hi4 : IntKind.i64.wrap (4 + (i : Int)) = 4 + (i : Int) := by rw [IntKind.wrap_i64]; omega
    have hne : (Op.find s != 0) = true := by rw [hf]; simp; omega
    have Hne := hide hne
    have Hf := hide hf
    clear hh hni hna hne hf
    go_wp2_with fail
    refine bodyPost_ret (results_two rfl _ _) rfl ?_
    exact ⟨by rw [Hne.out, Hf.out]; rfl, HB2.out⟩
  ·obtain rfl : i = 18 := by omega
   have hii : ¬ ((18 : Nat) : Int) < 18 := by omega
   have Hf := hide (Op.find_none HH.out)
   go_wp2_with fail
   refine bodyPost_ret (results_two rfl _ _) rfl ?_
   exact ⟨by rw [Hf.out]; rfl, HB.out⟩
end Go.Proofs.YtgdcfjmpjhlndaaGreatDoor
