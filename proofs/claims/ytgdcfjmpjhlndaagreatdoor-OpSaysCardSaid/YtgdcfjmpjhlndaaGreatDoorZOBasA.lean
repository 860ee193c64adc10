/-
  What the walks of every seat lean on: hiding, worlds below, slices of ints that came in. (In the seat of package flt the texts FltC and FltIn give these.) By an AI agent. No person has read it.
-/
import Derived.Test.YtgdcfjmpjhlndaaGreatDoorRows
import Derived.Test.YtgdcfjmpjhlndaaGreatDoorChecked
import Derived.ProofKit
import Derived.StillTailTactics
import Derived.LoopN
import Derived.Lib.Hide
import Derived.WalkLawsBesides
import Derived.Laws.Rows
import Derived.Maps.AppendAt
import Derived.Laws.MakeOwn
import Derived.OpenShut
import Derived.ChangeOld
import Derived.Deep.QuietTactic
import Derived.BigQuiet
import Derived.Laws.OwnMore
namespace Go.Proofs.YtgdcfjmpjhlndaaGreatDoor
open Go.RowKit
theorem hide {p : Prop} (h : p) : Hid p := h
theorem ad_block (a : Addr) (n : Nat) : (a.add n).block = a.block := by unfold Addr.add; split <;> rfl
theorem below_drewN {B : Nat} {a w : World} (h : Below B a w) (n : Nat) : Below B a (w.drewN n) := h.trans ⟨rfl, rfl, rfl, Nat.le_refl _, fun _ _ => rfl⟩
theorem below_row {W wr w' : World} {o : Obj} {e : TypeId} {size n : Nat} {v : Value} {xs : List Value} (hB : Below W.heap.size W wr) (ho : wr.ownsRow W.heap.size e size v n xs) (hg : (wr.alloc o).grownBy w' v.ownBlock) : Below W.heap.size W w' :=
 (hB.alloc hB.size o).grown hg (by simp; have := hB.size; omega) fun k hk => (ho.lt k hk).1
theorem new_cells (w : World) (t : TypeId) (xs : List Value) : ∀ (j : Nat) (u : Value), xs[j]? = some u → (w.alloc (.cells xs.toArray t)).cell? ((⟨w.heap.size, 0, none⟩ : Addr).add j) = some u := by
 intro j u hj
 rw [Addr.add_lit, cell_of_row _ w.heap.size (0 + j) _ t (0, 0) (heap_alloc_new w _), Nat.zero_add]
 simpa using hj
def Ri (w : World) (P : Option Addr) (zs : List Int) : Prop := (∀ z ∈ zs, (Lit.int .i64 z).wf = true) ∧ (zs ≠ [] → ∃ ad, P = some ad ∧ ad.block < w.heap.size ∧ ∀ (i : Nat) (z : Int), zs[i]? = some z → w.cell? (ad.add i) = some (.int .i64 z))
theorem Ri.below {w wr : World} {P : Option Addr} {zs : List Int} (h : Ri w P zs) (hb : Below w.heap.size w wr) : Ri wr P zs := by
 refine ⟨h.1, fun hn => ?_⟩
 obtain ⟨ad, e, h1, h2⟩ := h.2 hn
 refine ⟨ad, e, Nat.lt_of_lt_of_le h1 hb.size, fun i b hi => ?_⟩
 rw [hb.cell (p := ad.add i) (by rw [ad_block]; exact h1)]
 exact h2 i b hi
theorem ri_at {w : World} {P : Option Addr} {zs : List Int} (h : Ri w P zs) (i : Nat) (hi : i < zs.length) : ∃ ad z, P = some ad ∧ Hid (zs[i]? = some z) ∧ w.cell? (ad.add i) = some (.int .i64 z) := by
 obtain ⟨ad, e, -, h2⟩ := h.2 (fun hn => by rw [hn] at hi; simp at hi)
 exact ⟨ad, zs[i], e, hide (List.getElem?_eq_getElem hi), h2 i _ (List.getElem?_eq_getElem hi)⟩
theorem Ri.nil (w : World) (P : Option Addr) : Ri w P [] := ⟨fun z hz => by simp at hz, fun h => absurd rfl h⟩
theorem i64_wf {n : Int} (h : (Lit.int .i64 n).wf = true) : -9223372036854775808 ≤ n ∧ n ≤ 9223372036854775807 := by
 simp only [Lit.wf, Bool.and_eq_true, decide_eq_true_eq] at h
 have e1 : IntKind.i64.min = -9223372036854775808 := by decide
 have e2 : IntKind.i64.max = 9223372036854775807 := by decide
 omega
end Go.Proofs.YtgdcfjmpjhlndaaGreatDoor
namespace Go.Proofs.YtgdcfjmpjhlndaaGreatDoor
open Go.ChangeShapes Go.WideShapes Go.ChangeAt Go.RowKit
abbrev u8s (bs : List Nat) : List Value := bs.map fun n => Value.int .u8 (n : Nat)
def Has (w : World) (g : Nat) (t : TypeId) (cs : List Value) : Prop := w.heap[g]? = some (.cells cs.toArray t (0, 0))
section
variable {w w' : World} {g : Nat} {t : TypeId} {cs : List Value}
theorem Has.lt (h : Has w g t cs) : g < w.heap.size := by
 rcases Nat.lt_or_ge g w.heap.size with hlt | hge
 ·exact hlt
 ·unfold Has at h; rw [Array.getElem?_eq_none hge] at h; cases h
theorem Has.cell (h : Has w g t cs) (i : Nat) : w.cell? ⟨g, i, none⟩ = cs[i]? := by
 rw [cell_of_row w g i cs.toArray t (0, 0) h]; simp
theorem Has.frozen (h : Has w g t cs) (i : Nat) : w.frozen? ⟨g, i, none⟩ = false := by
 unfold Has at h
 simp [World.frozen?, h]
theorem Has.new (w : World) (t : TypeId) (cs : List Value) : Has (w.alloc (.cells cs.toArray t)) w.heap.size t cs := heap_alloc_new w _
theorem Has.drewN (h : Has w g t cs) (n : Nat) : Has (w.drewN n) g t cs := h
theorem Has.alloc (h : Has w g t cs) (o : Obj) : Has (w.alloc o) g t cs := (Below.heap_alloc w o g h.lt).trans h
theorem Has.set_ (h : Has w g t cs) (i : Nat) (u : Value) : Has (w.setCell ⟨g, i, none⟩ u) g t (cs.set i u) := by
 unfold Has at h ⊢
 simp [World.setCell, Array.getElem?_modify, h]
theorem Has.far (h : Has w g t cs) {p : Addr} (hp : g ≠ p.block) (u : Value) : Has (w.setCell p u) g t cs := (Below.heap_setCell w p u g hp).trans h
theorem Has.below {B : Nat} (h : Has w g t cs) (hb : Below B w w') (hg : g < B) : Has w' g t cs := (hb.block g hg).trans h
theorem Has.grown {row : Option Nat} (h : Has w g t cs) (hb : w.grownBy w' row) (hg : some g ≠ row) : Has w' g t cs := (hb.block g h.lt hg).trans h
end
def Rb (w : World) (A : Option Addr) (bs : List Nat) : Prop := (∀ b ∈ bs, b < 256) ∧ (bs ≠ [] → ∃ ad, A = some ad ∧ ad.block < w.heap.size ∧ ∀ (i b : Nat), bs[i]? = some b → w.cell? (ad.add i) = some (.int .u8 b))
theorem Rb.below {w wr : World} {A : Option Addr} {bs : List Nat} (h : Rb w A bs) (hb : Below w.heap.size w wr) : Rb wr A bs := by
 refine ⟨h.1, fun hn => ?_⟩
 obtain ⟨ad, e, h1, h2⟩ := h.2 hn
 refine ⟨ad, e, Nat.lt_of_lt_of_le h1 hb.size, fun i b hi => ?_⟩
 rw [hb.cell (p := ad.add i) (by rw [ad_block]; exact h1)]
 exact h2 i b hi
theorem Rb.nil (w : World) (A : Option Addr) : Rb w A [] := ⟨fun b hb => by simp at hb, fun h => absurd rfl h⟩
theorem Has.rb {w : World} {g : Nat} {t : TypeId} {bs : List Nat} (h : Has w g t (u8s bs)) (hb : ∀ b ∈ bs, b < 256) : Rb w (some ⟨g, 0, none⟩) bs :=
 ⟨hb, fun _ => ⟨_, rfl, h.lt, fun i b hi => by rw [Addr.add_lit, h.cell, Nat.zero_add]; simp [hi]⟩⟩
end Go.Proofs.YtgdcfjmpjhlndaaGreatDoor
namespace Go.Proofs.YtgdcfjmpjhlndaaGreatDoor
open Go.RowKit
abbrev i64s (zs : List Int) : List Value := zs.map fun z => Value.int .i64 z
theorem i64info : ∃ i : TypeInfo, Tryz.prog.info? 3 = some i ∧ i.zero = some (.int .i64 0) ∧ i.size = 1 ∧ i.bytes = 8 := by
 obtain ⟨i, hi⟩ : ∃ i, Tryz.prog.info? 3 = some i := by
  refine Option.isSome_iff_exists.1 ?_
  kernel_rfl
 have h1 : (Tryz.prog.info? 3).bind (·.zero) = some (.int .i64 0) := by kernel_rfl
 have h2 : (Tryz.prog.info? 3).map (·.size) = some 1 := by kernel_rfl
 have h3 : (Tryz.prog.info? 3).map (·.bytes) = some 8 := by kernel_rfl
 rw [hi] at h1 h2 h3
 exact ⟨i, hi, by simpa using h1, by simpa using h2, by simpa using h3⟩
theorem uis : Tryz.prog.underlying 22 = some (.slice 3) := by kernel_rfl
theorem made_ints (n : Nat) (hn : n ≤ 1000000) : ∃ Z : Array Value, Hid (Z = (i64s (List.replicate n 0)).toArray) ∧ ∀ w : World, (Instr.makeSlice 22 (.int .i64 n) (.int .i64 n)).run Tryz.prog w = .ok (.slice (some ⟨w.heap.size, 0, none⟩) n n) (w.alloc (.cells Z 3)) := by
 obtain ⟨i0, hi0, hz0, hz1, hz2⟩ := i64info
 refine ⟨madeCells (Value.int .i64 0).cells n, hide ?_, fun w => ?_⟩
 ·apply Array.ext'
  rw [show (Value.int .i64 0).cells = #[Value.int .i64 0] from rfl, toList_madeCells_one]
  simp
 ·have h := run_make (P := Tryz.prog) w 22 3 i0 (.int .i64 0) uis hi0 hz0 .i64 .i64 (n : Int) (n : Int) (by omega) (by omega) (by rw [hz2]; omega) (by omega)
  rw [hz1, Int.toNat_natCast, Nat.mul_one] at h
  exact h
theorem Has.ri {w : World} {g : Nat} {t : TypeId} {zs : List Int} (h : Has w g t (i64s zs)) (hb : ∀ z ∈ zs, (Lit.int .i64 z).wf = true) : Ri w (some ⟨g, 0, none⟩) zs :=
 ⟨hb, fun _ => ⟨_, rfl, h.lt, fun i z hi => by rw [Addr.add_lit, h.cell, Nat.zero_add]; simp [hi]⟩⟩
theorem wf_i64 (z : Int) (h : -9223372036854775808 ≤ z ∧ z ≤ 9223372036854775807) : (Lit.int .i64 z).wf = true := by
 simp only [Lit.wf, Bool.and_eq_true, decide_eq_true_eq]
 have e1 : IntKind.i64.min = -9223372036854775808 := by decide
 have e2 : IntKind.i64.max = 9223372036854775807 := by decide
 omega
end Go.Proofs.YtgdcfjmpjhlndaaGreatDoor
namespace Go.Proofs.YtgdcfjmpjhlndaaGreatDoor
open Go.RowKit
def Tens.wide (n : Int) : Int := (n + 2147483648) % 4294967296 - 2147483648
def Tens.narrow (n : Int) : Int := max (-128) (min n 127)
theorem wide_c (n : Int) (w : World) : Calls Tryz.prog 121 #[.int .i64 n] w fun e w' => e = .returned (.int .i64 (Tens.wide n)) ∧ w' = w := by
 have h1 : IntKind.i32.wrap n = Tens.wide n := by rw [IntKind.wrap_i32]; rfl
 have h2 : IntKind.i64.wrap (Tens.wide n) = Tens.wide n := by rw [IntKind.wrap_i64]; unfold Tens.wide; omega
 obtain ⟨q, hq⟩ : ∃ q, Hid (Tens.wide n = q) := ⟨_, hide rfl⟩
 rw [hq.out] at h1 h2 ⊢
 clear hq
 go_enter Tryz.func121, Tryz.ntmps121
 go_wp2_with fail
 go_ret
 exact ⟨rfl, rfl⟩
theorem narrow_c (n : Int) (w : World) : Calls Tryz.prog 115 #[.int .i64 n] w fun e w' => e = .returned (.int .i64 (Tens.narrow n)) ∧ w' = w := by
 by_cases h1 : n < -128
 ·have e : Tens.narrow n = -128 := by unfold Tens.narrow; omega
  rw [e]
  go_enter Tryz.func115, Tryz.ntmps115
  go_wp2_with fail
  all_goals go_ret
  all_goals refine ⟨?_, rfl⟩
  all_goals first | rfl | (obtain rfl : n = -128 := (by omega); rfl)
 ·by_cases h2 : 127 < n
  ·have e : Tens.narrow n = 127 := by unfold Tens.narrow; omega
   rw [e]
   go_enter Tryz.func115, Tryz.ntmps115
   go_wp2_with fail
   all_goals go_ret
   all_goals refine ⟨?_, rfl⟩
   all_goals first | rfl | (obtain rfl : n = -128 := (by omega); rfl)
  ·have e : Tens.narrow n = n := by unfold Tens.narrow; omega
   rw [e]
   go_enter Tryz.func115, Tryz.ntmps115
   go_wp2_with fail
   all_goals go_ret
   all_goals refine ⟨?_, rfl⟩
   all_goals first | rfl | (obtain rfl : n = -128 := (by omega); rfl)
end Go.Proofs.YtgdcfjmpjhlndaaGreatDoor
