/-
  What the law TensBytes asks for: each side's answer in one form. What the law TensBytes' walk holds in memory, and what each call says. By an AI agent. No person has read it.
-/
import Derived.Test.YthjnkaikjjjceaaDoorPaTenRo
import Derived.Test.YthjnkaikjjjceaaDoorPaTenRi
import Derived.Test.YthjnkaikjjjceaaDoorPaTenF
import Derived.Deep.RegionHeld3
namespace Go.Proofs.YthjnkaikjjjceaaDoor
open Go.RowKit
/-- An error that is told by a number: 0 is none. -/
def ErrK (es : List Addr) (k : Nat) (ev : Value) : Prop := (k = 0 ∧ ev = .nilIface) ∨ ∃ (j : Nat) (a : Addr), es[j]? = some a ∧ ev = errv a ∧ k = 101 + j
theorem Tens.nums_wf (u : Bool) (bs : List Nat) (hb : ∀ b ∈ bs, b < 256) : ∀ z ∈ Tens.nums u bs, (Lit.int .i64 z).wf = true := by
  intro z hz
  unfold Tens.nums at hz
  split at hz
  · obtain ⟨i, _, rfl⟩ := List.mem_map.1 hz
    exact wf_i64 _ (by unfold Tens.wide; omega)
  · obtain ⟨b, h, rfl⟩ := List.mem_map.1 hz
    have := num1_bounds b (hb b h)
    exact wf_i64 _ (by omega)
theorem Tens.nums_le (u : Bool) (bs : List Nat) : (Tens.nums u bs).length ≤ bs.length := by
  rw [Tens.nums_length]
  split <;> omega
/-- A tensor that came back, and its row in memory. -/
structure TIs (W : World) (Q D : Option Addr) (a : List Int) (b : List Int) : Prop where
  shp : Ri W Q a
  dat : Ri W D b
  la : a.length ≤ 1000000
  lb : b.length ≤ 1000000
theorem TIs.below {w W : World} {Q D : Option Addr} {a b : List Int} (h : TIs w Q D a b) (hb : Below w.heap.size w W) : TIs W Q D a b := ⟨h.shp.below hb, h.dat.below hb, h.la, h.lb⟩
/-- What Read says. -/
def Tens.rez (bs : List Nat) : List Int := if Tens.rcode bs = 0 then Tens.rdims bs else []
def Tens.reu (bs : List Nat) : Bool := if Tens.rcode bs = 0 then Tens.ru bs else false
def Tens.red (bs : List Nat) : List Int := if Tens.rcode bs = 0 then Tens.nums (Tens.ru bs) ((bs.take (Tens.rn bs + Tens.rs bs)).drop (Tens.rn bs)) else []
def Tens.ren (bs : List Nat) : Nat := if Tens.rcode bs = 0 then Tens.rn bs + Tens.rs bs else 0
theorem Tens.rdims_wf (bs : List Nat) (hb : ∀ b ∈ bs, b < 256) : (∀ z ∈ Tens.rdims bs, (Lit.int .i64 z).wf = true) ∧ (Tens.rdims bs).length ≤ 1000000 := by
  match bs, hb with
  | [], _ => exact ⟨fun z hz => by simp [Tens.rdims] at hz, by simp [Tens.rdims]⟩
  | h :: t, hb =>
    refine ⟨Pk.dims_wf (h % 8) (h :: t) hb, ?_⟩
    show (Pk.dims (h % 8) (h :: t)).length ≤ 1000000
    rw [Pk.dims_length]
    omega
theorem Tens.rcode_is (bs : List Nat) : Tens.rcode bs = 0 ∨ Tens.rcode bs = 102 ∨ Tens.rcode bs = 103 ∨ Tens.rcode bs = 104 ∨ Tens.rcode bs = 105 := by
  have hk := Shp.code_is (Tens.rdims bs)
  have hp : Pk.code bs = 0 ∨ Pk.code bs = 103 ∨ Pk.code bs = 105 := by
    match bs with
    | [] => exact .inr (.inr rfl)
    | h :: t =>
      have e : Pk.code (h :: t) = if 15 < h then 103 else if t.length < 2 * (h % 8) then 105 else 0 := rfl
      rw [e]
      by_cases a : 15 < h <;> by_cases b : t.length < 2 * (h % 8) <;> simp [a, b]
  unfold Tens.rcode
  split
  · omega
  · split
    · omega
    · split
      · exact .inr (.inr (.inr (.inr rfl)))
      · exact .inl rfl
/-- Blocks, rows of ints, rows of bytes that are known. -/
structure Mem (W : World) (bl : List (Nat × TypeId × List Value)) (ris : List (Option Addr × List Int)) (rbs : List (Option Addr × List Nat)) : Prop where
  has : ∀ (i : Nat) x, bl[i]? = some x → Has W x.1 x.2.1 x.2.2
  ri : ∀ (i : Nat) x, ris[i]? = some x → Ri W x.1 x.2
  rb : ∀ (i : Nat) x, rbs[i]? = some x → Rb W x.1 x.2
theorem Mem.below {W W' : World} {bl : List (Nat × TypeId × List Value)} {ris : List (Option Addr × List Int)} {rbs : List (Option Addr × List Nat)} (h : Mem W bl ris rbs) (hb : Below W.heap.size W W') : Mem W' bl ris rbs :=
  ⟨fun i x hx => (h.has i x hx).below hb (h.has i x hx).lt, fun i x hx => (h.ri i x hx).below hb, fun i x hx => (h.rb i x hx).below hb⟩
theorem Mem.alloc {W : World} {bl : List (Nat × TypeId × List Value)} {ris : List (Option Addr × List Int)} {rbs : List (Option Addr × List Nat)} (h : Mem W bl ris rbs) (c : Array Value) (t : TypeId) :
    Mem (W.alloc (Obj.cells c t)) ((W.heap.size, t, c.toList) :: bl) ris rbs := by
  have k := h.below ((Below.refl W.heap.size W).alloc (Nat.le_refl _) (Obj.cells c t))
  refine ⟨fun i x hx => ?_, k.ri, k.rb⟩
  cases i with
  | zero =>
    cases hx
    exact Has.new W t c.toList
  | succ i => exact k.has i x hx
end Go.Proofs.YthjnkaikjjjceaaDoor
