/-
  What the card of QuantFits opens: a slice of numbers of 64 bits. By an AI agent. No person has read it.
-/
import Derived.Test.YtboighnmgnjhdaaDoorQuaCard
import Derived.Test.YtboighnmgnjhdaaDoorQvK
import Derived.Test.YtboighnmgnjhdaaDoorQvL
namespace Go.Proofs.YtboighnmgnjhdaaDoor
open Go.ChangeShapes Go.WideShapes Go.ChangeAt Go.RowKit

theorem uBytes : Tryd.prog.underlying 53 = some (.slice 5) := ubs
theorem uFloats : Tryd.prog.underlying 22 = some (.slice 27) := by kernel_rfl
abbrev Rf := Fl
section
variable {H : Type} {enc : TypeId × Value → H} {P : Program} {w : World} {base : Nat} {spare : Nat → Bool} {held : Bool}
theorem trod_float {t : TypeId} {k : FloatKind} {fuel : Nat} {cs : List Value} {x : DataW H × List MemPlace} (ht : P.underlying t = some (.float k)) (h : DataW.trod enc P w base spare held fuel t cs = some x) : ∃ n, cs = [.float k n] ∧ (Lit.float k n).wf = true := by
  cases fuel with
  | zero => simp [DataW.trod] at h
  | succ n =>
    unfold DataW.trod at h
    rw [ht] at h
    split at h <;> simp_all
end
theorem open_floats {H : Type} {enc : TypeId × Value → H} {W : World} {A : Option Addr} {len cap fuel : Nat} {x : DataW H × List MemPlace} {sp : Nat → Bool} {held : Bool} {base : Nat}
    (h : DataW.trod enc Tryd.prog W base sp held fuel 22 [.slice A len cap] = some x) :
    ∃ xs : List Nat, xs.length = len ∧ Fl W A xs ∧ len ≤ cap ∧ cap ≤ 9223372036854775807 := by
  rcases DataW.trod_slice uFloats h with ⟨hcs, -⟩ | ⟨a, l, c, elems, rest, n, _, hcs, -, hb, hl, hm, hlen, hel, -, -⟩
  · simp at hcs
    obtain ⟨rfl, rfl, rfl⟩ := hcs
    exact ⟨[], rfl, ⟨fun x hx => by simp at hx, fun i x hi => by simp at hi⟩, by omega, by omega⟩
  · simp at hcs
    obtain ⟨rfl, rfl, rfl⟩ := hcs
    have each : ∀ i, i < len → ∃ n, W.cell? (a.add i) = some (.float .f64 n) ∧ n < 18446744073709551616 := by
      intro i hi
      have he := hel i hi
      have hc : Tryd.prog.cellsOf 27 = 1 := by kernel_rfl
      rw [hc, Nat.mul_one, List.getElem?_eq_getElem (by omega), Option.bind_eq_some_iff] at he
      obtain ⟨cs, h1, h2⟩ := he
      obtain ⟨n, rfl, hw⟩ := trod_float uFloat h2
      exact ⟨n, cell_of_cells?_one h1, f64_lt hw⟩
    let f : Nat → Nat := fun i => if hi : i < len then (each i hi).choose else 0
    have hf : ∀ i, i < len → W.cell? (a.add i) = some (.float .f64 (f i)) ∧ f i < 18446744073709551616 := fun i hi => by
      have e : f i = (each i hi).choose := dif_pos hi
      rw [e]
      exact (each i hi).choose_spec
    refine ⟨(List.range len).map f, by simp, ⟨fun y hy => ?_, fun i y hi => ⟨a, rfl, ?_, ?_⟩⟩, hl, by unfold maxLen at hm; omega⟩
    · obtain ⟨i, hi, rfl⟩ := List.mem_map.1 hy
      exact (hf i (by simpa using hi)).2
    · have hlt : i < len := by
        have := (List.getElem?_eq_some_iff.1 hi).1
        simpa using this
      have h0 := World.block_lt_of_cell? W _ (hf i hlt).1
      rwa [block_add] at h0
    · have hlt : i < len := by
        have := (List.getElem?_eq_some_iff.1 hi).1
        simpa using this
      rw [List.getElem?_map, List.getElem?_range hlt] at hi
      obtain rfl := Option.some.inj hi
      exact (hf i hlt).1
theorem fitslaw_c (xs : List Nat) (A : Option Addr) (cap : Nat) (bs : List Nat) (B : Option Addr) (capb : Nat) (es : List Addr) (w : World) (hr : Fl w A xs) (hq : Rb w B bs) (hE : Ez w es) (hcb : bs.length ≤ capb) (hcb2 : capb ≤ 9223372036854775807) :
    Calls Tryd.prog 6 #[.slice A xs.length cap, .slice B bs.length capb] w fun e w' => e = .returned (.bool true) ∧ Below w.heap.size w w' := by
  rcases Nat.lt_or_ge 40 xs.length with h | h
  · exact fits_great xs A cap bs B capb w (.inl h)
  · rcases Nat.lt_or_ge 20 bs.length with h2 | h2
    · exact fits_great xs A cap bs B capb w (.inr ⟨h, h2⟩)
    · exact fits_small xs A cap bs B capb es w hr hq hE h h2 hcb hcb2
end Go.Proofs.YtboighnmgnjhdaaDoor
