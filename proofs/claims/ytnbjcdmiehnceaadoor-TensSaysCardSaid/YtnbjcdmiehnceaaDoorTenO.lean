/-
  lodgesee.Same of what package tens's Valid tells. By an AI agent. No person has read it.
-/
import Derived.Test.YtnbjcdmiehnceaaDoorTenL
import Derived.Test.YtnbjcdmiehnceaaDoorShpE
namespace Go.Proofs.YtnbjcdmiehnceaaDoor
open Go.RowKit

theorem TErr.below {W W' : World} {ah am ar : Addr} {v : Value} {R : Nat × Option Nat} (h : TErr W ah am ar v R) (hb : Below W.heap.size W W') : TErr W' ah am ar v R := by
  match R, h with
  | (_, none), h => exact h
  | (_, some _), ⟨g, e, h⟩ => exact ⟨g, e, h.below hb h.lt⟩
theorem same_terr {es : List Addr} {ah am ar : Addr} (hah : es[0]? = some ah) (ham : es[3]? = some am) (har : es[1]? = some ar) (v : Value) (R : Nat × Option Nat) (hc : R = (0, none) ∨ R = (101, none) ∨ R = (102, none) ∨ R = (104, none) ∨ ∃ i, R = (102, some i)) (w : World) (h : Ez w es) (ht : TErr w ah am ar v R) :
    Calls Tryd.prog 43 #[v, .agg (Tens.fval R)] w fun e w' => e = .returned (.bool true) ∧ Below w.heap.size w w' := by
  rcases hc with rfl | rfl | rfl | rfl | ⟨i, rfl⟩
  · obtain rfl : v = .nilIface := ht
    exact same_g .nilIface 0 0 false w fun w' _ => fault_nil w'
  · obtain rfl : v = errv ah := ht
    exact same_g (errv ah) 101 0 false w fun w' hb => fault_c es 0 ah hah w' (h.below hb)
  · obtain rfl : v = errv ar := ht
    exact same_g (errv ar) 102 0 false w fun w' hb => fault_c es 1 ar har w' (h.below hb)
  · obtain rfl : v = errv am := ht
    exact same_g (errv am) 104 0 false w fun w' hb => fault_c es 3 am ham w' (h.below hb)
  · obtain ⟨g, rfl, hA⟩ := ht
    exact same_g _ 102 (i : Int) true w fun w' hb => fault_at es 1 ar har g (i : Int) w' (h.below hb) (hA.below hb hA.lt)
end Go.Proofs.YtnbjcdmiehnceaaDoor
