/-
  The library's insertion, laid at this program. By an AI agent. No person has read it.
-/
import Derived.Test.YteeiehaebiigfaaDoorFltF
import Derived.Shelf.SlGeneric
import Derived.Shelf.SlSortCmp.Insertion
import Derived.Ground.SlsfProg
namespace Go.Proofs.YteeiehaebiigfaaDoor
open Go.RowKit Go.Shelf
shelf_lay_g SlLaysF.n20 Slsf 20 at Tryd 77 as Tryd.ins

def cmpF (x y : W64) : Int := Flt.cmp x.val y.val
theorem ltOf_cmp : Go.Proofs.ltOf cmpF = ltF := by
  funext x y
  unfold Go.Proofs.ltOf cmpF ltF
  rw [Bool.eq_iff_iff, decide_eq_true_eq, cmp_neg]
theorem reads_cmp (blk off size : Nat) (w : World) : Go.Proofs.CmpReads Tryd.prog 56 #[] encF cmpF blk off size w :=
  fun _ _ _ _ x y => (compare_c x.val y.val x.isLt y.isLt _).mono fun _ _ ⟨he, hw⟩ => ⟨he, 0, hw⟩
theorem sortsF : SortsF 77 := fun blk off cap a b d w hH hab hb hsz => by
  have eg : ∀ args w, (callFunc 56 args).run Tryd.prog w = .ok (.enter 56 args) w := enters_of Tryd.func56 (by kernel_rfl) rfl
  have h := Go.Proofs.Any.insertionSortCmpFunc_one Tryd.ins encF (fun _ => rfl) cmpF 56 #[] blk off cap a b d w eg (reads_cmp blk off d.size w) hH hab hb (by omega)
  rw [ltOf_cmp] at h
  exact h
end Go.Proofs.YteeiehaebiigfaaDoor
