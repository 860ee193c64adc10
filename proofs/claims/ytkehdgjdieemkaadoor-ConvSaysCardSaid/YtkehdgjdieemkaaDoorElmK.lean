/-
  elem.fits, may, looks of any operation, walked. By an AI agent. No person has read it.
-/
import Derived.Test.YtkehdgjdieemkaaDoorElmV
import Derived.Test.YtkehdgjdieemkaaDoorElmG
import Derived.Test.YtkehdgjdieemkaaDoorElmC
namespace Go.Proofs.YtkehdgjdieemkaaDoor
open Go.RowKit

theorem Tens.wide_fit (n : Int) (h : -9223372036854775808 ≤ n ∧ n ≤ 9223372036854775807) : decide (Tens.wide n = n) = Tens.fit true n := by
  unfold Tens.wide Tens.fit
  rw [if_pos rfl]
  exact decide_eq_decide.2 (by omega)
theorem Tens.narrow_fit (n : Int) : decide (Tens.narrow n = n) = Tens.fit false n := by
  unfold Tens.narrow Tens.fit
  rw [if_neg (by decide)]
  exact decide_eq_decide.2 (by omega)
/-- May the args be? -/
def Elm.may (op : Int) (u : Bool) (qs : List Int) : Bool :=
  if op = 9 then decide (qs.getD 0 0 ≤ qs.getD 1 0) && Tens.fit u (qs.getD 0 0) && Tens.fit u (qs.getD 1 0)
  else if op = 10 then decide (0 ≤ qs.getD 0 0) && decide (qs.getD 0 0 ≤ 2147483647) && decide (0 ≤ qs.getD 1 0) && decide (qs.getD 1 0 ≤ 62) && Tens.fit false (qs.getD 2 0)
  else if op = 11 then Tens.fit false (qs.getD 0 0) else true
/-- Are the ins alike, and of their kind? -/
def Elm.alike (op : Int) (ds : List Dsc) : Bool :=
  match ds with
  | [] => false
  | [d] => if op = 10 then d.u else if op = 11 then !d.u else true
  | d :: f :: _ => decide (d.zs = f.zs) && (d.u == f.u)
end Go.Proofs.YtkehdgjdieemkaaDoor
