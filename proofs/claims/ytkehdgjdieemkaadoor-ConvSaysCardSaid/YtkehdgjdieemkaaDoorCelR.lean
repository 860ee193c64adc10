/-
  Errors, stores into a call's own result, what is amiss with descs. By an AI agent. No person has read it.
-/
import Derived.Test.YtkehdgjdieemkaaDoorElmK
import Derived.Test.YtkehdgjdieemkaaDoorElmD
import Derived.Test.YtkehdgjdieemkaaDoorElmH
import Derived.Deep.RegionHeld3
namespace Go.Proofs.YtkehdgjdieemkaaDoor
open Go.RowKit

/-- The four errors. -/
def E4 (w : World) (ah am ar ak : Addr) : Prop := E3 w ah am ar ∧ ErrIs w 3 ak
theorem E4.below {w wr : World} {ah am ar ak : Addr} (h : E4 w ah am ar ak) (hb : Below w.heap.size w wr) : E4 wr ah am ar ak := ⟨h.1.below hb, h.2.below hb⟩
def Elm.err (ah am ar ak : Addr) (k : Nat) : Value := if k = 103 then errv ak else Tens.err ah am ar k
theorem elm_two {w W : World} {b base : Nat} {t : TypeId} {x y : Value} (hz : Has W b t [x, y]) (hB : Below base w W) (hb : base ≤ b) (v1 v2 : Value) : W.cell? ⟨b, 0, none⟩ = some x ∧ W.cell? ⟨b, 1, none⟩ = some y ∧ W.frozen? ⟨b, 0, none⟩ = false ∧ W.frozen? ⟨b, 1, none⟩ = false ∧
    Hid (Has ((W.setCell ⟨b, 0, none⟩ v1).setCell ⟨b, 1, none⟩ v2) b t [v1, v2]) ∧ Hid (Below base w ((W.setCell ⟨b, 0, none⟩ v1).setCell ⟨b, 1, none⟩ v2)) :=
  ⟨hz.cell 0, hz.cell 1, hz.frozen 0, hz.frozen 1, (hz.set_ 0 v1).set_ 1 v2, (hB.setCell (p := ⟨b, 0, none⟩) hb v1).setCell (p := ⟨b, 1, none⟩) hb v2⟩
theorem elm_twod {w W : World} {b base : Nat} {t : TypeId} {x y : Value} (hz : Has W b t [x, y]) (hB : Below base w W) (hb : base ≤ b) (v1 v2 : Value) : W.cell? ⟨b, 0, none⟩ = some x ∧ W.cell? ⟨b, 1, none⟩ = some y ∧ W.frozen? ⟨b, 0, none⟩ = false ∧ W.frozen? ⟨b, 1, none⟩ = false ∧
    Hid (Has ((W.drew.setCell ⟨b, 0, none⟩ v1).setCell ⟨b, 1, none⟩ v2) b t [v1, v2]) ∧ Hid (Below base w ((W.drew.setCell ⟨b, 0, none⟩ v1).setCell ⟨b, 1, none⟩ v2)) :=
  ⟨hz.cell 0, hz.cell 1, hz.frozen 0, hz.frozen 1, ((hz.drewN 1).set_ 0 v1).set_ 1 v2, (hB.drew.setCell (p := ⟨b, 0, none⟩) hb v1).setCell (p := ⟨b, 1, none⟩) hb v2⟩
theorem elm_three {w W : World} {b base : Nat} {t : TypeId} {x y z : Value} (hz : Has W b t [x, y, z]) (hB : Below base w W) (hb : base ≤ b) (v1 v2 v3 : Value) : W.cell? ⟨b, 0, none⟩ = some x ∧ W.cell? ⟨b, 1, none⟩ = some y ∧ W.cell? ⟨b, 2, none⟩ = some z ∧ W.frozen? ⟨b, 0, none⟩ = false ∧ W.frozen? ⟨b, 1, none⟩ = false ∧ W.frozen? ⟨b, 2, none⟩ = false ∧
    Hid (Has (((W.setCell ⟨b, 0, none⟩ v1).setCell ⟨b, 1, none⟩ v2).setCell ⟨b, 2, none⟩ v3) b t [v1, v2, v3]) ∧ Hid (Below base w (((W.setCell ⟨b, 0, none⟩ v1).setCell ⟨b, 1, none⟩ v2).setCell ⟨b, 2, none⟩ v3)) :=
  ⟨hz.cell 0, hz.cell 1, hz.cell 2, hz.frozen 0, hz.frozen 1, hz.frozen 2, ((hz.set_ 0 v1).set_ 1 v2).set_ 2 v3, ((hB.setCell (p := ⟨b, 0, none⟩) hb v1).setCell (p := ⟨b, 1, none⟩) hb v2).setCell (p := ⟨b, 2, none⟩) hb v3⟩
/-- What is amiss with the first of some that may not be. -/
def Shp.firstbad : List Dsc → Nat
  | [] => 0
  | d :: l => if Shp.code d.zs = 0 then Shp.firstbad l else Shp.code d.zs
theorem Shp.first_at (ts : List Dsc) (i : Nat) (t : Dsc) (h : ts[i]? = some t) (hj : ∀ (j : Nat) x, j < i → ts[j]? = some x → Shp.code x.zs = 0) (hf : Shp.code t.zs ≠ 0) : Shp.firstbad ts = Shp.code t.zs := by
  induction ts generalizing i with
  | nil => simp at h
  | cons x l ih =>
    cases i with
    | zero =>
      simp at h
      subst h
      unfold Shp.firstbad
      rw [if_neg hf]
    | succ i =>
      unfold Shp.firstbad
      rw [if_pos (hj 0 x (Nat.succ_pos i) rfl)]
      exact ih i (by simpa using h) fun j y hji hy => hj (j + 1) y (by omega) (by simpa using hy)
theorem Shp.first_none (ts : List Dsc) (h : ∀ (j : Nat) x, ts[j]? = some x → Shp.code x.zs = 0) : Shp.firstbad ts = 0 := by
  induction ts with
  | nil => rfl
  | cons x l ih =>
    unfold Shp.firstbad
    rw [if_pos (h 0 x rfl)]
    exact ih fun j y hy => h (j + 1) y (by simpa using hy)
/-- What is amiss with an operation: the error's number. -/
def Elm.code (op : Int) (qs : List Int) (ds : List Dsc) : Nat :=
  if Elm.known op = false then 103 else if ds.length ≠ Elm.nins op ∨ qs.length ≠ Elm.nargs op then 101 else if Shp.firstbad ds ≠ 0 then Shp.firstbad ds
  else if Elm.alike op ds = false then 101 else if Elm.may op ((ds.head?.map (·.u)).getD false) qs = false then 102 else 0
/-- Is the answer wide? -/
def Elm.wide (op : Int) (u : Bool) : Bool := (op == 11) || (u && (op != 10))
def Elm.shape (op : Int) (qs : List Int) (ds : List Dsc) : List Int := if Elm.code op qs ds = 0 then (ds.head?.map (·.zs)).getD [] else []
def Elm.kind (op : Int) (qs : List Int) (ds : List Dsc) : Bool := if Elm.code op qs ds = 0 then Elm.wide op ((ds.head?.map (·.u)).getD false) else false
theorem Elm.err_v {ah am ar ak : Addr} {k : Nat} (h : k = 101 ∨ k = 102 ∨ k = 103 ∨ k = 104) : ErrV (Elm.err ah am ar ak k) := by
  rcases h with rfl | rfl | rfl | rfl
  all_goals exact .inl ⟨_, rfl⟩
theorem Shp.err_v {am ar : Addr} {k : Nat} (h : k = 104 ∨ k = 102 ∨ k = 0) (hk : k ≠ 0) : ErrV (Shp.err am ar k) := by
  rcases h with rfl | rfl | rfl
  · exact .inl ⟨_, rfl⟩
  · exact .inl ⟨_, rfl⟩
  · exact absurd rfl hk
theorem Elm.err_shp (ah am ar ak : Addr) (k : Nat) (h : k = 104 ∨ k = 102 ∨ k = 0) : Elm.err ah am ar ak k = Shp.err am ar k := by
  rcases h with rfl | rfl | rfl
  all_goals rfl
end Go.Proofs.YtkehdgjdieemkaaDoor
