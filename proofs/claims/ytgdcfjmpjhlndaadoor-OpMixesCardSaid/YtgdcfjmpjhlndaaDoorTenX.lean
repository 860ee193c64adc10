/-
  A number with its lowest bit turned ('x ^ 1'). By an AI agent. No person has read it.
-/
import Derived.Test.YtgdcfjmpjhlndaaDoorShpCl
import Derived.Laws.BitsAllLaws
namespace Go.Proofs.YtgdcfjmpjhlndaaDoor
open Go.RowKit

/-- A number with its lowest bit turned. -/
def flipI (x : Int) : Int := (BitVec.ofInt 64 x ^^^ 1#64).toInt
theorem wrap_toInt (b : BitVec 64) : IntKind.i64.wrap (b.toNat : Int) = b.toInt := by
  have h := b.isLt
  rw [IntKind.wrap_i64, BitVec.toInt_eq_toNat_cond]
  split <;> omega
theorem xor_one (x : Int) : bits .xor .i64 x 1 = flipI x := by
  show IntKind.i64.wrap ((BitVec.ofInt 64 x ^^^ BitVec.ofInt 64 1).toNat : Int) = _
  rw [wrap_toInt]
  rfl
theorem flip_bounds (x : Int) : -9223372036854775808 ≤ flipI x ∧ flipI x ≤ 9223372036854775807 := by
  unfold flipI
  have h1 := BitVec.le_toInt (BitVec.ofInt 64 x ^^^ 1#64)
  have h2 := BitVec.toInt_lt (x := BitVec.ofInt 64 x ^^^ 1#64)
  omega
theorem toInt_of (x : Int) (h : -9223372036854775808 ≤ x ∧ x ≤ 9223372036854775807) : (BitVec.ofInt 64 x).toInt = x := by
  rw [BitVec.toInt_ofInt, Int.bmod_def]
  split <;> omega
theorem flip_flip (x : Int) (h : -9223372036854775808 ≤ x ∧ x ≤ 9223372036854775807) : flipI (flipI x) = x := by
  unfold flipI
  rw [BitVec.ofInt_toInt, BitVec.xor_assoc, BitVec.xor_self, BitVec.xor_zero]
  exact toInt_of x h
theorem flip_ne (x : Int) (h : -9223372036854775808 ≤ x ∧ x ≤ 9223372036854775807) : flipI x ≠ x := by
  intro e
  unfold flipI at e
  have e2 : BitVec.ofInt 64 x ^^^ 1#64 = BitVec.ofInt 64 x := BitVec.eq_of_toInt_eq (e.trans (toInt_of x h).symm)
  have e3 : BitVec.ofInt 64 x ^^^ (BitVec.ofInt 64 x ^^^ 1#64) = 0#64 := by rw [e2, BitVec.xor_self]
  rw [← BitVec.xor_assoc, BitVec.xor_self, BitVec.zero_xor] at e3
  exact absurd e3 (by decide)
theorem own_of_has {W : World} {g n c B : Nat} {zs : List Int} {rest : List Value} (h : Has W g 3 (i64s zs ++ rest)) (hn : zs.length = n) (hl : n + rest.length = c) (h1 : n ≤ c) (h2 : c ≤ 9223372036854775807) (hb : B ≤ g) :
    W.ownsRow B 3 1 (.slice (some ⟨g, 0, none⟩) n c) n (i64s zs) :=
  ⟨by simp [hn], .inr ⟨g, c, (i64s zs ++ rest).toArray, rfl, hb, h, h1, by unfold maxLen; omega, by simp [hn, hl], by simp [← hn]⟩⟩
/-- An append of ints, as an operation of the walk. -/
theorem wpList_append_is {w : World} {ops : Array Oper} {rest : List Oper} {o : Oper} {a : Act} {Q : Exit → Act → World → Prop} (hgd : o.guard = none) (s x : Operand)
    (ho : o.op = .call { callee := .builtin .append, args := #[s, x], argTypes := #[22, 22] })
    (base : Nat) (v : Value) (n : Nat) (xs : List Value) (hs : a.eval s = v) (hown : w.ownsRow base 3 1 v n xs) (A : Option Addr) (m cap : Nat) (bs : List Int) (hx : a.eval x = .slice A m cap) (hm : Hid (bs.length = m)) (hr : Ri w A bs)
    (hb : n + m ≤ 1000000000000) (hbase : base ≤ w.heap.size)
    (h : ∀ v' w', w'.ownsRow base 3 1 v' (n + m) (xs ++ i64s bs) → w.grownBy w' v.ownBlock → (v'.ownBlock = v.ownBlock ∨ v'.ownBlock = some w.heap.size) → wpList Tryd.prog ops Q rest (a.put o.dst v') w') :
    wpList Tryd.prog ops Q (o :: rest) a w := by
  obtain rfl := hm.out
  refine wpList_plain hgd fun K hK => ?_
  obtain ⟨v', w', hrun, h2, h3, h5⟩ := run_append_is w o.type base v n xs hown A cap bs hr hb hbase
  unfold Oper.wp execOp
  simp only [ho, resolve, invoke, builtin, Sem.run_bind, Sem.run_pure, Result.andThen_ok, List.map_toArray, List.map_cons, List.map_nil, hs, hx, hrun]
  exact hK _ _ (h v' w' h2 h3 h5)
end Go.Proofs.YtgdcfjmpjhlndaaDoor
