/-
  Package pack's Reader: Bits and Number of two bytes at most, walked. By an AI agent. No person has read it.
-/
import Derived.Test.YthjnkaikjjjceaaDoorPcTenQ
import Derived.Test.YthjnkaikjjjceaaDoorPcShpCl
import Derived.Laws.BitsAllLaws
namespace Go.Proofs.YthjnkaikjjjceaaDoor
open Go.RowKit
/-- The number of bytes, the lowest first. -/
def Pk.val : List Nat → Nat
  | [] => 0
  | b :: bs => b + 256 * Pk.val bs
theorem Pk.val_one (b : Nat) : Pk.val [b] = b := by simp [Pk.val]
theorem pk_or_add (x b k : Nat) (hx : x < 2 ^ k) : x ||| b * 2 ^ k = x + b * 2 ^ k := by
  have h := Nat.two_pow_add_eq_or_of_lt hx b
  rw [Nat.or_comm, Nat.mul_comm, ← h, Nat.add_comm]
end Go.Proofs.YthjnkaikjjjceaaDoor
namespace Go.Proofs.YthjnkaikjjjceaaDoor
open Go.RowKit
/-- What is read is not more than may be, or nothing was read. -/
theorem count_of (g k most v : Nat) (at_ : Int) (x e0 ev : Value) (Q : World → Prop) (w : World) (h : Has w g 118 [x, .int .i64 at_, e0]) (hv : v ≤ most) (hN : Calls Tryd.prog 78 #[.pointer (some ⟨g, 0, none⟩), .int .i64 (k : Int)] w fun e w' => e = .returned (.int .i64 (v : Int)) ∧ Q w') :
    Calls Tryd.prog 36 #[.pointer (some ⟨g, 0, none⟩), .int .i64 (k : Int), .int .i64 (most : Int), ev] w fun e w' => e = .returned (.int .i64 (v : Int)) ∧ Q w' := by
  have c1 : w.cell? ⟨g, 1, none⟩ = some (.int .i64 at_) := by rw [h.cell]; rfl
  have HN := hide hN
  have hvm : (v : Int) ≤ most := by omega
  clear h hN hv
  go_enter Tryd.func36, Tryd.ntmps36
  go_wp2_with fail
  refine HN.out.mono ?_
  rintro e w1 ⟨rfl, hQ⟩
  have HQ := hide hQ
  clear hQ c1
  go_wp2_with fail
  go_ret
  exact ⟨rfl, HQ.out⟩
/-- More than may be: an error around the place. -/
theorem count_many (g k most v : Nat) (at_ at2 : Int) (x : Value) (a : Addr) (w : World) (h : Has w g 118 [x, .int .i64 at_, .nilIface]) (hv : most < v) (hN : Calls Tryd.prog 78 #[.pointer (some ⟨g, 0, none⟩), .int .i64 (k : Int)] w fun e w' => e = .returned (.int .i64 (v : Int)) ∧ Has w' g 118 [x, .int .i64 at2, .nilIface] ∧ w.grownBy w' (some g)) :
    Calls Tryd.prog 36 #[.pointer (some ⟨g, 0, none⟩), .int .i64 (k : Int), .int .i64 (most : Int), errv a] w fun e w' => e = .returned (.int .i64 0) ∧ (∃ g2, g2 ≠ g ∧ w.heap.size ≤ g2 ∧ Has w' g2 122 [.int .i64 at_, errv a] ∧ Has w' g 118 [x, .int .i64 at2, .iface 119 (.pointer (some ⟨g2, 0, none⟩))]) ∧ w.grownBy w' (some g) := by
  have c1 : w.cell? ⟨g, 1, none⟩ = some (.int .i64 at_) := by rw [h.cell]; rfl
  have HN := hide hN
  have hvm : (most : Int) < v := by omega
  clear h hN hv
  go_enter Tryd.func36, Tryd.ntmps36
  go_wp2_with fail
  refine HN.out.mono ?_
  rintro e w1 ⟨rfl, hH, hG⟩
  have HH := hide hH
  have HG := hide hG
  clear hH hG c1 HN
  go_wp2_with fail
  refine (at_of a at_ w1).mono ?_
  rintro e w2 ⟨rfl, hw2⟩
  have hA2 : Has w2 w1.heap.size 122 [.int .i64 at_, errv a] := by rw [hw2]; exact Has.new w1 _ _
  have hH2 : Has w2 g 118 [x, .int .i64 at2, .nilIface] := by rw [hw2]; exact HH.out.alloc _
  have hG2 : w.grownBy w2 (some g) := by rw [hw2]; exact HG.out.trans (World.grownBy_alloc w1 _ _)
  have hlt := HH.out.lt
  have HF := hide (fail_first g x (.int .i64 at2) (.iface 119 (.pointer (some ⟨w1.heap.size, 0, none⟩))) (.inr ⟨_, rfl⟩) w2 hH2)
  have HA3 := hide (hA2.far (p := ⟨g, 2, none⟩) (by simp; omega) (.iface 119 (.pointer (some ⟨w1.heap.size, 0, none⟩))))
  have HH3 := hide (hH2.set_ 2 (.iface 119 (.pointer (some ⟨w1.heap.size, 0, none⟩))))
  have HG3 := hide (grown_set hG2 ⟨g, 2, none⟩ rfl (.iface 119 (.pointer (some ⟨w1.heap.size, 0, none⟩))))
  have hne : w1.heap.size ≠ g := by omega
  have hle := HG.out.size
  clear hA2 hH2 hG2 hw2 HH HG hlt
  go_wp2_with fail
  refine HF.out.mono ?_
  rintro e w3 ⟨⟨r, rfl⟩, hw3⟩
  rw [← hw3] at HA3 HH3 HG3
  clear hw3 HF
  go_wp2_with fail
  go_ret
  exact ⟨rfl, ⟨_, hne, hle, HA3.out, HH3.out⟩, HG3.out⟩
end Go.Proofs.YthjnkaikjjjceaaDoor
namespace Go.Proofs.YthjnkaikjjjceaaDoor
open Go.RowKit
/-- A number with its lowest bit turned. -/
def flipI (x : Int) : Int := (BitVec.ofInt 64 x ^^^ 1#64).toInt
theorem wrap_toInt (b : BitVec 64) : IntKind.i64.wrap (b.toNat : Int) = b.toInt := by
  have h := b.isLt
  rw [IntKind.wrap_i64, BitVec.toInt_eq_toNat_cond]
  split <;> omega
theorem xor_one (x : Int) : bits .xor .i64 x 1 = flipI x := by
  show IntKind.i64.wrap ((BitVec.ofInt 64 x ^^^ BitVec.ofInt 64 1).toNat : Int) = _
  rw [wrap_toInt]
  rfl
theorem toInt_of (x : Int) (h : -9223372036854775808 ≤ x ∧ x ≤ 9223372036854775807) : (BitVec.ofInt 64 x).toInt = x := by
  rw [BitVec.toInt_ofInt, Int.bmod_def]
  split <;> omega
theorem flip_ne (x : Int) (h : -9223372036854775808 ≤ x ∧ x ≤ 9223372036854775807) : flipI x ≠ x := by
  intro e
  unfold flipI at e
  have e2 : BitVec.ofInt 64 x ^^^ 1#64 = BitVec.ofInt 64 x := BitVec.eq_of_toInt_eq (e.trans (toInt_of x h).symm)
  have e3 : BitVec.ofInt 64 x ^^^ (BitVec.ofInt 64 x ^^^ 1#64) = 0#64 := by rw [e2, BitVec.xor_self]
  rw [← BitVec.xor_assoc, BitVec.xor_self, BitVec.zero_xor] at e3
  exact absurd e3 (by decide)
/-- An append of ints, as an operation of the walk. -/
theorem wpList_append_is {w : World} {ops : Array Oper} {rest : List Oper} {o : Oper} {a : Act} {Q : Exit → Act → World → Prop} (hgd : o.guard = none) (s x : Operand)
    (ho : o.op = .call { callee := .builtin .append, args := #[s, x], argTypes := #[46, 46] })
    (base : Nat) (v : Value) (n : Nat) (xs : List Value) (hs : a.eval s = v) (hown : w.ownsRow base 3 1 v n xs) (A : Option Addr) (m cap : Nat) (bs : List Int) (hx : a.eval x = .slice A m cap) (hm : Hid (bs.length = m)) (hr : Ri w A bs)
    (hb : n + m ≤ 1000000000000) (hbase : base ≤ w.heap.size)
    (h : ∀ v' w', w'.ownsRow base 3 1 v' (n + m) (xs ++ i64s bs) → w.grownBy w' v.ownBlock → (v'.ownBlock = v.ownBlock ∨ v'.ownBlock = some w.heap.size) → wpList Tryd.prog ops Q rest (a.put o.dst v') w') :
    wpList Tryd.prog ops Q (o :: rest) a w := by
  obtain rfl := hm.out
  refine wpList_plain hgd fun K hK => ?_
  obtain ⟨v', w', hrun, h2, h3, h5⟩ := run_append_is w o.type base v n xs hown A cap bs hr hb hbase
  unfold Oper.wp execOp
  simp only [ho, resolve, invoke, builtin, Sem.run_bind, Sem.run_pure, Result.andThen_ok, List.map_toArray, List.map_cons, List.map_nil, hs, hx, hrun]
  exact hK _ _ (h v' w' h2 h3 h5)
end Go.Proofs.YthjnkaikjjjceaaDoor
