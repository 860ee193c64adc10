/-
  Bytes appended to a row of the call's own; package pack's Append and AppendBits, walked. By an AI agent. No person has read it.
-/
import Derived.Test.YthjnkaikjjjceaaDoorPkBasA
import Derived.Maps.AppendAt
import Derived.Maps.Range
import Derived.Laws.MakeOwn
namespace Go.Proofs.YthjnkaikjjjceaaDoor
open Go.RowKit
theorem u8s_one (bs : List Nat) : ∀ u ∈ u8s bs, u.oneCell' = true := by
  intro u hu
  obtain ⟨x, _, rfl⟩ := List.mem_map.1 hu
  rfl
/-- The run of the append. -/
theorem run_append_bs (w : World) (ty : TypeId) (base : Nat) (v : Value) (n : Nat) (xs : List Value) (hown : w.ownsRow base 5 1 v n xs) (A : Option Addr) (cap : Nat) (bs : List Nat) (hr : Rb w A bs)
    (hs : n + bs.length ≤ 1000000000000) (hbase : base ≤ w.heap.size) :
    ∃ v' w', (Builtin.append_ #[30, 30] ty #[v, .slice A bs.length cap]).run Tryd.prog w = .ok v' w' ∧ w'.ownsRow base 5 1 v' (n + bs.length) (xs ++ u8s bs) ∧ w.grownBy w' v.ownBlock ∧
      (v'.ownBlock = v.ownBlock ∨ v'.ownBlock = some w.heap.size) := by
  obtain ⟨i, hi, hz0, hz1, hz2⟩ := u8info
  have nil : bs = [] → ∃ v' w', (Builtin.append_ #[30, 30] ty #[v, .slice A bs.length cap]).run Tryd.prog w = .ok v' w' ∧ w'.ownsRow base 5 1 v' (n + bs.length) (xs ++ u8s bs) ∧ w.grownBy w' v.ownBlock ∧
      (v'.ownBlock = v.ownBlock ∨ v'.ownBlock = some w.heap.size) := by
    rintro rfl
    refine ⟨v, w, ?_, by simpa using hown, World.grownBy.refl w _, .inl rfl⟩
    rcases hown.2 with ⟨rfl, rfl⟩ | ⟨g, c, cur, rfl, _, _, hnc, _⟩
    · cases A <;> simp [Builtin.append_, run_underlying ubs, sizeOf, typeInfo, hi, Builtin.lenOf, Builtin.firstCells, loadCells, loadCellsFrom]
    · cases A <;> simp [Builtin.append_, run_underlying ubs, sizeOf, typeInfo, hi, Builtin.lenOf, Builtin.firstCells, hnc, storeCells, loadCells, loadCellsFrom]
  by_cases hz : bs = []
  · exact nil hz
  · obtain ⟨ad, rfl, -, hc⟩ := hr.2 hz
    obtain ⟨v', w', h1, h2, h3, _, h5⟩ := run_append_own_at (P := Tryd.prog) w base 30 ty 5 i (.int .u8 0) 1 1 ubs hi hz0 hz1 hz2 rfl (by decide) v n xs hown ad bs.length cap (u8s bs) (by simp) (by
      intro j u hj
      rw [List.getElem?_map, Option.map_eq_some_iff] at hj
      obtain ⟨b, hb, rfl⟩ := hj
      exact hc j b hb) (u8s_one bs) (by unfold maxLen; omega) (by omega) hbase
    exact ⟨v', w', h1, h2, h3, h5⟩
/-- .. as an operation of the walk. -/
theorem wpList_append_bs {w : World} {ops : Array Oper} {rest : List Oper} {o : Oper} {a : Act} {Q : Exit → Act → World → Prop} (hgd : o.guard = none) (s x : Operand)
    (ho : o.op = .call { callee := .builtin .append, args := #[s, x], argTypes := #[30, 30] })
    (base : Nat) (v : Value) (n : Nat) (xs : List Value) (hs : a.eval s = v) (hown : w.ownsRow base 5 1 v n xs) (A : Option Addr) (m cap : Nat) (bs : List Nat) (hx : a.eval x = .slice A m cap) (hm : Hid (bs.length = m)) (hr : Rb w A bs)
    (hb : n + m ≤ 1000000000000) (hbase : base ≤ w.heap.size)
    (h : ∀ v' w', w'.ownsRow base 5 1 v' (n + m) (xs ++ u8s bs) → w.grownBy w' v.ownBlock → (v'.ownBlock = v.ownBlock ∨ v'.ownBlock = some w.heap.size) → wpList Tryd.prog ops Q rest (a.put o.dst v') w') :
    wpList Tryd.prog ops Q (o :: rest) a w := by
  obtain rfl := hm.out
  refine wpList_plain hgd fun K hK => ?_
  obtain ⟨v', w', hrun, h2, h3, h5⟩ := run_append_bs w o.type base v n xs hown A cap bs hr hb hbase
  unfold Oper.wp execOp
  simp only [ho, resolve, invoke, builtin, Sem.run_bind, Sem.run_pure, Result.andThen_ok, List.map_toArray, List.map_cons, List.map_nil, hs, hx, hrun]
  exact hK _ _ (h v' w' h2 h3 h5)

/-- A number's lowest k bytes, the lowest first. -/
def Pk.le (k N : Nat) : List Nat := (List.range k).map fun j => N / 256 ^ j % 256
theorem Pk.le_succ (k N : Nat) : Pk.le (k + 1) N = Pk.le k N ++ [N / 256 ^ k % 256] := by simp [Pk.le, List.range_succ]
theorem Pk.le_length (k N : Nat) : (Pk.le k N).length = k := by simp [Pk.le]
theorem Pk.le_lt (k N : Nat) : ∀ b ∈ Pk.le k N, b < 256 := by
  intro b hb
  obtain ⟨j, _, rfl⟩ := List.mem_map.1 hb
  omega
/-- What lies behind an append: the row, and all else as it was. -/
structure Pk.App (base : Nat) (w : World) (v : Value) (n : Nat) (xs : List Value) (w' : World) (v' : Value) : Prop where
  own : w'.ownsRow base 5 1 v' n xs
  grown : w.grownBy w' v.ownBlock
  at_ : v'.ownBlock = v.ownBlock ∨ ∃ g, v'.ownBlock = some g ∧ w.heap.size ≤ g
theorem Pk.App.refl {base : Nat} {w : World} {v : Value} {n : Nat} {xs : List Value} (h : w.ownsRow base 5 1 v n xs) : Pk.App base w v n xs w v := ⟨h, World.grownBy.refl w _, .inl rfl⟩
theorem Pk.App.andThen {base : Nat} {w w1 w2 : World} {v v1 v2 : Value} {n n2 : Nat} {xs ys : List Value} (h : Pk.App base w v n xs w1 v1) (k : Pk.App base w1 v1 n2 ys w2 v2) : Pk.App base w v n2 ys w2 v2 := by
  refine ⟨k.own, h.grown.andThen k.grown (fun j hj => ?_), ?_⟩
  · rcases h.at_ with e | ⟨g, e, hg⟩
    · exact .inr (by rw [← e]; exact hj)
    · rw [e] at hj
      cases hj
      exact .inl hg
  · rcases k.at_ with e | ⟨g, e, hg⟩
    · rcases h.at_ with e' | ⟨g, e', hg⟩
      · exact .inl (e.trans e')
      · exact .inr ⟨g, e.trans e', hg⟩
    · exact .inr ⟨g, e, Nat.le_trans h.grown.size hg⟩
theorem Pk.App.one {base : Nat} {w wr w' : World} {v b v' : Value} {n i c N : Nat} {xs : List Value} {o : Obj} (h : Pk.App base w v (n + i) (xs ++ u8s (Pk.le i N)) wr b) (h1 : w'.ownsRow base 5 1 v' (n + i + 1) (xs ++ (u8s (Pk.le i N) ++ [Value.int .u8 (c : Nat)]))) (h2 : (wr.alloc o).grownBy w' b.ownBlock)
    (h3 : v'.ownBlock = b.ownBlock ∨ v'.ownBlock = some (wr.heap.size + 1)) (hs : Pk.le (i + 1) N = Pk.le i N ++ [c]) : Pk.App base w v (n + (i + 1)) (xs ++ u8s (Pk.le (i + 1) N)) w' v' := by
  refine h.andThen ⟨?_, ?_, ?_⟩
  · have e : xs ++ u8s (Pk.le i N ++ [c]) = xs ++ (u8s (Pk.le i N) ++ [Value.int .u8 (c : Nat)]) := by simp [u8s]
    rw [hs, e]
    exact h1
  · exact (World.grownBy_alloc wr o b.ownBlock).trans h2
  · rcases h3 with e | e
    · exact .inl e
    · exact .inr ⟨_, e, by omega⟩

set_option maxRecDepth 100000 in
set_option maxHeartbeats 4000000 in
theorem appendbits_c (base : Nat) (v : Value) (n : Nat) (xs : List Value) (k N : Nat) (w : World) (hown : w.ownsRow base 5 1 v n xs) (hn : n + k ≤ 1000000000) (hN : N < 18446744073709551616) (hbase : base ≤ w.heap.size) :
    Calls Tryd.prog 74 #[v, .int .i64 (k : Int), .int .u64 (N : Int)] w fun e w' => ∃ v', e = .returned v' ∧ Pk.App base w v (n + k) (xs ++ u8s (Pk.le k N)) w' v' := by
  have H0 := hide (Pk.App.refl hown)
  clear hown
  go_enter Tryd.func74, Tryd.ntmps74
  go_wp2_with fail
  go_loopw [0, 2, 8] (fun b x j wr => ∃ i : Nat, i ≤ k ∧ j = .int .i64 i ∧ x = .int .u64 ((N / 256 ^ i : Nat) : Int) ∧ Hid (Pk.App base w v (n + i) (xs ++ u8s (Pk.le i N)) wr b)) (fun _ _ j _ => k - (intOf j).toNat)
  case atStart => exact ⟨0, by omega, rfl, by simp, by simpa [Pk.le] using H0⟩
  case round =>
    obtain ⟨i, hi, rfl, rfl, hI⟩ := hrel
    by_cases hlt : i < k
    · have hik : (i : Int) < k := by omega
      have hq : N / 256 ^ i < 18446744073709551616 := Nat.lt_of_le_of_lt (Nat.div_le_self _ _) hN
      have hs := Pk.le_succ i N
      have hd : N / 256 ^ (i + 1) = N / 256 ^ i / 256 := by rw [Nat.pow_succ, Nat.div_div_eq_div_mul]
      obtain ⟨q, hqq⟩ : ∃ q, Hid (N / 256 ^ i = q) := ⟨_, hide rfl⟩
      rw [hqq.out] at hq hs hd ⊢
      have hw8 : IntKind.u8.wrap (q : Int) = ((q % 256 : Nat) : Int) := by
        rw [IntKind.wrap_u8]
        omega
      have hw1 : IntKind.i64.wrap ((i : Int) + 1) = (i : Int) + 1 := by rw [IntKind.wrap_i64]; omega
      obtain ⟨c, hc⟩ : ∃ c, Hid (q % 256 = c) := ⟨_, hide rfl⟩
      rw [hc.out] at hw8 hs
      have HS := hide hs
      have HD := hide hd
      clear hs hd
      have HOWN := hide (hI.out.own.alloc (.cells #[.int .u8 (c : Int)] 5))
      have hcl : c < 256 := by rw [← hc.out]; omega
      have HRB := hide ((Has.new wr 5 (u8s [c])).rb (fun b hb => by simp at hb; omega))
      have HB0 := hide (show n + i + 1 ≤ 1000000000000 by omega)
      have HSZ := hide (show base ≤ (wr.alloc (.cells #[.int .u8 (c : Int)] 5)).heap.size by have := hI.out.grown.size; simp; omega)
      clear hcl
      go_wp2_with (at_builtin; refine wpList_append_bs rfl (.tmp 10) (.tmp 13) rfl base _ (n + i) (xs ++ u8s (Pk.le i N)) rfl HOWN.out (some ⟨wr.heap.size, 0, none⟩) 1 1 [c] rfl (hide rfl) HRB.out HB0.out HSZ.out ?_)
      intro v' w' h1 h2 h3
      have HI2 := hide (Pk.App.one hI.out h1 h2 h3 HS.out)
      clear h1 h2 h3 hI HOWN HRB
      go_wp2_with fail
      go_roundw
      case rel => exact ⟨i + 1, by omega, by go_num, congrArg (Value.int .u64) (by rw [HD.out]; omega), HI2⟩
      case measure => simp [intOf]; omega
    · obtain rfl : i = k := by omega
      go_wp2_with fail
      go_ret
      exact ⟨_, rfl, hI.out⟩
/-- An int as a number of 64 bits. -/
def Pk.num (z : Int) : Nat := (z % 18446744073709551616).toNat
theorem Pk.num_lt (z : Int) : Pk.num z < 18446744073709551616 := by unfold Pk.num; omega
set_option maxRecDepth 100000 in
theorem append_c (base : Nat) (v : Value) (n : Nat) (xs : List Value) (k : Nat) (z : Int) (w : World) (hown : w.ownsRow base 5 1 v n xs) (hn : n + k ≤ 1000000000) (hbase : base ≤ w.heap.size) :
    Calls Tryd.prog 27 #[v, .int .i64 (k : Int), .int .i64 z] w fun e w' => ∃ v', e = .returned v' ∧ Pk.App base w v (n + k) (xs ++ u8s (Pk.le k (Pk.num z))) w' v' := by
  have H := hide (appendbits_c base v n xs k (Pk.num z) w hown hn (Pk.num_lt z) hbase)
  have hw : IntKind.u64.wrap z = ((Pk.num z : Nat) : Int) := by
    rw [IntKind.wrap_u64]
    unfold Pk.num
    omega
  obtain ⟨q, hq⟩ : ∃ q, Hid (Pk.num z = q) := ⟨_, hide rfl⟩
  rw [hq.out] at H hw ⊢
  clear hown
  go_enter Tryd.func27, Tryd.ntmps27
  go_wp2_with fail
  refine H.out.mono ?_
  rintro e w' ⟨v', rfl, hA⟩
  have HA := hide hA
  clear hA
  go_wp2_with fail
  go_ret
  exact ⟨_, rfl, HA.out⟩
end Go.Proofs.YthjnkaikjjjceaaDoor
