/-
  Package pack's Reader: a piece that is not there, or behind an error; walked. By an AI agent. No person has read it.
-/
import Derived.Test.YthjnkaikjjjceaaDoorPkTenP
import Derived.Test.YthjnkaikjjjceaaDoorPkShpCl
import Derived.Laws.BitsAllLaws
namespace Go.Proofs.YthjnkaikjjjceaaDoor
open Go.RowKit
set_option maxRecDepth 100000 in
set_option maxHeartbeats 4000000 in
/-- A piece that goes beyond the end: nothing, and the reader has ErrEnd. -/
theorem piece_end (g at_ len cap n : Nat) (A : Option Addr) (ae : Addr) (w : World) (h : Has w g 118 [.slice A len cap, .int .i64 (at_ : Int), .nilIface]) (hE : ErrIs w 3 ae) (hat : at_ ≤ len) (hn : len < at_ + n) (_hl : len ≤ 1000000000) (hn2 : n ≤ 1000000000) :
    Calls Tryd.prog 32 #[.pointer (some ⟨g, 0, none⟩), .int .i64 (n : Int)] w fun e w' => e = .returned (.slice none 0 0) ∧ Has w' g 118 [.slice A len cap, .int .i64 (at_ : Int), errv ae] ∧ w.grownBy w' (some g) := by
  have c0 : w.cell? ⟨g, 0, none⟩ = some (.slice A len cap) := by rw [h.cell]; rfl
  have c1 : w.cell? ⟨g, 1, none⟩ = some (.int .i64 (at_ : Int)) := by rw [h.cell]; rfl
  have c2 : w.cell? ⟨g, 2, none⟩ = some .nilIface := by rw [h.cell]; rfl
  have hs1 : IntKind.i64.wrap ((len : Int) - (at_ : Int)) = (len : Int) - (at_ : Int) := by rw [IntKind.wrap_i64]; omega
  have hS0 : RdS g (.slice A len cap) (.int .i64 (at_ : Int)) .nilIface w.drew := ⟨c0, c1, c2⟩
  have HF := hide (fail_first g (.slice A len cap) (.int .i64 (at_ : Int)) (errv ae) (.inl ⟨ae, rfl⟩) w.drew (h.drewN 1))
  have he : w.drew.cell? ⟨3, 0, none⟩ = some (errv ae) := hE.1
  have HH : Hid (Has (w.drew.setCell ⟨g, 2, none⟩ (errv ae)) g 118 [.slice A len cap, .int .i64 (at_ : Int), errv ae]) := hide ((h.drewN 1).set_ 2 (errv ae))
  have HG := hide (grown_set (grown_drew (World.grownBy.refl w (some g))) ⟨g, 2, none⟩ rfl (errv ae))
  have x2 : (w.drew.setCell ⟨g, 2, none⟩ (errv ae)).cell? ⟨g, 2, none⟩ = some (errv ae) := by rw [HH.out.cell]; rfl
  have HN := hide hn
  have HAT := hide hat
  clear h hE hn hat
  go_enter Tryd.func32, Tryd.ntmps32
  go_wp2_with fail
  go_region_held3 (fun W => W.cell? ⟨g, 0, none⟩ = some (.slice A len cap) ∧ W.cell? ⟨g, 1, none⟩ = some (.int .i64 (at_ : Int)) ∧ W.cell? ⟨g, 2, none⟩ = some .nilIface)
    (first | exact hS0 | assumption)
    (first | fail)
  have hcd : decide ((len : Int) - (at_ : Int) < (n : Int)) = true := decide_eq_true (by have h1 := HN.out; have h2 := HAT.out; omega)
  rw [hcd]
  clear hcd hs1 hS0 c0 c1 c2
  go_wp2_with fail
  refine HF.out.mono ?_
  rintro e w2 ⟨⟨r, rfl⟩, hw2⟩
  rw [← hw2] at x2 HH HG
  clear he hw2
  go_wp2_with fail
  go_ret
  exact ⟨rfl, HH.out, HG.out⟩
set_option maxRecDepth 100000 in
set_option maxHeartbeats 4000000 in
/-- Behind an error: nothing. -/
theorem piece_bad (g at_ len cap n : Nat) (A : Option Addr) (ae : Addr) (v : Value) (hv : IsErr v) (w : World) (h : Has w g 118 [.slice A len cap, .int .i64 (at_ : Int), v]) (hE : ErrIs w 3 ae) (hat : at_ ≤ len) (hl : len ≤ 1000000000) :
    Calls Tryd.prog 32 #[.pointer (some ⟨g, 0, none⟩), .int .i64 (n : Int)] w fun e w' => e = .returned (.slice none 0 0) ∧ Has w' g 118 [.slice A len cap, .int .i64 (at_ : Int), v] ∧ w.grownBy w' (some g) := by
  have c0 : w.cell? ⟨g, 0, none⟩ = some (.slice A len cap) := by rw [h.cell]; rfl
  have c1 : w.cell? ⟨g, 1, none⟩ = some (.int .i64 (at_ : Int)) := by rw [h.cell]; rfl
  have c2 : w.cell? ⟨g, 2, none⟩ = some v := by rw [h.cell]; rfl
  have hs1 : IntKind.i64.wrap ((len : Int) - (at_ : Int)) = (len : Int) - (at_ : Int) := by rw [IntKind.wrap_i64]; omega
  have hS0 : RdS g (.slice A len cap) (.int .i64 (at_ : Int)) v w.drew := ⟨c0, c1, c2⟩
  have HF := hide (fail_more g (.slice A len cap) (.int .i64 (at_ : Int)) v (errv ae) hv w.drew (h.drewN 1))
  have he : w.drew.cell? ⟨3, 0, none⟩ = some (errv ae) := hE.1
  have x2 : w.drew.cell? ⟨g, 2, none⟩ = some v := c2
  have HH : Hid (Has w.drew g 118 [.slice A len cap, .int .i64 (at_ : Int), v]) := hide (h.drewN 1)
  have HG := hide (grown_drew (World.grownBy.refl w (some g)))
  clear h hE hat
  rcases hv with ⟨a, rfl⟩ | ⟨k, rfl⟩
  · go_enter Tryd.func32, Tryd.ntmps32
    go_wp2_with fail
    go_region_held3 (fun W => W.cell? ⟨g, 0, none⟩ = some (.slice A len cap) ∧ W.cell? ⟨g, 1, none⟩ = some (.int .i64 (at_ : Int)) ∧ W.cell? ⟨g, 2, none⟩ = some (errv a))
      (first | exact hS0 | assumption)
      (first | fail)
    cases hcd : decide ((len : Int) - (at_ : Int) < (n : Int))
    · clear hs1 hS0 c0 c1 c2
      go_wp2_with fail
      go_ret
      exact ⟨rfl, HH.out, HG.out⟩
    · clear hs1 hS0 c0 c1 c2
      go_wp2_with fail
      refine HF.out.mono ?_
      rintro e w2 ⟨⟨r, rfl⟩, rfl⟩
      clear he
      go_wp2_with fail
      go_ret
      exact ⟨rfl, HH.out, HG.out⟩
  · go_enter Tryd.func32, Tryd.ntmps32
    go_wp2_with fail
    go_region_held3 (fun W => W.cell? ⟨g, 0, none⟩ = some (.slice A len cap) ∧ W.cell? ⟨g, 1, none⟩ = some (.int .i64 (at_ : Int)) ∧ W.cell? ⟨g, 2, none⟩ = some (.iface 119 (.pointer (some ⟨k, 0, none⟩))))
      (first | exact hS0 | assumption)
      (first | fail)
    cases hcd : decide ((len : Int) - (at_ : Int) < (n : Int))
    · clear hs1 hS0 c0 c1 c2
      go_wp2_with fail
      go_ret
      exact ⟨rfl, HH.out, HG.out⟩
    · clear hs1 hS0 c0 c1 c2
      go_wp2_with fail
      refine HF.out.mono ?_
      rintro e w2 ⟨⟨r, rfl⟩, rfl⟩
      clear he
      go_wp2_with fail
      go_ret
      exact ⟨rfl, HH.out, HG.out⟩
end Go.Proofs.YthjnkaikjjjceaaDoor
namespace Go.Proofs.YthjnkaikjjjceaaDoor
open Go.RowKit
/-- The number of bytes, the lowest first. -/
def Pk.val : List Nat → Nat
  | [] => 0
  | b :: bs => b + 256 * Pk.val bs
theorem Pk.val_one (b : Nat) : Pk.val [b] = b := by simp [Pk.val]
theorem Pk.val_two (b c : Nat) : Pk.val [b, c] = b + c * 256 := by simp [Pk.val, Nat.mul_comm]
theorem Pk.val_lt (cs : List Nat) (h : ∀ b ∈ cs, b < 256) (hl : cs.length ≤ 2) : Pk.val cs < 65536 := by
  match cs, hl with
  | [], _ => decide
  | [b], _ => have := h b (by simp); rw [Pk.val_one]; omega
  | [b, c], _ => have := h b (by simp); have := h c (by simp); rw [Pk.val_two]; omega
theorem pk_or_add (x b k : Nat) (hx : x < 2 ^ k) : x ||| b * 2 ^ k = x + b * 2 ^ k := by
  have h := Nat.two_pow_add_eq_or_of_lt hx b
  rw [Nat.or_comm, Nat.mul_comm, ← h, Nat.add_comm]
set_option maxRecDepth 100000 in
set_option maxHeartbeats 4000000 in
theorem bits_of (g k : Nat) (cs : List Nat) (Q : World → Prop) (w : World) (hk : cs.length ≤ 2) (hP : Calls Tryd.prog 32 #[.pointer (some ⟨g, 0, none⟩), .int .i64 (k : Int)] w fun e w' => (∃ A2 c2, e = .returned (.slice A2 cs.length c2) ∧ Rb w' A2 cs) ∧ Q w') :
    Calls Tryd.prog 77 #[.pointer (some ⟨g, 0, none⟩), .int .i64 (k : Int)] w fun e w' => e = .returned (.int .u64 ((Pk.val cs : Nat) : Int)) ∧ Q w' := by
  have HP := hide hP
  clear hP
  obtain ⟨V, hV⟩ : ∃ V, Hid (Pk.val cs = V) := ⟨_, hide rfl⟩
  rw [hV.out]
  go_enter Tryd.func77, Tryd.ntmps77
  go_wp2_with fail
  refine HP.out.mono ?_
  rintro e w1 ⟨⟨A2, c2, rfl, hrb⟩, hQ⟩
  have HQ := hide hQ
  have HR := hide hrb
  clear hQ hrb HP
  obtain ⟨m, hm⟩ : ∃ m, Hid (cs.length = m) := ⟨_, hide rfl⟩
  rw [hm.out] at hk ⊢
  go_wp2_with fail
  go_loopw [5, 12] (fun n i wr => ∃ (j v : Nat), j ≤ m ∧ i = .int .i64 j ∧ n = .int .u64 v ∧ Hid (Pk.val (cs.take j) = v) ∧ wr = w1) (fun _ i _ => m - (intOf i).toNat)
  case atStart => exact ⟨0, 0, by omega, rfl, rfl, hide rfl, rfl⟩
  case round =>
    obtain ⟨j, v, hj, rfl, rfl, hv, rfl⟩ := hrel
    by_cases hlt : j < m
    · obtain ⟨ad, b, rfl, eb, lb, cb⟩ := rb_at HR.out j (by rw [hm.out]; exact hlt)
      have hjm : (j : Int) < m := by omega
      have hj01 : j = 0 ∨ j = 1 := by omega
      rcases hj01 with rfl | rfl
      · have hv0 : v = 0 := by rw [← hv.out]; rfl
        subst hv0
        have hs : Hid (Pk.val (cs.take 1) = b) := by
          have : cs.take 1 = [b] := by rw [List.take_add_one, eb.out]; rfl
          rw [this]
          exact hide (Pk.val_one b)
        have cb2 := cb
        simp [Addr.add] at cb2
        have s1 : IntKind.u64.wrap (b : Int) = (b : Int) := by rw [IntKind.wrap_u64]; omega
        have s2 : bits .or .u64 (0 : Int) (b : Int) = (b : Int) := by
          have h := u64_or_nat 0 b (by omega) (by omega)
          simpa using h
        clear hv lb hj
        go_wp2_with fail
        go_roundw
        case rel => exact ⟨0 + 1, b, by omega, by go_num, rfl, hs, trivial⟩
        case measure => simp [intOf]; omega
      · obtain ⟨c, hc⟩ : ∃ c, Hid (cs[0]? = some c) := ⟨_, hide (List.getElem?_eq_getElem (by rw [hm.out]; omega))⟩
        have hcl := HR.out.1 c (List.mem_of_getElem? hc.out)
        have h1 : cs.take 1 = [c] := by rw [List.take_add_one, hc.out]; rfl
        have hvc : v = c := by rw [← hv.out, h1, Pk.val_one]
        subst hvc
        have hs : Hid (Pk.val (cs.take (1 + 1)) = v + b * 256) := by
          have : cs.take (1 + 1) = [v, b] := by rw [List.take_add_one, eb.out, h1]; rfl
          rw [this]
          exact hide (Pk.val_two v b)
        have cb2 := cb
        simp [Addr.add] at cb2
        have s1 : IntKind.u64.wrap ((b : Int) * 256) = ((b * 256 : Nat) : Int) := by rw [IntKind.wrap_u64]; omega
        have s2 : bits .or .u64 (v : Int) ((b * 256 : Nat) : Int) = ((v + b * 256 : Nat) : Int) := by
          rw [u64_or_nat v _ (by omega) (by omega)]
          have h := pk_or_add v b 8 (by omega)
          exact congrArg (fun n : Nat => (n : Int)) h
        obtain ⟨t, ht⟩ : ∃ t, Hid (b * 256 = t) := ⟨_, hide rfl⟩
        obtain ⟨z, hz⟩ : ∃ z, Hid (v + b * 256 = z) := ⟨_, hide rfl⟩
        rw [hz.out] at hs s2
        rw [ht.out] at s1 s2
        have s3 : IntKind.u64.wrap (b : Int) = (b : Int) := by rw [IntKind.wrap_u64]; omega
        have s4 : IntKind.u64.wrap (t : Int) = (t : Int) := by rw [IntKind.wrap_u64]; have := ht.out; omega
        clear hv lb hj hcl hc h1
        go_wp2_with fail
        go_roundw
        case rel => exact ⟨1 + 1, z, by omega, by go_num, rfl, hs, trivial⟩
        case measure => simp [intOf]; omega
    · obtain rfl : j = m := by omega
      have hvV : v = V := by rw [← hv.out, ← hV.out, List.take_of_length_le (by rw [hm.out]; exact Nat.le_refl _)]
      subst hvV
      go_wp2_with fail
      go_ret
      exact ⟨rfl, HQ.out⟩
theorem number_of (g k : Nat) (cs : List Nat) (Q : World → Prop) (w : World) (hb : ∀ b ∈ cs, b < 256) (hk : cs.length ≤ 2) (hP : Calls Tryd.prog 32 #[.pointer (some ⟨g, 0, none⟩), .int .i64 (k : Int)] w fun e w' => (∃ A2 c2, e = .returned (.slice A2 cs.length c2) ∧ Rb w' A2 cs) ∧ Q w') :
    Calls Tryd.prog 78 #[.pointer (some ⟨g, 0, none⟩), .int .i64 (k : Int)] w fun e w' => e = .returned (.int .i64 ((Pk.val cs : Nat) : Int)) ∧ Q w' := by
  have HB := hide (bits_of g k cs Q w hk hP)
  have hv := Pk.val_lt cs hb hk
  obtain ⟨V, hV⟩ : ∃ V, Hid (Pk.val cs = V) := ⟨_, hide rfl⟩
  rw [hV.out] at HB hv ⊢
  have hw : IntKind.i64.wrap (V : Int) = (V : Int) := by rw [IntKind.wrap_i64]; omega
  clear hP hb hk hv
  go_enter Tryd.func78, Tryd.ntmps78
  go_wp2_with fail
  refine HB.out.mono ?_
  rintro e w1 ⟨rfl, hQ⟩
  have HQ := hide hQ
  clear hQ
  go_wp2_with fail
  go_ret
  exact ⟨rfl, HQ.out⟩
end Go.Proofs.YthjnkaikjjjceaaDoor
namespace Go.Proofs.YthjnkaikjjjceaaDoor
open Go.RowKit
/-- What is read is not more than may be, or nothing was read. -/
theorem count_of (g k most v : Nat) (at_ : Int) (x e0 ev : Value) (Q : World → Prop) (w : World) (h : Has w g 118 [x, .int .i64 at_, e0]) (hv : v ≤ most) (hN : Calls Tryd.prog 78 #[.pointer (some ⟨g, 0, none⟩), .int .i64 (k : Int)] w fun e w' => e = .returned (.int .i64 (v : Int)) ∧ Q w') :
    Calls Tryd.prog 36 #[.pointer (some ⟨g, 0, none⟩), .int .i64 (k : Int), .int .i64 (most : Int), ev] w fun e w' => e = .returned (.int .i64 (v : Int)) ∧ Q w' := by
  have c1 : w.cell? ⟨g, 1, none⟩ = some (.int .i64 at_) := by rw [h.cell]; rfl
  have HN := hide hN
  have hvm : (v : Int) ≤ most := by omega
  clear h hN hv
  go_enter Tryd.func36, Tryd.ntmps36
  go_wp2_with fail
  refine HN.out.mono ?_
  rintro e w1 ⟨rfl, hQ⟩
  have HQ := hide hQ
  clear hQ c1
  go_wp2_with fail
  go_ret
  exact ⟨rfl, HQ.out⟩
/-- More than may be: an error around the place. -/
theorem count_many (g k most v : Nat) (at_ at2 : Int) (x : Value) (a : Addr) (w : World) (h : Has w g 118 [x, .int .i64 at_, .nilIface]) (hv : most < v) (hN : Calls Tryd.prog 78 #[.pointer (some ⟨g, 0, none⟩), .int .i64 (k : Int)] w fun e w' => e = .returned (.int .i64 (v : Int)) ∧ Has w' g 118 [x, .int .i64 at2, .nilIface] ∧ w.grownBy w' (some g)) :
    Calls Tryd.prog 36 #[.pointer (some ⟨g, 0, none⟩), .int .i64 (k : Int), .int .i64 (most : Int), errv a] w fun e w' => e = .returned (.int .i64 0) ∧ (∃ g2, g2 ≠ g ∧ w.heap.size ≤ g2 ∧ Has w' g2 122 [.int .i64 at_, errv a] ∧ Has w' g 118 [x, .int .i64 at2, .iface 119 (.pointer (some ⟨g2, 0, none⟩))]) ∧ w.grownBy w' (some g) := by
  have c1 : w.cell? ⟨g, 1, none⟩ = some (.int .i64 at_) := by rw [h.cell]; rfl
  have HN := hide hN
  have hvm : (most : Int) < v := by omega
  clear h hN hv
  go_enter Tryd.func36, Tryd.ntmps36
  go_wp2_with fail
  refine HN.out.mono ?_
  rintro e w1 ⟨rfl, hH, hG⟩
  have HH := hide hH
  have HG := hide hG
  clear hH hG c1 HN
  go_wp2_with fail
  refine (at_of a at_ w1).mono ?_
  rintro e w2 ⟨rfl, hw2⟩
  have hA2 : Has w2 w1.heap.size 122 [.int .i64 at_, errv a] := by rw [hw2]; exact Has.new w1 _ _
  have hH2 : Has w2 g 118 [x, .int .i64 at2, .nilIface] := by rw [hw2]; exact HH.out.alloc _
  have hG2 : w.grownBy w2 (some g) := by rw [hw2]; exact HG.out.trans (World.grownBy_alloc w1 _ _)
  have hlt := HH.out.lt
  have HF := hide (fail_first g x (.int .i64 at2) (.iface 119 (.pointer (some ⟨w1.heap.size, 0, none⟩))) (.inr ⟨_, rfl⟩) w2 hH2)
  have HA3 := hide (hA2.far (p := ⟨g, 2, none⟩) (by simp; omega) (.iface 119 (.pointer (some ⟨w1.heap.size, 0, none⟩))))
  have HH3 := hide (hH2.set_ 2 (.iface 119 (.pointer (some ⟨w1.heap.size, 0, none⟩))))
  have HG3 := hide (grown_set hG2 ⟨g, 2, none⟩ rfl (.iface 119 (.pointer (some ⟨w1.heap.size, 0, none⟩))))
  have hne : w1.heap.size ≠ g := by omega
  have hle := HG.out.size
  clear hA2 hH2 hG2 hw2 HH HG hlt
  go_wp2_with fail
  refine HF.out.mono ?_
  rintro e w3 ⟨⟨r, rfl⟩, hw3⟩
  rw [← hw3] at HA3 HH3 HG3
  clear hw3 HF
  go_wp2_with fail
  go_ret
  exact ⟨rfl, ⟨_, hne, hle, HA3.out, HH3.out⟩, HG3.out⟩
end Go.Proofs.YthjnkaikjjjceaaDoor
namespace Go.Proofs.YthjnkaikjjjceaaDoor
open Go.RowKit
/-- An append of ints, as an operation of the walk. -/
theorem wpList_append_is {w : World} {ops : Array Oper} {rest : List Oper} {o : Oper} {a : Act} {Q : Exit → Act → World → Prop} (hgd : o.guard = none) (s x : Operand)
    (ho : o.op = .call { callee := .builtin .append, args := #[s, x], argTypes := #[46, 46] })
    (base : Nat) (v : Value) (n : Nat) (xs : List Value) (hs : a.eval s = v) (hown : w.ownsRow base 3 1 v n xs) (A : Option Addr) (m cap : Nat) (bs : List Int) (hx : a.eval x = .slice A m cap) (hm : Hid (bs.length = m)) (hr : Ri w A bs)
    (hb : n + m ≤ 1000000000000) (hbase : base ≤ w.heap.size)
    (h : ∀ v' w', w'.ownsRow base 3 1 v' (n + m) (xs ++ i64s bs) → w.grownBy w' v.ownBlock → (v'.ownBlock = v.ownBlock ∨ v'.ownBlock = some w.heap.size) → wpList Tryd.prog ops Q rest (a.put o.dst v') w') :
    wpList Tryd.prog ops Q (o :: rest) a w := by
  obtain rfl := hm.out
  refine wpList_plain hgd fun K hK => ?_
  obtain ⟨v', w', hrun, h2, h3, h5⟩ := run_append_is w o.type base v n xs hown A cap bs hr hb hbase
  unfold Oper.wp execOp
  simp only [ho, resolve, invoke, builtin, Sem.run_bind, Sem.run_pure, Result.andThen_ok, List.map_toArray, List.map_cons, List.map_nil, hs, hx, hrun]
  exact hK _ _ (h v' w' h2 h3 h5)
end Go.Proofs.YthjnkaikjjjceaaDoor
