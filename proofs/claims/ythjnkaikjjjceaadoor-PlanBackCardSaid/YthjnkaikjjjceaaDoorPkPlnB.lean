/-
  Package pack's Reader by its state: Bits, Number, Signed, Count, Desc, Rest, Took, End. By an AI agent. No person has read it.
-/
import Derived.Test.YthjnkaikjjjceaaDoorPkPlnA
import Derived.Test.YthjnkaikjjjceaaDoorPkTenW
namespace Go.Proofs.YthjnkaikjjjceaaDoor
open Go.RowKit
set_option maxRecDepth 100000 in
set_option maxHeartbeats 4000000 in
theorem bits4_of (g k : Nat) (cs : List Nat) (Q : World → Prop) (w : World) (hk : cs.length ≤ 4) (hP : Calls Tryd.prog 32 #[.pointer (some ⟨g, 0, none⟩), .int .i64 (k : Int)] w fun e w' => (∃ A2 c2, e = .returned (.slice A2 cs.length c2) ∧ Rb w' A2 cs) ∧ Q w') :
    Calls Tryd.prog 77 #[.pointer (some ⟨g, 0, none⟩), .int .i64 (k : Int)] w fun e w' => e = .returned (.int .u64 ((Pk.val cs : Nat) : Int)) ∧ Q w' := by
  have HP := hide hP
  clear hP
  obtain ⟨V, hV⟩ : ∃ V, Hid (Pk.val cs = V) := ⟨_, hide rfl⟩
  rw [hV.out]
  go_enter Tryd.func77, Tryd.ntmps77
  go_wp2_with fail
  refine HP.out.mono ?_
  rintro e w1 ⟨⟨A2, c2, rfl, hrb⟩, hQ⟩
  have HQ := hide hQ
  have HR := hide hrb
  clear hQ hrb HP
  obtain ⟨m, hm⟩ : ∃ m, Hid (cs.length = m) := ⟨_, hide rfl⟩
  rw [hm.out] at hk ⊢
  go_wp2_with fail
  go_loopw [5, 12] (fun n i wr => ∃ (j v : Nat), j ≤ m ∧ i = .int .i64 j ∧ n = .int .u64 v ∧ Hid (Pk.val (cs.take j) = v) ∧ wr = w1) (fun _ i _ => m - (intOf i).toNat)
  case atStart => exact ⟨0, 0, by omega, rfl, rfl, hide rfl, rfl⟩
  case round =>
    obtain ⟨j, v, hj, rfl, rfl, hv, rfl⟩ := hrel
    by_cases hlt : j < m
    · obtain ⟨ad, b, rfl, eb, lb, cb⟩ := rb_at HR.out j (by rw [hm.out]; exact hlt)
      have hjm : (j : Int) < m := by omega
      have hjs : j = 0 ∨ j = 1 ∨ j = 2 ∨ j = 3 := by omega
      rcases hjs with hjj | hjj | hjj | hjj
      · obtain rfl : j = 0 := hjj
        have hv0 : v = 0 := by rw [← hv.out]; rfl
        subst hv0
        have hs : Hid (Pk.val (cs.take (0 + 1)) = b) := hide (by rw [List.take_add_one, eb.out]; exact Pk.val_one b)
        have cb2 := cb
        simp [Addr.add] at cb2
        have s1 : IntKind.u64.wrap (b : Int) = (b : Int) := by rw [IntKind.wrap_u64]; omega
        have s2 : bits .or .u64 (0 : Int) (b : Int) = (b : Int) := by
          have h := u64_or_nat 0 b (by omega) (by omega)
          simpa using h
        clear hv lb hj
        go_wp2_with fail
        go_roundw
        case rel => exact ⟨0 + 1, b, by omega, by go_num, rfl, hs, trivial⟩
        case measure => simp [intOf]; omega
      · obtain rfl : j = 1 := hjj
        have hvl : v < 256 := by
          rw [← hv.out]
          have h := Pk.val_lt_pow (cs.take 1) fun x hx => HR.out.1 x (List.mem_of_mem_take hx)
          rwa [List.length_take, Nat.min_eq_left (by rw [hm.out]; omega)] at h
        have hs : Hid (Pk.val (cs.take (1 + 1)) = v + b * 256) := hide (by
          rw [List.take_add_one, eb.out, Option.toList_some, Pk.val_snoc, hv.out, List.length_take, Nat.min_eq_left (by rw [hm.out]; omega)])
        have cb2 := cb
        simp [Addr.add] at cb2
        have s1 : IntKind.u64.wrap ((b : Int) * 256) = ((b * 256 : Nat) : Int) := by rw [IntKind.wrap_u64]; omega
        have s2 : bits .or .u64 (v : Int) ((b * 256 : Nat) : Int) = ((v + b * 256 : Nat) : Int) := by
          rw [u64_or_nat v _ (by omega) (by omega)]
          have h := pk_or_add v b 8 (by omega)
          exact congrArg (fun n : Nat => (n : Int)) h
        obtain ⟨t, ht⟩ : ∃ t, Hid (b * 256 = t) := ⟨_, hide rfl⟩
        obtain ⟨z, hz⟩ : ∃ z, Hid (v + b * 256 = z) := ⟨_, hide rfl⟩
        rw [hz.out] at hs s2
        rw [ht.out] at s1 s2
        have s3 : IntKind.u64.wrap (b : Int) = (b : Int) := by rw [IntKind.wrap_u64]; omega
        have s4 : IntKind.u64.wrap (t : Int) = (t : Int) := by rw [IntKind.wrap_u64]; have := ht.out; omega
        clear hv lb hj hvl
        go_wp2_with fail
        go_roundw
        case rel => exact ⟨1 + 1, z, by omega, by go_num, rfl, hs, trivial⟩
        case measure => simp [intOf]; omega
      · obtain rfl : j = 2 := hjj
        have hvl : v < 65536 := by
          rw [← hv.out]
          have h := Pk.val_lt_pow (cs.take 2) fun x hx => HR.out.1 x (List.mem_of_mem_take hx)
          rwa [List.length_take, Nat.min_eq_left (by rw [hm.out]; omega)] at h
        have hs : Hid (Pk.val (cs.take (2 + 1)) = v + b * 65536) := hide (by
          rw [List.take_add_one, eb.out, Option.toList_some, Pk.val_snoc, hv.out, List.length_take, Nat.min_eq_left (by rw [hm.out]; omega)])
        have cb2 := cb
        simp [Addr.add] at cb2
        have s1 : IntKind.u64.wrap ((b : Int) * 65536) = ((b * 65536 : Nat) : Int) := by rw [IntKind.wrap_u64]; omega
        have s2 : bits .or .u64 (v : Int) ((b * 65536 : Nat) : Int) = ((v + b * 65536 : Nat) : Int) := by
          rw [u64_or_nat v _ (by omega) (by omega)]
          have h := pk_or_add v b 16 (by omega)
          exact congrArg (fun n : Nat => (n : Int)) h
        obtain ⟨t, ht⟩ : ∃ t, Hid (b * 65536 = t) := ⟨_, hide rfl⟩
        obtain ⟨z, hz⟩ : ∃ z, Hid (v + b * 65536 = z) := ⟨_, hide rfl⟩
        rw [hz.out] at hs s2
        rw [ht.out] at s1 s2
        have s3 : IntKind.u64.wrap (b : Int) = (b : Int) := by rw [IntKind.wrap_u64]; omega
        have s4 : IntKind.u64.wrap (t : Int) = (t : Int) := by rw [IntKind.wrap_u64]; have := ht.out; omega
        clear hv lb hj hvl
        go_wp2_with fail
        go_roundw
        case rel => exact ⟨2 + 1, z, by omega, by go_num, rfl, hs, trivial⟩
        case measure => simp [intOf]; omega
      · obtain rfl : j = 3 := hjj
        have hvl : v < 16777216 := by
          rw [← hv.out]
          have h := Pk.val_lt_pow (cs.take 3) fun x hx => HR.out.1 x (List.mem_of_mem_take hx)
          rwa [List.length_take, Nat.min_eq_left (by rw [hm.out]; omega)] at h
        have hs : Hid (Pk.val (cs.take (3 + 1)) = v + b * 16777216) := hide (by
          rw [List.take_add_one, eb.out, Option.toList_some, Pk.val_snoc, hv.out, List.length_take, Nat.min_eq_left (by rw [hm.out]; omega)])
        have cb2 := cb
        simp [Addr.add] at cb2
        have s1 : IntKind.u64.wrap ((b : Int) * 16777216) = ((b * 16777216 : Nat) : Int) := by rw [IntKind.wrap_u64]; omega
        have s2 : bits .or .u64 (v : Int) ((b * 16777216 : Nat) : Int) = ((v + b * 16777216 : Nat) : Int) := by
          rw [u64_or_nat v _ (by omega) (by omega)]
          have h := pk_or_add v b 24 (by omega)
          exact congrArg (fun n : Nat => (n : Int)) h
        obtain ⟨t, ht⟩ : ∃ t, Hid (b * 16777216 = t) := ⟨_, hide rfl⟩
        obtain ⟨z, hz⟩ : ∃ z, Hid (v + b * 16777216 = z) := ⟨_, hide rfl⟩
        rw [hz.out] at hs s2
        rw [ht.out] at s1 s2
        have s3 : IntKind.u64.wrap (b : Int) = (b : Int) := by rw [IntKind.wrap_u64]; omega
        have s4 : IntKind.u64.wrap (t : Int) = (t : Int) := by rw [IntKind.wrap_u64]; have := ht.out; omega
        clear hv lb hj hvl
        go_wp2_with fail
        go_roundw
        case rel => exact ⟨3 + 1, z, by omega, by go_num, rfl, hs, trivial⟩
        case measure => simp [intOf]; omega
    · obtain rfl : j = m := by omega
      have hvV : v = V := by rw [← hv.out, ← hV.out, List.take_of_length_le (by rw [hm.out]; exact Nat.le_refl _)]
      subst hvV
      go_wp2_with fail
      go_ret
      exact ⟨rfl, HQ.out⟩
theorem number4_of (g k : Nat) (cs : List Nat) (Q : World → Prop) (w : World) (hb : ∀ b ∈ cs, b < 256) (hk : cs.length ≤ 4) (hP : Calls Tryd.prog 32 #[.pointer (some ⟨g, 0, none⟩), .int .i64 (k : Int)] w fun e w' => (∃ A2 c2, e = .returned (.slice A2 cs.length c2) ∧ Rb w' A2 cs) ∧ Q w') :
    Calls Tryd.prog 78 #[.pointer (some ⟨g, 0, none⟩), .int .i64 (k : Int)] w fun e w' => e = .returned (.int .i64 ((Pk.val cs : Nat) : Int)) ∧ Q w' := by
  have HB := hide (bits4_of g k cs Q w hk hP)
  have hv := Pk.val_lt4 cs hb hk
  obtain ⟨V, hV⟩ : ∃ V, Hid (Pk.val cs = V) := ⟨_, hide rfl⟩
  rw [hV.out] at HB hv ⊢
  have hw : IntKind.i64.wrap (V : Int) = (V : Int) := by rw [IntKind.wrap_i64]; omega
  clear hP hb hk hv
  go_enter Tryd.func78, Tryd.ntmps78
  go_wp2_with fail
  refine HB.out.mono ?_
  rintro e w1 ⟨rfl, hQ⟩
  have HQ := hide hQ
  clear hQ
  go_wp2_with fail
  go_ret
  exact ⟨rfl, HQ.out⟩
theorem signed_of (g : Nat) (cs : List Nat) (Q : World → Prop) (w : World) (hk : cs.length ≤ 4) (hP : Calls Tryd.prog 32 #[.pointer (some ⟨g, 0, none⟩), .int .i64 4] w fun e w' => (∃ A2 c2, e = .returned (.slice A2 cs.length c2) ∧ Rb w' A2 cs) ∧ Q w') :
    Calls Tryd.prog 35 #[.pointer (some ⟨g, 0, none⟩)] w fun e w' => e = .returned (.int .i64 (Tens.wide ((Pk.val cs : Nat) : Int))) ∧ Q w' := by
  have HB := hide (bits4_of g 4 cs Q w hk hP)
  obtain ⟨V, hV⟩ : ∃ V, Hid (Pk.val cs = V) := ⟨_, hide rfl⟩
  rw [hV.out] at HB ⊢
  have hw1 := wide_wrap (V : Int)
  have hw2 := wide_in (V : Int)
  obtain ⟨Z, hZ⟩ : ∃ Z, Hid (Tens.wide (V : Int) = Z) := ⟨_, hide rfl⟩
  rw [hZ.out] at hw1 hw2 ⊢
  clear hP hk
  go_enter Tryd.func35, Tryd.ntmps35
  go_wp2_with fail
  refine HB.out.mono ?_
  rintro e w1 ⟨rfl, hQ⟩
  have HQ := hide hQ
  clear hQ
  go_wp2_with fail
  go_ret
  exact ⟨rfl, HQ.out⟩
section
variable {w0 : World} {A : Option Addr} {bs : List Nat} {cap : Nat} {es : List Addr} {ae am ak : Addr}
theorem number_m (hX : Rx w0 A bs cap es ae am ak) (B g k : Nat) (s : Rs) (W : World) (hk : 1 ≤ k) (hk2 : k ≤ 4) (hg : w0.heap.size ≤ g) (hW : Below w0.heap.size w0 W) (h : RdB B W g A bs cap es s) :
    Calls Tryd.prog 78 #[.pointer (some ⟨g, 0, none⟩), .int .i64 (k : Int)] W fun e w' => e = .returned (.int .i64 (((s.number bs k).1 : Nat) : Int)) ∧ RdB B w' g A bs cap es (s.number bs k).2 ∧ W.grownBy w' (some g) := by
  refine number4_of g k (s.piece bs k).1 _ W (Rs.piece_lt bs k s hX.rb.1) (Nat.le_trans (Rs.piece_len bs k s) hk2) ((piece_m hX B g k s W hk (by omega) hg hW h).mono ?_)
  rintro e w' ⟨⟨A2, c2, h1, -, h2⟩, h3⟩
  exact ⟨⟨A2, c2, h1, h2⟩, h3⟩
theorem signed_m (hX : Rx w0 A bs cap es ae am ak) (B g : Nat) (s : Rs) (W : World) (hg : w0.heap.size ≤ g) (hW : Below w0.heap.size w0 W) (h : RdB B W g A bs cap es s) :
    Calls Tryd.prog 35 #[.pointer (some ⟨g, 0, none⟩)] W fun e w' => e = .returned (.int .i64 (s.signed bs).1) ∧ RdB B w' g A bs cap es (s.signed bs).2 ∧ W.grownBy w' (some g) := by
  refine signed_of g (s.piece bs 4).1 _ W (Rs.piece_len bs 4 s) ((piece_m hX B g 4 s W (by omega) (by omega) hg hW h).mono ?_)
  rintro e w' ⟨⟨A2, c2, h1, -, h2⟩, h3⟩
  exact ⟨⟨A2, c2, h1, h2⟩, h3⟩
theorem count_m (hX : Rx w0 A bs cap es ae am ak) (g k most j : Nat) (s : Rs) (a : Addr) (ha : es[j]? = some a) (W : World) (hk : 1 ≤ k) (hk2 : k ≤ 4) (hg : w0.heap.size ≤ g) (hW : Below w0.heap.size w0 W) (h : RdB W.heap.size W g A bs cap es s) :
    Calls Tryd.prog 36 #[.pointer (some ⟨g, 0, none⟩), .int .i64 (k : Int), .int .i64 (most : Int), errv a] W fun e w' => e = .returned (.int .i64 (((s.count bs k most j).1 : Nat) : Int)) ∧ RdB w'.heap.size w' g A bs cap es (s.count bs k most j).2 ∧ W.grownBy w' (some g) := by
  have HN := number_m hX W.heap.size g k s W hk hk2 hg hW h
  obtain ⟨hat, v, hH, hV⟩ := h
  by_cases hm : most < (s.number bs k).1
  · have e0 : s.e = none := by
      obtain ⟨at_, e⟩ := s
      match e with
      | none => rfl
      | some x =>
        have : (Rs.number bs k ⟨at_, some x⟩).1 = 0 := rfl
        omega
    have e2 : (s.number bs k).2.e = none := by
      obtain ⟨at_, e⟩ := s
      obtain rfl : e = none := e0
      show (Rs.piece bs k ⟨at_, none⟩).2.e = none
      have hm2 : most < Pk.val (Rs.piece bs k ⟨at_, none⟩).1 := hm
      unfold Rs.piece at hm2 ⊢
      dsimp only at hm2 ⊢
      split
      · rfl
      · rename_i hh
        rw [if_neg hh] at hm2
        simp [Pk.val] at hm2
    have ec : s.count bs k most j = (0, ⟨(s.number bs k).2.at_, some (some s.at_, j)⟩) := by
      unfold Rs.count
      rw [if_pos hm]
      unfold Rs.fail
      rw [e2]
    rw [e0] at hV
    obtain rfl : v = .nilIface := hV
    rw [ec]
    refine (count_many g k most (s.number bs k).1 (s.at_ : Nat) ((s.number bs k).2.at_ : Nat) (.slice A bs.length cap) a W hH hm (HN.mono ?_)).mono ?_
    · rintro e w' ⟨rfl, ⟨ha2, v2, h2, h3⟩, h4⟩
      rw [e2] at h3
      obtain rfl : v2 = .nilIface := h3
      exact ⟨rfl, h2, h4⟩
    · rintro e w' ⟨rfl, ⟨g2, -, -, h2, h3⟩, h4⟩
      exact ⟨rfl, ⟨Rs.piece_at bs k s hat, _, h3, a, g2, ha, rfl, h2.lt, h2⟩, h4⟩
  · have ec : s.count bs k most j = s.number bs k := by unfold Rs.count; rw [if_neg hm]
    rw [ec]
    refine count_of g k most (s.number bs k).1 (s.at_ : Nat) (.slice A bs.length cap) v (errv a) _ W hH (by omega) (HN.mono ?_)
    rintro e w' ⟨rfl, h1, h2⟩
    exact ⟨rfl, h1.tight, h2⟩
end
end Go.Proofs.YthjnkaikjjjceaaDoor
