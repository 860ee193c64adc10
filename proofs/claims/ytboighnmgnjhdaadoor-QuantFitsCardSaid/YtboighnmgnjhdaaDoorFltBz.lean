/-
  flt.Bytes and the reference's, walked. By an AI agent. No person has read it.
-/
import Derived.Test.YtboighnmgnjhdaaDoorFltBy
namespace Go.Proofs.YtboighnmgnjhdaaDoor
open Go.RowKit

/-- The word that is told of a number: one of each that is none. -/
def Flt.told (x : Nat) : Nat := if Flt.nanb x = true then 9221120237041090561 else x
theorem Flt.told_lt (x : Nat) (h : x < 18446744073709551616) : Flt.told x < 18446744073709551616 := by
  unfold Flt.told
  split <;> omega
theorem byte_0 (b : Nat) : IntKind.u8.wrap (b : Int) = ((b % 256 : Nat) : Int) := by
  rw [IntKind.wrap_u8]
  omega
theorem byte_1 (b : Nat) : IntKind.u8.wrap ((b : Int) / 256) = ((b / 256 % 256 : Nat) : Int) := by
  rw [IntKind.wrap_u8]
  omega
theorem byte_2 (b : Nat) : IntKind.u8.wrap ((b : Int) / 65536) = ((b / 65536 % 256 : Nat) : Int) := by
  rw [IntKind.wrap_u8]
  omega
theorem byte_3 (b : Nat) : IntKind.u8.wrap ((b : Int) / 16777216) = ((b / 16777216 % 256 : Nat) : Int) := by
  rw [IntKind.wrap_u8]
  omega
theorem byte_4 (b : Nat) : IntKind.u8.wrap ((b : Int) / 4294967296) = ((b / 4294967296 % 256 : Nat) : Int) := by
  rw [IntKind.wrap_u8]
  omega
theorem byte_5 (b : Nat) : IntKind.u8.wrap ((b : Int) / 1099511627776) = ((b / 1099511627776 % 256 : Nat) : Int) := by
  rw [IntKind.wrap_u8]
  omega
theorem byte_6 (b : Nat) : IntKind.u8.wrap ((b : Int) / 281474976710656) = ((b / 281474976710656 % 256 : Nat) : Int) := by
  rw [IntKind.wrap_u8]
  omega
theorem byte_7 (b : Nat) : IntKind.u8.wrap ((b : Int) / 72057594037927936) = ((b / 72057594037927936 % 256 : Nat) : Int) := by
  rw [IntKind.wrap_u8]
  omega
/-- The row with its first i bytes laid. -/
def rowTo (n : Nat) (i : Nat) : List Nat := (Flt.by8 n).take i ++ List.replicate (8 - i) 0
theorem made8 : ∃ Z : Array Value, Hid (Z = (u8s (List.replicate 8 0)).toArray) ∧ ∀ w : World, (Instr.makeSlice 53 (.int .i64 8) (.int .i64 8)).run Tryd.prog w = .ok (.slice (some ⟨w.heap.size, 0, none⟩) 8 8) (w.alloc (.cells Z 5)) := by
  obtain ⟨i0, hi0, hz0, hz1, hz2⟩ := u8info
  refine ⟨madeCells (Value.int .u8 0).cells 8, hide (by kernel_rfl), fun w => ?_⟩
  have h := run_make (P := Tryd.prog) w 53 5 i0 (.int .u8 0) ubs hi0 hz0 .i64 .i64 8 8 (by omega) (by omega) (by rw [hz2]; omega) (by omega)
  rw [hz1, show (8 : Int).toNat = 8 by rfl, Nat.mul_one] at h
  exact h
set_option maxRecDepth 100000 in
set_option maxHeartbeats 4000000 in
theorem floatbytes_at (x : Nat) (hx : x < 18446744073709551616) (w : World) :
    Calls Tryd.prog 73 #[.float .f64 x] w fun e w' => e = .returned (.slice (some ⟨w.heap.size, 0, none⟩) 8 8) ∧ Has w' w.heap.size 5 (u8s (Flt.by8 (Flt.told x))) ∧ Below w.heap.size w w' := by
  have hfb := run_f64bits
  obtain ⟨Z, hZ, hmk⟩ := made8
  have HB0 := hide ((Below.refl _ w).alloc (Nat.le_refl _) (.cells Z 5))
  have HH0 : Hid (Has (w.alloc (.cells Z 5)) w.heap.size 5 (u8s (List.replicate 8 0))) := by
    rw [hZ.out]
    exact hide (Has.new w _ _)
  clear hZ
  obtain ⟨b, hb, hlb⟩ : ∃ b, Hid (Flt.told x = b) ∧ b < 18446744073709551616 := ⟨_, hide rfl, Flt.told_lt x hx⟩
  rw [hb.out]
  cases hn : Flt.nanb x
  all_goals
    first
    | (have ho := order_num' hn
       have hxb : Hid (((x : Nat) : Int) = (b : Int)) := by
         have := hb.out
         unfold Flt.told at this
         rw [hn, if_neg (by decide)] at this
         exact hide (by rw [this]))
    | (have ho := order_nan hn
       have hxb : Hid ((9221120237041090561 : Int) = (b : Int)) := by
         have := hb.out
         unfold Flt.told at this
         rw [hn, if_pos rfl] at this
         exact hide (by rw [← this]; rfl))
    clear hn hb hx
    go_enter Tryd.func73, Tryd.ntmps73
    go_wp2_with fail
    rw [hxb.out]
    go_loopw [14] (fun k wr => ∃ i : Nat, i ≤ 8 ∧ k = .int .i64 i ∧ Hid (Has wr w.heap.size 5 (u8s (rowTo b i))) ∧ Hid (Below w.heap.size w wr)) (fun k _ => 8 - (intOf k).toNat)
    case atStart => exact ⟨0, by omega, rfl, HH0, HB0⟩
    case round =>
      obtain ⟨i, hi, rfl, hI, hB⟩ := hrel
      clear hxb ho
      by_cases hlt : i < 8
      · clear hi
        rcases fin8 i hlt with rfl | rfl | rfl | rfl | rfl | rfl | rfl | rfl
        · have sb := byte_0 b
          have hc : wr.cell? ⟨w.heap.size, 0, none⟩ = some (.int .u8 0) := hI.out.cell 0
          have hf := hI.out.frozen 0
          clear hlt
          have hset := hide (hI.out.set_ 0 (.int .u8 ((b % 256 : Nat) : Int)))
          have hbel := hide (hB.out.setCell (p := ⟨w.heap.size, 0, none⟩) (Nat.le_refl _) (.int .u8 ((b % 256 : Nat) : Int)))
          obtain ⟨y, hy⟩ : ∃ y : Nat, Hid ((b % 256) = y) := ⟨_, hide rfl⟩
          rw [hy.out] at sb hset hbel
          go_wp2_with fail
          go_roundw
          case rel =>
            have e : (u8s (rowTo b 0)).set 0 (.int .u8 ((y : Nat) : Int)) = u8s (rowTo b (0 + 1)) := by rw [← hy.out]; rfl
            rw [e] at hset
            exact ⟨0 + 1, by omega, by go_num, hset, hbel⟩
          case measure => simp [intOf]
        · have sb := byte_1 b
          have hc : wr.cell? ⟨w.heap.size, 1, none⟩ = some (.int .u8 0) := hI.out.cell 1
          have hf := hI.out.frozen 1
          clear hlt
          have hset := hide (hI.out.set_ 1 (.int .u8 ((b / 256 % 256 : Nat) : Int)))
          have hbel := hide (hB.out.setCell (p := ⟨w.heap.size, 1, none⟩) (Nat.le_refl _) (.int .u8 ((b / 256 % 256 : Nat) : Int)))
          obtain ⟨y, hy⟩ : ∃ y : Nat, Hid ((b / 256 % 256) = y) := ⟨_, hide rfl⟩
          rw [hy.out] at sb hset hbel
          go_wp2_with fail
          go_roundw
          case rel =>
            have e : (u8s (rowTo b 1)).set 1 (.int .u8 ((y : Nat) : Int)) = u8s (rowTo b (1 + 1)) := by rw [← hy.out]; rfl
            rw [e] at hset
            exact ⟨1 + 1, by omega, by go_num, hset, hbel⟩
          case measure => simp [intOf]
        · have sb := byte_2 b
          have hc : wr.cell? ⟨w.heap.size, 2, none⟩ = some (.int .u8 0) := hI.out.cell 2
          have hf := hI.out.frozen 2
          clear hlt
          have hset := hide (hI.out.set_ 2 (.int .u8 ((b / 65536 % 256 : Nat) : Int)))
          have hbel := hide (hB.out.setCell (p := ⟨w.heap.size, 2, none⟩) (Nat.le_refl _) (.int .u8 ((b / 65536 % 256 : Nat) : Int)))
          obtain ⟨y, hy⟩ : ∃ y : Nat, Hid ((b / 65536 % 256) = y) := ⟨_, hide rfl⟩
          rw [hy.out] at sb hset hbel
          go_wp2_with fail
          go_roundw
          case rel =>
            have e : (u8s (rowTo b 2)).set 2 (.int .u8 ((y : Nat) : Int)) = u8s (rowTo b (2 + 1)) := by rw [← hy.out]; rfl
            rw [e] at hset
            exact ⟨2 + 1, by omega, by go_num, hset, hbel⟩
          case measure => simp [intOf]
        · have sb := byte_3 b
          have hc : wr.cell? ⟨w.heap.size, 3, none⟩ = some (.int .u8 0) := hI.out.cell 3
          have hf := hI.out.frozen 3
          clear hlt
          have hset := hide (hI.out.set_ 3 (.int .u8 ((b / 16777216 % 256 : Nat) : Int)))
          have hbel := hide (hB.out.setCell (p := ⟨w.heap.size, 3, none⟩) (Nat.le_refl _) (.int .u8 ((b / 16777216 % 256 : Nat) : Int)))
          obtain ⟨y, hy⟩ : ∃ y : Nat, Hid ((b / 16777216 % 256) = y) := ⟨_, hide rfl⟩
          rw [hy.out] at sb hset hbel
          go_wp2_with fail
          go_roundw
          case rel =>
            have e : (u8s (rowTo b 3)).set 3 (.int .u8 ((y : Nat) : Int)) = u8s (rowTo b (3 + 1)) := by rw [← hy.out]; rfl
            rw [e] at hset
            exact ⟨3 + 1, by omega, by go_num, hset, hbel⟩
          case measure => simp [intOf]
        · have sb := byte_4 b
          have hc : wr.cell? ⟨w.heap.size, 4, none⟩ = some (.int .u8 0) := hI.out.cell 4
          have hf := hI.out.frozen 4
          clear hlt
          have hset := hide (hI.out.set_ 4 (.int .u8 ((b / 4294967296 % 256 : Nat) : Int)))
          have hbel := hide (hB.out.setCell (p := ⟨w.heap.size, 4, none⟩) (Nat.le_refl _) (.int .u8 ((b / 4294967296 % 256 : Nat) : Int)))
          obtain ⟨y, hy⟩ : ∃ y : Nat, Hid ((b / 4294967296 % 256) = y) := ⟨_, hide rfl⟩
          rw [hy.out] at sb hset hbel
          go_wp2_with fail
          go_roundw
          case rel =>
            have e : (u8s (rowTo b 4)).set 4 (.int .u8 ((y : Nat) : Int)) = u8s (rowTo b (4 + 1)) := by rw [← hy.out]; rfl
            rw [e] at hset
            exact ⟨4 + 1, by omega, by go_num, hset, hbel⟩
          case measure => simp [intOf]
        · have sb := byte_5 b
          have hc : wr.cell? ⟨w.heap.size, 5, none⟩ = some (.int .u8 0) := hI.out.cell 5
          have hf := hI.out.frozen 5
          clear hlt
          have hset := hide (hI.out.set_ 5 (.int .u8 ((b / 1099511627776 % 256 : Nat) : Int)))
          have hbel := hide (hB.out.setCell (p := ⟨w.heap.size, 5, none⟩) (Nat.le_refl _) (.int .u8 ((b / 1099511627776 % 256 : Nat) : Int)))
          obtain ⟨y, hy⟩ : ∃ y : Nat, Hid ((b / 1099511627776 % 256) = y) := ⟨_, hide rfl⟩
          rw [hy.out] at sb hset hbel
          go_wp2_with fail
          go_roundw
          case rel =>
            have e : (u8s (rowTo b 5)).set 5 (.int .u8 ((y : Nat) : Int)) = u8s (rowTo b (5 + 1)) := by rw [← hy.out]; rfl
            rw [e] at hset
            exact ⟨5 + 1, by omega, by go_num, hset, hbel⟩
          case measure => simp [intOf]
        · have sb := byte_6 b
          have hc : wr.cell? ⟨w.heap.size, 6, none⟩ = some (.int .u8 0) := hI.out.cell 6
          have hf := hI.out.frozen 6
          clear hlt
          have hset := hide (hI.out.set_ 6 (.int .u8 ((b / 281474976710656 % 256 : Nat) : Int)))
          have hbel := hide (hB.out.setCell (p := ⟨w.heap.size, 6, none⟩) (Nat.le_refl _) (.int .u8 ((b / 281474976710656 % 256 : Nat) : Int)))
          obtain ⟨y, hy⟩ : ∃ y : Nat, Hid ((b / 281474976710656 % 256) = y) := ⟨_, hide rfl⟩
          rw [hy.out] at sb hset hbel
          go_wp2_with fail
          go_roundw
          case rel =>
            have e : (u8s (rowTo b 6)).set 6 (.int .u8 ((y : Nat) : Int)) = u8s (rowTo b (6 + 1)) := by rw [← hy.out]; rfl
            rw [e] at hset
            exact ⟨6 + 1, by omega, by go_num, hset, hbel⟩
          case measure => simp [intOf]
        · have sb := byte_7 b
          have hc : wr.cell? ⟨w.heap.size, 7, none⟩ = some (.int .u8 0) := hI.out.cell 7
          have hf := hI.out.frozen 7
          clear hlt
          have hset := hide (hI.out.set_ 7 (.int .u8 ((b / 72057594037927936 % 256 : Nat) : Int)))
          have hbel := hide (hB.out.setCell (p := ⟨w.heap.size, 7, none⟩) (Nat.le_refl _) (.int .u8 ((b / 72057594037927936 % 256 : Nat) : Int)))
          obtain ⟨y, hy⟩ : ∃ y : Nat, Hid ((b / 72057594037927936 % 256) = y) := ⟨_, hide rfl⟩
          rw [hy.out] at sb hset hbel
          go_wp2_with fail
          go_roundw
          case rel =>
            have e : (u8s (rowTo b 7)).set 7 (.int .u8 ((y : Nat) : Int)) = u8s (rowTo b (7 + 1)) := by rw [← hy.out]; rfl
            rw [e] at hset
            exact ⟨7 + 1, by omega, by go_num, hset, hbel⟩
          case measure => simp [intOf]
      · obtain rfl : i = 8 := by omega
        go_wp2_with fail
        go_ret
        exact ⟨rfl, hI.out, hB.out⟩
theorem floatbytes_c (x : Nat) (hx : x < 18446744073709551616) (w : World) :
    Calls Tryd.prog 73 #[.float .f64 x] w fun e w' => (∃ g, e = .returned (.slice (some ⟨g, 0, none⟩) 8 8) ∧ Has w' g 5 (u8s (Flt.by8 (Flt.told x)))) ∧ Below w.heap.size w w' :=
  (floatbytes_at x hx w).mono fun _ _ h => ⟨⟨_, h.1, h.2.1⟩, h.2.2⟩
theorem below_row8 {W wr w' : World} {o : Obj} {e : TypeId} {size n : Nat} {v : Value} {xs : List Value} (hB : Below W.heap.size W wr) (ho : wr.ownsRow W.heap.size e size v n xs) (hg : (wr.alloc o).grownBy w' v.ownBlock) : Below W.heap.size W w' :=
  (hB.alloc hB.size o).grown hg (by simp; have := hB.size; omega) fun k hk => (ho.lt k hk).1
theorem new_cells8 (w : World) (t : TypeId) (xs : List Value) : ∀ (j : Nat) (u : Value), xs[j]? = some u → (w.alloc (.cells xs.toArray t)).cell? ((⟨w.heap.size, 0, none⟩ : Addr).add j) = some u := by
  intro j u hj
  rw [Addr.add_lit, cell_of_row _ w.heap.size (0 + j) _ t (0, 0) (heap_alloc_new w _), Nat.zero_add]
  simpa using hj
set_option maxRecDepth 100000 in
set_option maxHeartbeats 4000000 in
theorem reffloatbytes_c (x : Nat) (hx : x < 18446744073709551616) (w : World) :
    Calls Tryd.prog 41 #[.float .f64 x] w fun e w' => (∃ A cap, e = .returned (.slice A 8 cap) ∧ Rb w' A (Flt.by8 (Flt.told x))) ∧ Below w.heap.size w w' := by
  have hfb := run_f64bits
  have HN := hide (refnan_c x hx w)
  obtain ⟨i0, hi0, hz0, hz1, hz2⟩ := u8info
  have HI0 := hide hi0
  have HZ0 := hide hz0
  have HZ1 := hide hz1
  have HZ2 := hide hz2
  have HU := hide ubs
  clear hi0 hz0 hz1 hz2
  obtain ⟨b, hb, hlb⟩ : ∃ b, Hid (Flt.told x = b) ∧ b < 18446744073709551616 := ⟨_, hide rfl, Flt.told_lt x hx⟩
  rw [hb.out]
  cases hn : Flt.nanb x
  all_goals
    first
    | (have hxb : Hid (((x : Nat) : Int) = (b : Int)) := by
         have := hb.out
         unfold Flt.told at this
         rw [hn, if_neg (by decide)] at this
         exact hide (by rw [this]))
    | (have hxb : Hid ((9221120237041090561 : Int) = (b : Int)) := by
         have := hb.out
         unfold Flt.told at this
         rw [hn, if_pos rfl] at this
         exact hide (by rw [← this]; rfl))
    rw [hn] at HN
    clear hn hb hx
    go_enter Tryd.func41, Tryd.ntmps41
    go_wp2_with fail
    refine HN.out.mono ?_
    rintro e w1 ⟨rfl, rfl⟩
    go_wp2_with fail
    rw [hxb.out]
    go_loopw [4, 5] (fun v k wr => ∃ (i : Nat) (u : Value), u = v ∧ i ≤ 8 ∧ k = .int .i64 i ∧ Hid (wr.ownsRow w1.heap.size 5 1 v i (u8s ((Flt.by8 b).take i))) ∧ Hid (Below w1.heap.size w1 wr)) (fun _ k _ => 8 - (intOf k).toNat)
    case atStart => exact ⟨0, _, rfl, by omega, rfl, hide ⟨rfl, .inl ⟨rfl, rfl⟩⟩, hide (Below.refl _ _)⟩
    case round =>
      obtain ⟨i, v, rfl, hi, rfl, hI, hB⟩ := hrel
      clear hxb HN
      by_cases hlt : i < 8
      · clear hi
        rcases fin8 i hlt with rfl | rfl | rfl | rfl | rfl | rfl | rfl | rfl
        · have sb := byte_0 b
          clear hlt
          obtain ⟨y, hy⟩ : ∃ y : Nat, Hid ((b % 256) = y) := ⟨_, hide rfl⟩
          rw [hy.out] at sb
          have hown2 := hide (hI.out.alloc (.cells #[.int .u8 y] 5))
          have hsz : Hid (w1.heap.size ≤ (wr.alloc (.cells #[.int .u8 y] 5)).heap.size) := hide (by have := hB.out.size; simp; omega)
          have hb1 : Hid (0 + 1 ≤ maxLen) := hide (by unfold maxLen; omega)
          have hb2 : Hid ((0 + 1) * 1 ≤ 140737488355328) := hide (by omega)
          have hnw := hide (new_cells8 wr 5 [.int .u8 y])
          have h1w : Hid (∀ u ∈ [Value.int .u8 y], u.oneCell' = true) := hide (by
            intro u hu
            simp at hu
            subst hu
            rfl)
          go_wp2_with (at_builtin; refine wpList_append_own _ rfl _ _ 53 rfl w1.heap.size 5 i0 (.int .u8 0) 1 1 HU.out HI0.out HZ0.out HZ1.out HZ2.out rfl (by decide) v 0 _ rfl hown2.out ⟨wr.heap.size, 0, none⟩ 1 1 [.int .u8 y] rfl rfl hnw.out h1w.out hb1.out hb2.out hsz.out ?_)
          intro v' w' hown' hgrow _
          have HB' := hide (below_row8 hB.out hI.out hgrow)
          have HO' := hide hown'
          clear hown' hgrow
          go_wp2_with fail
          go_roundw
          case rel =>
            refine ⟨0 + 1, _, rfl, by omega, by go_num, ?_, HB'⟩
            rw [← hy.out] at HO'
            exact HO'
          case measure => simp [intOf]
        · have sb := byte_1 b
          clear hlt
          obtain ⟨y, hy⟩ : ∃ y : Nat, Hid ((b / 256 % 256) = y) := ⟨_, hide rfl⟩
          rw [hy.out] at sb
          have hown2 := hide (hI.out.alloc (.cells #[.int .u8 y] 5))
          have hsz : Hid (w1.heap.size ≤ (wr.alloc (.cells #[.int .u8 y] 5)).heap.size) := hide (by have := hB.out.size; simp; omega)
          have hb1 : Hid (1 + 1 ≤ maxLen) := hide (by unfold maxLen; omega)
          have hb2 : Hid ((1 + 1) * 1 ≤ 140737488355328) := hide (by omega)
          have hnw := hide (new_cells8 wr 5 [.int .u8 y])
          have h1w : Hid (∀ u ∈ [Value.int .u8 y], u.oneCell' = true) := hide (by
            intro u hu
            simp at hu
            subst hu
            rfl)
          go_wp2_with (at_builtin; refine wpList_append_own _ rfl _ _ 53 rfl w1.heap.size 5 i0 (.int .u8 0) 1 1 HU.out HI0.out HZ0.out HZ1.out HZ2.out rfl (by decide) v 1 _ rfl hown2.out ⟨wr.heap.size, 0, none⟩ 1 1 [.int .u8 y] rfl rfl hnw.out h1w.out hb1.out hb2.out hsz.out ?_)
          intro v' w' hown' hgrow _
          have HB' := hide (below_row8 hB.out hI.out hgrow)
          have HO' := hide hown'
          clear hown' hgrow
          go_wp2_with fail
          go_roundw
          case rel =>
            refine ⟨1 + 1, _, rfl, by omega, by go_num, ?_, HB'⟩
            rw [← hy.out] at HO'
            exact HO'
          case measure => simp [intOf]
        · have sb := byte_2 b
          clear hlt
          obtain ⟨y, hy⟩ : ∃ y : Nat, Hid ((b / 65536 % 256) = y) := ⟨_, hide rfl⟩
          rw [hy.out] at sb
          have hown2 := hide (hI.out.alloc (.cells #[.int .u8 y] 5))
          have hsz : Hid (w1.heap.size ≤ (wr.alloc (.cells #[.int .u8 y] 5)).heap.size) := hide (by have := hB.out.size; simp; omega)
          have hb1 : Hid (2 + 1 ≤ maxLen) := hide (by unfold maxLen; omega)
          have hb2 : Hid ((2 + 1) * 1 ≤ 140737488355328) := hide (by omega)
          have hnw := hide (new_cells8 wr 5 [.int .u8 y])
          have h1w : Hid (∀ u ∈ [Value.int .u8 y], u.oneCell' = true) := hide (by
            intro u hu
            simp at hu
            subst hu
            rfl)
          go_wp2_with (at_builtin; refine wpList_append_own _ rfl _ _ 53 rfl w1.heap.size 5 i0 (.int .u8 0) 1 1 HU.out HI0.out HZ0.out HZ1.out HZ2.out rfl (by decide) v 2 _ rfl hown2.out ⟨wr.heap.size, 0, none⟩ 1 1 [.int .u8 y] rfl rfl hnw.out h1w.out hb1.out hb2.out hsz.out ?_)
          intro v' w' hown' hgrow _
          have HB' := hide (below_row8 hB.out hI.out hgrow)
          have HO' := hide hown'
          clear hown' hgrow
          go_wp2_with fail
          go_roundw
          case rel =>
            refine ⟨2 + 1, _, rfl, by omega, by go_num, ?_, HB'⟩
            rw [← hy.out] at HO'
            exact HO'
          case measure => simp [intOf]
        · have sb := byte_3 b
          clear hlt
          obtain ⟨y, hy⟩ : ∃ y : Nat, Hid ((b / 16777216 % 256) = y) := ⟨_, hide rfl⟩
          rw [hy.out] at sb
          have hown2 := hide (hI.out.alloc (.cells #[.int .u8 y] 5))
          have hsz : Hid (w1.heap.size ≤ (wr.alloc (.cells #[.int .u8 y] 5)).heap.size) := hide (by have := hB.out.size; simp; omega)
          have hb1 : Hid (3 + 1 ≤ maxLen) := hide (by unfold maxLen; omega)
          have hb2 : Hid ((3 + 1) * 1 ≤ 140737488355328) := hide (by omega)
          have hnw := hide (new_cells8 wr 5 [.int .u8 y])
          have h1w : Hid (∀ u ∈ [Value.int .u8 y], u.oneCell' = true) := hide (by
            intro u hu
            simp at hu
            subst hu
            rfl)
          go_wp2_with (at_builtin; refine wpList_append_own _ rfl _ _ 53 rfl w1.heap.size 5 i0 (.int .u8 0) 1 1 HU.out HI0.out HZ0.out HZ1.out HZ2.out rfl (by decide) v 3 _ rfl hown2.out ⟨wr.heap.size, 0, none⟩ 1 1 [.int .u8 y] rfl rfl hnw.out h1w.out hb1.out hb2.out hsz.out ?_)
          intro v' w' hown' hgrow _
          have HB' := hide (below_row8 hB.out hI.out hgrow)
          have HO' := hide hown'
          clear hown' hgrow
          go_wp2_with fail
          go_roundw
          case rel =>
            refine ⟨3 + 1, _, rfl, by omega, by go_num, ?_, HB'⟩
            rw [← hy.out] at HO'
            exact HO'
          case measure => simp [intOf]
        · have sb := byte_4 b
          clear hlt
          obtain ⟨y, hy⟩ : ∃ y : Nat, Hid ((b / 4294967296 % 256) = y) := ⟨_, hide rfl⟩
          rw [hy.out] at sb
          have hown2 := hide (hI.out.alloc (.cells #[.int .u8 y] 5))
          have hsz : Hid (w1.heap.size ≤ (wr.alloc (.cells #[.int .u8 y] 5)).heap.size) := hide (by have := hB.out.size; simp; omega)
          have hb1 : Hid (4 + 1 ≤ maxLen) := hide (by unfold maxLen; omega)
          have hb2 : Hid ((4 + 1) * 1 ≤ 140737488355328) := hide (by omega)
          have hnw := hide (new_cells8 wr 5 [.int .u8 y])
          have h1w : Hid (∀ u ∈ [Value.int .u8 y], u.oneCell' = true) := hide (by
            intro u hu
            simp at hu
            subst hu
            rfl)
          go_wp2_with (at_builtin; refine wpList_append_own _ rfl _ _ 53 rfl w1.heap.size 5 i0 (.int .u8 0) 1 1 HU.out HI0.out HZ0.out HZ1.out HZ2.out rfl (by decide) v 4 _ rfl hown2.out ⟨wr.heap.size, 0, none⟩ 1 1 [.int .u8 y] rfl rfl hnw.out h1w.out hb1.out hb2.out hsz.out ?_)
          intro v' w' hown' hgrow _
          have HB' := hide (below_row8 hB.out hI.out hgrow)
          have HO' := hide hown'
          clear hown' hgrow
          go_wp2_with fail
          go_roundw
          case rel =>
            refine ⟨4 + 1, _, rfl, by omega, by go_num, ?_, HB'⟩
            rw [← hy.out] at HO'
            exact HO'
          case measure => simp [intOf]
        · have sb := byte_5 b
          clear hlt
          obtain ⟨y, hy⟩ : ∃ y : Nat, Hid ((b / 1099511627776 % 256) = y) := ⟨_, hide rfl⟩
          rw [hy.out] at sb
          have hown2 := hide (hI.out.alloc (.cells #[.int .u8 y] 5))
          have hsz : Hid (w1.heap.size ≤ (wr.alloc (.cells #[.int .u8 y] 5)).heap.size) := hide (by have := hB.out.size; simp; omega)
          have hb1 : Hid (5 + 1 ≤ maxLen) := hide (by unfold maxLen; omega)
          have hb2 : Hid ((5 + 1) * 1 ≤ 140737488355328) := hide (by omega)
          have hnw := hide (new_cells8 wr 5 [.int .u8 y])
          have h1w : Hid (∀ u ∈ [Value.int .u8 y], u.oneCell' = true) := hide (by
            intro u hu
            simp at hu
            subst hu
            rfl)
          go_wp2_with (at_builtin; refine wpList_append_own _ rfl _ _ 53 rfl w1.heap.size 5 i0 (.int .u8 0) 1 1 HU.out HI0.out HZ0.out HZ1.out HZ2.out rfl (by decide) v 5 _ rfl hown2.out ⟨wr.heap.size, 0, none⟩ 1 1 [.int .u8 y] rfl rfl hnw.out h1w.out hb1.out hb2.out hsz.out ?_)
          intro v' w' hown' hgrow _
          have HB' := hide (below_row8 hB.out hI.out hgrow)
          have HO' := hide hown'
          clear hown' hgrow
          go_wp2_with fail
          go_roundw
          case rel =>
            refine ⟨5 + 1, _, rfl, by omega, by go_num, ?_, HB'⟩
            rw [← hy.out] at HO'
            exact HO'
          case measure => simp [intOf]
        · have sb := byte_6 b
          clear hlt
          obtain ⟨y, hy⟩ : ∃ y : Nat, Hid ((b / 281474976710656 % 256) = y) := ⟨_, hide rfl⟩
          rw [hy.out] at sb
          have hown2 := hide (hI.out.alloc (.cells #[.int .u8 y] 5))
          have hsz : Hid (w1.heap.size ≤ (wr.alloc (.cells #[.int .u8 y] 5)).heap.size) := hide (by have := hB.out.size; simp; omega)
          have hb1 : Hid (6 + 1 ≤ maxLen) := hide (by unfold maxLen; omega)
          have hb2 : Hid ((6 + 1) * 1 ≤ 140737488355328) := hide (by omega)
          have hnw := hide (new_cells8 wr 5 [.int .u8 y])
          have h1w : Hid (∀ u ∈ [Value.int .u8 y], u.oneCell' = true) := hide (by
            intro u hu
            simp at hu
            subst hu
            rfl)
          go_wp2_with (at_builtin; refine wpList_append_own _ rfl _ _ 53 rfl w1.heap.size 5 i0 (.int .u8 0) 1 1 HU.out HI0.out HZ0.out HZ1.out HZ2.out rfl (by decide) v 6 _ rfl hown2.out ⟨wr.heap.size, 0, none⟩ 1 1 [.int .u8 y] rfl rfl hnw.out h1w.out hb1.out hb2.out hsz.out ?_)
          intro v' w' hown' hgrow _
          have HB' := hide (below_row8 hB.out hI.out hgrow)
          have HO' := hide hown'
          clear hown' hgrow
          go_wp2_with fail
          go_roundw
          case rel =>
            refine ⟨6 + 1, _, rfl, by omega, by go_num, ?_, HB'⟩
            rw [← hy.out] at HO'
            exact HO'
          case measure => simp [intOf]
        · have sb := byte_7 b
          clear hlt
          obtain ⟨y, hy⟩ : ∃ y : Nat, Hid ((b / 72057594037927936 % 256) = y) := ⟨_, hide rfl⟩
          rw [hy.out] at sb
          have hown2 := hide (hI.out.alloc (.cells #[.int .u8 y] 5))
          have hsz : Hid (w1.heap.size ≤ (wr.alloc (.cells #[.int .u8 y] 5)).heap.size) := hide (by have := hB.out.size; simp; omega)
          have hb1 : Hid (7 + 1 ≤ maxLen) := hide (by unfold maxLen; omega)
          have hb2 : Hid ((7 + 1) * 1 ≤ 140737488355328) := hide (by omega)
          have hnw := hide (new_cells8 wr 5 [.int .u8 y])
          have h1w : Hid (∀ u ∈ [Value.int .u8 y], u.oneCell' = true) := hide (by
            intro u hu
            simp at hu
            subst hu
            rfl)
          go_wp2_with (at_builtin; refine wpList_append_own _ rfl _ _ 53 rfl w1.heap.size 5 i0 (.int .u8 0) 1 1 HU.out HI0.out HZ0.out HZ1.out HZ2.out rfl (by decide) v 7 _ rfl hown2.out ⟨wr.heap.size, 0, none⟩ 1 1 [.int .u8 y] rfl rfl hnw.out h1w.out hb1.out hb2.out hsz.out ?_)
          intro v' w' hown' hgrow _
          have HB' := hide (below_row8 hB.out hI.out hgrow)
          have HO' := hide hown'
          clear hown' hgrow
          go_wp2_with fail
          go_roundw
          case rel =>
            refine ⟨7 + 1, _, rfl, by omega, by go_num, ?_, HB'⟩
            rw [← hy.out] at HO'
            exact HO'
          case measure => simp [intOf]
      · obtain rfl : i = 8 := by omega
        obtain ⟨A, cap, rfl, -, -, -, hrb⟩ := own_rb hI.out (fun c hc => Flt.by8_lt b c (List.mem_of_mem_take hc))
        go_wp2_with fail
        go_ret
        exact ⟨⟨_, _, rfl, hrb⟩, hB.out⟩
end Go.Proofs.YtboighnmgnjhdaaDoor
