import Derived.Test.YtijgomgiinlcoaaDoorShaOf
import Derived.Laws.AppendOwn
import Derived.Laws.BytesArg
import Derived.Deep.RegionLaw
namespace Go.Proofs.YtijgomgiinlcoaaDoor
open Go.RowKit

namespace Sha
/-- The sixteen digits. -/
def digs : List Nat := [48, 49, 50, 51, 52, 53, 54, 55, 56, 57, 97, 98, 99, 100, 101, 102]
def dg (n : Nat) : Nat := digs.getD n 0
/-- The text of bytes, as bytes. -/
def hex : List Nat → List Nat
  | [] => []
  | x :: l => dg (x / 16) :: dg (x % 16) :: hex l
theorem hex_length (l : List Nat) : (hex l).length = 2 * l.length := by
  induction l with
  | nil => rfl
  | cons a l ih => simp [hex, ih]; omega
theorem hex_append (a b : List Nat) : hex (a ++ b) = hex a ++ hex b := by
  induction a with
  | nil => rfl
  | cons x l ih => simp [hex, ih]
end Sha

/-- append where there is room, onto a row that is known whole: one step of a region that draws its order. -/
theorem step_append_row {P : Program} {ops : Array Oper} {o : Oper} {a : Act} {w : World} {K : Act → World → Prop} {Q : Exit → Act → World → Prop} {E : Prop} (hgd : o.guard = none) (s x : Operand) (t : TypeId)
    (ho : o.op = .call { callee := .builtin .append, args := #[s, x], argTypes := #[t, t] })
    (e : TypeId) (i : TypeInfo) (ht : P.underlying t = some (.slice e)) (hi : P.info? e = some i) (hsize : i.size = 1)
    (g n cap : Nat) (cur : Array Value) (hg : w.heap[g]? = some (.cells cur e (0, 0))) (hs : a.eval s = .slice (some ⟨g, 0, none⟩) n cap)
    (ad : Addr) (m c : Nat) (news : List Value) (hx : a.eval x = .slice (some ad) m c) (hl : news.length = m) (hnews : ∀ j u, news[j]? = some u → w.cell? (ad.add j) = some u) (h1 : ∀ u ∈ news, u.oneCell' = true)
    (hroom : n + m ≤ cap) (hfit : n + m ≤ cur.size)
    (h : K (a.put o.dst (.slice (some ⟨g, 0, none⟩) (n + m) cap)) (w.setRow g (cur.toList.take n ++ news ++ cur.toList.drop (n + m)).toArray)) :
    if Region.wanted o (yielded ops a.tmps) = true then Oper.wp P o a w K Q else E := by
  have hw : Region.wanted o (yielded ops a.tmps) = true := by simp [Region.wanted, hgd]
  rw [if_pos hw]
  have hr := run_append_room (P := P) w t o.type e i ht hi g n cap cur hg ad m c news (by rw [hl, hsize]; omega) hnews h1 hroom (by rw [hsize, hl]; omega)
  rw [hsize, hl, Nat.mul_one] at hr
  generalize (cur.toList.take n ++ news ++ cur.toList.drop (n + m)).toArray = R at hr h
  unfold Oper.wp
  simp [execOp, ho, resolve, invoke, builtin, hs, hx, hr, Result.andThen]
  exact h

theorem und32b : Tryd.prog.underlying 24 = some (.array 32 5) := by kernel_rfl
theorem idx32 (CS : Array Value) (s : List Nat) (hCS : Hid ((u8s s).toArray = CS)) (hst : Sha.Bytes s) (hl : s.length = 32) (k : Nat) (hk : k < 32) : ∃ x : Nat, Hid (s[k]? = some x) ∧ x < 256 ∧
    ∀ W : World, (Instr.index 24 (.agg CS) (.int .i64 (k : Int))).run Tryd.prog W = .ok (.int .u8 (x : Int)) W := by
  have hk' : k < s.length := by omega
  refine ⟨s[k], List.getElem?_eq_getElem hk', hst _ (List.getElem_mem hk'), fun W => ?_⟩
  have hc : (u8s s).toArray[k]? = some (.int .u8 ((s[k] : Nat) : Int)) := by
    rw [List.getElem?_toArray, List.getElem?_map, List.getElem?_eq_getElem hk']; rfl
  rw [hCS.out] at hc
  clear hCS
  simp [Instr.index, run_underlying und32b, asIntOf, go_sem, hc]
  intro h; omega
theorem dig_at (n : Nat) (h : n < 16) : ∃ d : Nat, Hid (Sha.dg n = d) ∧ d < 256 ∧ ∀ W : World, (Instr.index 9 (.string { data := #[48, 49, 50, 51, 52, 53, 54, 55, 56, 57, 97, 98, 99, 100, 101, 102] }) (.int .u8 (n : Int))).run Tryd.prog W = .ok (.int .u8 (d : Int)) W := by
  refine ⟨_, rfl, ?_, fun W => ?_⟩
  · have h16 : ∀ n, n < 16 → Sha.dg n < 256 := by decide
    exact h16 n h
  · obtain rfl | rfl | rfl | rfl | rfl | rfl | rfl | rfl | rfl | rfl | rfl | rfl | rfl | rfl | rfl | rfl : n = 0 ∨ n = 1 ∨ n = 2 ∨ n = 3 ∨ n = 4 ∨ n = 5 ∨ n = 6 ∨ n = 7 ∨ n = 8 ∨ n = 9 ∨ n = 10 ∨ n = 11 ∨ n = 12 ∨ n = 13 ∨ n = 14 ∨ n = 15 := by omega
    all_goals kernel_rfl

theorem low4 (x : Nat) (h : x < 256) : bits .and .u8 (x : Int) 15 = (x : Int) % 16 := by
  have h1 : ∀ x : Fin 256, bits .and .u8 (x.val : Int) 15 = ((x.val : Nat) : Int) % 16 := by decide +kernel
  exact h1 ⟨x, h⟩
theorem info_u8 : ∃ i : TypeInfo, Tryd.prog.info? 5 = some i ∧ i.size = 1 := by
  obtain ⟨i, hi⟩ : ∃ i, Tryd.prog.info? 5 = some i := by
    refine Option.isSome_iff_exists.1 ?_
    kernel_rfl
  have h : (Tryd.prog.info? 5).map (·.size) = some 1 := by kernel_rfl
  rw [hi] at h
  exact ⟨i, hi, by simpa using h⟩
/-- How far a text has come. -/
def TInv (w : World) (s : List Nat) (i : Nat) (wr : World) : Prop := Has wr (w.heap.size + 1) 5 (u8s (Sha.hex (s.take i) ++ List.replicate (64 - 2 * i) 0)) ∧ Below w.heap.size w wr ∧ w.heap.size + 2 ≤ wr.heap.size

theorem TInv.next {w wr : World} {s : List Nat} {i x d1 d2 : Nat} {CUR : Array Value} (hI : TInv w s i wr) (hx : Hid (s[i]? = some x)) (e1 : Hid (Sha.dg (x / 16) = d1)) (e2 : Hid (Sha.dg (x % 16) = d2))
    (hC : Hid ((u8s (Sha.hex (s.take i) ++ List.replicate (64 - 2 * i) 0)).toArray = CUR)) (hcur : Hid ((wr.alloc (.cells #[.int .u8 d1, .int .u8 d2] 5)).drew.heap[w.heap.size + 1]? = some (.cells CUR 5 (0, 0)))) (hi : i < 32) (hs : s.length = 32) :
    TInv w s (i + 1) ((wr.alloc (.cells #[.int .u8 d1, .int .u8 d2] 5)).drew.setRow (w.heap.size + 1) (CUR.toList.take (2 * i) ++ Value.int .u8 d1 :: Value.int .u8 d2 :: CUR.toList.drop (2 * i + 2)).toArray) := by
  obtain ⟨h1, h2, h3⟩ := hI
  refine ⟨?_, below_setRow (h2.alloc h2.size _).drew (by omega) _, by simpa using (by omega : w.heap.size + 2 ≤ wr.heap.size + 1)⟩
  have h := setRow_heap _ _ _ (CUR.toList.take (2 * i) ++ Value.int .u8 d1 :: Value.int .u8 d2 :: CUR.toList.drop (2 * i + 2)).toArray _ _ hcur.out
  unfold Has
  rw [h]
  congr 3
  rw [← hC.out]
  have hl : (Sha.hex (s.take i)).length = 2 * i := by rw [Sha.hex_length, List.length_take]; omega
  rw [List.take_add_one, hx.out, Sha.hex_append]
  simp only [u8s, List.map_append, Option.toList_some, Sha.hex, e1.out, e2.out, List.map_cons, List.map_nil]
  rw [List.take_append_of_le_length (by simp [hl]), List.take_of_length_le (by simp [hl]), List.drop_append, List.drop_eq_nil_of_le (by simp [hl])]
  simp [hl]
  omega

set_option maxRecDepth 100000 in
set_option maxHeartbeats 4000000 in
theorem text_c (s : List Nat) (hs : s.length = 32) (hb : Sha.Bytes s) (w : World) :
    Calls Tryd.prog 18 #[.agg (u8s s).toArray] w fun e w' => e = .returned (.string (strOfNums ((Sha.hex s).map Int.ofNat))) ∧ Below w.heap.size w w' := by
  obtain ⟨C, hC⟩ : ∃ C, Hid ((u8s s).toArray = C) := ⟨_, rfl⟩
  rw [hC.out]
  have hCs : Hid ((Tryd.prog.info? 24).map (·.size) = some C.size) := by
    rw [← hC.out]
    show _ = some ((u8s s).toArray).size
    rw [List.size_toArray, List.length_map, hs]
    kernel_rfl
  have HB := hide hb
  have HS := hide hs
  clear hs hb
  obtain ⟨T, hT⟩ : ∃ T, Hid (strOfNums ((Sha.hex s).map Int.ofNat) = T) := ⟨_, hide rfl⟩
  rw [hT.out]
  obtain ⟨Z, hZ⟩ : ∃ Z, Hid ((u8s (List.replicate 64 0)).toArray = Z) := ⟨_, rfl⟩
  have hmk : ∀ w : World, (Instr.makeSlice 22 (.int .i64 0) (.int .i64 64)).run Tryd.prog w = .ok (.slice (some ⟨w.heap.size, 0, none⟩) 0 64) (w.alloc (.cells Z 5)) := by
    intro w
    rw [← hZ.out]
    kernel_rfl
  have hc1 : Hid (((w.alloc (.cells C 24)).alloc (.cells Z 5)).heap[w.heap.size]? = some (.cells C 24 (0, 0))) := Has.alloc (cs := C.toList) (by exact heap_alloc_new w _) _
  go_enter Tryd.func18, Tryd.ntmps18
  go_wp2_with (first
    | (refine wpList_load_row rfl 24 (.tmp 1) rfl w.heap.size rfl 24 C (0, 0) _ hc1.out Tryd.underlying24 rfl hCs.out ?_))
  have hI0 : TInv w s 0 ((w.alloc (.cells C 24)).alloc (.cells Z 5)) := by
    refine ⟨?_, ((Below.refl _ _).alloc (Nat.le_refl _) _).alloc (by simp) _, by simp⟩
    rw [← hZ.out]
    have h := Has.new (w.alloc (.cells C 24)) 5 (u8s (List.replicate 64 0))
    rw [World.size_alloc] at h
    exact h
  clear hc1 hmk hZ
  go_loopw [3, 8] (fun v k wr => ∃ i : Nat, i ≤ 32 ∧ k = .int .i64 i ∧ v = .slice (some ⟨w.heap.size + 1, 0, none⟩) (2 * i) 64 ∧ TInv w s i wr) (fun _ k _ => 32 - (intOf k).toNat)
  case atStart => exact ⟨0, by omega, rfl, by simp, hI0⟩
  case round =>
    obtain ⟨i, hi, rfl, rfl, hI⟩ := hrel
    by_cases hlt : i < 32
    · obtain ⟨x, hx, hx2, hxi⟩ := idx32 C s hC HB.out HS.out i hlt
      obtain ⟨d1, e1, l1, k1⟩ := dig_at (x / 16) (by omega)
      obtain ⟨d2, e2, l2, k2⟩ := dig_at (x % 16) (by omega)
      have hi32 : (i : Int) < 32 := by omega
      rw [show ((x / 16 : Nat) : Int) = (x : Int) / 16 by omega] at k1
      rw [show ((x % 16 : Nat) : Int) = (x : Int) % 16 by omega] at k2
      have h4 := low4 x hx2
      go_wp2_with fail
      obtain ⟨i5, hi5, hz5⟩ := info_u8
      obtain ⟨CUR, hCUR⟩ : ∃ CUR, Hid ((u8s (Sha.hex (s.take i) ++ List.replicate (64 - 2 * i) 0)).toArray = CUR) := ⟨_, hide rfl⟩
      have hcur : Hid (wr.heap[w.heap.size + 1]? = some (.cells CUR 5 (0, 0))) := by rw [← hCUR.out]; exact hI.1
      have hcur2 : Hid (((wr.drew).alloc (.cells #[.int .u8 d1, .int .u8 d2] 5)).heap[w.heap.size + 1]? = some (.cells CUR 5 (0, 0))) := by
        have h := hI.1.alloc (.cells #[.int .u8 d1, .int .u8 d2] 5)
        rw [← hCUR.out]
        exact h
      have und22 : Hid (Tryd.prog.underlying 22 = some (.slice 5)) := hide (by kernel_rfl)
      have h62 : Hid (2 * i + 2 ≤ 64) := hide (by omega)
      have hfit : Hid (2 * i + 2 ≤ CUR.size) := by
        rw [← hCUR.out]
        simp [Hid, Sha.hex_length, HS.out]
        omega
      have hnw : Hid (∀ j u, [Value.int .u8 d1, Value.int .u8 d2][j]? = some u → ((wr.drew).alloc (.cells #[.int .u8 d1, .int .u8 d2] 5)).cell? ((⟨wr.heap.size, 0, none⟩ : Addr).add j) = some u) := by
        intro j u hj
        have h := Has.new wr.drew 5 [Value.int .u8 d1, Value.int .u8 d2]
        have h2 := h.cell j
        rw [hj] at h2
        have e : (⟨wr.heap.size, 0, none⟩ : Addr).add j = ⟨wr.heap.size, j, none⟩ := by unfold Addr.add; split <;> simp_all
        rw [e]
        exact h2
      have h1w : Hid (∀ u ∈ [Value.int .u8 d1, Value.int .u8 d2], u.oneCell' = true) := by
        intro u hu
        simp at hu
        rcases hu with rfl | rfl <;> rfl
      go_region_law (refine step_append_row rfl (.tmp 11) (.tmp 18) 22 rfl 5 i5 und22.out hi5 hz5 (w.heap.size + 1) (2 * i) 64 CUR hcur2.out (by simp [Act.eval]) ⟨wr.heap.size, 0, none⟩ 2 2 [.int .u8 d1, .int .u8 d2] (by simp [Act.eval]) rfl hnw.out h1w.out h62.out hfit.out ?_)
      all_goals go_wp2_with fail
      all_goals go_roundw
      all_goals first
        | exact ⟨i + 1, by omega, by go_num, by rw [show 2 * (i + 1) = 2 * i + 2 by omega], hI.next hx e1 e2 hCUR hcur2 hlt HS.out⟩
        | (simp [intOf]; omega)
    · obtain rfl : i = 32 := by omega
      obtain ⟨h1, h2, h3⟩ := hI
      rw [List.take_of_length_le (by rw [HS.out]; omega)] at h1
      have hcv := run_convert_bytes_arg (P := Tryd.prog) wr 22 5 (by kernel_rfl) (by kernel_rfl) (w.heap.size + 1) 0 64 64 ((Sha.hex s).map Int.ofNat) (by simp [Sha.hex_length, HS.out]) (by
        intro k hk
        rw [Nat.zero_add, h1.cell]
        have hk2 : k < (Sha.hex s).length := by rw [Sha.hex_length, HS.out]; exact hk
        simp [u8s, List.getD_eq_getElem?_getD, hk2]) 9 (by kernel_rfl)
      rw [hT.out] at hcv
      clear h1
      go_wp2_with fail
      go_ret
      exact ⟨rfl, h2⟩
end Go.Proofs.YtijgomgiinlcoaaDoor
