/-
  The law ElemEdges, walked. By an AI agent. No person has read it.
-/
import Derived.Test.YtbnaaomkndbpoaaDoorElmFirst
namespace Go.Proofs.YtbnaaomkndbpoaaDoor
open Go.RowKit

set_option maxRecDepth 100000 in
theorem ecut_c (n : Int) (w : World) : Calls Tryd.prog 30 #[.int .i64 n] w fun e w' => e = .returned (.int .i64 (Tens.narrow n)) ∧ w' = w := by
  obtain ⟨m, hm⟩ : ∃ m, Hid (max n (-128) = m) := ⟨_, hide rfl⟩
  obtain ⟨r, hr⟩ : ∃ m, Hid (Tens.narrow n = m) := ⟨_, hide rfl⟩
  have hmm := hm.out
  have hrr := hr.out
  unfold Tens.narrow at hrr
  have f1 : (if n < -128 then -128 else n) = m := by split <;> omega
  have f2 : (if -128 < n then n else -128) = m := by split <;> omega
  have f3 : (if m < 127 then m else 127) = r := by split <;> omega
  have f4 : (if 127 < m then 127 else m) = r := by split <;> omega
  rw [hr.out]
  clear hmm hrr hm hr
  go_enter Tryd.func30, Tryd.ntmps30
  go_wp2_with fail
  go_ret
  exact ⟨rfl, rfl⟩
def Elm.ends : List Int := [-128, -127, -1, 0, 1, 126, 127]
def Elm.far : List Int := [-2147483648, -2147483647, -1, 0, 1, 2147483646, 2147483647]
theorem ends_at (k : Nat) (hk : k < 7) : ∃ a, Elm.ends[k]? = some a ∧ -128 ≤ a ∧ a ≤ 127 := by
  have h : ∀ k : Fin 7, ∃ a, Elm.ends[k.val]? = some a ∧ -128 ≤ a ∧ a ≤ 127 := by
    intro k
    match k with
    | 0 => exact ⟨-128, rfl, by decide, by decide⟩
    | 1 => exact ⟨-127, rfl, by decide, by decide⟩
    | 2 => exact ⟨-1, rfl, by decide, by decide⟩
    | 3 => exact ⟨0, rfl, by decide, by decide⟩
    | 4 => exact ⟨1, rfl, by decide, by decide⟩
    | 5 => exact ⟨126, rfl, by decide, by decide⟩
    | 6 => exact ⟨127, rfl, by decide, by decide⟩
  exact h ⟨k, hk⟩
theorem far_at (k : Nat) (hk : k < 7) : ∃ a, Elm.far[k]? = some a ∧ -2147483648 ≤ a ∧ a ≤ 2147483647 := by
  have h : ∀ k : Fin 7, ∃ a, Elm.far[k.val]? = some a ∧ -2147483648 ≤ a ∧ a ≤ 2147483647 := by
    intro k
    match k with
    | 0 => exact ⟨-2147483648, rfl, by decide, by decide⟩
    | 1 => exact ⟨-2147483647, rfl, by decide, by decide⟩
    | 2 => exact ⟨-1, rfl, by decide, by decide⟩
    | 3 => exact ⟨0, rfl, by decide, by decide⟩
    | 4 => exact ⟨1, rfl, by decide, by decide⟩
    | 5 => exact ⟨2147483646, rfl, by decide, by decide⟩
    | 6 => exact ⟨2147483647, rfl, by decide, by decide⟩
  exact h ⟨k, hk⟩
theorem row_at {w : World} {g : Nat} {t : TypeId} {l : List Int} (h : Has w g t (i64s l)) {k : Nat} {a : Int} (ha : l[k]? = some a) : w.cell? ⟨g, k, none⟩ = some (.int .i64 a) := by
  rw [h.cell]
  unfold i64s
  rw [List.getElem?_map, ha]
  rfl
set_option maxRecDepth 100000 in
set_option maxHeartbeats 4000000 in
theorem edgeslaw_c (x y : Int) (ah am ar ak : Addr) (w : World) (hE : E4 w ah am ar ak) :
    Calls Tryd.prog 7 #[.int .i64 x, .int .i64 y] w fun e w' => e = .returned (.bool true) ∧ Below w.heap.size w w' := by
  have HF := hide (first7_c ah am ar ak w hE)
  have HX := hide (fun W => number_c x 7 (by decide) (by decide) 7 rfl W)
  have HY := hide (fun W => number_c y 7 (by decide) (by decide) 7 rfl W)
  clear hE
  go_enter Tryd.func7, Tryd.ntmps7
  go_wp2_with fail
  refine HF.out.mono ?_
  rintro e w1 ⟨rfl, hb⟩
  have HB := hide (hb.alloc hb.size (.cells (i64s Elm.ends).toArray 3))
  have HR := hide (Has.new w1 3 (i64s Elm.ends))
  clear hb HF
  go_wp2_with fail
  refine (HX.out _).mono ?_
  rintro e w2 ⟨⟨k, hk, rfl⟩, rfl⟩
  obtain ⟨a, ha, ha1, ha2⟩ := ends_at k hk
  have ca := row_at HR.out ha
  have k0 : (0 : Int) ≤ k := by omega
  have k7 : (k : Int) < 7 := by omega
  unfold Elm.ends i64s at ca
  simp only [List.map_cons, List.map_nil] at ca
  clear ha
  go_wp2_with fail
  refine (HY.out _).mono ?_
  rintro e w2 ⟨⟨l, hl, rfl⟩, rfl⟩
  obtain ⟨b, hb, hb1, hb2⟩ := ends_at l hl
  have cb := row_at HR.out hb
  have l0 : (0 : Int) ≤ l := by omega
  have l7 : (l : Int) < 7 := by omega
  unfold Elm.ends i64s at cb
  simp only [List.map_cons, List.map_nil] at cb
  have s1 : IntKind.i64.wrap (a + b) = a + b := by rw [IntKind.wrap_i64]; omega
  have s2 : IntKind.i64.wrap (a - b) = a - b := by rw [IntKind.wrap_i64]; omega
  have hmb : -16384 ≤ a * b ∧ a * b ≤ 16384 := by
    have h1 : (a + 128) * (b + 128) ≥ 0 := Int.mul_nonneg (by omega) (by omega)
    have h2 : (127 - a) * (127 - b) ≥ 0 := Int.mul_nonneg (by omega) (by omega)
    have h3 : (a + 128) * (127 - b) ≥ 0 := Int.mul_nonneg (by omega) (by omega)
    have h4 : (127 - a) * (b + 128) ≥ 0 := Int.mul_nonneg (by omega) (by omega)
    simp only [Int.add_mul, Int.mul_add, Int.sub_mul, Int.mul_sub] at h1 h2 h3 h4
    omega
  obtain ⟨p, hp⟩ : ∃ p, Hid (a * b = p) := ⟨_, hide rfl⟩
  have s3 : IntKind.i64.wrap (a * b) = p := by rw [hp.out, IntKind.wrap_i64]; rw [hp.out] at hmb; omega
  have V1 := hide (fun W => evalue_bin 4 (by decide) false a b W)
  have V2 := hide (fun W => evalue_bin 5 (by decide) false a b W)
  have V3 := hide (fun W => evalue_bin 6 (by decide) false a b W)
  have C1 := hide (fun W => ecut_c (a + b) W)
  have C2 := hide (fun W => ecut_c (a - b) W)
  have C3 := hide (fun W => ecut_c p W)
  rw [show Elm.bin 4 false a b = Tens.narrow (IntKind.i64.wrap (a + b)) from rfl, s1] at V1
  rw [show Elm.bin 5 false a b = Tens.narrow (IntKind.i64.wrap (a - b)) from rfl, s2] at V2
  rw [show Elm.bin 6 false a b = Tens.narrow (IntKind.i64.wrap (a * b)) from rfl, s3] at V3
  obtain ⟨v1, hv1⟩ : ∃ v, Hid (Tens.narrow (a + b) = v) := ⟨_, hide rfl⟩
  obtain ⟨v2, hv2⟩ : ∃ v, Hid (Tens.narrow (a - b) = v) := ⟨_, hide rfl⟩
  obtain ⟨v3, hv3⟩ : ∃ v, Hid (Tens.narrow p = v) := ⟨_, hide rfl⟩
  rw [hv1.out] at V1 C1
  rw [hv2.out] at V2 C2
  rw [hv3.out] at V3 C3
  clear hb hmb hv1 hv2 hv3 s1 s2 hp
  go_wp2_with fail
  refine (V1.out _).mono ?_
  rintro e w2 ⟨rfl, rfl⟩
  go_wp2_with fail
  refine (C1.out _).mono ?_
  rintro e w2 ⟨rfl, rfl⟩
  go_wp2_with fail
  refine (V2.out _).mono ?_
  rintro e w2 ⟨rfl, rfl⟩
  go_wp2_with fail
  refine (C2.out _).mono ?_
  rintro e w2 ⟨rfl, rfl⟩
  go_wp2_with fail
  refine (V3.out _).mono ?_
  rintro e w2 ⟨rfl, rfl⟩
  go_wp2_with fail
  refine (C3.out _).mono ?_
  rintro e w2 ⟨rfl, rfl⟩
  have HB2 := hide (HB.out.alloc HB.out.size (.cells (i64s Elm.far).toArray 3))
  unfold Elm.ends i64s at HB2
  simp only [List.map_cons, List.map_nil] at HB2
  generalize hw5 : (w1.alloc (.cells #[.int .i64 (-128), .int .i64 (-127), .int .i64 (-1), .int .i64 0, .int .i64 1, .int .i64 126, .int .i64 127] 3)) = w5 at *
  have HR2 := hide (Has.new w5 3 (i64s Elm.far))
  clear HR HB V1 V2 V3 C1 C2 C3 ca cb s3 ha1 ha2 hb1 hb2 k0 k7 l0 l7 hw5 hk hl
  go_wp2_with fail
  refine (HX.out _).mono ?_
  rintro e w2 ⟨⟨k, hk, rfl⟩, rfl⟩
  obtain ⟨c, hc, hc1, hc2⟩ := far_at k hk
  have ca := row_at HR2.out hc
  have k0 : (0 : Int) ≤ k := by omega
  have k7 : (k : Int) < 7 := by omega
  unfold Elm.far i64s at ca
  simp only [List.map_cons, List.map_nil] at ca
  clear hc
  go_wp2_with fail
  refine (HY.out _).mono ?_
  rintro e w2 ⟨⟨l, hl, rfl⟩, rfl⟩
  obtain ⟨d, hd, hd1, hd2⟩ := far_at l hl
  have cb := row_at HR2.out hd
  have l0 : (0 : Int) ≤ l := by omega
  have l7 : (l : Int) < 7 := by omega
  unfold Elm.far i64s at cb
  simp only [List.map_cons, List.map_nil] at cb
  have s1 : IntKind.i64.wrap (c + d) = c + d := by rw [IntKind.wrap_i64]; omega
  have s2 : IntKind.i64.wrap (c - d) = c - d := by rw [IntKind.wrap_i64]; omega
  obtain ⟨p2, hp2⟩ : ∃ p, IntKind.i64.wrap (c * d) = p := ⟨_, rfl⟩
  obtain ⟨m, hm⟩ : ∃ m, Hid (max c d = m) := ⟨_, hide rfl⟩
  have f1 : (if c < d then d else c) = m := by have := hm.out; split <;> omega
  have f2 : (if d < c then c else d) = m := by have := hm.out; split <;> omega
  have V1 := hide (fun W => evalue_bin 4 (by decide) true c d W)
  have V2 := hide (fun W => evalue_bin 5 (by decide) true c d W)
  have V3 := hide (fun W => evalue_bin 6 (by decide) true c d W)
  have V4 := hide (fun W => evalue_bin 7 (by decide) true c d W)
  have C1 := hide (fun W => wide_c (c + d) W)
  have C2 := hide (fun W => wide_c (c - d) W)
  have C3 := hide (fun W => wide_c p2 W)
  rw [show Elm.bin 4 true c d = Tens.wide (IntKind.i64.wrap (c + d)) from rfl, s1] at V1
  rw [show Elm.bin 5 true c d = Tens.wide (IntKind.i64.wrap (c - d)) from rfl, s2] at V2
  rw [show Elm.bin 6 true c d = Tens.wide (IntKind.i64.wrap (c * d)) from rfl, hp2] at V3
  rw [show Elm.bin 7 true c d = max c d from rfl, hm.out] at V4
  obtain ⟨v1, hv1⟩ : ∃ v, Hid (Tens.wide (c + d) = v) := ⟨_, hide rfl⟩
  obtain ⟨v2, hv2⟩ : ∃ v, Hid (Tens.wide (c - d) = v) := ⟨_, hide rfl⟩
  obtain ⟨v3, hv3⟩ : ∃ v, Hid (Tens.wide p2 = v) := ⟨_, hide rfl⟩
  rw [hv1.out] at V1 C1
  rw [hv2.out] at V2 C2
  rw [hv3.out] at V3 C3
  clear hd hm hv1 hv2 hv3 s1 s2 HX HY
  go_wp2_with fail
  refine (V1.out _).mono ?_
  rintro e w2 ⟨rfl, rfl⟩
  go_wp2_with fail
  refine (C1.out _).mono ?_
  rintro e w2 ⟨rfl, rfl⟩
  go_wp2_with fail
  refine (V2.out _).mono ?_
  rintro e w2 ⟨rfl, rfl⟩
  go_wp2_with fail
  refine (C2.out _).mono ?_
  rintro e w2 ⟨rfl, rfl⟩
  go_wp2_with fail
  refine (V3.out _).mono ?_
  rintro e w2 ⟨rfl, rfl⟩
  go_wp2_with fail
  refine (C3.out _).mono ?_
  rintro e w2 ⟨rfl, rfl⟩
  go_wp2_with fail
  refine (V4.out _).mono ?_
  rintro e w2 ⟨rfl, rfl⟩
  go_wp2_with fail
  go_ret
  exact ⟨rfl, HB2.out⟩
end Go.Proofs.YtbnaaomkndbpoaaDoor
