/-
  Package tens's Valid, walked; what it says of any numbers. By an AI agent. No person has read it.
-/
import Derived.Test.YthjnkaikjjjceaaDoorPkShpC
import Derived.Test.YthjnkaikjjjceaaDoorPkErrA
import Derived.Test.YthjnkaikjjjceaaDoorPkBasA
import Derived.Test.YthjnkaikjjjceaaDoorPkShpA
import Derived.Deep.RegionHeld3
import Derived.ChangeSame
namespace Go.Proofs.YthjnkaikjjjceaaDoor
open Go.RowKit
/-- Whether a number is narrow, or wide. -/
def Tens.fit (u : Bool) (z : Int) : Bool := if u = true then decide (-2147483648 ≤ z ∧ z ≤ 2147483647) else decide (-128 ≤ z ∧ z ≤ 127)
/-- What is first amiss with a tensor: the error's number, and its place. -/
def Tens.fault (zs : List Int) (u : Bool) (ds : List Int) : Nat × Option Nat :=
  if Shp.code zs ≠ 0 then (Shp.code zs, none) else if (ds.length : Int) ≠ Shp.elems zs then (101, none) else
    match ds.findIdx? (fun z => !Tens.fit u z) with
    | some i => (102, some i)
    | none => (0, none)
theorem Tens.fault_code (zs : List Int) (u : Bool) (ds : List Int) (h : Shp.code zs ≠ 0) : Tens.fault zs u ds = (Shp.code zs, none) := by
  unfold Tens.fault
  rw [if_pos h]
theorem Tens.fault_len (zs : List Int) (u : Bool) (ds : List Int) (h : Shp.code zs = 0) (hl : (ds.length : Int) ≠ Shp.elems zs) : Tens.fault zs u ds = (101, none) := by
  unfold Tens.fault
  rw [if_neg (by omega), if_pos hl]
theorem Tens.fault_at (zs : List Int) (u : Bool) (ds : List Int) (h : Shp.code zs = 0) (hl : (ds.length : Int) = Shp.elems zs) (i : Nat) (z : Int) (hz : ds[i]? = some z) (hi : Tens.fit u z = false) (hj : ∀ (j : Nat) (y : Int), j < i → ds[j]? = some y → Tens.fit u y = true) : Tens.fault zs u ds = (102, some i) := by
  unfold Tens.fault
  rw [if_neg (by omega), if_neg (by omega)]
  have hlt := (List.getElem?_eq_some_iff.1 hz).1
  have : ds.findIdx? (fun z => !Tens.fit u z) = some i := by
    rw [List.findIdx?_eq_some_iff_getElem]
    refine ⟨hlt, ?_, fun j hji => ?_⟩
    · have := (List.getElem?_eq_some_iff.1 hz).2
      rw [this, hi]
      rfl
    · have := hj j ds[j] hji (List.getElem?_eq_getElem (by omega))
      rw [this]
      decide
  rw [this]
theorem Tens.fault_none (zs : List Int) (u : Bool) (ds : List Int) (h : Shp.code zs = 0) (hl : (ds.length : Int) = Shp.elems zs) (hj : ∀ (j : Nat) (y : Int), ds[j]? = some y → Tens.fit u y = true) : Tens.fault zs u ds = (0, none) := by
  unfold Tens.fault
  rw [if_neg (by omega), if_neg (by omega)]
  have : ds.findIdx? (fun z => !Tens.fit u z) = none := by
    rw [List.findIdx?_eq_none_iff]
    intro z hz
    obtain ⟨j, hz⟩ := List.mem_iff_getElem?.1 hz
    rw [hj j z hz]
    rfl
  rw [this]
/-- The three errors that package tens tells. -/
def E3 (w : World) (ah am ar : Addr) : Prop := ErrIs w 4 ah ∧ E2 w am ar
theorem E3.below {w wr : World} {ah am ar : Addr} (h : E3 w ah am ar) (hb : Below w.heap.size w wr) : E3 wr ah am ar := ⟨h.1.below hb, h.2.below hb⟩
def Tens.err (ah am ar : Addr) (k : Nat) : Value := if k = 101 then errv ah else Shp.err am ar k
/-- The error of a fault. -/
def TErr (W : World) (ah am ar : Addr) (v : Value) : Nat × Option Nat → Prop
  | (k, none) => v = Tens.err ah am ar k
  | (_, some i) => ∃ g, v = .iface 119 (.pointer (some ⟨g, 0, none⟩)) ∧ Has W g 122 [.int .i64 (i : Int), errv ar]
/-- A tensor as a value. -/
abbrev tcells (P : Option Addr) (n cap : Nat) (u : Bool) (D : Option Addr) (m dcap : Nat) : Array Value := #[.slice P n cap, .bool u, .slice D m dcap]

theorem fits_c (n : Int) (u : Bool) (w : World) :
    Calls Tryd.prog 99 #[.int .i64 n, .bool u] w fun e w' => e = .returned (.bool (Tens.fit u n)) ∧ w' = w := by
  unfold Tens.fit
  cases u
  · rw [if_neg (by decide)]
    by_cases h1 : -128 ≤ n
    · by_cases h2 : n ≤ 127
      · rw [decide_eq_true ⟨h1, h2⟩]
        go_enter Tryd.func99, Tryd.ntmps99
        go_wp2_with fail
        go_ret
        exact ⟨rfl, rfl⟩
      · rw [decide_eq_false (fun h => h2 h.2)]
        go_enter Tryd.func99, Tryd.ntmps99
        go_wp2_with fail
        go_ret
        exact ⟨rfl, rfl⟩
    · rw [decide_eq_false (fun h => h1 h.1)]
      go_enter Tryd.func99, Tryd.ntmps99
      go_wp2_with fail
      go_ret
      exact ⟨rfl, rfl⟩
  · rw [if_pos rfl]
    by_cases h1 : -2147483648 ≤ n
    · by_cases h2 : n ≤ 2147483647
      · rw [decide_eq_true ⟨h1, h2⟩]
        go_enter Tryd.func99, Tryd.ntmps99
        go_wp2_with fail
        go_ret
        exact ⟨rfl, rfl⟩
      · rw [decide_eq_false (fun h => h2 h.2)]
        go_enter Tryd.func99, Tryd.ntmps99
        go_wp2_with fail
        go_ret
        exact ⟨rfl, rfl⟩
    · rw [decide_eq_false (fun h => h1 h.1)]
      go_enter Tryd.func99, Tryd.ntmps99
      go_wp2_with fail
      go_ret
      exact ⟨rfl, rfl⟩
/-- The block in which a tensor lies. -/
theorem tens_row (w : World) (P : Option Addr) (n cap : Nat) (u : Bool) (D : Option Addr) (m dcap : Nat) : Has (w.alloc (Obj.cells (tcells P n cap u D m dcap) 70)) w.heap.size 70 [.slice P n cap, .bool u, .slice D m dcap] := Has.new w _ _
/-- What is held in a region. -/
abbrev TenS (B : Nat) (wr : World) (x1 x2 x3 : Value) (W : World) : Prop :=
  W.cell? ⟨B, 0, none⟩ = some x1 ∧ W.cell? ⟨B, 1, none⟩ = some x2 ∧ W.cell? ⟨B, 2, none⟩ = some x3 ∧ Hid (Below wr.heap.size wr W)
theorem ten_kept {W W' : World} {a : Addr} {v : Value} (h : W.cell? a = some v) (hb : Below W.heap.size W W') : W'.cell? a = some v :=
  (hb.cell (World.block_lt_of_cell? W a h)).trans h
theorem TenS.keep {B : Nat} {wr : World} {x1 x2 x3 : Value} {W W' : World} (h : TenS B wr x1 x2 x3 W) (hb : Below W.heap.size W W') : TenS B wr x1 x2 x3 W' := by
  obtain ⟨h1, h2, h3, h7⟩ := h
  exact ⟨ten_kept h1 hb, ten_kept h2 hb, ten_kept h3 hb, hide (h7.out.trans (hb.mono h7.out.size))⟩
theorem TenS.low {B : Nat} {wr : World} {x1 x2 x3 : Value} {W : World} (h : TenS B wr x1 x2 x3 W) : Below wr.heap.size wr W := h.2.2.2.out

set_option maxRecDepth 100000 in
set_option maxHeartbeats 4000000 in
theorem tvalid_c (zs ds : List Int) (P D : Option Addr) (cap dcap : Nat) (u : Bool) (ah am ar : Addr) (w : World) (hr : Ri w P zs) (hd : Ri w D ds) (hm : zs.length ≤ 9223372036854775807) (hdm : ds.length ≤ 9223372036854775807) (hE : E3 w ah am ar) :
    Calls Tryd.prog 73 #[.agg (tcells P zs.length cap u D ds.length dcap)] w fun e w' => (∃ v, e = .returned v ∧ TErr w' ah am ar v (Tens.fault zs u ds)) ∧ Below w.heap.size w w' := by
  have hb1 := (Below.refl _ w).alloc (Nat.le_refl _) (Obj.cells (tcells P zs.length cap u D ds.length dcap) 70)
  have hrow := tens_row w P zs.length cap u D ds.length dcap
  have HV := hide (valid_c zs P cap u am ar _ (hr.below hb1) hm (hE.2.below hb1))
  have HEl := hide (fun W (hb : Below w.heap.size w W) => elems_c zs P cap am ar W (hr.below hb) hm (hE.2.below hb))
  have HB1 := hide hb1
  have HR := hide hrow
  have HD := hide hd
  have HE := hide hE
  clear hr hb1 hrow hd hE
  obtain ⟨n, hn⟩ : ∃ n, Hid (zs.length = n) := ⟨_, hide rfl⟩
  obtain ⟨m, hm'⟩ : ∃ m, Hid (ds.length = m) := ⟨_, hide rfl⟩
  have F1 := Tens.fault_code zs u ds
  have F2 := Tens.fault_len zs u ds
  have F3 := Tens.fault_at zs u ds
  have F4 := Tens.fault_none zs u ds
  obtain ⟨R, hRR⟩ : ∃ R, Hid (Tens.fault zs u ds = R) := ⟨_, hide rfl⟩
  rw [hRR.out] at F1 F2 F3 F4 ⊢
  rw [hn.out] at HV HEl HB1 HR hm ⊢
  rw [hm'.out] at F2 F3 F4 HV HB1 HR hdm ⊢
  have hk := Shp.code_is zs
  have hEb := Shp.elems_le zs
  obtain ⟨E, hEE⟩ : ∃ E, Hid (Shp.elems zs = E) := ⟨_, hide rfl⟩
  rw [hEE.out] at F2 F3 F4 HEl hEb
  obtain ⟨k, hkk⟩ : ∃ k, Hid (Shp.code zs = k) := ⟨_, hide rfl⟩
  rw [hkk.out] at F1 F2 F3 F4 HV hk
  have HF1 := hide F1
  have HF2 := hide F2
  have HF3 := hide F3
  have HF4 := hide F4
  clear F1 F2 F3 F4
  go_enter Tryd.func73, Tryd.ntmps73
  go_wp2_with fail
  refine HV.out.mono ?_
  rintro e w1 ⟨rfl, hb⟩
  have hfin := HB1.out.trans (hb.mono HB1.out.size)
  have hR1 := HR.out.below hb HR.out.lt
  have HE1 := hide (HE.out.below hfin)
  have HD1 := hide (HD.out.below hfin)
  have HF := hide hfin
  clear hb hfin HB1 HR HV
  rcases hk with rfl | rfl | rfl
  · obtain rfl := HF1.out (by decide)
    rw [show Shp.err am ar 104 = errv am from rfl]
    go_wp2_with fail
    go_ret
    exact ⟨⟨_, rfl, rfl⟩, HF.out⟩
  · obtain rfl := HF1.out (by decide)
    rw [show Shp.err am ar 102 = errv ar from rfl]
    go_wp2_with fail
    go_ret
    exact ⟨⟨_, rfl, rfl⟩, HF.out⟩
  · rw [show Shp.err am ar 0 = .nilIface from rfl]
    have c0 : w1.cell? ⟨w.heap.size, 0, none⟩ = some (.slice P n cap) := by rw [hR1.cell]; rfl
    have c1 : w1.cell? ⟨w.heap.size, 1, none⟩ = some (.bool u) := by rw [hR1.cell]; rfl
    have c2 : w1.cell? ⟨w.heap.size, 2, none⟩ = some (.slice D m dcap) := by rw [hR1.cell]; rfl
    have hwm : IntKind.i64.wrap (m : Int) = m := by rw [IntKind.wrap_i64]; omega
    clear hR1
    go_wp2_with fail
    have hS0 : TenS w.heap.size w1 (.slice P n cap) (.bool u) (.slice D m dcap) w1.drew := ⟨c0, c1, c2, hide (Below.refl _ w1).drew⟩
    have HK := hide (fun W (hb : Below w1.heap.size w1 W) => HEl.out W (HF.out.trans (hb.mono HF.out.size)))
    clear c0 c1 c2 HEl
    go_region_held3 (fun W => W.cell? ⟨w.heap.size, 0, none⟩ = some (.slice P n cap) ∧ W.cell? ⟨w.heap.size, 1, none⟩ = some (.bool u) ∧ W.cell? ⟨w.heap.size, 2, none⟩ = some (.slice D m dcap) ∧ Hid (Below w1.heap.size w1 W))
      (first | exact hS0 | assumption | exact TenS.keep (by assumption) hb)
      (first
        | (go_at_call 98; refine (HK.out _ (TenS.low (by assumption))).mono ?_; rintro e W2 ⟨rfl, hb⟩))
    obtain ⟨c0, c1, c2, hbe⟩ := ‹TenS w.heap.size w1 (.slice P n cap) (.bool u) (.slice D m dcap) W2›
    have hF2 := HF.out.trans (hbe.out.mono HF.out.size)
    have hE2 := HE1.out.below hbe.out
    have HD2 := hide (HD1.out.below hbe.out)
    have ce := hE2.1.1
    have cr := hE2.2.2.1
    have HFin := hide hF2
    clear hb hbe hE2 hF2 HE1 HD1 HF HK hS0 HE
    by_cases hl : (m : Int) = E
    · have hne : ((m : Int) != E) = false := by simpa using hl
      rw [hne]
      have H3 := hide (HF3.out trivial hl)
      have H4 := hide (HF4.out trivial hl)
      clear HF1 HF2 HF3 HF4 hne hl hEb
      go_wp2_with fail
      go_loopw [24] (fun k wr => ∃ i : Nat, i ≤ m ∧ k = .int .i64 i ∧ wr = W2 ∧ Hid (∀ (j : Nat) (y : Int), j < i → ds[j]? = some y → Tens.fit u y = true)) (fun k _ => m - (intOf k).toNat)
      case atStart => exact ⟨0, by omega, rfl, rfl, hide (fun j y hj => by omega)⟩
      case round =>
        obtain ⟨i, hi, rfl, rfl, hI⟩ := hrel
        by_cases hlt : i < m
        · obtain ⟨ad, z, rfl, ez, cz⟩ := ri_at HD2.out i (by rw [hm'.out]; exact hlt)
          have him : (i : Int) < m := by omega
          have HFit := hide (fits_c z u wr)
          have hw1 : IntKind.i64.wrap ((i : Int) + 1) = (i : Int) + 1 := by rw [IntKind.wrap_i64]; omega
          cases hf : Tens.fit u z
          · rw [hf] at HFit
            have hR := H3.out i z ez.out hf hI.out
            clear hI H3 H4 hf hRR
            subst hR
            go_wp2_with fail
            refine HFit.out.mono ?_
            rintro e w3 ⟨rfl, rfl⟩
            go_wp2_with fail
            go_ret
            exact ⟨⟨_, rfl, _, rfl, Has.new _ _ _⟩, HFin.out.alloc HFin.out.size _⟩
          · rw [hf] at HFit
            have hI2 : Hid (∀ (j : Nat) (y : Int), j < i + 1 → ds[j]? = some y → Tens.fit u y = true) := hide fun j y hj hy => by
              rcases Nat.lt_or_ge j i with h | h
              · exact hI.out j y h hy
              · obtain rfl : j = i := by omega
                rw [ez.out] at hy
                cases hy
                exact hf
            clear hI hf
            go_wp2_with fail
            refine HFit.out.mono ?_
            rintro e w3 ⟨rfl, rfl⟩
            go_wp2_with fail
            go_roundw
            case rel => exact ⟨i + 1, by omega, by go_num, trivial, hI2⟩
            case measure => simp [intOf]; omega
        · obtain rfl : i = m := by omega
          have hR := H4.out fun j y hy => hI.out j y (by rw [← hm'.out]; exact (List.getElem?_eq_some_iff.1 hy).1) hy
          clear hI H3 H4 hRR
          subst hR
          go_wp2_with fail
          go_ret
          exact ⟨⟨_, rfl, rfl⟩, HFin.out⟩
    · have hne : ((m : Int) != E) = true := by simpa using hl
      rw [hne]
      have hR := HF2.out trivial hl
      clear HF1 HF2 HF3 HF4 hne hl hRR
      subst hR
      go_wp2_with fail
      go_ret
      exact ⟨⟨_, rfl, rfl⟩, HFin.out⟩
end Go.Proofs.YthjnkaikjjjceaaDoor
namespace Go.Proofs.YthjnkaikjjjceaaDoor
open Go.ChangeShapes Go.WideShapes Go.ChangeAt Go.RowKit
theorem ten_c2 : Tryd.prog.cellsOf 59 = 2 := by kernel_rfl
theorem ten_c3 : Tryd.prog.cellsOf 70 = 3 := by kernel_rfl
theorem ten_n1 : Tryd.prog.cellsOf 46 = 1 := by kernel_rfl
theorem ten_b1 : Tryd.prog.cellsOf 4 = 1 := by kernel_rfl
theorem uBool : Tryd.prog.underlying 4 = some .bool := by kernel_rfl
/-- A slice of numbers, from the cell that was read. -/
theorem nums_cell {H : Type} {enc : TypeId × Value → H} {W : World} {c : Value} {fuel : Nat} {x : DataW H × List MemPlace} {sp : Nat → Bool} {held : Bool} {base : Nat}
    (h : DataW.trod enc Tryd.prog W base sp held fuel 46 [c] = some x) : ∃ (zs : List Int) (A : Option Addr) (cap : Nat), c = .slice A zs.length cap ∧ Ri W A zs ∧ zs.length ≤ cap ∧ cap ≤ 9223372036854775807 := by
  obtain ⟨A, len, cap, rfl⟩ : ∃ A len cap, c = .slice A len cap := by
    rcases open_ints uNums uInt (by kernel_rfl) h with ⟨hcs, _⟩ | ⟨a, l, c, zs, hcs, _⟩
    · exact ⟨none, 0, 0, by simpa using hcs⟩
    · exact ⟨some a, l, c, by simpa using hcs⟩
  obtain ⟨zs, rfl, hR, hc, hd⟩ := open_nums h
  exact ⟨zs, A, cap, rfl, hR, hc, hd⟩
set_option maxRecDepth 100000 in
/-- A description, from the cells that were read. -/
theorem desc_cells {H : Type} {enc : TypeId × Value → H} {W : World} {c0 c1 : Value} {fuel : Nat} {x : DataW H × List MemPlace} {sp : Nat → Bool} {held : Bool} {base : Nat}
    (h : DataW.trod enc Tryd.prog W base sp held fuel 59 [c0, c1] = some x) : ∃ (zs : List Int) (A : Option Addr) (cap : Nat) (u : Bool), c0 = .slice A zs.length cap ∧ c1 = .bool u ∧ Ri W A zs ∧ zs.length ≤ cap ∧ cap ≤ 9223372036854775807 := by
  obtain ⟨y0, y1, n, -, -, h0, h1⟩ := trod_struct2 Tryd.underlying59 h
  dsimp only at h0 h1
  rw [ten_n1] at h0
  rw [ten_b1] at h1
  simp only [List.drop_zero, List.take_succ_cons, List.take_zero, List.drop_succ_cons] at h0 h1
  obtain ⟨u, hu, -⟩ := DataW.trod_bool uBool h1
  obtain ⟨zs, A, cap, rfl, hR, hc, hd⟩ := nums_cell h0
  exact ⟨zs, A, cap, u, rfl, by simpa using hu, hR, hc, hd⟩
end Go.Proofs.YthjnkaikjjjceaaDoor
namespace Go.Proofs.YthjnkaikjjjceaaDoor
open Go.RowKit
/-- n gone round wide, cut to narrow. -/
def Tens.wide (n : Int) : Int := (n + 2147483648) % 4294967296 - 2147483648
def Tens.narrow (n : Int) : Int := max (-128) (min n 127)
theorem wide_c (n : Int) (w : World) : Calls Tryd.prog 107 #[.int .i64 n] w fun e w' => e = .returned (.int .i64 (Tens.wide n)) ∧ w' = w := by
  have h1 : IntKind.i32.wrap n = Tens.wide n := by rw [IntKind.wrap_i32]; rfl
  have h2 : IntKind.i64.wrap (Tens.wide n) = Tens.wide n := by rw [IntKind.wrap_i64]; unfold Tens.wide; omega
  obtain ⟨q, hq⟩ : ∃ q, Hid (Tens.wide n = q) := ⟨_, hide rfl⟩
  rw [hq.out] at h1 h2 ⊢
  clear hq
  go_enter Tryd.func107, Tryd.ntmps107
  go_wp2_with fail
  go_ret
  exact ⟨rfl, rfl⟩
end Go.Proofs.YthjnkaikjjjceaaDoor
namespace Go.Proofs.YthjnkaikjjjceaaDoor
open Go.RowKit
/-- A number of its kind. -/
def Elm.kept (u : Bool) (n : Int) : Int := if u = true then Tens.wide n else Tens.narrow n
end Go.Proofs.YthjnkaikjjjceaaDoor
