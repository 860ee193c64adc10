/-
  Package tens's Raw, walked. By an AI agent. No person has read it.
-/
import Derived.Test.YthjnkaikjjjceaaDoorPkTenF
import Derived.Test.YthjnkaikjjjceaaDoorPkTenRh
import Derived.Deep.RegionHeld3
namespace Go.Proofs.YthjnkaikjjjceaaDoor
open Go.RowKit
/-- A tensor's numbers as bytes. -/
def Tens.raw (zs : List Int) (u : Bool) (ds : List Int) : List Nat := if Tens.fault zs u ds = (0, none) then Pk.all (Tens.each u) ds else []
end Go.Proofs.YthjnkaikjjjceaaDoor
namespace Go.Proofs.YthjnkaikjjjceaaDoor
open Go.RowKit
theorem new_bytes (w : World) (b : Nat) (h : b < 256) : Rb (w.alloc (.cells #[.int .u8 (b : Nat)] 5)) (some ⟨w.heap.size, 0, none⟩) [b] :=
  (Has.new w 5 (u8s [b])).rb (by simpa using h)
set_option maxRecDepth 100000 in
set_option maxHeartbeats 4000000 in
theorem rbytes_c (bs : List Nat) (P : Option Addr) (capp : Nat) (w : World) (hr : Rb w P bs) (hl : bs.length ≤ 1000000) :
    Calls Tryd.prog 12 #[.slice P bs.length capp] w fun e w' => (∃ v, e = .returned v ∧ w'.ownsRow w.heap.size 5 1 v bs.length (u8s bs) ∧ v ≠ .slice none 0 0) ∧ Below w.heap.size w w' := by
  obtain ⟨n, hn⟩ : ∃ n, Hid (bs.length = n) := ⟨_, hide rfl⟩
  rw [hn.out] at hl ⊢
  have HA := hide hr
  clear hr
  obtain ⟨i0, hi0, hz0, hz1, hz2⟩ := u8info
  obtain ⟨Z, hZs, hmk⟩ : ∃ Z : Array Value, Hid (Z.size = n) ∧ ∀ w : World, (Instr.makeSlice 30 (.int .i64 0) (.int .i64 n)).run Tryd.prog w = .ok (.slice (some ⟨w.heap.size, 0, none⟩) 0 n) (w.alloc (.cells Z 5)) := by
    refine ⟨madeCells (Value.int .u8 0).cells n, hide (by rw [size_madeCells]), fun w => ?_⟩
    have h := run_make (P := Tryd.prog) w 30 5 i0 (.int .u8 0) ubs hi0 hz0 .i64 .i64 0 (n : Int) (by omega) (by omega) (by rw [hz2]; omega) (by omega)
    rw [hz1, Int.toNat_natCast, Nat.mul_one] at h
    exact h
  clear hi0 hz0 hz1 hz2
  have HO0 : Hid ((w.alloc (.cells Z 5)).ownsRow w.heap.size 5 1 (.slice (some ⟨w.heap.size, 0, none⟩) 0 n) 0 (u8s [])) := hide (by
    refine ⟨by simp [u8s], .inr ⟨_, n, Z, rfl, Nat.le_refl _, heap_alloc_new w _, by omega, by unfold maxLen; omega, by rw [hZs.out, Nat.mul_one], by simp [u8s]⟩⟩)
  have HB0 := hide ((Below.refl _ w).alloc (Nat.le_refl _) (.cells Z 5))
  go_enter Tryd.func12, Tryd.ntmps12
  go_wp2_with fail
  go_loopw [3, 4] (fun v k wr => ∃ (i : Nat) (u : Value), u = v ∧ i ≤ n ∧ k = .int .i64 i ∧ Hid (wr.ownsRow w.heap.size 5 1 v i (u8s (bs.take i))) ∧ Hid (v ≠ .slice none 0 0) ∧ Hid (Below w.heap.size w wr)) (fun _ k _ => n - (intOf k).toNat)
  case atStart => exact ⟨0, _, rfl, by omega, rfl, HO0, hide (by intro h; cases h), HB0⟩
  case round =>
    obtain ⟨i, v, rfl, hi, rfl, HO, HN, HB⟩ := hrel
    clear HO0 HB0
    by_cases hlt : i < n
    · obtain ⟨ad, z, rfl, ez, hz, cz⟩ := rb_at (HA.out.below HB.out) i (by rw [hn.out]; exact hlt)
      have him : (i : Int) < n := by omega
      have hown2 := hide (HO.out.alloc (.cells #[.int .u8 (z : Nat)] 5))
      have hsz : Hid (w.heap.size ≤ (wr.alloc (.cells #[.int .u8 (z : Nat)] 5)).heap.size) := hide (by have := HB.out.size; simp; omega)
      have hnw := hide (new_bytes wr z hz)
      clear hz
      go_wp2_with (at_builtin; refine wpList_append_bs rfl _ _ rfl w.heap.size v i _ rfl hown2.out (some ⟨wr.heap.size, 0, none⟩) 1 1 [z] rfl (hide rfl) hnw.out (by omega) hsz.out ?_)
      intro v' w' hown' hgrow hat
      have HB' := hide (below_row HB.out HO.out hgrow)
      have HN' : Hid (v' ≠ .slice none 0 0) := hide (by
        rintro rfl
        obtain ⟨h1, h2⟩ := hown'
        rcases h2 with ⟨-, h2⟩ | ⟨g, cap, cur, h2, -⟩
        · omega
        · cases h2)
      have HO' := hide hown'
      clear hown' hgrow hat
      go_wp2_with fail
      go_roundw
      case rel =>
        refine ⟨i + 1, _, rfl, by omega, by go_num, ?_, HN', HB'⟩
        rw [List.take_add_one, ez.out, Option.toList_some]
        unfold u8s
        rw [List.map_append, List.map_take]
        exact HO'
      case measure => simp [intOf]; omega
    · obtain rfl : i = n := by omega
      have h := HO.out
      rw [List.take_of_length_le (by rw [hn.out]; exact Nat.le_refl _)] at h
      have HH := hide h
      clear h HO HA
      go_wp2_with fail
      go_ret
      exact ⟨⟨_, rfl, HH.out, HN.out⟩, HB.out⟩

theorem Pk.all_cons (k : Nat) (z : Int) (zs : List Int) : Pk.all k (z :: zs) = Pk.le k (Pk.num z) ++ Pk.all k zs := by simp [Pk.all]
/-- A list of equal parts, and one of them. -/
theorem Pk.all_drop (k : Nat) (zs : List Int) (X : List Nat) (i : Nat) (hi : i ≤ zs.length) : (Pk.all k zs ++ X).drop (i * k) = Pk.all k (zs.drop i) ++ X := by
  induction i generalizing zs with
  | zero => simp
  | succ i ih =>
    match zs, hi with
    | z :: zs, hi =>
      rw [Pk.all_cons, List.append_assoc, show (i + 1) * k = (Pk.le k (Pk.num z)).length + i * k by rw [Pk.le_length, Nat.succ_mul, Nat.add_comm], List.drop_length_add_append, ih zs (by simp at hi; omega), List.drop_succ_cons]
theorem Pk.all_part (k : Nat) (zs : List Int) (X : List Nat) (i : Nat) (z : Int) (hz : zs[i]? = some z) : ((Pk.all k zs ++ X).drop (i * k)).take k = Pk.le k (Pk.num z) := by
  obtain ⟨hi, rfl⟩ := List.getElem?_eq_some_iff.1 hz
  rw [Pk.all_drop k zs X i (by omega), List.drop_eq_getElem_cons hi, Pk.all_cons, List.append_assoc, List.take_left' (Pk.le_length _ _)]
theorem Pk.num_small (z : Int) (h : 0 ≤ z ∧ z < 65536) : Pk.num z = z.toNat := by unfold Pk.num; omega
theorem Pk.le_val2 (N : Nat) (h : N < 65536) : Pk.val (Pk.le 2 N) = N := by
  have e : Pk.le 2 N = [N % 256, N / 256 % 256] := by simp [Pk.le, List.range_succ]
  rw [e, Pk.val_two]
  omega
theorem Pk.dims_of (zs : List Int) (X : List Nat) (h : Nat) (hz : ∀ z ∈ zs, 1 ≤ z ∧ z ≤ 256) : Pk.dims zs.length (h :: (Pk.all 2 zs ++ X)) = zs := by
  refine List.ext_getElem? fun i => ?_
  rcases Nat.lt_or_ge i zs.length with hi | hi
  · have hb := hz zs[i] (List.getElem_mem hi)
    have hp := Pk.all_part 2 zs X i zs[i] (List.getElem?_eq_getElem hi)
    unfold Pk.dims
    rw [List.getElem?_map, List.getElem?_range hi, Option.map_some, List.getElem?_eq_getElem hi]
    congr 1
    rw [List.drop_take, show 1 + 2 * i + 2 - (1 + 2 * i) = 2 by omega, show 1 + 2 * i = (i * 2) + 1 by omega, List.drop_succ_cons, hp, Pk.num_small _ (by omega), Pk.le_val2 _ (by omega)]
    omega
  · rw [List.getElem?_eq_none (by rw [Pk.dims_length]; exact hi), List.getElem?_eq_none hi]
theorem Pk.desc_cons (zs : List Int) (u : Bool) (hl : zs.length ≤ 7) : ∃ h, Pk.desc zs u = h :: Pk.all 2 zs ∧ h ≤ 15 ∧ h % 8 = zs.length ∧ decide (8 ≤ h) = u := by
  refine ⟨zs.length + (if u = true then 8 else 0), ?_, ?_, ?_, ?_⟩
  · have e : Pk.num (Pk.head zs u) = zs.length + (if u = true then 8 else 0) := by
      unfold Pk.num Pk.head
      cases u <;> simp <;> omega
    unfold Pk.desc
    rw [e]
    have : Pk.le 1 (zs.length + (if u = true then 8 else 0)) = [zs.length + (if u = true then 8 else 0)] := by
      simp [Pk.le, List.range_succ]
      cases u <;> simp <;> omega
    rw [this]
    rfl
  · cases u <;> simp <;> omega
  · cases u <;> simp <;> omega
  · cases u <;> simp <;> omega
set_option maxRecDepth 100000 in
theorem Tens.nums_of (u : Bool) (ds : List Int) (h : ∀ z ∈ ds, Tens.fit u z = true) : Tens.nums u (Pk.all (Tens.each u) ds) = ds := by
  cases u
  · unfold Tens.nums Tens.each
    rw [if_neg (by decide), if_neg (by decide)]
    induction ds with
    | nil => rfl
    | cons z ds ih =>
      have hz := h z (by simp)
      have e1 : Pk.le 1 (Pk.num z) = [Pk.num z % 256] := by simp [Pk.le, List.range_succ]
      have ih2 := ih fun y hy => h y (by simp [hy])
      unfold Tens.nums1 at ih2 ⊢
      rw [Pk.all_cons, List.map_append, ih2, e1, List.map_cons, List.map_nil]
      have : Tens.num1 (Pk.num z % 256) = z := by
        simp [Tens.fit] at hz
        unfold Tens.num1 Pk.num
        split <;> omega
      rw [this]
      rfl
  · unfold Tens.nums Tens.each
    rw [if_pos rfl, if_pos rfl]
    have hl : (Pk.all 4 ds).length / 4 = ds.length := by rw [Pk.all_length]; omega
    unfold Tens.nums4
    rw [hl]
    refine List.ext_getElem? fun i => ?_
    rcases Nat.lt_or_ge i ds.length with hi | hi
    · have hz := h ds[i] (List.getElem_mem hi)
      have hp := Pk.all_part 4 ds [] i ds[i] (List.getElem?_eq_getElem hi)
      rw [List.append_nil] at hp
      have e4 : ∀ N, Pk.le 4 N = [N % 256, N / 256 % 256, N / 65536 % 256, N / 16777216 % 256] := fun N => by simp [Pk.le, List.range_succ]
      rw [List.getElem?_map, List.getElem?_range hi, Option.map_some, List.getElem?_eq_getElem hi]
      refine congrArg some ?_
      have g : ∀ j, j < 4 → (Pk.all 4 ds).getD (4 * i + j) 0 = (Pk.le 4 (Pk.num ds[i])).getD j 0 := fun j hj => by
        rw [← hp, List.getD_eq_getElem?_getD, List.getD_eq_getElem?_getD, List.getElem?_take, if_pos hj, List.getElem?_drop, Nat.mul_comm i 4]
      have g0 := g 0 (by omega)
      have g1 := g 1 (by omega)
      have g2 := g 2 (by omega)
      have g3 := g 3 (by omega)
      unfold Tens.v4
      rw [Nat.add_zero] at g0
      rw [g0, g1, g2, g3, e4]
      simp [Tens.fit] at hz
      simp only [List.getD_cons_zero, List.getD_cons_succ]
      unfold Tens.wide Pk.num
      omega
    · rw [List.getElem?_eq_none (by simpa using hi), List.getElem?_eq_none hi]
set_option maxRecDepth 100000 in
/-- What is written of a tensor is read back, whatever stands behind; cut off it is at its end too soon. -/
theorem Tens.back {zs ds : List Int} {u : Bool} (h : Tens.fault zs u ds = (0, none)) (X : List Nat) :
    Tens.rcode (Tens.bytes zs u ds ++ X) = 0 ∧ Tens.rdims (Tens.bytes zs u ds ++ X) = zs ∧ Tens.ru (Tens.bytes zs u ds ++ X) = u ∧ Tens.rn (Tens.bytes zs u ds ++ X) + Tens.rs (Tens.bytes zs u ds ++ X) = (Tens.bytes zs u ds).length ∧
    Tens.nums u (((Tens.bytes zs u ds ++ X).take (Tens.rn (Tens.bytes zs u ds ++ X) + Tens.rs (Tens.bytes zs u ds ++ X))).drop (Tens.rn (Tens.bytes zs u ds ++ X))) = ds ∧
    (Tens.raw zs u ds).length = Tens.rs (Tens.bytes zs u ds ++ X) ∧ ((Tens.raw zs u ds).length : Int) = Shp.size zs u ∧ ∀ k, k < (Tens.bytes zs u ds).length → Tens.rcode ((Tens.bytes zs u ds).take k) = 105 := by
  obtain ⟨hok, hne, hdl, hfit⟩ := Tens.fine h
  have hok2 := (Shp.ok_iff zs).1 hok
  have hcode : Shp.code zs = 0 := by unfold Shp.ok at hok; exact of_decide_eq_true hok
  have hdim : ∀ z ∈ zs, 1 ≤ z ∧ z ≤ 256 := fun z hz => by
    have := List.all_eq_true.1 hok2.2.1 z hz
    unfold Shp.okDim at this
    exact of_decide_eq_true this
  obtain ⟨hd, hdc, hd15, hd8, hdu⟩ := Pk.desc_cons zs u (by omega)
  have hf : ∀ z ∈ ds, Tens.fit u z = true := fun z hz => by
    obtain ⟨j, hj, rfl⟩ := List.getElem_of_mem hz
    exact hfit j _ (List.getElem?_eq_getElem hj)
  have hb : Tens.bytes zs u ds = hd :: (Pk.all 2 zs ++ Pk.all (Tens.each u) ds) := by unfold Tens.bytes; rw [if_pos h, hdc]; rfl
  have hraw : Tens.raw zs u ds = Pk.all (Tens.each u) ds := by unfold Tens.raw; rw [if_pos h]
  have hrl : ((Pk.all (Tens.each u) ds).length : Int) = Shp.size zs u := by
    rw [Pk.all_length]
    unfold Shp.size Tens.each
    cases u <;> simp <;> omega
  have hbl : (Tens.bytes zs u ds).length = 1 + 2 * zs.length + (Pk.all (Tens.each u) ds).length := by
    rw [hb, List.length_cons, List.length_append, Pk.all_length 2]
    omega
  have gen : ∀ Y, Tens.rdims (hd :: (Pk.all 2 zs ++ Y)) = zs ∧ Tens.ru (hd :: (Pk.all 2 zs ++ Y)) = u ∧ Tens.rn (hd :: (Pk.all 2 zs ++ Y)) = 1 + 2 * zs.length ∧ Tens.rs (hd :: (Pk.all 2 zs ++ Y)) = (Pk.all (Tens.each u) ds).length ∧ Pk.code (hd :: (Pk.all 2 zs ++ Y)) = 0 := fun Y => by
    have e1 : Tens.rdims (hd :: (Pk.all 2 zs ++ Y)) = zs := by
      show Pk.dims (hd % 8) _ = zs
      rw [hd8]
      exact Pk.dims_of zs Y hd hdim
    have e2 : Tens.ru (hd :: (Pk.all 2 zs ++ Y)) = u := hdu
    refine ⟨e1, e2, ?_, ?_, ?_⟩
    · show 1 + 2 * (hd % 8) = _
      rw [hd8]
    · unfold Tens.rs
      rw [e1, e2]
      omega
    · show (if 15 < hd then 103 else if (Pk.all 2 zs ++ Y).length < 2 * (hd % 8) then 105 else 0) = 0
      rw [if_neg (by omega), if_neg (by rw [List.length_append, Pk.all_length]; omega)]
  have hbX : Tens.bytes zs u ds ++ X = hd :: (Pk.all 2 zs ++ (Pk.all (Tens.each u) ds ++ X)) := by rw [hb]; simp
  obtain ⟨g1, g2, g3, g4, g5⟩ := gen (Pk.all (Tens.each u) ds ++ X)
  refine ⟨?_, ?_, ?_, ?_, ?_, ?_, ?_, ?_⟩
  · unfold Tens.rcode
    rw [hbX, g5, if_neg (by simp), g1, if_neg (by simp [hcode]), g3, g4, if_neg (by simp [Pk.all_length 2]; omega)]
  · rw [hbX]; exact g1
  · rw [hbX]; exact g2
  · rw [hbX, g3, g4, hbl]
  · rw [hbX, g3, g4, List.drop_take, show 1 + 2 * zs.length + (Pk.all (Tens.each u) ds).length - (1 + 2 * zs.length) = (Pk.all (Tens.each u) ds).length by omega, show 1 + 2 * zs.length = zs.length * 2 + 1 by omega, List.drop_succ_cons, Pk.all_drop 2 zs _ zs.length (Nat.le_refl _), List.drop_length]
    have hnil : Pk.all 2 [] = [] := rfl
    rw [hnil, List.nil_append, List.take_left]
    exact Tens.nums_of u ds hf
  · rw [hbX, g4, hraw]
  · rw [hraw]; exact hrl
  · intro k hk
    rw [hb]
    match k with
    | 0 => rfl
    | k + 1 =>
      rw [List.take_succ_cons]
      rw [hbl] at hk
      by_cases hs : k < 2 * zs.length
      · refine Tens.rcode_pk _ _ ?_ (by decide)
        show (if 15 < hd then 103 else if (List.take k _).length < 2 * (hd % 8) then 105 else 0) = 105
        rw [if_neg (by omega), if_pos (by rw [List.length_take]; omega)]
      · have e : List.take k (Pk.all 2 zs ++ Pk.all (Tens.each u) ds) = Pk.all 2 zs ++ List.take (k - 2 * zs.length) (Pk.all (Tens.each u) ds) := by
          rw [List.take_append, List.take_of_length_le (by rw [Pk.all_length]; omega), Pk.all_length, Nat.mul_comm zs.length 2]
        rw [e]
        obtain ⟨g1, g2, g3, g4, g5⟩ := gen (List.take (k - 2 * zs.length) (Pk.all (Tens.each u) ds))
        unfold Tens.rcode
        rw [g5, if_neg (by simp), g1, if_neg (by simp [hcode]), g3, g4, if_pos (by simp [Pk.all_length 2]; omega)]
end Go.Proofs.YthjnkaikjjjceaaDoor
