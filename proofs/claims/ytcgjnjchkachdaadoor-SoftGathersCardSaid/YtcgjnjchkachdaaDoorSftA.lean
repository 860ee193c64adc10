/-
  Rows of tensors, the greatest of a row, its place; slices.Max, slices.Index, cells.weight, cells.row, walked. By an AI agent. No person has read it.
-/
import Derived.Test.YtcgjnjchkachdaaDoorPolE
namespace Go.Proofs.YtcgjnjchkachdaaDoor
open Go.RowKit

/-- Row i of rows of n numbers. -/
def Sf.row (xs : List Int) (n i : Nat) : List Int := (xs.drop (i * n)).take n
theorem Sf.row_length (xs : List Int) (n i m : Nat) (hi : i < m) (hl : xs.length = m * n) : (Sf.row xs n i).length = n := by
  unfold Sf.row
  rw [List.length_take, List.length_drop, hl]
  have h := Nat.mul_le_mul_right n (Nat.succ_le_of_lt hi)
  rw [Nat.succ_mul] at h
  omega
theorem Sf.row_at (xs : List Int) (n i j : Nat) (hj : j < n) : (Sf.row xs n i)[j]? = xs[i * n + j]? := by
  unfold Sf.row
  rw [List.getElem?_take, if_pos hj, List.getElem?_drop]
/-- The place of the greatest of the first n, the first. -/
def Sf.best (f : Nat → Int) : Nat → Nat
  | 0 => 0
  | k + 1 => if f (Sf.best f k) < f k then k else Sf.best f k
theorem Sf.best_is (f : Nat → Int) (n : Nat) : (∀ j, j < n → f j ≤ f (Sf.best f n)) ∧ (∀ j, j < Sf.best f n → f j < f (Sf.best f n)) ∧ (Sf.best f n < n ∨ (n = 0 ∧ Sf.best f n = 0)) := by
  induction n with
  | zero => exact ⟨fun j hj => by omega, fun j hj => absurd hj (by show ¬ j < 0; omega), .inr ⟨rfl, rfl⟩⟩
  | succ n ih =>
    obtain ⟨h1, h2, h3⟩ := ih
    show (∀ j, j < n + 1 → f j ≤ f (if f (Sf.best f n) < f n then n else Sf.best f n)) ∧ (∀ j, j < (if f (Sf.best f n) < f n then n else Sf.best f n) → f j < f (if f (Sf.best f n) < f n then n else Sf.best f n)) ∧ ((if f (Sf.best f n) < f n then n else Sf.best f n) < n + 1 ∨ _)
    split
    · rename_i h
      refine ⟨fun j hj => ?_, fun j hj => ?_, .inl (by omega)⟩
      · rcases Nat.lt_or_ge j n with g | g
        · have := h1 j g; omega
        · obtain rfl : j = n := by omega
          exact Int.le_refl _
      · have := h1 j hj; omega
    · rename_i h
      refine ⟨fun j hj => ?_, h2, ?_⟩
      · rcases Nat.lt_or_ge j n with g | g
        · exact h1 j g
        · obtain rfl : j = n := by omega
          omega
      · rcases h3 with g | ⟨g1, g2⟩
        · exact .inl (by omega)
        · exact .inl (by omega)
theorem Sf.best_lt (f : Nat → Int) (n : Nat) (hn : 1 ≤ n) : Sf.best f n < n := by
  rcases (Sf.best_is f n).2.2 with h | ⟨h, -⟩
  · exact h
  · omega
theorem Sf.best_eq (f : Nat → Int) (n j : Nat) (hj : j < n) (h1 : ∀ i, i < n → f i ≤ f j) (h2 : ∀ i, i < j → f i ≠ f j) : Sf.best f n = j := by
  obtain ⟨b1, b2, -⟩ := Sf.best_is f n
  have hb := Sf.best_lt f n (by omega)
  have e1 := b1 j hj
  have e2 := h1 _ hb
  rcases Nat.lt_trichotomy (Sf.best f n) j with h | h | h
  · exact absurd (by omega) (h2 _ h)
  · exact h
  · have := b2 j h
    omega
theorem Pl.top_upper (f : Nat → Int) (n k : Nat) (h : k < n) : f k ≤ Pl.top f n := by
  induction n with
  | zero => omega
  | succ n ih =>
    show f k ≤ max (Pl.top f n) (f n)
    by_cases e : k = n
    · subst e; omega
    · have := ih (by omega); omega
theorem Sf.top_best (f : Nat → Int) (n : Nat) (hn : 1 ≤ n) : Pl.top f n = f (Sf.best f n) := by
  obtain ⟨b1, -, -⟩ := Sf.best_is f n
  have h1 := Pl.top_upper f n _ (Sf.best_lt f n hn)
  have h2 : Pl.top f n ≤ f (Sf.best f n) := by
    have : ∀ m, m ≤ n → Pl.top f m ≤ f (Sf.best f n) := fun m => by
      induction m with
      | zero => exact fun _ => b1 0 (by omega)
      | succ m ih =>
        intro hm
        have e1 := ih (by omega)
        have e2 := b1 m (by omega)
        show max (Pl.top f m) (f m) ≤ _
        omega
    exact this n (Nat.le_refl n)
  omega
set_option maxRecDepth 100000 in
set_option maxHeartbeats 4000000 in
theorem smax_c (zs : List Int) (A : Option Addr) (cap : Nat) (w : World) (hr : Ri w A zs) (h1 : 1 ≤ zs.length) (hl : zs.length ≤ 1000000) :
    Calls Tryd.prog 150 #[.slice A zs.length cap] w fun e w' => e = .returned (.int .i64 (Pl.top (fun j => zs.getD j 0) zs.length)) ∧ w' = w := by
  obtain ⟨f, hf⟩ : ∃ f : Nat → Int, Hid ((fun j => zs.getD j 0) = f) := ⟨_, hide rfl⟩
  have HR := hide hr
  obtain ⟨n, hn⟩ : ∃ n, Hid (zs.length = n) := ⟨_, hide rfl⟩
  rw [hn.out] at h1 hl ⊢
  rw [hf.out]
  have HV : Hid (∀ j x, zs[j]? = some x → f j = x) := hide (fun j x hx => by rw [← hf.out]; show zs.getD j 0 = x; rw [List.getD_eq_getElem?_getD, hx]; rfl)
  obtain ⟨ad, x, hAD, ex, cx⟩ := ri_at hr 0 (by rw [hn.out]; omega)
  subst hAD
  have hx0 : Hid (f 0 = x) := hide (HV.out 0 x ex.out)
  have hn1 : ¬ (n : Int) < 1 := by omega
  have hn0 : (0 : Int) < n := by omega
  rw [Addr.add_zero'] at cx
  have hln : (n : Int) ≤ 1000000 := by omega
  clear hr ex
  go_enter Tryd.func150, Tryd.ntmps150
  go_wp2_with fail
  clear cx
  go_loopg [3, 4] (n - 1) (fun q m k wr => ∃ (j : Nat) (mv : Int), q + j = n ∧ 1 ≤ j ∧ k = .int .i64 j ∧ m = .int .i64 mv ∧ Hid (Pl.top f j = mv) ∧ wr = w)
  case atStart => exact ⟨1, x, by omega, by omega, rfl, rfl, hide (by show max (f 0) (f 0) = x; rw [hx0.out]; omega), rfl⟩
  case round =>
    obtain ⟨j, mv, hj, hj1, rfl, rfl, HM, hwr⟩ := hrel
    subst hwr
    by_cases hlt : j < n
    · have hjn : (j : Int) < n := by omega
      have hj0 : (0 : Int) ≤ (j : Int) := by omega
      obtain ⟨ad', y, hAD, ey, cy⟩ := ri_at HR.out j (by rw [hn.out]; exact hlt)
      obtain rfl : ad = ad' := Option.some.inj hAD
      obtain ⟨m2, hm2⟩ : ∃ x_, Hid (max mv y = x_) := ⟨_, hide rfl⟩
      have m1 : (if mv < y then y else mv) = m2 := by have := hm2.out; split <;> omega
      have m2' : (if y < mv then mv else y) = m2 := by have := hm2.out; split <;> omega
      have HM2 : Hid (Pl.top f (j + 1) = m2) := hide (by
        show max (Pl.top f j) (f j) = m2
        rw [HM.out, HV.out j y ey.out, hm2.out])
      have hj2 : ((j : Nat) : Int) + 1 ≤ 1000001 := by omega
      clear hAD ey
      go_wp2_with fail
      clear m1 m2' cy
      go_roundg (n - (j + 1))
      case measure => omega
      case rel => exact ⟨j + 1, m2, by omega, by omega, by go_num, rfl, HM2, rfl⟩
    · obtain rfl : j = n := by omega
      have hnn : ¬ (j : Int) < j := by omega
      go_wp2_with fail
      go_ret
      exact ⟨by rw [HM.out]; rfl, rfl⟩
set_option maxRecDepth 100000 in
set_option maxHeartbeats 4000000 in
theorem sindex_c (zs : List Int) (A : Option Addr) (cap j : Nat) (v : Int) (w : World) (hr : Ri w A zs) (hl : zs.length ≤ 1000000) (hj : zs[j]? = some v) (hn : ∀ i, i < j → zs[i]? ≠ some v) :
    Calls Tryd.prog 152 #[.slice A zs.length cap, .int .i64 v] w fun e w' => e = .returned (.int .i64 (j : Int)) ∧ w' = w := by
  have HR := hide hr
  have HJ := hide hj
  have HN := hide hn
  have hjl := (List.getElem?_eq_some_iff.1 hj).1
  obtain ⟨n, hnn⟩ : ∃ n, Hid (zs.length = n) := ⟨_, hide rfl⟩
  rw [hnn.out] at hl hjl ⊢
  have hln : (n : Int) ≤ 1000000 := by omega
  clear hr hj hn
  go_enter Tryd.func152, Tryd.ntmps152
  go_wp2_with fail
  go_loopg [8] n (fun q k wr => ∃ i : Nat, q + i = n ∧ i ≤ j ∧ k = .int .i64 i ∧ wr = w)
  case atStart => exact ⟨0, by omega, by omega, rfl, rfl⟩
  case round =>
    obtain ⟨i, hi, hij, rfl, hwr⟩ := hrel
    subst hwr
    have him : (i : Int) < n := by omega
    have hi0 : (0 : Int) ≤ (i : Int) := by omega
    obtain ⟨ad, y, hAD, ey, cy⟩ := ri_at HR.out i (by rw [hnn.out]; omega)
    subst hAD
    by_cases hlt : i < j
    · have hne : (v == y) = false := by
        have h := HN.out i hlt
        rw [ey.out] at h
        simp
        exact fun e => h (by rw [e])
      have hi2 : ((i : Nat) : Int) + 1 ≤ 1000001 := by omega
      clear ey
      go_wp2_with fail
      clear cy
      go_roundg (n - (i + 1))
      case measure => omega
      case rel => exact ⟨i + 1, by omega, by omega, by go_num, rfl⟩
    · obtain rfl : i = j := by omega
      have hy : y = v := Option.some.inj (ey.out.symm.trans HJ.out)
      subst hy
      have heq : (y == y) = true := by simp
      clear ey
      go_wp2_with fail
      go_ret
      exact ⟨rfl, rfl⟩
/-- A table's number; none below nothing. -/
def Sf.wt (ts : List Int) (by_ : Nat) : Int := max 0 (ts.getD by_ 0)
set_option maxRecDepth 100000 in
theorem weight_c (t : Ten) (k : Nat) (w : World) (ht : t.In w) (hk : k < t.ds.length) :
    Calls Tryd.prog 151 #[.agg (tcells t.P t.zs.length t.cap t.u t.D t.ds.length t.dcap), .int .i64 k] w fun e w' => e = .returned (.int .i64 (Sf.wt t.ds k)) ∧ Below w.heap.size w w' := by
  have HB : Hid (Below w.heap.size w (w.alloc (.cells #[.slice t.P t.zs.length t.cap, .bool t.u, .slice t.D t.ds.length t.dcap] 26))) := hide ((Below.refl _ _).alloc (Nat.le_refl _) _)
  obtain ⟨ad, x, hAD, ex, cx⟩ := ri_at (ht.dat.below HB.out) k hk
  have hl := ht.ld
  obtain ⟨n, hn⟩ : ∃ n, Hid (t.ds.length = n) := ⟨_, hide rfl⟩
  have HV : Hid (Sf.wt t.ds k = max 0 x) := hide (by unfold Sf.wt; rw [List.getD_eq_getElem?_getD, ex.out]; rfl)
  rw [HV.out]
  rw [hn.out, hAD] at HB cx
  rw [hn.out] at hk hl ⊢
  rw [hAD]
  obtain ⟨m, hm⟩ : ∃ m, Hid (max 0 x = m) := ⟨_, hide rfl⟩
  rw [hm.out]
  have m1 : (if (0 : Int) < x then x else 0) = m := by have := hm.out; split <;> omega
  have m2 : (if x < (0 : Int) then 0 else x) = m := by have := hm.out; split <;> omega
  have hk0 : (0 : Int) ≤ (k : Int) := by omega
  have hk1 : (k : Int) < n := by omega
  clear ht ex HV hAD
  go_enter Tryd.func151, Tryd.ntmps151
  go_wp2_with fail
  go_ret
  exact ⟨rfl, HB.out⟩
/-- A tensor as m rows of n numbers. -/
structure Sf.Rows (a : Ten) (k m n : Nat) : Prop where
  zl : a.zs.length = k
  k1 : 1 ≤ k
  k4 : k ≤ 4
  last : a.zs[k - 1]? = some (n : Int)
  n1 : 1 ≤ n
  n2 : n ≤ 256
  len : a.ds.length = m * n
  big : a.ds.length ≤ 16384
  dc : a.ds.length ≤ a.dcap
theorem row_slice_run (A A2 : Option Addr) (len cap lo hi : Nat) (hA : Hid ((if cap = lo then A else A.map (·.add (lo * 1))) = A2)) (h1 : lo ≤ hi) (h2 : hi ≤ cap) (W : World) :
    (Instr.slice 22 (.slice A len cap) (some (.int .i64 (lo : Int))) (some (.int .i64 (hi : Int))) none).run Tryd.prog W = .ok (.slice A2 (hi - lo) (cap - lo)) W := by
  rw [← hA.out]
  have hu : Tryd.prog.underlying 22 = some (.slice (Tryd.prog.elem 22)) := by kernel_rfl
  have hz : ∀ W : World, (sizeOf (Tryd.prog.elem 22)).run Tryd.prog W = .ok 1 W := fun _ => by kernel_rfl
  rw [run_slice_lh W _ _ _ _ hu _ _ _ _ (by omega) (by omega) (by omega), hz]
  simp only [Result.andThen, sliced, Int.toNat_natCast]
/-- Where a row lies. -/
theorem srow_ri (a : Ten) (k m n i : Nat) (hR : Sf.Rows a k m n) (hi : i < m) (w : World) (ha : a.In w) : Ri w (a.D.map (·.add (i * n))) (Sf.row a.ds n i) := by
  have hlen := hR.len
  have hn1 := hR.n1
  have hle : (i + 1) * n ≤ m * n := Nat.mul_le_mul_right n (Nat.succ_le_of_lt hi)
  have hpos : 0 < a.ds.length := by rw [hlen]; exact Nat.mul_pos (by omega) (by omega)
  obtain ⟨ad, hAD, hadl, hcells⟩ := ha.dat.2 (by intro h; rw [h] at hpos; simp at hpos)
  rw [hAD]
  refine ⟨fun q hq => ha.dat.1 q ?_, fun _ => ⟨ad.add (i * n), rfl, by rw [elm_block]; exact hadl, fun j x hx => ?_⟩⟩
  · unfold Sf.row at hq
    exact List.mem_of_mem_drop (List.mem_of_mem_take hq)
  · have hjn : j < n := by
      have h := (List.getElem?_eq_some_iff.1 hx).1
      rw [Sf.row_length a.ds n i m hi hlen] at h
      exact h
    rw [Sf.row_at _ _ _ _ hjn] at hx
    have h := hcells (i * n + j) x hx
    rw [Addr.add_add] 
    exact h
set_option maxRecDepth 100000 in
set_option maxHeartbeats 4000000 in
theorem srow_d (a : Ten) (k m n i : Nat) (hR : Sf.Rows a k m n) (hi : i < m) (w : World) (ha : a.In w) :
    Calls Tryd.prog 149 #[.agg (tcells a.P a.zs.length a.cap a.u a.D a.ds.length a.dcap), .int .i64 i] w fun e w' => (∃ c, e = .returned (.slice (a.D.map (·.add (i * n))) n c)) ∧ Below w.heap.size w w' := by
  have HB : Hid (Below w.heap.size w (w.alloc (.cells #[.slice a.P a.zs.length a.cap, .bool a.u, .slice a.D a.ds.length a.dcap] 26))) := hide ((Below.refl _ _).alloc (Nat.le_refl _) _)
  obtain ⟨pa, z, hPA, ez, cz⟩ := ri_at (ha.shp.below HB.out) (k - 1) (by rw [hR.zl]; have := hR.k1; omega)
  have hz : z = n := by have h := ez.out; rw [hR.last] at h; exact (Option.some.inj h).symm
  subst hz
  have hle : (i + 1) * n ≤ m * n := Nat.mul_le_mul_right n (Nat.succ_le_of_lt hi)
  have hlen := hR.len
  have hbig := hR.big
  have hdc := hR.dc
  have hn1 := hR.n1
  have hn2 := hR.n2
  have hpos : 0 < a.ds.length := by rw [hlen]; exact Nat.mul_pos (by omega) (by omega)
  obtain ⟨ad, hAD, hadl, hcells⟩ := ha.dat.2 (by intro h; rw [h] at hpos; simp at hpos)
  obtain ⟨lo, hlo⟩ : ∃ x, Hid (i * n = x) := ⟨_, hide rfl⟩
  obtain ⟨hi2, hhi⟩ : ∃ x, Hid ((i + 1) * n = x) := ⟨_, hide rfl⟩
  have hlh : lo + n = hi2 := by rw [← hlo.out, ← hhi.out, Nat.add_mul, Nat.one_mul]
  rw [hhi.out] at hle
  have hk1 : ((k : Nat) : Int) - 1 = ((k - 1 : Nat) : Int) := by have := hR.k1; omega
  have HDD : Hid (a.D.map (·.add (i * n)) = some (ad.add lo)) := hide (by rw [hAD, hlo.out]; rfl)
  rw [HDD.out]
  obtain ⟨len, hl⟩ : ∃ x, Hid (a.ds.length = x) := ⟨_, hide rfl⟩
  rw [hl.out] at hbig hdc hlen HB cz ⊢
  have hzl := hR.zl
  rw [hzl] at HB cz ⊢
  have hk4 := hR.k4
  have hk1' := hR.k1
  have HS := hide (fun W => row_slice_run (some ad) (some (ad.add lo)) len a.dcap lo hi2 (hide (by rw [if_neg (by omega), Nat.mul_one]; rfl)) (by omega) (by omega) W)
  have Hn : Hid (hi2 - lo = n) := hide (by omega)
  rw [Hn.out] at HS
  have hi16 : (i : Int) ≤ 16384 := by
    have h : i * 1 ≤ i * n := Nat.mul_le_mul_left i hn1
    rw [hlo.out] at h
    omega
  have hlob : lo ≤ 16384 ∧ hi2 ≤ 16384 := by omega
  have HLEN := hide hlen
  have HDC := hide hdc
  clear hlen hle hlh hbig hdc hpos
  have Hw1 : Hid (wrap64 ((i : Int) * (n : Int)) = (lo : Int)) := hide (by rw [← Int.natCast_mul, hlo.out]; unfold wrap64; omega)
  have e1 : ((i : Int) + 1) * (n : Int) = (hi2 : Int) := by rw [← hhi.out, Int.natCast_mul]; rfl
  have Hw2 : Hid (wrap64 (((i : Int) + 1) * (n : Int)) = (hi2 : Int)) := hide (by rw [e1]; clear e1; unfold wrap64; omega)
  have Hkk : Hid (wrap64 ((k - 1 : Nat) : Int) = ((k - 1 : Nat) : Int)) := hide (by clear hk1; unfold wrap64; omega)
  clear e1 hlob
  rw [hPA] at HB cz ⊢
  rw [hAD] at HB cz ⊢
  clear ha hPA ez hAD hadl hcells hl hR HDD
  obtain ⟨k', hk'⟩ : ∃ x, Hid (k - 1 = x) := ⟨_, hide rfl⟩
  rw [hk'.out] at hk1 Hkk cz
  have hka : (0 : Int) ≤ (k' : Int) := by omega
  have hkb : (k' : Int) < (k : Int) := by omega
  have cz1 : (w.alloc (.cells #[.slice (some pa) k a.cap, .bool a.u, .slice (some ad) len a.dcap] 26)).cell? (pa.add k') = some (.int .i64 n) := cz
  clear cz hzl hk4 hk1'
  have hs := HS.out
  have hkk := Hkk.out
  have hw1 := Hw1.out
  have hw2 := Hw2.out
  go_enter Tryd.func149, Tryd.ntmps149
  go_wp2_with fail
  go_ret
  exact ⟨⟨_, rfl⟩, HB.out⟩
theorem srow_c (a : Ten) (k m n i : Nat) (hR : Sf.Rows a k m n) (hi : i < m) (w : World) (ha : a.In w) :
    Calls Tryd.prog 149 #[.agg (tcells a.P a.zs.length a.cap a.u a.D a.ds.length a.dcap), .int .i64 i] w fun e w' => (∃ A c, e = .returned (.slice A n c) ∧ Ri w A (Sf.row a.ds n i)) ∧ Below w.heap.size w w' :=
  (srow_d a k m n i hR hi w ha).mono fun _ _ ⟨⟨c, h⟩, hb⟩ => ⟨⟨_, c, h, srow_ri a k m n i hR hi w ha⟩, hb⟩
end Go.Proofs.YtcgjnjchkachdaaDoor
