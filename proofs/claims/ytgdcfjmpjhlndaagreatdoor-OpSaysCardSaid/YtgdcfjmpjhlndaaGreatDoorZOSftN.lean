/-
  Rows of tensors, the greatest of a row, its place; slices.Max, slices.Index, cells.weight, cells.row, walked. Numbers by their places; cells.argmax, cells.sum, walked. cells.sum, cells.gather, cells.softmax, walked. cells.gather, walked. cells.softmax, walked. What the operations of package soft look like; soft.counts, soft.look, walked. soft.look of Softmax and of Gather, walked. soft.Result of an operation of package soft, walked. cells.fill, cells.Of, cells.All of the operations of package soft; what is lawful of them. The operations of package soft that are lawful; cells.Of, cells.All, cells.One of them. soft.lookOf, soft.do, Softmax, Gather, ArgMax, Sum, Cell, walked. soft.Softmax, Gather, ArgMax, Sum, Cell, walked. By an AI agent. No person has read it.
-/
import Derived.Test.YtgdcfjmpjhlndaaGreatDoorZOPolE
namespace Go.Proofs.YtgdcfjmpjhlndaaGreatDoor
open Go.RowKit
def Sf.row (xs : List Int) (n i : Nat) : List Int := (xs.drop (i * n)).take n
theorem Sf.row_length (xs : List Int) (n i m : Nat) (hi : i < m) (hl : xs.length = m * n) : (Sf.row xs n i).length = n := by
 unfold Sf.row
 rw [List.length_take, List.length_drop, hl]
 have h := Nat.mul_le_mul_right n (Nat.succ_le_of_lt hi)
 rw [Nat.succ_mul] at h
 omega
theorem Sf.row_at (xs : List Int) (n i j : Nat) (hj : j < n) : (Sf.row xs n i)[j]? = xs[i * n + j]? := by
 unfold Sf.row
 rw [List.getElem?_take, if_pos hj, List.getElem?_drop]
def Sf.best (f : Nat → Int) : Nat → Nat
 | 0 => 0
 | k + 1 => if f (Sf.best f k) < f k then k else Sf.best f k
theorem Sf.best_is (f : Nat → Int) (n : Nat) : (∀ j, j < n → f j ≤ f (Sf.best f n)) ∧ (∀ j, j < Sf.best f n → f j < f (Sf.best f n)) ∧ (Sf.best f n < n ∨ (n = 0 ∧ Sf.best f n = 0)) := by
 induction n with
 | zero => exact ⟨fun j hj => by omega, fun j hj => absurd hj (by show ¬ j < 0; omega), .inr ⟨rfl, rfl⟩⟩
 | succ n ih =>
  obtain ⟨h1, h2, h3⟩ := ih
  show (∀ j, j < n + 1 → f j ≤ f (if f (Sf.best f n) < f n then n else Sf.best f n)) ∧ (∀ j, j < (if f (Sf.best f n) < f n then n else Sf.best f n) → f j < f (if f (Sf.best f n) < f n then n else Sf.best f n)) ∧ ((if f (Sf.best f n) < f n then n else Sf.best f n) < n + 1 ∨ _)
  split
  ·rename_i h
   refine ⟨fun j hj => ?_, fun j hj => ?_, .inl (by omega)⟩
   ·rcases Nat.lt_or_ge j n with g | g
    ·have := h1 j g; omega
    ·obtain rfl : j = n := by omega
     exact Int.le_refl _
   ·have := h1 j hj; omega
  ·rename_i h
   refine ⟨fun j hj => ?_, h2, ?_⟩
   ·rcases Nat.lt_or_ge j n with g | g
    ·exact h1 j g
    ·obtain rfl : j = n := by omega
     omega
   ·rcases h3 with g | ⟨g1, g2⟩
    ·exact .inl (by omega)
    ·exact .inl (by omega)
theorem Sf.best_lt (f : Nat → Int) (n : Nat) (hn : 1 ≤ n) : Sf.best f n < n := by
 rcases (Sf.best_is f n).2.2 with h | ⟨h, -⟩
 ·exact h
 ·omega
theorem Pl.top_upper (f : Nat → Int) (n k : Nat) (h : k < n) : f k ≤ Pl.top f n := by
 induction n with
 | zero => omega
 | succ n ih =>
  show f k ≤ max (Pl.top f n) (f n)
  by_cases e : k = n
  ·subst e; omega
  ·have := ih (by omega); omega
theorem Sf.top_best (f : Nat → Int) (n : Nat) (hn : 1 ≤ n) : Pl.top f n = f (Sf.best f n) := by
 obtain ⟨b1, -, -⟩ := Sf.best_is f n
 have h1 := Pl.top_upper f n _ (Sf.best_lt f n hn)
 have h2 : Pl.top f n ≤ f (Sf.best f n) := by
  have : ∀ m, m ≤ n → Pl.top f m ≤ f (Sf.best f n) := fun m => by
   induction m with
   | zero => exact fun _ => b1 0 (by omega)
   | succ m ih =>
    intro hm
    have e1 := ih (by omega)
    have e2 := b1 m (by omega)
    show max (Pl.top f m) (f m) ≤ _
    omega
  exact this n (Nat.le_refl n)
 omega
set_option maxRecDepth 100000 in
set_option maxHeartbeats 4000000 in
theorem smax_c (zs : List Int) (A : Option Addr) (cap : Nat) (w : World) (hr : Ri w A zs) (h1 : 1 ≤ zs.length) (hl : zs.length ≤ 1000000) :
  Calls Tryz.prog 125 #[.slice A zs.length cap] w fun e w' => e = .returned (.int .i64 (Pl.top (fun j => zs.getD j 0) zs.length)) ∧ w' = w := by
 obtain ⟨f, hf⟩ : ∃ f : Nat → Int, Hid ((fun j => zs.getD j 0) = f) := ⟨_, hide rfl⟩
 have HR := hide hr
 obtain ⟨n, hn⟩ : ∃ n, Hid (zs.length = n) := ⟨_, hide rfl⟩
 rw [hn.out] at h1 hl ⊢
 rw [hf.out]
 have HV : Hid (∀ j x, zs[j]? = some x → f j = x) := hide (fun j x hx => by rw [← hf.out]; show zs.getD j 0 = x; rw [List.getD_eq_getElem?_getD, hx]; rfl)
 obtain ⟨ad, x, hAD, ex, cx⟩ := ri_at hr 0 (by rw [hn.out]; omega)
 subst hAD
 have hx0 : Hid (f 0 = x) := hide (HV.out 0 x ex.out)
 have hn1 : ¬ (n : Int) < 1 := by omega
 have hn0 : (0 : Int) < n := by omega
 rw [Addr.add_zero'] at cx
 have hln : (n : Int) ≤ 1000000 := by omega
 clear hr ex
 go_enter Tryz.func125, Tryz.ntmps125
 go_wp2_with fail
 clear cx
 go_loopg [3, 4] (n - 1) (fun q m k wr => ∃ (j : Nat) (mv : Int), q + j = n ∧ 1 ≤ j ∧ k = .int .i64 j ∧ m = .int .i64 mv ∧ Hid (Pl.top f j = mv) ∧ wr = w)
 case atStart => exact ⟨1, x, by omega, by omega, rfl, rfl, hide (by show max (f 0) (f 0) = x; rw [hx0.out]; omega), rfl⟩
 case round =>
  obtain ⟨j, mv, hj, hj1, rfl, rfl, HM, hwr⟩ := hrel
  subst hwr
  by_cases hlt : j < n
  ·have hjn : (j : Int) < n := by omega
   have hj0 : (0 : Int) ≤ (j : Int) := by omega
   obtain ⟨ad', y, hAD, ey, cy⟩ := ri_at HR.out j (by rw [hn.out]; exact hlt)
   obtain rfl : ad = ad' := Option.some.inj hAD
   obtain ⟨m2, hm2⟩ : ∃ x_, Hid (max mv y = x_) := ⟨_, hide rfl⟩
   have m1 : (if mv < y then y else mv) = m2 := by have := hm2.out; split <;> omega
   have m2' : (if y < mv then mv else y) = m2 := by have := hm2.out; split <;> omega
   have HM2 : Hid (Pl.top f (j + 1) = m2) := hide (by
    show max (Pl.top f j) (f j) = m2
    rw [HM.out, HV.out j y ey.out, hm2.out])
   have hj2 : ((j : Nat) : Int) + 1 ≤ 1000001 := by omega
   clear hAD ey
   go_wp2_with fail
   clear m1 m2' cy
   go_roundg (n - (j + 1))
   case measure => omega
   case rel => exact ⟨j + 1, m2, by omega, by omega, by go_num, rfl, HM2, rfl⟩
  ·obtain rfl : j = n := by omega
   have hnn : ¬ (j : Int) < j := by omega
   go_wp2_with fail
   go_ret
   exact ⟨by rw [HM.out]; rfl, rfl⟩
set_option maxRecDepth 100000 in
set_option maxHeartbeats 4000000 in
theorem sindex_c (zs : List Int) (A : Option Addr) (cap j : Nat) (v : Int) (w : World) (hr : Ri w A zs) (hl : zs.length ≤ 1000000) (hj : zs[j]? = some v) (hn : ∀ i, i < j → zs[i]? ≠ some v) :
  Calls Tryz.prog 127 #[.slice A zs.length cap, .int .i64 v] w fun e w' => e = .returned (.int .i64 (j : Int)) ∧ w' = w := by
 have HR := hide hr
 have HJ := hide hj
 have HN := hide hn
 have hjl := (List.getElem?_eq_some_iff.1 hj).1
 obtain ⟨n, hnn⟩ : ∃ n, Hid (zs.length = n) := ⟨_, hide rfl⟩
 rw [hnn.out] at hl hjl ⊢
 have hln : (n : Int) ≤ 1000000 := by omega
 clear hr hj hn
 go_enter Tryz.func127, Tryz.ntmps127
 go_wp2_with fail
 go_loopg [8] n (fun q k wr => ∃ i : Nat, q + i = n ∧ i ≤ j ∧ k = .int .i64 i ∧ wr = w)
 case atStart => exact ⟨0, by omega, by omega, rfl, rfl⟩
 case round =>
  obtain ⟨i, hi, hij, rfl, hwr⟩ := hrel
  subst hwr
  have him : (i : Int) < n := by omega
  have hi0 : (0 : Int) ≤ (i : Int) := by omega
  obtain ⟨ad, y, hAD, ey, cy⟩ := ri_at HR.out i (by rw [hnn.out]; omega)
  subst hAD
  by_cases hlt : i < j
  ·have hne : (v == y) = false := by
    have h := HN.out i hlt
    rw [ey.out] at h
    simp
    exact fun e => h (by rw [e])
   have hi2 : ((i : Nat) : Int) + 1 ≤ 1000001 := by omega
   clear ey
   go_wp2_with fail
   clear cy
   go_roundg (n - (i + 1))
   case measure => omega
   case rel => exact ⟨i + 1, by omega, by omega, by go_num, rfl⟩
  ·obtain rfl : i = j := by omega
   have hy : y = v := Option.some.inj (ey.out.symm.trans HJ.out)
   subst hy
   have heq : (y == y) = true := by simp
   clear ey
   go_wp2_with fail
   go_ret
   exact ⟨rfl, rfl⟩
def Sf.wt (ts : List Int) (by_ : Nat) : Int := max 0 (ts.getD by_ 0)
set_option maxRecDepth 100000 in
theorem weight_c (t : Ten) (k : Nat) (w : World) (ht : t.In w) (hk : k < t.ds.length) :
  Calls Tryz.prog 126 #[.agg (tcells t.P t.zs.length t.cap t.u t.D t.ds.length t.dcap), .int .i64 k] w fun e w' => e = .returned (.int .i64 (Sf.wt t.ds k)) ∧ Below w.heap.size w w' := by
 have HB : Hid (Below w.heap.size w (w.alloc (.cells #[.slice t.P t.zs.length t.cap, .bool t.u, .slice t.D t.ds.length t.dcap] 26))) := hide ((Below.refl _ _).alloc (Nat.le_refl _) _)
 obtain ⟨ad, x, hAD, ex, cx⟩ := ri_at (ht.dat.below HB.out) k hk
 have hl := ht.ld
 obtain ⟨n, hn⟩ : ∃ n, Hid (t.ds.length = n) := ⟨_, hide rfl⟩
 have HV : Hid (Sf.wt t.ds k = max 0 x) := hide (by unfold Sf.wt; rw [List.getD_eq_getElem?_getD, ex.out]; rfl)
 rw [HV.out]
 rw [hn.out, hAD] at HB cx
 rw [hn.out] at hk hl ⊢
 rw [hAD]
 obtain ⟨m, hm⟩ : ∃ m, Hid (max 0 x = m) := ⟨_, hide rfl⟩
 rw [hm.out]
 have m1 : (if (0 : Int) < x then x else 0) = m := by have := hm.out; split <;> omega
 have m2 : (if x < (0 : Int) then 0 else x) = m := by have := hm.out; split <;> omega
 have hk0 : (0 : Int) ≤ (k : Int) := by omega
 have hk1 : (k : Int) < n := by omega
 clear ht ex HV hAD
 go_enter Tryz.func126, Tryz.ntmps126
 go_wp2_with fail
 go_ret
 exact ⟨rfl, HB.out⟩
structure Sf.Rows (a : Ten) (k m n : Nat) : Prop where
 zl : a.zs.length = k
 k1 : 1 ≤ k
 k4 : k ≤ 4
 last : a.zs[k - 1]? = some (n : Int)
 n1 : 1 ≤ n
 n2 : n ≤ 256
 len : a.ds.length = m * n
 big : a.ds.length ≤ 16384
 dc : a.ds.length ≤ a.dcap
theorem row_slice_run (A A2 : Option Addr) (len cap lo hi : Nat) (hA : Hid ((if cap = lo then A else A.map (·.add (lo * 1))) = A2)) (h1 : lo ≤ hi) (h2 : hi ≤ cap) (W : World) :
  (Instr.slice 22 (.slice A len cap) (some (.int .i64 (lo : Int))) (some (.int .i64 (hi : Int))) none).run Tryz.prog W = .ok (.slice A2 (hi - lo) (cap - lo)) W := by
 rw [← hA.out]
 have hu : Tryz.prog.underlying 22 = some (.slice (Tryz.prog.elem 22)) := by kernel_rfl
 have hz : ∀ W : World, (sizeOf (Tryz.prog.elem 22)).run Tryz.prog W = .ok 1 W := fun _ => by kernel_rfl
 rw [run_slice_lh W _ _ _ _ hu _ _ _ _ (by omega) (by omega) (by omega), hz]
 simp only [Result.andThen, sliced, Int.toNat_natCast]
theorem srow_ri (a : Ten) (k m n i : Nat) (hR : Sf.Rows a k m n) (hi : i < m) (w : World) (ha : a.In w) : Ri w (a.D.map (·.add (i * n))) (Sf.row a.ds n i) := by
 have hlen := hR.len
 have hn1 := hR.n1
 have hle : (i + 1) * n ≤ m * n := Nat.mul_le_mul_right n (Nat.succ_le_of_lt hi)
 have hpos : 0 < a.ds.length := by rw [hlen]; exact Nat.mul_pos (by omega) (by omega)
 obtain ⟨ad, hAD, hadl, hcells⟩ := ha.dat.2 (by intro h; rw [h] at hpos; simp at hpos)
 rw [hAD]
 refine ⟨fun q hq => ha.dat.1 q ?_, fun _ => ⟨ad.add (i * n), rfl, by rw [elm_block]; exact hadl, fun j x hx => ?_⟩⟩
 ·unfold Sf.row at hq
  exact List.mem_of_mem_drop (List.mem_of_mem_take hq)
 ·have hjn : j < n := by
   have h := (List.getElem?_eq_some_iff.1 hx).1
   rw [Sf.row_length a.ds n i m hi hlen] at h
   exact h
  rw [Sf.row_at _ _ _ _ hjn] at hx
  have h := hcells (i * n + j) x hx
  rw [Addr.add_add] 
  exact h
set_option maxRecDepth 100000 in
set_option maxHeartbeats 4000000 in
theorem srow_d (a : Ten) (k m n i : Nat) (hR : Sf.Rows a k m n) (hi : i < m) (w : World) (ha : a.In w) :
  Calls Tryz.prog 124 #[.agg (tcells a.P a.zs.length a.cap a.u a.D a.ds.length a.dcap), .int .i64 i] w fun e w' => (∃ c, e = .returned (.slice (a.D.map (·.add (i * n))) n c)) ∧ Below w.heap.size w w' := by
 have HB : Hid (Below w.heap.size w (w.alloc (.cells #[.slice a.P a.zs.length a.cap, .bool a.u, .slice a.D a.ds.length a.dcap] 26))) := hide ((Below.refl _ _).alloc (Nat.le_refl _) _)
 obtain ⟨pa, z, hPA, ez, cz⟩ := ri_at (ha.shp.below HB.out) (k - 1) (by rw [hR.zl]; have := hR.k1; omega)
 have hz : z = n := by have h := ez.out; rw [hR.last] at h; exact (Option.some.inj h).symm
 subst hz
 have hle : (i + 1) * n ≤ m * n := Nat.mul_le_mul_right n (Nat.succ_le_of_lt hi)
 have hlen := hR.len
 have hbig := hR.big
 have hdc := hR.dc
 have hn1 := hR.n1
 have hn2 := hR.n2
 have hpos : 0 < a.ds.length := by rw [hlen]; exact Nat.mul_pos (by omega) (by omega)
 obtain ⟨ad, hAD, hadl, hcells⟩ := ha.dat.2 (by intro h; rw [h] at hpos; simp at hpos)
 obtain ⟨lo, hlo⟩ : ∃ x, Hid (i * n = x) := ⟨_, hide rfl⟩
 obtain ⟨hi2, hhi⟩ : ∃ x, Hid ((i + 1) * n = x) := ⟨_, hide rfl⟩
 have hlh : lo + n = hi2 := by rw [← hlo.out, ← hhi.out, Nat.add_mul, Nat.one_mul]
 rw [hhi.out] at hle
 have hk1 : ((k : Nat) : Int) - 1 = ((k - 1 : Nat) : Int) := by have := hR.k1; omega
 have HDD : Hid (a.D.map (·.add (i * n)) = some (ad.add lo)) := hide (by rw [hAD, hlo.out]; rfl)
 rw [HDD.out]
 obtain ⟨len, hl⟩ : ∃ x, Hid (a.ds.length = x) := ⟨_, hide rfl⟩
 rw [hl.out] at hbig hdc hlen HB cz ⊢
 have hzl := hR.zl
 rw [hzl] at HB cz ⊢
 have hk4 := hR.k4
 have hk1' := hR.k1
 have HS := hide (fun W => row_slice_run (some ad) (some (ad.add lo)) len a.dcap lo hi2 (hide (by rw [if_neg (by omega), Nat.mul_one]; rfl)) (by omega) (by omega) W)
 have Hn : Hid (hi2 - lo = n) := hide (by omega)
 rw [Hn.out] at HS
 have hi16 : (i : Int) ≤ 16384 := by
  have h : i * 1 ≤ i * n := Nat.mul_le_mul_left i hn1
  rw [hlo.out] at h
  omega
 have hlob : lo ≤ 16384 ∧ hi2 ≤ 16384 := by omega
 have HLEN := hide hlen
 have HDC := hide hdc
 clear hlen hle hlh hbig hdc hpos
 have Hw1 : Hid (wrap64 ((i : Int) * (n : Int)) = (lo : Int)) := hide (by rw [← Int.natCast_mul, hlo.out]; unfold wrap64; omega)
 have e1 : ((i : Int) + 1) * (n : Int) = (hi2 : Int) := by rw [← hhi.out, Int.natCast_mul]; rfl
 have Hw2 : Hid (wrap64 (((i : Int) + 1) * (n : Int)) = (hi2 : Int)) := hide (by rw [e1]; clear e1; unfold wrap64; omega)
 have Hkk : Hid (wrap64 ((k - 1 : Nat) : Int) = ((k - 1 : Nat) : Int)) := hide (by clear hk1; unfold wrap64; omega)
 clear e1 hlob
 rw [hPA] at HB cz ⊢
 rw [hAD] at HB cz ⊢
 clear ha hPA ez hAD hadl hcells hl hR HDD
 obtain ⟨k', hk'⟩ : ∃ x, Hid (k - 1 = x) := ⟨_, hide rfl⟩
 rw [hk'.out] at hk1 Hkk cz
 have hka : (0 : Int) ≤ (k' : Int) := by omega
 have hkb : (k' : Int) < (k : Int) := by omega
 have cz1 : (w.alloc (.cells #[.slice (some pa) k a.cap, .bool a.u, .slice (some ad) len a.dcap] 26)).cell? (pa.add k') = some (.int .i64 n) := cz
 clear cz hzl hk4 hk1'
 have hs := HS.out
 have hkk := Hkk.out
 have hw1 := Hw1.out
 have hw2 := Hw2.out
 go_enter Tryz.func124, Tryz.ntmps124
 go_wp2_with fail
 go_ret
 exact ⟨⟨_, rfl⟩, HB.out⟩
theorem srow_c (a : Ten) (k m n i : Nat) (hR : Sf.Rows a k m n) (hi : i < m) (w : World) (ha : a.In w) :
  Calls Tryz.prog 124 #[.agg (tcells a.P a.zs.length a.cap a.u a.D a.ds.length a.dcap), .int .i64 i] w fun e w' => (∃ A c, e = .returned (.slice A n c) ∧ Ri w A (Sf.row a.ds n i)) ∧ Below w.heap.size w w' :=
 (srow_d a k m n i hR hi w ha).mono fun _ _ ⟨⟨c, h⟩, hb⟩ => ⟨⟨_, c, h, srow_ri a k m n i hR hi w ha⟩, hb⟩
def Sf.part (E : Nat → Int) (f m : Nat) : List Int := (List.range m).map fun i => E (f + i)
theorem Sf.part_length (E : Nat → Int) (f m : Nat) : (Sf.part E f m).length = m := by simp [Sf.part]
theorem Sf.part_at (E : Nat → Int) (f m i : Nat) (hi : i < m) : (Sf.part E f m)[i]? = some (E (f + i)) := by
 simp [Sf.part, hi]
theorem Sf.part_wf {E : Nat → Int} (f m : Nat) (h : ∀ i, i < m → -9223372036854775808 ≤ E (f + i) ∧ E (f + i) ≤ 9223372036854775807) : ∀ z ∈ Sf.part E f m, (Lit.int .i64 z).wf = true := by
 intro z hz
 unfold Sf.part at hz
 obtain ⟨i, hi, rfl⟩ := List.mem_map.1 hz
 exact wf_i64 _ (h i (List.mem_range.1 hi))
theorem Sf.row_get (xs : List Int) (n i j : Nat) (x : Int) (h : (Sf.row xs n i)[j]? = some x) : (Sf.row xs n i).getD j 0 = x := by
 rw [List.getD_eq_getElem?_getD, h, Option.getD_some]
def Sf.amax (xs : List Int) (n i : Nat) : Int := (Sf.best (fun j => (Sf.row xs n i).getD j 0) n : Nat)
def Sf.sum (xs : List Int) (n i : Nat) : Int := Tens.wide (Pl.add (fun j => (Sf.row xs n i).getD j 0) n)
theorem sindex_top (zs : List Int) (A : Option Addr) (cap n : Nat) (w : World) (hr : Ri w A zs) (hn : zs.length = n) (h1 : 1 ≤ n) (hl : n ≤ 1000000) :
  Calls Tryz.prog 127 #[.slice A n cap, .int .i64 (Pl.top (fun j => zs.getD j 0) n)] w fun e w' => e = .returned (.int .i64 ((Sf.best (fun j => zs.getD j 0) n : Nat) : Int)) ∧ w' = w := by
 obtain ⟨-, b2, -⟩ := Sf.best_is (fun j => zs.getD j 0) n
 have hb := Sf.best_lt (fun j => zs.getD j 0) n h1
 have ht := Sf.top_best (fun j => zs.getD j 0) n h1
 have hg : ∀ i, i < n → zs[i]? = some (zs.getD i 0) := fun i hi => by
  rw [List.getD_eq_getElem?_getD, List.getElem?_eq_getElem (by omega)]; rfl
 have h := sindex_c zs A cap (Sf.best (fun j => zs.getD j 0) n) (Pl.top (fun j => zs.getD j 0) n) w hr (by omega) (by rw [ht]; exact hg _ hb) (fun i hi => by
  rw [hg i (by omega), ht]
  intro h
  have h := Option.some.inj h
  have := b2 i hi
  have h' : (fun j => zs.getD j 0) i = (fun j => zs.getD j 0) (Sf.best (fun j => zs.getD j 0) n) := h
  omega)
 rw [hn] at h
 exact h
set_option maxRecDepth 100000 in
set_option maxHeartbeats 4000000 in
theorem sargmax_c (os : List Int) (a : Ten) (k m n ocap f g : Nat) (w0 w : World) (hR : Sf.Rows a k m n) (ha : a.In w0) (hB : Below w0.heap.size w0 w) (hg0 : w0.heap.size ≤ g) (hG : Has w g 3 (i64s os)) (hf : f + os.length ≤ m) (hm : m ≤ 1000000) :
  Calls Tryz.prog 111 #[.slice (some ⟨g, 0, none⟩) os.length ocap, .int .i64 f, .agg (tcells a.P a.zs.length a.cap a.u a.D a.ds.length a.dcap)] w fun e w' => e = .returned (.tuple #[]) ∧ Has w' g 3 (i64s (Sf.part (Sf.amax a.ds n) f os.length)) ∧ Below w0.heap.size w0 w' := by
 obtain ⟨r, hrr⟩ : ∃ r, Hid (Sf.part (Sf.amax a.ds n) f os.length = r) := ⟨_, hide rfl⟩
 have hrl : Hid (r.length = os.length) := hide (by rw [← hrr.out]; exact Sf.part_length _ _ _)
 have hri : Hid (∀ i, i < os.length → r[i]? = some (Sf.amax a.ds n (f + i))) := hide (fun i hi => by
  rw [← hrr.out]
  exact Sf.part_at _ _ _ _ hi)
 rw [hrr.out]
 clear hrr
 have HRO := hide (fun (W : World) (hW : Below w0.heap.size w0 W) (i : Nat) (hi : i < m) => srow_c a k m n i hR hi W (ha.below hW))
 have HLE : Hid (∀ i, i < m → (Sf.row a.ds n i).length = n) := hide (fun i hi => Sf.row_length a.ds n i m hi hR.len)
 have HN1 := hide (And.intro hR.n1 hR.n2)
 obtain ⟨q, hn⟩ : ∃ n, Hid (os.length = n) := ⟨_, hide rfl⟩
 have HF : Hid (f + q ≤ m) := hide (by rw [← hn.out]; exact hf)
 have HM := hide hm
 have hnbd : (q : Int) ≤ 1000000 := by have := HF.out; omega
 rw [hn.out]
 rw [hn.out] at hrl hri
 have HOL := hide hn.out
 obtain ⟨za, hza⟩ : ∃ n, Hid (a.zs.length = n) := ⟨_, hide rfl⟩
 obtain ⟨na, hna⟩ : ∃ n, Hid (a.ds.length = n) := ⟨_, hide rfl⟩
 unfold tcells at HRO ⊢
 rw [hza.out, hna.out] at HRO ⊢
 obtain ⟨W, hW⟩ : ∃ W, W = w.alloc (.cells #[.slice a.P za a.cap, .bool a.u, .slice a.D na a.dcap] 26) := ⟨_, rfl⟩
 have HX : Hid (Has W w.heap.size 26 [.slice a.P za a.cap, .bool a.u, .slice a.D na a.dcap]) := hide (by rw [hW]; exact Has.new w 26 _)
 have HG : Hid (Has W g 3 (i64s os)) := hide (by rw [hW]; exact hG.alloc _)
 have HBw : Below w.heap.size w W := by rw [hW]; exact (Below.refl w.heap.size w).alloc (Nat.le_refl _) _
 have HB := hide (hB.trans (HBw.mono hB.size))
 have hgl := hG.lt
 have hsz := hB.size
 have HW := hide hW
 clear ha hB hG hf hW HBw hm hn hza hna hR
 go_enter Tryz.func111, Tryz.ntmps111
 go_wp2_with fail
 rw [← HW.out]
 clear HW
 go_loopg [10] q (fun gq kk wr => ∃ (i : Nat) (xs : List Int), gq + i = q ∧ kk = .int .i64 i ∧ Hid (xs.length = q) ∧ Hid (∀ j, j < i → xs[j]? = r[j]?) ∧ Hid (Has wr g 3 (i64s xs)) ∧ Hid (Has wr w.heap.size 26 [.slice a.P za a.cap, .bool a.u, .slice a.D na a.dcap]) ∧ Hid (Below w0.heap.size w0 wr))
 case atStart => exact ⟨0, os, by omega, rfl, HOL, hide (fun j hj => by omega), HG, HX, HB⟩
 case round =>
  clear HG HX HB
  obtain ⟨i, xs, hi, rfl, HN, HI, HG, HX, HB⟩ := hrel
  by_cases hlt : i < q
  ·have him : (i : Int) < q := by omega
   have hi0 : (0 : Int) ≤ (i : Int) := by omega
   obtain ⟨s, hs⟩ : ∃ s, Hid (f + i = s) := ⟨_, hide rfl⟩
   have hw1 : wrap64 ((f : Int) + (i : Int)) = (s : Int) := by have := HM.out; have := HF.out; have := hs.out; unfold wrap64; omega
   have HSM : Hid (s < m) := hide (by have := HF.out; have := hs.out; omega)
   have x0 := HX.out.cell 0
   have x1 := HX.out.cell 1
   have x2 := HX.out.cell 2
   go_wp2_with fail
   clear x0 x1 x2 hw1
   refine (HRO.out wr HB.out s HSM.out).mono ?_
   rintro e w2 ⟨⟨A, c, rfl, hri2⟩, hb⟩
   replace HG := hide (HG.out.below hb HG.out.lt)
   replace HX := hide (HX.out.below hb HX.out.lt)
   replace HB := hide (HB.out.trans (hb.mono HB.out.size))
   have hri3 := hri2.below hb
   have HMX := hide (smax_c (Sf.row a.ds n s) A c w2 hri3 (by rw [HLE.out s HSM.out]; exact HN1.out.1) (by rw [HLE.out s HSM.out]; have := HN1.out.2; omega))
   have HIX := hide (sindex_top (Sf.row a.ds n s) A c n w2 hri3 (HLE.out s HSM.out) HN1.out.1 (by have := HN1.out.2; omega))
   rw [HLE.out s HSM.out] at HMX
   have hv := hri.out i hlt
   rw [hs.out] at hv
   unfold Sf.amax at hv
   obtain ⟨mx, hmx⟩ : ∃ x, Hid (Pl.top (fun j => (Sf.row a.ds n s).getD j 0) n = x) := ⟨_, hide rfl⟩
   obtain ⟨bx, hbx⟩ : ∃ x, Hid (Sf.best (fun j => (Sf.row a.ds n s).getD j 0) n = x) := ⟨_, hide rfl⟩
   rw [hmx.out] at HMX HIX
   rw [hbx.out] at HIX hv
   have HV := hide hv
   clear hb hri2 hri3 hmx hbx hv
   go_wp2_with fail
   refine (HMX.out).mono ?_
   rintro e wq ⟨rfl, hw⟩
   have hw := hw.symm
   subst hw
   have g1 : w2.cell? ⟨g, i, none⟩ = some (.int .i64 (xs[i]'(by rw [HN.out]; exact hlt))) := by
    rw [HG.out.cell]
    unfold i64s
    rw [List.getElem?_map, List.getElem?_eq_getElem (by rw [HN.out]; exact hlt)]
    rfl
   have gf := HG.out.frozen i
   go_wp2_with fail
   refine (HIX.out).mono ?_
   rintro e wq ⟨rfl, hw⟩
   have hw := hw.symm
   subst hw
   clear HMX HIX
   go_wp2_with fail
   go_roundg (q - (i + 1))
   case measure => omega
   case rel =>
    refine ⟨i + 1, xs.set i bx, by omega, by go_num, hide (by rw [List.length_set]; exact HN.out), hide (fun j hj => ?_), ?_, ?_, ?_⟩
    ·rw [List.getElem?_set]
     split
     ·rename_i h
      subst h
      rw [if_pos (by rw [HN.out]; exact hlt), HV.out]
     ·exact HI.out j (by omega)
    ·have h := HG.out.set_ i (.int .i64 bx)
     unfold i64s at h ⊢
     rw [List.map_set]
     exact hide h
    ·exact hide (HX.out.far (p := ⟨g, i, none⟩) (by simp; omega) (.int .i64 bx))
    ·exact hide (HB.out.setCell (p := ⟨g, i, none⟩) hg0 (.int .i64 bx))
  ·obtain rfl : i = q := by omega
   have hx : xs = r := List.ext_getElem? (fun j => by
    rcases Nat.lt_or_ge j i with h | h
    ·exact HI.out j h
    ·rw [List.getElem?_eq_none (by rw [HN.out]; exact h), List.getElem?_eq_none (by rw [hrl.out]; exact h)])
   subst hx
   have hnn : ¬ (i : Int) < i := by omega
   go_wp2_with fail
   refine bodyPost_end (results_none rfl _ _ _) rfl ?_
   exact ⟨rfl, HG.out, HB.out⟩
theorem Sf.row_le {xs : List Int} {n i : Nat} {A B : Int} (h : ∀ z ∈ xs, A ≤ z ∧ z ≤ B) (h0 : A ≤ 0 ∧ 0 ≤ B) (j : Nat) : A ≤ (Sf.row xs n i).getD j 0 ∧ (Sf.row xs n i).getD j 0 ≤ B := by
 rw [List.getD_eq_getElem?_getD]
 cases e : (Sf.row xs n i)[j]? with
 | none => exact h0
 | some q =>
  have hq := List.mem_of_getElem? e
  unfold Sf.row at hq
  exact h q (List.mem_of_mem_drop (List.mem_of_mem_take hq))
set_option maxRecDepth 100000 in
set_option maxHeartbeats 4000000 in
theorem ssum_c (os : List Int) (a : Ten) (k m n ocap f g : Nat) (w0 w : World) (hR : Sf.Rows a k m n) (ha : a.In w0) (hsa : ∀ z ∈ a.ds, -2147483648 ≤ z ∧ z ≤ 2147483647) (hB : Below w0.heap.size w0 w) (hg0 : w0.heap.size ≤ g) (hG : Has w g 3 (i64s os)) (hf : f + os.length ≤ m) (hm : m ≤ 1000000) :
  Calls Tryz.prog 112 #[.slice (some ⟨g, 0, none⟩) os.length ocap, .int .i64 f, .agg (tcells a.P a.zs.length a.cap a.u a.D a.ds.length a.dcap)] w fun e w' => e = .returned (.tuple #[]) ∧ Has w' g 3 (i64s (Sf.part (Sf.sum a.ds n) f os.length)) ∧ Below w0.heap.size w0 w' := by
 obtain ⟨r, hrr⟩ : ∃ r, Hid (Sf.part (Sf.sum a.ds n) f os.length = r) := ⟨_, hide rfl⟩
 have hrl : Hid (r.length = os.length) := hide (by rw [← hrr.out]; exact Sf.part_length _ _ _)
 have hri : Hid (∀ i, i < os.length → r[i]? = some (Sf.sum a.ds n (f + i))) := hide (fun i hi => by
  rw [← hrr.out]
  exact Sf.part_at _ _ _ _ hi)
 rw [hrr.out]
 clear hrr
 have HRO := hide (fun (W : World) (hW : Below w0.heap.size w0 W) (i : Nat) (hi : i < m) => srow_c a k m n i hR hi W (ha.below hW))
 have HLE : Hid (∀ i, i < m → (Sf.row a.ds n i).length = n) := hide (fun i hi => Sf.row_length a.ds n i m hi hR.len)
 have HSA := hide hsa
 have HN1 := hide (And.intro hR.n1 hR.n2)
 obtain ⟨q, hn⟩ : ∃ n, Hid (os.length = n) := ⟨_, hide rfl⟩
 have HF : Hid (f + q ≤ m) := hide (by rw [← hn.out]; exact hf)
 have HM := hide hm
 have hnbd : (q : Int) ≤ 1000000 := by have := HF.out; omega
 rw [hn.out]
 rw [hn.out] at hrl hri
 have HOL := hide hn.out
 obtain ⟨za, hza⟩ : ∃ n, Hid (a.zs.length = n) := ⟨_, hide rfl⟩
 obtain ⟨na, hna⟩ : ∃ n, Hid (a.ds.length = n) := ⟨_, hide rfl⟩
 unfold tcells at HRO ⊢
 rw [hza.out, hna.out] at HRO ⊢
 obtain ⟨W, hW⟩ : ∃ W, W = w.alloc (.cells #[.slice a.P za a.cap, .bool a.u, .slice a.D na a.dcap] 26) := ⟨_, rfl⟩
 have HX : Hid (Has W w.heap.size 26 [.slice a.P za a.cap, .bool a.u, .slice a.D na a.dcap]) := hide (by rw [hW]; exact Has.new w 26 _)
 have HG : Hid (Has W g 3 (i64s os)) := hide (by rw [hW]; exact hG.alloc _)
 have HBw : Below w.heap.size w W := by rw [hW]; exact (Below.refl w.heap.size w).alloc (Nat.le_refl _) _
 have HB := hide (hB.trans (HBw.mono hB.size))
 have hgl := hG.lt
 have hsz := hB.size
 have HW := hide hW
 clear ha hB hG hf hW HBw hm hn hza hna hR hsa
 go_enter Tryz.func112, Tryz.ntmps112
 go_wp2_with fail
 rw [← HW.out]
 clear HW
 go_loopg [12] q (fun gq kk wr => ∃ (i : Nat) (xs : List Int), gq + i = q ∧ kk = .int .i64 i ∧ Hid (xs.length = q) ∧ Hid (∀ j, j < i → xs[j]? = r[j]?) ∧ Hid (Has wr g 3 (i64s xs)) ∧ Hid (Has wr w.heap.size 26 [.slice a.P za a.cap, .bool a.u, .slice a.D na a.dcap]) ∧ Hid (Below w0.heap.size w0 wr))
 case atStart => exact ⟨0, os, by omega, rfl, HOL, hide (fun j hj => by omega), HG, HX, HB⟩
 case round =>
  clear HG HX HB
  obtain ⟨i, xs, hi, rfl, HN, HI, HG, HX, HB⟩ := hrel
  by_cases hlt : i < q
  ·have him : (i : Int) < q := by omega
   have hi0 : (0 : Int) ≤ (i : Int) := by omega
   obtain ⟨s, hs⟩ : ∃ s, Hid (f + i = s) := ⟨_, hide rfl⟩
   have hw1 : wrap64 ((f : Int) + (i : Int)) = (s : Int) := by have := HM.out; have := HF.out; have := hs.out; unfold wrap64; omega
   have HSM : Hid (s < m) := hide (by have := HF.out; have := hs.out; omega)
   have x0 := HX.out.cell 0
   have x1 := HX.out.cell 1
   have x2 := HX.out.cell 2
   go_wp2_with fail
   clear x0 x1 x2 hw1
   refine (HRO.out wr HB.out s HSM.out).mono ?_
   rintro e w2 ⟨⟨A, c, rfl, hri2⟩, hb⟩
   replace HG := hide (HG.out.below hb HG.out.lt)
   replace HX := hide (HX.out.below hb HX.out.lt)
   replace HB := hide (HB.out.trans (hb.mono HB.out.size))
   have HRI := hide (hri2.below hb)
   have hv := hri.out i hlt
   rw [hs.out] at hv
   unfold Sf.sum at hv
   have HLs := hide (HLE.out s HSM.out)
   have HRL := hide (fun j => Sf.row_le (n := n) (i := s) HSA.out ⟨by decide, by decide⟩ j)
   obtain ⟨row, hrow⟩ : ∃ x, Hid (Sf.row a.ds n s = x) := ⟨_, hide rfl⟩
   rw [hrow.out] at HRI HLs hv HRL
   obtain ⟨tot, htot⟩ : ∃ x, Hid (Pl.add (fun j => row.getD j 0) n = x) := ⟨_, hide rfl⟩
   rw [htot.out] at hv
   have HTB := Pl.add_le (fun j => row.getD j 0) 2147483648 n (fun j _ => by have := HRL.out j; show -2147483648 ≤ row.getD j 0 ∧ _; omega)
   rw [htot.out] at HTB
   have HTB := hide HTB
   have HV := hide hv
   have hn2 : (n : Int) ≤ 256 := by have := HN1.out.2; omega
   clear hb hri2 hrow hv
   go_wp2_with fail
   go_loopg [21, 7] n (fun gq kk sv wx => ∃ (j : Nat) (sm : Int), gq + j = n ∧ kk = .int .i64 j ∧ sv = .int .i64 sm ∧ Hid (Pl.add (fun j => row.getD j 0) j = sm) ∧ w2 = wx)
   case atStart => exact ⟨0, 0, by omega, rfl, rfl, hide rfl, rfl⟩
   case round =>
    obtain ⟨j, sm, hj, rfl, rfl, HAd, hwr⟩ := hrel
    subst hwr
    by_cases hjl : j < n
    ·have hjn : (j : Int) < n := by omega
     have hj0 : (0 : Int) ≤ (j : Int) := by omega
     obtain ⟨ad, y, hAD, ey, cy⟩ := ri_at HRI.out j (by rw [HLs.out]; exact hjl)
     subst hAD
     have hyv : row.getD j 0 = y := by rw [List.getD_eq_getElem?_getD, ey.out]; rfl
     have hyb := HRL.out j
     rw [hyv] at hyb
     have hsl := Pl.add_le (fun j => row.getD j 0) 2147483648 j (fun j _ => by have := HRL.out j; show -2147483648 ≤ row.getD j 0 ∧ _; omega)
     rw [HAd.out] at hsl
     obtain ⟨s2, hs2⟩ : ∃ x_, Hid (sm + y = x_) := ⟨_, hide rfl⟩
     have hws : wrap64 (sm + y) = s2 := by rw [← hs2.out]; unfold wrap64; omega
     have HAd2 : Hid (Pl.add (fun j => row.getD j 0) (j + 1) = s2) := hide (by
      show Pl.add (fun j => row.getD j 0) j + row.getD j 0 = s2
      rw [HAd.out, hyv, hs2.out])
     have hj2 : ((j : Nat) : Int) + 1 ≤ 1000001 := by omega
     clear ey hyv hyb hsl
     go_wp2_with fail
     clear cy
     go_roundg (n - (j + 1))
     case measure => omega
     case rel => exact ⟨j + 1, s2, by omega, by go_num, congrArg (Value.int .i64) hws, HAd2, rfl⟩
    ·obtain rfl : j = n := by omega
     have hnn : ¬ (j : Int) < j := by omega
     obtain rfl : tot = sm := htot.out.symm.trans HAd.out
     obtain ⟨v, hvv⟩ : ∃ x, Hid (Tens.wide tot = x) := ⟨_, hide rfl⟩
     have HWD := hide (fun W => wide_c tot W)
     rw [hvv.out] at HWD HV
     have g1 : w2.cell? ⟨g, i, none⟩ = some (.int .i64 (xs[i]'(by rw [HN.out]; exact hlt))) := by
      rw [HG.out.cell]
      unfold i64s
      rw [List.getElem?_map, List.getElem?_eq_getElem (by rw [HN.out]; exact hlt)]
      rfl
     have gf := HG.out.frozen i
     go_wp2_with fail
     refine (HWD.out _).mono ?_
     rintro e wq ⟨rfl, hw⟩
     have hw := hw.symm
     subst hw
     go_wp2_with fail
     go_roundg (q - (i + 1))
     case measure => omega
     case rel =>
      refine ⟨i + 1, xs.set i v, by omega, by go_num, hide (by rw [List.length_set]; exact HN.out), hide (fun j hj => ?_), ?_, ?_, ?_⟩
      ·rw [List.getElem?_set]
       split
       ·rename_i h
        subst h
        rw [if_pos (by rw [HN.out]; exact hlt), HV.out]
       ·exact HI.out j (by omega)
      ·have h := HG.out.set_ i (.int .i64 v)
       unfold i64s at h ⊢
       rw [List.map_set]
       exact hide h
      ·exact hide (HX.out.far (p := ⟨g, i, none⟩) (by simp; omega) (.int .i64 v))
      ·exact hide (HB.out.setCell (p := ⟨g, i, none⟩) hg0 (.int .i64 v))
  ·obtain rfl : i = q := by omega
   have hx : xs = r := List.ext_getElem? (fun j => by
    rcases Nat.lt_or_ge j i with h | h
    ·exact HI.out j h
    ·rw [List.getElem?_eq_none (by rw [HN.out]; exact h), List.getElem?_eq_none (by rw [hrl.out]; exact h)])
   subst hx
   have hnn : ¬ (i : Int) < i := by omega
   go_wp2_with fail
   refine bodyPost_end (results_none rfl _ _ _) rfl ?_
   exact ⟨rfl, HG.out, HB.out⟩
abbrev SfC4 (p0 p1 p2 p3 : Addr) (v0 v1 v2 v3 : Value) (W : World) : Prop := W.cell? p0 = some v0 ∧ W.cell? p1 = some v1 ∧ W.cell? p2 = some v2 ∧ W.cell? p3 = some v3
theorem SfC4.keep {p0 p1 p2 p3 : Addr} {v0 v1 v2 v3 : Value} {W W' : World} (h : SfC4 p0 p1 p2 p3 v0 v1 v2 v3 W) (l0 : p0.block < W.heap.size) (l1 : p1.block < W.heap.size) (l2 : p2.block < W.heap.size) (l3 : p3.block < W.heap.size) (hB : Below W.heap.size W W') : SfC4 p0 p1 p2 p3 v0 v1 v2 v3 W' := by
 obtain ⟨h0, h1, h2, h3⟩ := h
 exact ⟨(hB.cell l0).trans h0, (hB.cell l1).trans h1, (hB.cell l2).trans h2, (hB.cell l3).trans h3⟩
theorem SfC4.far {p0 p1 p2 p3 : Addr} {v0 v1 v2 v3 : Value} {W : World} (h : SfC4 p0 p1 p2 p3 v0 v1 v2 v3 W) {b : Nat} (l0 : b ≠ p0.block) (l1 : b ≠ p1.block) (l2 : b ≠ p2.block) (l3 : b ≠ p3.block) (j : Nat) (x : Value) : SfC4 p0 p1 p2 p3 v0 v1 v2 v3 (W.setCell ⟨b, j, none⟩ x) := by
 obtain ⟨h0, h1, h2, h3⟩ := h
 have f : ∀ (p : Addr) (v : Value), b ≠ p.block → W.cell? p = some v → (W.setCell ⟨b, j, none⟩ x).cell? p = some v := fun p v hn hc => by
  rw [World.cell?_setCell_far _ _ _ _ (by exact hn)]
  exact hc
 exact ⟨f _ _ l0 h0, f _ _ l1 h1, f _ _ l2 h2, f _ _ l3 h3⟩
theorem SfC4.drew {p0 p1 p2 p3 : Addr} {v0 v1 v2 v3 : Value} {W : World} (h : SfC4 p0 p1 p2 p3 v0 v1 v2 v3 W) : SfC4 p0 p1 p2 p3 v0 v1 v2 v3 W.drew := h
def Sf.cut (y : Int) (N : Nat) : Nat := (max 0 (min y ((N : Int) - 1))).toNat
theorem Sf.cut_lt (y : Int) (N : Nat) (h : 1 ≤ N) : Sf.cut y N < N := by unfold Sf.cut; omega
theorem Sf.cut_is (y : Int) (N : Nat) (h : 1 ≤ N) : max 0 (min y ((N : Int) - 1)) = (Sf.cut y N : Int) := by unfold Sf.cut; omega
def Sf.gath (xs ys : List Int) (N d i : Nat) : Int := (Sf.row xs d (Sf.cut (ys.getD (i / d) 0) N)).getD (i % d) 0
set_option maxRecDepth 100000 in
set_option maxHeartbeats 4000000 in
theorem sgather_c (os : List Int) (a b : Ten) (N d T ocap f g : Nat) (w0 w : World) (hR : Sf.Rows a 2 N d) (hzN : a.zs[0]? = some (N : Int)) (hN1 : 1 ≤ N) (hN2 : N ≤ 256) (ha : a.In w0) (hb : b.In w0) (hT : b.ds.length = T) (hB : Below w0.heap.size w0 w) (hg0 : w0.heap.size ≤ g) (hG : Has w g 3 (i64s os)) (hf : f + os.length ≤ T * d) (hm : T * d ≤ 1000000) :
  Calls Tryz.prog 113 #[.slice (some ⟨g, 0, none⟩) os.length ocap, .int .i64 f, .agg (tcells a.P a.zs.length a.cap a.u a.D a.ds.length a.dcap), .agg (tcells b.P b.zs.length b.cap b.u b.D b.ds.length b.dcap)] w fun e w' => e = .returned (.tuple #[]) ∧ Has w' g 3 (i64s (Sf.part (Sf.gath a.ds b.ds N d) f os.length)) ∧ Below w0.heap.size w0 w' := by
 obtain ⟨r, hrr⟩ : ∃ r, Hid (Sf.part (Sf.gath a.ds b.ds N d) f os.length = r) := ⟨_, hide rfl⟩
 have hrl : Hid (r.length = os.length) := hide (by rw [← hrr.out]; exact Sf.part_length _ _ _)
 have hri : Hid (∀ i, i < os.length → r[i]? = some (Sf.gath a.ds b.ds N d (f + i))) := hide (fun i hi => by
  rw [← hrr.out]
  exact Sf.part_at _ _ _ _ hi)
 rw [hrr.out]
 clear hrr
 have HRO := hide (fun (W : World) (hW : Below w0.heap.size w0 W) (i : Nat) (hi : i < N) => srow_d a 2 N d i hR hi W (ha.below hW))
 have HRI := hide (fun (W : World) (hW : Below w0.heap.size w0 W) (i : Nat) (hi : i < N) => srow_ri a 2 N d i hR hi W (ha.below hW))
 have HLE : Hid (∀ i, i < N → (Sf.row a.ds d i).length = d) := hide (fun i hi => Sf.row_length a.ds d i N hi hR.len)
 have HBD := hide (fun (W : World) (hW : Below w0.heap.size w0 W) => hb.dat.below hW)
 have HD1 := hide (And.intro hR.n1 hR.n2)
 have HN := hide (And.intro hN1 hN2)
 have hdpos : 0 < d := HD1.out.1
 obtain ⟨q, hn⟩ : ∃ n, Hid (os.length = n) := ⟨_, hide rfl⟩
 have HF : Hid (f + q ≤ T * d) := hide (by rw [← hn.out]; exact hf)
 have HM := hide hm
 have hnbd : (q : Int) ≤ 1000000 := by have := HF.out; omega
 rw [hn.out]
 rw [hn.out] at hrl hri
 have HOL := hide hn.out
 obtain ⟨pa', z0, hPA', ez0, ca0⟩ := ri_at (ha.shp.below hB) 0 (by rw [hR.zl]; omega)
 obtain ⟨pa, z1, hPA, ez1, ca1⟩ := ri_at (ha.shp.below hB) 1 (by rw [hR.zl]; omega)
 obtain rfl : pa' = pa := Option.some.inj (hPA'.symm.trans hPA)
 have hz0 : z0 = N := by have h := ez0.out; rw [hzN] at h; exact (Option.some.inj h).symm
 have hz1 : z1 = d := by have h := ez1.out; have h2 := hR.last; rw [show (2 : Nat) - 1 = 1 from rfl, h] at h2; exact Option.some.inj h2
 subst hz0 hz1
 have hza : a.zs.length = 2 := hR.zl
 obtain ⟨na, hna⟩ : ∃ n, Hid (a.ds.length = n) := ⟨_, hide rfl⟩
 obtain ⟨zb, hzb⟩ : ∃ n, Hid (b.zs.length = n) := ⟨_, hide rfl⟩
 obtain ⟨nb, hnb⟩ : ∃ n, Hid (b.ds.length = n) := ⟨_, hide rfl⟩
 have HTB : Hid (nb = T) := hide (by rw [← hnb.out, hT])
 unfold tcells at HRO ⊢
 rw [hza, hna.out] at HRO ⊢
 rw [hzb.out, hnb.out]
 rw [hPA] at HRO ⊢
 obtain ⟨W, hW⟩ : ∃ W, W = (w.alloc (.cells #[.slice (some pa') 2 a.cap, .bool a.u, .slice a.D na a.dcap] 26)).alloc (.cells #[.slice b.P zb b.cap, .bool b.u, .slice b.D nb b.dcap] 26) := ⟨_, rfl⟩
 have HX : Hid (Has W w.heap.size 26 [.slice (some pa') 2 a.cap, .bool a.u, .slice a.D na a.dcap]) := hide (by rw [hW]; exact (Has.new w 26 [.slice (some pa') 2 a.cap, .bool a.u, .slice a.D na a.dcap]).alloc _)
 have HY : Hid (Has W (w.heap.size + 1) 26 [.slice b.P zb b.cap, .bool b.u, .slice b.D nb b.dcap]) := hide (by rw [hW]; exact box_at _ 26 [.slice b.P zb b.cap, .bool b.u, .slice b.D nb b.dcap] _ (by simp))
 have HG : Hid (Has W g 3 (i64s os)) := hide (by rw [hW]; exact (hG.alloc _).alloc _)
 have HBw : Below w.heap.size w W := by rw [hW]; exact ((Below.refl w.heap.size w).alloc (Nat.le_refl _) _).alloc (by simp) _
 have HB := hide (hB.trans (HBw.mono hB.size))
 have hgl := hG.lt
 have hsz := hB.size
 have hpl : pa'.block < w.heap.size := by
  obtain ⟨ad', h1, h2, -⟩ := (ha.shp.below hB).2 (by intro h; rw [h] at hza; simp at hza)
  rw [hPA] at h1
  rw [Option.some.inj h1]
  exact h2
 have cw0 : W.cell? pa' = some (.int .i64 N) := by
  have h := (HBw.cell (by rw [elm_block]; exact hpl)).trans ca0
  rw [Addr.add_zero'] at h
  exact h
 have cw1 : W.cell? (pa'.add 1) = some (.int .i64 d) := (HBw.cell (by rw [elm_block]; exact hpl)).trans ca1
 simp only [Addr.add, Nat.reduceEqDiff, if_false] at cw1
 have x0 : W.cell? ⟨w.heap.size, 0, none⟩ = some (.slice (some pa') 2 a.cap) := HX.out.cell 0
 have HW := hide hW
 clear ha hb hB hG hf hW HBw hm hn hza hna hzb hR hPA hPA' ez0 ez1 ca0 ca1 hpl hzN hT hN1 hN2
 go_enter Tryz.func113, Tryz.ntmps113
 go_wp2_with fail
 rw [← HW.out]
 clear HW
 go_quiet (fail)
 clear cw0 cw1 x0
 replace HX := hide (HX.out.drewN nq)
 replace HY := hide (HY.out.drewN nq)
 replace HG := hide (HG.out.drewN nq)
 replace HB := hide (below_drewN HB.out nq)
 generalize W.drewN nq = W2 at *
 go_wp2_with fail
 go_loopg [24] q (fun gq kk wr => ∃ (i : Nat) (xs : List Int), gq + i = q ∧ kk = .int .i64 i ∧ Hid (xs.length = q) ∧ Hid (∀ j, j < i → xs[j]? = r[j]?) ∧ Hid (Has wr g 3 (i64s xs)) ∧ Hid (Has wr w.heap.size 26 [.slice (some pa') 2 a.cap, .bool a.u, .slice a.D na a.dcap]) ∧ Hid (Has wr (w.heap.size + 1) 26 [.slice b.P zb b.cap, .bool b.u, .slice b.D nb b.dcap]) ∧ Hid (Below w0.heap.size w0 wr))
 case atStart => exact ⟨0, os, by omega, rfl, HOL, hide (fun j hj => by omega), HG, HX, HY, HB⟩
 case round =>
  clear HG HX HY HB
  obtain ⟨i, xs, hi, rfl, HXN, HI, HG, HX, HY, HB⟩ := hrel
  by_cases hlt : i < q
  ·have him : (i : Int) < q := by omega
   have hi0 : (0 : Int) ≤ (i : Int) := by omega
   obtain ⟨s, hs⟩ : ∃ s, Hid (f + i = s) := ⟨_, hide rfl⟩
   have Hs2 : Hid (s < T * d ∧ s ≤ 1000000) := hide (by have := HM.out; have := HF.out; have := hs.out; omega)
   have hw1 : IntKind.i64.wrap ((f : Int) + (i : Int)) = (s : Int) := by have := Hs2.out; have := hs.out; rw [IntKind.wrap_i64]; omega
   obtain ⟨R, hRr⟩ : ∃ x, Hid (s / d = x) := ⟨_, hide rfl⟩
   obtain ⟨O, hO⟩ : ∃ x, Hid (s % d = x) := ⟨_, hide rfl⟩
   have HRn : Hid (R < nb) := hide (by rw [HTB.out, ← hRr.out]; exact Nat.div_lt_of_lt_mul (by rw [Nat.mul_comm]; exact Hs2.out.1))
   have HOn : Hid (O < d) := hide (by rw [← hO.out]; exact Nat.mod_lt _ hdpos)
   have HRs : Hid (R ≤ s) := hide (by rw [← hRr.out]; exact Nat.div_le_self _ _)
   have hd0 : ¬ ((d : Int) = 0) := by omega
   have hd2 : ¬ d = 0 := by omega
   have hq1 : wrap64 ((s : Int) / (d : Int)) = (R : Int) := by
    rw [show (s : Int) / (d : Int) = (R : Int) by rw [← hRr.out]; exact (Int.natCast_ediv s d).symm]
    have := HRs.out
    have := Hs2.out
    unfold wrap64
    omega
   have hr1 : (s : Int) % (d : Int) = (O : Int) := by rw [← hO.out]; exact (Int.natCast_emod s d).symm
   have HR1 := hide hr1
   clear hr1
   obtain ⟨bd, y, hBD, ey, cy⟩ := ri_at (HBD.out _ HB.out) R (by rw [hnb.out]; exact HRn.out)
   have HYv : Hid (b.ds.getD R 0 = y) := hide (by rw [List.getD_eq_getElem?_getD, ey.out]; rfl)
   have HYb := HY
   rw [hBD] at HYb
   have y2 : wr.cell? ⟨w.heap.size + 1, 2, none⟩ = some (.slice (some bd) nb b.dcap) := HYb.out.cell 2
   obtain ⟨k, hk⟩ : ∃ x, Hid (Sf.cut y N = x) := ⟨_, hide rfl⟩
   have HKN : Hid (k < N) := hide (by rw [← hk.out]; exact Sf.cut_lt y N HN.out.1)
   obtain ⟨c1, hc1⟩ : ∃ x, Hid (min y ((N : Int) - 1) = x) := ⟨_, hide rfl⟩
   have HC1 : Hid (max 0 c1 = (k : Int)) := hide (by rw [← hc1.out, ← hk.out]; exact Sf.cut_is y N HN.out.1)
   have m1 : (if y < (N : Int) - 1 then y else (N : Int) - 1) = c1 := by have := hc1.out; split <;> omega
   have m2 : (if (N : Int) - 1 < y then (N : Int) - 1 else y) = c1 := by have := hc1.out; split <;> omega
   have m3 : (if 0 < c1 then c1 else 0) = (k : Int) := by have := HC1.out; split <;> omega
   have m4 : (if c1 < 0 then 0 else c1) = (k : Int) := by have := HC1.out; split <;> omega
   have hNa : (1 : Int) ≤ (N : Int) := by have := HN.out; omega
   have hNb : (N : Int) ≤ 256 := by have := HN.out; omega
   have hR0 : (0 : Int) ≤ (R : Int) := by omega
   have hRb : (R : Int) < (nb : Int) := by have := HRn.out; omega
   have hvi := hri.out i hlt
   rw [hs.out] at hvi
   unfold Sf.gath at hvi
   rw [hRr.out, hO.out, HYv.out, hk.out] at hvi
   clear ey hBD HYb
   go_wp2_with fail
   go_quiet (fail)
   clear hq1 cy y2 m1 m2 m3 m4 hNa hNb hR0 hRb
   replace HX := hide (HX.out.drewN nq)
   replace HY := hide (HY.out.drewN nq)
   replace HG := hide (HG.out.drewN nq)
   replace HB := hide (below_drewN HB.out nq)
   generalize wr.drewN nq = W3 at *
   obtain ⟨rd, v, hRD, ev, cv⟩ := ri_at (HRI.out _ HB.out k HKN.out) O (by rw [HLE.out k HKN.out]; exact HOn.out)
   have hvv : (Sf.row a.ds d k).getD O 0 = v := Sf.row_get _ _ _ _ _ ev.out
   rw [hvv] at hvi
   have HV := hide hvi
   have HC := hide (HRO.out W3.drew HB.out.drew k HKN.out)
   rw [hRD] at HC
   have HRL : Hid (rd.block < w0.heap.size) := hide (by
    obtain ⟨ad', h1, h2, -⟩ := (HRI.out w0 (Below.refl _ _) k HKN.out).2 (by intro h; have := HLE.out k HKN.out; rw [h] at this; simp at this; omega)
    rw [hRD] at h1
    rw [Option.some.inj h1]
    exact h2)
   have hr1 : (s : Int).tmod (d : Int) = (O : Int) := by rw [Int.tmod_eq_emod_of_nonneg (by omega)]; exact HR1.out
   have hr2 := HR1.out
   have hr3 : IntKind.i64.wrap (O : Int) = (O : Int) := by have h1 := HOn.out; have h2 := HD1.out; rw [IntKind.wrap_i64]; omega
   have hO0 : (0 : Int) ≤ (O : Int) := by omega
   have hOd : (O : Int) < (d : Int) := by have := HOn.out; omega
   have hS0 : SfC4 ⟨w.heap.size, 0, none⟩ ⟨w.heap.size, 1, none⟩ ⟨w.heap.size, 2, none⟩ (rd.add O) (.slice (some pa') 2 a.cap) (.bool a.u) (.slice a.D na a.dcap) (.int .i64 v) W3.drew := ⟨HX.out.cell 0, HX.out.cell 1, HX.out.cell 2, cv⟩
   have HL1 : Hid (w.heap.size < W3.drew.heap.size) := hide HX.out.lt
   have HL2 : Hid ((rd.add O).block < W3.drew.heap.size) := hide (by rw [elm_block]; have h1 := HRL.out; have h2 := HB.out.size; show rd.block < W3.heap.size; omega)
   have HLT := hide hlt
   clear ev cv hvv hvi hRD
   go_wp2_with fail
   go_region_held3 (fun W => W.cell? ⟨w.heap.size, 0, none⟩ = some (.slice (some pa') 2 a.cap) ∧ W.cell? ⟨w.heap.size, 1, none⟩ = some (.bool a.u) ∧ W.cell? ⟨w.heap.size, 2, none⟩ = some (.slice a.D na a.dcap) ∧ W.cell? (rd.add O) = some (.int .i64 v))
    (first | with_reducible exact hS0 | with_reducible exact hS2 | with_reducible exact hS3.out | with_reducible assumption)
    (first | (go_at_call 124; (with_reducible refine HC.out.mono ?_); rintro e w9 ⟨⟨c, rfl⟩, hb⟩; have hS2 := SfC4.keep hS0 HL1.out HL1.out HL1.out HL2.out hb; have n1 : g ≠ w.heap.size := (by omega); have n2 : g ≠ (rd.add O).block := (by rw [elm_block]; have := HRL.out; omega); have hS3 := hide (SfC4.far hS2 n1 n1 n1 n2 i (.int .i64 v)); have HG9 := hide ((HG.out.drewN 1).below hb HG.out.lt); have HX9 := hide ((HX.out.drewN 1).below hb HX.out.lt); have HY9 := hide ((HY.out.drewN 1).below hb HY.out.lt); have HB9 := hide (HB.out.drew.trans (hb.mono HB.out.drew.size)); have g1 : w9.cell? ⟨g, i, none⟩ = some (.int .i64 (xs[i]'(by rw [HXN.out]; exact HLT.out))) := (by rw [HG9.out.cell]; unfold i64s; rw [List.getElem?_map, List.getElem?_eq_getElem (by rw [HXN.out]; exact HLT.out)]; rfl); have gf := HG9.out.frozen i))
   go_wp2_with fail
   go_roundg (q - (i + 1))
   case measure => have := HLT.out; omega
   case rel =>
    have hlt := HLT.out
    refine ⟨i + 1, xs.set i v, by omega, by go_num, hide (by rw [List.length_set]; exact HXN.out), hide (fun j hj => ?_), ?_, hide (HX9.out.far (p := ⟨g, i, none⟩) (by simp; omega) (.int .i64 v)), hide (HY9.out.far (p := ⟨g, i, none⟩) (by simp; omega) (.int .i64 v)), hide (HB9.out.setCell (p := ⟨g, i, none⟩) hg0 (.int .i64 v))⟩
    ·rw [List.getElem?_set]
     by_cases h : i = j
     ·subst h
      rw [if_pos rfl, if_pos (by rw [HXN.out]; exact hlt), HV.out]
     ·rw [if_neg h]
      exact HI.out j (by omega)
    ·have h := HG9.out.set_ i (.int .i64 v)
     unfold i64s at h ⊢
     rw [List.map_set]
     exact hide h
  ·obtain rfl : i = q := by omega
   have hx : xs = r := List.ext_getElem? (fun j => by
    rcases Nat.lt_or_ge j i with h | h
    ·exact HI.out j h
    ·rw [List.getElem?_eq_none (by rw [HXN.out]; exact h), List.getElem?_eq_none (by rw [hrl.out]; exact h)])
   subst hx
   have hnn : ¬ (i : Int) < i := by omega
   go_wp2_with fail
   refine bodyPost_end (results_none rfl _ _ _) rfl ?_
   exact ⟨rfl, HG.out, HB.out⟩
theorem Pl.add_pos (f : Nat → Int) (k : Nat) (h : ∀ i, i < k → 0 ≤ f i) : 0 ≤ Pl.add f k := by
 induction k with
 | zero => exact Int.le_refl 0
 | succ k ih =>
  show 0 ≤ Pl.add f k + f k
  have := ih (fun i hi => h i (by omega))
  have := h k (by omega)
  omega
theorem Sf.wt_le {ts : List Int} (h : ∀ z ∈ ts, -2147483648 ≤ z ∧ z ≤ 2147483647) (k : Nat) : 0 ≤ Sf.wt ts k ∧ Sf.wt ts k ≤ 2147483647 := by
 unfold Sf.wt
 rw [List.getD_eq_getElem?_getD]
 cases e : ts[k]? with
 | none => exact ⟨by show (0 : Int) ≤ max 0 0; omega, by show max (0 : Int) 0 ≤ _; omega⟩
 | some q =>
  have := h q (List.mem_of_getElem? e)
  exact ⟨by show 0 ≤ max 0 q; omega, by show max 0 q ≤ _; omega⟩
def Sf.by_ (row : List Int) (n j : Nat) : Nat := (Pl.top (fun j => row.getD j 0) n - row.getD j 0).toNat
def Sf.all (row ts : List Int) (n k : Nat) : Int := Pl.add (fun j => Sf.wt ts (Sf.by_ row n j)) k
def Sf.of (s w : Int) : Int := if s = 0 then -128 else (255 * w + s / 2) / s - 128
def Sf.soft (xs ts : List Int) (n i : Nat) : Int := Sf.of (Sf.all (Sf.row xs n (i / n)) ts n n) (Sf.wt ts (Sf.by_ (Sf.row xs n (i / n)) n (i % n)))
theorem Sf.by_lt {row : List Int} {n j : Nat} (h : ∀ j, -128 ≤ row.getD j 0 ∧ row.getD j 0 ≤ 127) (hj : j < n) : Sf.by_ row n j < 256 ∧ Pl.top (fun j => row.getD j 0) n - row.getD j 0 = (Sf.by_ row n j : Int) := by
 have h1 := Pl.top_le (fun j => row.getD j 0) (-128) 127 n (h 0) (fun i _ => h i)
 have h2 := Pl.top_upper (fun j => row.getD j 0) n j hj
 have h2 : row.getD j 0 ≤ Pl.top (fun j => row.getD j 0) n := h2
 have h3 := h j
 unfold Sf.by_
 omega
theorem Sf.all_le {ts : List Int} (h : ∀ z ∈ ts, -2147483648 ≤ z ∧ z ≤ 2147483647) (row : List Int) (n k : Nat) (hk : k ≤ 256) : 0 ≤ Sf.all row ts n k ∧ Sf.all row ts n k ≤ 549755813888 := by
 have h1 := Pl.add_pos (fun j => Sf.wt ts (Sf.by_ row n j)) k (fun i _ => (Sf.wt_le h _).1)
 have h2 := Pl.add_le (fun j => Sf.wt ts (Sf.by_ row n j)) 2147483648 k (fun i _ => by have := Sf.wt_le h (Sf.by_ row n i); show -2147483648 ≤ Sf.wt ts (Sf.by_ row n i) ∧ _; omega)
 unfold Sf.all
 omega
set_option maxRecDepth 100000 in
set_option maxHeartbeats 4000000 in
theorem ssoft_c (os : List Int) (a b : Ten) (k m n ocap f g : Nat) (w0 w : World) (hR : Sf.Rows a k m n) (hsa : ∀ z ∈ a.ds, -128 ≤ z ∧ z ≤ 127) (ha : a.In w0) (hb : b.In w0) (hbl : b.ds.length = 256) (hsb : ∀ z ∈ b.ds, -2147483648 ≤ z ∧ z ≤ 2147483647) (hB : Below w0.heap.size w0 w) (hg0 : w0.heap.size ≤ g) (hG : Has w g 3 (i64s os)) (hf : f + os.length ≤ m * n) (hm : m * n ≤ 1000000) :
  Calls Tryz.prog 110 #[.slice (some ⟨g, 0, none⟩) os.length ocap, .int .i64 f, .agg (tcells a.P a.zs.length a.cap a.u a.D a.ds.length a.dcap), .agg (tcells b.P b.zs.length b.cap b.u b.D b.ds.length b.dcap)] w fun e w' => e = .returned (.tuple #[]) ∧ Has w' g 3 (i64s (Sf.part (Sf.soft a.ds b.ds n) f os.length)) ∧ Below w0.heap.size w0 w' := by
 obtain ⟨r, hrr⟩ : ∃ r, Hid (Sf.part (Sf.soft a.ds b.ds n) f os.length = r) := ⟨_, hide rfl⟩
 have hrl : Hid (r.length = os.length) := hide (by rw [← hrr.out]; exact Sf.part_length _ _ _)
 have hri : Hid (∀ i, i < os.length → r[i]? = some (Sf.soft a.ds b.ds n (f + i))) := hide (fun i hi => by
  rw [← hrr.out]
  exact Sf.part_at _ _ _ _ hi)
 rw [hrr.out]
 clear hrr
 have HRO := hide (fun (W : World) (hW : Below w0.heap.size w0 W) (i : Nat) (hi : i < m) => srow_d a k m n i hR hi W (ha.below hW))
 have HRI := hide (fun (W : World) (hW : Below w0.heap.size w0 W) (i : Nat) (hi : i < m) => srow_ri a k m n i hR hi W (ha.below hW))
 have HLE : Hid (∀ i, i < m → (Sf.row a.ds n i).length = n) := hide (fun i hi => Sf.row_length a.ds n i m hi hR.len)
 have HWT := hide (fun (W : World) (hW : Below w0.heap.size w0 W) (j : Nat) (hj : j < 256) => weight_c b j W (hb.below hW) (by rw [hbl]; exact hj))
 have HSA := hide hsa
 have HSB := hide hsb
 have HD1 := hide (And.intro hR.n1 hR.n2)
 have hnpos : 0 < n := HD1.out.1
 obtain ⟨q, hn⟩ : ∃ n, Hid (os.length = n) := ⟨_, hide rfl⟩
 have HF : Hid (f + q ≤ m * n) := hide (by rw [← hn.out]; exact hf)
 have HM := hide hm
 have hnbd : (q : Int) ≤ 1000000 := by have := HF.out; omega
 rw [hn.out]
 rw [hn.out] at hrl hri
 have HOL := hide hn.out
 have hk4 := hR.k4
 have hk1' := hR.k1
 obtain ⟨pa, z, hPA, ez, cz⟩ := ri_at (ha.shp.below hB) (k - 1) (by rw [hR.zl]; omega)
 have hz : z = n := by have h := ez.out; rw [hR.last] at h; exact (Option.some.inj h).symm
 subst hz
 have hza : a.zs.length = k := hR.zl
 obtain ⟨na, hna⟩ : ∃ n, Hid (a.ds.length = n) := ⟨_, hide rfl⟩
 obtain ⟨zb, hzb⟩ : ∃ n, Hid (b.zs.length = n) := ⟨_, hide rfl⟩
 unfold tcells at HRO HWT ⊢
 rw [hza, hna.out, hPA] at HRO ⊢
 rw [hbl, hzb.out] at HWT ⊢
 obtain ⟨W, hW⟩ : ∃ W, W = (w.alloc (.cells #[.slice (some pa) k a.cap, .bool a.u, .slice a.D na a.dcap] 26)).alloc (.cells #[.slice b.P zb b.cap, .bool b.u, .slice b.D 256 b.dcap] 26) := ⟨_, rfl⟩
 have HX : Hid (Has W w.heap.size 26 [.slice (some pa) k a.cap, .bool a.u, .slice a.D na a.dcap]) := hide (by rw [hW]; exact (Has.new w 26 [.slice (some pa) k a.cap, .bool a.u, .slice a.D na a.dcap]).alloc _)
 have HY : Hid (Has W (w.heap.size + 1) 26 [.slice b.P zb b.cap, .bool b.u, .slice b.D 256 b.dcap]) := hide (by rw [hW]; exact box_at _ 26 [.slice b.P zb b.cap, .bool b.u, .slice b.D 256 b.dcap] _ (by simp))
 have HG : Hid (Has W g 3 (i64s os)) := hide (by rw [hW]; exact (hG.alloc _).alloc _)
 have HBw : Below w.heap.size w W := by rw [hW]; exact ((Below.refl w.heap.size w).alloc (Nat.le_refl _) _).alloc (by simp) _
 have HB := hide (hB.trans (HBw.mono hB.size))
 have hgl := hG.lt
 have hsz := hB.size
 have hpl : pa.block < w.heap.size := by
  obtain ⟨ad', h1, h2, -⟩ := (ha.shp.below hB).2 (by intro h; rw [h] at hza; simp at hza; omega)
  rw [hPA] at h1
  rw [Option.some.inj h1]
  exact h2
 have cw0 : W.cell? (pa.add (k - 1)) = some (.int .i64 n) := (HBw.cell (by rw [elm_block]; exact hpl)).trans cz
 have hkk1 : ((k : Nat) : Int) - 1 = ((k - 1 : Nat) : Int) := by omega
 have Hkk : Hid (wrap64 ((k - 1 : Nat) : Int) = ((k - 1 : Nat) : Int)) := hide (by clear hkk1; unfold wrap64; omega)
 obtain ⟨k', hk'⟩ : ∃ x, Hid (k - 1 = x) := ⟨_, hide rfl⟩
 rw [hk'.out] at hkk1 Hkk cw0
 have hka : (0 : Int) ≤ (k' : Int) := by omega
 have hkb : (k' : Int) < (k : Int) := by omega
 have hkk := Hkk.out
 have x0 : W.cell? ⟨w.heap.size, 0, none⟩ = some (.slice (some pa) k a.cap) := HX.out.cell 0
 have HW := hide hW
 clear ha hb hB hG hf hW HBw hm hn hza hna hzb hR hPA ez cz hpl hbl hk4 hk1' hsa hsb
 go_enter Tryz.func110, Tryz.ntmps110
 go_wp2_with fail
 rw [← HW.out]
 clear HW
 go_step3
 go_wp2_with fail
 try (go_step3; go_wp2_with fail)
 clear cw0 x0 hkk1 hkk hka hkb
 go_loopg [27] q (fun gq kk wr => ∃ (i : Nat) (xs : List Int), gq + i = q ∧ kk = .int .i64 i ∧ Hid (xs.length = q) ∧ Hid (∀ j, j < i → xs[j]? = r[j]?) ∧ Hid (Has wr g 3 (i64s xs)) ∧ Hid (Has wr w.heap.size 26 [.slice (some pa) k a.cap, .bool a.u, .slice a.D na a.dcap]) ∧ Hid (Has wr (w.heap.size + 1) 26 [.slice b.P zb b.cap, .bool b.u, .slice b.D 256 b.dcap]) ∧ Hid (Below w0.heap.size w0 wr))
 case atStart => exact ⟨0, os, by omega, rfl, HOL, hide (fun j hj => by omega), HG, HX, HY, HB⟩
 case round =>
  clear HG HX HY HB
  obtain ⟨i, xs, hi, rfl, HXN, HI, HG, HX, HY, HB⟩ := hrel
  by_cases hlt : i < q
  ·have him : (i : Int) < q := by omega
   have hi0 : (0 : Int) ≤ (i : Int) := by omega
   obtain ⟨s, hs⟩ : ∃ s, Hid (f + i = s) := ⟨_, hide rfl⟩
   have Hs2 : Hid (s < m * n ∧ s ≤ 1000000) := hide (by have := HM.out; have := HF.out; have := hs.out; omega)
   have H_hw1 : Hid (IntKind.i64.wrap ((f : Int) + (i : Int)) = (s : Int)) := hide (by have := Hs2.out; have := hs.out; rw [IntKind.wrap_i64]; omega)
   have H_hw1b : Hid (wrap64 ((f : Int) + (i : Int)) = (s : Int)) := hide (by have := Hs2.out; have := hs.out; unfold wrap64; omega)
   obtain ⟨R, hRr⟩ : ∃ x, Hid (s / n = x) := ⟨_, hide rfl⟩
   obtain ⟨O, hO⟩ : ∃ x, Hid (s % n = x) := ⟨_, hide rfl⟩
   have HRn : Hid (R < m) := hide (by rw [← hRr.out]; exact Nat.div_lt_of_lt_mul (by rw [Nat.mul_comm]; exact Hs2.out.1))
   have HOn : Hid (O < n) := hide (by rw [← hO.out]; exact Nat.mod_lt _ hnpos)
   have HRs : Hid (R ≤ s) := hide (by rw [← hRr.out]; exact Nat.div_le_self _ _)
   have hd0 : ¬ ((n : Int) = 0) := by omega
   have hd2 : ¬ n = 0 := by omega
   have Hq0 : Hid ((s : Int) / (n : Int) = (R : Int)) := hide (by rw [← hRr.out]; exact (Int.natCast_ediv s n).symm)
   have H_hq0b : Hid ((s : Int).tdiv (n : Int) = (R : Int)) := hide (by rw [Int.tdiv_eq_ediv_of_nonneg (by omega)]; exact Hq0.out)
   have H_hq1 : Hid (wrap64 (R : Int) = (R : Int)) := hide (by have := HRs.out; have := Hs2.out; unfold wrap64; omega)
   have H_hq1b : Hid (IntKind.i64.wrap (R : Int) = (R : Int)) := hide (by have := HRs.out; have := Hs2.out; rw [IntKind.wrap_i64]; omega)
   have HR1 : Hid ((s : Int) % (n : Int) = (O : Int)) := hide (by rw [← hO.out]; exact (Int.natCast_emod s n).symm)
   have hvi := hri.out i hlt
   rw [hs.out] at hvi
   unfold Sf.soft at hvi
   rw [hRr.out, hO.out] at hvi
   have HLs := hide (HLE.out R HRn.out)
   have HRL := hide (fun j => Sf.row_le (n := n) (i := R) HSA.out ⟨by decide, by decide⟩ j)
   have HC := hide (HRO.out wr.drew HB.out.drew R HRn.out)
   have HRW := hide (fun W (hW : Below w0.heap.size w0 W) => HRI.out W hW R HRn.out)
   obtain ⟨row, hrow⟩ : ∃ x, Hid (Sf.row a.ds n R = x) := ⟨_, hide rfl⟩
   rw [hrow.out] at HRW HLs hvi HRL
   obtain ⟨A, hA⟩ : ∃ x, Hid (a.D.map (·.add (R * n)) = x) := ⟨_, hide rfl⟩
   rw [hA.out] at HC HRW
   obtain ⟨mx, hmx⟩ : ∃ x, Hid (Pl.top (fun j => row.getD j 0) n = x) := ⟨_, hide rfl⟩
   obtain ⟨wv, hwv⟩ : ∃ x, Hid (Sf.wt b.ds (Sf.by_ row n O) = x) := ⟨_, hide rfl⟩
   obtain ⟨tot, htot⟩ : ∃ x, Hid (Sf.all row b.ds n n = x) := ⟨_, hide rfl⟩
   have HTB := hide (Sf.all_le HSB.out row n n HD1.out.2)
   have HWB := hide (Sf.wt_le HSB.out (Sf.by_ row n O))
   rw [htot.out] at HTB
   rw [hwv.out] at HWB
   rw [htot.out, hwv.out] at hvi
   have HBY : Hid (∀ j, j < n → Sf.by_ row n j < 256 ∧ mx - row.getD j 0 = (Sf.by_ row n j : Int)) := hide (fun j hj => by rw [← hmx.out]; exact Sf.by_lt HRL.out hj)
   have HVI := hide hvi
   have x0 := HX.out.cell 0
   have x1 := HX.out.cell 1
   have x2 := HX.out.cell 2
   clear hvi hrow hA
   have hq0 := Hq0.out
   have hw1 := H_hw1.out
   have hw1b := H_hw1b.out
   have hq0b := H_hq0b.out
   have hq1 := H_hq1.out
   have hq1b := H_hq1b.out
   go_wp2_with fail
   go_still_tail 6, (by kernel_rfl)
   change wpList _ _ _ _ _ wr.drew
   go_wp2_with fail
   clear x0 x1 x2 hw1 hw1b hq0 hq0b hq1 hq1b
   replace HG := hide (HG.out.drewN 1)
   replace HX := hide (HX.out.drewN 1)
   replace HY := hide (HY.out.drewN 1)
   replace HB := hide (below_drewN HB.out 1)
   refine (HC.out).mono ?_
   rintro e w2 ⟨⟨c, rfl⟩, hb⟩
   change Below wr.drew.heap.size wr.drew w2 at hb
   replace HG := hide (HG.out.below hb HG.out.lt)
   replace HX := hide (HX.out.below hb HX.out.lt)
   replace HY := hide (HY.out.below hb HY.out.lt)
   replace HB := hide (HB.out.trans (hb.mono HB.out.size))
   clear hb HC
   have HMX := hide (smax_c row A c w2 (HRW.out _ HB.out) (by rw [HLs.out]; exact hnpos) (by rw [HLs.out]; have := HD1.out.2; omega))
   rw [HLs.out, hmx.out] at HMX
   go_wp2_with fail
   refine (HMX.out).mono ?_
   rintro e wq ⟨rfl, hw⟩
   have hw := hw.symm
   subst hw
   obtain ⟨rd, v, hRD, ev, cv⟩ := ri_at (HRW.out _ HB.out) O (by rw [HLs.out]; exact HOn.out)
   subst hRD
   have hvv : row.getD O 0 = v := by rw [List.getD_eq_getElem?_getD, ev.out]; rfl
   obtain ⟨D, hD⟩ : ∃ x, Hid (Sf.by_ row n O = x) := ⟨_, hide rfl⟩
   have hby := HBY.out O HOn.out
   rw [hD.out, hvv] at hby
   have HDL := hide hby.1
   have HC := hide (HWT.out w2.drew HB.out.drew D HDL.out)
   rw [← hD.out, hwv.out, hD.out] at HC
   have H_hv1 : Hid (wrap64 (mx - v) = (D : Int)) := hide (by rw [hby.2]; have := HDL.out; unfold wrap64; omega)
   have H_hv1b : Hid (IntKind.i64.wrap (mx - v) = (D : Int)) := hide (by rw [hby.2, IntKind.wrap_i64]; have := HDL.out; omega)
   have H_hw1 : Hid (IntKind.i64.wrap ((f : Int) + (i : Int)) = (s : Int)) := hide (by have := Hs2.out; have := hs.out; rw [IntKind.wrap_i64]; omega)
   have H_hw1b : Hid (wrap64 ((f : Int) + (i : Int)) = (s : Int)) := hide (by have := Hs2.out; have := hs.out; unfold wrap64; omega)
   have hr1 := HR1.out
   have H_hr1b : Hid ((s : Int).tmod (n : Int) = (O : Int)) := hide (by rw [Int.tmod_eq_emod_of_nonneg (by omega)]; exact HR1.out)
   have hO0 : (0 : Int) ≤ (O : Int) := by omega
   have hOd : (O : Int) < (n : Int) := by have := HOn.out; omega
   have y0 := HY.out.cell 0
   have y1 := HY.out.cell 1
   have y2 := HY.out.cell 2
   clear hby ev hvv
   have hw1 := H_hw1.out
   have hw1b := H_hw1b.out
   have hr1b := H_hr1b.out
   have hv1 := H_hv1.out
   have hv1b := H_hv1b.out
   go_wp2_with fail
   go_still_tail 11, (by kernel_rfl)
   change wpList _ _ _ _ _ w2.drew
   go_wp2_with fail
   clear y0 y1 y2 hw1 hw1b hr1 hr1b hv1 hv1b cv hO0 hOd
   replace HG := hide (HG.out.drewN 1)
   replace HX := hide (HX.out.drewN 1)
   replace HY := hide (HY.out.drewN 1)
   replace HB := hide (below_drewN HB.out 1)
   refine (HC.out).mono ?_
   rintro e w3 ⟨rfl, hb⟩
   change Below w2.drew.heap.size w2.drew w3 at hb
   replace HG := hide (HG.out.below hb HG.out.lt)
   replace HX := hide (HX.out.below hb HX.out.lt)
   replace HY := hide (HY.out.below hb HY.out.lt)
   replace HB := hide (HB.out.trans (hb.mono HB.out.size))
   clear hb HC HMX
   go_wp2_with fail
   go_loopg [13, 14] n (fun gq sv kk wr => ∃ (j : Nat) (sm : Int), gq + j = n ∧ kk = .int .i64 j ∧ sv = .int .i64 sm ∧ Hid (Sf.all row b.ds n j = sm) ∧ Hid (Has wr g 3 (i64s xs)) ∧ Hid (Has wr w.heap.size 26 [.slice (some pa) k a.cap, .bool a.u, .slice a.D na a.dcap]) ∧ Hid (Has wr (w.heap.size + 1) 26 [.slice b.P zb b.cap, .bool b.u, .slice b.D 256 b.dcap]) ∧ Hid (Below w0.heap.size w0 wr))
   case atStart => exact ⟨0, 0, by omega, rfl, rfl, hide rfl, HG, HX, HY, HB⟩
   case round =>
    clear HG HX HY HB
    obtain ⟨j, sm, hj, rfl, rfl, HAd, HG, HX, HY, HB⟩ := hrel
    by_cases hjl : j < n
    ·have hjn : (j : Int) < n := by omega
     have hj0 : (0 : Int) ≤ (j : Int) := by omega
     obtain ⟨rd', y, hRD, ey, cy⟩ := ri_at (HRW.out _ HB.out) j (by rw [HLs.out]; exact hjl)
     obtain rfl : rd = rd' := Option.some.inj hRD
     have hyv : row.getD j 0 = y := by rw [List.getD_eq_getElem?_getD, ey.out]; rfl
     have hby := HBY.out j hjl
     obtain ⟨E, hE⟩ : ∃ x, Hid (Sf.by_ row n j = x) := ⟨_, hide rfl⟩
     rw [hE.out, hyv] at hby
     have HEL := hide hby.1
     obtain ⟨u, hu⟩ : ∃ x, Hid (Sf.wt b.ds E = x) := ⟨_, hide rfl⟩
     have HC := hide (HWT.out wr.drew HB.out.drew E HEL.out)
     rw [hu.out] at HC
     have hub := Sf.wt_le HSB.out E
     rw [hu.out] at hub
     have hsl := Sf.all_le HSB.out row n j (by have := HD1.out.2; omega)
     rw [HAd.out] at hsl
     obtain ⟨s2, hs2⟩ : ∃ x_, Hid (sm + u = x_) := ⟨_, hide rfl⟩
     have Hws : Hid (wrap64 (sm + u) = s2) := hide (by rw [← hs2.out]; unfold wrap64; omega)
     have HAd2 : Hid (Sf.all row b.ds n (j + 1) = s2) := hide (by
      show Sf.all row b.ds n j + Sf.wt b.ds (Sf.by_ row n j) = s2
      rw [HAd.out, hE.out, hu.out, hs2.out])
     have H_hv1 : Hid (wrap64 (mx - y) = (E : Int)) := hide (by rw [hby.2]; have := HEL.out; unfold wrap64; omega)
     have H_hv1b : Hid (IntKind.i64.wrap (mx - y) = (E : Int)) := hide (by rw [hby.2, IntKind.wrap_i64]; have := HEL.out; omega)
     have hj2 : ((j : Nat) : Int) + 1 ≤ 1000001 := by have := HD1.out.2; omega
     have hS0 : SfC4 ⟨w.heap.size + 1, 0, none⟩ ⟨w.heap.size + 1, 1, none⟩ ⟨w.heap.size + 1, 2, none⟩ (rd.add j) (.slice b.P zb b.cap) (.bool b.u) (.slice b.D 256 b.dcap) (.int .i64 y) wr.drew := ⟨HY.out.cell 0, HY.out.cell 1, HY.out.cell 2, cy⟩
     have HL1 : Hid (w.heap.size + 1 < wr.drew.heap.size) := hide HY.out.lt
     have HL2 : Hid ((rd.add j).block < wr.drew.heap.size) := hide (by
      obtain ⟨ad', h1, h2, -⟩ := (HRW.out _ HB.out).2 (by intro h; have h3 := HLs.out; rw [h] at h3; simp at h3; omega)
      rw [elm_block, Option.some.inj h1]
      exact h2)
     clear hRD hyv hby hub hsl ey cy
     have hv1 := H_hv1.out
     have hv1b := H_hv1b.out
     go_wp2_with fail
     have HWS2 : Hid (IntKind.i64.wrap (sm + u) = s2) := hide (by rw [IntKind.wrap_i64]; have := Hws.out; unfold wrap64 at this; exact this)
     have hws2 := HWS2.out
     go_region_held3 (fun W => W.cell? ⟨w.heap.size + 1, 0, none⟩ = some (.slice b.P zb b.cap) ∧ W.cell? ⟨w.heap.size + 1, 1, none⟩ = some (.bool b.u) ∧ W.cell? ⟨w.heap.size + 1, 2, none⟩ = some (.slice b.D 256 b.dcap) ∧ W.cell? (rd.add j) = some (.int .i64 y))
      (first | with_reducible exact hS0 | with_reducible exact hS2 | with_reducible assumption)
      (first | (go_at_call 126; (with_reducible refine HC.out.mono ?_); rintro e w4 ⟨rfl, hb⟩; have hS2 := SfC4.keep hS0 HL1.out HL1.out HL1.out HL2.out hb; have HBB := hide hb))
     have hb : Below wr.drew.heap.size wr.drew w4 := HBB.out
     clear hv1 hv1b hws2
     replace HG := hide (HG.out.drewN 1)
     replace HX := hide (HX.out.drewN 1)
     replace HY := hide (HY.out.drewN 1)
     replace HB := hide (below_drewN HB.out 1)
     replace HG := hide (HG.out.below hb HG.out.lt)
     replace HX := hide (HX.out.below hb HX.out.lt)
     replace HY := hide (HY.out.below hb HY.out.lt)
     replace HB := hide (HB.out.trans (hb.mono HB.out.size))
     clear hb HC
     have hws := Hws.out
     go_wp2_with fail
     go_roundg (n - (j + 1))
     case measure => omega
     case rel => exact ⟨j + 1, s2, by omega, by go_num, by first | rfl | exact congrArg (Value.int .i64) hws, HAd2, HG, HX, HY, HB⟩
    ·obtain rfl : j = n := by omega
     have hnn : ¬ (j : Int) < j := by omega
     obtain rfl : tot = sm := htot.out.symm.trans HAd.out
     have g1 : wr.cell? ⟨g, i, none⟩ = some (.int .i64 (xs[i]'(by rw [HXN.out]; exact hlt))) := by
      rw [HG.out.cell]
      unfold i64s
      rw [List.getElem?_map, List.getElem?_eq_getElem (by rw [HXN.out]; exact hlt)]
      rfl
     have gf := HG.out.frozen i
     have hvi := HVI.out
     unfold Sf.of at hvi
     by_cases ht : tot = 0
     ·rw [if_pos ht] at hvi
      have HV := hide hvi
      have htb : (tot == 0) = true := by simp [ht]
      subst ht
      clear hvi
      go_wp2_with fail
      go_roundg (q - (i + 1))
      case measure => omega
      case rel =>
       refine ⟨i + 1, xs.set i (-128), by omega, by go_num, hide (by rw [List.length_set]; exact HXN.out), hide (fun j hj => ?_), ?_, hide (HX.out.far (p := ⟨g, i, none⟩) (by simp; omega) (.int .i64 (-128))), hide (HY.out.far (p := ⟨g, i, none⟩) (by simp; omega) (.int .i64 (-128))), hide (HB.out.setCell (p := ⟨g, i, none⟩) hg0 (.int .i64 (-128)))⟩
       ·rw [List.getElem?_set]
        by_cases h : i = j
        ·subst h
         rw [if_pos rfl, if_pos (by rw [HXN.out]; exact hlt), HV.out]
        ·rw [if_neg h]
         exact HI.out j (by omega)
       ·have h := HG.out.set_ i (.int .i64 (-128))
        unfold i64s at h ⊢
        rw [List.map_set]
        exact hide h
     ·rw [if_neg ht] at hvi
      have htb : (tot == 0) = false := by simp [ht]
      have htp := HTB.out
      have hwb := HWB.out
      obtain ⟨hh, hhh⟩ : ∃ x, Hid (tot / 2 = x) := ⟨_, hide rfl⟩
      obtain ⟨pp, hpp⟩ : ∃ x, Hid (255 * wv = x) := ⟨_, hide rfl⟩
      obtain ⟨uu, huu⟩ : ∃ x, Hid (pp + hh = x) := ⟨_, hide rfl⟩
      rw [hpp.out, hhh.out, huu.out] at hvi
      have hhb : 0 ≤ hh ∧ hh ≤ 549755813888 := by rw [← hhh.out]; omega
      have hpb : 0 ≤ pp ∧ pp ≤ 547608330240 := by rw [← hpp.out]; omega
      have hub : 0 ≤ uu ∧ uu ≤ 1099511627776 := by rw [← huu.out]; omega
      have hqn : 0 ≤ uu / tot := Int.ediv_nonneg hub.1 htp.1
      have hql : uu / tot ≤ uu := Int.ediv_le_self _ hub.1
      obtain ⟨qq, hqq⟩ : ∃ x, Hid (uu / tot = x) := ⟨_, hide rfl⟩
      rw [hqq.out] at hvi hqn hql
      obtain ⟨vv, hvv⟩ : ∃ x, Hid (qq - 128 = x) := ⟨_, hide rfl⟩
      rw [hvv.out] at hvi
      have HV := hide hvi
      have e1 : tot.tdiv 2 = hh := by rw [Int.tdiv_eq_ediv_of_nonneg htp.1]; exact hhh.out
      have e2 : uu.tdiv tot = qq := by rw [Int.tdiv_eq_ediv_of_nonneg hub.1]; exact hqq.out
      have O1 : Hid (wrap64 (tot / 2) = hh) := hide (by rw [hhh.out]; unfold wrap64; omega)
      have O2 : Hid (wrap64 (tot.tdiv 2) = hh) := hide (by rw [e1]; unfold wrap64; omega)
      have O3 : Hid (wrap64 (255 * wv) = pp) := hide (by rw [hpp.out]; unfold wrap64; omega)
      have O4 : Hid (wrap64 (pp + hh) = uu) := hide (by rw [huu.out]; unfold wrap64; omega)
      have O5 : Hid (wrap64 (uu / tot) = qq) := hide (by rw [hqq.out]; unfold wrap64; omega)
      have O6 : Hid (wrap64 (uu.tdiv tot) = qq) := hide (by rw [e2]; unfold wrap64; omega)
      have O7 : Hid (wrap64 (qq + -128) = vv) := hide (by rw [← hvv.out]; unfold wrap64; omega)
      clear htp hwb hhb hpb hub hqn hql hvi e1 e2
      have o1 := O1.out
      have o2 := O2.out
      have o3 := O3.out
      have o4 := O4.out
      have o5 := O5.out
      have o6 := O6.out
      have o7 := O7.out
      go_wp2_with fail
      clear o1 o2 o3 o4 o5 o6 o7
      go_roundg (q - (i + 1))
      case measure => omega
      case rel =>
       refine ⟨i + 1, xs.set i (vv), by omega, by go_num, hide (by rw [List.length_set]; exact HXN.out), hide (fun j hj => ?_), ?_, hide (HX.out.far (p := ⟨g, i, none⟩) (by simp; omega) (.int .i64 (vv))), hide (HY.out.far (p := ⟨g, i, none⟩) (by simp; omega) (.int .i64 (vv))), hide (HB.out.setCell (p := ⟨g, i, none⟩) hg0 (.int .i64 (vv)))⟩
       ·rw [List.getElem?_set]
        by_cases h : i = j
        ·subst h
         rw [if_pos rfl, if_pos (by rw [HXN.out]; exact hlt), HV.out]
        ·rw [if_neg h]
         exact HI.out j (by omega)
       ·have h := HG.out.set_ i (.int .i64 (vv))
        unfold i64s at h ⊢
        rw [List.map_set]
        exact hide h
  ·obtain rfl : i = q := by omega
   have hx : xs = r := List.ext_getElem? (fun j => by
    rcases Nat.lt_or_ge j i with h | h
    ·exact HI.out j h
    ·rw [List.getElem?_eq_none (by rw [HXN.out]; exact h), List.getElem?_eq_none (by rw [hrl.out]; exact h)])
   subst hx
   have hnn : ¬ (i : Int) < i := by omega
   go_wp2_with fail
   refine bodyPost_end (results_none rfl _ _ _) rfl ?_
   exact ⟨rfl, HG.out, HB.out⟩
abbrev SfC5 (p0 p1 p2 p3 p4 : Addr) (v0 v1 v2 v3 v4 : Value) (W : World) : Prop := W.cell? p0 = some v0 ∧ W.cell? p1 = some v1 ∧ W.cell? p2 = some v2 ∧ W.cell? p3 = some v3 ∧ W.cell? p4 = some v4
theorem SfC5.keep {p0 p1 p2 p3 p4 : Addr} {v0 v1 v2 v3 v4 : Value} {W W' : World} (h : SfC5 p0 p1 p2 p3 p4 v0 v1 v2 v3 v4 W) (l0 : p0.block < W.heap.size) (l1 : p1.block < W.heap.size) (l2 : p2.block < W.heap.size) (l3 : p3.block < W.heap.size) (l4 : p4.block < W.heap.size) (hB : Below W.heap.size W W') : SfC5 p0 p1 p2 p3 p4 v0 v1 v2 v3 v4 W' := by
 obtain ⟨h0, h1, h2, h3, h4⟩ := h
 exact ⟨(hB.cell l0).trans h0, (hB.cell l1).trans h1, (hB.cell l2).trans h2, (hB.cell l3).trans h3, (hB.cell l4).trans h4⟩
theorem SfC5.far {p0 p1 p2 p3 p4 : Addr} {v0 v1 v2 v3 v4 : Value} {W : World} (h : SfC5 p0 p1 p2 p3 p4 v0 v1 v2 v3 v4 W) {b : Nat} (l0 : b ≠ p0.block) (l1 : b ≠ p1.block) (l2 : b ≠ p2.block) (l3 : b ≠ p3.block) (l4 : b ≠ p4.block) (j : Nat) (x : Value) : SfC5 p0 p1 p2 p3 p4 v0 v1 v2 v3 v4 (W.setCell ⟨b, j, none⟩ x) := by
 obtain ⟨h0, h1, h2, h3, h4⟩ := h
 have f : ∀ (p : Addr) (v : Value), b ≠ p.block → W.cell? p = some v → (W.setCell ⟨b, j, none⟩ x).cell? p = some v := fun p v hn hc => by
  rw [World.cell?_setCell_far _ _ _ _ (by exact hn)]
  exact hc
 exact ⟨f _ _ l0 h0, f _ _ l1 h1, f _ _ l2 h2, f _ _ l3 h3, f _ _ l4 h4⟩
theorem SfC5.drew {p0 p1 p2 p3 p4 : Addr} {v0 v1 v2 v3 v4 : Value} {W : World} (h : SfC5 p0 p1 p2 p3 p4 v0 v1 v2 v3 v4 W) : SfC5 p0 p1 p2 p3 p4 v0 v1 v2 v3 v4 W.drew := h
def Sf.isOp (op : Int) : Prop := op = 16 ∨ op = 17 ∨ op = 19 ∨ op = 20
def Sf.nins (op : Int) : Nat := if op = 16 ∨ op = 17 then 2 else 1
def Sf.lk (op : Int) (ds : List Dsc) : Option (List Int × Bool) :=
 match ds with
 | [a] => if 0 < a.zs.length then some (a.zs.dropLast, true) else none
 | [a, b] => if op = 16 then (if a.u = false ∧ 0 < a.zs.length ∧ b.zs = [256] ∧ b.u = true then some (a.zs, false) else none)
  else (if a.zs.length = 2 ∧ b.u = true ∧ b.zs.length = 1 then some ([b.zs.getD 0 0, a.zs.getD 1 0], a.u) else none)
 | _ => none
def Sf.LkE (w : World) (ah : Addr) (x : Option (List Int × Bool)) (e : Ending) (w' : World) : Prop :=
 (match x with
 | some (zs, u) => ∃ d : Dsc, e = .returned (.tuple #[.agg (dcells d.P d.zs.length d.cap d.u), .nilIface]) ∧ d.In w' ∧ d.Fresh w.heap.size ∧ d.zs = zs ∧ d.u = u
 | none => e = .returned (.tuple #[.agg (dcells none 0 0 false), errv ah])) ∧ Below w.heap.size w w'
theorem rowd_one {w : World} {B : Option Addr} {a : Dsc} (hR : Row w B ([a].flatMap Dsc.vals)) : ∃ ad, B = some ad ∧ ad.block < w.heap.size ∧ w.cell? ad = some (.slice a.P a.zs.length a.cap) ∧ w.cell? ⟨ad.block, ad.off + 1, none⟩ = some (.bool a.u) := by
 obtain ⟨ad, h1, h2, h3⟩ := hR (by simp [Dsc.vals])
 have c0 := h3 0 _ rfl
 have c1 := h3 1 _ rfl
 rw [Addr.add_zero'] at c0
 simp only [Addr.add, Nat.reduceEqDiff, if_false] at c1
 exact ⟨ad, h1, h2, c0, c1⟩
theorem cut_slice_run (A : Option Addr) (len cap hi : Nat) (h2 : hi ≤ cap) (W : World) :
  (Instr.slice 22 (.slice A len cap) none (some (.int .i64 (hi : Int))) none).run Tryz.prog W = .ok (.slice A hi cap) W := by
 have hu : Tryz.prog.underlying 22 = some (.slice (Tryz.prog.elem 22)) := by kernel_rfl
 have hz : ∀ W : World, (sizeOf (Tryz.prog.elem 22)).run Tryz.prog W = .ok 1 W := fun _ => by kernel_rfl
 rw [run_slice_h W _ _ _ _ hu _ _ (by omega) (by omega), hz]
 simp only [Result.andThen, sliced, Int.toNat_natCast]
 have ha : A.map (·.add 0) = A := by cases A with
  | none => rfl
  | some x => show some (x.add 0) = some x; rw [Addr.add_zero']
 simp [ha]
set_option maxRecDepth 100000 in
theorem scounts_c (op : Int) (hop : Sf.isOp op) (w : World) :
  Calls Tryz.prog 46 #[.int .i64 op] w fun e w' => e = .returned (.int .i64 (Sf.nins op : Nat)) ∧ w' = w := by
 rcases hop with rfl | rfl | rfl | rfl <;>
 ·go_enter Tryz.func46, Tryz.ntmps46
  go_wp2_with fail
  go_ret
  exact ⟨rfl, rfl⟩
set_option maxRecDepth 100000 in
set_option maxHeartbeats 8000000 in
theorem slook_row (op : Int) (hop : op = 19 ∨ op = 20) (a : Dsc) (B : Option Addr) (cap : Nat) (ah : Addr) (w : World) (hR : Row w B ([a].flatMap Dsc.vals)) (ha : a.In w) (hE : ErrIs w 1 ah) :
  Calls Tryz.prog 48 #[.int .i64 op, .slice B 1 cap] w (Sf.LkE w ah (Sf.lk op [a])) := by
 have HEs := hide hE
 obtain ⟨W0, hW0⟩ : ∃ W, W = w.alloc (.cells #[.slice none 0 0, .bool false] 24) := ⟨_, rfl⟩
 have HZ : Hid (Has W0 w.heap.size 24 [.slice none 0 0, .bool false]) := hide (by rw [hW0]; exact Has.new _ _ _)
 have HB0 : Hid (Below w.heap.size w W0) := hide (by rw [hW0]; exact (Below.refl _ _).alloc (Nat.le_refl _) _)
 have HV := hide (clone_own a.zs a.P a.cap a.u W0 (ha.shp.below HB0.out) ha.ls)
 obtain ⟨ad, hB, had, c0, c1⟩ := rowd_one hR
 subst hB
 have HWF := hide ha.shp.1
 have HW := hide hW0
 obtain ⟨n, hn⟩ : ∃ n, Hid (a.zs.length = n) := ⟨_, hide rfl⟩
 rw [hn.out] at HV c0
 have hln : (n : Int) ≤ 1000000 := by have := ha.ls; have := hn.out; omega
 have h1 : ∀ op, n = 0 → Sf.lk op [a] = none := fun op h => by unfold Sf.lk; exact if_neg (by rw [hn.out]; omega)
 have h2 : ∀ op, ¬ n = 0 → Sf.lk op [a] = some (a.zs.dropLast, true) := fun op h => by unfold Sf.lk; exact if_pos (by rw [hn.out]; omega)
 clear hR ha hE hW0
 rcases hop with rfl | rfl
 ·by_cases h0 : n = 0
  ·rw [h1 _ h0]
   have hn0 : ¬ (0 : Int) < (n : Int) := by omega
   clear h1 h2 h0
   go_enter Tryz.func48, Tryz.ntmps48
   go_wp2_with fail
   rw [← HW.out]
   clear HW c0 c1 had
   refine HV.out.mono ?_
   rintro e w1 ⟨⟨g, c, rest, rfl, hg, hc, hcc, hG, hrl⟩, hb⟩
   have hg1 : w.heap.size + 1 ≤ g := by have h1 := HZ.out.lt; omega
   have hgl := hG.lt
   have HG := hide hG
   replace HZ := hide (HZ.out.below hb HZ.out.lt)
   replace HB0 := hide (HB0.out.trans (hb.mono HB0.out.size))
   obtain ⟨W1, hW1⟩ : ∃ W, W = w1.alloc (.cells #[.slice (some ⟨g, 0, none⟩) n c, .bool a.u] 24) := ⟨_, rfl⟩
   have hbA : Below w1.heap.size w1 W1 := by rw [hW1]; exact (Below.refl _ _).alloc (Nat.le_refl _) _
   have HX : Hid (Has W1 w1.heap.size 24 [.slice (some ⟨g, 0, none⟩) n c, .bool a.u]) := hide (by rw [hW1]; exact Has.new _ _ _)
   have hzl : w.heap.size < w1.heap.size := HZ.out.lt
   have HZ0 := HZ
   have HG0 := HG
   have HBq := HB0
   have y0 := HZ.out.cell 0
   have y1 := HZ.out.cell 1
   have yf0 := HZ.out.frozen 0
   have yf1 := HZ.out.frozen 1
   replace HZ := hide (HZ.out.below hbA HZ.out.lt)
   replace HG := hide (HG.out.below hbA HG.out.lt)
   replace HB0 := hide (HB0.out.trans (hbA.mono HB0.out.size))
   have HW1 := hide hW1
   clear hW1 hbA hb hG HV
   obtain ⟨z0, z1, zf0, zf1, HZf, HFf⟩ := elm_twod HZ.out HB0.out (Nat.le_refl _) (.slice none 0 0) (.bool false)
   have hs5 : W1.drew.cell? ⟨1, 0, none⟩ = some (errv ah) := (HEs.out.below HB0.out).1
   have hglt : 1 < w.heap.size := HEs.out.2.1
   have hS9 := hide (HEs.out.below HFf.out).1
   go_wp2_with fail
   rw [← HW1.out]
   clear HW1 y0 y1 yf0 yf1
   go_region_held3 (fun W => W.cell? ⟨1, 0, none⟩ = some (errv ah))
    (first | exact hs5 | assumption | exact hS9.out)
    (first | fail)
   go_wp2_with fail
   refine bodyPost_ret (results_desc rfl _ _ w.heap.size _ _ rfl HZf.out) rfl ?_
   exact ⟨rfl, HFf.out⟩
  ·rw [h2 _ h0]
   have hn0 : (0 : Int) < (n : Int) := by omega
   obtain ⟨n', hn'⟩ : ∃ x, Hid (n - 1 = x) := ⟨_, hide rfl⟩
   have hn1 : (n : Int) - 1 = (n' : Int) := by rw [← hn'.out]; omega
   have hkk : wrap64 (n' : Int) = (n' : Int) := by clear hn1; rw [← hn'.out]; unfold wrap64; omega
   have hdl : Hid (a.zs.dropLast.length = n') := hide (by rw [List.length_dropLast, hn.out, hn'.out])
   have hne : Hid (a.zs ≠ []) := hide (by intro h; have := hn.out; rw [h] at this; simp at this; omega)
   clear h1 h2
   go_enter Tryz.func48, Tryz.ntmps48
   go_wp2_with fail
   rw [← HW.out]
   clear HW c0 c1 had
   refine HV.out.mono ?_
   rintro e w1 ⟨⟨g, c, rest, rfl, hg, hc, hcc, hG, hrl⟩, hb⟩
   have hg1 : w.heap.size + 1 ≤ g := by have h1 := HZ.out.lt; omega
   have hgl := hG.lt
   have HG := hide hG
   replace HZ := hide (HZ.out.below hb HZ.out.lt)
   replace HB0 := hide (HB0.out.trans (hb.mono HB0.out.size))
   obtain ⟨W1, hW1⟩ : ∃ W, W = w1.alloc (.cells #[.slice (some ⟨g, 0, none⟩) n c, .bool a.u] 24) := ⟨_, rfl⟩
   have hbA : Below w1.heap.size w1 W1 := by rw [hW1]; exact (Below.refl _ _).alloc (Nat.le_refl _) _
   have HX : Hid (Has W1 w1.heap.size 24 [.slice (some ⟨g, 0, none⟩) n c, .bool a.u]) := hide (by rw [hW1]; exact Has.new _ _ _)
   have hzl : w.heap.size < w1.heap.size := HZ.out.lt
   have HZ0 := HZ
   have HG0 := HG
   have HBq := HB0
   have y0 := HZ.out.cell 0
   have y1 := HZ.out.cell 1
   have yf0 := HZ.out.frozen 0
   have yf1 := HZ.out.frozen 1
   replace HZ := hide (HZ.out.below hbA HZ.out.lt)
   replace HG := hide (HG.out.below hbA HG.out.lt)
   replace HB0 := hide (HB0.out.trans (hbA.mono HB0.out.size))
   have HW1 := hide hW1
   clear hW1 hbA hb hG HV
   have hnc : n' ≤ c := by rw [← hn'.out]; have := hn.out; omega
   have hs := fun W => cut_slice_run (some ⟨g, 0, none⟩) n c n' hnc W
   have HGr : Hid (Has w1 g 3 (i64s a.zs.dropLast ++ (i64s [a.zs.getLast hne.out] ++ rest))) := hide (by
    rw [← List.append_assoc]
    unfold i64s
    rw [← List.map_append, List.dropLast_concat_getLast]
    exact HG0.out)
   obtain ⟨z0, z1, zf0, zf1, HZp, HFp⟩ := elm_two HZ0.out HBq.out (Nat.le_refl _) (.slice (some ⟨g, 0, none⟩) n' c) (.bool true)
   have HZf := hide (HZp.out.alloc (.cells #[.slice (some ⟨g, 0, none⟩) n c, .bool a.u] 24))
   have HFf := hide (HFp.out.alloc HFp.out.size (.cells #[.slice (some ⟨g, 0, none⟩) n c, .bool a.u] 24))
   clear HW1 z0 z1 zf0 zf1
   go_wp2_with fail
   refine bodyPost_ret (results_desc rfl _ _ w.heap.size _ _ rfl HZf.out) rfl ?_
   refine ⟨⟨⟨some ⟨g, 0, none⟩, a.zs.dropLast, c, true⟩, by rw [hdl.out]; rfl, ⟨(((HGr.out.far (p := ⟨w.heap.size, 0, none⟩) (by simp; omega) _).far (p := ⟨w.heap.size, 1, none⟩) (by simp; omega) _).alloc _).ri_app (fun q hq => HWF.out q (List.dropLast_subset _ hq)), by rw [hdl.out]; omega⟩, ?_, rfl, rfl⟩, HFf.out⟩
   intro ad h
   cases h
   show w.heap.size ≤ g
   omega
 ·by_cases h0 : n = 0
  ·rw [h1 _ h0]
   have hn0 : ¬ (0 : Int) < (n : Int) := by omega
   clear h1 h2 h0
   go_enter Tryz.func48, Tryz.ntmps48
   go_wp2_with fail
   rw [← HW.out]
   clear HW c0 c1 had
   refine HV.out.mono ?_
   rintro e w1 ⟨⟨g, c, rest, rfl, hg, hc, hcc, hG, hrl⟩, hb⟩
   have hg1 : w.heap.size + 1 ≤ g := by have h1 := HZ.out.lt; omega
   have hgl := hG.lt
   have HG := hide hG
   replace HZ := hide (HZ.out.below hb HZ.out.lt)
   replace HB0 := hide (HB0.out.trans (hb.mono HB0.out.size))
   obtain ⟨W1, hW1⟩ : ∃ W, W = w1.alloc (.cells #[.slice (some ⟨g, 0, none⟩) n c, .bool a.u] 24) := ⟨_, rfl⟩
   have hbA : Below w1.heap.size w1 W1 := by rw [hW1]; exact (Below.refl _ _).alloc (Nat.le_refl _) _
   have HX : Hid (Has W1 w1.heap.size 24 [.slice (some ⟨g, 0, none⟩) n c, .bool a.u]) := hide (by rw [hW1]; exact Has.new _ _ _)
   have hzl : w.heap.size < w1.heap.size := HZ.out.lt
   have HZ0 := HZ
   have HG0 := HG
   have HBq := HB0
   have y0 := HZ.out.cell 0
   have y1 := HZ.out.cell 1
   have yf0 := HZ.out.frozen 0
   have yf1 := HZ.out.frozen 1
   replace HZ := hide (HZ.out.below hbA HZ.out.lt)
   replace HG := hide (HG.out.below hbA HG.out.lt)
   replace HB0 := hide (HB0.out.trans (hbA.mono HB0.out.size))
   have HW1 := hide hW1
   clear hW1 hbA hb hG HV
   obtain ⟨z0, z1, zf0, zf1, HZf, HFf⟩ := elm_twod HZ.out HB0.out (Nat.le_refl _) (.slice none 0 0) (.bool false)
   have hs5 : W1.drew.cell? ⟨1, 0, none⟩ = some (errv ah) := (HEs.out.below HB0.out).1
   have hglt : 1 < w.heap.size := HEs.out.2.1
   have hS9 := hide (HEs.out.below HFf.out).1
   go_wp2_with fail
   rw [← HW1.out]
   clear HW1 y0 y1 yf0 yf1
   go_region_held3 (fun W => W.cell? ⟨1, 0, none⟩ = some (errv ah))
    (first | exact hs5 | assumption | exact hS9.out)
    (first | fail)
   go_wp2_with fail
   refine bodyPost_ret (results_desc rfl _ _ w.heap.size _ _ rfl HZf.out) rfl ?_
   exact ⟨rfl, HFf.out⟩
  ·rw [h2 _ h0]
   have hn0 : (0 : Int) < (n : Int) := by omega
   obtain ⟨n', hn'⟩ : ∃ x, Hid (n - 1 = x) := ⟨_, hide rfl⟩
   have hn1 : (n : Int) - 1 = (n' : Int) := by rw [← hn'.out]; omega
   have hkk : wrap64 (n' : Int) = (n' : Int) := by clear hn1; rw [← hn'.out]; unfold wrap64; omega
   have hdl : Hid (a.zs.dropLast.length = n') := hide (by rw [List.length_dropLast, hn.out, hn'.out])
   have hne : Hid (a.zs ≠ []) := hide (by intro h; have := hn.out; rw [h] at this; simp at this; omega)
   clear h1 h2
   go_enter Tryz.func48, Tryz.ntmps48
   go_wp2_with fail
   rw [← HW.out]
   clear HW c0 c1 had
   refine HV.out.mono ?_
   rintro e w1 ⟨⟨g, c, rest, rfl, hg, hc, hcc, hG, hrl⟩, hb⟩
   have hg1 : w.heap.size + 1 ≤ g := by have h1 := HZ.out.lt; omega
   have hgl := hG.lt
   have HG := hide hG
   replace HZ := hide (HZ.out.below hb HZ.out.lt)
   replace HB0 := hide (HB0.out.trans (hb.mono HB0.out.size))
   obtain ⟨W1, hW1⟩ : ∃ W, W = w1.alloc (.cells #[.slice (some ⟨g, 0, none⟩) n c, .bool a.u] 24) := ⟨_, rfl⟩
   have hbA : Below w1.heap.size w1 W1 := by rw [hW1]; exact (Below.refl _ _).alloc (Nat.le_refl _) _
   have HX : Hid (Has W1 w1.heap.size 24 [.slice (some ⟨g, 0, none⟩) n c, .bool a.u]) := hide (by rw [hW1]; exact Has.new _ _ _)
   have hzl : w.heap.size < w1.heap.size := HZ.out.lt
   have HZ0 := HZ
   have HG0 := HG
   have HBq := HB0
   have y0 := HZ.out.cell 0
   have y1 := HZ.out.cell 1
   have yf0 := HZ.out.frozen 0
   have yf1 := HZ.out.frozen 1
   replace HZ := hide (HZ.out.below hbA HZ.out.lt)
   replace HG := hide (HG.out.below hbA HG.out.lt)
   replace HB0 := hide (HB0.out.trans (hbA.mono HB0.out.size))
   have HW1 := hide hW1
   clear hW1 hbA hb hG HV
   have hnc : n' ≤ c := by rw [← hn'.out]; have := hn.out; omega
   have hs := fun W => cut_slice_run (some ⟨g, 0, none⟩) n c n' hnc W
   have HGr : Hid (Has w1 g 3 (i64s a.zs.dropLast ++ (i64s [a.zs.getLast hne.out] ++ rest))) := hide (by
    rw [← List.append_assoc]
    unfold i64s
    rw [← List.map_append, List.dropLast_concat_getLast]
    exact HG0.out)
   obtain ⟨z0, z1, zf0, zf1, HZp, HFp⟩ := elm_two HZ0.out HBq.out (Nat.le_refl _) (.slice (some ⟨g, 0, none⟩) n' c) (.bool true)
   have HZf := hide (HZp.out.alloc (.cells #[.slice (some ⟨g, 0, none⟩) n c, .bool a.u] 24))
   have HFf := hide (HFp.out.alloc HFp.out.size (.cells #[.slice (some ⟨g, 0, none⟩) n c, .bool a.u] 24))
   clear HW1 z0 z1 zf0 zf1
   go_wp2_with fail
   refine bodyPost_ret (results_desc rfl _ _ w.heap.size _ _ rfl HZf.out) rfl ?_
   refine ⟨⟨⟨some ⟨g, 0, none⟩, a.zs.dropLast, c, true⟩, by rw [hdl.out]; rfl, ⟨(((HGr.out.far (p := ⟨w.heap.size, 0, none⟩) (by simp; omega) _).far (p := ⟨w.heap.size, 1, none⟩) (by simp; omega) _).alloc _).ri_app (fun q hq => HWF.out q (List.dropLast_subset _ hq)), by rw [hdl.out]; omega⟩, ?_, rfl, rfl⟩, HFf.out⟩
   intro ad h
   cases h
   show w.heap.size ≤ g
   omega
set_option maxRecDepth 100000 in
set_option maxHeartbeats 8000000 in
theorem slook_soft (a b : Dsc) (B : Option Addr) (cap : Nat) (ah : Addr) (w : World) (hR : Row w B ([a, b].flatMap Dsc.vals)) (ha : a.In w) (hb : b.In w) (hE : ErrIs w 1 ah) :
  Calls Tryz.prog 48 #[.int .i64 16, .slice B 2 cap] w (Sf.LkE w ah (Sf.lk 16 [a, b])) := by
 have HEs := hide hE
 have HIb := hide (fun W (h : Below w.heap.size w W) => hb.below h)
 obtain ⟨W0, hW0⟩ : ∃ W, W = w.alloc (.cells #[.slice none 0 0, .bool false] 24) := ⟨_, rfl⟩
 have HZ : Hid (Has W0 w.heap.size 24 [.slice none 0 0, .bool false]) := hide (by rw [hW0]; exact Has.new _ _ _)
 have HB0 : Hid (Below w.heap.size w W0) := hide (by rw [hW0]; exact (Below.refl _ _).alloc (Nat.le_refl _) _)
 have HV := hide (clone_own a.zs a.P a.cap a.u W0 (ha.shp.below HB0.out) ha.ls)
 obtain ⟨ad, hB, had, c0, c1, d0, d1⟩ := rowd_two hR
 subst hB
 have HWF := hide ha.shp.1
 have HW := hide hW0
 obtain ⟨n, hn⟩ : ∃ n, Hid (a.zs.length = n) := ⟨_, hide rfl⟩
 obtain ⟨nb, hnb⟩ : ∃ n, Hid (b.zs.length = n) := ⟨_, hide rfl⟩
 obtain ⟨ua, hua⟩ : ∃ x, Hid (a.u = x) := ⟨_, hide rfl⟩
 obtain ⟨ub, hub⟩ : ∃ x, Hid (b.u = x) := ⟨_, hide rfl⟩
 rw [hn.out, hua.out] at HV
 rw [hn.out] at c0
 rw [hua.out] at c1
 rw [hnb.out] at d0
 rw [hub.out] at d1
 have hln : (n : Int) ≤ 1000000 := by have := ha.ls; have := hn.out; omega
 have h1 : (¬ (a.u = false ∧ 0 < a.zs.length ∧ b.zs = [256] ∧ b.u = true)) → Sf.lk 16 [a, b] = none := fun h => by
  unfold Sf.lk
  exact (if_pos rfl).trans (if_neg h)
 have h2 : a.u = false ∧ 0 < a.zs.length ∧ b.zs = [256] ∧ b.u = true → Sf.lk 16 [a, b] = some (a.zs, false) := fun h => by
  unfold Sf.lk
  exact (if_pos rfl).trans (if_pos h)
 clear hR ha hb hE hW0
 cases ua
 case true =>
  rw [h1 (by rw [hua.out]; simp)]
  clear h1 h2
  go_enter Tryz.func48, Tryz.ntmps48
  go_wp2_with fail
  rw [← HW.out]
  clear HW
  refine HV.out.mono ?_
  rintro e w1 ⟨⟨g, c, rest, rfl, hg, hc, hcc, hG, hrl⟩, hb⟩
  have hg1 : w.heap.size + 1 ≤ g := by have h1 := HZ.out.lt; omega
  have hgl := hG.lt
  have HG := hide hG
  replace HZ := hide (HZ.out.below hb HZ.out.lt)
  replace HB0 := hide (HB0.out.trans (hb.mono HB0.out.size))
  have had1 : ad.block < w1.heap.size := Nat.lt_of_lt_of_le had HB0.out.size
  have e2 : w1.cell? ⟨ad.block, ad.off + 2, none⟩ = some (.slice b.P nb b.cap) := (HB0.out.cell (p := ⟨ad.block, ad.off + 2, none⟩) had).trans d0
  have e3 : w1.cell? ⟨ad.block, ad.off + 3, none⟩ = some (.bool ub) := (HB0.out.cell (p := ⟨ad.block, ad.off + 3, none⟩) had).trans d1
  clear c0 c1 d0 d1
  obtain ⟨W1, hW1⟩ : ∃ W, W = (w1.alloc (.cells #[.slice (some ⟨g, 0, none⟩) n c, .bool true] 24)) := ⟨_, rfl⟩
  have hbA : Below w1.heap.size w1 W1 := by rw [hW1]; exact (Below.refl _ _).alloc (Nat.le_refl _) _
  have hzl : w.heap.size < w1.heap.size := HZ.out.lt
  have HX : Hid (Has W1 w1.heap.size 24 [.slice (some ⟨g, 0, none⟩) n c, .bool true]) := hide (by rw [hW1]; exact (Has.new w1 24 [.slice (some ⟨g, 0, none⟩) n c, .bool true]))
  have HZ0 := HZ
  have HG0 := HG
  have HBq := HB0
  have y0 := HZ.out.cell 0
  have y1 := HZ.out.cell 1
  have yf0 := HZ.out.frozen 0
  have yf1 := HZ.out.frozen 1
  replace HZ := hide (HZ.out.below hbA HZ.out.lt)
  replace HG := hide (HG.out.below hbA HG.out.lt)
  replace HB0 := hide (HB0.out.trans (hbA.mono HB0.out.size))
  have HW1 := hide hW1
  have HBA := hide hbA
  clear hW1 hbA hb hG HV
  obtain ⟨z0, z1, zf0, zf1, HZf, HFf⟩ := elm_twod HZ.out HB0.out (Nat.le_refl _) (.slice none 0 0) (.bool false)
  have hs5 : W1.drew.cell? ⟨1, 0, none⟩ = some (errv ah) := (HEs.out.below HB0.out).1
  have hglt : 1 < w.heap.size := HEs.out.2.1
  have hS9 := hide (HEs.out.below HFf.out).1
  go_wp2_with fail
  rw [← HW1.out]
  clear HW1 y0 y1 yf0 yf1
  go_region_held3 (fun W => W.cell? ⟨1, 0, none⟩ = some (errv ah))
   (first | exact hs5 | assumption | exact hS9.out)
   (first | fail)
  go_wp2_with fail
  refine bodyPost_ret (results_desc rfl _ _ w.heap.size _ _ rfl HZf.out) rfl ?_
  exact ⟨rfl, HFf.out⟩
 case false =>
 by_cases h0 : n = 0
 case pos =>
  rw [h1 (by rw [hn.out]; omega)]
  have hn0 : ¬ (0 : Int) < (n : Int) := by omega
  clear h1 h2 h0
  go_enter Tryz.func48, Tryz.ntmps48
  go_wp2_with fail
  rw [← HW.out]
  clear HW
  refine HV.out.mono ?_
  rintro e w1 ⟨⟨g, c, rest, rfl, hg, hc, hcc, hG, hrl⟩, hb⟩
  have hg1 : w.heap.size + 1 ≤ g := by have h1 := HZ.out.lt; omega
  have hgl := hG.lt
  have HG := hide hG
  replace HZ := hide (HZ.out.below hb HZ.out.lt)
  replace HB0 := hide (HB0.out.trans (hb.mono HB0.out.size))
  have had1 : ad.block < w1.heap.size := Nat.lt_of_lt_of_le had HB0.out.size
  have e2 : w1.cell? ⟨ad.block, ad.off + 2, none⟩ = some (.slice b.P nb b.cap) := (HB0.out.cell (p := ⟨ad.block, ad.off + 2, none⟩) had).trans d0
  have e3 : w1.cell? ⟨ad.block, ad.off + 3, none⟩ = some (.bool ub) := (HB0.out.cell (p := ⟨ad.block, ad.off + 3, none⟩) had).trans d1
  clear c0 c1 d0 d1
  obtain ⟨W1, hW1⟩ : ∃ W, W = (w1.alloc (.cells #[.slice (some ⟨g, 0, none⟩) n c, .bool false] 24)) := ⟨_, rfl⟩
  have hbA : Below w1.heap.size w1 W1 := by rw [hW1]; exact (Below.refl _ _).alloc (Nat.le_refl _) _
  have hzl : w.heap.size < w1.heap.size := HZ.out.lt
  have HX : Hid (Has W1 w1.heap.size 24 [.slice (some ⟨g, 0, none⟩) n c, .bool false]) := hide (by rw [hW1]; exact (Has.new w1 24 [.slice (some ⟨g, 0, none⟩) n c, .bool false]))
  have HZ0 := HZ
  have HG0 := HG
  have HBq := HB0
  have y0 := HZ.out.cell 0
  have y1 := HZ.out.cell 1
  have yf0 := HZ.out.frozen 0
  have yf1 := HZ.out.frozen 1
  replace HZ := hide (HZ.out.below hbA HZ.out.lt)
  replace HG := hide (HG.out.below hbA HG.out.lt)
  replace HB0 := hide (HB0.out.trans (hbA.mono HB0.out.size))
  have HW1 := hide hW1
  have HBA := hide hbA
  clear hW1 hbA hb hG HV
  obtain ⟨z0, z1, zf0, zf1, HZf, HFf⟩ := elm_twod HZ.out HB0.out (Nat.le_refl _) (.slice none 0 0) (.bool false)
  have hs5 : W1.drew.cell? ⟨1, 0, none⟩ = some (errv ah) := (HEs.out.below HB0.out).1
  have hglt : 1 < w.heap.size := HEs.out.2.1
  have hS9 := hide (HEs.out.below HFf.out).1
  go_wp2_with fail
  rw [← HW1.out]
  clear HW1 y0 y1 yf0 yf1
  go_region_held3 (fun W => W.cell? ⟨1, 0, none⟩ = some (errv ah))
   (first | exact hs5 | assumption | exact hS9.out)
   (first | fail)
  go_wp2_with fail
  refine bodyPost_ret (results_desc rfl _ _ w.heap.size _ _ rfl HZf.out) rfl ?_
  exact ⟨rfl, HFf.out⟩
 case neg =>
 have hn0 : (0 : Int) < (n : Int) := by omega
 have HSM := hide (fun W P (hW : Below w.heap.size w W) (hP : Ri W P [256]) => same_c b.zs [256] b.P P b.cap 1 b.u true W (HIb.out W hW).shp hP (by have := (HIb.out W hW).ls; omega) (by simp))
 obtain ⟨sm, hsm⟩ : ∃ x, Hid ((decide (b.zs = [256]) && (b.u == true)) = x) := ⟨_, hide rfl⟩
 rw [hsm.out, hnb.out, hub.out] at HSM
 cases sm
 case false =>
  rw [h1 (by intro h; have h5 := hsm.out; rw [h.2.2.1, h.2.2.2] at h5; simp at h5)]
  clear h1 h2
  go_enter Tryz.func48, Tryz.ntmps48
  go_wp2_with fail
  rw [← HW.out]
  clear HW
  refine HV.out.mono ?_
  rintro e w1 ⟨⟨g, c, rest, rfl, hg, hc, hcc, hG, hrl⟩, hb⟩
  have hg1 : w.heap.size + 1 ≤ g := by have h1 := HZ.out.lt; omega
  have hgl := hG.lt
  have HG := hide hG
  replace HZ := hide (HZ.out.below hb HZ.out.lt)
  replace HB0 := hide (HB0.out.trans (hb.mono HB0.out.size))
  have had1 : ad.block < w1.heap.size := Nat.lt_of_lt_of_le had HB0.out.size
  have e2 : w1.cell? ⟨ad.block, ad.off + 2, none⟩ = some (.slice b.P nb b.cap) := (HB0.out.cell (p := ⟨ad.block, ad.off + 2, none⟩) had).trans d0
  have e3 : w1.cell? ⟨ad.block, ad.off + 3, none⟩ = some (.bool ub) := (HB0.out.cell (p := ⟨ad.block, ad.off + 3, none⟩) had).trans d1
  clear c0 c1 d0 d1
  obtain ⟨W1, hW1⟩ : ∃ W, W = ((w1.alloc (.cells #[.slice (some ⟨g, 0, none⟩) n c, .bool false] 24)).alloc (.cells #[.int .i64 256] 3)) := ⟨_, rfl⟩
  have hbA : Below w1.heap.size w1 W1 := by rw [hW1]; exact ((Below.refl _ _).alloc (Nat.le_refl _) _).alloc (by simp) _
  have hzl : w.heap.size < w1.heap.size := HZ.out.lt
  have HX : Hid (Has W1 w1.heap.size 24 [.slice (some ⟨g, 0, none⟩) n c, .bool false]) := hide (by rw [hW1]; exact ((Has.new w1 24 [.slice (some ⟨g, 0, none⟩) n c, .bool false]).alloc _))
  have HS : Hid (Has W1 (w1.heap.size + 1) 3 [.int .i64 256]) := hide (by rw [hW1]; exact (box_at _ 3 [.int .i64 256] _ (by simp)))
  have HZ0 := HZ
  have HG0 := HG
  have HBq := HB0
  have y0 := HZ.out.cell 0
  have y1 := HZ.out.cell 1
  have yf0 := HZ.out.frozen 0
  have yf1 := HZ.out.frozen 1
  replace HZ := hide (HZ.out.below hbA HZ.out.lt)
  replace HG := hide (HG.out.below hbA HG.out.lt)
  replace HB0 := hide (HB0.out.trans (hbA.mono HB0.out.size))
  have HW1 := hide hW1
  have HBA := hide hbA
  clear hW1 hbA hb hG HV
  go_wp2_with fail
  rw [← HW1.out]
  clear HW1 y0 y1 yf0 yf1
  refine (HSM.out _ _ HB0.out (HS.out.ri (zs := [256]) (by decide))).mono ?_
  rintro e w3 ⟨rfl, hb⟩
  replace HZ := hide (HZ.out.below hb HZ.out.lt)
  replace HB0 := hide (HB0.out.trans (hb.mono HB0.out.size))
  clear hb
  obtain ⟨z0, z1, zf0, zf1, HZf, HFf⟩ := elm_twod HZ.out HB0.out (Nat.le_refl _) (.slice none 0 0) (.bool false)
  have hs5 : w3.drew.cell? ⟨1, 0, none⟩ = some (errv ah) := (HEs.out.below HB0.out).1
  have hglt : 1 < w.heap.size := HEs.out.2.1
  have hS9 := hide (HEs.out.below HFf.out).1
  go_wp2_with fail
  go_region_held3 (fun W => W.cell? ⟨1, 0, none⟩ = some (errv ah))
   (first | exact hs5 | assumption | exact hS9.out)
   (first | fail)
  go_wp2_with fail
  refine bodyPost_ret (results_desc rfl _ _ w.heap.size _ _ rfl HZf.out) rfl ?_
  exact ⟨rfl, HFf.out⟩
 case true =>
  have hc : a.u = false ∧ 0 < a.zs.length ∧ b.zs = [256] ∧ b.u = true := by
   have h5 := hsm.out
   simp at h5
   exact ⟨hua.out, by rw [hn.out]; omega, h5.1, h5.2⟩
  rw [h2 hc]
  clear h1 h2 hc
  go_enter Tryz.func48, Tryz.ntmps48
  go_wp2_with fail
  rw [← HW.out]
  clear HW
  refine HV.out.mono ?_
  rintro e w1 ⟨⟨g, c, rest, rfl, hg, hc, hcc, hG, hrl⟩, hb⟩
  have hg1 : w.heap.size + 1 ≤ g := by have h1 := HZ.out.lt; omega
  have hgl := hG.lt
  have HG := hide hG
  replace HZ := hide (HZ.out.below hb HZ.out.lt)
  replace HB0 := hide (HB0.out.trans (hb.mono HB0.out.size))
  have had1 : ad.block < w1.heap.size := Nat.lt_of_lt_of_le had HB0.out.size
  have e2 : w1.cell? ⟨ad.block, ad.off + 2, none⟩ = some (.slice b.P nb b.cap) := (HB0.out.cell (p := ⟨ad.block, ad.off + 2, none⟩) had).trans d0
  have e3 : w1.cell? ⟨ad.block, ad.off + 3, none⟩ = some (.bool ub) := (HB0.out.cell (p := ⟨ad.block, ad.off + 3, none⟩) had).trans d1
  clear c0 c1 d0 d1
  obtain ⟨W1, hW1⟩ : ∃ W, W = ((w1.alloc (.cells #[.slice (some ⟨g, 0, none⟩) n c, .bool false] 24)).alloc (.cells #[.int .i64 256] 3)) := ⟨_, rfl⟩
  have hbA : Below w1.heap.size w1 W1 := by rw [hW1]; exact ((Below.refl _ _).alloc (Nat.le_refl _) _).alloc (by simp) _
  have hzl : w.heap.size < w1.heap.size := HZ.out.lt
  have HX : Hid (Has W1 w1.heap.size 24 [.slice (some ⟨g, 0, none⟩) n c, .bool false]) := hide (by rw [hW1]; exact ((Has.new w1 24 [.slice (some ⟨g, 0, none⟩) n c, .bool false]).alloc _))
  have HS : Hid (Has W1 (w1.heap.size + 1) 3 [.int .i64 256]) := hide (by rw [hW1]; exact (box_at _ 3 [.int .i64 256] _ (by simp)))
  have HZ0 := HZ
  have HG0 := HG
  have HBq := HB0
  have y0 := HZ.out.cell 0
  have y1 := HZ.out.cell 1
  have yf0 := HZ.out.frozen 0
  have yf1 := HZ.out.frozen 1
  replace HZ := hide (HZ.out.below hbA HZ.out.lt)
  replace HG := hide (HG.out.below hbA HG.out.lt)
  replace HB0 := hide (HB0.out.trans (hbA.mono HB0.out.size))
  have HW1 := hide hW1
  have HBA := hide hbA
  clear hW1 hbA hb hG HV
  go_wp2_with fail
  rw [← HW1.out]
  clear HW1 y0 y1 yf0 yf1
  refine (HSM.out _ _ HB0.out (HS.out.ri (zs := [256]) (by decide))).mono ?_
  rintro e w3 ⟨rfl, hb⟩
  replace HZ := hide (HZ.out.below hb HZ.out.lt)
  replace HG := hide (HG.out.below hb HG.out.lt)
  replace HX := hide (HX.out.below hb HX.out.lt)
  replace HB0 := hide (HB0.out.trans (hb.mono HB0.out.size))
  have x0 := HX.out.cell 0
  have x1 := HX.out.cell 1
  clear hb
  obtain ⟨z0, z1, zf0, zf1, HZf, HFf⟩ := elm_two HZ.out HB0.out (Nat.le_refl _) (.slice (some ⟨g, 0, none⟩) n c) (.bool false)
  go_wp2_with fail
  refine bodyPost_ret (results_desc rfl _ _ w.heap.size _ _ rfl HZf.out) rfl ?_
  refine ⟨⟨⟨some ⟨g, 0, none⟩, a.zs, c, false⟩, by rw [hn.out]; rfl, ⟨((HG.out.far (p := ⟨w.heap.size, 0, none⟩) (by simp; omega) _).far (p := ⟨w.heap.size, 1, none⟩) (by simp; omega) _).ri_app HWF.out, by rw [hn.out]; omega⟩, ?_, rfl, rfl⟩, HFf.out⟩
  intro ad h
  cases h
  show w.heap.size ≤ g
  omega
set_option maxRecDepth 100000 in
set_option maxHeartbeats 8000000 in
theorem slook_gather (a b : Dsc) (B : Option Addr) (cap : Nat) (ah : Addr) (w : World) (hR : Row w B ([a, b].flatMap Dsc.vals)) (ha : a.In w) (hb : b.In w) (hE : ErrIs w 1 ah) :
  Calls Tryz.prog 48 #[.int .i64 17, .slice B 2 cap] w (Sf.LkE w ah (Sf.lk 17 [a, b])) := by
 have HEs := hide hE
 have HIb := hide (fun W (h : Below w.heap.size w W) => hb.below h)
 obtain ⟨W0, hW0⟩ : ∃ W, W = w.alloc (.cells #[.slice none 0 0, .bool false] 24) := ⟨_, rfl⟩
 have HZ : Hid (Has W0 w.heap.size 24 [.slice none 0 0, .bool false]) := hide (by rw [hW0]; exact Has.new _ _ _)
 have HB0 : Hid (Below w.heap.size w W0) := hide (by rw [hW0]; exact (Below.refl _ _).alloc (Nat.le_refl _) _)
 have HV := hide (clone_own a.zs a.P a.cap a.u W0 (ha.shp.below HB0.out) ha.ls)
 obtain ⟨ad, hB, had, c0, c1, d0, d1⟩ := rowd_two hR
 subst hB
 have HWF := hide ha.shp.1
 have HW := hide hW0
 obtain ⟨n, hn⟩ : ∃ n, Hid (a.zs.length = n) := ⟨_, hide rfl⟩
 obtain ⟨nb, hnb⟩ : ∃ n, Hid (b.zs.length = n) := ⟨_, hide rfl⟩
 obtain ⟨ua, hua⟩ : ∃ x, Hid (a.u = x) := ⟨_, hide rfl⟩
 obtain ⟨ub, hub⟩ : ∃ x, Hid (b.u = x) := ⟨_, hide rfl⟩
 rw [hn.out, hua.out] at HV
 rw [hn.out] at c0
 rw [hua.out] at c1
 rw [hnb.out] at d0
 rw [hub.out] at d1
 have hln : (n : Int) ≤ 1000000 := by have := ha.ls; have := hn.out; omega
 have h1 : (¬ (a.zs.length = 2 ∧ b.u = true ∧ b.zs.length = 1)) → Sf.lk 17 [a, b] = none := fun h => by
  unfold Sf.lk
  exact (if_neg (by decide)).trans (if_neg h)
 have h2 : a.zs.length = 2 ∧ b.u = true ∧ b.zs.length = 1 → Sf.lk 17 [a, b] = some ([b.zs.getD 0 0, a.zs.getD 1 0], a.u) := fun h => by
  unfold Sf.lk
  exact (if_neg (by decide)).trans (if_pos h)
 clear hR ha hb hE hW0
 by_cases h0 : n = 2
 case neg =>
  rw [h1 (by rw [hn.out]; omega)]
  have hn0 : ((n : Int) == 2) = false := by simp; omega
  clear h1 h2 h0
  go_enter Tryz.func48, Tryz.ntmps48
  go_wp2_with fail
  rw [← HW.out]
  clear HW
  refine HV.out.mono ?_
  rintro e w1 ⟨⟨g, c, rest, rfl, hg, hc, hcc, hG, hrl⟩, hb⟩
  have hg1 : w.heap.size + 1 ≤ g := by have h1 := HZ.out.lt; omega
  have hgl := hG.lt
  have HG := hide hG
  replace HZ := hide (HZ.out.below hb HZ.out.lt)
  replace HB0 := hide (HB0.out.trans (hb.mono HB0.out.size))
  have had1 : ad.block < w1.heap.size := Nat.lt_of_lt_of_le had HB0.out.size
  have e2 : w1.cell? ⟨ad.block, ad.off + 2, none⟩ = some (.slice b.P nb b.cap) := (HB0.out.cell (p := ⟨ad.block, ad.off + 2, none⟩) had).trans d0
  have e3 : w1.cell? ⟨ad.block, ad.off + 3, none⟩ = some (.bool ub) := (HB0.out.cell (p := ⟨ad.block, ad.off + 3, none⟩) had).trans d1
  clear c0 c1 d0 d1
  obtain ⟨W1, hW1⟩ : ∃ W, W = ((w1.alloc (.cells #[.slice (some ⟨g, 0, none⟩) n c, .bool ua] 24)).alloc (.cells #[.slice b.P nb b.cap, .bool ub] 24)) := ⟨_, rfl⟩
  have hbA : Below w1.heap.size w1 W1 := by rw [hW1]; exact ((Below.refl _ _).alloc (Nat.le_refl _) _).alloc (by simp) _
  have hzl : w.heap.size < w1.heap.size := HZ.out.lt
  have HX : Hid (Has W1 w1.heap.size 24 [.slice (some ⟨g, 0, none⟩) n c, .bool ua]) := hide (by rw [hW1]; exact ((Has.new w1 24 [.slice (some ⟨g, 0, none⟩) n c, .bool ua]).alloc _))
  have HY : Hid (Has W1 (w1.heap.size + 1) 24 [.slice b.P nb b.cap, .bool ub]) := hide (by rw [hW1]; exact (box_at _ 24 [.slice b.P nb b.cap, .bool ub] _ (by simp)))
  have HZ0 := HZ
  have HG0 := HG
  have HBq := HB0
  have y0 := HZ.out.cell 0
  have y1 := HZ.out.cell 1
  have yf0 := HZ.out.frozen 0
  have yf1 := HZ.out.frozen 1
  replace HZ := hide (HZ.out.below hbA HZ.out.lt)
  replace HG := hide (HG.out.below hbA HG.out.lt)
  replace HB0 := hide (HB0.out.trans (hbA.mono HB0.out.size))
  have HW1 := hide hW1
  have HBA := hide hbA
  clear hW1 hbA hb hG HV
  obtain ⟨z0, z1, zf0, zf1, HZf, HFf⟩ := elm_twod HZ.out HB0.out (Nat.le_refl _) (.slice none 0 0) (.bool false)
  have hs5 : W1.drew.cell? ⟨1, 0, none⟩ = some (errv ah) := (HEs.out.below HB0.out).1
  have hglt : 1 < w.heap.size := HEs.out.2.1
  have hS9 := hide (HEs.out.below HFf.out).1
  go_wp2_with fail
  rw [← HW1.out]
  clear HW1 y0 y1 yf0 yf1
  go_region_held3 (fun W => W.cell? ⟨1, 0, none⟩ = some (errv ah))
   (first | exact hs5 | assumption | exact hS9.out)
   (first | fail)
  go_wp2_with fail
  refine bodyPost_ret (results_desc rfl _ _ w.heap.size _ _ rfl HZf.out) rfl ?_
  exact ⟨rfl, HFf.out⟩
 case pos =>
 have hn0 : ((n : Int) == 2) = true := by simp; omega
 have HN2 := hide h0
 clear h0
 cases ub
 case false =>
  rw [h1 (by rw [hub.out]; simp)]
  clear h1 h2
  go_enter Tryz.func48, Tryz.ntmps48
  go_wp2_with fail
  rw [← HW.out]
  clear HW
  refine HV.out.mono ?_
  rintro e w1 ⟨⟨g, c, rest, rfl, hg, hc, hcc, hG, hrl⟩, hb⟩
  have hg1 : w.heap.size + 1 ≤ g := by have h1 := HZ.out.lt; omega
  have hgl := hG.lt
  have HG := hide hG
  replace HZ := hide (HZ.out.below hb HZ.out.lt)
  replace HB0 := hide (HB0.out.trans (hb.mono HB0.out.size))
  have had1 : ad.block < w1.heap.size := Nat.lt_of_lt_of_le had HB0.out.size
  have e2 : w1.cell? ⟨ad.block, ad.off + 2, none⟩ = some (.slice b.P nb b.cap) := (HB0.out.cell (p := ⟨ad.block, ad.off + 2, none⟩) had).trans d0
  have e3 : w1.cell? ⟨ad.block, ad.off + 3, none⟩ = some (.bool false) := (HB0.out.cell (p := ⟨ad.block, ad.off + 3, none⟩) had).trans d1
  clear c0 c1 d0 d1
  obtain ⟨W1, hW1⟩ : ∃ W, W = ((w1.alloc (.cells #[.slice (some ⟨g, 0, none⟩) n c, .bool ua] 24)).alloc (.cells #[.slice b.P nb b.cap, .bool false] 24)) := ⟨_, rfl⟩
  have hbA : Below w1.heap.size w1 W1 := by rw [hW1]; exact ((Below.refl _ _).alloc (Nat.le_refl _) _).alloc (by simp) _
  have hzl : w.heap.size < w1.heap.size := HZ.out.lt
  have HX : Hid (Has W1 w1.heap.size 24 [.slice (some ⟨g, 0, none⟩) n c, .bool ua]) := hide (by rw [hW1]; exact ((Has.new w1 24 [.slice (some ⟨g, 0, none⟩) n c, .bool ua]).alloc _))
  have HY : Hid (Has W1 (w1.heap.size + 1) 24 [.slice b.P nb b.cap, .bool false]) := hide (by rw [hW1]; exact (box_at _ 24 [.slice b.P nb b.cap, .bool false] _ (by simp)))
  have HZ0 := HZ
  have HG0 := HG
  have HBq := HB0
  have y0 := HZ.out.cell 0
  have y1 := HZ.out.cell 1
  have yf0 := HZ.out.frozen 0
  have yf1 := HZ.out.frozen 1
  replace HZ := hide (HZ.out.below hbA HZ.out.lt)
  replace HG := hide (HG.out.below hbA HG.out.lt)
  replace HB0 := hide (HB0.out.trans (hbA.mono HB0.out.size))
  have HW1 := hide hW1
  have HBA := hide hbA
  clear hW1 hbA hb hG HV
  obtain ⟨z0, z1, zf0, zf1, HZf, HFf⟩ := elm_twod HZ.out HB0.out (Nat.le_refl _) (.slice none 0 0) (.bool false)
  have hs5 : W1.drew.cell? ⟨1, 0, none⟩ = some (errv ah) := (HEs.out.below HB0.out).1
  have hglt : 1 < w.heap.size := HEs.out.2.1
  have hS9 := hide (HEs.out.below HFf.out).1
  go_wp2_with fail
  rw [← HW1.out]
  clear HW1 y0 y1 yf0 yf1
  go_region_held3 (fun W => W.cell? ⟨1, 0, none⟩ = some (errv ah))
   (first | exact hs5 | assumption | exact hS9.out)
   (first | fail)
  go_wp2_with fail
  refine bodyPost_ret (results_desc rfl _ _ w.heap.size _ _ rfl HZf.out) rfl ?_
  exact ⟨rfl, HFf.out⟩
 case true =>
 by_cases h3 : nb = 1
 case neg =>
  rw [h1 (by rw [hnb.out]; omega)]
  have hn1 : ((nb : Int) == 1) = false := by simp; omega
  clear h1 h2 h3
  go_enter Tryz.func48, Tryz.ntmps48
  go_wp2_with fail
  rw [← HW.out]
  clear HW
  refine HV.out.mono ?_
  rintro e w1 ⟨⟨g, c, rest, rfl, hg, hc, hcc, hG, hrl⟩, hb⟩
  have hg1 : w.heap.size + 1 ≤ g := by have h1 := HZ.out.lt; omega
  have hgl := hG.lt
  have HG := hide hG
  replace HZ := hide (HZ.out.below hb HZ.out.lt)
  replace HB0 := hide (HB0.out.trans (hb.mono HB0.out.size))
  have had1 : ad.block < w1.heap.size := Nat.lt_of_lt_of_le had HB0.out.size
  have e2 : w1.cell? ⟨ad.block, ad.off + 2, none⟩ = some (.slice b.P nb b.cap) := (HB0.out.cell (p := ⟨ad.block, ad.off + 2, none⟩) had).trans d0
  have e3 : w1.cell? ⟨ad.block, ad.off + 3, none⟩ = some (.bool true) := (HB0.out.cell (p := ⟨ad.block, ad.off + 3, none⟩) had).trans d1
  clear c0 c1 d0 d1
  obtain ⟨W1, hW1⟩ : ∃ W, W = ((w1.alloc (.cells #[.slice (some ⟨g, 0, none⟩) n c, .bool ua] 24)).alloc (.cells #[.slice b.P nb b.cap, .bool true] 24)) := ⟨_, rfl⟩
  have hbA : Below w1.heap.size w1 W1 := by rw [hW1]; exact ((Below.refl _ _).alloc (Nat.le_refl _) _).alloc (by simp) _
  have hzl : w.heap.size < w1.heap.size := HZ.out.lt
  have HX : Hid (Has W1 w1.heap.size 24 [.slice (some ⟨g, 0, none⟩) n c, .bool ua]) := hide (by rw [hW1]; exact ((Has.new w1 24 [.slice (some ⟨g, 0, none⟩) n c, .bool ua]).alloc _))
  have HY : Hid (Has W1 (w1.heap.size + 1) 24 [.slice b.P nb b.cap, .bool true]) := hide (by rw [hW1]; exact (box_at _ 24 [.slice b.P nb b.cap, .bool true] _ (by simp)))
  have HZ0 := HZ
  have HG0 := HG
  have HBq := HB0
  have y0 := HZ.out.cell 0
  have y1 := HZ.out.cell 1
  have yf0 := HZ.out.frozen 0
  have yf1 := HZ.out.frozen 1
  replace HZ := hide (HZ.out.below hbA HZ.out.lt)
  replace HG := hide (HG.out.below hbA HG.out.lt)
  replace HB0 := hide (HB0.out.trans (hbA.mono HB0.out.size))
  have HW1 := hide hW1
  have HBA := hide hbA
  clear hW1 hbA hb hG HV
  obtain ⟨z0, z1, zf0, zf1, HZf, HFf⟩ := elm_twod HZ.out HB0.out (Nat.le_refl _) (.slice none 0 0) (.bool false)
  have hs5 : W1.drew.cell? ⟨1, 0, none⟩ = some (errv ah) := (HEs.out.below HB0.out).1
  have hglt : 1 < w.heap.size := HEs.out.2.1
  have hS9 := hide (HEs.out.below HFf.out).1
  go_wp2_with fail
  rw [← HW1.out]
  clear HW1 y0 y1 yf0 yf1
  go_region_held3 (fun W => W.cell? ⟨1, 0, none⟩ = some (errv ah))
   (first | exact hs5 | assumption | exact hS9.out)
   (first | fail)
  go_wp2_with fail
  refine bodyPost_ret (results_desc rfl _ _ w.heap.size _ _ rfl HZf.out) rfl ?_
  exact ⟨rfl, HFf.out⟩
 case pos =>
  have hn1 : ((nb : Int) == 1) = true := by simp; omega
  rw [h2 ⟨hn.out.trans HN2.out, hub.out, hnb.out.trans h3⟩]
  have HNB1 := hide h3
  have HWFb := hide (HIb.out w (Below.refl _ _)).shp.1
  clear h1 h2 h3
  go_enter Tryz.func48, Tryz.ntmps48
  go_wp2_with fail
  rw [← HW.out]
  clear HW
  refine HV.out.mono ?_
  rintro e w1 ⟨⟨g, c, rest, rfl, hg, hc, hcc, hG, hrl⟩, hb⟩
  have hg1 : w.heap.size + 1 ≤ g := by have h1 := HZ.out.lt; omega
  have hgl := hG.lt
  have HG := hide hG
  replace HZ := hide (HZ.out.below hb HZ.out.lt)
  replace HB0 := hide (HB0.out.trans (hb.mono HB0.out.size))
  have had1 : ad.block < w1.heap.size := Nat.lt_of_lt_of_le had HB0.out.size
  have e2 : w1.cell? ⟨ad.block, ad.off + 2, none⟩ = some (.slice b.P nb b.cap) := (HB0.out.cell (p := ⟨ad.block, ad.off + 2, none⟩) had).trans d0
  have e3 : w1.cell? ⟨ad.block, ad.off + 3, none⟩ = some (.bool true) := (HB0.out.cell (p := ⟨ad.block, ad.off + 3, none⟩) had).trans d1
  clear c0 c1 d0 d1
  obtain ⟨W1, hW1⟩ : ∃ W, W = ((w1.alloc (.cells #[.slice (some ⟨g, 0, none⟩) n c, .bool ua] 24)).alloc (.cells #[.slice b.P nb b.cap, .bool true] 24)) := ⟨_, rfl⟩
  have hbA : Below w1.heap.size w1 W1 := by rw [hW1]; exact ((Below.refl _ _).alloc (Nat.le_refl _) _).alloc (by simp) _
  have hzl : w.heap.size < w1.heap.size := HZ.out.lt
  have HX : Hid (Has W1 w1.heap.size 24 [.slice (some ⟨g, 0, none⟩) n c, .bool ua]) := hide (by rw [hW1]; exact ((Has.new w1 24 [.slice (some ⟨g, 0, none⟩) n c, .bool ua]).alloc _))
  have HY : Hid (Has W1 (w1.heap.size + 1) 24 [.slice b.P nb b.cap, .bool true]) := hide (by rw [hW1]; exact (box_at _ 24 [.slice b.P nb b.cap, .bool true] _ (by simp)))
  have HZ0 := HZ
  have HG0 := HG
  have HBq := HB0
  have y0 := HZ.out.cell 0
  have y1 := HZ.out.cell 1
  have yf0 := HZ.out.frozen 0
  have yf1 := HZ.out.frozen 1
  replace HZ := hide (HZ.out.below hbA HZ.out.lt)
  replace HG := hide (HG.out.below hbA HG.out.lt)
  replace HB0 := hide (HB0.out.trans (hbA.mono HB0.out.size))
  have HW1 := hide hW1
  have HBA := hide hbA
  clear hW1 hbA hb hG HV
  go_wp2_with fail
  rw [← HW1.out]
  clear HW1 y0 y1 yf0 yf1 e2 e3
  obtain ⟨v0, hv0⟩ : ∃ x, Hid (b.zs.getD 0 0 = x) := ⟨_, hide rfl⟩
  obtain ⟨v1, hv1⟩ : ∃ x, Hid (a.zs.getD 1 0 = x) := ⟨_, hide rfl⟩
  rw [hv0.out, hv1.out]
  obtain ⟨pb, q0, hpb, eq0, cb0⟩ := ri_at (HIb.out w (Below.refl _ _)).shp 0 (by rw [hnb.out, HNB1.out]; omega)
  have hq0 : q0 = v0 := by rw [← hv0.out, List.getD_eq_getElem?_getD, eq0.out]; rfl
  subst hq0
  rw [Addr.add_zero'] at cb0
  have hpbl : pb.block < w.heap.size := by
   obtain ⟨ad', h1, h2, -⟩ := (HIb.out w (Below.refl _ _)).shp.2 (by intro h; have h3 := hnb.out; rw [h, HNB1.out] at h3; simp at h3)
   rw [hpb] at h1
   rw [Option.some.inj h1]
   exact h2
  have hv1a : a.zs[1]? = some v1 := by rw [← hv1.out, List.getD_eq_getElem?_getD, List.getElem?_eq_getElem (by rw [hn.out, HN2.out]; omega)]; rfl
  have HW1m := hide (HWF.out v1 (List.mem_of_getElem? hv1a))
  have HW0m := hide (HWFb.out q0 (List.mem_of_getElem? eq0.out))
  have ga1 : W1.cell? ⟨g, 1, none⟩ = some (.int .i64 v1) := by
   rw [HG.out.cell, List.getElem?_append_left (by unfold i64s; rw [List.length_map, hn.out, HN2.out]; omega)]
   unfold i64s
   rw [List.getElem?_map, hv1a]
   rfl
  rw [hpb] at HY
  have hp1 : pb.block < W1.heap.size := Nat.lt_of_lt_of_le hpbl HB0.out.size
  have hL : w1.heap.size + 1 < W1.heap.size := HY.out.lt
  have hgL : g < W1.heap.size := by omega
  have HS0 : SfC5 ⟨w1.heap.size + 1, 0, none⟩ pb ⟨w1.heap.size, 0, none⟩ ⟨g, 1, none⟩ ⟨w1.heap.size, 1, none⟩ (.slice (some pb) nb b.cap) (.int .i64 q0) (.slice (some ⟨g, 0, none⟩) n c) (.int .i64 v1) (.bool ua) W1 := ⟨HY.out.cell 0, (HB0.out.cell hpbl).trans cb0, HX.out.cell 0, ga1, HX.out.cell 1⟩
  have hS0 : SfC5 ⟨w1.heap.size + 1, 0, none⟩ pb ⟨w1.heap.size, 0, none⟩ ⟨g, 1, none⟩ ⟨w1.heap.size, 1, none⟩ (.slice (some pb) nb b.cap) (.int .i64 q0) (.slice (some ⟨g, 0, none⟩) n c) (.int .i64 v1) (.bool ua) W1.drew := HS0
  have hbA : Below W1.heap.size W1 (W1.alloc (.cells #[.int .i64 q0, .int .i64 v1] 3)) := (Below.refl _ _).alloc (Nat.le_refl _) _
  have hS1 : SfC5 ⟨w1.heap.size + 1, 0, none⟩ pb ⟨w1.heap.size, 0, none⟩ ⟨g, 1, none⟩ ⟨w1.heap.size, 1, none⟩ (.slice (some pb) nb b.cap) (.int .i64 q0) (.slice (some ⟨g, 0, none⟩) n c) (.int .i64 v1) (.bool ua) (W1.alloc (.cells #[.int .i64 q0, .int .i64 v1] 3)).drew := SfC5.keep HS0 hL hp1 (by show w1.heap.size < _; omega) hgL (by show w1.heap.size < _; omega) hbA.drew
  obtain ⟨z0, z1, zf0, zf1, HZp, HFp⟩ := elm_two HZ.out HB0.out (Nat.le_refl _) (.slice (some ⟨W1.heap.size, 0, none⟩) 2 2) (.bool ua)
  have hS2 := SfC5.far (SfC5.far HS0 (b := w.heap.size) (by simp; omega) (by omega) (by simp; omega) (by simp; omega) (by simp; omega) 0 (.slice (some ⟨W1.heap.size, 0, none⟩) 2 2)) (b := w.heap.size) (by simp; omega) (by omega) (by simp; omega) (by simp; omega) (by simp; omega) 1 (.bool ua)
  have hS3 := hide (SfC5.keep hS2 (by simp; omega) (by simp; omega) (by simp; omega) (by simp; omega) (by simp; omega) (((Below.refl _ _).alloc (Nat.le_refl _) (.cells #[.int .i64 q0, .int .i64 v1] 3)).drew))
  have HZf := hide ((HZp.out.alloc (.cells #[.int .i64 q0, .int .i64 v1] 3)).drewN 1)
  have HFf := hide ((HFp.out.alloc HFp.out.size (.cells #[.int .i64 q0, .int .i64 v1] 3)).drew)
  obtain ⟨s0, s1, sf0, sf1, HZg, HFg⟩ := elm_two ((HZ.out.alloc (.cells #[.int .i64 q0, .int .i64 v1] 3)).drewN 1) (HB0.out.alloc HB0.out.size (.cells #[.int .i64 q0, .int .i64 v1] 3)).drew (Nat.le_refl _) (.slice (some ⟨W1.heap.size, 0, none⟩) 2 2) (.bool ua)
  have hS4 := hide (SfC5.far (SfC5.far hS1 (b := w.heap.size) (by simp; omega) (by omega) (by simp; omega) (by simp; omega) (by simp; omega) 0 (.slice (some ⟨W1.heap.size, 0, none⟩) 2 2)) (b := w.heap.size) (by simp; omega) (by omega) (by simp; omega) (by simp; omega) (by simp; omega) 1 (.bool ua))
  have n1 : w.heap.size < W1.heap.size := HZ.out.lt
  have n2 : ¬ w.heap.size = W1.heap.size := by omega
  have n3 : ¬ W1.heap.size = w.heap.size := by omega
  have b1 : (1 : Int) < (n : Int) := by have := HN2.out; omega
  have b2 : 1 < n := by omega
  have b3 : (0 : Int) < (nb : Int) := by have := HNB1.out; omega
  have b4 : 0 < nb := by omega
  clear HS0 hbA eq0 cb0 hv1a ga1 hpb hS2
  go_wp2_with fail
  go_region_held3 (fun W => W.cell? ⟨w1.heap.size + 1, 0, none⟩ = some (.slice (some pb) nb b.cap) ∧ W.cell? pb = some (.int .i64 q0) ∧ W.cell? ⟨w1.heap.size, 0, none⟩ = some (.slice (some ⟨g, 0, none⟩) n c) ∧ W.cell? ⟨g, 1, none⟩ = some (.int .i64 v1) ∧ W.cell? ⟨w1.heap.size, 1, none⟩ = some (.bool ua))
   (first | exact hS0 | exact hS1 | exact hS3.out | exact hS4.out | assumption)
   (first | fail)
  go_wp2_with fail
  refine bodyPost_ret (results_desc rfl _ _ w.heap.size _ _ rfl HZf.out) rfl ?_
  refine ⟨⟨⟨some ⟨W1.heap.size, 0, none⟩, [q0, v1], 2, ua⟩, rfl, ⟨((box_at _ 3 (i64s [q0, v1]) W1.heap.size (by simp)).drewN 1).ri (fun q hq => ?_), by simp⟩, ?_, ?_, hua.out.symm⟩, HFf.out⟩
  ·simp at hq
   rcases hq with rfl | rfl
   ·exact HW0m.out
   ·exact HW1m.out
  ·intro ad h
   cases h
   show w.heap.size ≤ W1.heap.size
   omega
  ·rw [hv0.out, hv1.out]
def Sf.lkcode : Option (List Int × Bool) → Nat
 | none => 101
 | some x => Shp.code x.1
def Sf.code (op : Int) (ds : List Dsc) : Nat :=
 if ds.length ≠ Sf.nins op then 101 else if Shp.firstbad ds ≠ 0 then Shp.firstbad ds
 else Sf.lkcode (Sf.lk op ds)
def Sf.shape (op : Int) (ds : List Dsc) : List Int := if Sf.code op ds = 0 then ((Sf.lk op ds).map (·.1)).getD [] else []
def Sf.kind (op : Int) (ds : List Dsc) : Bool := if Sf.code op ds = 0 then ((Sf.lk op ds).map (·.2)).getD false else false
theorem Sf.bad {op : Int} {ds : List Dsc} (h : Sf.code op ds ≠ 0) : Sf.shape op ds = [] ∧ Sf.kind op ds = false := by
 unfold Sf.shape Sf.kind
 rw [if_neg h, if_neg h]
 exact ⟨rfl, rfl⟩
theorem Sf.code_known (op : Int) (ds : List Dsc) : Cel.known (Sf.code op ds) := by
 unfold Sf.code
 split
 ·exact .inr (.inl rfl)
 split
 ·exact Cel.known_bad _
 cases Sf.lk op ds with
 | none => exact .inr (.inl rfl)
 | some x => exact Cel.known_shp _
theorem Sf.nins_pos (op : Int) : 1 ≤ Sf.nins op ∧ Sf.nins op ≤ 2 := by unfold Sf.nins; split <;> omega
theorem slook_c (op : Int) (hop : Sf.isOp op) (ds : List Dsc) (B : Option Addr) (cap : Nat) (ah : Addr) (w : World) (hn : ds.length = Sf.nins op) (hR : Row w B (ds.flatMap Dsc.vals)) (hI : ∀ d ∈ ds, d.In w) (hE : ErrIs w 1 ah) :
  Calls Tryz.prog 48 #[.int .i64 op, .slice B (Sf.nins op) cap] w (Sf.LkE w ah (Sf.lk op ds)) := by
 have two : Sf.nins op = 2 → ∃ a b, ds = [a, b] := fun h => by
  rw [h] at hn
  match ds, hn with
  | [a, b], _ => exact ⟨a, b, rfl⟩
 have one : Sf.nins op = 1 → ∃ a, ds = [a] := fun h => by
  rw [h] at hn
  match ds, hn with
  | [a], _ => exact ⟨a, rfl⟩
 rcases hop with rfl | rfl | rfl | rfl
 ·obtain ⟨a, b, rfl⟩ := two rfl
  exact slook_soft a b B cap ah w hR (hI a (by simp)) (hI b (by simp)) hE
 ·obtain ⟨a, b, rfl⟩ := two rfl
  exact slook_gather a b B cap ah w hR (hI a (by simp)) (hI b (by simp)) hE
 ·obtain ⟨a, rfl⟩ := one rfl
  exact slook_row 19 (.inl rfl) a B cap ah w hR (hI a (by simp)) hE
 ·obtain ⟨a, rfl⟩ := one rfl
  exact slook_row 20 (.inr rfl) a B cap ah w hR (hI a (by simp)) hE
set_option maxRecDepth 100000 in
set_option maxHeartbeats 8000000 in
theorem sresult_c (op : Int) (hop : Sf.isOp op) (ds : List Dsc) (B : Option Addr) (cap : Nat) (ah am ar : Addr) (w : World) (hR : Row w B (ds.flatMap Dsc.vals)) (hI : ∀ d ∈ ds, d.In w) (hl : ds.length ≤ 1000000) (hE : E3 w ah am ar) :
  Calls Tryz.prog 14 #[.int .i64 op, .slice B ds.length cap] w (DscE w ah am ar (Sf.shape op ds) (Sf.kind op ds) (Sf.code op ds)) := by
 have HEh := hide hE.1
 obtain ⟨W0, hW0⟩ : ∃ W, W = w.alloc (.cells #[.slice none 0 0, .bool false] 24) := ⟨_, rfl⟩
 have HZ : Hid (Has W0 w.heap.size 24 [.slice none 0 0, .bool false]) := hide (by rw [hW0]; exact Has.new _ _ _)
 have HB : Hid (Below w.heap.size w W0) := hide (by rw [hW0]; exact (Below.refl _ _).alloc (Nat.le_refl _) _)
 have V0 := hide (fun W => scounts_c op hop W)
 have V1 : Hid (∀ (i : Nat) (d : Dsc), ds[i]? = some d → ∀ W, Below w.heap.size w W → Calls Tryz.prog 47 #[.agg (dcells d.P d.zs.length d.cap d.u)] W fun e w' => e = .returned (Shp.err am ar (Shp.code d.zs)) ∧ Below W.heap.size W w') := hide fun i d hd W hb => by
  have h := (hI d (List.mem_of_getElem? hd)).below hb
  exact valid_c d.zs d.P d.cap d.u am ar W h.shp (by have := h.ls; omega) (hE.2.below hb)
 have VL := hide (fun (hn : ds.length = Sf.nins op) W (hb : Below w.heap.size w W) => slook_c op hop ds B cap ah W hn (hR.below hb) (fun d hd => (hI d hd).below hb) (hE.1.below hb))
 have VD := hide (fun (d : Dsc) W (hd : d.In W) (hb : Below w.heap.size w W) => valid_c d.zs d.P d.cap d.u am ar W hd.shp (by have := hd.ls; omega) (hE.2.below hb))
 have hnp := Sf.nins_pos op
 have HC : Hid (Sf.code op ds = if ds.length ≠ Sf.nins op then 101 else if Shp.firstbad ds ≠ 0 then Shp.firstbad ds else Sf.lkcode (Sf.lk op ds)) := hide rfl
 have HBD := hide (fun h : Sf.code op ds ≠ 0 => Sf.bad h)
 have HGD : Hid (Sf.code op ds = 0 → Sf.shape op ds = ((Sf.lk op ds).map (·.1)).getD [] ∧ Sf.kind op ds = ((Sf.lk op ds).map (·.2)).getD false) := hide (fun h => by
  unfold Sf.shape Sf.kind
  rw [if_pos h, if_pos h]
  exact ⟨rfl, rfl⟩)
 have HR := hide hR
 have HW := hide hW0
 obtain ⟨ni, hni⟩ : ∃ n, Hid (Sf.nins op = n) := ⟨_, hide rfl⟩
 obtain ⟨nd, hnd⟩ : ∃ n, Hid (ds.length = n) := ⟨_, hide rfl⟩
 obtain ⟨lk, hlk⟩ : ∃ n, Hid (Sf.lk op ds = n) := ⟨_, hide rfl⟩
 obtain ⟨K, hK⟩ : ∃ n, Hid (Sf.code op ds = n) := ⟨_, hide rfl⟩
 obtain ⟨SH, hSH⟩ : ∃ n, Hid (Sf.shape op ds = n) := ⟨_, hide rfl⟩
 obtain ⟨KD, hKD⟩ : ∃ n, Hid (Sf.kind op ds = n) := ⟨_, hide rfl⟩
 rw [hni.out] at V0 VL hnp HC
 rw [hnd.out] at hl VL HC ⊢
 rw [hlk.out] at VL HC HGD
 rw [hK.out] at HC HBD HGD ⊢
 rw [hSH.out] at HBD HGD ⊢
 rw [hKD.out] at HBD HGD ⊢
 have hn0 : ((ni : Int) == 0) = false := by simp; omega
 have hnl : (nd : Int) ≤ 1000000 := by omega
 clear hE hR hI hW0 hop
 by_cases hlen : nd = ni
 case neg =>
  have hcd : K = 101 := by rw [HC.out, if_pos hlen]
  have hqj : ((nd : Int) != (ni : Int)) = true := by simp; omega
  have hb := HBD.out (by omega)
  have HCD := hide hcd
  have HSD := hide hb.1
  have HKD := hide hb.2
  clear hcd hb hlen hSH hKD hK
  go_enter Tryz.func14, Tryz.ntmps14
  go_wp2_with fail
  rw [← HW.out]
  clear HW
  refine (V0.out _).mono ?_
  rintro e wq ⟨rfl, hw⟩
  have hw := hw.symm
  subst hw
  clear V0
  obtain ⟨z0, z1, zf0, zf1, HZf, HFf⟩ := elm_twod HZ.out HB.out (Nat.le_refl _) (.slice none 0 0) (.bool false)
  have hs5 : W0.drew.cell? ⟨1, 0, none⟩ = some (errv ah) := (HEh.out.below HB.out).1
  have hglt : 1 < w.heap.size := HEh.out.2.1
  have hS9 := hide (HEh.out.below HFf.out).1
  go_wp2_with fail
  go_region_held3 (fun W => W.cell? ⟨1, 0, none⟩ = some (errv ah))
   (first | exact hs5 | assumption | exact hS9.out)
   (first | fail)
  go_wp2_with fail
  refine bodyPost_ret (results_desc rfl _ _ w.heap.size _ _ rfl HZf.out) rfl ?_
  rw [HCD.out, HSD.out, HKD.out]
  exact DscE.bad rfl HFf.out
 case pos =>
 subst hlen
 have HC1 : Hid (K = if Shp.firstbad ds ≠ 0 then Shp.firstbad ds else Sf.lkcode lk) := hide (by have h := HC.out; rw [if_neg (by omega)] at h; exact h)
 have hqj : ((nd : Int) != (nd : Int)) = false := by simp
 clear HC
 go_enter Tryz.func14, Tryz.ntmps14
 go_wp2_with fail
 rw [← HW.out]
 clear HW
 refine (V0.out _).mono ?_
 rintro e wq ⟨rfl, hw⟩
 have hw := hw.symm
 subst hw
 clear V0
 go_wp2_with fail
 go_loopw [27] (fun k wr => ∃ i : Nat, i ≤ nd ∧ k = .int .i64 i ∧ Hid (Has wr w.heap.size 24 [.slice none 0 0, .bool false]) ∧ Hid (Below w.heap.size w wr) ∧ Hid (∀ (j : Nat) x, j < i → ds[j]? = some x → Shp.code x.zs = 0)) (fun k _ => nd - (intOf k).toNat)
 case atStart => exact ⟨0, by omega, rfl, HZ, HB, hide (fun j x hj => by omega)⟩
 case round =>
  clear HZ HB
  obtain ⟨i, hi, rfl, HZ, HB, HF⟩ := hrel
  by_cases hlt : i < nd
  ·obtain ⟨ad, d, hBad, had, hd, c0, c1⟩ := row_dsc (HR.out.below HB.out) i (by rw [hnd.out]; exact hlt)
   subst hBad
   have HBx := hide (HB.out.alloc HB.out.size (.cells d.vals.toArray 24))
   have HZx := hide (HZ.out.alloc (.cells d.vals.toArray 24))
   have HV := hide (V1.out i d hd.out _ HBx.out)
   have hcs := Shp.code_is d.zs
   clear HZ HB
   go_wp2_with fail
   clear c0 c1 had
   refine HV.out.mono ?_
   rintro e w1 ⟨rfl, hb⟩
   have HB := hide (HBx.out.trans (hb.mono HBx.out.size))
   have HZ := hide (HZx.out.below hb HZx.out.lt)
   clear HV HBx HZx hb
   by_cases hf : Shp.code d.zs = 0
   ·rw [hf, show Shp.err am ar 0 = .nilIface from rfl]
    have HFt := hide hf
    clear hcs hf
    go_wp2_with fail
    go_roundw
    case rel =>
     refine ⟨i + 1, by omega, by go_num, HZ, HB, hide (fun j x hj hx => ?_)⟩
     rcases Nat.lt_or_ge j i with h | h
     ·exact HF.out j x h hx
     ·obtain rfl : j = i := by omega
      rw [hd.out] at hx
      obtain rfl := Option.some.inj hx
      exact HFt.out
    case measure => simp [intOf]; omega
   ·have hE := Shp.err_v (am := am) (ar := ar) hcs hf
    have hR2 : K = Shp.code d.zs := by
     have h := Shp.first_at ds i d hd.out HF.out hf
     rw [HC1.out, h, if_pos hf]
    have hb := HBD.out (by rw [hR2]; exact hf)
    have HSD := hide hb.1
    have HKD := hide hb.2
    have HCD := hide hR2
    have r1 := run_neqerr hE
    have r2 := run_neqguard hE
    have hx : Tens.err ah am ar (Shp.code d.zs) = Shp.err am ar (Shp.code d.zs) := by
     unfold Tens.err
     rw [if_neg (by omega)]
    obtain ⟨ev, hev⟩ : ∃ ev, Hid (Shp.err am ar (Shp.code d.zs) = ev) := ⟨_, hide rfl⟩
    rw [hev.out] at r1 r2 hx ⊢
    have HX := hide hx
    obtain ⟨z0, z1, zf0, zf1, HZf, HFf⟩ := elm_two HZ.out HB.out (Nat.le_refl _) (.slice none 0 0) (.bool false)
    clear hcs hf hE hR2 HZ HB V1 hx hb
    go_wp2_with fail
    refine bodyPost_ret (results_desc rfl _ _ w.heap.size _ _ rfl HZf.out) rfl ?_
    rw [HCD.out, HSD.out, HKD.out]
    exact DscE.bad (by rw [HX.out]; rfl) HFf.out
  ·obtain rfl : i = nd := by omega
   have hfb := Shp.first_none ds fun j x hx => HF.out j x (by have := (List.getElem?_eq_some_iff.1 hx).1; rw [hnd.out] at this; exact this) hx
   have hc0 := HC1.out
   rw [hfb, if_neg (by simp)] at hc0
   have HC2 := hide hc0
   clear HF HC1 hfb hlt hi V1 hc0
   have HL := hide (VL.out (by first | trivial | rfl) wr HB.out)
   have hzl : w.heap.size < wr.heap.size := HZ.out.lt
   clear VL
   go_wp2_with fail
   refine HL.out.mono ?_
   rintro e w1 ⟨hL, hb⟩
   clear HL
   cases lk with
   | none =>
    have hL : e = .returned (.tuple #[.agg (dcells none 0 0 false), errv ah]) := hL
    subst hL
    have hcd : K = 101 := HC2.out
    have hbd := HBD.out (by omega)
    have HCD := hide hcd
    have HSD := hide hbd.1
    have HKD := hide hbd.2
    have HZ1 := hide ((HZ.out.below hb HZ.out.lt).alloc (.cells #[.slice none 0 0, .bool false] 24))
    have hB1 := HB.out.trans (hb.mono HB.out.size)
    have HB1 := hide (hB1.alloc hB1.size (.cells #[.slice none 0 0, .bool false] 24))
    have hz := HZ.out.below hb HZ.out.lt
    have hz1 := hz.lt
    have y0 := hz.cell 0
    have y1 := hz.cell 1
    have yf0 := hz.frozen 0
    have yf1 := hz.frozen 1
    have hE : ErrV (errv ah) := .inl ⟨ah, rfl⟩
    have r1 := run_neqerr hE
    have r2 := run_neqguard hE
    obtain ⟨z0, z1, zf0, zf1, HZf, HFf⟩ := elm_two hz hB1 (Nat.le_refl _) (.slice none 0 0) (.bool false)
    have HZq := hide (HZf.out.alloc (.cells #[.slice none 0 0, .bool false] 24))
    have HFq := hide (HFf.out.alloc HFf.out.size (.cells #[.slice none 0 0, .bool false] 24))
    clear hcd hbd hb hB1 hz hE
    go_wp2_with fail
    refine bodyPost_ret (results_desc rfl _ _ w.heap.size _ _ rfl HZq.out) rfl ?_
    rw [HCD.out, HSD.out, HKD.out]
    exact DscE.bad rfl HFq.out
   | some x =>
    obtain ⟨zs, u⟩ := x
    obtain ⟨d, rfl, hdi, hdf, hdz, hdu⟩ := hL
    have hc2 : K = Shp.code zs := HC2.out
    have HK2 := hide hc2
    have hz := HZ.out.below hb HZ.out.lt
    have hB1 := HB.out.trans (hb.mono HB.out.size)
    obtain ⟨W2, hW2⟩ : ∃ W, W = w1.alloc (.cells #[.slice d.P d.zs.length d.cap, .bool d.u] 24) := ⟨_, rfl⟩
    have hbA : Below w1.heap.size w1 W2 := by rw [hW2]; exact (Below.refl _ _).alloc (Nat.le_refl _) _
    have HX2 : Hid (Has W2 w1.heap.size 24 [.slice d.P d.zs.length d.cap, .bool d.u]) := hide (by rw [hW2]; exact Has.new _ _ _)
    have HZ2 := hide (hz.below hbA hz.lt)
    have HB2 := hide (hB1.trans (hbA.mono hB1.size))
    have HDI := hide (hdi.below hbA)
    have HDF := hide hdf
    have HDZ := hide hdz
    have HDU := hide hdu
    have HVD := hide (VD.out d W2 HDI.out HB2.out)
    have hcs := Shp.code_is zs
    rw [hdz] at HVD
    have hws : w1.heap.size < W2.heap.size := by rw [hW2]; simp
    have HW2 := hide hW2
    clear hW2 hbA hdi hdf hdz hdu hz hB1 hb HC2 hc2
    go_wp2_with fail
    rw [← HW2.out]
    clear HW2
    rw [← HDZ.out] at HVD
    refine HVD.out.mono ?_
    rintro e w3 ⟨rfl, hb⟩
    rw [HDZ.out]
    replace HZ2 := hide (HZ2.out.below hb HZ2.out.lt)
    replace HX2 := hide (HX2.out.below hb HX2.out.lt)
    replace HB2 := hide (HB2.out.trans (hb.mono HB2.out.size))
    replace HDI := hide (HDI.out.below hb)
    have hzl3 : w.heap.size < w3.heap.size := HZ2.out.lt
    clear hb HVD
    obtain ⟨kz, hkz⟩ : ∃ n, Hid (Shp.code zs = n) := ⟨_, hide rfl⟩
    rw [hkz.out] at hcs HK2 ⊢
    by_cases hf : kz = 0
    ·subst hf
     have hg := HGD.out HK2.out
     have HSD : Hid (SH = zs) := hide hg.1
     have HKD : Hid (KD = u) := hide hg.2
     have x0 := HX2.out.cell 0
     have x1 := HX2.out.cell 1
     obtain ⟨z0, z1, zf0, zf1, HZf, HFf⟩ := elm_two HZ2.out HB2.out (Nat.le_refl _) (.slice d.P d.zs.length d.cap) (.bool d.u)
     have HDn := hide (HDI.out.far2 (b := w.heap.size) (n := wr.heap.size) HDF.out (by omega) (.slice d.P d.zs.length d.cap) (.bool d.u))
     have hs1 : Shp.err am ar 0 = .nilIface := rfl
     rw [hs1]
     clear hcs hg hs1
     go_wp2_with fail
     refine bodyPost_ret (results_desc rfl _ _ w.heap.size _ _ rfl HZf.out) rfl ?_
     rw [HK2.out, HSD.out, HKD.out]
     exact ⟨⟨d, rfl, HDn.out, fun ad h => by have h1 := HDF.out ad h; omega, HDZ.out, HDU.out⟩, HFf.out⟩
    ·have hE := Shp.err_v (am := am) (ar := ar) hcs hf
     have hbd := HBD.out (by rw [HK2.out]; exact hf)
     have HSD := hide hbd.1
     have HKD := hide hbd.2
     have r1 := run_neqerr hE
     have r2 := run_neqguard hE
     have hx : Tens.err ah am ar kz = Shp.err am ar kz := by
      unfold Tens.err
      rw [if_neg (by omega)]
     obtain ⟨ev, hev⟩ : ∃ ev, Hid (Shp.err am ar kz = ev) := ⟨_, hide rfl⟩
     rw [hev.out] at r1 r2 hx ⊢
     have HX := hide hx
     obtain ⟨z0, z1, zf0, zf1, HZf, HFf⟩ := elm_two HZ2.out HB2.out (Nat.le_refl _) (.slice none 0 0) (.bool false)
     clear hcs hf hE hx hbd
     go_wp2_with fail
     refine bodyPost_ret (results_desc rfl _ _ w.heap.size _ _ rfl HZf.out) rfl ?_
     rw [HK2.out, HSD.out, HKD.out]
     exact DscE.bad (by rw [HX.out]; rfl) HFf.out
set_option maxRecDepth 100000 in
set_option maxHeartbeats 8000000 in
theorem fill_soft (H : World → Prop) (a b : Ten) (A B : Option Addr) (nq qcap bcap ocap f n : Nat) (g : Option Addr) (w : World) (hR : Row w B ([a, b].flatMap Ten.vals))
  (hV : Calls Tryz.prog 110 #[.slice g n ocap, .int .i64 f, .agg (tcells a.P a.zs.length a.cap a.u a.D a.ds.length a.dcap), .agg (tcells b.P b.zs.length b.cap b.u b.D b.ds.length b.dcap)] w.drew fun e w' => e = .returned (.tuple #[]) ∧ H w') :
  Calls Tryz.prog 96 #[.slice g n ocap, .int .i64 f, .int .i64 16, .slice A nq qcap, .slice B 2 bcap] w fun e w' => e = .returned (.tuple #[]) ∧ H w' := by
 obtain ⟨ad, rfl, -, c0, c1, c2, c3, c4, c5⟩ := row_two hR
 have V := hide hV
 clear hR hV
 go_enter Tryz.func96, Tryz.ntmps96
 go_wp2_with fail
 go_still_tail 8, (by kernel_rfl)
 change wpList _ _ _ _ _ w.drew
 go_wp2_with fail
 refine V.out.mono ?_
 rintro e w1 ⟨rfl, h1⟩
 go_wp2_with fail
 refine bodyPost_end (results_none rfl _ _ _) rfl ?_
 exact ⟨rfl, h1⟩
set_option maxRecDepth 100000 in
set_option maxHeartbeats 8000000 in
theorem fill_gath (H : World → Prop) (a b : Ten) (A B : Option Addr) (nq qcap bcap ocap f n : Nat) (g : Option Addr) (w : World) (hR : Row w B ([a, b].flatMap Ten.vals))
  (hV : Calls Tryz.prog 113 #[.slice g n ocap, .int .i64 f, .agg (tcells a.P a.zs.length a.cap a.u a.D a.ds.length a.dcap), .agg (tcells b.P b.zs.length b.cap b.u b.D b.ds.length b.dcap)] w.drew fun e w' => e = .returned (.tuple #[]) ∧ H w') :
  Calls Tryz.prog 96 #[.slice g n ocap, .int .i64 f, .int .i64 17, .slice A nq qcap, .slice B 2 bcap] w fun e w' => e = .returned (.tuple #[]) ∧ H w' := by
 obtain ⟨ad, rfl, -, c0, c1, c2, c3, c4, c5⟩ := row_two hR
 have V := hide hV
 clear hR hV
 go_enter Tryz.func96, Tryz.ntmps96
 go_wp2_with fail
 go_still_tail 8, (by kernel_rfl)
 change wpList _ _ _ _ _ w.drew
 go_wp2_with fail
 refine V.out.mono ?_
 rintro e w1 ⟨rfl, h1⟩
 go_wp2_with fail
 refine bodyPost_end (results_none rfl _ _ _) rfl ?_
 exact ⟨rfl, h1⟩
set_option maxRecDepth 100000 in
set_option maxHeartbeats 8000000 in
theorem fill_amax (H : World → Prop) (a : Ten) (A B : Option Addr) (nq qcap bcap ocap f n : Nat) (g : Option Addr) (w : World) (hR : Row w B ([a].flatMap Ten.vals))
  (hV : Calls Tryz.prog 111 #[.slice g n ocap, .int .i64 f, .agg (tcells a.P a.zs.length a.cap a.u a.D a.ds.length a.dcap)] w fun e w' => e = .returned (.tuple #[]) ∧ H w') :
  Calls Tryz.prog 96 #[.slice g n ocap, .int .i64 f, .int .i64 19, .slice A nq qcap, .slice B 1 bcap] w fun e w' => e = .returned (.tuple #[]) ∧ H w' := by
 obtain ⟨ad, rfl, -, c0, c1, c2⟩ := row_one hR
 have V := hide hV
 clear hR hV
 go_enter Tryz.func96, Tryz.ntmps96
 go_wp2_with fail
 refine V.out.mono ?_
 rintro e w1 ⟨rfl, h1⟩
 go_wp2_with fail
 refine bodyPost_end (results_none rfl _ _ _) rfl ?_
 exact ⟨rfl, h1⟩
set_option maxRecDepth 100000 in
set_option maxHeartbeats 8000000 in
theorem fill_sum (H : World → Prop) (a : Ten) (A B : Option Addr) (nq qcap bcap ocap f n : Nat) (g : Option Addr) (w : World) (hR : Row w B ([a].flatMap Ten.vals))
  (hV : Calls Tryz.prog 112 #[.slice g n ocap, .int .i64 f, .agg (tcells a.P a.zs.length a.cap a.u a.D a.ds.length a.dcap)] w fun e w' => e = .returned (.tuple #[]) ∧ H w') :
  Calls Tryz.prog 96 #[.slice g n ocap, .int .i64 f, .int .i64 20, .slice A nq qcap, .slice B 1 bcap] w fun e w' => e = .returned (.tuple #[]) ∧ H w' := by
 obtain ⟨ad, rfl, -, c0, c1, c2⟩ := row_one hR
 have V := hide hV
 clear hR hV
 go_enter Tryz.func96, Tryz.ntmps96
 go_wp2_with fail
 refine V.out.mono ?_
 rintro e w1 ⟨rfl, h1⟩
 go_wp2_with fail
 refine bodyPost_end (results_none rfl _ _ _) rfl ?_
 exact ⟨rfl, h1⟩
def Sf.last (a : Ten) : Nat := (a.zs.getD (a.zs.length - 1) 0).toNat
def Sf.dim0 (a : Ten) : Nat := (a.zs.getD 0 0).toNat
def Sf.el (op : Int) : List Ten → Nat → Int
 | [a] => if op = 19 then Sf.amax a.ds (Sf.last a) else Sf.sum a.ds (Sf.last a)
 | [a, b] => if op = 16 then Sf.soft a.ds b.ds (Sf.last a) else Sf.gath a.ds b.ds (Sf.dim0 a) (Sf.last a)
 | _ => fun _ => 0
def Sf.size (op : Int) (ts : List Ten) : Nat := (Shp.prod (Sf.shape op (ts.map Ten.look))).toNat
def Sf.ds (op : Int) (ts : List Ten) : List Int := Sf.part (Sf.el op ts) 0 (Sf.size op ts)
def Sf.Fills (op : Int) (ts : List Ten) (L : Nat) (E : Nat → Int) : Prop :=
 ∀ (os : List Int) (A B : Option Addr) (nq qcap bcap ocap f g : Nat) (w0 w : World), Row w B (ts.flatMap Ten.vals) → (∀ t ∈ ts, t.In w0) → Below w0.heap.size w0 w → w0.heap.size ≤ g → Has w g 3 (i64s os) → f + os.length ≤ L →
  Calls Tryz.prog 96 #[.slice (some ⟨g, 0, none⟩) os.length ocap, .int .i64 f, .int .i64 op, .slice A nq qcap, .slice B ts.length bcap] w fun e w' => e = .returned (.tuple #[]) ∧ Has w' g 3 (i64s (Sf.part E f os.length)) ∧ Below w0.heap.size w0 w'
structure Sf.Fine (op : Int) (ts : List Ten) : Prop where
 cd : Shp.code (Sf.shape op (ts.map Ten.look)) = 0
 wf : ∀ i, i < Sf.size op ts → -9223372036854775808 ≤ Sf.el op ts i ∧ Sf.el op ts i ≤ 9223372036854775807
 fill : Sf.Fills op ts (Sf.size op ts) (Sf.el op ts)
theorem Sf.size_le {op : Int} {ts : List Ten} (h : Sf.Fine op ts) : Sf.size op ts ≤ 16384 ∧ (Sf.size op ts : Int) = Shp.elems (Sf.shape op (ts.map Ten.look)) := by
 have h1 := Shp.whole h.cd
 unfold Sf.size
 rw [h1.2.2.1]
 omega
theorem Sf.ds_length (op : Int) (ts : List Ten) : (Sf.ds op ts).length = Sf.size op ts := Sf.part_length _ _ _
theorem Sf.rows_of {a : Ten} (hf : a.fault = (0, none)) (hz : 0 < a.zs.length) (hd : a.ds.length ≤ a.dcap) : Sf.Rows a a.zs.length (Shp.prod a.zs.dropLast).toNat (Sf.last a) ∧ 1 ≤ Shp.prod a.zs.dropLast ∧ Shp.code a.zs.dropLast = 0 := by
 obtain ⟨h1, h2, -⟩ := Tens.whole hf
 obtain ⟨w1, w2, -, w4, w5⟩ := Shp.whole h1
 have hne : a.zs ≠ [] := by intro h; rw [h] at hz; simp at hz
 have hsn := List.dropLast_concat_getLast hne
 have hl : a.zs.getD (a.zs.length - 1) 0 = a.zs.getLast hne := by
  rw [List.getD_eq_getElem?_getD, List.getLast_eq_getElem, List.getElem?_eq_getElem (by omega)]
  rfl
 have hlm := w2 _ (List.getLast_mem hne)
 have hp : Shp.prod a.zs = Shp.prod a.zs.dropLast * a.zs.getLast hne := by
  conv => lhs; rw [← hsn]
  exact Shp.prod_snoc _ _
 have hda : a.zs.dropLast.all Shp.okDim = true := List.all_eq_true.2 (fun z hz => decide_eq_true (w2 z (List.dropLast_subset _ hz)))
 have hpp := (Shp.prod_pos _ hda).1
 have hle : Shp.prod a.zs.dropLast ≤ Shp.prod a.zs := by
  rw [hp]
  have := Int.mul_le_mul_of_nonneg_left hlm.1 (show 0 ≤ Shp.prod a.zs.dropLast by omega)
  omega
 have hlast : (Sf.last a : Int) = a.zs.getLast hne := by unfold Sf.last; rw [hl]; omega
 refine ⟨⟨rfl, hz, w1, ?_, ?_, ?_, ?_, ?_, hd⟩, hpp, ?_⟩
 ·rw [hlast, List.getLast_eq_getElem, List.getElem?_eq_getElem (by omega)]
 ·omega
 ·omega
 ·have h3 : (a.ds.length : Int) = (((Shp.prod a.zs.dropLast).toNat * Sf.last a : Nat) : Int) := by
   rw [h2, hp, Int.natCast_mul, hlast, Int.toNat_of_nonneg (by omega)]
  omega
 ·omega
 ·unfold Shp.code
  rw [if_neg (by rw [List.length_dropLast]; omega), hda, if_neg (by simp), if_neg (by omega)]
theorem Sf.amax_le (xs : List Int) (n i : Nat) (hn : 1 ≤ n ∧ n ≤ 256) : 0 ≤ Sf.amax xs n i ∧ Sf.amax xs n i ≤ 255 := by
 have := Sf.best_lt (fun j => (Sf.row xs n i).getD j 0) n hn.1
 unfold Sf.amax
 omega
theorem Sf.of_le {s w : Int} (hs : 0 ≤ s ∧ s ≤ 549755813888) (hw : 0 ≤ w ∧ w ≤ 2147483647) : -128 ≤ Sf.of s w ∧ Sf.of s w ≤ 1099511627776 := by
 unfold Sf.of
 split
 ·omega
 ·have h1 : 0 ≤ 255 * w + s / 2 := by omega
  have h2 := Int.ediv_nonneg h1 hs.1
  have h3 := Int.ediv_le_self s h1
  omega
theorem Sf.fits_wide {u : Bool} {z : Int} (h : Tens.fit u z = true) : -2147483648 ≤ z ∧ z ≤ 2147483647 := by
 cases u
 ·unfold Tens.fit at h; simp at h; omega
 ·unfold Tens.fit at h; simp at h; omega
theorem Sf.zero {op : Int} {ts : List Ten} (h : Cel.fault ts (Sf.code op (ts.map Ten.look)) = (0, none)) :
  (∀ t ∈ ts, t.fault = (0, none)) ∧ ts.length = Sf.nins op ∧ ∃ x, Sf.lk op (ts.map Ten.look) = some x ∧ Shp.code x.1 = 0 ∧ Sf.shape op (ts.map Ten.look) = x.1 ∧ Sf.kind op (ts.map Ten.look) = x.2 := by
 obtain ⟨h1, h2⟩ := Cel.fine h
 refine ⟨Tens.first_fine _ h1, ?_⟩
 have hc := h2
 unfold Sf.code at h2
 split at h2
 ·cases h2
 rename_i h3
 split at h2
 ·rename_i h4
  exact absurd h2 h4
 cases hx : Sf.lk op (ts.map Ten.look) with
 | none => rw [hx] at h2; cases h2
 | some x =>
  rw [hx] at h2
  refine ⟨by rw [List.length_map] at h3; omega, x, rfl, h2, ?_, ?_⟩
  ·unfold Sf.shape
   rw [if_pos hc, hx]
   rfl
  ·unfold Sf.kind
   rw [if_pos hc, hx]
   rfl
theorem Sf.fine_row (op : Int) (hop : op = 19 ∨ op = 20) (a : Ten) (hd : a.ds.length ≤ a.dcap) (h : Cel.fault [a] (Sf.code op ([a].map Ten.look)) = (0, none)) : Sf.Fine op [a] ∧ 0 < a.zs.length ∧ Sf.shape op ([a].map Ten.look) = a.zs.dropLast ∧ Sf.kind op ([a].map Ten.look) = true ∧ Sf.size op [a] = (Shp.prod a.zs.dropLast).toNat := by
 obtain ⟨hf, -, x, hlk, hcx, hs, hk⟩ := Sf.zero h
 have hfa := hf a (by simp)
 have hlk' : (if 0 < a.zs.length then some (a.zs.dropLast, true) else none) = some x := hlk
 split at hlk'
 ·rename_i hz
  obtain rfl := Option.some.inj hlk'
  obtain ⟨hR, hp1, -⟩ := Sf.rows_of hfa hz hd
  have hsz : Sf.size op [a] = (Shp.prod a.zs.dropLast).toNat := by unfold Sf.size; rw [hs]
  have hm : (Shp.prod a.zs.dropLast).toNat ≤ 16384 := by
   have := Nat.le_mul_of_pos_right (Shp.prod a.zs.dropLast).toNat hR.n1
   have := hR.len
   have := hR.big
   omega
  have hwd : ∀ z ∈ a.ds, -2147483648 ≤ z ∧ z ≤ 2147483647 := fun z hz => Sf.fits_wide ((Tens.whole hfa).2.2 z hz)
  refine ⟨⟨by rw [hs]; exact hcx, fun i hi => ?_, ?_⟩, hz, hs, hk, hsz⟩
  ·rcases hop with rfl | rfl
   ·have := Sf.amax_le a.ds (Sf.last a) i ⟨hR.n1, hR.n2⟩
    show _ ≤ Sf.amax a.ds (Sf.last a) i ∧ Sf.amax a.ds (Sf.last a) i ≤ _
    omega
   ·show _ ≤ Tens.wide _ ∧ Tens.wide _ ≤ _
    unfold Tens.wide
    omega
  ·rw [hsz]
   intro os A B nq qcap bcap ocap f g w0 w hRw hI hB hg hG hf
   rcases hop with rfl | rfl
   ·exact fill_amax (fun w' => Has w' g 3 (i64s (Sf.part (Sf.el 19 [a]) f os.length)) ∧ Below w0.heap.size w0 w') a A B nq qcap bcap ocap f os.length _ w hRw (sargmax_c os a a.zs.length _ (Sf.last a) ocap f g w0 w hR (hI a (by simp)) hB hg hG hf (by omega))
   ·exact fill_sum (fun w' => Has w' g 3 (i64s (Sf.part (Sf.el 20 [a]) f os.length)) ∧ Below w0.heap.size w0 w') a A B nq qcap bcap ocap f os.length _ w hRw (ssum_c os a a.zs.length _ (Sf.last a) ocap f g w0 w hR (hI a (by simp)) hwd hB hg hG hf (by omega))
 ·cases hlk'
theorem Sf.fine_soft (a b : Ten) (hd : a.ds.length ≤ a.dcap) (h : Cel.fault [a, b] (Sf.code 16 ([a, b].map Ten.look)) = (0, none)) : Sf.Fine 16 [a, b] ∧ 0 < a.zs.length ∧ a.u = false ∧ b.zs = [256] ∧ b.u = true ∧ Sf.shape 16 ([a, b].map Ten.look) = a.zs ∧ Sf.kind 16 ([a, b].map Ten.look) = false ∧ Sf.size 16 [a, b] = a.ds.length := by
 obtain ⟨hf, -, x, hlk, hcx, hs, hk⟩ := Sf.zero h
 have hfa := hf a (by simp)
 have hfb := hf b (by simp)
 have hlk' : (if a.u = false ∧ 0 < a.zs.length ∧ b.zs = [256] ∧ b.u = true then some (a.zs, false) else none) = some x := hlk
 split at hlk'
 ·rename_i hz
  obtain ⟨hz1, hz2, hz3, hz4⟩ := hz
  obtain rfl := Option.some.inj hlk'
  obtain ⟨hR, hp1, -⟩ := Sf.rows_of hfa hz2 hd
  have hla := (Tens.whole hfa).2.1
  have hlb := (Tens.whole hfb).2.1
  rw [hz3] at hlb
  have hlb : b.ds.length = 256 := by have h2 : (b.ds.length : Int) = 256 := hlb; omega
  have hsz : Sf.size 16 [a, b] = a.ds.length := by unfold Sf.size; rw [hs]; show (Shp.prod a.zs).toNat = _; omega
  have hna : ∀ z ∈ a.ds, -128 ≤ z ∧ z ≤ 127 := fun z hz => by
   have h2 := (Tens.whole hfa).2.2 z hz
   rw [hz1] at h2
   unfold Tens.fit at h2
   simp at h2
   exact h2
  have hwb : ∀ z ∈ b.ds, -2147483648 ≤ z ∧ z ≤ 2147483647 := fun z hz => Sf.fits_wide ((Tens.whole hfb).2.2 z hz)
  have hbig := hR.big
  refine ⟨⟨by rw [hs]; exact hcx, fun i hi => ?_, ?_⟩, hz2, hz1, hz3, hz4, hs, hk, hsz⟩
  ·have := Sf.of_le (Sf.all_le hwb (Sf.row a.ds (Sf.last a) (i / Sf.last a)) (Sf.last a) (Sf.last a) hR.n2) (Sf.wt_le hwb (Sf.by_ (Sf.row a.ds (Sf.last a) (i / Sf.last a)) (Sf.last a) (i % Sf.last a)))
   show _ ≤ Sf.soft a.ds b.ds (Sf.last a) i ∧ Sf.soft a.ds b.ds (Sf.last a) i ≤ _
   unfold Sf.soft
   omega
  ·rw [hsz, hR.len]
   intro os A B nq qcap bcap ocap f g w0 w hRw hI hB hg hG hf
   exact fill_soft (fun w' => Has w' g 3 (i64s (Sf.part (Sf.el 16 [a, b]) f os.length)) ∧ Below w0.heap.size w0 w') a b A B nq qcap bcap ocap f os.length _ w hRw (ssoft_c os a b a.zs.length _ (Sf.last a) ocap f g w0 w.drew hR hna (hI a (by simp)) (hI b (by simp)) hlb hwb hB.drew hg (hG.drewN 1) hf (by have := hR.len; omega))
 ·cases hlk'
theorem Sf.fine_gath (a b : Ten) (hd : a.ds.length ≤ a.dcap) (h : Cel.fault [a, b] (Sf.code 17 ([a, b].map Ten.look)) = (0, none)) : Sf.Fine 17 [a, b] ∧ a.zs = [(Sf.dim0 a : Int), (Sf.last a : Int)] ∧ b.zs = [(b.ds.length : Int)] ∧ b.u = true ∧ Sf.shape 17 ([a, b].map Ten.look) = [(b.ds.length : Int), (Sf.last a : Int)] ∧ Sf.kind 17 ([a, b].map Ten.look) = a.u ∧ Sf.size 17 [a, b] = b.ds.length * Sf.last a := by
 obtain ⟨hf, -, x, hlk, hcx, hs, hk⟩ := Sf.zero h
 have hfa := hf a (by simp)
 have hfb := hf b (by simp)
 have hlk' : (if a.zs.length = 2 ∧ b.u = true ∧ b.zs.length = 1 then some ([b.zs.getD 0 0, a.zs.getD 1 0], a.u) else none) = some x := hlk
 split at hlk'
 ·rename_i hz
  obtain ⟨hz1, hz2, hz3⟩ := hz
  obtain rfl := Option.some.inj hlk'
  obtain ⟨hR, hp1, -⟩ := Sf.rows_of hfa (by omega) hd
  obtain ⟨N, d, hzs⟩ : ∃ N d, a.zs = [N, d] := by
   match h : a.zs, hz1 with
   | [x, y], _ => exact ⟨x, y, rfl⟩
  obtain ⟨T, hzt⟩ : ∃ T, b.zs = [T] := by
   match h : b.zs, hz3 with
   | [x], _ => exact ⟨x, rfl⟩
  have hwa := Shp.whole (Tens.whole hfa).1
  have hwb := Shp.whole (Tens.whole hfb).1
  have hlb := (Tens.whole hfb).2.1
  have hN := hwa.2.1 N (by rw [hzs]; simp)
  have hdd := hwa.2.1 d (by rw [hzs]; simp)
  have hTT := hwb.2.1 T (by rw [hzt]; simp)
  have hl : (Sf.last a : Int) = d := by unfold Sf.last; rw [hzs]; show ((d.toNat : Nat) : Int) = d; omega
  have h0 : (Sf.dim0 a : Int) = N := by unfold Sf.dim0; rw [hzs]; show ((N.toNat : Nat) : Int) = N; omega
  have hb : (b.ds.length : Int) = T := by rw [hlb, hzt]; simp [Shp.prod]
  have hm : (Shp.prod a.zs.dropLast).toNat = Sf.dim0 a := by rw [hzs]; show (N * 1).toNat = _; omega
  rw [hz1, hm] at hR
  have hsh : Sf.shape 17 ([a, b].map Ten.look) = [(b.ds.length : Int), (Sf.last a : Int)] := by
   rw [hs, hzs, hzt, hb, hl]
   rfl
  have hsz : Sf.size 17 [a, b] = b.ds.length * Sf.last a := by
   unfold Sf.size
   rw [hsh]
   show ((b.ds.length : Int) * ((Sf.last a : Int) * 1)).toNat = _
   rw [Int.mul_one, ← Int.natCast_mul]
   exact Int.toNat_natCast _
  have hcd : Shp.code (Sf.shape 17 ([a, b].map Ten.look)) = 0 := by rw [hs]; exact hcx
  have hbig : b.ds.length * Sf.last a ≤ 16384 := by
   have h1 := Shp.whole hcd
   rw [← hsz]
   unfold Sf.size
   omega
  have hwd : ∀ z ∈ a.ds, -2147483648 ≤ z ∧ z ≤ 2147483647 := fun z hz => Sf.fits_wide ((Tens.whole hfa).2.2 z hz)
  refine ⟨⟨hcd, fun i hi => ?_, ?_⟩, by rw [h0, hl, hzs], by rw [hb, hzt], hz2, hsh, hk, hsz⟩
  ·have := Sf.row_le (n := Sf.last a) (i := Sf.cut (b.ds.getD (i / Sf.last a) 0) (Sf.dim0 a)) hwd ⟨by decide, by decide⟩ (i % Sf.last a)
   show _ ≤ Sf.gath a.ds b.ds (Sf.dim0 a) (Sf.last a) i ∧ Sf.gath a.ds b.ds (Sf.dim0 a) (Sf.last a) i ≤ _
   unfold Sf.gath
   omega
  ·rw [hsz]
   intro os A B nq qcap bcap ocap f g w0 w hRw hI hB hg hG hf
   exact fill_gath (fun w' => Has w' g 3 (i64s (Sf.part (Sf.el 17 [a, b]) f os.length)) ∧ Below w0.heap.size w0 w') a b A B nq qcap bcap ocap f os.length _ w hRw (sgather_c os a b (Sf.dim0 a) (Sf.last a) b.ds.length ocap f g w0 w.drew hR (by rw [h0, hzs]; rfl) (by omega) (by omega) (hI a (by simp)) (hI b (by simp)) rfl hB.drew hg (hG.drewN 1) hf (by omega))
 ·cases hlk'
theorem Sf.fine {op : Int} (hop : Sf.isOp op) {ts : List Ten} (hd : ∀ t ∈ ts, t.ds.length ≤ t.dcap) (h : Cel.fault ts (Sf.code op (ts.map Ten.look)) = (0, none)) : Sf.Fine op ts := by
 obtain ⟨-, hn, -⟩ := Sf.zero h
 rcases hop with rfl | rfl | rfl | rfl
 ·match ts, hn with
  | [a, b], _ => exact (Sf.fine_soft a b (hd a (by simp)) h).1
 ·match ts, hn with
  | [a, b], _ => exact (Sf.fine_gath a b (hd a (by simp)) h).1
 ·match ts, hn with
  | [a], _ => exact (Sf.fine_row 19 (.inl rfl) a (hd a (by simp)) h).1
 ·match ts, hn with
  | [a], _ => exact (Sf.fine_row 20 (.inr rfl) a (hd a (by simp)) h).1
theorem sfof_c (op : Int) (ts : List Ten) (hf : Sf.Fine op ts) (A B : Option Addr) (nq qcap bcap f n : Nat) (w : World) (hR : Row w B (ts.flatMap Ten.vals)) (hI : ∀ t ∈ ts, t.In w) (hn : f + n ≤ Sf.size op ts) :
  Calls Tryz.prog 83 #[.int .i64 op, .slice A nq qcap, .int .i64 f, .int .i64 ((f + n : Nat) : Int), .slice B ts.length bcap] w fun e w' => (∃ g, e = .returned (.slice (some ⟨g, 0, none⟩) n n) ∧ w.heap.size ≤ g ∧ Has w' g 3 (i64s (Sf.part (Sf.el op ts) f n))) ∧ Below w.heap.size w w' := by
 have hsz := Sf.size_le hf
 refine of_any (Sf.part (Sf.el op ts) f n) op A B nq qcap ts.length bcap f n w (by omega) fun W g hB hg hG => ?_
 have h := hf.fill (List.replicate n 0) A B nq qcap bcap n f g w W (hR.below hB) hI hB hg hG (by rw [List.length_replicate]; exact hn)
 rw [List.length_replicate] at h
 exact h
def Sf.cell (op : Int) (ts : List Ten) (i : Int) : Int := if Cel.fault ts (Sf.code op (ts.map Ten.look)) = (0, none) then (if 0 ≤ i then (Sf.ds op ts).getD i.toNat 0 else 0) else 0
end Go.Proofs.YtgdcfjmpjhlndaaGreatDoor
