/-
  Pools, over lists of numbers. cells.div, cells.mean, lodgeref3.div, cells.pool: windows, their greatest and their means. cells.pool: elements of a pool. pool.Result, walked. Pools that are lawful; pool.look, pool.do, pool.Max, pool.Avg, pool.Cell, walked. pool.do, pool.Max, pool.Avg, pool.Cell, walked; the examples of package lodgelaw10. By an AI agent. No person has read it.
-/
import Derived.Test.YtgdcfjmpjhlndaaGreatDoorZOCelC
import Derived.Test.YtgdcfjmpjhlndaaGreatDoorZOMatN
import Derived.Test.YtgdcfjmpjhlndaaGreatDoorZOElmN
import Derived.Test.YtgdcfjmpjhlndaaGreatDoorZOElmS
import Derived.Deep.LoopGhost
import Derived.Deep.RegionLaw
import Derived.RegionTactic
import Derived.ChangeAlike
import Derived.BigRegion
namespace Go.Proofs.YtgdcfjmpjhlndaaGreatDoor
open Go.RowKit
def Pl.add (f : Nat → Int) : Nat → Int
 | 0 => 0
 | k + 1 => Pl.add f k + f k
def Pl.top (f : Nat → Int) : Nat → Int
 | 0 => f 0
 | k + 1 => max (Pl.top f k) (f k)
theorem Pl.add_le (f : Nat → Int) (B : Int) (k : Nat) (h : ∀ i, i < k → -B ≤ f i ∧ f i ≤ B) : -(B * k) ≤ Pl.add f k ∧ Pl.add f k ≤ B * k := by
 induction k with
 | zero => exact ⟨by simp [Pl.add], by simp [Pl.add]⟩
 | succ k ih =>
  have h1 := h k (by omega)
  have h2 := ih (fun i hi => h i (by omega))
  show -(B * ((k + 1 : Nat) : Int)) ≤ Pl.add f k + f k ∧ Pl.add f k + f k ≤ B * ((k + 1 : Nat) : Int)
  rw [Int.natCast_add, Int.mul_add]
  omega
theorem Pl.top_le (f : Nat → Int) (A B : Int) (k : Nat) (h0 : A ≤ f 0 ∧ f 0 ≤ B) (h : ∀ i, i < k → A ≤ f i ∧ f i ≤ B) : A ≤ Pl.top f k ∧ Pl.top f k ≤ B := by
 induction k with
 | zero => exact h0
 | succ k ih =>
  have h1 := h k (by omega)
  have h2 := ih (fun i hi => h i (by omega))
  show A ≤ max (Pl.top f k) (f k) ∧ max (Pl.top f k) (f k) ≤ B
  omega
def Pl.mean (s : Int) (n : Nat) : Int := (2 * s + n) / (2 * n)
structure Pl where
 H : Nat
 W : Nat
 C : Nat
 s : Nat
 t : Nat
def Pl.oh (c : Pl) : Nat := (c.H - c.s) / c.t + 1
def Pl.ow (c : Pl) : Nat := (c.W - c.s) / c.t + 1
def Pl.first (c : Pl) (y x ch : Nat) : Nat := (y * c.W + x) * c.C + ch
def Pl.off (c : Pl) (k : Nat) : Nat := (k / c.s * c.W + k % c.s) * c.C
def Pl.v (c : Pl) (xs : List Int) (f k : Nat) : Int := xs.getD (f + c.off k) 0
def Pl.at (c : Pl) (p : Nat) : Nat := c.first (p / c.C / c.ow * c.t) (p / c.C % c.ow * c.t) (p % c.C)
def Pl.el (c : Pl) (avg : Bool) (xs : List Int) (f : Nat) : Int := if avg then Pl.mean (Pl.add (c.v xs f) (c.s * c.s)) (c.s * c.s) else Pl.top (c.v xs f) (c.s * c.s)
def Pl.part (c : Pl) (avg : Bool) (xs : List Int) (f m : Nat) : List Int := (List.range m).map fun i => c.el avg xs (c.at (f + i))
theorem Pl.part_length (c : Pl) (avg : Bool) (xs : List Int) (f m : Nat) : (c.part avg xs f m).length = m := by simp [Pl.part]
theorem Pl.part_at (c : Pl) (avg : Bool) (xs : List Int) (f m i : Nat) (hi : i < m) : (c.part avg xs f m)[i]? = some (c.el avg xs (c.at (f + i))) := by
 simp [Pl.part, hi]
structure Pl.Ok (c : Pl) : Prop where
 s1 : 1 ≤ c.s
 s2 : c.s ≤ 16
 t1 : 1 ≤ c.t
 t2 : c.t ≤ 16
 c1 : 1 ≤ c.C
 hs : c.s ≤ c.H
 ws : c.s ≤ c.W
 h2 : c.H ≤ 256
 w2 : c.W ≤ 256
 a2 : c.H * c.W * c.C ≤ 16384
theorem Pl.way (n s t o : Nat) (hs : s ≤ n) (ho : o < (n - s) / t + 1) : o * t + s ≤ n := by
 have h1 : o * t ≤ (n - s) / t * t := Nat.mul_le_mul_right t (by omega)
 have h2 : (n - s) / t * t ≤ n - s := Nat.div_mul_le_self _ _
 omega
theorem Pl.at_eq (c : Pl) (h : c.Ok) (p : Nat) (hp : p < c.oh * c.ow * c.C) : p / c.C / c.ow * c.t + c.s ≤ c.H ∧ p / c.C % c.ow * c.t + c.s ≤ c.W ∧ p % c.C < c.C := by
 have hc := h.c1
 have h1 : p / c.C < c.oh * c.ow := Nat.div_lt_of_lt_mul (by rw [Nat.mul_comm]; exact hp)
 have h2 : p / c.C / c.ow < c.oh := Nat.div_lt_of_lt_mul (by rw [Nat.mul_comm]; exact h1)
 have hw : 0 < c.ow := Nat.succ_pos _
 exact ⟨Pl.way _ _ _ _ h.hs h2, Pl.way _ _ _ _ h.ws (Nat.mod_lt _ hw), Nat.mod_lt _ hc⟩
theorem Pl.in_lt (c : Pl) (y x ch dy dx : Nat) (h1 : y + dy < c.H) (h2 : x + dx < c.W) (h3 : ch < c.C) : ((y + dy) * c.W + (x + dx)) * c.C + ch < c.H * c.W * c.C := by
 have e1 : (y + dy) * c.W + (x + dx) < c.H * c.W := by
  have : (y + dy) * c.W + c.W ≤ c.H * c.W := by rw [← Nat.succ_mul]; exact Nat.mul_le_mul_right _ h1
  omega
 have : ((y + dy) * c.W + (x + dx)) * c.C + c.C ≤ c.H * c.W * c.C := by rw [← Nat.succ_mul]; exact Nat.mul_le_mul_right _ e1
 omega
theorem Pl.off_eq (c : Pl) (y x ch k : Nat) : c.first y x ch + c.off k = ((y + k / c.s) * c.W + (x + k % c.s)) * c.C + ch := by
 unfold Pl.first Pl.off
 rw [Nat.add_mul (y) (k / c.s), Nat.add_right_comm, ← Nat.add_mul]
 congr 2
 omega
theorem Pl.lt (c : Pl) (h : c.Ok) (p k : Nat) (hp : p < c.oh * c.ow * c.C) (hk : k < c.s * c.s) : c.at p + c.off k < c.H * c.W * c.C := by
 obtain ⟨h1, h2, h3⟩ := c.at_eq h p hp
 unfold Pl.at
 rw [Pl.off_eq]
 have hs := h.s1
 have k1 : k / c.s < c.s := Nat.div_lt_of_lt_mul hk
 have k2 : k % c.s < c.s := Nat.mod_lt _ hs
 exact c.in_lt _ _ _ _ _ (by omega) (by omega) h3
theorem Pl.div_floor (a b : Int) (hb : 0 < b) : (if a.tmod b < 0 then a.tdiv b - 1 else a.tdiv b) = a / b := by
 have h1 : b * a.tdiv b + a.tmod b = a := Int.mul_tdiv_add_tmod a b
 have h2 := Int.tmod_lt_of_pos a hb
 have h3 : -b < a.tmod b := by
  have := Int.tmod_lt_of_pos (-a) hb
  rw [Int.neg_tmod] at this
  omega
 split
 ·rename_i h
  symm
  rw [Int.ediv_eq_iff_of_pos hb]
  rw [Int.sub_mul, Int.mul_comm (a.tdiv b)]
  omega
 ·rename_i h
  symm
  rw [Int.ediv_eq_iff_of_pos hb]
  rw [Int.mul_comm (a.tdiv b)]
  omega
theorem Pl.quo_le (a b : Int) (h : -1152921504606846976 ≤ a ∧ a ≤ 1152921504606846976) : -1152921504606846976 ≤ a.tdiv b ∧ a.tdiv b ≤ 1152921504606846976 := by
 have := Int.natAbs_tdiv_le_natAbs a b
 omega
set_option maxRecDepth 100000 in
theorem div_c (a b : Int) (w : World) (ha : -1152921504606846976 ≤ a ∧ a ≤ 1152921504606846976) (hb : 0 < b) :
  Calls Tryz.prog 131 #[.int .i64 a, .int .i64 b] w fun e w' => e = .returned (.int .i64 (a / b)) ∧ w' = w := by
 have hfl := Pl.div_floor a b hb
 have hq := Pl.quo_le a b ha
 obtain ⟨q, hq'⟩ : ∃ q, Hid (a.tdiv b = q) := ⟨_, hide rfl⟩
 obtain ⟨r, hr'⟩ : ∃ q, Hid (a.tmod b = q) := ⟨_, hide rfl⟩
 obtain ⟨z, hz⟩ : ∃ q, Hid (a / b = q) := ⟨_, hide rfl⟩
 rw [hq'.out] at hq
 rw [hq'.out, hr'.out, hz.out] at hfl
 rw [hz.out]
 have hw1 : wrap64 (a.tdiv b) = q := by rw [hq'.out]; unfold wrap64; omega
 have hw2 : a.tmod b = r := hr'.out
 have hb0 : ¬ b = 0 := by omega
 by_cases h : r < 0
 ·rw [if_pos h] at hfl
  have hw4 : wrap64 (q - 1) = z := by rw [← hfl]; unfold wrap64; omega
  clear ha hq hb hfl
  have HW4 := hide hw4
  clear hw4
  go_enter Tryz.func131, Tryz.ntmps131
  go_wp2_with fail
  go_ret
  exact ⟨congrArg (fun q => Ending.returned (.int .i64 q)) HW4.out, rfl⟩
 ·rw [if_neg h] at hfl
  subst hfl
  clear ha hq hb
  go_enter Tryz.func131, Tryz.ntmps131
  go_wp2_with fail
  go_ret
  exact ⟨rfl, rfl⟩
set_option maxRecDepth 100000 in
theorem rdiv_c (a b : Int) (w : World) (ha : -1152921504606846976 ≤ a ∧ a ≤ 1152921504606846976) (hb : 0 < b) :
  Calls Tryz.prog 90 #[.int .i64 a, .int .i64 b] w fun e w' => e = .returned (.int .i64 (a / b)) ∧ w' = w := by
 have hfl := Pl.div_floor a b hb
 have hq := Pl.quo_le a b ha
 obtain ⟨q, hq'⟩ : ∃ q, Hid (a.tdiv b = q) := ⟨_, hide rfl⟩
 obtain ⟨r, hr'⟩ : ∃ q, Hid (a.tmod b = q) := ⟨_, hide rfl⟩
 obtain ⟨z, hz⟩ : ∃ q, Hid (a / b = q) := ⟨_, hide rfl⟩
 rw [hq'.out] at hq
 rw [hq'.out, hr'.out, hz.out] at hfl
 rw [hz.out]
 have hw1 : wrap64 (a.tdiv b) = q := by rw [hq'.out]; unfold wrap64; omega
 have hw2 : a.tmod b = r := hr'.out
 have hb0 : ¬ b = 0 := by omega
 by_cases h : r < 0
 ·rw [if_pos h] at hfl
  have hw4 : wrap64 (q - 1) = z := by rw [← hfl]; unfold wrap64; omega
  clear ha hq hb hfl
  have HW4 := hide hw4
  clear hw4
  go_enter Tryz.func90, Tryz.ntmps90
  go_wp2_with fail
  go_ret
  exact ⟨congrArg (fun q => Ending.returned (.int .i64 q)) HW4.out, rfl⟩
 ·rw [if_neg h] at hfl
  subst hfl
  clear ha hq hb
  go_enter Tryz.func90, Tryz.ntmps90
  go_wp2_with fail
  go_ret
  exact ⟨rfl, rfl⟩
set_option maxRecDepth 100000 in
theorem mean_c (s : Int) (n : Nat) (w : World) (hs : -1099511627776 ≤ s ∧ s ≤ 1099511627776) (hn : 1 ≤ n ∧ n ≤ 1048576) :
  Calls Tryz.prog 123 #[.int .i64 s, .int .i64 n] w fun e w' => e = .returned (.int .i64 (Pl.mean s n)) ∧ w' = w := by
 have HD := hide (div_c (2 * s + n) (2 * n) w (by omega) (by omega))
 obtain ⟨t, ht⟩ : ∃ q, Hid (2 * s = q) := ⟨_, hide rfl⟩
 obtain ⟨u, hu⟩ : ∃ q, Hid (2 * s + n = q) := ⟨_, hide rfl⟩
 obtain ⟨m, hm⟩ : ∃ q, Hid (2 * (n : Int) = q) := ⟨_, hide rfl⟩
 have hw1 : wrap64 (2 * s) = t := by rw [← ht.out]; unfold wrap64; omega
 have hw2 : wrap64 (t + n) = u := by rw [← hu.out, ← ht.out]; unfold wrap64; omega
 have hw3 : wrap64 (2 * (n : Int)) = m := by rw [← hm.out]; unfold wrap64; omega
 unfold Pl.mean
 rw [hu.out, hm.out] at HD ⊢
 clear hs hn
 go_enter Tryz.func123, Tryz.ntmps123
 go_wp2_with fail
 refine HD.out.mono ?_
 rintro e wq ⟨rfl, hw⟩
 have hw := hw.symm
 subst hw
 go_wp2_with fail
 go_ret
 exact ⟨rfl, rfl⟩
set_option maxRecDepth 100000 in
theorem preach_c (n k s : Nat) (w : World) (h1 : n ≤ 4194304) (h3 : k ≤ n) (h4 : 1 ≤ s) :
  Calls Tryz.prog 116 #[.int .i64 n, .int .i64 k, .int .i64 s, .int .i64 0] w fun e w' => e = .returned (.int .i64 (((n - k) / s + 1 : Nat) : Int)) ∧ w' = w := by
 have e0 : (((n - k) / s + 1 : Nat) : Int) = ((n : Int) - k) / s + 1 := by rw [Int.natCast_add, Int.natCast_ediv, Int.natCast_sub h3]; rfl
 rw [e0]
 have e1 : 0 ≤ (n : Int) - k := by omega
 have e3 : 0 ≤ ((n : Int) - k) / s := Int.ediv_nonneg e1 (by omega)
 have e4 : ((n : Int) - k) / s ≤ (n : Int) - k := Int.ediv_le_self _ e1
 have e5 : ¬ (s : Int) = 0 := by omega
 go_enter Tryz.func116, Tryz.ntmps116
 go_wp2_with fail
 go_ret
 exact ⟨rfl, rfl⟩
set_option maxRecDepth 100000 in
set_option maxHeartbeats 4000000 in
theorem pool_c (os : List Int) (a : Ten) (c : Pl) (avg : Bool) (ocap f g : Nat) (w0 w : World) (hc : c.Ok) (hza : a.zs = [(c.H : Int), (c.W : Int), (c.C : Int)]) (hla : a.ds.length = c.H * c.W * c.C)
  (ha : a.In w0) (hsa : ∀ z ∈ a.ds, -2147483648 ≤ z ∧ z ≤ 2147483647) (hB : Below w0.heap.size w0 w) (hg0 : w0.heap.size ≤ g) (hG : Has w g 3 (i64s os)) (hf : f + os.length ≤ c.oh * c.ow * c.C) (hm : c.oh * c.ow * c.C ≤ 1000000) :
  Calls Tryz.prog 109 #[.slice (some ⟨g, 0, none⟩) os.length ocap, .int .i64 f, .bool avg, .agg (tcells a.P a.zs.length a.cap a.u a.D a.ds.length a.dcap), .int .i64 c.s, .int .i64 c.t] w fun e w' => e = .returned (.tuple #[]) ∧ Has w' g 3 (i64s (c.part avg a.ds f os.length)) ∧ Below w0.heap.size w0 w' := by
 obtain ⟨r, hrr⟩ : ∃ r, Hid (c.part avg a.ds f os.length = r) := ⟨_, hide rfl⟩
 have hrl : Hid (r.length = os.length) := hide (by rw [← hrr.out]; exact Pl.part_length _ _ _ _ _)
 have hri : Hid (∀ i, i < os.length → r[i]? = some (c.el avg a.ds (c.at (f + i)))) := hide (fun i hi => by
  rw [← hrr.out]
  exact Pl.part_at _ _ _ _ _ _ hi)
 rw [hrr.out]
 clear hrr
 have HA := hide ha.dat
 have HOK := hide hc
 have HSA : Hid (∀ i, -2147483648 ≤ a.ds.getD i 0 ∧ a.ds.getD i 0 ≤ 2147483647) := hide (fun i => by
  rw [List.getD_eq_getElem?_getD]
  cases e : a.ds[i]? with
  | none => exact ⟨by decide, by decide⟩
  | some q => exact hsa q (List.mem_of_getElem? e))
 obtain ⟨pa', z0, hPA', ez0, ca0⟩ := ri_at (ha.shp.below hB) 0 (by rw [hza]; simp)
 obtain ⟨pa'', z1, hPA'', ez1, ca1⟩ := ri_at (ha.shp.below hB) 1 (by rw [hza]; simp)
 obtain ⟨pa, z2, hPA, ez2, ca2⟩ := ri_at (ha.shp.below hB) 2 (by rw [hza]; simp)
 obtain rfl : pa' = pa := Option.some.inj (hPA'.symm.trans hPA)
 obtain rfl : pa'' = pa' := Option.some.inj (hPA''.symm.trans hPA)
 have hz0 : z0 = c.H := by have h := ez0.out; rw [hza] at h; exact (Option.some.inj h).symm
 have hz1 : z1 = c.W := by have h := ez1.out; rw [hza] at h; exact (Option.some.inj h).symm
 have hz2 : z2 = c.C := by have h := ez2.out; rw [hza] at h; exact (Option.some.inj h).symm
 subst hz0 hz1 hz2
 have hzl : a.zs.length = 3 := by rw [hza]; rfl
 have hlda := ha.ld
 obtain ⟨na, hna⟩ : ∃ n, Hid (a.ds.length = n) := ⟨_, hide rfl⟩
 obtain ⟨n, hn⟩ : ∃ n, Hid (os.length = n) := ⟨_, hide rfl⟩
 have hna' : Hid (na = c.H * c.W * c.C) := hide (hna.out.symm.trans hla)
 have HF : Hid (f + n ≤ c.oh * c.ow * c.C) := hide (by rw [← hn.out]; exact hf)
 have HM := hide hm
 rw [hna.out] at hlda
 have hnbd : (n : Int) ≤ 1000000 := by have := HF.out; omega
 rw [hzl, hna.out, hPA, hn.out]
 rw [hn.out] at hrl hri
 have HOL := hide hn.out
 obtain ⟨W, hW⟩ : ∃ W, W = w.alloc (.cells #[.slice (some pa'') 3 a.cap, .bool a.u, .slice a.D na a.dcap] 26) := ⟨_, rfl⟩
 have HX : Hid (Has W w.heap.size 26 [.slice (some pa'') 3 a.cap, .bool a.u, .slice a.D na a.dcap]) := hide (by rw [hW]; exact Has.new w 26 _)
 have HG : Hid (Has W g 3 (i64s os)) := hide (by rw [hW]; exact hG.alloc _)
 have HBw : Below w.heap.size w W := by rw [hW]; exact (Below.refl w.heap.size w).alloc (Nat.le_refl _) _
 have HB := hide (hB.trans (HBw.mono hB.size))
 have hgl := hG.lt
 have hsz := hB.size
 have hpl : pa''.block < w0.heap.size := by
  obtain ⟨ad', h1, h2, -⟩ := ha.shp.2 (by rw [hza]; simp)
  rw [hPA] at h1
  rw [Option.some.inj h1]
  exact h2
 have hpw : pa''.block < w.heap.size := by omega
 have cw1 : W.cell? (pa''.add 1) = some (.int .i64 c.W) := (HBw.cell (by rw [elm_block]; exact hpw)).trans ca1
 have cw2 : W.cell? (pa''.add 2) = some (.int .i64 c.C) := (HBw.cell (by rw [elm_block]; exact hpw)).trans ca2
 simp only [Addr.add, Nat.reduceEqDiff, if_false] at cw1 cw2
 have HW := hide hW
 clear ha hB hG hf hPA hPA' hPA'' ez0 ez1 ez2 hza hzl hn ca0 ca1 ca2 hla hW HBw hsa hc hm
 unfold tcells
 obtain ⟨W', hW'⟩ : ∃ x, Hid (c.W = x) := ⟨_, hide rfl⟩
 obtain ⟨C', hC'⟩ : ∃ x, Hid (c.C = x) := ⟨_, hide rfl⟩
 obtain ⟨S', hS'⟩ : ∃ x, Hid (c.s = x) := ⟨_, hide rfl⟩
 obtain ⟨T', hT'⟩ : ∃ x, Hid (c.t = x) := ⟨_, hide rfl⟩
 obtain ⟨OW, hOW⟩ : ∃ x, Hid (c.ow = x) := ⟨_, hide rfl⟩
 have HRE : Hid (∀ wr : World, Calls Tryz.prog 116 #[.int .i64 W', .int .i64 S', .int .i64 T', .int .i64 0] wr fun e w' => e = .returned (.int .i64 OW) ∧ w' = wr) := hide (fun wr => by
  have h1 := HOK.out.w2
  have h := preach_c c.W c.s c.t wr (by omega) HOK.out.ws HOK.out.t1
  rw [show (c.W - c.s) / c.t + 1 = c.ow from rfl, hW'.out, hS'.out, hT'.out, hOW.out] at h
  exact h)
 rw [hW'.out] at cw1
 rw [hC'.out] at cw2
 rw [hS'.out, hT'.out]
 go_enter Tryz.func109, Tryz.ntmps109
 go_wp2_with fail
 rw [← HW.out]
 have x0 : W.cell? ⟨w.heap.size, 0, none⟩ = some (.slice (some pa'') 3 a.cap) := HX.out.cell 0
 clear HW
 go_step3
 go_wp2_with fail
 go_quiet (fail)
 clear cw1 cw2 x0
 replace HX := hide (HX.out.drewN nq)
 replace HG := hide (HG.out.drewN nq)
 replace HB := hide (below_drewN HB.out nq)
 generalize W.drewN nq = W2 at *
 go_wp2_with fail
 refine (HRE.out W2).mono ?_
 rintro e w9 ⟨rfl, hw⟩
 have hw := hw.symm
 subst hw
 clear HRE
 go_wp2_with fail
 go_step3
 go_wp2_with fail
 go_loopg [40] n (fun q k wr => ∃ (i : Nat) (xs : List Int), q + i = n ∧ k = .int .i64 i ∧ Hid (xs.length = n) ∧ Hid (∀ j, j < i → xs[j]? = r[j]?) ∧ Hid (Has wr g 3 (i64s xs)) ∧ Hid (Has wr w.heap.size 26 [.slice (some pa'') 3 a.cap, .bool a.u, .slice a.D na a.dcap]) ∧ Hid (Below w0.heap.size w0 wr))
 case atStart => exact ⟨0, os, by omega, rfl, HOL, hide (fun j hj => by omega), HG, HX, HB⟩
 case round =>
  clear HG HX HB
  obtain ⟨i, xs, hi, rfl, HN, HI, HG, HX, HB⟩ := hrel
  by_cases hlt : i < n
  ·have him : (i : Int) < n := by omega
   have hi0 : (0 : Int) ≤ (i : Int) := by omega
   obtain ⟨s, hs⟩ : ∃ s, Hid (f + i = s) := ⟨_, hide rfl⟩
   have Hw1 : Hid (IntKind.i64.wrap ((f : Int) + (i : Int)) = (s : Int)) := hide (by have := HM.out; have := HF.out; have := hs.out; rw [IntKind.wrap_i64]; omega)
   have Hsb : Hid (s < c.oh * c.ow * c.C) := hide (by have := HF.out; have := hs.out; omega)
   obtain ⟨R, hR⟩ : ∃ x, Hid (s / C' = x) := ⟨_, hide rfl⟩
   obtain ⟨O, hO⟩ : ∃ x, Hid (s % C' = x) := ⟨_, hide rfl⟩
   obtain ⟨Y, hY⟩ : ∃ x, Hid (R / OW = x) := ⟨_, hide rfl⟩
   obtain ⟨X, hX⟩ : ∃ x, Hid (R % OW = x) := ⟨_, hide rfl⟩
   obtain ⟨Yt, hYt⟩ : ∃ x, Hid (Y * T' = x) := ⟨_, hide rfl⟩
   obtain ⟨Xt, hXt⟩ : ∃ x, Hid (X * T' = x) := ⟨_, hide rfl⟩
   have HCn : Hid (0 < C') := hide (by rw [← hC'.out]; exact HOK.out.c1)
   have HOn : Hid (0 < OW) := hide (by rw [← hOW.out]; exact Nat.succ_pos _)
   have hC0 : ¬ ((C' : Int) = 0) := by have := HCn.out; omega
   have hO0 : ¬ ((OW : Int) = 0) := by have := HOn.out; omega
   have HAt := c.at_eq HOK.out s Hsb.out
   rw [hC'.out, hOW.out, hT'.out, hR.out, hO.out, hY.out, hX.out, hYt.out, hXt.out] at HAt
   obtain ⟨hA1, hA2, hA3⟩ := HAt
   have HYs : Hid (Yt + c.s ≤ c.H ∧ Xt + c.s ≤ c.W ∧ O < c.C) := hide ⟨hA1, hA2, by rw [hC'.out]; exact hA3⟩
   clear hA1 hA2 hA3
   have HRs : Hid (R ≤ s) := hide (by rw [← hR.out]; exact Nat.div_le_self _ _)
   have HYR : Hid (Y ≤ R) := hide (by rw [← hY.out]; exact Nat.div_le_self _ _)
   have Hs2 : Hid (s ≤ 1000000) := hide (by have := Hsb.out; have := HM.out; omega)
   have Hq1 : Hid (wrap64 ((s : Int) / (C' : Int)) = (R : Int)) := hide (by
    rw [show (s : Int) / (C' : Int) = (R : Int) by rw [← hR.out]; exact (Int.natCast_ediv s C').symm]
    have := HRs.out
    have := Hs2.out
    unfold wrap64
    omega)
   have Hq2 : Hid (wrap64 ((R : Int) / (OW : Int)) = (Y : Int)) := hide (by
    rw [show (R : Int) / (OW : Int) = (Y : Int) by rw [← hY.out]; exact (Int.natCast_ediv R OW).symm]
    have := HRs.out
    have := HYR.out
    have := Hs2.out
    unfold wrap64
    omega)
   have Hr1 : Hid ((s : Int) % (C' : Int) = (O : Int)) := hide (by rw [← hO.out]; exact (Int.natCast_emod s C').symm)
   have Hr2 : Hid ((R : Int) % (OW : Int) = (X : Int)) := hide (by rw [← hX.out]; exact (Int.natCast_emod R OW).symm)
   have Hm1 : Hid (IntKind.i64.wrap ((Y : Int) * (T' : Int)) = (Yt : Int)) := hide (by rw [← Int.natCast_mul, hYt.out, IntKind.wrap_i64]; have := HYs.out; have := HOK.out.h2; omega)
   have Hm2 : Hid (IntKind.i64.wrap ((X : Int) * (T' : Int)) = (Xt : Int)) := hide (by rw [← Int.natCast_mul, hXt.out, IntKind.wrap_i64]; have := HYs.out; have := HOK.out.w2; omega)
   have hw1 := Hw1.out
   have hq1 := Hq1.out
   have hq2 := Hq2.out
   have hr1 := Hr1.out
   have hr2 := Hr2.out
   have hm1 := Hm1.out
   have hm2 := Hm2.out
   go_wp2_with fail
   go_quiet (fail)
   rw [Hr1.out]
   clear hw1 hq1 hq2 hr1 hr2 hm1 hm2 Hw1 Hq1 Hq2 Hr1 Hr2 Hm1 Hm2 hC0 hO0
   have hv := hri.out i hlt
   rw [hs.out] at hv
   obtain ⟨F, hF⟩ : ∃ x, Hid (c.at s = x) := ⟨_, hide rfl⟩
   rw [hF.out] at hv
   have HV := hide hv
   clear hv
   have HFe : Hid ((Yt * W' + Xt) * C' + O = F) := hide (by
    rw [← hF.out]
    unfold Pl.at Pl.first
    rw [hC'.out, hOW.out, hT'.out, hW'.out, hR.out, hO.out, hY.out, hX.out, hYt.out, hXt.out])
   have HLt : Hid (∀ k, k < S' * S' → F + c.off k < na) := hide (fun k hk => by
    have h := c.lt HOK.out s k Hsb.out (by rw [hS'.out]; exact hk)
    rw [hF.out] at h
    rw [hna'.out]
    exact h)
   have HS1 : Hid (1 ≤ S' ∧ S' ≤ 16) := hide (by rw [← hS'.out]; exact ⟨HOK.out.s1, HOK.out.s2⟩)
   have HO0 : Hid (c.off 0 = 0) := hide (by unfold Pl.off; simp)
   have HF0 : Hid (F < na) := hide (by
    have h := HLt.out 0 (Nat.mul_pos HS1.out.1 HS1.out.1)
    rw [HO0.out] at h
    exact h)
   have Hna2 : Hid (na ≤ 16384) := hide (by rw [hna'.out]; exact HOK.out.a2)
   replace HX := hide (HX.out.drewN nq)
   replace HG := hide (HG.out.drewN nq)
   replace HB := hide (below_drewN HB.out nq)
   generalize wr.drewN nq = W3 at *
   obtain ⟨y1, hy1⟩ : ∃ x, Hid (Yt * W' = x) := ⟨_, hide rfl⟩
   obtain ⟨y2, hy2⟩ : ∃ x, Hid (y1 + Xt = x) := ⟨_, hide rfl⟩
   obtain ⟨y3, hy3⟩ : ∃ x, Hid (y2 * C' = x) := ⟨_, hide rfl⟩
   rw [hy1.out, hy2.out, hy3.out] at HFe
   have Hl1 : Hid (y3 ≤ 16384 ∧ y2 ≤ y3) := hide ⟨by have := HFe.out; have := HF0.out; have := Hna2.out; omega, by rw [← hy3.out]; exact Nat.le_mul_of_pos_right _ HCn.out⟩
   have Hv1 : Hid (wrap64 ((Yt : Int) * (W' : Int)) = (y1 : Int)) := hide (by rw [← Int.natCast_mul, hy1.out]; have := Hl1.out; have := hy2.out; unfold wrap64; omega)
   have Hv2 : Hid (wrap64 ((y1 : Int) + (Xt : Int)) = (y2 : Int)) := hide (by have := Hl1.out; have := hy2.out; unfold wrap64; omega)
   have Hv3 : Hid (wrap64 ((y2 : Int) * (C' : Int)) = (y3 : Int)) := hide (by rw [← Int.natCast_mul, hy3.out]; have := Hl1.out; unfold wrap64; omega)
   have Hv4 : Hid (wrap64 ((y3 : Int) + (O : Int)) = (F : Int)) := hide (by have := HFe.out; have := HF0.out; have := Hna2.out; unfold wrap64; omega)
   have hv1 := Hv1.out
   have hv2 := Hv2.out
   have hv3 := Hv3.out
   have hv4 := Hv4.out
   obtain ⟨ad, x, hAD, ex, cx⟩ := ri_at (HA.out.below HB.out) F (by rw [hna.out]; exact HF0.out)
   have hF00 : (0 : Int) ≤ (F : Int) := by omega
   have hF01 : (F : Int) < na := by have := HF0.out; omega
   have HAD := hide hAD
   have HXc := HX
   rw [hAD] at HXc
   have a2 : W3.cell? ⟨w.heap.size, 2, none⟩ = some (.slice (some ad) na a.dcap) := HXc.out.cell 2
   have Hex : Hid (a.ds.getD F 0 = x) := hide (by rw [List.getD_eq_getElem?_getD, ex.out, Option.getD_some])
   clear hAD ex HXc
   go_wp2_with fail
   rw [Hv4.out]
   go_quiet (fail)
   clear hv1 hv2 hv3 hv4 Hv1 Hv2 Hv3 Hv4 hy1 hy2 hy3 Hl1 HFe a2 cx HAD
   replace HX := hide (HX.out.drewN nq)
   replace HG := hide (HG.out.drewN nq)
   replace HB := hide (below_drewN HB.out nq)
   generalize W3.drewN nq = W4 at *
   have HT0 : Hid (Pl.top (c.v a.ds F) 0 = x) := hide (by
    show a.ds.getD (F + c.off 0) 0 = x
    rw [HO0.out, Nat.add_zero, Hex.out])
   obtain ⟨N2, hN2⟩ : ∃ x, Hid (S' * S' = x) := ⟨_, hide rfl⟩
   have HN2 : Hid (1 ≤ N2 ∧ N2 ≤ 256) := hide (by
    rw [← hN2.out]
    have h1 := HS1.out
    exact ⟨Nat.mul_pos h1.1 h1.1, by have := Nat.mul_le_mul h1.2 h1.2; omega⟩)
   have Hww : Hid (wrap64 ((S' : Int) * (S' : Int)) = (N2 : Int)) := hide (by rw [← Int.natCast_mul, hN2.out]; have := HN2.out; unfold wrap64; omega)
   go_wp2_with fail
   go_loopg [20, 21, 22] N2 (fun q s m k wr => ∃ (j : Nat) (sv mv : Int), q + j = N2 ∧ k = .int .i64 j ∧ s = .int .i64 sv ∧ m = .int .i64 mv ∧ Hid (Pl.add (c.v a.ds F) j = sv) ∧ Hid (Pl.top (c.v a.ds F) j = mv) ∧ Hid (Has wr g 3 (i64s xs)) ∧ Hid (Has wr w.heap.size 26 [.slice (some pa'') 3 a.cap, .bool a.u, .slice a.D na a.dcap]) ∧ Hid (Below w0.heap.size w0 wr))
   case atStart => exact ⟨0, 0, x, by omega, rfl, rfl, rfl, hide rfl, HT0, HG, HX, HB⟩
   case round =>
    clear HG HX HB
    obtain ⟨j, sv, mv, hj, rfl, rfl, rfl, HAd, HTp, HG, HX, HB⟩ := hrel
    by_cases hjk : j = N2
    ·subst hjk
     have hsl := Pl.add_le (c.v a.ds F) 2147483648 j (fun k _ => by have := HSA.out (F + c.off k); unfold Pl.v; omega)
     rw [HAd.out] at hsl
     have HMe := hide (fun W => mean_c sv j W (by have := HN2.out; omega) (by have := HN2.out; omega))
     clear hsl
     have hw1 := Hww.out
     have g1 : wr.cell? ⟨g, i, none⟩ = some (.int .i64 (xs[i]'(by rw [HN.out]; exact hlt))) := by
      rw [HG.out.cell]
      unfold i64s
      rw [List.getElem?_map, List.getElem?_eq_getElem (by rw [HN.out]; exact hlt)]
      rfl
     have gf := HG.out.frozen i
     cases avg
     ·have hel : c.el false a.ds F = mv := by
       show Pl.top (c.v a.ds F) (c.s * c.s) = mv
       rw [hS'.out, hN2.out, HTp.out]
      rw [hel] at HV
      go_wp2_with fail
      go_roundg (n - (i + 1))
      case measure => omega
      case rel =>
       refine ⟨i + 1, xs.set i mv, by omega, by go_num, hide (by rw [List.length_set]; exact HN.out), hide (fun j hj => ?_), ?_, ?_, ?_⟩
       ·rw [List.getElem?_set]
        split
        ·rename_i h
         subst h
         rw [if_pos (by rw [HN.out]; exact hlt), HV.out]
        ·exact HI.out j (by omega)
       ·have h := HG.out.set_ i (.int .i64 mv)
        unfold i64s at h ⊢
        rw [List.map_set]
        exact hide h
       ·exact hide (HX.out.far (p := ⟨g, i, none⟩) (by simp; omega) (.int .i64 mv))
       ·exact hide (HB.out.setCell (p := ⟨g, i, none⟩) hg0 (.int .i64 mv))
     ·have hel : c.el true a.ds F = Pl.mean sv j := by
       show Pl.mean (Pl.add (c.v a.ds F) (c.s * c.s)) (c.s * c.s) = Pl.mean sv j
       rw [hS'.out, hN2.out, HAd.out]
      obtain ⟨v, hv⟩ : ∃ v, Hid (Pl.mean sv j = v) := ⟨_, hide rfl⟩
      rw [hel, hv.out] at HV
      rw [hv.out] at HMe
      clear hel
      go_wp2_with fail
      refine (HMe.out _).mono ?_
      rintro e w9 ⟨rfl, hw⟩
      have hw := hw.symm
      subst hw
      go_wp2_with fail
      go_roundg (n - (i + 1))
      case measure => omega
      case rel =>
       refine ⟨i + 1, (xs.set i mv).set i v, by omega, by go_num, hide (by rw [List.length_set, List.length_set]; exact HN.out), hide (fun j hj => ?_), ?_, ?_, ?_⟩
       ·rw [List.set_set, List.getElem?_set]
        split
        ·rename_i h
         subst h
         rw [if_pos (by rw [HN.out]; exact hlt), HV.out]
        ·exact HI.out j (by omega)
       ·have h := (HG.out.set_ i (.int .i64 mv)).set_ i (.int .i64 v)
        unfold i64s at h ⊢
        rw [List.map_set, List.map_set]
        exact hide h
       ·exact hide ((HX.out.far (p := ⟨g, i, none⟩) (by simp; omega) (.int .i64 mv)).far (p := ⟨g, i, none⟩) (by simp; omega) (.int .i64 v))
       ·exact hide ((HB.out.setCell (p := ⟨g, i, none⟩) hg0 (.int .i64 mv)).setCell (p := ⟨g, i, none⟩) hg0 (.int .i64 v))
    ·have hjl : j < N2 := by omega
     have hjb : ((j : Int) == (N2 : Int)) = false := by simp; omega
     obtain ⟨dy, hdy⟩ : ∃ x, Hid (j / S' = x) := ⟨_, hide rfl⟩
     obtain ⟨dx, hdx⟩ : ∃ x, Hid (j % S' = x) := ⟨_, hide rfl⟩
     obtain ⟨e1, he1⟩ : ∃ x, Hid (dy * W' = x) := ⟨_, hide rfl⟩
     obtain ⟨e2, he2⟩ : ∃ x, Hid (e1 + dx = x) := ⟨_, hide rfl⟩
     obtain ⟨e3, he3⟩ : ∃ x, Hid (e2 * C' = x) := ⟨_, hide rfl⟩
     obtain ⟨q, hq⟩ : ∃ x, Hid (F + e3 = x) := ⟨_, hide rfl⟩
     have HOf : Hid (F + c.off j = q) := hide (by
      unfold Pl.off
      rw [hS'.out, hW'.out, hC'.out, hdy.out, hdx.out, he1.out, he2.out, he3.out, hq.out])
     have Hqn : Hid (q < na) := hide (by rw [← HOf.out]; exact HLt.out j (by rw [hN2.out]; exact hjl))
     have Hdl : Hid (dy ≤ 256) := hide (by have h1 := Nat.div_le_self j S'; rw [hdy.out] at h1; have := HN2.out; omega)
     have Hel : Hid (e2 ≤ e3) := hide (by rw [← he3.out]; exact Nat.le_mul_of_pos_right _ HCn.out)
     have Hb : Hid (e1 ≤ e2 ∧ e2 ≤ e3 ∧ e3 ≤ q ∧ q ≤ 16384) := hide (by have := Hel.out; have := he2.out; have := hq.out; have := Hqn.out; have := Hna2.out; omega)
     have hS0 : ¬ ((S' : Int) = 0) := by have := HS1.out; omega
     have Hq1 : Hid (wrap64 ((j : Int) / (S' : Int)) = (dy : Int)) := hide (by
      rw [show (j : Int) / (S' : Int) = (dy : Int) by rw [← hdy.out]; exact (Int.natCast_ediv j S').symm]
      have := Hdl.out
      unfold wrap64
      omega)
     have Hr1 : Hid ((j : Int) % (S' : Int) = (dx : Int)) := hide (by rw [← hdx.out]; exact (Int.natCast_emod j S').symm)
     have Hm1 : Hid (IntKind.i64.wrap ((dy : Int) * (W' : Int)) = (e1 : Int)) := hide (by rw [← Int.natCast_mul, he1.out, IntKind.wrap_i64]; have := Hb.out; omega)
     have Hm2 : Hid (IntKind.i64.wrap ((e1 : Int) + (dx : Int)) = (e2 : Int)) := hide (by rw [IntKind.wrap_i64]; have := Hb.out; have := he2.out; omega)
     have Hm3 : Hid (IntKind.i64.wrap ((e2 : Int) * (C' : Int)) = (e3 : Int)) := hide (by rw [← Int.natCast_mul, he3.out, IntKind.wrap_i64]; have := Hb.out; omega)
     have Hm4 : Hid (IntKind.i64.wrap ((F : Int) + (e3 : Int)) = (q : Int)) := hide (by rw [IntKind.wrap_i64]; have := Hb.out; have := hq.out; omega)
     obtain ⟨ad, x, hAD, ex, cx⟩ := ri_at (HA.out.below HB.out) q (by rw [hna.out]; exact Hqn.out)
     have Hex : Hid (c.v a.ds F j = x) := hide (by unfold Pl.v; rw [HOf.out, List.getD_eq_getElem?_getD, ex.out, Option.getD_some])
     have hxb := HSA.out (F + c.off j)
     have hxv : a.ds.getD (F + c.off j) 0 = x := Hex.out
     rw [hxv] at hxb
     have hsl := Pl.add_le (c.v a.ds F) 2147483648 j (fun k _ => by have := HSA.out (F + c.off k); unfold Pl.v; omega)
     rw [HAd.out] at hsl
     obtain ⟨s2, hs2⟩ : ∃ x_, Hid (sv + x = x_) := ⟨_, hide rfl⟩
     obtain ⟨m2, hm2⟩ : ∃ x_, Hid (max mv x = x_) := ⟨_, hide rfl⟩
     have Hws : Hid (wrap64 (sv + x) = s2) := hide (by rw [← hs2.out]; have := HN2.out; unfold wrap64; omega)
     have HAd2 : Hid (Pl.add (c.v a.ds F) (j + 1) = s2) := hide (by
      show Pl.add (c.v a.ds F) j + c.v a.ds F j = s2
      rw [HAd.out, Hex.out, hs2.out])
     have HTp2 : Hid (Pl.top (c.v a.ds F) (j + 1) = m2) := hide (by
      show max (Pl.top (c.v a.ds F) j) (c.v a.ds F j) = m2
      rw [HTp.out, Hex.out, hm2.out])
     have M1 : Hid ((if mv < x then x else mv) = m2) := hide (by have := hm2.out; split <;> omega)
     have M2 : Hid ((if x < mv then mv else x) = m2) := hide (by have := hm2.out; split <;> omega)
     have hj1 : ((j : Nat) : Int) + 1 ≤ 1000001 := by have := HN2.out; omega
     have hq0 : (0 : Int) ≤ (q : Int) := by omega
     have hqn : (q : Int) < na := by have := Hqn.out; omega
     have HAD := hide hAD
     rw [hAD] at HX
     have a2 : wr.cell? ⟨w.heap.size, 2, none⟩ = some (.slice (some ad) na a.dcap) := HX.out.cell 2
     clear hAD ex hxb hxv hsl
     have hw1 := Hww.out
     go_wp2_with fail
     clear hw1
     have hq1 := Hq1.out
     have hr1 := Hr1.out
     have hm1 := Hm1.out
     have hm2' := Hm2.out
     have hm3 := Hm3.out
     have hm4 := Hm4.out
     go_quiet (fail)
     clear hq1 hr1 hm1 hm2' hm3 hm4 a2 cx
     have hws := Hws.out
     have m1 := M1.out
     have m2' := M2.out
     go_wp2_with fail
     go_roundg (N2 - (j + 1))
     case measure => omega
     case rel =>
      refine ⟨j + 1, s2, m2, by omega, by go_num, congrArg (Value.int .i64) Hws.out, rfl, HAd2, HTp2, hide (HG.out.drewN nq), ?_, hide (below_drewN HB.out nq)⟩
      have h := hide (HX.out.drewN nq)
      rw [← HAD.out] at h
      exact h
  ·obtain rfl : i = n := by omega
   have hx : xs = r := List.ext_getElem? (fun j => by
    rcases Nat.lt_or_ge j i with h | h
    ·exact HI.out j h
    ·rw [List.getElem?_eq_none (by rw [HN.out]; exact h), List.getElem?_eq_none (by rw [hrl.out]; exact h)])
   subst hx
   go_wp2_with fail
   refine bodyPost_end (results_none rfl _ _ _) rfl ?_
   exact ⟨rfl, HG.out, HB.out⟩
def Pl.reach (n k s : Int) : Int := (n - k) / s + 1
def Pl.dims (qs : List Int) (a : Dsc) : List Int := [Pl.reach (a.zs.getD 0 0) (qs.getD 0 0) (qs.getD 1 0), Pl.reach (a.zs.getD 1 0) (qs.getD 0 0) (qs.getD 1 0), a.zs.getD 2 0]
def Pl.code (qs : List Int) (a : Dsc) : Nat :=
 if qs.length ≠ 2 then 101 else if Shp.code a.zs ≠ 0 then Shp.code a.zs
 else if a.zs.length ≠ 3 then 101
 else if qs.getD 0 0 < 1 ∨ qs.getD 0 0 > 16 ∨ qs.getD 1 0 < 1 ∨ qs.getD 1 0 > 16 then 102
 else if qs.getD 0 0 > a.zs.getD 0 0 ∨ qs.getD 0 0 > a.zs.getD 1 0 then 101
 else 0
def Pl.shape (qs : List Int) (a : Dsc) : List Int := if Pl.code qs a = 0 then Pl.dims qs a else []
def Pl.kind (qs : List Int) (a : Dsc) : Bool := if Pl.code qs a = 0 then a.u else false
theorem Pl.bad {qs : List Int} {a : Dsc} (h : Pl.code qs a ≠ 0) : Pl.shape qs a = [] ∧ Pl.kind qs a = false := by
 unfold Pl.shape Pl.kind
 rw [if_neg h, if_neg h]
 exact ⟨rfl, rfl⟩
theorem Pl.code_known (qs : List Int) (a : Dsc) : Cel.known (Pl.code qs a) := by
 unfold Pl.code
 split
 ·exact .inr (.inl rfl)
 split
 ·exact Cel.known_shp _
 split
 ·exact .inr (.inl rfl)
 split
 ·exact .inr (.inr (.inl rfl))
 split
 ·exact .inr (.inl rfl)
 ·exact .inl rfl
theorem Pl.code2q (q0 q1 : Int) (a : Dsc) : Pl.code [q0, q1] a = (if Shp.code a.zs ≠ 0 then Shp.code a.zs
 else if a.zs.length ≠ 3 then 101
 else if q0 < 1 ∨ q0 > 16 ∨ q1 < 1 ∨ q1 > 16 then 102
 else if q0 > a.zs.getD 0 0 ∨ q0 > a.zs.getD 1 0 then 101
 else 0) := by
 unfold Pl.code
 rw [if_neg (by simp)]
 rfl
theorem Pl.reach_nat (n k s : Nat) (h : k ≤ n) : Pl.reach n k s = (((n - k) / s + 1 : Nat) : Int) := by
 unfold Pl.reach
 rw [Int.natCast_add, Int.natCast_ediv, Int.natCast_sub h]
 rfl
theorem Pl.reach_c (n k s : Int) (w : World) (h1 : 0 ≤ n ∧ n ≤ 256) (h2 : 0 ≤ k ∧ k ≤ n) (h3 : 1 ≤ s) :
  Calls Tryz.prog 116 #[.int .i64 n, .int .i64 k, .int .i64 s, .int .i64 0] w fun e w' => e = .returned (.int .i64 (Pl.reach n k s)) ∧ w' = w := by
 obtain ⟨n, rfl⟩ : ∃ m : Nat, n = m := ⟨n.toNat, by omega⟩
 obtain ⟨k, rfl⟩ : ∃ m : Nat, k = m := ⟨k.toNat, by omega⟩
 obtain ⟨s, rfl⟩ : ∃ m : Nat, s = m := ⟨s.toNat, by omega⟩
 rw [Pl.reach_nat n k s (by omega)]
 exact preach_c n k s w (by omega) (by omega) (by omega)
theorem Pl.reach_le (n k s : Int) (h1 : 0 ≤ n ∧ n ≤ 256) (h2 : 0 ≤ k ∧ k ≤ n) (h3 : 1 ≤ s) : 1 ≤ Pl.reach n k s ∧ Pl.reach n k s ≤ 257 := by
 unfold Pl.reach
 have e1 : 0 ≤ n - k := by omega
 have e3 : 0 ≤ (n - k) / s := Int.ediv_nonneg e1 (by omega)
 have e4 : (n - k) / s ≤ n - k := Int.ediv_le_self _ e1
 omega
set_option maxRecDepth 100000 in
set_option maxHeartbeats 8000000 in
theorem presult_c (qs : List Int) (A : Option Addr) (qcap : Nat) (a : Dsc) (ah am ar : Addr) (w : World) (hq : Ri w A qs) (hql : qs.length ≤ 1000000) (ha : a.In w) (hE : E3 w ah am ar) :
  Calls Tryz.prog 99 #[.slice A qs.length qcap, .agg (dcells a.P a.zs.length a.cap a.u)] w (DscE w ah am ar (Pl.shape qs a) (Pl.kind qs a) (Pl.code qs a)) := by
 have HEs := hide hE.1
 have HEr := hide hE.2.2
 obtain ⟨W0, hW0⟩ : ∃ W, W = (w.alloc (.cells #[.slice a.P a.zs.length a.cap, .bool a.u] 24)).alloc (.cells #[.slice none 0 0, .bool false] 24) := ⟨_, rfl⟩
 have HA : Hid (Has W0 w.heap.size 24 [.slice a.P a.zs.length a.cap, .bool a.u]) := hide (by rw [hW0]; exact (Has.new w 24 _).alloc _)
 have HZ : Hid (Has W0 (w.heap.size + 1) 24 [.slice none 0 0, .bool false]) := hide (by rw [hW0]; exact box_at _ _ _ _ (by simp))
 have HB0 : Hid (Below w.heap.size w W0) := hide (by rw [hW0]; exact ((Below.refl _ _).alloc (Nat.le_refl _) _).alloc (by simp) _)
 have HW := hide hW0
 by_cases hn : qs.length = 2
 case neg =>
  have hcd : Pl.code qs a = 101 := by
   unfold Pl.code
   rw [if_pos hn]
  obtain ⟨e1, e2⟩ := Pl.bad (by rw [hcd]; decide)
  have HD1 := hide e1
  have HD2 := hide e2
  have HCD := hide hcd
  clear e1 e2 hcd
  obtain ⟨nq, hnq⟩ : ∃ n, Hid (qs.length = n) := ⟨_, hide rfl⟩
  rw [hnq.out] at hn hql ⊢
  have hni : ((nq : Int) != 2) = true := by simp; omega
  clear hq ha hE hW0
  go_enter Tryz.func99, Tryz.ntmps99
  go_wp2_with fail
  rw [← HW.out]
  clear HW
  obtain ⟨z0, z1, zf0, zf1, HZf, HFf⟩ := elm_twod HZ.out HB0.out (Nat.le_add_right _ 1) (.slice none 0 0) (.bool false)
  have hs5 : W0.drew.cell? ⟨1, 0, none⟩ = some (errv ah) := (HEs.out.below HB0.out).1
  have hglt : 1 < w.heap.size := HEs.out.2.1
  have hS9 := hide (HEs.out.below HFf.out).1
  go_wp2_with fail
  go_region_held3 (fun W => W.cell? ⟨1, 0, none⟩ = some (errv ah))
   (first | exact hs5 | assumption | exact hS9.out)
   (first | fail)
  go_wp2_with fail
  refine bodyPost_ret (results_desc rfl _ _ (w.heap.size + 1) _ _ rfl HZf.out) rfl ?_
  rw [HD1.out, HD2.out, HCD.out]
  exact DscE.bad rfl HFf.out
 case pos =>
 obtain ⟨q0, q1, rfl⟩ : ∃ x y, qs = [x, y] := by
  match h : qs, hn with
  | [x, y], _ => exact ⟨x, y, rfl⟩
 have HQ := hide (fun W (h : Below w.heap.size w W) => hq.below h)
 rw [hn]
 clear hn hql hq
 have HVa := hide (valid_c a.zs a.P a.cap a.u am ar W0 (ha.shp.below HB0.out) (by have := ha.ls; omega) (hE.2.below HB0.out))
 have HIa := hide (fun W (h : Below w.heap.size w W) => ha.shp.below h)
 have hka' := Shp.code_is a.zs
 have a0 := HA.out.cell 0
 have a1 := HA.out.cell 1
 clear ha hE hW0
 obtain ⟨ka, hka⟩ : ∃ k, Hid (Shp.code a.zs = k) := ⟨_, hide rfl⟩
 rw [hka.out] at HVa hka'
 go_enter Tryz.func99, Tryz.ntmps99
 go_wp2_with fail
 rw [← HW.out]
 clear HW a0 a1
 refine HVa.out.mono ?_
 rintro e w1 ⟨rfl, hb⟩
 replace HB0 := hide (HB0.out.trans (hb.mono HB0.out.size))
 replace HA := hide (HA.out.below hb HA.out.lt)
 replace HZ := hide (HZ.out.below hb HZ.out.lt)
 clear hb HVa
 by_cases h1 : ka = 0
 case neg =>
  have hcd : Pl.code [q0, q1] a = ka := by
   rw [Pl.code2q, hka.out, if_pos h1]
  obtain ⟨e1, e2⟩ := Pl.bad (by rw [hcd]; exact h1)
  have HD1 := hide e1
  have HD2 := hide e2
  have HCD := hide hcd
  have hv := Shp.err_v (am := am) (ar := ar) hka' h1
  have r1 := run_neqerr hv
  have r2 := run_neqguard hv
  have hx : Tens.err ah am ar ka = Shp.err am ar ka := by
   unfold Tens.err
   rw [if_neg (by omega)]
  have HX := hide hx
  clear hv hx hcd e1 e2 hka' h1
  obtain ⟨z0, z1, zf0, zf1, HZf, HFf⟩ := elm_two HZ.out HB0.out (Nat.le_add_right _ 1) (.slice none 0 0) (.bool false)
  go_wp2_with fail
  refine bodyPost_ret (results_desc rfl _ _ (w.heap.size + 1) _ _ rfl HZf.out) rfl ?_
  rw [HD1.out, HD2.out, HCD.out]
  exact DscE.bad (by rw [HX.out]; rfl) HFf.out
 case pos =>
 subst h1
 have hs1 : Shp.err am ar 0 = .nilIface := rfl
 rw [hs1]
 clear hs1 hka'
 obtain ⟨na, hna⟩ : ∃ n, Hid (a.zs.length = n) := ⟨_, hide rfl⟩
 rw [hna.out] at HA
 have a0 : w1.cell? ⟨w.heap.size, 0, none⟩ = some (.slice a.P na a.cap) := HA.out.cell 0
 by_cases h2 : na = 3
 case neg =>
  have hcd : Pl.code [q0, q1] a = 101 := by
   rw [Pl.code2q, hka.out, if_neg (by simp), hna.out, if_pos h2]
  have hni : ((na : Int) != 3) = true := by simp; omega
  obtain ⟨e1, e2⟩ := Pl.bad (by rw [hcd]; decide)
  have HD1 := hide e1
  have HD2 := hide e2
  have HCD := hide hcd
  clear e1 e2 hcd h2
  obtain ⟨z0, z1, zf0, zf1, HZf, HFf⟩ := elm_twod HZ.out HB0.out (Nat.le_add_right _ 1) (.slice none 0 0) (.bool false)
  have hs5 : w1.drew.cell? ⟨1, 0, none⟩ = some (errv ah) := (HEs.out.below HB0.out).1
  have hglt : 1 < w.heap.size := HEs.out.2.1
  have hS9 := hide (HEs.out.below HFf.out).1
  go_wp2_with fail
  go_region_held3 (fun W => W.cell? ⟨1, 0, none⟩ = some (errv ah))
   (first | exact hs5 | assumption | exact hS9.out)
   (first | fail)
  go_wp2_with fail
  refine bodyPost_ret (results_desc rfl _ _ (w.heap.size + 1) _ _ rfl HZf.out) rfl ?_
  rw [HD1.out, HD2.out, HCD.out]
  exact DscE.bad rfl HFf.out
 case pos =>
 subst h2
 obtain ⟨x0, x1, x2, hx⟩ : ∃ x y z, a.zs = [x, y, z] := by
  have := hna.out
  match h : a.zs, this with
  | [x, y, z], _ => exact ⟨x, y, z, rfl⟩
 have HXA := HIa
 rw [hx] at HXA
 clear HIa
 have HCQ : Hid (Pl.code [q0, q1] a = if q0 < 1 ∨ q0 > 16 ∨ q1 < 1 ∨ q1 > 16 then 102 else if q0 > x0 ∨ q0 > x1 then 101 else 0) := hide (by
  rw [Pl.code2q, hka.out, if_neg (by simp), hna.out, if_neg (by simp), hx]
  rfl)
 have HSH : Hid (Pl.code [q0, q1] a = 0 → Pl.shape [q0, q1] a = [Pl.reach x0 q0 q1, Pl.reach x1 q0 q1, x2] ∧ Pl.kind [q0, q1] a = a.u) := hide (fun h => by
  unfold Pl.shape Pl.kind Pl.dims
  rw [if_pos h, if_pos h, hx]
  exact ⟨rfl, rfl⟩)
 have HDA := hide (Shp.whole hka.out).2.1
 rw [hx] at HDA
 have HD0 := hide (HDA.out x0 (by simp))
 have HD1' := hide (HDA.out x1 (by simp))
 have HD2' := hide (HDA.out x2 (by simp))
 obtain ⟨pa, hpa, hpal, x0', x1', x2'⟩ := ri_three (HXA.out _ HB0.out)
 rw [hpa] at a0 HA HXA
 clear hx hpa hpal x0' x1' x2' HDA
 obtain ⟨aq, haq, q0', q1'⟩ := ri_pair (HQ.out _ HB0.out)
 subst haq
 go_wp2_with fail
 go_quiet (fail)
 clear a0 q0' q1' HQ
 replace HZ := hide (HZ.out.drewN nq)
 replace HA := hide (HA.out.drewN nq)
 replace HB0 := hide (below_drewN HB0.out nq)
 generalize w1.drewN nq = W3 at *
 obtain ⟨m, hm⟩ : ∃ m, Hid (min q0 q1 = m) := ⟨_, hide rfl⟩
 obtain ⟨M, hM⟩ : ∃ m, Hid (max q0 q1 = m) := ⟨_, hide rfl⟩
 have m1 : (if q0 < q1 then q0 else q1) = m := by have := hm.out; split <;> omega
 have m2 : (if q1 < q0 then q1 else q0) = m := by have := hm.out; split <;> omega
 have m3 : (if q0 < q1 then q1 else q0) = M := by have := hM.out; split <;> omega
 have m4 : (if q1 < q0 then q0 else q1) = M := by have := hM.out; split <;> omega
 by_cases c1 : m < 1
 case pos =>
  have hcd : Pl.code [q0, q1] a = 102 := by rw [HCQ.out, if_pos (by have := hm.out; omega)]
  obtain ⟨e1, e2⟩ := Pl.bad (by rw [hcd]; decide)
  have HD1 := hide e1
  have HD2 := hide e2
  have HCD := hide hcd
  clear e1 e2 hcd
  obtain ⟨z0, z1, zf0, zf1, HZf, HFf⟩ := elm_twod HZ.out HB0.out (Nat.le_add_right _ 1) (.slice none 0 0) (.bool false)
  have hs5 : W3.drew.cell? ⟨3, 0, none⟩ = some (errv ar) := (HEr.out.below HB0.out).1
  have hglt : 3 < w.heap.size := HEr.out.2.1
  have hS9 := hide (HEr.out.below HFf.out).1
  go_wp2_with fail
  go_region_held3 (fun W => W.cell? ⟨3, 0, none⟩ = some (errv ar))
   (first | exact hs5 | assumption | exact hS9.out)
   (first | fail)
  go_wp2_with fail
  refine bodyPost_ret (results_desc rfl _ _ (w.heap.size + 1) _ _ rfl HZf.out) rfl ?_
  rw [HD1.out, HD2.out, HCD.out]
  exact DscE.bad rfl HFf.out
 case neg =>
 by_cases c2 : 16 < M
 case pos =>
  have hcd : Pl.code [q0, q1] a = 102 := by rw [HCQ.out, if_pos (by have := hM.out; omega)]
  obtain ⟨e1, e2⟩ := Pl.bad (by rw [hcd]; decide)
  have HD1 := hide e1
  have HD2 := hide e2
  have HCD := hide hcd
  clear e1 e2 hcd
  obtain ⟨z0, z1, zf0, zf1, HZf, HFf⟩ := elm_twod HZ.out HB0.out (Nat.le_add_right _ 1) (.slice none 0 0) (.bool false)
  have hs5 : W3.drew.cell? ⟨3, 0, none⟩ = some (errv ar) := (HEr.out.below HB0.out).1
  have hglt : 3 < w.heap.size := HEr.out.2.1
  have hS9 := hide (HEr.out.below HFf.out).1
  go_wp2_with fail
  go_region_held3 (fun W => W.cell? ⟨3, 0, none⟩ = some (errv ar))
   (first | exact hs5 | assumption | exact hS9.out)
   (first | fail)
  go_wp2_with fail
  refine bodyPost_ret (results_desc rfl _ _ (w.heap.size + 1) _ _ rfl HZf.out) rfl ?_
  rw [HD1.out, HD2.out, HCD.out]
  exact DscE.bad rfl HFf.out
 case neg =>
 have Hc : Hid (1 ≤ q0 ∧ q0 ≤ 16 ∧ 1 ≤ q1 ∧ q1 ≤ 16) := hide (by have := hm.out; have := hM.out; omega)
 go_wp2_with fail
 clear m1 m2 m3 m4 c1 c2 hm hM
 have a0 : W3.cell? ⟨w.heap.size, 0, none⟩ = some (.slice (some pa) 3 a.cap) := HA.out.cell 0
 obtain ⟨pa', hpa', hpal, x0', x1', x2'⟩ := ri_three (HXA.out _ HB0.out)
 obtain rfl : pa = pa' := Option.some.inj hpa'
 go_quiet (fail)
 clear a0 hpa' hpal x0' x1' x2' HXA
 replace HZ := hide (HZ.out.drewN nq)
 replace HA := hide (HA.out.drewN nq)
 replace HB0 := hide (below_drewN HB0.out nq)
 generalize W3.drewN nq = W4 at *
 by_cases c1 : x0 < q0
 case pos =>
  have hcd : Pl.code [q0, q1] a = 101 := by rw [HCQ.out, if_neg (by have := Hc.out; omega), if_pos (.inl c1)]
  obtain ⟨e1, e2⟩ := Pl.bad (by rw [hcd]; decide)
  have HD1 := hide e1
  have HD2 := hide e2
  have HCD := hide hcd
  clear e1 e2 hcd
  obtain ⟨z0, z1, zf0, zf1, HZf, HFf⟩ := elm_twod HZ.out HB0.out (Nat.le_add_right _ 1) (.slice none 0 0) (.bool false)
  have hs5 : W4.drew.cell? ⟨1, 0, none⟩ = some (errv ah) := (HEs.out.below HB0.out).1
  have hglt : 1 < w.heap.size := HEs.out.2.1
  have hS9 := hide (HEs.out.below HFf.out).1
  go_wp2_with fail
  go_region_held3 (fun W => W.cell? ⟨1, 0, none⟩ = some (errv ah))
   (first | exact hs5 | assumption | exact hS9.out)
   (first | fail)
  go_wp2_with fail
  refine bodyPost_ret (results_desc rfl _ _ (w.heap.size + 1) _ _ rfl HZf.out) rfl ?_
  rw [HD1.out, HD2.out, HCD.out]
  exact DscE.bad rfl HFf.out
 case neg =>
 by_cases c2 : x1 < q0
 case pos =>
  have hcd : Pl.code [q0, q1] a = 101 := by rw [HCQ.out, if_neg (by have := Hc.out; omega), if_pos (.inr c2)]
  obtain ⟨e1, e2⟩ := Pl.bad (by rw [hcd]; decide)
  have HD1 := hide e1
  have HD2 := hide e2
  have HCD := hide hcd
  clear e1 e2 hcd
  obtain ⟨z0, z1, zf0, zf1, HZf, HFf⟩ := elm_twod HZ.out HB0.out (Nat.le_add_right _ 1) (.slice none 0 0) (.bool false)
  have hs5 : W4.drew.cell? ⟨1, 0, none⟩ = some (errv ah) := (HEs.out.below HB0.out).1
  have hglt : 1 < w.heap.size := HEs.out.2.1
  have hS9 := hide (HEs.out.below HFf.out).1
  go_wp2_with fail
  go_region_held3 (fun W => W.cell? ⟨1, 0, none⟩ = some (errv ah))
   (first | exact hs5 | assumption | exact hS9.out)
   (first | fail)
  go_wp2_with fail
  refine bodyPost_ret (results_desc rfl _ _ (w.heap.size + 1) _ _ rfl HZf.out) rfl ?_
  rw [HD1.out, HD2.out, HCD.out]
  exact DscE.bad rfl HFf.out
 case neg =>
 have HCK : Hid (Pl.code [q0, q1] a = 0) := hide (by rw [HCQ.out, if_neg (by have := Hc.out; omega), if_neg (by omega)])
 have Hy : Hid (q0 ≤ x0 ∧ q0 ≤ x1) := hide (by omega)
 obtain ⟨oh, hoh⟩ : ∃ t, Hid (Pl.reach x0 q0 q1 = t) := ⟨_, hide rfl⟩
 obtain ⟨ow, how⟩ : ∃ t, Hid (Pl.reach x1 q0 q1 = t) := ⟨_, hide rfl⟩
 have HR1 : Hid (∀ W : World, Calls Tryz.prog 116 #[.int .i64 x0, .int .i64 q0, .int .i64 q1, .int .i64 0] W fun e w' => e = .returned (.int .i64 oh) ∧ w' = W) := hide (fun W => by
  have := Hc.out
  have := HD0.out
  have := Hy.out
  have h := Pl.reach_c x0 q0 q1 W (by omega) (by omega) (by omega)
  rw [hoh.out] at h
  exact h)
 have HR2 : Hid (∀ W : World, Calls Tryz.prog 116 #[.int .i64 x1, .int .i64 q0, .int .i64 q1, .int .i64 0] W fun e w' => e = .returned (.int .i64 ow) ∧ w' = W) := hide (fun W => by
  have := Hc.out
  have := HD1'.out
  have := Hy.out
  have h := Pl.reach_c x1 q0 q1 W (by omega) (by omega) (by omega)
  rw [how.out] at h
  exact h)
 have HWF : Hid (∀ q ∈ [oh, ow, x2], (Lit.int .i64 q).wf = true) := hide (by
  have := Hc.out
  have := HD0.out
  have := HD1'.out
  have := Hy.out
  have h1 := Pl.reach_le x0 q0 q1 (by omega) (by omega) (by omega)
  have h2 := Pl.reach_le x1 q0 q1 (by omega) (by omega) (by omega)
  have h3 := HD2'.out
  rw [hoh.out] at h1
  rw [how.out] at h2
  intro q hq
  simp at hq
  rcases hq with rfl | rfl | rfl
  ·exact wf_i64 _ (by omega)
  ·exact wf_i64 _ (by omega)
  ·exact wf_i64 _ (by omega))
 rw [hoh.out, how.out] at HSH
 clear hoh how HCQ HD0 HD1' HD2'
 go_wp2_with fail
 clear c1 c2
 refine (HR1.out W4).mono ?_
 rintro e wq ⟨rfl, hw⟩
 have hw := hw.symm
 subst hw
 go_wp2_with fail
 refine (HR2.out W4).mono ?_
 rintro e wq ⟨rfl, hw⟩
 have hw := hw.symm
 subst hw
 have a1 : W4.cell? ⟨w.heap.size, 1, none⟩ = some (.bool a.u) := HA.out.cell 1
 have lA := HA.out.lt
 have lZ := HZ.out.lt
 obtain ⟨z0, z1, zf0, zf1, HZf, HFf⟩ := elm_two HZ.out HB0.out (Nat.le_add_right _ 1) (.slice (some ⟨W4.heap.size, 0, none⟩) 3 3) (.bool a.u)
 obtain ⟨W7, hW7⟩ : ∃ W, Hid (W = (W4.setCell ⟨w.heap.size + 1, 0, none⟩ (.slice (some ⟨W4.heap.size, 0, none⟩) 3 3)).setCell ⟨w.heap.size + 1, 1, none⟩ (.bool a.u)) := ⟨_, hide rfl⟩
 rw [← hW7.out] at HZf HFf
 have h7 : Hid (W7.heap.size = W4.heap.size) := hide (by rw [hW7.out]; simp)
 obtain ⟨W8, hW8⟩ : ∃ W, Hid (W = W7.alloc (.cells #[.int .i64 oh, .int .i64 ow, .int .i64 x2] 3)) := ⟨_, hide rfl⟩
 have hb8 : Below W7.heap.size W7 W8 := by rw [hW8.out]; exact (Below.refl _ _).alloc (Nat.le_refl _) _
 have HIf : Hid (Has W8 W4.heap.size 3 (i64s [oh, ow, x2])) := hide (by rw [hW8.out]; exact box_at _ 3 [.int .i64 oh, .int .i64 ow, .int .i64 x2] _ h7.out)
 have HFr : Hid (w.heap.size + 2 ≤ W4.heap.size) := hide (by omega)
 replace HZf := hide (HZf.out.below hb8 HZf.out.lt)
 replace HFf := hide (HFf.out.trans (hb8.mono HFf.out.size))
 clear hb8 HA HR1 HR2 HZ HB0
 go_wp2_with fail
 rw [← hW7.out, ← hW8.out]
 refine bodyPost_ret (results_desc rfl _ _ (w.heap.size + 1) _ _ rfl HZf.out) rfl ?_
 have h1 := HSH.out HCK.out
 rw [h1.1, h1.2, HCK.out]
 refine ⟨⟨⟨some ⟨W4.heap.size, 0, none⟩, [oh, ow, x2], 3, a.u⟩, rfl, ⟨HIf.out.ri HWF.out, by simp⟩, (fun ad h => ?_), rfl, rfl⟩, HFf.out⟩
 have h2 := HFr.out
 have h3 : ⟨W4.heap.size, 0, none⟩ = ad := Option.some.inj h
 subst h3
 show w.heap.size + 1 ≤ W4.heap.size
 omega
def Pl.isOp (op : Int) (avg : Bool) : Prop := (op = 14 ∧ avg = false) ∨ (op = 15 ∧ avg = true)
set_option maxRecDepth 100000 in
set_option maxHeartbeats 8000000 in
theorem fill_pool (H : World → Prop) (a : Ten) (op : Int) (avg : Bool) (hop : Pl.isOp op avg) (s t : Int) (A B : Option Addr) (qcap bcap ocap f n : Nat) (g : Option Addr) (w : World) (hQ : Ri w A [s, t]) (hR : Row w B ([a].flatMap Ten.vals))
  (hV : Calls Tryz.prog 109 #[.slice g n ocap, .int .i64 f, .bool avg, .agg (tcells a.P a.zs.length a.cap a.u a.D a.ds.length a.dcap), .int .i64 s, .int .i64 t] w.drew fun e w' => e = .returned (.tuple #[]) ∧ H w') :
  Calls Tryz.prog 96 #[.slice g n ocap, .int .i64 f, .int .i64 op, .slice A 2 qcap, .slice B 1 bcap] w fun e w' => e = .returned (.tuple #[]) ∧ H w' := by
 obtain ⟨ad, rfl, -, c0, c1, c2⟩ := row_one hR
 obtain ⟨aq, rfl, q0, q1⟩ := ri_pair hQ
 have V := hide hV
 clear hR hV hQ
 rcases hop with ⟨rfl, rfl⟩ | ⟨rfl, rfl⟩
 ·go_enter Tryz.func96, Tryz.ntmps96
  go_wp2_with fail
  go_still_tail 13, (by kernel_rfl)
  change wpList _ _ _ _ _ w.drew
  go_wp2_with fail
  refine V.out.mono ?_
  rintro e w1 ⟨rfl, h1⟩
  go_wp2_with fail
  refine bodyPost_end (results_none rfl _ _ _) rfl ?_
  exact ⟨rfl, h1⟩
 ·go_enter Tryz.func96, Tryz.ntmps96
  go_wp2_with fail
  go_still_tail 13, (by kernel_rfl)
  change wpList _ _ _ _ _ w.drew
  go_wp2_with fail
  refine V.out.mono ?_
  rintro e w1 ⟨rfl, h1⟩
  go_wp2_with fail
  refine bodyPost_end (results_none rfl _ _ _) rfl ?_
  exact ⟨rfl, h1⟩
def Pl.of (qs : List Int) (a : Ten) : Pl := ⟨(a.zs.getD 0 0).toNat, (a.zs.getD 1 0).toNat, (a.zs.getD 2 0).toNat, (qs.getD 0 0).toNat, (qs.getD 1 0).toNat⟩
def Pl.ds (avg : Bool) (qs : List Int) (a : Ten) : List Int := (Pl.of qs a).part avg a.ds 0 ((Pl.of qs a).oh * (Pl.of qs a).ow * (Pl.of qs a).C)
def Pl.cell (avg : Bool) (qs : List Int) (a : Ten) (i : Int) : Int := if Cel.fault [a] (Pl.code qs a.look) = (0, none) then (if 0 ≤ i then (Pl.ds avg qs a).getD i.toNat 0 else 0) else 0
structure Pl.Fine (qs : List Int) (a : Ten) (c : Pl) : Prop where
 qz : qs = [(c.s : Int), (c.t : Int)]
 az : a.zs = [(c.H : Int), (c.W : Int), (c.C : Int)]
 ok : c.Ok
 al : a.ds.length = c.H * c.W * c.C
 mn : c.oh * c.ow * c.C ≤ 16384
 sa : ∀ z ∈ a.ds, -2147483648 ≤ z ∧ z ≤ 2147483647
 cd : Shp.code [(c.oh : Int), (c.ow : Int), (c.C : Int)] = 0
 sh : Pl.shape qs a.look = [(c.oh : Int), (c.ow : Int), (c.C : Int)]
 kd : Pl.kind qs a.look = a.u
 ds : ∀ avg, Pl.ds avg qs a = c.part avg a.ds 0 (c.oh * c.ow * c.C)
theorem Pl.prod3 (x y z : Nat) : Shp.prod [(x : Int), (y : Int), (z : Int)] = ((x * y * z : Nat) : Int) := by
 simp [Shp.prod, Int.mul_assoc]
theorem Pl.dims_ok (x y z : Nat) (h1 : 1 ≤ x ∧ x ≤ 256) (h2 : 1 ≤ y ∧ y ≤ 256) (h3 : 1 ≤ z ∧ z ≤ 256) (h : x * y * z ≤ 16384) : Shp.code [(x : Int), (y : Int), (z : Int)] = 0 := by
 unfold Shp.code
 rw [if_neg (by simp), if_neg, if_neg]
 ·rw [Pl.prod3]
  have := Int.ofNat_le.2 h
  omega
 ·simp only [List.all_cons, List.all_nil, Shp.okDim, Bool.and_true]
  rw [decide_eq_true (by omega), decide_eq_true (by omega), decide_eq_true (by omega)]
  decide
theorem Pl.outs (n s t : Nat) (hs : 1 ≤ s) (h : s ≤ n) : (n - s) / t + 1 ≤ n := by
 have := Nat.div_le_self (n - s) t
 omega
theorem Pl.fine {qs : List Int} {a : Ten} (h : Cel.fault [a] (Pl.code qs a.look) = (0, none)) : ∃ c : Pl, Pl.Fine qs a c := by
 obtain ⟨h1, h2⟩ := Cel.fine h
 have hfa := Tens.whole (Tens.first_fine _ h1 a (by simp))
 have hwa := Shp.whole hfa.1
 have hc := h2
 unfold Pl.code at h2
 split at h2
 ·cases h2
 rename_i h3
 split at h2
 ·rename_i h4
  exact absurd h2 h4
 split at h2
 ·cases h2
 rename_i h4
 split at h2
 ·cases h2
 rename_i h5
 split at h2
 ·cases h2
 rename_i h6
 have hql : qs.length = 2 := Classical.byContradiction fun e => h3 e
 have hal : a.zs.length = 3 := Classical.byContradiction fun e => h4 e
 obtain ⟨q0, q1, hq⟩ : ∃ x y, qs = [x, y] := by
  match h : qs, hql with
  | [x, y], _ => exact ⟨x, y, rfl⟩
 obtain ⟨x0, x1, x2, hx⟩ : ∃ x y z, a.zs = [x, y, z] := by
  match h : a.zs, hal with
  | [x, y, z], _ => exact ⟨x, y, z, rfl⟩
 have hx' : a.look.zs = [x0, x1, x2] := hx
 subst hq
 rw [hx'] at h6
 have hs1 : ¬ q0 < 1 := fun h => h5 (.inl h)
 have hs2 : ¬ q0 > 16 := fun h => h5 (.inr (.inl h))
 have hp1 : ¬ q1 < 1 := fun h => h5 (.inr (.inr (.inl h)))
 have hp2 : ¬ q1 > 16 := fun h => h5 (.inr (.inr (.inr h)))
 have hk0 : ¬ q0 > x0 := fun h => h6 (.inl h)
 have hk1 : ¬ q0 > x1 := fun h => h6 (.inr h)
 rw [hx] at hfa hwa
 have d0 := hwa.2.1 x0 (by simp)
 have d1 := hwa.2.1 x1 (by simp)
 have d2 := hwa.2.1 x2 (by simp)
 obtain ⟨H, rfl⟩ : ∃ n : Nat, x0 = n := ⟨x0.toNat, by omega⟩
 obtain ⟨W, rfl⟩ : ∃ n : Nat, x1 = n := ⟨x1.toNat, by omega⟩
 obtain ⟨C, rfl⟩ : ∃ n : Nat, x2 = n := ⟨x2.toNat, by omega⟩
 obtain ⟨s, rfl⟩ : ∃ n : Nat, q0 = n := ⟨q0.toNat, by omega⟩
 obtain ⟨t, rfl⟩ : ∃ n : Nat, q1 = n := ⟨q1.toNat, by omega⟩
 have hdm : Pl.dims [(s : Int), (t : Int)] a.look = [(((H - s) / t + 1 : Nat) : Int), (((W - s) / t + 1 : Nat) : Int), (C : Int)] := by
  unfold Pl.dims
  rw [hx', ← Pl.reach_nat H s t (by omega), ← Pl.reach_nat W s t (by omega)]
  rfl
 have hpa := hwa.2.2.2.2
 rw [Pl.prod3] at hpa hfa
 have hpn := Int.ofNat_le.1 hpa
 have ho1 := Pl.outs H s t (by omega) (by omega)
 have ho2 := Pl.outs W s t (by omega) (by omega)
 have hmn : ((H - s) / t + 1) * ((W - s) / t + 1) * C ≤ 16384 := Nat.le_trans (Nat.mul_le_mul_right C (Nat.mul_le_mul ho1 ho2)) hpn
 have hcd : Shp.code [(((H - s) / t + 1 : Nat) : Int), (((W - s) / t + 1 : Nat) : Int), (C : Int)] = 0 :=
  Pl.dims_ok _ _ _ ⟨Nat.succ_pos _, Nat.le_trans ho1 (by omega)⟩ ⟨Nat.succ_pos _, Nat.le_trans ho2 (by omega)⟩ (by omega) hmn
 refine ⟨⟨H, W, C, s, t⟩, ⟨rfl, hx, ⟨by show 1 ≤ s; omega, by show s ≤ 16; omega, by show 1 ≤ t; omega, by show t ≤ 16; omega, by show 1 ≤ C; omega, by show s ≤ H; omega, by show s ≤ W; omega, by show H ≤ 256; omega, by show W ≤ 256; omega, hpn⟩, Int.ofNat.inj hfa.2.1, hmn, fun z hz => fit_any (hfa.2.2 z hz), hcd, ?_, ?_, fun avg => ?_⟩⟩
 ·unfold Pl.shape
  rw [if_pos hc, hdm]
  rfl
 ·unfold Pl.kind
  rw [if_pos hc]
  rfl
 ·unfold Pl.ds Pl.of
  rw [hx]
  rfl
theorem Pl.mean_le (s : Int) (n : Nat) (h1 : 1 ≤ n ∧ n ≤ 256) (hs : -549755813888 ≤ s ∧ s ≤ 549755813888) : -1099511628032 ≤ Pl.mean s n ∧ Pl.mean s n ≤ 1099511628032 := by
 unfold Pl.mean
 have h2 := Int.ediv_mul_le (2 * s + n) (b := 2 * (n : Int)) (by omega)
 have h3 := Int.lt_ediv_add_one_mul_self (2 * s + n) (b := 2 * (n : Int)) (by omega)
 obtain ⟨q, hq⟩ : ∃ q, (2 * s + n) / (2 * (n : Int)) = q := ⟨_, rfl⟩
 rw [hq] at h2 h3 ⊢
 rw [Int.add_mul] at h3
 constructor
 ·refine Classical.byContradiction fun h => ?_
  have h4 : q * (2 * (n : Int)) ≤ (-1099511628033) * (2 * (n : Int)) := Int.mul_le_mul_of_nonneg_right (by omega) (by omega)
  omega
 ·refine Classical.byContradiction fun h => ?_
  have h4 : 1099511628033 * (2 * (n : Int)) ≤ q * (2 * (n : Int)) := Int.mul_le_mul_of_nonneg_right (by omega) (by omega)
  omega
theorem Pl.el_wf {c : Pl} (hc : c.Ok) (avg : Bool) (xs : List Int) (f : Nat) (h : ∀ z ∈ xs, -2147483648 ≤ z ∧ z ≤ 2147483647) : (Lit.int .i64 (c.el avg xs f)).wf = true := by
 have hv : ∀ k, -2147483648 ≤ c.v xs f k ∧ c.v xs f k ≤ 2147483647 := fun k => by
  unfold Pl.v
  rw [List.getD_eq_getElem?_getD]
  cases e : xs[f + c.off k]? with
  | none => exact ⟨by decide, by decide⟩
  | some q => exact h q (List.mem_of_getElem? e)
 have hs := Nat.mul_le_mul hc.s2 hc.s2
 have hs1 := Nat.mul_pos hc.s1 hc.s1
 cases avg
 ·have := Pl.top_le (c.v xs f) (-2147483648) 2147483647 (c.s * c.s) (hv 0) (fun k _ => hv k)
  exact wf_i64 _ (by show _ ≤ Pl.top (c.v xs f) (c.s * c.s) ∧ Pl.top (c.v xs f) (c.s * c.s) ≤ _; omega)
 ·have h1 := Pl.add_le (c.v xs f) 2147483648 (c.s * c.s) (fun k _ => by have := hv k; omega)
  have h2 := Pl.mean_le (Pl.add (c.v xs f) (c.s * c.s)) (c.s * c.s) (by omega) (by omega)
  exact wf_i64 _ (by show _ ≤ Pl.mean (Pl.add (c.v xs f) (c.s * c.s)) (c.s * c.s) ∧ Pl.mean (Pl.add (c.v xs f) (c.s * c.s)) (c.s * c.s) ≤ _; omega)
theorem Pl.part_wf {c : Pl} (hc : c.Ok) (avg : Bool) (xs : List Int) (f m : Nat) (h : ∀ z ∈ xs, -2147483648 ≤ z ∧ z ≤ 2147483647) : ∀ z ∈ c.part avg xs f m, (Lit.int .i64 z).wf = true := by
 intro z hz
 unfold Pl.part at hz
 obtain ⟨i, -, rfl⟩ := List.mem_map.1 hz
 exact Pl.el_wf hc avg xs _ h
theorem plof_c (op : Int) (avg : Bool) (hop : Pl.isOp op avg) (qs : List Int) (a : Ten) (c : Pl) (hf : Pl.Fine qs a c) (A B : Option Addr) (qcap bcap f n : Nat) (w : World) (hQ : Ri w A qs) (hR : Row w B ([a].flatMap Ten.vals)) (ha : a.In w) (hn : f + n ≤ c.oh * c.ow * c.C) :
  Calls Tryz.prog 83 #[.int .i64 op, .slice A 2 qcap, .int .i64 f, .int .i64 ((f + n : Nat) : Int), .slice B 1 bcap] w fun e w' => (∃ g, e = .returned (.slice (some ⟨g, 0, none⟩) n n) ∧ w.heap.size ≤ g ∧ Has w' g 3 (i64s (c.part avg a.ds f n))) ∧ Below w.heap.size w w' := by
 have hmn := hf.mn
 refine of_any (c.part avg a.ds f n) op A B 2 qcap 1 bcap f n w (by omega) fun W g hB hg hG => ?_
 have hQ2 := hQ
 rw [hf.qz] at hQ2
 refine fill_pool _ a op avg hop c.s c.t A B qcap bcap n f n (some ⟨g, 0, none⟩) W (hQ2.below hB) (hR.below hB) ?_
 have h := pool_c (List.replicate n 0) a c avg n f g w W.drew hf.ok hf.az hf.al ha hf.sa hB.drew hg (hG.drewN 1) (by rw [List.length_replicate]; exact hn) (by omega)
 rw [List.length_replicate] at h
 exact h
theorem TenE.wrap {w W W0 w' : World} {ah am ar : Addr} {F : Nat × Option Nat} {zs ds : List Int} {u : Bool} {t : Ten} {x : Value} {b : Nat} (hZ : Has W0 b 26 [.slice none 0 0, .bool false, .slice none 0 0]) (hB : Below w.heap.size w W0) (hb : w.heap.size ≤ b) (hb2 : b + 1 ≤ W0.heap.size)
  (ht : t.In w') (hf : t.Fresh (W0.heap.size + 1)) (h1 : t.zs = (if F = (0, none) then zs else [])) (h2 : t.u = (if F = (0, none) then u else false)) (h3 : t.ds = (if F = (0, none) then ds else [])) (hx : TErr w' ah am ar x F) (ho : F = (0, none) → OwnData w' t) (hBw : Below W0.heap.size W0 w')
  (hW : W = ((w'.setCell ⟨b, 0, none⟩ (.slice t.P t.zs.length t.cap)).setCell ⟨b, 1, none⟩ (.bool t.u)).setCell ⟨b, 2, none⟩ (.slice t.D t.ds.length t.dcap)) :
  TenE w ah am ar F zs u ds (.returned (.tuple #[.agg (tcells t.P t.zs.length t.cap t.u t.D t.ds.length t.dcap), x])) W := by
 have hZ' := hZ.below hBw hZ.lt
 have hB' := hB.trans (hBw.mono hB.size)
 obtain ⟨-, -, -, -, -, -, -, hBf⟩ := elm_three hZ' hB' hb (.slice t.P t.zs.length t.cap) (.bool t.u) (.slice t.D t.ds.length t.dcap)
 rw [hW]
 refine ⟨⟨t, x, rfl, ht.far3 (hf.le (by omega)) _ _ _, hf.le (by have := hB.size; omega), h1, h2, h3, hx.fart3 hZ' (by decide) _ _ _, fun h => ?_⟩, hBf⟩
 obtain ⟨g, hg, hc, hG⟩ := ho h
 have hgf := hf.2 _ hg
 have hgf : W0.heap.size + 1 ≤ g := hgf
 exact ⟨g, hg, hc, ((hG.far (p := ⟨b, 0, none⟩) (by simp; omega) _).far (p := ⟨b, 1, none⟩) (by simp; omega) _).far (p := ⟨b, 2, none⟩) (by simp; omega) _⟩
end Go.Proofs.YtgdcfjmpjhlndaaGreatDoor
