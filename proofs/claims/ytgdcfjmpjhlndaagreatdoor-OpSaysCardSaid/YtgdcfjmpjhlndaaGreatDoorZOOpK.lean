/-
  cells.fill, Of, All and One of an operation that gives another shape, walked. By an AI agent. No person has read it.
-/
import Derived.Test.YtgdcfjmpjhlndaaGreatDoorZOOpJ
import Derived.Test.YtgdcfjmpjhlndaaGreatDoorZOOpE
import Derived.Test.YtgdcfjmpjhlndaaGreatDoorZOMatN
import Derived.Test.YtgdcfjmpjhlndaaGreatDoorZOCnvC
namespace Go.Proofs.YtgdcfjmpjhlndaaGreatDoor
open Go.RowKit
theorem cut_rest_run (A A2 : Option Addr) (len cap lo : Nat) (hA : Hid ((if cap = lo then A else A.map (·.add (lo * 1))) = A2)) (h1 : lo ≤ len) (W : World) :
  (Instr.slice 22 (.slice A len cap) (some (.int .i64 (lo : Int))) none none).run Tryz.prog W = .ok (.slice A2 (len - lo) (cap - lo)) W := by
 rw [← hA.out]
 have hu : Tryz.prog.underlying 22 = some (.slice (Tryz.prog.elem 22)) := by kernel_rfl
 have hz : ∀ W : World, (sizeOf (Tryz.prog.elem 22)).run Tryz.prog W = .ok 1 W := fun _ => by kernel_rfl
 rw [run_slice_l W _ _ _ _ hu _ _ (by omega) (by omega), hz]
 simp only [Result.andThen, sliced, Int.toNat_natCast]
def Op.cut (ds : List Int) (f n : Nat) : List Int := (ds.drop f).take n
theorem Op.cut_length {ds : List Int} {f n : Nat} (h : f + n ≤ ds.length) : (Op.cut ds f n).length = n := by
 unfold Op.cut
 rw [List.length_take, List.length_drop]
 omega
set_option maxRecDepth 100000 in
set_option maxHeartbeats 4000000 in
theorem fill_shape (a : Ten) (A B : Option Addr) (nq qcap bcap ocap f n g : Nat) (cur : List Int) (w0 w : World) (hR : Row w B ([a].flatMap Ten.vals)) (ha : a.In w) (hd : a.ds.length ≤ a.dcap) (hB : Below w0.heap.size w0 w) (hg : w0.heap.size ≤ g) (hG : Has w g 3 (i64s cur)) (hc : cur.length = n) (hn : 1 ≤ n) (hf : f + n ≤ a.ds.length) :
  Calls Tryz.prog 96 #[.slice (some ⟨g, 0, none⟩) n ocap, .int .i64 f, .int .i64 18, .slice A nq qcap, .slice B 1 bcap] w fun e w' => e = .returned (.tuple #[]) ∧ Has w' g 3 (i64s (Op.cut a.ds f n)) ∧ Below w0.heap.size w0 w' := by
 obtain ⟨ad, rfl, -, c0, c1, c2⟩ := row_one hR
 obtain ⟨pd, hpd, -, hpc⟩ := ha.dat.2 (by intro h; rw [h] at hf; simp at hf; omega)
 have hcl := Op.cut_length hf
 have hsrc : ∀ (j : Nat) (z : Int), (Op.cut a.ds f n)[j]? = some z → w.cell? ((pd.add f).add j) = some (.int .i64 z) := fun j z hz => by
  unfold Op.cut at hz
  rw [List.getElem?_take] at hz
  split at hz
  ·rw [List.getElem?_drop] at hz
   have h := hpc (f + j) z hz
   rw [Addr.add_add]
   exact h
  ·cases hz
 obtain ⟨w9, hcp, HD9, -, k2, -⟩ := copy_run w 3 g 0 n ocap (pd.add f) (a.ds.length - f) (a.dcap - f) cur (Op.cut a.ds f n) hG (by rw [hcl]; exact (Nat.min_eq_right (by omega)).symm) hsrc (by rw [hcl, hc]; omega)
 have hD : Has w9 g 3 (i64s (Op.cut a.ds f n)) := by
  have h0 : cur.drop n = [] := by rw [← hc, List.drop_length]
  rw [List.take_zero, List.nil_append, Nat.zero_add, hcl, h0, List.append_nil] at HD9
  exact HD9
 have HD := hide hD
 have HB := hide (k2 _ _ hg hB)
 have hs := fun W => cut_rest_run (some pd) (some (pd.add f)) a.ds.length a.dcap f (hide (by rw [if_neg (by omega), Nat.mul_one]; rfl)) (by omega) W
 rw [hpd] at c2
 obtain ⟨m, hm⟩ : ∃ n, Hid (a.ds.length = n) := ⟨_, hide rfl⟩
 rw [hm.out] at c2 hs hcp
 clear hR ha hd hB hg hG hc hn hf hpd hpc hcl hsrc HD9 hD k2 hm
 go_enter Tryz.func96, Tryz.ntmps96
 go_wp2_with fail
 refine bodyPost_end (results_none rfl _ _ _) rfl ?_
 exact ⟨rfl, HD.out, HB.out⟩
theorem shof_c (a : Ten) (A B : Option Addr) (nq qcap bcap f n : Nat) (w : World) (hR : Row w B ([a].flatMap Ten.vals)) (ha : a.In w) (hd : a.ds.length ≤ a.dcap) (hn : 1 ≤ n) (hf : f + n ≤ a.ds.length) :
  Calls Tryz.prog 83 #[.int .i64 18, .slice A nq qcap, .int .i64 f, .int .i64 ((f + n : Nat) : Int), .slice B 1 bcap] w fun e w' => (∃ g, e = .returned (.slice (some ⟨g, 0, none⟩) n n) ∧ w.heap.size ≤ g ∧ Has w' g 3 (i64s (Op.cut a.ds f n))) ∧ Below w.heap.size w w' := by
 have hl := ha.ld
 exact of_any (Op.cut a.ds f n) 18 A B nq qcap 1 bcap f n w (by omega) fun W g hB hg hG =>
  fill_shape a A B nq qcap bcap n f n g (List.replicate n 0) w W (hR.below hB) (ha.below hB) hd hB hg hG (by simp) hn hf
end Go.Proofs.YtgdcfjmpjhlndaaGreatDoor
namespace Go.Proofs.YtgdcfjmpjhlndaaGreatDoor
open Go.RowKit
def OpG (w : World) (zs : List Int) (u : Bool) (rs : List Int) (e : Ending) (w' : World) : Prop :=
 (∃ t : Ten, e = .returned (.tuple #[.agg (tcells t.P t.zs.length t.cap t.u t.D t.ds.length t.dcap), .nilIface]) ∧ t.In w' ∧ t.zs = zs ∧ t.u = u ∧ t.ds = rs ∧ t.ds.length ≤ t.dcap) ∧ Below w.heap.size w w'
theorem OpT.good {w w' : World} {ah am ar ak : Addr} {zs : List Int} {u : Bool} {rs : List Int} {e : Ending} (h : OpT w ah am ar ak (0, none) (0, zs, u) rs e w') : OpG w zs u rs e w' := by
 obtain ⟨⟨t, x, rfl, h1, h2, -, h3⟩, hb⟩ := h
 obtain ⟨e1, e2, e3, e4⟩ := h2 rfl
 obtain rfl : x = .nilIface := h3
 exact ⟨⟨t, rfl, h1, e1, e2, e3, e4⟩, hb⟩
end Go.Proofs.YtgdcfjmpjhlndaaGreatDoor
namespace Go.Proofs.YtgdcfjmpjhlndaaGreatDoor
open Go.RowKit
set_option maxRecDepth 100000 in
set_option maxHeartbeats 8000000 in
theorem fill_conv (H : World → Prop) (a b : Ten) (s p za : Int) (A B : Option Addr) (qcap bcap ocap f n : Nat) (g : Option Addr) (w : World) (hQ : Ri w A [s, p, za]) (hR : Row w B ([a, b].flatMap Ten.vals))
  (hV : Calls Tryz.prog 108 #[.slice g n ocap, .int .i64 f, .agg (tcells a.P a.zs.length a.cap a.u a.D a.ds.length a.dcap), .agg (tcells b.P b.zs.length b.cap b.u b.D b.ds.length b.dcap), .int .i64 s, .int .i64 p, .int .i64 za] w.drew fun e w' => e = .returned (.tuple #[]) ∧ H w') :
  Calls Tryz.prog 96 #[.slice g n ocap, .int .i64 f, .int .i64 13, .slice A 3 qcap, .slice B 2 bcap] w fun e w' => e = .returned (.tuple #[]) ∧ H w' := by
 obtain ⟨ad, rfl, -, c0, c1, c2, c3, c4, c5⟩ := row_two hR
 obtain ⟨aq, rfl, -, q0, q1, q2⟩ := ri_three hQ
 have V := hide hV
 clear hR hV hQ
 go_enter Tryz.func96, Tryz.ntmps96
 go_wp2_with fail
 go_still_tail 17, (by kernel_rfl)
 change wpList _ _ _ _ _ w.drew
 go_wp2_with fail
 refine V.out.mono ?_
 rintro e w1 ⟨rfl, h1⟩
 go_wp2_with fail
 refine bodyPost_end (results_none rfl _ _ _) rfl ?_
 exact ⟨rfl, h1⟩
theorem Cv.reach_nat (n k s p : Nat) (h : k ≤ n + 2 * p) : Cv.reach n k s p = (((n + 2 * p - k) / s + 1 : Nat) : Int) := by
 unfold Cv.reach
 rw [Int.natCast_add, Int.natCast_ediv, Int.natCast_sub h]
 simp
def Cv.of (qs : List Int) (a b : Ten) : Cv := ⟨(a.zs.getD 0 0).toNat, (a.zs.getD 1 0).toNat, (a.zs.getD 2 0).toNat, (b.zs.getD 0 0).toNat, (b.zs.getD 1 0).toNat, (b.zs.getD 3 0).toNat, (qs.getD 0 0).toNat, (qs.getD 1 0).toNat, qs.getD 2 0⟩
def Cv.ds (qs : List Int) (a b : Ten) : List Int := (Cv.of qs a b).part a.ds b.ds 0 ((Cv.of qs a b).oh * (Cv.of qs a b).ow * (Cv.of qs a b).N)
def Cv.at (qs : List Int) (a b : Ten) (i : Int) : Int := (if 0 ≤ i then (Cv.ds qs a b).getD i.toNat 0 else 0)
structure Cv.Fine (qs : List Int) (a b : Ten) (c : Cv) : Prop where
 qz : qs = [(c.s : Int), (c.p : Int), c.za]
 az : a.zs = [(c.H : Int), (c.W : Int), (c.C : Int)]
 bz : b.zs = [(c.KH : Int), (c.KW : Int), (c.C : Int), (c.N : Int)]
 ok : c.Ok
 al : a.ds.length = c.H * c.W * c.C
 bl : b.ds.length = c.KH * c.KW * c.C * c.N
 mn : c.oh * c.ow * c.N ≤ 16384
 sa : Mat.small a.ds
 sb : Mat.small b.ds
 cd : Shp.code [(c.oh : Int), (c.ow : Int), (c.N : Int)] = 0
 sh : Cv.shape qs a.look b.look = [(c.oh : Int), (c.ow : Int), (c.N : Int)]
 kd : Cv.kind qs a.look b.look = true
 ds : Cv.ds qs a b = c.part a.ds b.ds 0 (c.oh * c.ow * c.N)
theorem Cv.prod3 (x y z : Nat) : Shp.prod [(x : Int), (y : Int), (z : Int)] = ((x * y * z : Nat) : Int) := by
 simp [Shp.prod, Int.mul_assoc]
theorem Cv.prod4 (x y z v : Nat) : Shp.prod [(x : Int), (y : Int), (z : Int), (v : Int)] = ((x * y * z * v : Nat) : Int) := by
 simp [Shp.prod, Int.mul_assoc]
theorem Cv.fine {qs : List Int} {a b : Ten} (h : Cel.fault [a, b] (Cv.code qs a.look b.look) = (0, none)) : ∃ c : Cv, Cv.Fine qs a b c := by
 obtain ⟨h1, h2⟩ := Cel.fine h
 have hfa := Tens.whole (Tens.first_fine _ h1 a (by simp))
 have hfb := Tens.whole (Tens.first_fine _ h1 b (by simp))
 have hwa := Shp.whole hfa.1
 have hwb := Shp.whole hfb.1
 have hc := h2
 unfold Cv.code at h2
 split at h2
 ·cases h2
 rename_i h3
 split at h2
 ·rename_i h4
  exact absurd h2 h4
 split at h2
 ·cases h2
 rename_i h4
 split at h2
 ·cases h2
 rename_i h5
 split at h2
 ·cases h2
 rename_i h6
 have hua : a.u = false := by
  cases e : a.u
  ·rfl
  ·exact absurd (.inl e) h4
 have hub : b.u = false := by
  cases e : b.u
  ·rfl
  ·exact absurd (.inr (.inl e)) h4
 have hql : qs.length = 3 := Classical.byContradiction fun e => h3 e
 have hal : a.zs.length = 3 := Classical.byContradiction fun e => h4 (.inr (.inr (.inl e)))
 have hbl : b.zs.length = 4 := Classical.byContradiction fun e => h4 (.inr (.inr (.inr (.inl e))))
 have hk : b.zs.getD 2 0 = a.zs.getD 2 0 := Classical.byContradiction fun e => h4 (.inr (.inr (.inr (.inr e))))
 obtain ⟨q0, q1, q2, hq⟩ : ∃ x y z, qs = [x, y, z] := by
  match h : qs, hql with
  | [x, y, z], _ => exact ⟨x, y, z, rfl⟩
 obtain ⟨x0, x1, x2, hx⟩ : ∃ x y z, a.zs = [x, y, z] := by
  match h : a.zs, hal with
  | [x, y, z], _ => exact ⟨x, y, z, rfl⟩
 obtain ⟨y0, y1, y2, y3, hy⟩ : ∃ x y z v, b.zs = [x, y, z, v] := by
  match h : b.zs, hbl with
  | [x, y, z, v], _ => exact ⟨x, y, z, v, rfl⟩
 have hx' : a.look.zs = [x0, x1, x2] := hx
 have hy' : b.look.zs = [y0, y1, y2, y3] := hy
 rw [hx, hy] at hk
 obtain rfl : y2 = x2 := hk
 subst hq
 rw [hx', hy'] at h6
 have hs1 : ¬ q0 < 1 := fun h => h5 (.inl h)
 have hs2 : ¬ q0 > 16 := fun h => h5 (.inr (.inl h))
 have hp1 : ¬ q1 < 0 := fun h => h5 (.inr (.inr (.inl h)))
 have hp2 : ¬ q1 > 15 := fun h => h5 (.inr (.inr (.inr (.inl h))))
 have hzz : Tens.narrow q2 = q2 := Classical.byContradiction fun h => h5 (.inr (.inr (.inr (.inr h))))
 have hk0 : ¬ y0 > x0 + 2 * q1 := fun h => h6 (.inl h)
 have hk1 : ¬ y1 > x1 + 2 * q1 := fun h => h6 (.inr h)
 rw [hx] at hfa hwa
 rw [hy] at hfb hwb
 have d0 := hwa.2.1 x0 (by simp)
 have d1 := hwa.2.1 x1 (by simp)
 have d2 := hwa.2.1 y2 (by simp)
 have g0 := hwb.2.1 y0 (by simp)
 have g1 := hwb.2.1 y1 (by simp)
 have g3 := hwb.2.1 y3 (by simp)
 obtain ⟨H, rfl⟩ : ∃ n : Nat, x0 = n := ⟨x0.toNat, by omega⟩
 obtain ⟨W, rfl⟩ : ∃ n : Nat, x1 = n := ⟨x1.toNat, by omega⟩
 obtain ⟨C, rfl⟩ : ∃ n : Nat, y2 = n := ⟨y2.toNat, by omega⟩
 obtain ⟨U, rfl⟩ : ∃ n : Nat, y0 = n := ⟨y0.toNat, by omega⟩
 obtain ⟨V, rfl⟩ : ∃ n : Nat, y1 = n := ⟨y1.toNat, by omega⟩
 obtain ⟨N, rfl⟩ : ∃ n : Nat, y3 = n := ⟨y3.toNat, by omega⟩
 obtain ⟨s, rfl⟩ : ∃ n : Nat, q0 = n := ⟨q0.toNat, by omega⟩
 obtain ⟨p, rfl⟩ : ∃ n : Nat, q1 = n := ⟨q1.toNat, by omega⟩
 have hdm : Cv.dims [(s : Int), (p : Int), q2] a.look b.look = [(((H + 2 * p - U) / s + 1 : Nat) : Int), (((W + 2 * p - V) / s + 1 : Nat) : Int), (N : Int)] := by
  unfold Cv.dims
  rw [hx', hy', ← Cv.reach_nat H U s p (by omega), ← Cv.reach_nat W V s p (by omega)]
  rfl
 rw [hdm] at h2
 have hwp := (Shp.whole h2).2.2.2.2
 have hpa := hwa.2.2.2.2
 have hpb := hwb.2.2.2.2
 rw [Cv.prod3] at hwp hpa hfa
 rw [Cv.prod4] at hpb hfb
 have hsh : Cv.shape [(s : Int), (p : Int), q2] a.look b.look = [(((H + 2 * p - U) / s + 1 : Nat) : Int), (((W + 2 * p - V) / s + 1 : Nat) : Int), (N : Int)] := by
  unfold Cv.shape
  rw [if_pos hc, hdm]
 refine ⟨⟨H, W, C, U, V, N, s, p, q2⟩, ⟨rfl, hx, hy, ?_, Int.ofNat.inj hfa.2.1, Int.ofNat.inj hfb.2.1, Int.ofNat_le.1 hwp, fun z hz => fit_narrow hua (hfa.2.2 z hz), fun z hz => fit_narrow hub (hfb.2.2 z hz), h2, hsh, decide_eq_true hc, ?_⟩⟩
 ·have hw := Int.ofNat_le.1 hwp
  have ha := Int.ofNat_le.1 hpa
  have hb := Int.ofNat_le.1 hpb
  exact ⟨by show 1 ≤ s; omega, by show s ≤ 16; omega, by show p ≤ 15; omega, by show 1 ≤ U; omega, by show 1 ≤ V; omega, by show U ≤ H + 2 * p; omega, by show V ≤ W + 2 * p; omega, by show 1 ≤ N; omega, by show 1 ≤ C; omega, by show H ≤ 1000000; omega, by show W ≤ 1000000; omega, Nat.le_trans ha (by decide), Nat.le_trans hb (by decide), Nat.le_trans hw (by decide), narrow_self hzz⟩
 ·unfold Cv.ds Cv.of
  rw [hx, hy]
  rfl
theorem cvof_c (qs : List Int) (a b : Ten) (c : Cv) (hf : Cv.Fine qs a b c) (A B : Option Addr) (qcap bcap f n : Nat) (w : World) (hQ : Ri w A qs) (hR : Row w B ([a, b].flatMap Ten.vals)) (ha : a.In w) (hb : b.In w) (hn : f + n ≤ c.oh * c.ow * c.N) :
  Calls Tryz.prog 83 #[.int .i64 13, .slice A 3 qcap, .int .i64 f, .int .i64 ((f + n : Nat) : Int), .slice B 2 bcap] w fun e w' => (∃ g, e = .returned (.slice (some ⟨g, 0, none⟩) n n) ∧ w.heap.size ≤ g ∧ Has w' g 3 (i64s (c.part a.ds b.ds f n))) ∧ Below w.heap.size w w' := by
 have hmn := hf.mn
 refine of_any (c.part a.ds b.ds f n) 13 A B 3 qcap 2 bcap f n w (by omega) fun W g hB hg hG => ?_
 have hQ2 := hQ
 rw [hf.qz] at hQ2
 refine fill_conv _ a b c.s c.p c.za A B qcap bcap n f n (some ⟨g, 0, none⟩) W (hQ2.below hB) (hR.below hB) ?_
 have h := conv_c (List.replicate n 0) a b c n f g w W.drew hf.ok hf.az hf.bz hf.al hf.bl ha hb hf.sa hf.sb hB.drew hg (hG.drewN 1) (by rw [List.length_replicate]; exact hn)
 rw [List.length_replicate] at h
 exact h
theorem Cv.part_wf (c : Cv) (xs ks : List Int) (f m : Nat) : ∀ z ∈ c.part xs ks f m, (Lit.int .i64 z).wf = true := by
 intro z hz
 unfold Cv.part at hz
 obtain ⟨i, -, rfl⟩ := List.mem_map.1 hz
 exact wide_wf _
end Go.Proofs.YtgdcfjmpjhlndaaGreatDoor
