/-
  What laws of pools lean on: means are not above the greatest; windows of one place; one and the same number; a copy of a tensor in blocks of its own. By an AI agent. No person has read it.
-/
import Derived.Test.YtcgjnjchkachdaaDoorPolF
namespace Go.Proofs.YtcgjnjchkachdaaDoor
open Go.RowKit

theorem Pl.top_ge (f : Nat → Int) (n k : Nat) (h : k < n) : f k ≤ Pl.top f n := by
  induction n with
  | zero => omega
  | succ n ih =>
    show f k ≤ max (Pl.top f n) (f n)
    by_cases e : k = n
    · subst e; omega
    · have := ih (by omega); omega
theorem Pl.top_is (f : Nat → Int) (n : Nat) (hn : 1 ≤ n) : ∃ k, k < n ∧ Pl.top f n = f k := by
  induction n with
  | zero => omega
  | succ n ih =>
    show ∃ k, k < n + 1 ∧ max (Pl.top f n) (f n) = f k
    by_cases e : n = 0
    · subst e
      exact ⟨0, by omega, by show max (f 0) (f 0) = f 0; omega⟩
    · obtain ⟨k, hk, he⟩ := ih (by omega)
      by_cases g : Pl.top f n ≤ f n
      · exact ⟨n, by omega, by omega⟩
      · exact ⟨k, by omega, by omega⟩
theorem Pl.add_up (f : Nat → Int) (M : Int) (n : Nat) (h : ∀ k, k < n → f k ≤ M) : Pl.add f n ≤ M * n := by
  induction n with
  | zero => show (0 : Int) ≤ M * ((0 : Nat) : Int); simp
  | succ n ih =>
    have h1 := ih (fun k hk => h k (by omega))
    have h2 := h n (by omega)
    show Pl.add f n + f n ≤ M * ((n + 1 : Nat) : Int)
    rw [Int.natCast_add, Int.mul_add]
    omega
theorem Pl.mean_up (s M : Int) (n : Nat) (hn : 1 ≤ n) (h : s ≤ M * n) : Pl.mean s n ≤ M := by
  unfold Pl.mean
  have h1 : 2 * s + n < (M + 1) * (2 * (n : Int)) := by
    rw [Int.add_mul]
    have : M * (2 * (n : Int)) = 2 * (M * n) := by rw [Int.mul_left_comm]
    omega
  have := Int.ediv_lt_of_lt_mul (show (0 : Int) < 2 * (n : Int) by omega) h1
  omega
theorem Pl.add_one (f : Nat → Int) (v : Int) (n : Nat) (h : ∀ k, k < n → f k = v) : Pl.add f n = v * n := by
  induction n with
  | zero => show (0 : Int) = v * ((0 : Nat) : Int); simp
  | succ n ih =>
    show Pl.add f n + f n = v * ((n + 1 : Nat) : Int)
    rw [ih (fun k hk => h k (by omega)), h n (by omega), Int.natCast_add, Int.mul_add]
    omega
theorem Pl.mean_one (v : Int) (n : Nat) (hn : 1 ≤ n) : Pl.mean (v * n) n = v := by
  unfold Pl.mean
  rw [Int.ediv_eq_iff_of_pos (by omega)]
  have : v * (2 * (n : Int)) = 2 * (v * n) := by rw [Int.mul_left_comm]
  omega
theorem Pl.el_le {c : Pl} (hc : c.Ok) (xs : List Int) (f : Nat) : c.el true xs f ≤ c.el false xs f := by
  have hn := Nat.mul_pos hc.s1 hc.s1
  show Pl.mean (Pl.add (c.v xs f) (c.s * c.s)) (c.s * c.s) ≤ Pl.top (c.v xs f) (c.s * c.s)
  exact Pl.mean_up _ _ _ hn (Pl.add_up _ _ _ (fun k hk => Pl.top_ge _ _ k hk))
theorem Pl.part_le {c : Pl} (hc : c.Ok) (xs : List Int) (m i : Nat) (x y : Int) (hx : (c.part true xs 0 m)[i]? = some x) (hy : (c.part false xs 0 m)[i]? = some y) : x ≤ y := by
  have hi : i < m := by
    have := (List.getElem?_eq_some_iff.1 hx).1
    rw [Pl.part_length] at this
    exact this
  rw [Pl.part_at _ _ _ _ _ _ hi] at hx hy
  rw [← Option.some.inj hx, ← Option.some.inj hy]
  exact Pl.el_le hc xs _
/-- A window of one place. -/
theorem Pl.part_ones (H W C : Nat) (avg : Bool) (xs : List Int) (_ : 1 ≤ W) (_ : 1 ≤ C) (hl : xs.length = H * W * C) (ho : (Pl.mk H W C 1 1).ow = W) : (Pl.mk H W C 1 1).part avg xs 0 (H * W * C) = xs := by
  refine List.ext_getElem? fun i => ?_
  by_cases hi : i < H * W * C
  · rw [Pl.part_at _ _ _ _ _ _ hi, Nat.zero_add]
    have e0 : (Pl.mk H W C 1 1).at i = i := by
      unfold Pl.at Pl.first
      rw [ho]
      show ((i / C / W * 1) * W + (i / C % W * 1)) * C + i % C = i
      rw [Nat.mul_one, Nat.mul_one, Nat.mul_comm (i / C / W), Nat.div_add_mod, Nat.mul_comm, Nat.div_add_mod]
    have e1 : (Pl.mk H W C 1 1).v xs i 0 = xs.getD i 0 := by
      unfold Pl.v Pl.off
      simp
    have e2 : (Pl.mk H W C 1 1).el avg xs i = xs.getD i 0 := by
      rw [← e1]
      cases avg
      · show max ((Pl.mk H W C 1 1).v xs i 0) ((Pl.mk H W C 1 1).v xs i 0) = _
        omega
      · show Pl.mean (0 + (Pl.mk H W C 1 1).v xs i 0) 1 = _
        rw [Int.zero_add]
        have h := Pl.mean_one ((Pl.mk H W C 1 1).v xs i 0) 1 (by omega)
        rw [show (Pl.mk H W C 1 1).v xs i 0 * ((1 : Nat) : Int) = (Pl.mk H W C 1 1).v xs i 0 by simp] at h
        exact h
    rw [e0, e2, List.getD_eq_getElem?_getD, List.getElem?_eq_getElem (by omega), Option.getD_some]
  · rw [List.getElem?_eq_none (by rw [Pl.part_length]; omega), List.getElem?_eq_none (by omega)]
/-- Of one and the same number. -/
theorem Pl.part_same {c : Pl} (hc : c.Ok) (v : Int) (m : Nat) (hm : m ≤ c.oh * c.ow * c.C) (x : Int) (i : Nat) (hx : (c.part true (List.replicate (c.H * c.W * c.C) v) 0 m)[i]? = some x) : x = v := by
  have hi : i < m := by
    have := (List.getElem?_eq_some_iff.1 hx).1
    rw [Pl.part_length] at this
    exact this
  rw [Pl.part_at _ _ _ _ _ _ hi, Nat.zero_add] at hx
  rw [← Option.some.inj hx]
  have hn := Nat.mul_pos hc.s1 hc.s1
  show Pl.mean (Pl.add (c.v _ (c.at i)) (c.s * c.s)) (c.s * c.s) = v
  rw [Pl.add_one _ v _ (fun k hk => ?_), Pl.mean_one _ _ hn]
  unfold Pl.v
  rw [List.getD_eq_getElem?_getD, List.getElem?_replicate, if_pos (c.lt hc i k (by omega) hk)]
  rfl
/-- A pool of what may be. -/
theorem Pl.good {a : Ten} {c : Pl} (haz : a.zs = [(c.H : Int), (c.W : Int), (c.C : Int)]) (hfa : a.fault = (0, none)) (hs : 1 ≤ c.s ∧ c.s ≤ 16) (ht : 1 ≤ c.t ∧ c.t ≤ 16) (hH : c.s ≤ c.H) (hW : c.s ≤ c.W) :
    Cel.fault [a] (Pl.code [(c.s : Int), (c.t : Int)] a.look) = (0, none) ∧ Pl.Fine [(c.s : Int), (c.t : Int)] a c := by
  have hw := Tens.whole hfa
  have hcode : Pl.code [(c.s : Int), (c.t : Int)] a.look = 0 := by
    have hz : a.look.zs = [(c.H : Int), (c.W : Int), (c.C : Int)] := haz
    rw [Pl.code2q, hz]
    have h0 : Shp.code [(c.H : Int), (c.W : Int), (c.C : Int)] = 0 := by rw [← haz]; exact hw.1
    rw [if_neg (by rw [h0]; simp), if_neg (by simp), if_neg (by omega), if_neg (by simp; omega)]
  have hf : Cel.fault [a] (Pl.code [(c.s : Int), (c.t : Int)] a.look) = (0, none) := by
    rw [Cel.one_good hfa, hcode]
  refine ⟨hf, ?_⟩
  obtain ⟨c', hc⟩ := Pl.fine hf
  have e1 := hc.qz
  have e2 := hc.az
  rw [haz] at e2
  simp only [List.cons.injEq, and_true, Int.natCast_inj] at e1 e2
  obtain ⟨H, W, C, s, t⟩ := c
  obtain ⟨H', W', C', s', t'⟩ := c'
  obtain ⟨e1, e3⟩ := e1
  obtain ⟨e4, e5, e6⟩ := e2
  simp only at e1 e3 e4 e5 e6
  subst e1 e3 e4 e5 e6
  exact hc
theorem Tens.same_fine {a : Ten} (hfa : a.fault = (0, none)) (v : Int) (hv : -128 ≤ v ∧ v ≤ 127) : Tens.fault a.zs a.u (List.replicate a.ds.length v) = (0, none) := by
  have hw := Tens.whole hfa
  refine Tens.fault_none _ _ _ hw.1 ?_ (fun j y hy => ?_)
  · rw [List.length_replicate, hw.2.1, (Shp.whole hw.1).2.2.1]
  · have := List.mem_of_getElem? hy
    rw [(List.mem_replicate.1 this).2]
    unfold Tens.fit
    split
    · exact decide_eq_true (by omega)
    · exact decide_eq_true (by omega)
theorem ten_of2 {B : Nat} {w W : World} {x1 x2 x3 : Value} (hT : Has W B 26 [x1, x2, x3]) (hb : Below w.heap.size w W) : TenS B w x1 x2 x3 W :=
  ⟨by rw [hT.cell]; rfl, by rw [hT.cell]; rfl, by rw [hT.cell]; rfl, hide hb⟩
set_option maxRecDepth 100000 in
set_option maxHeartbeats 4000000 in
theorem rcopy_c (t : Ten) (w : World) (ht : t.In w) :
    Calls Tryd.prog 34 #[.agg (tcells t.P t.zs.length t.cap t.u t.D t.ds.length t.dcap)] w fun e w' => (∃ g c rest gd cd rd, e = .returned (.agg (tcells (some ⟨g, 0, none⟩) t.zs.length c t.u (some ⟨gd, 0, none⟩) t.ds.length cd)) ∧ Has w' g 3 (i64s t.zs ++ rest) ∧ Has w' gd 3 (i64s t.ds ++ rd) ∧ w.heap.size ≤ g ∧ w.heap.size ≤ gd ∧ g ≠ gd) ∧ Below w.heap.size w w' := by
  obtain ⟨hb1, hT, hZ⟩ := box_two w 26 26 [.slice t.P t.zs.length t.cap, .bool t.u, .slice t.D t.ds.length t.dcap] [.slice none 0 0, .bool false, .slice none 0 0]
  have HI := hide (fun W (hb : Below w.heap.size w W) => rdesc_c t.zs t.P t.cap t.u W (ht.shp.below hb) ht.ls)
  have HJ := hide (fun W (hb : Below w.heap.size w W) => refints_c t.ds t.D t.dcap W (ht.dat.below hb) ht.ld)
  obtain ⟨n, hn⟩ : ∃ n, Hid (t.zs.length = n) := ⟨_, hide rfl⟩
  obtain ⟨m, hm⟩ : ∃ m, Hid (t.ds.length = m) := ⟨_, hide rfl⟩
  rw [hn.out] at HI hb1 hT hZ ⊢
  rw [hm.out] at HJ hb1 hT hZ ⊢
  clear ht hn hm
  have HB1 := hide hb1
  have HT1 := hide hT
  have HZ1 := hide hZ
  have hS0 := ten_of2 hT hb1
  clear hb1 hT hZ
  go_enter Tryd.func34, Tryd.ntmps34
  go_wp2_with fail
  go_region_held3 (fun W => W.cell? ⟨w.heap.size, 0, none⟩ = some (.slice t.P n t.cap) ∧ W.cell? ⟨w.heap.size, 1, none⟩ = some (.bool t.u) ∧ W.cell? ⟨w.heap.size, 2, none⟩ = some (.slice t.D m t.dcap) ∧ Hid (Below w.heap.size w W))
    (first | exact hS0 | assumption | exact hS9.out | exact TenS.keep (by assumption) hb)
    (first
      | (go_at_call 70; refine (HI.out _ HB1.out).mono ?_; rintro e W2 ⟨⟨g, c, rest, rfl, hg, hC⟩, hb⟩; have hz2 := HZ1.out.below hb HZ1.out.lt; have ht2 := HT1.out.below hb HT1.out.lt; have hB2 := HB1.out.trans (hb.mono HB1.out.size); have hlt := HZ1.out.lt; have hgn : g ≠ w.heap.size + 1 := (by omega); have hsz := hb.size; have hgl := hC.lt; have hgw : w.heap.size ≤ g := (by omega))
      | (go_at_call 71; refine (HJ.out _ hB2).mono ?_; rintro e W3 ⟨⟨gd, cd, rd, rfl, hgd, hc1, hc2, hD⟩, hb⟩; have hz := hz2.below hb hz2.lt; have ht := ht2.below hb ht2.lt; have hC3 := hC.below hb hC.lt; have hB := hB2.trans (hb.mono hB2.size); have d0 : W3.cell? ⟨w.heap.size + 1, 0, none⟩ = some (.slice none 0 0) := (by rw [hz.cell]; rfl); have d1 : W3.cell? ⟨w.heap.size + 1, 1, none⟩ = some (.bool false) := (by rw [hz.cell]; rfl); have d2 : W3.cell? ⟨w.heap.size + 1, 2, none⟩ = some (.slice none 0 0) := (by rw [hz.cell]; rfl); have f0 := hz.frozen 0; have f1 := hz.frozen 1; have f2 := hz.frozen 2; have HO := hide (tstore (.slice (some ⟨g, 0, none⟩) n c) (.bool t.u) (.slice (some ⟨gd, 0, none⟩) m cd) hz ht hC3 hD hB hgn (by omega)); have hS9 := hide (ten_of2 HO.out.2.1 HO.out.2.2.2.2); have hgdw : w.heap.size ≤ gd := (by omega); have hne : g ≠ gd := (by omega)))
  go_wp2_with fail
  refine bodyPost_ret (results_cell_row rfl _ _ (w.heap.size + 1) 26 (tcells (some ⟨g, 0, none⟩) n c t.u (some ⟨gd, 0, none⟩) m cd) (0, 0) _ rfl HO.out.1 Tryd.underlying26 rfl (by kernel_rfl)) rfl ?_
  exact ⟨⟨g, c, rest, gd, cd, rd, rfl, HO.out.2.2.1, HO.out.2.2.2.1, hgw, hgdw, hne⟩, HO.out.2.2.2.2⟩
end Go.Proofs.YtcgjnjchkachdaaDoor
