/-
  Convolutions with a kernel of one place, with a stride, with room round them, of one number: over lists. lodgelaw9.tensor: a narrow one of a shape, of any numbers. What laws about convolutions use: lawful tensors. By an AI agent. No person has read it.
-/
import Derived.Test.YtkehdgjdieemkaaDoorCnvSpec
import Derived.Test.YtkehdgjdieemkaaDoorMatE
import Derived.Test.YtkehdgjdieemkaaDoorCelD
import Derived.Test.YtkehdgjdieemkaaDoorCnvD
namespace Go.Proofs.YtkehdgjdieemkaaDoor
open Go.RowKit

/-- A kernel of one place: a product, place by place. -/
theorem Cv.ones_el (H W C N : Nat) (za : Int) (xs ks : List Int) (y x o : Nat) (hy : y < H) (hx : x < W) :
    (Cv.mk H W C 1 1 N 1 0 za).el xs ks y x o = Mat.dot xs ks za 0 C N (y * W + x) o C := by
  have h1 : Cv.here H 1 0 y 0 := ⟨by omega, by omega⟩
  have h2 : Cv.here W 1 0 x 0 := ⟨by omega, by omega⟩
  have hc : ∀ k, Cv.sum ((Cv.mk H W C 1 1 N 1 0 za).prod xs ks ((y * W + x) * C) o) k = Mat.dot xs ks za 0 C N (y * W + x) o k := fun k => by
    induction k with
    | zero => rfl
    | succ k ih =>
      show Cv.sum _ k + (xs.getD ((y * W + x) * C + k) 0 - za) * ks.getD (o + k * N) 0 = Mat.dot _ _ _ _ _ _ _ _ k + (xs.getD ((y * W + x) * C + k) 0 - za) * (ks.getD (k * N + o) 0 - 0)
      rw [ih, Nat.add_comm o, Int.sub_zero]
  have e1 : (Cv.mk H W C 1 1 N 1 0 za).ia y x 0 0 = (y * W + x) * C := by
    show ((y * 1 + 0 - 0) * W + (x * 1 + 0 - 0)) * C = _
    simp
  have e2 : (Cv.mk H W C 1 1 N 1 0 za).ik o 0 0 = o := by
    show (0 * 1 + 0) * C * N + o = o
    simp
  have e3 : (Cv.mk H W C 1 1 N 1 0 za).col xs ks y x o 0 0 = Mat.dot xs ks za 0 C N (y * W + x) o C := by
    unfold Cv.col
    rw [if_pos h2, e1, e2]
    exact hc C
  show 0 + (Cv.mk H W C 1 1 N 1 0 za).row xs ks y x o 0 = _
  unfold Cv.row
  rw [if_pos h1]
  show 0 + (0 + (Cv.mk H W C 1 1 N 1 0 za).col xs ks y x o 0 0) = _
  rw [e3, Int.zero_add, Int.zero_add]
theorem Cv.ones_part (H W C N : Nat) (za : Int) (xs ks : List Int) (hW : 1 ≤ W) :
    (Cv.mk H W C 1 1 N 1 0 za).part xs ks 0 (H * W * N) = Mat.part xs ks za 0 C N 0 (H * W * N) := by
  refine List.ext_getElem? fun i => ?_
  rcases Nat.lt_or_ge i (H * W * N) with h | h
  · have ew : (Cv.mk H W C 1 1 N 1 0 za).ow = W := by
      show (W + 2 * 0 - 1) / 1 + 1 = W
      rw [Nat.div_one]
      omega
    rw [Cv.part_at _ _ _ _ _ _ h, Mat.part_at _ _ _ _ _ _ _ _ _ h, ew, Nat.zero_add]
    have h1 : i / N < H * W := Nat.div_lt_of_lt_mul (by rw [Nat.mul_comm]; exact h)
    have h2 : i / N / W < H := Nat.div_lt_of_lt_mul (by rw [Nat.mul_comm]; exact h1)
    show some (Tens.wide ((Cv.mk H W C 1 1 N 1 0 za).el xs ks (i / N / W) (i / N % W) (i % N))) = _
    rw [Cv.ones_el H W C N za xs ks _ _ _ h2 (Nat.mod_lt _ hW), Nat.mul_comm (i / N / W), Nat.div_add_mod]
  · rw [List.getElem?_eq_none (by rw [Cv.part_length]; exact h), List.getElem?_eq_none (by rw [Mat.part_length]; exact h)]
/-- With a stride: a place of that without. -/
theorem Cv.stride_el (H W C U V N s p : Nat) (za : Int) (xs ks : List Int) (y x o : Nat) :
    (Cv.mk H W C U V N s p za).el xs ks y x o = (Cv.mk H W C U V N 1 p za).el xs ks (y * s) (x * s) o := by
  have hr : ∀ dy, (Cv.mk H W C U V N s p za).row xs ks y x o dy = (Cv.mk H W C U V N 1 p za).row xs ks (y * s) (x * s) o dy := fun dy => by
    have hcol : ∀ dx, (Cv.mk H W C U V N s p za).col xs ks y x o dy dx = (Cv.mk H W C U V N 1 p za).col xs ks (y * s) (x * s) o dy dx := fun dx => by
      unfold Cv.col Cv.ia Cv.here
      simp only [Nat.mul_one]
      rfl
    unfold Cv.row Cv.here
    simp only [Nat.mul_one]
    rw [Cv.sum_same _ _ _ (fun i _ => hcol i)]
    rfl
  exact Cv.sum_same _ _ _ (fun i _ => hr i)
/-- With room round it: as with the zero laid round it. -/
theorem Cv.pads_el (H W U V p : Nat) (za : Int) (xs bs ks : List Int) (y x o : Nat) (hy : y + U ≤ H + 2 * p) (hx : x + V ≤ W + 2 * p)
    (hb : ∀ Y X, Y < H + 2 * p → X < W + 2 * p → bs.getD (Y * (W + 2 * p) + X) 0 = if p ≤ Y ∧ Y < H + p ∧ p ≤ X ∧ X < W + p then xs.getD ((Y - p) * W + (X - p)) 0 else za) :
    (Cv.mk H W 1 U V 1 1 p za).el xs ks y x o = (Cv.mk (H + 2 * p) (W + 2 * p) 1 U V 1 1 0 za).el bs ks y x o := by
  have hcol : ∀ dy dx, dy < U → dx < V → (Cv.mk (H + 2 * p) (W + 2 * p) 1 U V 1 1 0 za).col bs ks y x o dy dx = if Cv.here H 1 p y dy then (Cv.mk H W 1 U V 1 1 p za).col xs ks y x o dy dx else 0 := fun dy dx h1 h2 => by
    have hh : Cv.here (W + 2 * p) 1 0 x dx := ⟨by omega, by omega⟩
    have e := hb (y + dy) (x + dx) (by omega) (by omega)
    have e1 : (Cv.mk (H + 2 * p) (W + 2 * p) 1 U V 1 1 0 za).col bs ks y x o dy dx = (bs.getD ((y + dy) * (W + 2 * p) + (x + dx)) 0 - za) * ks.getD ((dy * V + dx) * 1 * 1 + o + 0 * 1) 0 := by
      unfold Cv.col
      rw [if_pos hh]
      show 0 + (bs.getD (((y * 1 + dy - 0) * (W + 2 * p) + (x * 1 + dx - 0)) * 1 + 0) 0 - za) * _ = _
      rw [Int.zero_add, Nat.mul_one, Nat.mul_one, Nat.mul_one, Nat.sub_zero, Nat.sub_zero, Nat.add_zero]
      rfl
    rw [e1, e]
    by_cases hY : Cv.here H 1 p y dy
    · rw [if_pos hY]
      unfold Cv.col
      have hY1 := hY.1
      have hY2 := hY.2
      by_cases hX : Cv.here W 1 p x dx
      · have hX1 := hX.1
        have hX2 := hX.2
        rw [if_pos hX, if_pos ⟨by omega, by omega, by omega, by omega⟩]
        show _ = 0 + (xs.getD (((y * 1 + dy - p) * W + (x * 1 + dx - p)) * 1 + 0) 0 - za) * ks.getD ((dy * V + dx) * 1 * 1 + o + 0 * 1) 0
        simp only [Int.zero_add, Nat.mul_one, Nat.add_zero]
      · rw [if_neg hX, if_neg (fun h => hX ⟨by omega, by omega⟩), Int.sub_self, Int.zero_mul]
    · rw [if_neg hY, if_neg (fun h => hY ⟨by omega, by omega⟩), Int.sub_self, Int.zero_mul]
  refine Cv.sum_same _ _ _ (fun dy hdy => ?_)
  have hdy : dy < U := hdy
  have hh : Cv.here (H + 2 * p) 1 0 y dy := ⟨by omega, by omega⟩
  unfold Cv.row
  rw [if_pos (show Cv.here (H + 2 * p) 1 0 y dy from hh)]
  by_cases hY : Cv.here H 1 p y dy
  · rw [if_pos hY]
    refine Cv.sum_same _ _ _ (fun dx hdx => ?_)
    rw [hcol dy dx hdy hdx, if_pos hY]
  · rw [if_neg hY]
    refine (Cv.sum_low _ _ (fun dx hdx => ?_)).symm
    rw [hcol dy dx hdy hdx, if_neg hY]
/-- A sum with one that is not nothing. -/
theorem Cv.sum_one (f : Nat → Int) (j k : Nat) (h : ∀ i, i < k → i ≠ j → f i = 0) : Cv.sum f k = if j < k then f j else 0 := by
  induction k with
  | zero => rfl
  | succ k ih =>
    show Cv.sum f k + f k = _
    rw [ih (fun i h1 h2 => h i (by omega) h2)]
    by_cases e : k = j
    · subst e
      rw [if_neg (by omega), if_pos (by omega), Int.zero_add]
    · rw [h k (by omega) e, Int.add_zero]
      by_cases e2 : j < k
      · rw [if_pos e2, if_pos (by omega)]
      · rw [if_neg e2, if_neg (by omega)]
/-- Of one place that is not nothing. -/
theorem Cv.only_el (H W K : Nat) (v : Int) (xs ks : List Int) (y0 x0 y x : Nat) (h1 : y + K ≤ H) (h2 : x + K ≤ W)
    (hx : ∀ Y X, Y < H → X < W → xs.getD (Y * W + X) 0 = if Y = y0 ∧ X = x0 then v else 0) :
    (Cv.mk H W 1 K K 1 1 0 0).el xs ks y x 0 = if y ≤ y0 ∧ x ≤ x0 ∧ y0 - y < K ∧ x0 - x < K then v * ks.getD ((y0 - y) * K + (x0 - x)) 0 else 0 := by
  have hcol : ∀ dy dx, dy < K → dx < K → (Cv.mk H W 1 K K 1 1 0 0).col xs ks y x 0 dy dx = if y + dy = y0 ∧ x + dx = x0 then v * ks.getD (dy * K + dx) 0 else 0 := fun dy dx e1 e2 => by
    have hh : Cv.here W 1 0 x dx := ⟨by omega, by omega⟩
    unfold Cv.col
    rw [if_pos hh]
    show 0 + (xs.getD (((y * 1 + dy - 0) * W + (x * 1 + dx - 0)) * 1 + 0) 0 - 0) * ks.getD ((dy * K + dx) * 1 * 1 + 0 + 0 * 1) 0 = _
    simp only [Int.zero_add, Nat.mul_one, Nat.sub_zero, Nat.add_zero, Int.sub_zero]
    rw [hx (y + dy) (x + dx) (by omega) (by omega)]
    by_cases e : y + dy = y0 ∧ x + dx = x0
    · rw [if_pos e, if_pos e]
    · rw [if_neg e, if_neg e, Int.zero_mul]
  have hrow : ∀ dy, dy < K → (Cv.mk H W 1 K K 1 1 0 0).row xs ks y x 0 dy = if y + dy = y0 ∧ x ≤ x0 ∧ x0 - x < K then v * ks.getD (dy * K + (x0 - x)) 0 else 0 := fun dy e1 => by
    have hh : Cv.here H 1 0 y dy := ⟨by omega, by omega⟩
    unfold Cv.row
    rw [if_pos hh]
    show Cv.sum ((Cv.mk H W 1 K K 1 1 0 0).col xs ks y x 0 dy) K = _
    rw [Cv.sum_one _ (x0 - x) K (fun i hi hne => by rw [hcol dy i e1 hi, if_neg]; rintro ⟨-, h⟩; omega)]
    by_cases e2 : x0 - x < K
    · rw [if_pos e2, hcol dy _ e1 e2]
      by_cases e3 : y + dy = y0 ∧ x + (x0 - x) = x0
      · rw [if_pos e3, if_pos ⟨e3.1, by omega, e2⟩]
      · rw [if_neg e3, if_neg (fun h => e3 ⟨h.1, by omega⟩)]
    · rw [if_neg e2, if_neg (fun h => e2 h.2.2)]
  show Cv.sum ((Cv.mk H W 1 K K 1 1 0 0).row xs ks y x 0) K = _
  rw [Cv.sum_one _ (y0 - y) K (fun i hi hne => by rw [hrow i hi, if_neg]; rintro ⟨h, -⟩; omega)]
  by_cases e2 : y0 - y < K
  · rw [if_pos e2, hrow _ e2]
    by_cases e3 : y + (y0 - y) = y0 ∧ x ≤ x0 ∧ x0 - x < K
    · rw [if_pos e3, if_pos ⟨by omega, e3.2.1, e2, e3.2.2⟩]
    · rw [if_neg e3, if_neg (fun h => e3 ⟨by omega, h.2.1, h.2.2.2⟩)]
  · rw [if_neg e2, if_neg (fun h => e2 h.2.2.1)]
/-- A tensor of a shape, of some numbers: narrow ones; of none nothings. -/
def CvTenE (zn : Nat) (S : Option Addr) (scap T n : Nat) (w : World) (e : Ending) (w' : World) : Prop :=
  (∃ (g : Nat) (ds : List Int), e = .returned (.agg (tcells S zn scap false (some ⟨g, 0, none⟩) T T)) ∧ w.heap.size < g ∧ Has w' g 3 (i64s ds) ∧ ds.length = T ∧ Mat.small ds ∧ MatZ n ds T) ∧ Below w.heap.size w w'
set_option maxRecDepth 100000 in
set_option maxHeartbeats 8000000 in
theorem cvtensor_c (zs : List Int) (S : Option Addr) (scap T : Nat) (l : List Int) (A : Option Addr) (cap : Nat) (w : World) (hT : Shp.elems zs = (T : Int)) (hTb : T ≤ 20000) (hs : Ri w S zs) (hsl : zs.length ≤ 9223372036854775807) (hr : Ri w A l) :
    Calls Tryd.prog 39 #[.slice S zs.length scap, .slice A l.length cap] w (CvTenE zs.length S scap T l.length w) := by
  have HN := hide (fun x W => number_e x 256 (by decide) (by decide) 256 rfl W)
  have HL := hide (fun W (hb : Below w.heap.size w W) => hr.below hb)
  obtain ⟨n, hn⟩ : ∃ n, Hid (l.length = n) := ⟨_, hide rfl⟩
  obtain ⟨Z, hZ, hmk⟩ := made_ints T (by omega)
  obtain ⟨V0, hV0⟩ : ∃ W, W = w.alloc (.cells #[.slice none 0 0, .bool false, .slice none 0 0] 26) := ⟨_, rfl⟩
  have hbv : Below w.heap.size w V0 := by rw [hV0]; exact (Below.refl _ _).alloc (Nat.le_refl _) _
  have HR0 : Hid (Has V0 w.heap.size 26 [.slice none 0 0, .bool false, .slice none 0 0]) := hide (by rw [hV0]; exact Has.new w 26 _)
  have HEL := hide (refelems_c zs S scap V0 (hs.below hbv) hsl)
  rw [hT] at HEL
  have HBV := hide hbv
  have HV0 := hide hV0
  obtain ⟨zn, hzn⟩ : ∃ n, Hid (zs.length = n) := ⟨_, hide rfl⟩
  rw [hn.out, hzn.out]
  rw [hzn.out] at HEL
  clear hr hs hT hsl hV0 hbv
  go_enter Tryd.func39, Tryd.ntmps39
  go_wp2_with fail
  rw [← HV0.out]
  refine HEL.out.mono ?_
  rintro e w1 ⟨rfl, hb⟩
  have HB1 := hide (HBV.out.trans (hb.mono HBV.out.size))
  have HR1 := hide (HR0.out.below hb HR0.out.lt)
  clear hb HEL HV0 HBV HR0
  obtain ⟨W0, hW0⟩ : ∃ W, W = (w1.alloc (.cells Z 3)).alloc (.cells #[.slice S zn scap, .bool false, .slice (some ⟨w1.heap.size, 0, none⟩) T T] 26) := ⟨_, rfl⟩
  have hs1 : w.heap.size < w1.heap.size := HR1.out.lt
  have HR : Hid (Has W0 w.heap.size 26 [.slice none 0 0, .bool false, .slice none 0 0]) := hide (by rw [hW0]; exact (HR1.out.alloc _).alloc _)
  have HD : Hid (Has W0 w1.heap.size 3 (i64s (List.replicate T 0))) := hide (by rw [hW0, hZ.out]; exact (Has.new w1 3 (i64s (List.replicate T 0))).alloc _)
  have HX : Hid (Has W0 (w1.heap.size + 1) 26 [.slice S zn scap, .bool false, .slice (some ⟨w1.heap.size, 0, none⟩) T T]) := hide (by rw [hW0]; exact box_at _ _ _ _ (by simp))
  have HB : Hid (Below w.heap.size w W0) := hide (by rw [hW0]; exact (HB1.out.alloc HB1.out.size _).alloc (by simp; omega) _)
  have HW := hide hW0
  obtain ⟨G, hG⟩ : ∃ G, Hid (w1.heap.size = G) := ⟨_, hide rfl⟩
  clear hW0 HB1 HR1
  go_wp2_with fail
  rw [← HW.out]
  clear HW hmk hZ
  rw [hG.out] at HD HX hs1
  try rw [hG.out]
  clear hG
  go_loopw [6] (fun k wr => ∃ (i : Nat) (ds : List Int), i ≤ T ∧ k = .int .i64 i ∧ Hid (ds.length = T) ∧ Hid (Mat.small ds) ∧ Hid (MatZ n ds T) ∧ Hid (Has wr w.heap.size 26 [.slice none 0 0, .bool false, .slice none 0 0]) ∧ Hid (Has wr G 3 (i64s ds)) ∧ Hid (Has wr (G + 1) 26 [.slice S zn scap, .bool false, .slice (some ⟨G, 0, none⟩) T T]) ∧ Hid (Below w.heap.size w wr)) (fun k _ => T - (intOf k).toNat)
  case atStart => exact ⟨0, List.replicate T 0, by omega, rfl, hide (by simp), hide (fun z hz => by rw [(List.mem_replicate.1 hz).2]; decide), hide (fun _ => rfl), HR, HD, HX, HB⟩
  case round =>
    clear HR HD HX HB
    obtain ⟨i, ds, hi, rfl, HLn, HS, HNl, HR, HD, HX, HB⟩ := hrel
    have y2 : wr.cell? ⟨G + 1, 2, none⟩ = some (.slice (some ⟨G, 0, none⟩) T T) := HX.out.cell 2
    by_cases hgo : i < T ∧ 0 < n
    case neg =>
      have hdd : decide ((i : Int) < (T : Int)) = decide (i < T) := by simp
      obtain ⟨z0, z1, z2, zf0, zf1, zf2, HZf, HFf⟩ := elm_three HR.out HB.out (Nat.le_refl _) (.slice S zn scap) (.bool false) (.slice (some ⟨G, 0, none⟩) T T)
      have HDf := hide (((HD.out.far (p := ⟨w.heap.size, 0, none⟩) (by simp; omega) (.slice S zn scap)).far (p := ⟨w.heap.size, 1, none⟩) (by simp; omega) (.bool false)).far (p := ⟨w.heap.size, 2, none⟩) (by simp; omega) (.slice (some ⟨G, 0, none⟩) T T))
      have x0 := HX.out.cell 0
      have x1 := HX.out.cell 1
      by_cases hin : i < T
      · have hn0 : n = 0 := by omega
        subst hn0
        have hii : (i : Int) < (T : Int) := by omega
        clear hgo HL HN hdd
        go_wp2_with fail
        refine bodyPost_ret (results_cell_row rfl _ _ w.heap.size 26 (tcells S zn scap false (some ⟨G, 0, none⟩) T T) (0, 0) _ rfl HZf.out Tryd.underlying26 rfl (by kernel_rfl)) rfl ?_
        exact ⟨⟨G, ds, rfl, hs1, HDf.out, HLn.out, HS.out, HNl.out⟩, HFf.out⟩
      · have hii : ¬ (i : Int) < (T : Int) := by omega
        have hid : decide ((i : Int) < (T : Int)) = false := decide_eq_false hii
        clear hgo HL HN hdd
        go_wp2_with fail
        refine bodyPost_ret (results_cell_row rfl _ _ w.heap.size 26 (tcells S zn scap false (some ⟨G, 0, none⟩) T T) (0, 0) _ rfl HZf.out Tryd.underlying26 rfl (by kernel_rfl)) rfl ?_
        exact ⟨⟨G, ds, rfl, hs1, HDf.out, HLn.out, HS.out, HNl.out⟩, HFf.out⟩
    case pos =>
      obtain ⟨hlt, hn0⟩ := hgo
      have hii : (i : Int) < (T : Int) := by omega
      have hi0 : (0 : Int) ≤ (i : Int) := by omega
      have hnn : (0 : Int) < (n : Int) := by omega
      obtain ⟨q, hq⟩ : ∃ q, Hid (i % n = q) := ⟨_, hide rfl⟩
      have hqn : q < n := by rw [← hq.out]; exact Nat.mod_lt _ hn0
      have Hq1 : Hid ((i : Int) % (n : Int) = (q : Int)) := hide (by rw [← hq.out]; exact (Int.natCast_emod i n).symm)
      have Hq2 : Hid ((i : Int).tmod (n : Int) = (q : Int)) := hide (by rw [Int.tmod_eq_emod_of_nonneg (by omega)]; exact Hq1.out)
      obtain ⟨ad, x, hAD, ex, cx⟩ := ri_at (HL.out wr HB.out) q (by rw [hn.out]; exact hqn)
      subst hAD
      have hq0 : (0 : Int) ≤ (q : Int) := by omega
      have hq3 : (q : Int) < (n : Int) := by omega
      have hnz : ¬ n = 0 := by omega
      obtain ⟨s, hs⟩ : ∃ s : Int, Hid (7 * (i : Int) = s) := ⟨_, hide rfl⟩
      have Hs : Hid (IntKind.i64.wrap (7 * (i : Int)) = s) := hide (by rw [hs.out, IntKind.wrap_i64]; have := hs.out; omega)
      obtain ⟨y, hy⟩ : ∃ y : Int, Hid (IntKind.i64.wrap (x + s) = y) := ⟨_, hide rfl⟩
      obtain ⟨k, hk⟩ : ∃ k : Int, Hid (y % 256 = k) := ⟨_, hide rfl⟩
      have hkb : 0 ≤ k ∧ k < 256 := by have := hk.out; omega
      obtain ⟨v, hv⟩ : ∃ v : Int, Hid (k - 128 = v) := ⟨_, hide rfl⟩
      have Hv : Hid (IntKind.i64.wrap (k - 128) = v) := hide (by rw [IntKind.wrap_i64, ← hv.out]; omega)
      have hvb : -128 ≤ v ∧ v ≤ 127 := by have := hv.out; omega
      have HC := hide (HN.out y)
      rw [hk.out] at HC
      have g1 : wr.cell? ⟨G, i, none⟩ = some (.int .i64 (ds[i]'(by rw [HLn.out]; exact hlt))) := by
        rw [HD.out.cell]
        unfold i64s
        rw [List.getElem?_map, List.getElem?_eq_getElem (by rw [HLn.out]; exact hlt)]
        rfl
      have gf := HD.out.frozen i
      have hadb : ad.block ≠ G := by
        obtain ⟨ad', h1, h2, -⟩ := (HL.out w (Below.refl _ _)).2 (by intro h; rw [h] at ex; have h := ex.out; simp at h)
        have h1 := Option.some.inj h1
        subst h1
        omega
      have hS0 : MxS (G + 1) (ad.add q) (.slice (some ⟨G, 0, none⟩) T T) (.int .i64 x) wr.drew := ⟨y2, cx⟩
      have hS1 : ∀ k, MxS (G + 1) (ad.add q) (.slice (some ⟨G, 0, none⟩) T T) (.int .i64 x) ((wr.drewN k).setCell ⟨G, i, none⟩ (.int .i64 v)) := fun k =>
        ⟨(World.cell?_setCell_far (wr.drewN k) _ _ _ (by simp)).trans y2, (World.cell?_setCell_far (wr.drewN k) _ _ _ (by rw [elm_block]; exact Ne.symm hadb)).trans cx⟩
      have hS2 : MxS (G + 1) (ad.add q) (.slice (some ⟨G, 0, none⟩) T T) (.int .i64 x) (wr.drew.setCell ⟨G, i, none⟩ (.int .i64 v)) := hS1 1
      have HVB := hide hvb
      have HRd := hide ((HR.out.drewN 1).far (p := ⟨G, i, none⟩) (by simp; omega) (.int .i64 v))
      have HXd := hide ((HX.out.drewN 1).far (p := ⟨G, i, none⟩) (by simp) (.int .i64 v))
      have HDd := hide ((HD.out.drewN 1).set_ i (.int .i64 v))
      have HBd := hide (HB.out.drew.setCell (p := ⟨G, i, none⟩) (by simp; omega) (.int .i64 v))
      clear cx hadb hvb hkb
      go_wp2_with fail
      have hq1 := Hq1.out
      have hq2 := Hq2.out
      have hss := Hs.out
      have hyy := hy.out
      have hvv := Hv.out
      go_region_held3 (fun W => W.cell? ⟨G + 1, 2, none⟩ = some (.slice (some ⟨G, 0, none⟩) T T) ∧ W.cell? (ad.add q) = some (.int .i64 x))
        (first | exact hS0 | exact hS2 | exact hS1 _ | assumption)
        (first
          | (go_at_call 27; refine (HC.out _).mono ?_; rintro e W2 ⟨rfl, hw⟩; have hw := hw.symm; subst hw))
      clear hq1 hq2 hss hyy hvv
      go_wp2_with fail
      go_roundw
      case rel =>
        refine ⟨i + 1, ds.set i v, by omega, by go_num, hide (by rw [List.length_set]; exact HLn.out), hide (fun z hz => ?_), hide (fun h => by omega), HRd, ?_, HXd, HBd⟩
        · rcases List.mem_or_eq_of_mem_set hz with h | h
          · exact HS.out z h
          · rw [h]
            exact HVB.out
        · have h := HDd.out
          unfold i64s at h ⊢
          rw [List.map_set]
          exact hide h
      case measure => simp [intOf]; omega
/-- A narrow tensor of a shape. -/
structure CvIs (t : Ten) (zs : List Int) (T n : Nat) : Prop where
  zs : t.zs = zs
  hu : t.u = false
  len : t.ds.length = T
  sm : Mat.small t.ds
  nz : MatZ n t.ds T
theorem cvtensor_good (zs : List Int) (zn : Nat) (hzn : zs.length = zn) (S : Option Addr) (scap T : Nat) (l : List Int) (n : Nat) (hn : l.length = n) (A : Option Addr) (cap : Nat) (w : World) (hT : Shp.elems zs = (T : Int)) (hTb : T ≤ 20000) (hs : Ri w S zs) (hsl : zs.length ≤ 4) (hr : Ri w A l) :
    Calls Tryd.prog 39 #[.slice S zn scap, .slice A n cap] w fun e w' => (∃ t : Ten, e = .returned (.agg (tcells t.P t.zs.length t.cap t.u t.D t.ds.length t.dcap)) ∧ t.In w' ∧ CvIs t zs T n) ∧ Below w.heap.size w w' := by
  subst hzn
  subst hn
  refine (cvtensor_c zs S scap T l A cap w hT hTb hs (by omega) hr).mono ?_
  rintro e w' ⟨⟨g, ds, rfl, -, hD, hL, hsm, hz⟩, hB⟩
  refine ⟨⟨⟨S, zs, scap, false, some ⟨g, 0, none⟩, ds, T⟩, ?_, ⟨hs.below hB, hD.ri ?_, by show zs.length ≤ 1000000; omega, by show ds.length ≤ 1000000; omega⟩, ⟨rfl, rfl, hL, hsm, hz⟩⟩, hB⟩
  · rw [hL]
  · intro q hq
    exact wf_i64 _ (by have := hsm q hq; omega)
theorem Cv.code3 (x y z : Nat) (h1 : 1 ≤ x ∧ x ≤ 256) (h2 : 1 ≤ y ∧ y ≤ 256) (h3 : 1 ≤ z ∧ z ≤ 256) (h : x * y * z ≤ 16384) : Shp.code [(x : Int), (y : Int), (z : Int)] = 0 := by
  unfold Shp.code
  rw [if_neg (by show ¬ 4 < 3; omega), if_neg (by simp [Shp.okDim]; omega), if_neg (by rw [Cv.prod3]; omega)]
theorem Cv.code4 (x y z v : Nat) (h1 : 1 ≤ x ∧ x ≤ 256) (h2 : 1 ≤ y ∧ y ≤ 256) (h3 : 1 ≤ z ∧ z ≤ 256) (h4 : 1 ≤ v ∧ v ≤ 256) (h : x * y * z * v ≤ 16384) : Shp.code [(x : Int), (y : Int), (z : Int), (v : Int)] = 0 := by
  unfold Shp.code
  rw [if_neg (by show ¬ 4 < 4; omega), if_neg (by simp [Shp.okDim]; omega), if_neg (by rw [Cv.prod4]; omega)]
theorem Cv.elems3 (x y z : Nat) (h1 : 1 ≤ x ∧ x ≤ 256) (h2 : 1 ≤ y ∧ y ≤ 256) (h3 : 1 ≤ z ∧ z ≤ 256) (h : x * y * z ≤ 16384) : Shp.elems [(x : Int), (y : Int), (z : Int)] = ((x * y * z : Nat) : Int) := by
  rw [(Shp.whole (Cv.code3 x y z h1 h2 h3 h)).2.2.1, Cv.prod3]
theorem Cv.elems4 (x y z v : Nat) (h1 : 1 ≤ x ∧ x ≤ 256) (h2 : 1 ≤ y ∧ y ≤ 256) (h3 : 1 ≤ z ∧ z ≤ 256) (h4 : 1 ≤ v ∧ v ≤ 256) (h : x * y * z * v ≤ 16384) : Shp.elems [(x : Int), (y : Int), (z : Int), (v : Int)] = ((x * y * z * v : Nat) : Int) := by
  rw [(Shp.whole (Cv.code4 x y z v h1 h2 h3 h4 h)).2.2.1, Cv.prod4]
theorem CvIs.fault {t : Ten} {zs : List Int} {T n : Nat} (h : CvIs t zs T n) (hc : Shp.code zs = 0) (he : Shp.elems zs = (T : Int)) : t.fault = (0, none) := by
  show Tens.fault t.zs t.u t.ds = (0, none)
  rw [h.zs, h.hu]
  refine Tens.fault_none _ _ _ hc (by rw [he, h.len]) (fun j y hy => ?_)
  unfold Tens.fit
  rw [if_neg (by decide)]
  exact decide_eq_true (h.sm y (List.mem_of_getElem? hy))
/-- A convolution of lawful ones. -/
theorem Cv.lawful {a b : Ten} {n1 n2 : Nat} (H W C U V N s p : Nat) (za : Int) (ha : CvIs a [(H : Int), (W : Int), (C : Int)] (H * W * C) n1) (hb : CvIs b [(U : Int), (V : Int), (C : Int), (N : Int)] (U * V * C * N) n2)
    (hH : 1 ≤ H ∧ H ≤ 20) (hW : 1 ≤ W ∧ W ≤ 20) (hC : 1 ≤ C ∧ C ≤ 5) (hU : 1 ≤ U ∧ U ≤ H + 2 * p ∧ U ≤ 20) (hV : 1 ≤ V ∧ V ≤ W + 2 * p ∧ V ≤ 20) (hN : 1 ≤ N ∧ N ≤ 5) (hs : 1 ≤ s ∧ s ≤ 16) (hp : p ≤ 3) (hz : -128 ≤ za ∧ za ≤ 127) (hUV : U * V * C * N ≤ 16384) :
    Cel.fault [a, b] (Cv.code [(s : Int), (p : Int), za] a.look b.look) = (0, none) ∧ Cv.shape [(s : Int), (p : Int), za] a.look b.look = [((Cv.mk H W C U V N s p za).oh : Int), ((Cv.mk H W C U V N s p za).ow : Int), (N : Int)] ∧
      Cv.ds [(s : Int), (p : Int), za] a b = (Cv.mk H W C U V N s p za).part a.ds b.ds 0 ((Cv.mk H W C U V N s p za).oh * (Cv.mk H W C U V N s p za).ow * N) := by
  have hwc : H * W * C ≤ 20 * 20 * 5 := Nat.mul_le_mul (Nat.mul_le_mul hH.2 hW.2) hC.2
  have ca := Cv.code3 H W C (by omega) (by omega) (by omega) (by omega)
  have cb := Cv.code4 U V C N (by omega) (by omega) (by omega) (by omega) hUV
  have fa := ha.fault ca (Cv.elems3 H W C (by omega) (by omega) (by omega) (by omega))
  have fb := hb.fault cb (Cv.elems4 U V C N (by omega) (by omega) (by omega) (by omega) hUV)
  have ea : a.look.zs = [(H : Int), (W : Int), (C : Int)] := ha.zs
  have eb : b.look.zs = [(U : Int), (V : Int), (C : Int), (N : Int)] := hb.zs
  have ua : a.look.u = false := ha.hu
  have ub : b.look.u = false := hb.hu
  have o1 : (Cv.mk H W C U V N s p za).oh ≤ 27 := by
    show (H + 2 * p - U) / s + 1 ≤ 27
    have := Nat.div_le_self (H + 2 * p - U) s
    omega
  have o2 : (Cv.mk H W C U V N s p za).ow ≤ 27 := by
    show (W + 2 * p - V) / s + 1 ≤ 27
    have := Nat.div_le_self (W + 2 * p - V) s
    omega
  have o3 : 1 ≤ (Cv.mk H W C U V N s p za).oh := Nat.succ_pos _
  have o4 : 1 ≤ (Cv.mk H W C U V N s p za).ow := Nat.succ_pos _
  have o5 : (Cv.mk H W C U V N s p za).oh * (Cv.mk H W C U V N s p za).ow * N ≤ 27 * 27 * 5 := Nat.mul_le_mul (Nat.mul_le_mul o1 o2) hN.2
  have cc := Cv.code3 _ _ N ⟨o3, by omega⟩ ⟨o4, by omega⟩ (by omega) (Nat.le_trans o5 (by decide))
  have hdm : Cv.dims [(s : Int), (p : Int), za] a.look b.look = [((Cv.mk H W C U V N s p za).oh : Int), ((Cv.mk H W C U V N s p za).ow : Int), (N : Int)] := by
    unfold Cv.dims
    rw [ea, eb]
    show [Cv.reach H U s p, Cv.reach W V s p, (N : Int)] = _
    rw [Cv.reach_nat H U s p (by omega), Cv.reach_nat W V s p (by omega)]
    rfl
  have hfb : Shp.firstbad [a.look, b.look] = 0 := by
    unfold Shp.firstbad
    rw [if_pos (by rw [ea]; exact ca)]
    unfold Shp.firstbad
    rw [if_pos (by rw [eb]; exact cb)]
    rfl
  have nz : Tens.narrow za = za := by unfold Tens.narrow; omega
  have hc : Cv.code [(s : Int), (p : Int), za] a.look b.look = 0 := by
    unfold Cv.code
    rw [if_neg (by simp), if_neg (by rw [hfb]; simp), if_neg (by rw [ea, eb, ua, ub]; simp), if_neg (by
      show ¬ ((s : Int) < 1 ∨ (s : Int) > 16 ∨ (p : Int) < 0 ∨ (p : Int) > 15 ∨ Tens.narrow za ≠ za)
      rintro (h | h | h | h | h)
      · omega
      · omega
      · omega
      · omega
      · exact h nz), if_neg (by
      rw [ea, eb]
      show ¬ ((U : Int) > (H : Int) + 2 * (p : Int) ∨ (V : Int) > (W : Int) + 2 * (p : Int))
      omega), hdm]
    exact cc
  refine ⟨?_, ?_, ?_⟩
  · rw [Cel.fault_code (Tens.first_none _ (fun j t ht => by
      match j, ht with
      | 0, ht => cases ht; exact fa
      | 1, ht => cases ht; exact fb)), hc]
  · unfold Cv.shape
    rw [if_pos hc, hdm]
  · unfold Cv.ds Cv.of
    rw [ha.zs, hb.zs]
    rfl
end Go.Proofs.YtkehdgjdieemkaaDoor
