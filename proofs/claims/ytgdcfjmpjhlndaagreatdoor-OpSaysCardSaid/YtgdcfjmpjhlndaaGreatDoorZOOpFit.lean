/-
  What a lawful operation comes to fits its kind. By an AI agent. No person has read it.
-/
import Derived.Test.YtgdcfjmpjhlndaaGreatDoorZOElmLaws
import Derived.Test.YtgdcfjmpjhlndaaGreatDoorZOOpQ
namespace Go.Proofs.YtgdcfjmpjhlndaaGreatDoor
open Go.RowKit
theorem Tens.fit_in (u : Bool) : ∃ A B : Int, A ≤ 0 ∧ 0 ≤ B ∧ ∀ z, Tens.fit u z = true ↔ A ≤ z ∧ z ≤ B := by
 cases u
 ·refine ⟨-128, 127, by decide, by decide, fun z => ?_⟩
  unfold Tens.fit
  rw [if_neg (by decide), decide_eq_true_eq]
 ·refine ⟨-2147483648, 2147483647, by decide, by decide, fun z => ?_⟩
  unfold Tens.fit
  rw [if_pos rfl, decide_eq_true_eq]
theorem Elm.code_may {op : Int} {qs : List Int} {ds : List Dsc} (h : Elm.code op qs ds = 0) : Elm.may op ((ds.head?.map (·.u)).getD false) qs = true ∧ Elm.alike op ds = true := by
 unfold Elm.code at h
 split at h
 ·cases h
 split at h
 ·cases h
 split at h
 ·rename_i h3; exact absurd h h3
 split at h
 ·cases h
 rename_i h4
 split at h
 ·cases h
 rename_i h5
 exact ⟨by simpa using h5, by simpa using h4⟩
theorem Qua.req_fit (x m s z : Int) : Tens.fit false (Qua.req x m s z) = true := by
 unfold Qua.req Tens.fit
 rw [if_neg (by decide), decide_eq_true_eq]
 generalize Qua.down (Flt.clamp x (-2147483648) 2147483647 * Flt.clamp m 0 2147483647) (Flt.clamp s 0 62).toNat + Flt.clamp z (-128) 127 = v
 unfold Flt.clamp
 split <;> split <;> omega
theorem Elm.fits_val {op : Int} {qs : List Int} {u : Bool} {x y : Int} (ho : 4 ≤ op ∧ op ≤ 11) (hq : op ≤ 7 → qs = []) (hm : Elm.may op u qs = true) (h11 : op = 11 → u = false) (hx : Tens.fit u x = true) (hy : Tens.fit u y = true) : Tens.fit (Elm.wide op u) (Elm.val op u x y qs) = true := by
 by_cases h7 : op ≤ 7
 ·rw [hq h7]
  have e : Elm.wide op u = u := by
   unfold Elm.wide
   rw [show (op == 11) = false by simp; omega, show (op != 10) = true by simp; omega]
   simp
  rw [e]
  exact Elm.fit_two op u x y ⟨ho.1, h7⟩ hx hy
 have : op = 8 ∨ op = 9 ∨ op = 10 ∨ op = 11 := by omega
 rcases this with rfl | rfl | rfl | rfl
 ·have e : Elm.wide 8 u = u := by cases u <;> rfl
  rw [e]
  obtain ⟨A, B, h1, h2, h⟩ := Tens.fit_in u
  rw [h] at hx ⊢
  show A ≤ max x 0 ∧ max x 0 ≤ B
  omega
 ·have e : Elm.wide 9 u = u := by cases u <;> rfl
  rw [e]
  have hm : (decide (qs.getD 0 0 ≤ qs.getD 1 0) && Tens.fit u (qs.getD 0 0) && Tens.fit u (qs.getD 1 0)) = true := hm
  rw [Bool.and_eq_true, Bool.and_eq_true, decide_eq_true_eq] at hm
  obtain ⟨A, B, h1, h2, h⟩ := Tens.fit_in u
  rw [h, h] at hm
  rw [h] at hx ⊢
  show A ≤ max (qs.getD 0 0) (min x (qs.getD 1 0)) ∧ max (qs.getD 0 0) (min x (qs.getD 1 0)) ≤ B
  generalize qs.getD 0 0 = q0 at hm ⊢
  generalize qs.getD 1 0 = q1 at hm ⊢
  omega
 ·have e : Elm.wide 10 u = false := by cases u <;> rfl
  rw [e]
  exact Qua.req_fit _ _ _ _
 ·have e : Elm.wide 11 u = true := by cases u <;> rfl
  rw [e]
  obtain rfl := h11 rfl
  have hm : Tens.fit false (qs.getD 0 0) = true := hm
  unfold Tens.fit at hm hx ⊢
  rw [if_neg (by decide), decide_eq_true_eq] at hm hx
  rw [if_pos rfl, decide_eq_true_eq]
  show -2147483648 ≤ IntKind.i64.wrap (x - qs.getD 0 0) ∧ IntKind.i64.wrap (x - qs.getD 0 0) ≤ 2147483647
  rw [IntKind.wrap_i64]
  omega
theorem Elm.fits {op : Int} {qs : List Int} {ts : List Ten} {a b : Ten} (hc : Elm.code op qs (ts.map Ten.look) = 0) (hts : (ts = [a] ∧ b = a) ∨ (ts = [a, b] ∧ a.zs = b.zs ∧ a.u = b.u)) (hfa : a.fault = (0, none)) (hfb : b.fault = (0, none)) (n : Nat) :
  ∀ z ∈ Elm.part op a.u qs a.ds b.ds 0 n, Tens.fit (Elm.kind op qs (ts.map Ten.look)) z = true := by
 obtain ⟨ho, hql, -⟩ := Elm.code_zero hc
 obtain ⟨hm, ha⟩ := Elm.code_may hc
 have hh : (((ts.map Ten.look).head?.map (·.u)).getD false) = a.u := by rcases hts with ⟨rfl, -⟩ | ⟨rfl, -, -⟩ <;> rfl
 have hu : b.u = a.u := by
  rcases hts with ⟨-, rfl⟩ | ⟨-, -, h⟩
  ·rfl
  ·exact h.symm
 have hk : Elm.kind op qs (ts.map Ten.look) = Elm.wide op a.u := by
  unfold Elm.kind
  rw [if_pos hc, hh]
 rw [hh] at hm
 rw [hk]
 have h7 : op ≤ 7 → qs = [] := fun h => by
  have : qs.length = 0 := by rw [hql]; unfold Elm.nargs; rw [if_neg (by omega), if_neg (by omega), if_neg (by omega)]
  exact List.length_eq_zero_iff.1 this
 have h11 : op = 11 → a.u = false := fun h => by
  subst h
  rcases hts with ⟨rfl, -⟩ | ⟨rfl, -, -⟩
  ·have h : (!a.u) = true := ha
   cases hu2 : a.u
   ·rfl
   ·rw [hu2] at h; cases h
  ·have h := hql
   have hn : ([a, b].map Ten.look).length = Elm.nins 11 := Classical.byContradiction fun h => by
    unfold Elm.code at hc
    split at hc
    ·cases hc
    ·rw [if_pos (.inl h)] at hc
     cases hc
   cases hn
 exact Elm.part_fits fun i => Elm.fits_val ho h7 hm h11 (Elm.fit_get (Tens.whole hfa).2.2 i) (Elm.fit_get (by rw [← hu]; exact (Tens.whole hfb).2.2) i)
theorem Mat.fits (xs ys : List Int) (za zb : Int) (K N f m : Nat) : ∀ z ∈ Mat.part xs ys za zb K N f m, Tens.fit true z = true := by
 intro z hz
 unfold Mat.part at hz
 obtain ⟨i, -, rfl⟩ := List.mem_map.1 hz
 exact Tens.fit_wide_any _
theorem Cv.fits (c : Cv) (xs ks : List Int) (f m : Nat) : ∀ z ∈ c.part xs ks f m, Tens.fit true z = true := by
 intro z hz
 unfold Cv.part at hz
 obtain ⟨i, -, rfl⟩ := List.mem_map.1 hz
 exact Tens.fit_wide_any _
theorem Mat.turn_fits {ds : List Int} {u : Bool} (h : ∀ z ∈ ds, Tens.fit u z = true) (m n f k : Nat) : ∀ z ∈ Mat.turn ds m n f k, Tens.fit u z = true := by
 intro z hz
 unfold Mat.turn at hz
 obtain ⟨i, -, rfl⟩ := List.mem_map.1 hz
 exact Elm.fit_get h _
theorem Pl.add_in (f : Nat → Int) (A B : Int) (k : Nat) (h : ∀ i, A ≤ f i ∧ f i ≤ B) : A * k ≤ Pl.add f k ∧ Pl.add f k ≤ B * k := by
 induction k with
 | zero => simp [Pl.add]
 | succ k ih =>
  have h1 := h k
  show A * ((k + 1 : Nat) : Int) ≤ Pl.add f k + f k ∧ Pl.add f k + f k ≤ B * ((k + 1 : Nat) : Int)
  rw [Int.natCast_add, Int.mul_add, Int.mul_add]
  omega
theorem Pl.mean_in (s A B : Int) (n : Nat) (hn : 1 ≤ n) (h : A * n ≤ s ∧ s ≤ B * n) : A ≤ Pl.mean s n ∧ Pl.mean s n ≤ B := by
 unfold Pl.mean
 refine ⟨?_, ?_⟩
 ·rw [Int.le_ediv_iff_mul_le (by omega), show A * (2 * (n : Int)) = 2 * (A * n) by rw [Int.mul_left_comm]]
  omega
 ·refine Int.lt_add_one_iff.1 ?_
  rw [Int.ediv_lt_iff_lt_mul (by omega), Int.add_mul, show B * (2 * (n : Int)) = 2 * (B * n) by rw [Int.mul_left_comm]]
  omega
theorem Pl.fits {c : Pl} (hs : 1 ≤ c.s) (avg : Bool) {xs : List Int} {u : Bool} (h : ∀ z ∈ xs, Tens.fit u z = true) (f m : Nat) : ∀ z ∈ c.part avg xs f m, Tens.fit u z = true := by
 intro z hz
 unfold Pl.part at hz
 obtain ⟨i, -, rfl⟩ := List.mem_map.1 hz
 obtain ⟨A, B, h1, h2, hf⟩ := Tens.fit_in u
 have hv : ∀ k, A ≤ c.v xs (c.at (f + i)) k ∧ c.v xs (c.at (f + i)) k ≤ B := fun k => (hf _).1 (Elm.fit_get h _)
 rw [hf]
 unfold Pl.el
 split
 ·exact Pl.mean_in _ A B _ (Nat.mul_pos hs hs) (Pl.add_in _ A B _ hv)
 ·exact Pl.top_le _ A B _ (hv 0) (fun i _ => hv i)
theorem Sf.get_row (xs : List Int) (n i j : Nat) : (Sf.row xs n i).getD j 0 = xs.getD (i * n + j) 0 ∨ (Sf.row xs n i).getD j 0 = 0 := by
 rcases Nat.lt_or_ge j n with h | h
 ·refine .inl ?_
  rw [List.getD_eq_getElem?_getD, Sf.row_at _ _ _ _ h, ← List.getD_eq_getElem?_getD]
 ·refine .inr ?_
  rw [List.getD_eq_getElem?_getD, List.getElem?_eq_none (by unfold Sf.row; rw [List.length_take]; omega)]
  rfl
theorem Sf.wt_pos (ts : List Int) (k : Nat) : 0 ≤ Sf.wt ts k := by unfold Sf.wt; omega
theorem Pl.add_term (f : Nat → Int) (h : ∀ i, 0 ≤ f i) (k j : Nat) (hj : j < k) : f j ≤ Pl.add f k ∧ 0 ≤ Pl.add f k := by
 induction k with
 | zero => omega
 | succ k ih =>
  have hk := h k
  have h0 : ∀ m, 0 ≤ Pl.add f m := fun m => by
   induction m with
   | zero => exact Int.le_refl _
   | succ m im => have := h m; show 0 ≤ Pl.add f m + f m; omega
  have h1 := h0 k
  show f j ≤ Pl.add f k + f k ∧ 0 ≤ Pl.add f k + f k
  by_cases e : j = k
  ·subst e; omega
  ·have := (ih (by omega)).1; omega
theorem Sf.of_in {s w : Int} (hw : 0 ≤ w) (hs : w ≤ s) : -128 ≤ Sf.of s w ∧ Sf.of s w ≤ 127 := by
 unfold Sf.of
 split
 ·omega
 ·have h1 : 0 ≤ (255 * w + s / 2) / s := Int.ediv_nonneg (by omega) (by omega)
  have h2 : (255 * w + s / 2) / s < 256 := by
   rw [Int.ediv_lt_iff_lt_mul (by omega)]
   omega
  omega
theorem Sf.soft_in (xs ts : List Int) (n i : Nat) : -128 ≤ Sf.soft xs ts n i ∧ Sf.soft xs ts n i ≤ 127 := by
 unfold Sf.soft
 rcases Nat.eq_zero_or_pos n with h | h
 ·subst h
  have e : Sf.all (Sf.row xs 0 (i / 0)) ts 0 0 = 0 := rfl
  rw [e]
  unfold Sf.of
  rw [if_pos rfl]
  omega
 ·exact Sf.of_in (Sf.wt_pos _ _) (Pl.add_term (fun j => Sf.wt ts (Sf.by_ (Sf.row xs n (i / n)) n j)) (fun j => Sf.wt_pos _ _) n (i % n) (Nat.mod_lt _ h)).1
theorem Sf.fits {op : Int} (hop : Sf.isOp op) {ts : List Ten} (hd : ∀ t ∈ ts, t.ds.length ≤ t.dcap) (hF : Cel.fault ts (Sf.code op (ts.map Ten.look)) = (0, none)) : ∀ z ∈ Sf.ds op ts, Tens.fit (Sf.kind op (ts.map Ten.look)) z = true := by
 intro z hz
 unfold Sf.ds Sf.part at hz
 obtain ⟨i, -, rfl⟩ := List.mem_map.1 hz
 obtain ⟨hf, hn, -⟩ := Sf.zero hF
 rcases hop with rfl | rfl | rfl | rfl
 ·match ts, hn with
  | [a, b], _ =>
   obtain ⟨-, -, -, -, -, -, hk, -⟩ := Sf.fine_soft a b (hd a (by simp)) hF
   rw [hk]
   exact Sf.fitn (Sf.soft_in a.ds b.ds (Sf.last a) (0 + i))
 ·match ts, hn with
  | [a, b], _ =>
   obtain ⟨-, -, -, -, -, hk, -⟩ := Sf.fine_gath a b (hd a (by simp)) hF
   rw [hk]
   have hw := (Tens.whole (hf a (by simp))).2.2
   show Tens.fit a.u (Sf.gath a.ds b.ds (Sf.dim0 a) (Sf.last a) (0 + i)) = true
   unfold Sf.gath
   rcases Sf.get_row a.ds (Sf.last a) (Sf.cut (b.ds.getD ((0 + i) / Sf.last a) 0) (Sf.dim0 a)) ((0 + i) % Sf.last a) with e | e
   ·rw [e]; exact Elm.fit_get hw _
   ·rw [e]; exact Tens.fit_zero _
 ·match ts, hn with
  | [a], _ =>
   obtain ⟨-, hz, -, hk, -⟩ := Sf.fine_row 19 (.inl rfl) a (hd a (by simp)) hF
   obtain ⟨hR, -, -⟩ := Sf.rows_of (hf a (by simp)) hz (hd a (by simp))
   rw [hk]
   have h := Sf.amax_le a.ds (Sf.last a) (0 + i) ⟨hR.n1, hR.n2⟩
   exact Sf.fitw (by show -2147483648 ≤ Sf.amax a.ds (Sf.last a) (0 + i) ∧ Sf.amax a.ds (Sf.last a) (0 + i) ≤ 2147483647; omega)
 ·match ts, hn with
  | [a], _ =>
   obtain ⟨-, -, -, hk, -⟩ := Sf.fine_row 20 (.inr rfl) a (hd a (by simp)) hF
   rw [hk]
   exact Tens.fit_wide_any _
end Go.Proofs.YtgdcfjmpjhlndaaGreatDoor
namespace Go.Proofs.YtgdcfjmpjhlndaaGreatDoor
open Go.RowKit
def OpHas (op : Int) (qs : List Int) (ts : List Ten) (rs X : List Int) (Y : Bool) : Prop :=
 Op.look op qs (ts.map Ten.look) = (0, X, Y) ∧ (rs.length : Int) = Shp.elems X ∧ Shp.code X = 0 ∧ (∀ z ∈ rs, Tens.fit Y z = true) ∧ ∀ (A B : Option Addr) (qcap cap : Nat) (w : World), Ri w A qs → Row w B (ts.flatMap Ten.vals) → (∀ t ∈ ts, t.In w) → (∀ z ∈ rs, (Lit.int .i64 z).wf = true) ∧ OpOf op qs ts rs A B qcap cap w
theorem Op.known_of {op : Int} {qs : List Int} {ts : List Ten} (hf : Op.fault op qs ts = (0, none)) : Tens.first ts = (0, none) ∧ Op.known op ∧ Op.fits op qs (ts.map Ten.look) ∧ (Op.look2 op qs (ts.map Ten.look)).1 = 0 ∧ Op.look op qs (ts.map Ten.look) = Op.look2 op qs (ts.map Ten.look) := by
 obtain ⟨h1, h2⟩ := Cel.fine hf
 obtain ⟨h3, h4, h5⟩ := Op.look_zero h2
 exact ⟨h1, h3, h4, h5, Op.look_of h3 h4⟩
theorem opapply_has {op : Int} {qs : List Int} {ts : List Ten} {rs X : List Int} {Y : Bool} (h : OpHas op qs ts rs X Y) (hf : Op.fault op qs ts = (0, none)) (A B : Option Addr) (qcap cap : Nat) (ah am ar ak : Addr) (w : World) (hQ : Ri w A qs) (hql : qs.length ≤ 1000000) (hR : Row w B (ts.flatMap Ten.vals)) (hI : ∀ t ∈ ts, t.In w) (hnt : ts.length ≤ 1000000) (hE : E4 w ah am ar ak) (hK : Kz w) :
  Calls Tryz.prog 22 #[.int .i64 op, .slice A qs.length qcap, .slice B ts.length cap] w (OpG w X Y rs) := by
 obtain ⟨hl, hn, hX, -, hO⟩ := h
 obtain ⟨hwf, hOf⟩ := hO A B qcap cap w hQ hR hI
 have hw := Shp.whole hX
 have hle := Shp.elems_le X
 have h1 : 1 ≤ rs.length := by have := hw.2.2.1; omega
 have h := opapply_c op qs ts rs A B qcap cap ah am ar ak w hQ hql hR hI hnt hE hK (fun _ => ⟨hwf, by omega, fun P c u W hb hr => by
  rw [hl] at hr ⊢
  refine all_c X rs P c u op A B qs.length qcap ts.length cap am ar W hr (by omega) (hE.below hb).1.2 hn fun W2 hb2 => ?_
  have h4 := hOf 0 rs.length W2 h1 (by omega) (hb.trans (hb2.mono hb.size))
  rw [Nat.zero_add] at h4
  unfold Op.cut at h4
  rw [List.drop_zero, List.take_length] at h4
  exact h4⟩)
 rw [hf, hl] at h
 exact h.mono fun e w' h => h.good
theorem opelement_has {op : Int} {qs : List Int} {ts : List Ten} {rs X : List Int} {Y : Bool} (h : OpHas op qs ts rs X Y) (hf : Op.fault op qs ts = (0, none)) (i : Int) (hi1 : i ≤ 9223372036854775807) (hi2 : -9223372036854775808 ≤ i) (A B : Option Addr) (qcap cap : Nat) (ah am ar ak : Addr) (w : World) (hQ : Ri w A qs) (hql : qs.length ≤ 1000000) (hR : Row w B (ts.flatMap Ten.vals)) (hI : ∀ t ∈ ts, t.In w) (hnt : ts.length ≤ 1000000) (hE : E4 w ah am ar ak) (hK : Kz w) :
  Calls Tryz.prog 32 #[.int .i64 op, .slice A qs.length qcap, .int .i64 i, .slice B ts.length cap] w fun e w' => e = .returned (.int .i64 (Op.at rs i)) ∧ Below w.heap.size w w' := by
 obtain ⟨hl, hn, hX, -, hO⟩ := h
 obtain ⟨-, hOf⟩ := hO A B qcap cap w hQ hR hI
 have hw := Shp.whole hX
 exact opelement_good op qs ts rs X Y hl hf hn (by omega) i hi1 hi2 A B qcap cap ah am ar ak w hQ hql hR hI hnt hE hK (fun k W hk hb => hOf.one k W hk hb)
end Go.Proofs.YtgdcfjmpjhlndaaGreatDoor
