/-
  Operations one behind the other: what the law OpMixes goes through. By an AI agent. No person has read it.
-/
import Derived.Test.YtgdcfjmpjhlndaaDoorOpM
import Derived.Test.YtgdcfjmpjhlndaaDoorElmScales
import Derived.Test.YtgdcfjmpjhlndaaDoorSftG
namespace Go.Proofs.YtgdcfjmpjhlndaaDoor
open Go.RowKit

/-- op.Apply of a lawful operation of one, element by element. -/
theorem opapply_one (op : Int) (ho : 8 ≤ op ∧ op ≤ 11) (qs : List Int) {a : Ten} (h : a.fault = (0, none)) (n : Nat) (hn : qs.length = n) (hq : n = Elm.nargs op) (hm : Elm.may op a.u qs = true) (h10 : op = 10 → a.u = true) (h11 : op = 11 → a.u = false) (A B : Option Addr) (qcap cap : Nat) (ah am ar ak : Addr) (w : World) (hQ : Ri w A qs) (hR : Row w B ([a].flatMap Ten.vals)) (ha : a.In w) (hE : E4 w ah am ar ak) (hK : Kz w) :
    Calls Tryd.prog 28 #[.int .i64 op, .slice A n qcap, .slice B 1 cap] w (OpG w a.zs (Elm.wide op a.u) (Elm.part op a.u qs a.ds a.ds 0 a.ds.length)) := by
  subst hn
  obtain ⟨h1, h2, h3, h4⟩ := Elm.one_gen op ho qs h hq hm h10 h11
  have hf : Tens.first [a] = (0, none) := Tens.first_none _ (fun j t ht => by
    match j, ht with
    | 0, ht => cases ht; exact h)
  have hc : Elm.code op qs ([a].map Ten.look) = 0 := by
    unfold Elm.fault at h1
    rw [if_pos hf] at h1
    exact congrArg Prod.fst h1
  have h := opapply_elm op qs [a] hc hf A B qcap cap ah am ar ak w hQ hR (fun t ht => by rw [List.mem_singleton.1 ht]; exact ha) hE hK
  rw [h2, h3, h4] at h
  exact h
/-- op.Apply of a lawful operation of two, element by element. -/
theorem opapply_two (op : Int) (ho : 4 ≤ op ∧ op ≤ 7) {a b : Ten} (h : Elm.Pair a b) (B : Option Addr) (cap : Nat) (ah am ar ak : Addr) (w : World) (hR : Row w B ([a, b].flatMap Ten.vals)) (ha : a.In w) (hb : b.In w) (hE : E4 w ah am ar ak) (hK : Kz w) :
    Calls Tryd.prog 28 #[.int .i64 op, .slice none 0 0, .slice B 2 cap] w (OpG w a.zs a.u (Elm.part op a.u [] a.ds b.ds 0 a.ds.length)) := by
  obtain ⟨h1, h2, h3, h4⟩ := Elm.two_is op ho h
  have hf : Tens.first [a, b] = (0, none) := Tens.first_none _ (fun j t ht => by
    match j, ht with
    | 0, ht => cases ht; exact h.fa
    | 1, ht => cases ht; exact h.fb)
  have hc : Elm.code op [] ([a, b].map Ten.look) = 0 := by
    unfold Elm.fault at h1
    rw [if_pos hf] at h1
    exact congrArg Prod.fst h1
  have h := opapply_elm op [] [a, b] hc hf none B 0 cap ah am ar ak w (Ri.nil _ _) hR (fun t ht => by
    simp only [List.mem_cons, List.not_mem_nil, or_false] at ht
    rcases ht with rfl | rfl
    · exact ha
    · exact hb) hE hK
  rw [h2, h3, h4] at h
  exact h
/-- op.Apply of a lawful product. -/
theorem opapply_prod {a b : Ten} {M K N : Nat} {za zb : Int} (ha : Mat.Is a M K false) (hb : Mat.Is b K N false) (h1 : 1 ≤ M ∧ M ≤ 100) (h2 : 1 ≤ K ∧ K ≤ 100) (h3 : 1 ≤ N ∧ N ≤ 100) (hza : -128 ≤ za ∧ za ≤ 127) (hzb : -128 ≤ zb ∧ zb ≤ 127) (A B : Option Addr) (qcap cap : Nat) (ah am ar ak : Addr) (w : World) (hQ : Ri w A [za, zb]) (hR : Row w B ([a, b].flatMap Ten.vals)) (ia : a.In w) (ib : b.In w) (hE : E4 w ah am ar ak) (hK : Kz w) :
    Calls Tryd.prog 28 #[.int .i64 12, .slice A 2 qcap, .slice B 2 cap] w (OpG w [(M : Int), (N : Int)] true (Mat.part a.ds b.ds za zb K N 0 (M * N))) := by
  obtain ⟨e1, e2, e3, e4⟩ := Mat.prod_ok ha hb h1 h2 h3 hza hzb
  have h := opapply_mat za zb a b e1 A B qcap cap ah am ar ak w hQ hR ia ib hE hK
  rw [e2, e3, e4] at h
  exact h
/-- op.Apply of the sums of rows. -/
theorem opapply_sum {a : Ten} (fa : a.fault = (0, none)) (hz : 0 < a.zs.length) (hd : a.ds.length ≤ a.dcap) (B : Option Addr) (cap : Nat) (ah am ar ak : Addr) (w : World) (hR : Row w B ([a].flatMap Ten.vals)) (ia : a.In w) (hE : E4 w ah am ar ak) (hK : Kz w) :
    Calls Tryd.prog 28 #[.int .i64 20, .slice none 0 0, .slice B 1 cap] w (OpG w a.zs.dropLast true (Sf.part (Sf.sum a.ds (Sf.last a)) 0 (Shp.prod a.zs.dropLast).toNat)) := by
  have hF := Sf.good_row (op := 20) (.inr rfl) fa hz hd
  obtain ⟨-, -, h1, h2, h3⟩ := Sf.fine_row 20 (.inr rfl) a hd hF
  have h := opapply_soft 20 (.inr (.inr (.inr rfl))) [a] hF (fun t ht => by rw [List.mem_singleton.1 ht]; exact hd) B cap ah am ar ak w hR (fun t ht => by rw [List.mem_singleton.1 ht]; exact ia) (by simp) hE hK
  have e : Sf.ds 20 [a] = Sf.part (Sf.sum a.ds (Sf.last a)) 0 (Shp.prod a.zs.dropLast).toNat := by
    unfold Sf.ds
    rw [h3]
    unfold Sf.part
    refine List.map_congr_left (fun i _ => ?_)
    show (if (20 : Int) = 19 then Sf.amax a.ds (Sf.last a) (0 + i) else Sf.sum a.ds (Sf.last a) (0 + i)) = _
    rw [if_neg (by decide)]
  rw [h1, h2, e] at h
  exact h
/-- A column turned is a row. -/
theorem Mat.turn_col (ds : List Int) (n : Nat) (h : ds.length = n) : Mat.turn ds n 1 0 (1 * n) = ds := by
  refine List.ext_getElem? fun i => ?_
  rcases Nat.lt_or_ge i n with hi | hi
  · rw [Mat.turn_at _ _ _ _ _ _ (by omega), Nat.zero_add, Nat.mod_eq_of_lt hi, Nat.div_eq_of_lt hi, Nat.mul_one, Nat.add_zero, List.getD_eq_getElem?_getD, List.getElem?_eq_getElem (by omega)]
    rfl
  · rw [List.getElem?_eq_none (by rw [Mat.turn_length]; omega), List.getElem?_eq_none (by omega)]
/-- Widened without a zero it has the same numbers. -/
theorem Elm.widen_none (ds : List Int) (hd : ∀ d ∈ ds, -128 ≤ d ∧ d ≤ 127) : Elm.part 11 false [0] ds ds 0 ds.length = ds := by
  refine List.ext_getElem? fun i => ?_
  rcases Nat.lt_or_ge i ds.length with hi | hi
  · rw [Elm.widen_at ds 0 (by decide) hd i _ (List.getElem?_eq_getElem hi), List.getElem?_eq_getElem hi, Int.sub_zero]
  · rw [List.getElem?_eq_none (by rw [Elm.part_length]; exact hi), List.getElem?_eq_none hi]
theorem Tens.wide_small {n : Int} (h : -2147483648 ≤ n ∧ n ≤ 2147483647) : Tens.wide n = n := by unfold Tens.wide; omega
theorem wrap_little {n : Int} (h : -2147483648 ≤ n ∧ n ≤ 2147483647) : IntKind.i64.wrap n = n := by rw [IntKind.wrap_i64]; omega
theorem mul_small {x y : Int} (hx : -128 ≤ x ∧ x ≤ 127) (hy : -128 ≤ y ∧ y ≤ 127) : -16384 ≤ x * y ∧ x * y ≤ 16384 := by
  have h : (x * y).natAbs ≤ 128 * 128 := by
    rw [Int.natAbs_mul]
    exact Nat.mul_le_mul (by omega) (by omega)
  omega
theorem Elm.get_small {xs : List Int} (h : ∀ d ∈ xs, -128 ≤ d ∧ d ≤ 127) (i : Nat) : -128 ≤ xs.getD i 0 ∧ xs.getD i 0 ≤ 127 := by
  rw [List.getD_eq_getElem?_getD]
  cases e : xs[i]? with
  | none => exact ⟨by decide, by decide⟩
  | some q => exact h q (List.mem_of_getElem? e)
/-- The sum of products is the product. -/
theorem Mix.sums (xs ys : List Int) (n : Nat) (hx : ∀ d ∈ xs, -128 ≤ d ∧ d ≤ 127) (hy : ∀ d ∈ ys, -128 ≤ d ∧ d ≤ 127) : Mat.part xs ys 0 0 n 1 0 (1 * 1) = Sf.part (Sf.sum (Elm.part 6 true [] xs ys 0 n) n) 0 1 := by
  have hd : ∀ k, k ≤ n → Mat.dot xs ys 0 0 n 1 0 0 k = Pl.add (fun j => (Sf.row (Elm.part 6 true [] xs ys 0 n) n 0).getD j 0) k := fun k => by
    induction k with
    | zero => exact fun _ => rfl
    | succ k ih =>
      intro hk
      have h1 := ih (by omega)
      have h2 : (Sf.row (Elm.part 6 true [] xs ys 0 n) n 0).getD k 0 = xs.getD k 0 * ys.getD k 0 := by
        have hm := mul_small (Elm.get_small hx k) (Elm.get_small hy k)
        rw [List.getD_eq_getElem?_getD, Sf.row_at _ _ _ _ (by omega), Nat.zero_mul, Nat.zero_add]
        unfold Elm.part
        rw [List.getElem?_map, List.getElem?_range (by omega), Option.map_some, Option.getD_some, Nat.zero_add]
        show Tens.wide (IntKind.i64.wrap (xs.getD k 0 * ys.getD k 0)) = _
        rw [wrap_little (by omega), Tens.wide_small (by omega)]
      show Mat.dot xs ys 0 0 n 1 0 0 k + (xs.getD (0 * n + k) 0 - 0) * (ys.getD (k * 1 + 0) 0 - 0) = Pl.add (fun j => (Sf.row (Elm.part 6 true [] xs ys 0 n) n 0).getD j 0) k + (Sf.row (Elm.part 6 true [] xs ys 0 n) n 0).getD k 0
      rw [h1, h2, Nat.zero_mul, Nat.zero_add, Nat.mul_one, Nat.add_zero, Int.sub_zero, Int.sub_zero]
  show [Tens.wide (Mat.dot xs ys 0 0 n 1 ((0 + 0) / 1) ((0 + 0) % 1) n)] = [Tens.wide (Pl.add (fun j => (Sf.row (Elm.part 6 true [] xs ys 0 n) n (0 + 0)).getD j 0) n)]
  rw [show ((0 + 0) / 1 : Nat) = 0 from rfl, show ((0 + 0) % 1 : Nat) = 0 from rfl, hd n (Nat.le_refl n)]
theorem Elm.part_getD (op : Int) (u : Bool) (qs ds es : List Int) (m i : Nat) (hi : i < m) : (Elm.part op u qs ds es 0 m)[i]? = some (Elm.val op u (ds.getD i 0) (es.getD i 0) qs) := by
  unfold Elm.part
  rw [List.getElem?_map, List.getElem?_range hi, Option.map_some, Nat.zero_add]
/-- The greatest of both is what is left of a clamp, and the other. -/
theorem Mix.great (xs ys : List Int) (n : Nat) (hx : ∀ d ∈ xs, -128 ≤ d ∧ d ≤ 127) (hy : ∀ d ∈ ys, -128 ≤ d ∧ d ≤ 127) :
    Elm.part 4 true [] (Elm.part 8 true [] (Elm.part 5 true [] xs ys 0 n) (Elm.part 5 true [] xs ys 0 n) 0 n) ys 0 n = Elm.part 7 false [] xs ys 0 n := by
  refine List.ext_getElem? fun i => ?_
  rcases Nat.lt_or_ge i n with hi | hi
  · have h1 := Elm.get_small hx i
    have h2 := Elm.get_small hy i
    rw [Elm.part_getD _ _ _ _ _ _ _ hi, Elm.part_getD _ _ _ _ _ _ _ hi]
    simp only [List.getD_eq_getElem?_getD, Elm.part_getD _ _ _ _ _ _ _ hi, Option.getD_some]
    simp only [← List.getD_eq_getElem?_getD]
    generalize xs.getD i 0 = x at h1 ⊢
    generalize ys.getD i 0 = y at h2 ⊢
    show some (Tens.wide (IntKind.i64.wrap (max (Tens.wide (IntKind.i64.wrap (x - y))) 0 + y))) = some (max x y)
    rw [wrap_little (n := x - y) (by omega), Tens.wide_small (n := x - y) (by omega), wrap_little (n := max (x - y) 0 + y) (by omega), Tens.wide_small (n := max (x - y) 0 + y) (by omega)]
    congr 1
    omega
  · rw [List.getElem?_eq_none (by rw [Elm.part_length]; exact hi), List.getElem?_eq_none (by rw [Elm.part_length]; exact hi)]
theorem Tens.fit_wide_any (n : Int) : Tens.fit true (Tens.wide n) = true := by
  unfold Tens.fit
  rw [if_pos rfl]
  exact decide_eq_true (by unfold Tens.wide; omega)
theorem Tens.fit_narrow_any (n : Int) : Tens.fit false (Tens.narrow n) = true := by
  unfold Tens.fit
  rw [if_neg (by decide)]
  exact decide_eq_true (by unfold Tens.narrow; omega)
theorem Tens.fit_zero (u : Bool) : Tens.fit u 0 = true := by cases u <;> decide
theorem Elm.fit_get {u : Bool} {xs : List Int} (h : ∀ d ∈ xs, Tens.fit u d = true) (i : Nat) : Tens.fit u (xs.getD i 0) = true := by
  rw [List.getD_eq_getElem?_getD]
  cases e : xs[i]? with
  | none => exact Tens.fit_zero u
  | some q => exact h q (List.mem_of_getElem? e)
theorem Elm.fit_two (op : Int) (u : Bool) (x y : Int) (ho : 4 ≤ op ∧ op ≤ 7) (hx : Tens.fit u x = true) (hy : Tens.fit u y = true) : Tens.fit u (Elm.val op u x y []) = true := by
  have hk : ∀ n, Tens.fit u (Elm.kept u n) = true := fun n => by
    unfold Elm.kept
    cases u
    · rw [if_neg (by decide)]; exact Tens.fit_narrow_any n
    · rw [if_pos rfl]; exact Tens.fit_wide_any n
  unfold Elm.val
  rw [if_neg (by omega), if_neg (by omega), if_neg (by omega), if_neg (by omega)]
  unfold Elm.bin
  split
  · exact hk _
  · split
    · exact hk _
    · split
      · exact hk _
      · rcases Int.le_total x y with h | h
        · rw [Int.max_eq_right h]; exact hy
        · rw [Int.max_eq_left h]; exact hx
theorem Elm.part_fits {op : Int} {u v : Bool} {qs ds es : List Int} {n : Nat} (h : ∀ i, Tens.fit v (Elm.val op u (ds.getD i 0) (es.getD i 0) qs) = true) : ∀ z ∈ Elm.part op u qs ds es 0 n, Tens.fit v z = true := by
  intro z hz
  unfold Elm.part at hz
  obtain ⟨i, -, rfl⟩ := List.mem_map.1 hz
  exact h _
theorem Mix.two {t a b : Ten} {n : Nat} {u : Bool} (op : Int) (ho : 4 ≤ op ∧ op ≤ 7) (ia : Mat.Is a 1 n u) (ib : Mat.Is b 1 n u) (hz : t.zs = a.zs) (hu : t.u = a.u) (hd : t.ds = Elm.part op a.u [] a.ds b.ds 0 a.ds.length) : Mat.Is t 1 n u ∧ t.ds = Elm.part op u [] a.ds b.ds 0 n := by
  have hl : a.ds.length = n := by rw [ia.len, Nat.one_mul]
  rw [hl, ia.hu] at hd
  exact ⟨⟨hz.trans ia.zs, hu.trans ia.hu, by rw [hd, Elm.part_length, Nat.one_mul], by rw [hd]; exact Elm.part_fits fun i => Elm.fit_two op u _ _ ho (Elm.fit_get ia.ft i) (Elm.fit_get ib.ft i)⟩, hd⟩
theorem Mix.relu {t a : Ten} {n : Nat} (ia : Mat.Is a 1 n true) (hz : t.zs = a.zs) (hu : t.u = Elm.wide 8 a.u) (hd : t.ds = Elm.part 8 a.u [] a.ds a.ds 0 a.ds.length) : Mat.Is t 1 n true ∧ t.ds = Elm.part 8 true [] a.ds a.ds 0 n := by
  have hl : a.ds.length = n := by rw [ia.len, Nat.one_mul]
  rw [hl, ia.hu] at hd
  have hf : ∀ x, Tens.fit true x = true → Tens.fit true (max x 0) = true := fun x h1 => by
    rcases Int.le_total x 0 with h | h
    · rw [Int.max_eq_right h]; exact Tens.fit_zero true
    · rw [Int.max_eq_left h]; exact h1
  exact ⟨⟨hz.trans ia.zs, by rw [hu, ia.hu]; rfl, by rw [hd, Elm.part_length, Nat.one_mul], by rw [hd]; exact Elm.part_fits fun i => hf _ (Elm.fit_get ia.ft i)⟩, hd⟩
theorem Mix.widen {t a : Ten} {n : Nat} (ia : Mat.Is a 1 n false) (hz : t.zs = a.zs) (hu : t.u = Elm.wide 11 a.u) (hd : t.ds = Elm.part 11 a.u [0] a.ds a.ds 0 a.ds.length) : Mat.Is t 1 n true ∧ t.ds = a.ds := by
  have h2 : t.ds = a.ds := by
    rw [hd, ia.hu]
    exact Elm.widen_none _ ia.small
  refine ⟨⟨hz.trans ia.zs, by rw [hu, ia.hu]; rfl, by rw [h2]; exact ia.len, by rw [h2]; exact fun z hz => Sf.fitw (by have := ia.small z hz; omega)⟩, h2⟩
theorem Mix.pair {a b : Ten} {n : Nat} {u : Bool} (h1 : 1 ≤ n) (h2 : n ≤ 100) (ia : Mat.Is a 1 n u) (ib : Mat.Is b 1 n u) : Elm.Pair a b :=
  ⟨ia.fault (by decide) (by decide) h1 h2, ib.fault (by decide) (by decide) h1 h2, ia.zs.trans ib.zs.symm, ia.hu.trans ib.hu.symm⟩
theorem Mix.sum {t a : Ten} {n : Nat} (ia : Mat.Is a 1 n true) (hd : t.ds = Sf.part (Sf.sum a.ds (Sf.last a)) 0 (Shp.prod a.zs.dropLast).toNat) : t.ds = Sf.part (Sf.sum a.ds n) 0 1 := by
  have hl : Sf.last a = n := by
    unfold Sf.last
    rw [ia.zs]
    rfl
  rw [hd, hl, ia.zs]
  rfl
/-- Two values that are no slices of one block. -/
def Apart2 (u v : Value) : Prop := ∀ k, u.ownBlock = some k → v.ownBlock ≠ some k
theorem Apart2.swap {u v : Value} (h : Apart2 u v) : Apart2 v u := fun k hk hj => h k hj hk
theorem own_other {w w' : World} {base m : Nat} {e : TypeId} {s : Nat} {u v : Value} {ys : List Value} (h : w.ownsRow base e s v m ys) (hg : w.grownBy w' u.ownBlock) (hd : Apart2 u v) : w'.ownsRow base e s v m ys := by
  refine ⟨h.1, ?_⟩
  rcases h.2 with h2 | ⟨g, cap, cur, rfl, h2, h3, h4⟩
  · exact .inl h2
  · refine .inr ⟨g, cap, cur, rfl, h2, ?_, h4⟩
    rw [hg.block g (Array.getElem?_eq_some_iff.1 h3).1 (fun e => hd g e.symm rfl)]
    exact h3
theorem Apart2.new {w : World} {base m : Nat} {e : TypeId} {s : Nat} {u u' v : Value} {ys : List Value} (h : Apart2 u v) (ho : w.ownsRow base e s v m ys) (hn : u'.ownBlock = u.ownBlock ∨ u'.ownBlock = some w.heap.size) : Apart2 u' v := by
  intro k hk hv
  rcases hn with hn | hn
  · exact h k (hn ▸ hk) hv
  · have h1 := (ho.lt k hv).2
    rw [hn] at hk
    have := Option.some.inj hk
    omega
end Go.Proofs.YtgdcfjmpjhlndaaDoor
