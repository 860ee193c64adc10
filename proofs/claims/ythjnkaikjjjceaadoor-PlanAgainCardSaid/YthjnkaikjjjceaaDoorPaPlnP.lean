/-
  Bytes that are read as a plan are just its bytes. By an AI agent. No person has read it.
-/
import Derived.Test.YthjnkaikjjjceaaDoorPaPlnO
import Derived.Test.YthjnkaikjjjceaaDoorPaTenRi
namespace Go.Proofs.YthjnkaikjjjceaaDoor
open Go.RowKit
/-- Behind a step without an error: just these bytes were read. -/
def Rs.Ok (bs : List Nat) (s s' : Rs) (ys : List Nat) : Prop := s'.e = none → s.e = none ∧ bs.take s'.at_ = bs.take s.at_ ++ ys
theorem Rs.Ok.refl (bs : List Nat) (s : Rs) : Rs.Ok bs s s [] := fun h => ⟨h, by simp⟩
theorem Rs.Ok.then_ {bs : List Nat} {s t u : Rs} {ys zs : List Nat} (h : Rs.Ok bs s t ys) (k : Rs.Ok bs t u zs) : Rs.Ok bs s u (ys ++ zs) := fun hu => by
  obtain ⟨h1, h2⟩ := k hu
  obtain ⟨h3, h4⟩ := h h1
  exact ⟨h3, by rw [h2, h4, List.append_assoc]⟩
theorem Rs.Ok.of {bs : List Nat} {s t : Rs} {ys zs : List Nat} (h : Rs.Ok bs s t ys) (e : t.e = none → ys = zs) : Rs.Ok bs s t zs := fun ht => by
  obtain ⟨h1, h2⟩ := h ht
  exact ⟨h1, by rw [h2, e ht]⟩
theorem Rs.piece_ok (bs : List Nat) (n : Nat) (s : Rs) : Rs.Ok bs s (s.piece bs n).2 (s.piece bs n).1 := by
  intro h
  obtain ⟨at_, e⟩ := s
  unfold Rs.piece at h ⊢
  match e with
  | none =>
    dsimp only at h ⊢
    split
    · rename_i hl
      exact ⟨rfl, (take_cut bs at_ (at_ + n) (by omega)).symm⟩
    · rename_i hl
      rw [if_neg hl] at h
      cases h
  | some x => cases h
theorem Rs.piece_full (bs : List Nat) (n : Nat) (s : Rs) (h : (s.piece bs n).2.e = none) : (s.piece bs n).1.length = n := by
  obtain ⟨at_, e⟩ := s
  unfold Rs.piece at h ⊢
  match e with
  | none =>
    dsimp only at h ⊢
    split
    · rename_i hl
      rw [List.length_drop, List.length_take]
      omega
    · rename_i hl
      rw [if_neg hl] at h
      cases h
  | some x => cases h
theorem Pk.le_cons (k N : Nat) : Pk.le (k + 1) N = N % 256 :: Pk.le k (N / 256) := by
  unfold Pk.le
  rw [List.range_succ_eq_map, List.map_cons, List.map_map]
  congr 1
  · simp
  · refine List.map_congr_left fun j _ => ?_
    show N / 256 ^ (j + 1) % 256 = N / 256 / 256 ^ j % 256
    rw [Nat.pow_succ, Nat.mul_comm, Nat.div_div_eq_div_mul]
theorem Pk.le_val (cs : List Nat) (h : ∀ b ∈ cs, b < 256) : Pk.le cs.length (Pk.val cs) = cs := by
  induction cs with
  | nil => rfl
  | cons b l ih =>
    have h1 := h b (List.mem_cons_self ..)
    rw [List.length_cons, Pk.le_cons]
    show (b + 256 * Pk.val l) % 256 :: Pk.le l.length ((b + 256 * Pk.val l) / 256) = b :: l
    rw [show (b + 256 * Pk.val l) % 256 = b by omega, show (b + 256 * Pk.val l) / 256 = Pk.val l by omega, ih fun y hy => h y (List.mem_cons_of_mem _ hy)]
theorem Rs.number_ok (bs : List Nat) (hb : ∀ b ∈ bs, b < 256) (k : Nat) (s : Rs) : Rs.Ok bs s (s.number bs k).2 (Pk.le k (s.number bs k).1) :=
  (Rs.piece_ok bs k s).of fun h => by
    have h1 := Pk.le_val (s.piece bs k).1 (Rs.piece_lt bs k s hb)
    rw [Rs.piece_full bs k s h] at h1
    exact h1.symm
theorem Pk.le_mod (k : Nat) : ∀ N : Nat, Pk.le k (N % 256 ^ k) = Pk.le k N := by
  induction k with
  | zero => intro N; rfl
  | succ k ih =>
    intro N
    have hp : 256 ^ (k + 1) = 256 * 256 ^ k := by rw [Nat.pow_succ, Nat.mul_comm]
    rw [Pk.le_cons, Pk.le_cons, hp, Nat.mod_mul_right_mod, Nat.mod_mul_right_div_self, ih]
theorem Pk.num_wide (v : Nat) (h : v < 4294967296) : Pk.num (Tens.wide (v : Int)) % 256 ^ 4 = v := by
  have hp : (256 : Nat) ^ 4 = 4294967296 := by decide
  rw [hp]
  rcases Nat.lt_or_ge v 2147483648 with h1 | h1
  · have hw : Tens.wide (v : Int) = (v : Int) := by unfold Tens.wide; omega
    have hn : Pk.num (v : Int) = v := by unfold Pk.num; omega
    rw [hw, hn, Nat.mod_eq_of_lt h]
  · have hw : Tens.wide (v : Int) = (v : Int) - 4294967296 := by unfold Tens.wide; omega
    have hn : Pk.num ((v : Int) - 4294967296) = v + 18446744069414584320 := by unfold Pk.num; omega
    rw [hw, hn]
    omega
theorem Pk.le4_wide (v : Nat) (h : v < 4294967296) : Pk.le 4 (Pk.num (Tens.wide (v : Int))) = Pk.le 4 v := by
  rw [← Pk.le_mod 4 (Pk.num (Tens.wide (v : Int))), Pk.num_wide v h]
theorem Rs.signed_ok (bs : List Nat) (hb : ∀ b ∈ bs, b < 256) (s : Rs) : Rs.Ok bs s (s.signed bs).2 (Pk.le 4 (Pk.num (s.signed bs).1)) :=
  (Rs.number_ok bs hb 4 s).of fun _ => (Pk.le4_wide _ (Rs.number_lt bs 4 s hb (by omega))).symm
theorem Rs.fail_e (s : Rs) (x : Option Nat × Nat) : (s.fail x).e ≠ none := by
  obtain ⟨at_, e⟩ := s
  cases e with
  | none => exact fun h => by cases h
  | some y => exact fun h => by cases h
theorem Rs.count_ok (bs : List Nat) (hb : ∀ b ∈ bs, b < 256) (k most j : Nat) (s : Rs) : Rs.Ok bs s (s.count bs k most j).2 (Pk.le k (s.count bs k most j).1) := by
  unfold Rs.count
  split
  · exact fun h => absurd h (Rs.fail_e _ _)
  · exact Rs.number_ok bs hb k s
theorem Rs.rep_ok {α : Type} (bs : List Nat) (f : Nat → Rs → α × Rs) (g : α → List Nat) (hf : ∀ i s, Rs.Ok bs s (f i s).2 (g (f i s).1)) (n : Nat) (s : Rs) : Rs.Ok bs s (Rs.rep f n s).2 ((Rs.rep f n s).1.flatMap g) := by
  induction n with
  | zero => exact Rs.Ok.refl bs s
  | succ n ih =>
    rw [Rs.rep_succ1, Rs.rep_succ2, List.flatMap_append, List.flatMap_cons, List.flatMap_nil, List.append_nil]
    exact ih.then_ (hf n _)
theorem Rs.rep_mem {α : Type} (bs : List Nat) (f : Nat → Rs → α × Rs) (g : α → List Nat) (hf : ∀ i s, Rs.Ok bs s (f i s).2 (g (f i s).1)) (n : Nat) (s : Rs) (h : (Rs.rep f n s).2.e = none) : ∀ x ∈ (Rs.rep f n s).1, ∃ i s', x = (f i s').1 ∧ (f i s').2.e = none := by
  induction n with
  | zero => exact fun x hx => by simp [Rs.rep] at hx
  | succ n ih =>
    rw [Rs.rep_succ2] at h
    intro x hx
    rw [Rs.rep_succ1] at hx
    rcases List.mem_append.1 hx with hx | hx
    · exact ih (hf n _ h).1 x hx
    · exact ⟨n, _, List.mem_singleton.1 hx, h⟩
theorem Rs.dims_ok (bs : List Nat) (hb : ∀ b ∈ bs, b < 256) (n : Nat) (s : Rs) : Rs.Ok bs s (Rs.rep (Rs.dim bs) n s).2 (Pk.all 2 (Rs.rep (Rs.dim bs) n s).1) := by
  have h := Rs.rep_ok bs (Rs.dim bs) (fun z => Pk.le 2 (Pk.num z)) (fun i s => (Rs.number_ok bs hb 2 s).of fun _ => by
    show Pk.le 2 (s.number bs 2).1 = Pk.le 2 (Pk.num (((s.number bs 2).1 : Nat) : Int))
    have h1 := Rs.number_lt bs 2 s hb (by omega)
    rw [show Pk.num (((s.number bs 2).1 : Nat) : Int) = (s.number bs 2).1 by unfold Pk.num; omega]) n s
  rw [List.flatMap_def] at h
  exact h
theorem Rs.desc_ok (bs : List Nat) (hb : ∀ b ∈ bs, b < 256) (s : Rs) : Rs.Ok bs s (s.desc bs).2 (Pk.desc (s.desc bs).1.1 (s.desc bs).1.2) := by
  have h1 := Rs.count_le bs 1 15 2 s
  have h2 := Rs.rep_len (Rs.dim bs) ((s.count bs 1 15 2).1 % 8) (s.count bs 1 15 2).2
  refine ((Rs.count_ok bs hb 1 15 2 s).then_ (Rs.dims_ok bs hb ((s.count bs 1 15 2).1 % 8) (s.count bs 1 15 2).2)).of fun _ => ?_
  show _ = Pk.le 1 (Pk.num (Pk.head (Rs.rep (Rs.dim bs) ((s.count bs 1 15 2).1 % 8) (s.count bs 1 15 2).2).1 (decide (8 ≤ (s.count bs 1 15 2).1)))) ++ Pk.all 2 (Rs.rep (Rs.dim bs) ((s.count bs 1 15 2).1 % 8) (s.count bs 1 15 2).2).1
  congr 2
  unfold Pk.head
  rw [h2]
  by_cases h8 : 8 ≤ (s.count bs 1 15 2).1
  · rw [decide_eq_true h8, if_pos rfl]
    unfold Pk.num
    omega
  · rw [decide_eq_false h8, if_neg (by decide)]
    unfold Pk.num
    omega
theorem Rs.numbers_ok (bs : List Nat) (hb : ∀ b ∈ bs, b < 256) (s : Rs) : Rs.Ok bs s (s.numbers bs).2 (Pl.nb (s.numbers bs).1) := by
  have h2 := Rs.rep_len (Rs.num bs) (s.count bs 1 8 3).1 (s.count bs 1 8 3).2
  have h1 := Rs.count_le bs 1 8 3 s
  have h := (Rs.count_ok bs hb 1 8 3 s).then_ (Rs.rep_ok bs (Rs.num bs) (fun z => Pk.le 4 (Pk.num z)) (fun i s => Rs.signed_ok bs hb s) (s.count bs 1 8 3).1 (s.count bs 1 8 3).2)
  refine h.of fun _ => ?_
  show _ = Pk.le 1 (Pk.num (((Rs.rep (Rs.num bs) (s.count bs 1 8 3).1 (s.count bs 1 8 3).2).1.length : Nat) : Int)) ++ Pk.all 4 (Rs.rep (Rs.num bs) (s.count bs 1 8 3).1 (s.count bs 1 8 3).2).1
  rw [h2, List.flatMap_def, show Pk.num (((s.count bs 1 8 3).1 : Nat) : Int) = (s.count bs 1 8 3).1 by unfold Pk.num; omega]
  rfl
theorem Rs.instr_ok (bs : List Nat) (hb : ∀ b ∈ bs, b < 256) (i : Nat) (s : Rs) : Rs.Ok bs s (Rs.ins bs i s).2 (Rs.ins bs i s).1.bytes := by
  have h1 := Rs.number_lt bs 1 s hb (by omega)
  have h := ((((((Rs.number_ok bs hb 1 s).of (zs := Pk.le 1 (Pk.num (((s.number bs 1).1 : Nat) : Int))) fun _ => by rw [show Pk.num (((s.number bs 1).1 : Nat) : Int) = (s.number bs 1).1 by unfold Pk.num; omega]).then_ (Rs.signed_ok bs hb (s.i1 bs))).then_ (Rs.numbers_ok bs hb (s.i2 bs))).then_ (Rs.numbers_ok bs hb (s.i3 bs))).then_ (Rs.signed_ok bs hb (s.i4 bs))).then_ (Rs.signed_ok bs hb (s.i5 bs))
  exact h
theorem Rs.view_ok (bs : List Nat) (hb : ∀ b ∈ bs, b < 256) (i : Nat) (s : Rs) : Rs.Ok bs s (Rs.view bs i s).2 (Pl.vbytes (Rs.view bs i s).1) := (Rs.signed_ok bs hb s).then_ (Rs.desc_ok bs hb _)
theorem Rs.dsc_ok (bs : List Nat) (hb : ∀ b ∈ bs, b < 256) (i : Nat) (s : Rs) : Rs.Ok bs s (Rs.dsc bs i s).2 (Pl.dbytes (Rs.dsc bs i s).1) := Rs.desc_ok bs hb s
/-- The dimensions of bytes, as bytes. -/
theorem Pk.all_dims (n : Nat) (r : List Nat) (hr : ∀ b ∈ r, b < 256) (h : 1 + 2 * n ≤ r.length) : Pk.all 2 (Pk.dims n r) = (r.take (1 + 2 * n)).drop 1 := by
  induction n with
  | zero => rw [List.drop_eq_nil_of_le (by rw [List.length_take]; omega)]; rfl
  | succ n ih =>
    have hc : (((r.take (1 + 2 * n + 2)).drop (1 + 2 * n))).length = 2 := by rw [List.length_drop, List.length_take]; omega
    have h1 := Pk.le_val ((r.take (1 + 2 * n + 2)).drop (1 + 2 * n)) fun b hb => hr b (List.mem_of_mem_take (List.mem_of_mem_drop hb))
    have h2 := Pk.val_lt ((r.take (1 + 2 * n + 2)).drop (1 + 2 * n)) (fun b hb => hr b (List.mem_of_mem_take (List.mem_of_mem_drop hb))) (by omega)
    rw [hc] at h1
    rw [Pk.dims_succ, Pk.all_snoc, ih (by omega), show Pk.num (((Pk.val ((r.take (1 + 2 * n + 2)).drop (1 + 2 * n)) : Nat) : Int)) = Pk.val ((r.take (1 + 2 * n + 2)).drop (1 + 2 * n)) by unfold Pk.num; omega, h1]
    have h3 := take_cut r (1 + 2 * n) (1 + 2 * n + 2) (by omega)
    rw [show 1 + 2 * (n + 1) = 1 + 2 * n + 2 by omega]
    conv => rhs; rw [← h3]
    rw [List.drop_append_of_le_length (by rw [List.length_take]; omega)]
theorem Tens.nums1_back (cs : List Nat) (h : ∀ b ∈ cs, b < 256) : Pk.all 1 (Tens.nums1 cs) = cs := by
  induction cs with
  | nil => rfl
  | cons b l ih =>
    have h1 := h b (List.mem_cons_self ..)
    show Pk.all 1 (Tens.num1 b :: Tens.nums1 l) = b :: l
    rw [Pk.all_cons, ih fun y hy => h y (List.mem_cons_of_mem _ hy), Pk.le_cons]
    have h2 : Pk.num (Tens.num1 b) % 256 = b := by unfold Pk.num Tens.num1; split <;> omega
    rw [h2]
    rfl
theorem Tens.nums4_cons (a b c d : Nat) (l : List Nat) : Tens.nums4 (a :: b :: c :: d :: l) = Tens.wide ((a + b * 256 + c * 65536 + d * 16777216 : Nat) : Int) :: Tens.nums4 l := by
  unfold Tens.nums4
  rw [show (a :: b :: c :: d :: l).length / 4 = l.length / 4 + 1 by simp only [List.length_cons]; omega, List.range_succ_eq_map, List.map_cons, List.map_map]
  congr 1
theorem Tens.nums4_back (m : Nat) : ∀ (cs : List Nat), cs.length = 4 * m → (∀ b ∈ cs, b < 256) → Pk.all 4 (Tens.nums4 cs) = cs := by
  induction m with
  | zero =>
    intro cs hl _
    obtain rfl := List.eq_nil_of_length_eq_zero (by omega)
    rfl
  | succ m ih =>
    intro cs hl h
    match cs, hl, h with
    | a :: b :: c :: d :: l, hl, h =>
      have ha := h a (by simp)
      have hb := h b (by simp)
      have hc := h c (by simp)
      have hd := h d (by simp)
      rw [Tens.nums4_cons, Pk.all_cons, ih l (by simp at hl; omega) fun y hy => h y (by simp [hy]), Pk.le4_wide _ (by omega)]
      rw [Pk.le_cons, Pk.le_cons, Pk.le_cons, Pk.le_cons]
      rw [show (a + b * 256 + c * 65536 + d * 16777216) % 256 = a by omega, show (a + b * 256 + c * 65536 + d * 16777216) / 256 % 256 = b by omega, show (a + b * 256 + c * 65536 + d * 16777216) / 256 / 256 % 256 = c by omega, show (a + b * 256 + c * 65536 + d * 16777216) / 256 / 256 / 256 % 256 = d by omega]
      rfl
theorem Tens.nums_fit (u : Bool) (cs : List Nat) (h : ∀ b ∈ cs, b < 256) : ∀ z ∈ Tens.nums u cs, Tens.fit u z = true := by
  intro z hz
  unfold Tens.nums at hz
  unfold Tens.fit
  cases u
  · rw [if_neg (by decide)] at hz ⊢
    obtain ⟨b, hb, rfl⟩ := List.mem_map.1 hz
    exact decide_eq_true (num1_bounds b (h b hb))
  · rw [if_pos rfl] at hz ⊢
    obtain ⟨i, _, rfl⟩ := List.mem_map.1 hz
    exact decide_eq_true (Tens.wide_wf _)
/-- A tensor that is read: its bytes are just those. -/
theorem Tens.again (r : List Nat) (hr : ∀ b ∈ r, b < 256) (hk : Tens.rcode r = 0) : Tens.fault (Tens.rez r) (Tens.reu r) (Tens.red r) = (0, none) ∧ Tens.bytes (Tens.rez r) (Tens.reu r) (Tens.red r) = r.take (Tens.ren r) := by
  unfold Tens.rez Tens.reu Tens.red Tens.ren
  rw [if_pos hk, if_pos hk, if_pos hk, if_pos hk]
  match r, hr, hk with
  | [], _, hk => exact absurd hk (by unfold Tens.rcode; simp [Pk.code])
  | h :: t, hr, hk =>
    have hpk : Pk.code (h :: t) = 0 := by
      unfold Tens.rcode at hk
      by_cases hp : Pk.code (h :: t) = 0
      · exact hp
      · rw [if_pos hp] at hk
        exact absurd hk hp
    have hsc : Shp.code (Tens.rdims (h :: t)) = 0 := by
      unfold Tens.rcode at hk
      rw [if_neg (by omega)] at hk
      by_cases hp : Shp.code (Tens.rdims (h :: t)) = 0
      · exact hp
      · rw [if_pos hp] at hk
        exact absurd hk hp
    have hlen : Tens.rn (h :: t) + Tens.rs (h :: t) ≤ (h :: t).length := by
      unfold Tens.rcode at hk
      rw [if_neg (by omega), if_neg (by omega)] at hk
      by_cases hp : (h :: t).length < Tens.rn (h :: t) + Tens.rs (h :: t)
      · rw [if_pos hp] at hk
        cases hk
      · omega
    have hh : h ≤ 15 := by
      have e : Pk.code (h :: t) = if 15 < h then 103 else if t.length < 2 * (h % 8) then 105 else 0 := rfl
      rw [e] at hpk
      by_cases a : 15 < h
      · rw [if_pos a] at hpk; cases hpk
      · omega
    have hrn : Tens.rn (h :: t) = 1 + 2 * (h % 8) := rfl
    have hdl : (Tens.rdims (h :: t)).length = h % 8 := Pk.dims_length _ _
    have hdesc : Pk.desc (Tens.rdims (h :: t)) (Tens.ru (h :: t)) = (h :: t).take (Tens.rn (h :: t)) := by
      show Pk.le 1 (Pk.num (Pk.head (Tens.rdims (h :: t)) (decide (8 ≤ h)))) ++ Pk.all 2 (Pk.dims (h % 8) (h :: t)) = _
      rw [Pk.all_dims _ _ hr (by rw [← hrn]; omega), hrn]
      have hhd : Pk.num (Pk.head (Tens.rdims (h :: t)) (decide (8 ≤ h))) = h := by
        unfold Pk.head
        rw [hdl]
        by_cases h8 : 8 ≤ h
        · rw [decide_eq_true h8, if_pos rfl]; unfold Pk.num; omega
        · rw [decide_eq_false h8, if_neg (by decide)]; unfold Pk.num; omega
      rw [hhd, Pk.le_cons, show h % 256 = h by omega, show (1 + 2 * (h % 8)) = 2 * (h % 8) + 1 by omega]
      rfl
    have hcl : (((h :: t).take (Tens.rn (h :: t) + Tens.rs (h :: t))).drop (Tens.rn (h :: t))).length = Tens.rs (h :: t) := by rw [List.length_drop, List.length_take]; omega
    have hcb : ∀ b ∈ ((h :: t).take (Tens.rn (h :: t) + Tens.rs (h :: t))).drop (Tens.rn (h :: t)), b < 256 := fun b hb => hr b (List.mem_of_mem_take (List.mem_of_mem_drop hb))
    have hsz : (Tens.rs (h :: t) : Int) = Shp.size (Tens.rdims (h :: t)) (Tens.ru (h :: t)) := by
      have := (Shp.size_le (Tens.rdims (h :: t)) (Tens.ru (h :: t))).1
      unfold Tens.rs
      omega
    rw [Shp.size_eq] at hsz
    have hfit := Tens.nums_fit (Tens.ru (h :: t)) _ hcb
    have hfault : Tens.fault (Tens.rdims (h :: t)) (Tens.ru (h :: t)) (Tens.nums (Tens.ru (h :: t)) (((h :: t).take (Tens.rn (h :: t) + Tens.rs (h :: t))).drop (Tens.rn (h :: t)))) = (0, none) := by
      refine Tens.fault_none _ _ _ hsc ?_ fun j y hy => hfit y (List.mem_of_getElem? hy)
      rw [Tens.nums_length, hcl]
      cases hu : Tens.ru (h :: t)
      · rw [hu, if_neg (by decide)] at hsz
        rw [if_neg (by decide)]
        exact hsz
      · rw [hu, if_pos rfl] at hsz
        rw [if_pos rfl]
        omega
    refine ⟨hfault, ?_⟩
    unfold Tens.bytes
    rw [if_pos hfault, hdesc]
    have hall : Pk.all (Tens.each (Tens.ru (h :: t))) (Tens.nums (Tens.ru (h :: t)) (((h :: t).take (Tens.rn (h :: t) + Tens.rs (h :: t))).drop (Tens.rn (h :: t)))) = ((h :: t).take (Tens.rn (h :: t) + Tens.rs (h :: t))).drop (Tens.rn (h :: t)) := by
      unfold Tens.each Tens.nums
      cases hu : Tens.ru (h :: t)
      · rw [if_neg (by decide), if_neg (by decide)]
        exact Tens.nums1_back _ hcb
      · rw [if_pos rfl, if_pos rfl]
        rw [hu, if_pos rfl] at hsz
        have h5 := Shp.elems_le (Tens.rdims (h :: t))
        exact Tens.nums4_back (Shp.elems (Tens.rdims (h :: t))).toNat _ (by rw [hcl]; omega) hcb
    rw [hall]
    exact take_cut _ _ _ (by omega)
theorem Rs.tens_ok (bs : List Nat) (hb : ∀ b ∈ bs, b < 256) (i : Nat) (s : Rs) : Rs.Ok bs s (Rs.tens bs i s).2 (Pl.tbytes (Rs.tens bs i s).1) ∧ ((Rs.tens bs i s).2.e = none → Tens.fault (Rs.tens bs i s).1.1 (Rs.tens bs i s).1.2.1 (Rs.tens bs i s).1.2.2 = (0, none)) := by
  have hk : (Rs.tens bs i s).2.e = none → Tens.rcode (s.rest bs) = 0 := by
    intro h
    have h' : (s.took bs (Tens.ren (s.rest bs)) (Tens.rcode (s.rest bs)) i).e = none := h
    unfold Rs.took at h'
    by_cases h1 : Tens.rcode (s.rest bs) = 105
    · rw [if_pos h1] at h'
      exact absurd h' (Rs.fail_e _ _)
    · rw [if_neg h1] at h'
      by_cases h2 : Tens.rcode (s.rest bs) = 0
      · exact h2
      · rw [if_pos h2] at h'
        exact absurd h' (Rs.fail_e _ _)
  have hrb : ∀ b ∈ s.rest bs, b < 256 := by
    unfold Rs.rest
    split
    · exact fun b h => hb b (List.mem_of_mem_drop h)
    · simp
  refine ⟨fun h => ?_, fun h => (Tens.again _ hrb (hk h)).1⟩
  have hkk := hk h
  have h2 := (Tens.again _ hrb hkk).2
  have h' : (s.piece bs (Tens.ren (s.rest bs))).2.e = none := by
    have h' : (s.took bs (Tens.ren (s.rest bs)) (Tens.rcode (s.rest bs)) i).e = none := h
    rw [hkk] at h'
    exact h'
  have h3 := Rs.piece_ok bs (Tens.ren (s.rest bs)) s h'
  have hst : (Rs.tens bs i s).2 = (s.piece bs (Tens.ren (s.rest bs))).2 := by
    show s.took bs (Tens.ren (s.rest bs)) (Tens.rcode (s.rest bs)) i = _
    rw [hkk]
    rfl
  refine ⟨h3.1, ?_⟩
  rw [hst, h3.2]
  congr 1
  show _ = Tens.bytes (Tens.rez (s.rest bs)) (Tens.reu (s.rest bs)) (Tens.red (s.rest bs))
  rw [h2]
  obtain ⟨at_, e⟩ := s
  obtain rfl : e = none := h3.1
  have hfl := Rs.piece_full bs _ _ h'
  unfold Rs.piece at hfl ⊢
  dsimp only at hfl ⊢
  split
  · show (bs.take (at_ + _)).drop at_ = (bs.drop at_).take _
    rw [List.drop_take]
    congr 1
    omega
  · rename_i hn
    rw [if_neg hn] at hfl
    have : Tens.ren (Rs.rest bs ⟨at_, none⟩) = 0 := hfl.symm
    rw [this]
    rfl
theorem Pl.far_signed (bs : List Nat) (s : Rs) : Pl.far (s.signed bs).1 = false := by
  have h := Tens.wide_wf ((s.number bs 4).1 : Nat)
  unfold Pl.far
  rw [decide_eq_false_iff_not, Decidable.not_not]
  show Tens.wide (Tens.wide ((s.number bs 4).1 : Nat)) = Tens.wide ((s.number bs 4).1 : Nat)
  generalize Tens.wide ((s.number bs 4).1 : Nat) = z at *
  unfold Tens.wide
  omega
theorem Rs.dim_in (bs : List Nat) (hb : ∀ b ∈ bs, b < 256) (n : Nat) (s : Rs) : ∀ z ∈ (Rs.rep (Rs.dim bs) n s).1, Pl.dim z = false := by
  induction n with
  | zero => exact fun z hz => by simp [Rs.rep] at hz
  | succ n ih =>
    intro z hz
    rw [Rs.rep_succ1] at hz
    rcases List.mem_append.1 hz with hz | hz
    · exact ih z hz
    · rw [List.mem_singleton.1 hz]
      have h := Pk.val_lt ((Rs.rep (Rs.dim bs) n s).2.piece bs 2).1 (Rs.piece_lt bs 2 _ hb) (Rs.piece_len bs 2 _)
      unfold Pl.dim
      rw [decide_eq_false_iff_not]
      show ¬ (((Pk.val ((Rs.rep (Rs.dim bs) n s).2.piece bs 2).1 : Nat) : Int) < 0 ∨ 65535 < ((Pk.val ((Rs.rep (Rs.dim bs) n s).2.piece bs 2).1 : Nat) : Int))
      omega
theorem Rs.desc_in (bs : List Nat) (hb : ∀ b ∈ bs, b < 256) (s : Rs) : (s.desc bs).1.1.length ≤ 7 ∧ ∀ z ∈ (s.desc bs).1.1, Pl.dim z = false := by
  refine ⟨?_, Rs.dim_in bs hb _ _⟩
  show (Rs.rep (Rs.dim bs) ((s.count bs 1 15 2).1 % 8) (s.count bs 1 15 2).2).1.length ≤ 7
  rw [Rs.rep_len]
  omega
theorem Rs.num_in (bs : List Nat) (n : Nat) (s : Rs) : ∀ z ∈ (Rs.rep (Rs.num bs) n s).1, Pl.far z = false := by
  induction n with
  | zero => exact fun z hz => by simp [Rs.rep] at hz
  | succ n ih =>
    intro z hz
    rw [Rs.rep_succ1] at hz
    rcases List.mem_append.1 hz with hz | hz
    · exact ih z hz
    · rw [List.mem_singleton.1 hz]
      exact Pl.far_signed bs _
theorem Rs.op_in (bs : List Nat) (hb : ∀ b ∈ bs, b < 256) (s : Rs) : (s.number bs 1).1 < 256 := by
  have h := Pk.val_lt_pow (s.piece bs 1).1 (Rs.piece_lt bs 1 s hb)
  have h2 : 256 ^ (s.piece bs 1).1.length ≤ 256 ^ 1 := Nat.pow_le_pow_right (by decide) (Rs.piece_len bs 1 s)
  show Pk.val (s.piece bs 1).1 < 256
  omega
theorem Pk.num_nat (n : Nat) (h : n < 18446744073709551616) : Pk.num ((n : Nat) : Int) = n := by unfold Pk.num; omega
theorem Pl.head_ok (bs : List Nat) (h : (Pl.head bs).e = none) : bs.take (Pl.head bs).at_ = [76, 80] := by
  unfold Pl.head at h ⊢
  split
  · rename_i h1
    rw [if_pos h1] at h
    have h2 := (Rs.piece_ok bs 2 ⟨0, none⟩ h).2
    rw [h2, h1]
    rfl
  · rename_i h1
    rw [if_neg h1] at h
    exact absurd h (Rs.fail_e _ _)
set_option maxHeartbeats 4000000 in
theorem Pl.again_core (bs : List Nat) (hb : ∀ b ∈ bs, b < 256) (p : Pn) (H0 : Rs) (P1 P10 P11 : Int × Rs) (P2 P4 P6 P8 : Nat × Rs) (P3 : List VwP × Rs) (P5 : List TnP × Rs) (P7 : List DsP × Rs) (P9 : List InP × Rs)
    (hp : p.pl = ⟨P1.1, P3.1, P5.1, P7.1, P9.1, P10.1, P11.1⟩) (hend : P11.2.rest bs = [] ∧ P11.2.e = none) (hhead : H0.e = none → bs.take H0.at_ = [76, 80])
    (k1 : Rs.Ok bs H0 P1.2 (Pk.le 4 (Pk.num P1.1))) (k2 : Rs.Ok bs P1.2 P2.2 (Pk.le 2 P2.1)) (k3 : Rs.Ok bs P2.2 P3.2 (P3.1.flatMap Pl.vbytes)) (k4 : Rs.Ok bs P3.2 P4.2 (Pk.le 2 P4.1)) (k5 : Rs.Ok bs P4.2 P5.2 (P5.1.flatMap Pl.tbytes)) (k6 : Rs.Ok bs P5.2 P6.2 (Pk.le 2 P6.1))
    (k7 : Rs.Ok bs P6.2 P7.2 (P7.1.flatMap Pl.dbytes)) (k8 : Rs.Ok bs P7.2 P8.2 (Pk.le 2 P8.1)) (k9 : Rs.Ok bs P8.2 P9.2 (P9.1.flatMap InP.bytes)) (k10 : Rs.Ok bs P9.2 P10.2 (Pk.le 4 (Pk.num P10.1))) (k11 : Rs.Ok bs P10.2 P11.2 (Pk.le 4 (Pk.num P11.1)))
    (c2 : P2.1 ≤ 128) (c4 : P4.1 ≤ 64) (c6 : P6.1 ≤ 8) (c8 : P8.1 ≤ 2048) (l3 : P3.1.length = P2.1) (l5 : P5.1.length = P4.1) (l7 : P7.1.length = P6.1) (l9 : P9.1.length = P8.1)
    (m3 : P3.2.e = none → ∀ x ∈ P3.1, ∃ i s', x = (Rs.view bs i s').1 ∧ (Rs.view bs i s').2.e = none) (m5 : P5.2.e = none → ∀ x ∈ P5.1, ∃ i s', x = (Rs.tens bs i s').1 ∧ (Rs.tens bs i s').2.e = none) (m7 : P7.2.e = none → ∀ x ∈ P7.1, ∃ i s', x = (Rs.dsc bs i s').1 ∧ (Rs.dsc bs i s').2.e = none) (m9 : P9.2.e = none → ∀ x ∈ P9.1, ∃ i s', x = (Rs.ins bs i s').1 ∧ (Rs.ins bs i s').2.e = none)
    (f0 : Pl.far P1.1 = false) (f5 : Pl.far P10.1 = false) (f6 : Pl.far P11.1 = false) : Pl.fault p = none ∧ Pl.bytes p.pl = bs := by
  have e9 := (k10.then_ k11 hend.2).1
  have e7 := (k8.then_ k9 e9).1
  have e5 := (k6.then_ k7 e7).1
  have e3 := (k4.then_ k5 e5).1
  have q0 : p.size = P1.1 := congrArg PlP.size hp
  have q1 : p.vs.map Vw.pl = P3.1 := congrArg PlP.vs hp
  have q2 : p.cs.map Ten.pl = P5.1 := congrArg PlP.cs hp
  have q3 : p.ls.map Dsc.pl = P7.1 := congrArg PlP.ls hp
  have q4 : p.is.map Ins.pl = P9.1 := congrArg PlP.is hp
  have q5 : p.inp = P10.1 := congrArg PlP.inp hp
  have q6 : p.out = P11.1 := congrArg PlP.out hp
  have v1 : ∀ v ∈ p.vs, Pl.far v.off = false ∧ v.d.zs.length ≤ 7 ∧ ∀ z ∈ v.d.zs, Pl.dim z = false := by
    intro v hv
    obtain ⟨i, s, e, -⟩ := m3 e3 v.pl (by rw [← q1]; exact List.mem_map_of_mem hv)
    have a1 : v.off = (s.signed bs).1 := congrArg Prod.fst e
    have a2 : v.d.zs = ((s.signed bs).2.desc bs).1.1 := congrArg (fun x => x.2.1) e
    rw [a1, a2]
    exact ⟨Pl.far_signed bs s, Rs.desc_in bs hb _⟩
  have v3 : ∀ d ∈ p.ls, d.zs.length ≤ 7 ∧ ∀ z ∈ d.zs, Pl.dim z = false := by
    intro d hd
    obtain ⟨i, s, e, -⟩ := m7 e7 d.pl (by rw [← q3]; exact List.mem_map_of_mem hd)
    have a2 : d.zs = (s.desc bs).1.1 := congrArg Prod.fst e
    rw [a2]
    exact Rs.desc_in bs hb _
  have vd : ∀ d ∈ p.descs, d.zs.length ≤ 7 ∧ ∀ z ∈ d.zs, Pl.dim z = false := by
    intro d hd
    rcases List.mem_append.1 hd with hd | hd
    · obtain ⟨v, hv, rfl⟩ := List.mem_map.1 hd
      exact (v1 v hv).2
    · exact v3 d hd
  have v4 : ∀ x ∈ p.is, Pl.many x = false ∧ Pl.wrong x = false := by
    intro x hx
    obtain ⟨i, s, e, -⟩ := m9 e9 x.pl (by rw [← q4]; exact List.mem_map_of_mem hx)
    have a0 : x.op = (((s.number bs 1).1 : Nat) : Int) := congrArg InP.op e
    have a1 : x.dst = ((s.i1 bs).signed bs).1 := congrArg InP.dst e
    have a2 : x.is = ((s.i2 bs).numbers bs).1 := congrArg InP.is e
    have a3 : x.gs = ((s.i3 bs).numbers bs).1 := congrArg InP.gs e
    have a4 : x.fr = ((s.i4 bs).signed bs).1 := congrArg InP.fr e
    have a5 : x.to = ((s.i5 bs).signed bs).1 := congrArg InP.to e
    have hop := Rs.op_in bs hb s
    constructor
    · unfold Pl.many
      rw [a2, a3, decide_eq_false_iff_not]
      have b1 := Rs.numbers_le bs (s.i2 bs)
      have b2 := Rs.numbers_le bs (s.i3 bs)
      omega
    · unfold Pl.wrong
      rw [decide_eq_false (show ¬ x.op < 0 by omega), decide_eq_false (show ¬ 255 < x.op by omega), Bool.or_self, Bool.false_or]
      have b0 : [x.dst, x.fr, x.to].any Pl.far = false := by
        rw [List.any_eq_false]
        intro z hz
        rw [Bool.not_eq_true]
        simp only [List.mem_cons, List.not_mem_nil, or_false] at hz
        rcases hz with rfl | rfl | rfl
        · rw [a1]; exact Pl.far_signed bs _
        · rw [a4]; exact Pl.far_signed bs _
        · rw [a5]; exact Pl.far_signed bs _
      have b1 : x.is.any Pl.far = false := by
        rw [List.any_eq_false, a2]
        intro z hz
        rw [Bool.not_eq_true]
        exact Rs.num_in bs _ _ z hz
      have b2 : x.gs.any Pl.far = false := by
        rw [List.any_eq_false, a3]
        intro z hz
        rw [Bool.not_eq_true]
        exact Rs.num_in bs _ _ z hz
      rw [b0, b1, b2]
      rfl
  have n1 : p.vs.length ≤ 128 := by rw [← List.length_map (f := Vw.pl), q1, l3]; exact c2
  have n2 : p.cs.length ≤ 64 := by rw [← List.length_map (f := Ten.pl), q2, l5]; exact c4
  have n3 : p.ls.length ≤ 8 := by rw [← List.length_map (f := Dsc.pl), q3, l7]; exact c6
  have n4 : p.is.length ≤ 2048 := by rw [← List.length_map (f := Ins.pl), q4, l9]; exact c8
  have hover : Pl.over p = false := by
    unfold Pl.over Pl.lots
    rw [decide_eq_false (show ¬ 128 < p.vs.length by omega), decide_eq_false (show ¬ 64 < p.cs.length by omega), decide_eq_false (show ¬ 8 < p.ls.length by omega), decide_eq_false (show ¬ 2048 < p.is.length by omega)]
    have b1 : p.is.any Pl.many = false := by
      rw [List.any_eq_false]
      intro x hx
      rw [Bool.not_eq_true]
      exact (v4 x hx).1
    have b2 : p.descs.any Pl.deep = false := by
      rw [List.any_eq_false]
      intro d hd
      rw [Bool.not_eq_true]
      unfold Pl.deep
      rw [decide_eq_false_iff_not]
      have := (vd d hd).1
      omega
    rw [b1, b2]
    rfl
  have hbroad : Pl.broad p = false := by
    unfold Pl.broad
    have b0 : [p.size, p.inp, p.out].any Pl.far = false := by
      rw [List.any_eq_false]
      intro z hz
      rw [Bool.not_eq_true]
      simp only [List.mem_cons, List.not_mem_nil, or_false] at hz
      rcases hz with rfl | rfl | rfl
      · rw [q0]; exact f0
      · rw [q5]; exact f5
      · rw [q6]; exact f6
    have b1 : (p.vs.any fun v => [v.off].any Pl.far) = false := by
      rw [List.any_eq_false]
      intro v hv
      rw [Bool.not_eq_true]
      show (Pl.far v.off || false) = false
      rw [(v1 v hv).1]
      rfl
    have b2 : (p.descs.any fun d => d.zs.any Pl.dim) = false := by
      rw [List.any_eq_false]
      intro d hd
      rw [Bool.not_eq_true, List.any_eq_false]
      intro z hz
      rw [Bool.not_eq_true]
      exact (vd d hd).2 z hz
    have b3 : p.is.any Pl.wrong = false := by
      rw [List.any_eq_false]
      intro x hx
      rw [Bool.not_eq_true]
      exact (v4 x hx).2
    rw [b0, b1, b2, b3]
    rfl
  have hfirst : Tens.first p.cs = (0, none) := Tens.first_none p.cs fun j t ht => by
    obtain ⟨i, s, e, he2⟩ := m5 e5 t.pl (by rw [← q2]; exact List.mem_map_of_mem (List.mem_of_getElem? ht))
    have h := (Rs.tens_ok bs hb i s).2 he2
    rw [← e] at h
    exact h
  refine ⟨?_, ?_⟩
  · unfold Pl.fault
    rw [hover, hbroad, hfirst]
    rfl
  · obtain ⟨hh, hall⟩ := (((((((((k1.then_ k2).then_ k3).then_ k4).then_ k5).then_ k6).then_ k7).then_ k8).then_ k9).then_ k10).then_ k11 hend.2
    rw [hhead hh] at hall
    have htk : bs.take P11.2.at_ = bs := by
      have h1 := hend.1
      unfold Rs.rest at h1
      rw [hend.2] at h1
      dsimp only at h1
      rw [List.drop_eq_nil_iff] at h1
      exact List.take_of_length_le h1
    rw [htk] at hall
    rw [hp, hall]
    unfold Pl.bytes Pl.body
    dsimp only
    rw [l3, l5, l7, l9, Pk.num_nat _ (by omega), Pk.num_nat _ (by omega), Pk.num_nat _ (by omega), Pk.num_nat _ (by omega)]
    rfl
/-- Bytes that are read as a plan: it can be written, and its bytes are they. -/
theorem Pl.again (bs : List Nat) (hb : ∀ b ∈ bs, b < 256) (he : (Pl.p12 bs).e = none) (p : Pn) (hp : p.pl = Pl.read bs) : Pl.fault p = none ∧ Pl.bytes p.pl = bs := by
  have hread : Pl.read bs = ⟨(Pl.p1 bs).1, (Pl.p3 bs).1, (Pl.p5 bs).1, (Pl.p7 bs).1, (Pl.p9 bs).1, (Pl.p10 bs).1, (Pl.p11 bs).1⟩ := by unfold Pl.read; rw [if_pos he]
  have hend : (Pl.p11 bs).2.rest bs = [] ∧ (Pl.p11 bs).2.e = none := by
    have h : ((Pl.p11 bs).2.end_ bs).e = none := he
    unfold Rs.end_ at h
    by_cases h1 : (Pl.p11 bs).2.rest bs = []
    · rw [if_pos h1] at h
      exact ⟨h1, h⟩
    · rw [if_neg h1] at h
      exact absurd h (Rs.fail_e _ _)
  refine Pl.again_core bs hb p (Pl.head bs) (Pl.p1 bs) (Pl.p10 bs) (Pl.p11 bs) (Pl.p2 bs) (Pl.p4 bs) (Pl.p6 bs) (Pl.p8 bs) (Pl.p3 bs) (Pl.p5 bs) (Pl.p7 bs) (Pl.p9 bs) (hp.trans hread) hend (Pl.head_ok bs) ?_ ?_ ?_ ?_ ?_ ?_ ?_ ?_ ?_ ?_ ?_ ?_ ?_ ?_ ?_ ?_ ?_ ?_ ?_ ?_ ?_ ?_ ?_ ?_ ?_ ?_
  · unfold Pl.p1; exact Rs.signed_ok bs hb _
  · unfold Pl.p2; exact Rs.count_ok bs hb 2 128 3 _
  · unfold Pl.p3; exact Rs.rep_ok bs _ _ (Rs.view_ok bs hb) _ _
  · unfold Pl.p4; exact Rs.count_ok bs hb 2 64 3 _
  · unfold Pl.p5; exact Rs.rep_ok bs _ _ (fun i s => (Rs.tens_ok bs hb i s).1) _ _
  · unfold Pl.p6; exact Rs.count_ok bs hb 2 8 3 _
  · unfold Pl.p7; exact Rs.rep_ok bs _ _ (Rs.dsc_ok bs hb) _ _
  · unfold Pl.p8; exact Rs.count_ok bs hb 2 2048 3 _
  · unfold Pl.p9; exact Rs.rep_ok bs _ _ (Rs.instr_ok bs hb) _ _
  · unfold Pl.p10; exact Rs.signed_ok bs hb _
  · unfold Pl.p11; exact Rs.signed_ok bs hb _
  · unfold Pl.p2; exact Rs.count_le bs 2 128 3 _
  · unfold Pl.p4; exact Rs.count_le bs 2 64 3 _
  · unfold Pl.p6; exact Rs.count_le bs 2 8 3 _
  · unfold Pl.p8; exact Rs.count_le bs 2 2048 3 _
  · unfold Pl.p3; exact Rs.rep_len _ _ _
  · unfold Pl.p5; exact Rs.rep_len _ _ _
  · unfold Pl.p7; exact Rs.rep_len _ _ _
  · unfold Pl.p9; exact Rs.rep_len _ _ _
  · unfold Pl.p3; exact Rs.rep_mem bs _ _ (Rs.view_ok bs hb) _ _
  · unfold Pl.p5; exact Rs.rep_mem bs _ _ (fun i s => (Rs.tens_ok bs hb i s).1) _ _
  · unfold Pl.p7; exact Rs.rep_mem bs _ _ (Rs.dsc_ok bs hb) _ _
  · unfold Pl.p9; exact Rs.rep_mem bs _ _ (Rs.instr_ok bs hb) _ _
  · unfold Pl.p1; exact Pl.far_signed bs _
  · unfold Pl.p10; exact Pl.far_signed bs _
  · unfold Pl.p11; exact Pl.far_signed bs _
end Go.Proofs.YthjnkaikjjjceaaDoor
