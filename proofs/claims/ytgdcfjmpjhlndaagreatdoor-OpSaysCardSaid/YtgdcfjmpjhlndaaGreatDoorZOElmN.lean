/-
  What two tensors look like. Rows of structs; tensors as data; errors that are not nil. What the answer of an operation of two looks like. elem.fits, may, looks of any operation, walked. What the answer of an operation of two looks like: elem.Result. cells.Looks of any tensors, walked. Errors, stores into a call's own result, what is amiss with descs. The elements of an operation of two: cells.pointwise, fill, Of. The elements of an operation element by element: cells.pointwise, fill, Of, for any such. cells.All; elem.do, Two, One of any operation, walked. Codes of an operation element by element; tensors of a later time. The reference's numbers of a kind. lodgeref3.descs, walked; narrow. lodgeref.Desc and lodgeref3.Zero, walked (ten M for a seat without package tens's other functions). cells.Of and cells.One of any operation, given what fills the place. cells.fill, by op, given what fills: MatMul, Turn. By an AI agent. No person has read it.
-/
import Derived.Test.YtgdcfjmpjhlndaaGreatDoorZOElmA
import Derived.Test.YtgdcfjmpjhlndaaGreatDoorZOTenA
import Derived.Test.YtgdcfjmpjhlndaaGreatDoorZOShpCl
import Derived.Test.YtgdcfjmpjhlndaaGreatDoorZOElmV
import Derived.Test.YtgdcfjmpjhlndaaGreatDoorZOBasE
import Derived.Laws.OwnMore
import Derived.LoopN
import Derived.Deep.RegionLaw
import Derived.Deep.RegionHeld3
import Derived.Laws.ResultCell
import Derived.StillTailTactics
namespace Go.Proofs.YtgdcfjmpjhlndaaGreatDoor
open Go.RowKit
theorem descinfo : ∃ i : TypeInfo, Tryz.prog.info? 24 = some i ∧ i.zero = some (.agg #[.slice none 0 0, .bool false]) ∧ i.size = 2 ∧ i.bytes = 32 := by
 obtain ⟨i, hi⟩ : ∃ i, Tryz.prog.info? 24 = some i := by
  refine Option.isSome_iff_exists.1 ?_
  kernel_rfl
 have h1 : (Tryz.prog.info? 24).bind (·.zero) = some (.agg #[.slice none 0 0, .bool false]) := by kernel_rfl
 have h2 : (Tryz.prog.info? 24).map (·.size) = some 2 := by kernel_rfl
 have h3 : (Tryz.prog.info? 24).map (·.bytes) = some 32 := by kernel_rfl
 rw [hi] at h1 h2 h3
 exact ⟨i, hi, by simpa using h1, by simpa using h2, by simpa using h3⟩
theorem uds : Tryz.prog.underlying 45 = some (.slice 24) := by kernel_rfl
theorem own_kept {w w' : World} {base n s : Nat} {e : TypeId} {v : Value} {xs : List Value} (h : w.ownsRow base e s v n xs) (hb : Below w.heap.size w w') : w'.ownsRow base e s v n xs := by
 refine ⟨h.1, ?_⟩
 rcases h.2 with ⟨h1, h2⟩ | ⟨g, c, cur, h1, h2, h3, h4⟩
 ·exact .inl ⟨h1, h2⟩
 ·refine .inr ⟨g, c, cur, h1, h2, ?_, h4⟩
  rw [hb.block g (Array.getElem?_eq_some_iff.1 h3).1]
  exact h3
theorem elm_grown {w W w' : World} {base n s : Nat} {e : TypeId} {v : Value} {xs : List Value} (hb : Below base w W) (h : W.ownsRow base e s v n xs) (hs : base ≤ W.heap.size) (hg : W.grownBy w' v.ownBlock) : Below base w w' := by
 refine hb.grown hg hs (fun k hk => ?_)
 rcases h.2 with ⟨rfl, -⟩ | ⟨g, c, cur, rfl, h2, -⟩
 ·cases hk
 ·have : g = k := Option.some.inj hk
  omega
theorem results_two {fn : Func} {p u : Tmp} (h : fn.results = #[.tmp p, .tmp u]) (tmps : Array Value) (w : World) : (results fn tmps).run Tryz.prog w = .ok (.tuple #[tmps.getD p undef, tmps.getD u undef]) w := by
 simp [results, h]
def Row (w : World) (B : Option Addr) (xs : List Value) : Prop := xs ≠ [] → ∃ ad, B = some ad ∧ ad.block < w.heap.size ∧ ∀ (j : Nat) (x : Value), xs[j]? = some x → w.cell? (ad.add j) = some x
theorem Row.below {w w' : World} {B : Option Addr} {xs : List Value} (h : Row w B xs) (hb : Below w.heap.size w w') : Row w' B xs := fun hx => by
 obtain ⟨ad, h1, h2, h3⟩ := h hx
 exact ⟨ad, h1, Nat.lt_of_lt_of_le h2 hb.size, fun j x hj => by rw [hb.cell (by rw [ad_block]; exact h2)]; exact h3 j x hj⟩
theorem Row.nil (w : World) (B : Option Addr) : Row w B [] := fun h => absurd rfl h
theorem Has.row {w : World} {g : Nat} {t : TypeId} {xs : List Value} (h : Has w g t xs) : Row w (some ⟨g, 0, none⟩) xs :=
 fun _ => ⟨_, rfl, h.lt, fun j x hj => by rw [Addr.add_lit, h.cell, Nat.zero_add]; exact hj⟩
structure Ten where
 P : Option Addr
 zs : List Int
 cap : Nat
 u : Bool
 D : Option Addr
 ds : List Int
 dcap : Nat
structure Dsc where
 P : Option Addr
 zs : List Int
 cap : Nat
 u : Bool
def Ten.look (t : Ten) : Dsc := ⟨t.P, t.zs, t.cap, t.u⟩
def Ten.vals (t : Ten) : List Value := [.slice t.P t.zs.length t.cap, .bool t.u, .slice t.D t.ds.length t.dcap]
def Dsc.vals (d : Dsc) : List Value := [.slice d.P d.zs.length d.cap, .bool d.u]
structure Ten.In (w : World) (t : Ten) : Prop where
 shp : Ri w t.P t.zs
 dat : Ri w t.D t.ds
 ls : t.zs.length ≤ 1000000
 ld : t.ds.length ≤ 1000000
structure Dsc.In (w : World) (d : Dsc) : Prop where
 shp : Ri w d.P d.zs
 ls : d.zs.length ≤ 1000000
theorem Ten.In.below {w w' : World} {t : Ten} (h : t.In w) (hb : Below w.heap.size w w') : t.In w' := ⟨h.shp.below hb, h.dat.below hb, h.ls, h.ld⟩
theorem Dsc.In.below {w w' : World} {t : Dsc} (h : t.In w) (hb : Below w.heap.size w w') : t.In w' := ⟨h.shp.below hb, h.ls⟩
theorem Ten.In.look {w : World} {t : Ten} (h : t.In w) : t.look.In w := ⟨h.shp, h.ls⟩
def Ten.fault (t : Ten) : Nat × Option Nat := Tens.fault t.zs t.u t.ds
def Tens.first : List Ten → Nat × Option Nat
 | [] => (0, none)
 | t :: l => if t.fault = (0, none) then Tens.first l else t.fault
theorem Tens.first_at (ts : List Ten) (i : Nat) (t : Ten) (h : ts[i]? = some t) (hj : ∀ (j : Nat) x, j < i → ts[j]? = some x → x.fault = (0, none)) (hf : t.fault ≠ (0, none)) : Tens.first ts = t.fault := by
 induction ts generalizing i with
 | nil => simp at h
 | cons x l ih =>
  cases i with
  | zero =>
   simp at h
   subst h
   unfold Tens.first
   rw [if_neg hf]
  | succ i =>
   unfold Tens.first
   rw [if_pos (hj 0 x (Nat.succ_pos i) rfl)]
   exact ih i (by simpa using h) fun j y hji hy => hj (j + 1) y (by omega) (by simpa using hy)
theorem Tens.first_none (ts : List Ten) (h : ∀ (j : Nat) x, ts[j]? = some x → x.fault = (0, none)) : Tens.first ts = (0, none) := by
 induction ts with
 | nil => rfl
 | cons x l ih =>
  unfold Tens.first
  rw [if_pos (h 0 x rfl)]
  exact ih fun j y hy => h (j + 1) y (by simpa using hy)
theorem Tens.first_fine (ts : List Ten) (h : Tens.first ts = (0, none)) : ∀ t ∈ ts, t.fault = (0, none) := by
 induction ts with
 | nil => simp
 | cons x l ih =>
  unfold Tens.first at h
  by_cases hx : x.fault = (0, none)
  ·rw [if_pos hx] at h
   intro t ht
   rcases List.mem_cons.1 ht with rfl | ht
   ·exact hx
   ·exact ih h t ht
  ·rw [if_neg hx] at h
   exact absurd h hx
theorem tfault_cases (zs : List Int) (u : Bool) (ds : List Int) : Tens.fault zs u ds = (0, none) ∨ Tens.fault zs u ds = (101, none) ∨ Tens.fault zs u ds = (102, none) ∨ Tens.fault zs u ds = (104, none) ∨ ∃ i, Tens.fault zs u ds = (102, some i) := by
 have hk := Shp.code_is zs
 unfold Tens.fault
 split
 ·rcases hk with h | h | h <;> rw [h] <;> simp_all
 ·split
  ·simp
  ·split
   ·rename_i i _
    exact .inr (.inr (.inr (.inr ⟨i, rfl⟩)))
   ·exact .inl rfl
theorem Tens.first_cases (ts : List Ten) : Tens.first ts = (0, none) ∨ Tens.first ts = (101, none) ∨ Tens.first ts = (102, none) ∨ Tens.first ts = (104, none) ∨ ∃ i, Tens.first ts = (102, some i) := by
 induction ts with
 | nil => exact .inl rfl
 | cons x l ih =>
  unfold Tens.first
  split
  ·exact ih
  ·exact tfault_cases _ _ _
theorem flat_at {α : Type} (f : α → List Value) (n : Nat) (ts : List α) (hf : ∀ t ∈ ts, (f t).length = n) (i : Nat) (t : α) (h : ts[i]? = some t) (j : Nat) (hj : j < n) : (ts.flatMap f)[i * n + j]? = (f t)[j]? := by
 induction ts generalizing i with
 | nil => simp at h
 | cons x l ih =>
  have hx := hf x (by simp)
  cases i with
  | zero =>
   simp at h
   subst h
   rw [List.flatMap_cons, Nat.zero_mul, Nat.zero_add, List.getElem?_append_left (by omega)]
  | succ i =>
   rw [List.flatMap_cons, List.getElem?_append_right (by rw [hx, Nat.succ_mul]; omega), hx, show (i + 1) * n + j - n = i * n + j by rw [Nat.succ_mul]; omega]
   exact ih (fun t ht => hf t (by simp [ht])) i (by simpa using h)
theorem flat_len {α : Type} (f : α → List Value) (n : Nat) (ts : List α) (hf : ∀ t ∈ ts, (f t).length = n) : (ts.flatMap f).length = ts.length * n := by
 induction ts with
 | nil => simp
 | cons x l ih => rw [List.flatMap_cons, List.length_append, hf x (by simp), ih (fun t ht => hf t (by simp [ht])), List.length_cons, Nat.succ_mul]; omega
theorem add_more (a : Addr) (m k : Nat) : a.add (m + (k + 1)) = ⟨(a.add m).block, (a.add m).off + (k + 1), none⟩ := by
 unfold Addr.add
 by_cases hm : m = 0
 ·simp [hm]
 ·simp [hm, Nat.add_assoc]
theorem row_ten {w : World} {B : Option Addr} {ts : List Ten} (h : Row w B (ts.flatMap Ten.vals)) (i : Nat) (hi : i < ts.length) : ∃ ad t, B = some ad ∧ ad.block < w.heap.size ∧ Hid (ts[i]? = some t) ∧
  w.cell? (ad.add (i * 3)) = some (.slice t.P t.zs.length t.cap) ∧ w.cell? ⟨(ad.add (i * 3)).block, (ad.add (i * 3)).off + 1, none⟩ = some (.bool t.u) ∧ w.cell? ⟨(ad.add (i * 3)).block, (ad.add (i * 3)).off + 2, none⟩ = some (.slice t.D t.ds.length t.dcap) := by
 have hne : ts.flatMap Ten.vals ≠ [] := fun hc => by
  have := flat_len Ten.vals 3 ts (fun _ _ => rfl)
  rw [hc] at this
  simp at this
  omega
 obtain ⟨ad, h1, h2, h3⟩ := h hne
 have ht := List.getElem?_eq_getElem hi
 exact ⟨ad, ts[i], h1, h2, hide ht, h3 (i * 3) _ (by rw [← Nat.add_zero (i * 3), flat_at Ten.vals 3 ts (fun _ _ => rfl) i _ ht 0 (by decide)]; rfl), by rw [← add_more ad (i * 3) 0]; exact h3 (i * 3 + 1) _ (by rw [flat_at Ten.vals 3 ts (fun _ _ => rfl) i _ ht 1 (by decide)]; rfl), by rw [← add_more ad (i * 3) 1]; exact h3 (i * 3 + 2) _ (by rw [flat_at Ten.vals 3 ts (fun _ _ => rfl) i _ ht 2 (by decide)]; rfl)⟩
theorem row_dsc {w : World} {B : Option Addr} {ts : List Dsc} (h : Row w B (ts.flatMap Dsc.vals)) (i : Nat) (hi : i < ts.length) : ∃ ad t, B = some ad ∧ ad.block < w.heap.size ∧ Hid (ts[i]? = some t) ∧
  w.cell? (ad.add (i * 2)) = some (.slice t.P t.zs.length t.cap) ∧ w.cell? ⟨(ad.add (i * 2)).block, (ad.add (i * 2)).off + 1, none⟩ = some (.bool t.u) := by
 have hne : ts.flatMap Dsc.vals ≠ [] := fun hc => by
  have := flat_len Dsc.vals 2 ts (fun _ _ => rfl)
  rw [hc] at this
  simp at this
  omega
 obtain ⟨ad, h1, h2, h3⟩ := h hne
 have ht := List.getElem?_eq_getElem hi
 exact ⟨ad, ts[i], h1, h2, hide ht, h3 (i * 2) _ (by rw [← Nat.add_zero (i * 2), flat_at Dsc.vals 2 ts (fun _ _ => rfl) i _ ht 0 (by decide)]; rfl), by rw [← add_more ad (i * 2) 0]; exact h3 (i * 2 + 1) _ (by rw [flat_at Dsc.vals 2 ts (fun _ _ => rfl) i _ ht 1 (by decide)]; rfl)⟩
def ErrV (v : Value) : Prop := (∃ a, v = errv a) ∨ ∃ g, v = .iface 109 (.pointer (some ⟨g, 0, none⟩))
theorem run_neqerr {v : Value} (h : ErrV v) (w : World) : (binOp .neq 31 v .nilIface).run Tryz.prog w = .ok (.bool true) w := by
 rcases h with ⟨a, rfl⟩ | ⟨g, rfl⟩
 all_goals kernel_rfl
theorem run_neqguard {v : Value} (h : ErrV v) (j : Tmp) (w : World) : (eqGuard .neq 31 (Operand.tmp j) (Operand.const Value.nilIface) v .nilIface).run Tryz.prog w = .ok () w := by
 rcases h with ⟨a, rfl⟩ | ⟨g, rfl⟩
 all_goals kernel_rfl
theorem TErr.errv {W : World} {ah am ar : Addr} {v : Value} {R : Nat × Option Nat} (h : TErr W ah am ar v R) (hc : R = (0, none) ∨ R = (101, none) ∨ R = (102, none) ∨ R = (104, none) ∨ ∃ i, R = (102, some i)) (hn : R ≠ (0, none)) : ErrV v := by
 rcases hc with rfl | rfl | rfl | rfl | ⟨i, rfl⟩
 ·exact absurd rfl hn
 ·exact .inl ⟨_, h⟩
 ·exact .inl ⟨_, h⟩
 ·exact .inl ⟨_, h⟩
 ·obtain ⟨g, h1, -⟩ := h
  exact .inr ⟨g, h1⟩
theorem TErr.keep {W W' : World} {ah am ar : Addr} {v : Value} {R : Nat × Option Nat} (h : TErr W ah am ar v R) (hb : ∀ (g : Nat) (x y : Value), Has W g 113 [x, y] → Has W' g 113 [x, y]) : TErr W' ah am ar v R := by
 obtain ⟨k, o⟩ := R
 cases o with
 | none => exact h
 | some i =>
  obtain ⟨g, h1, h2⟩ := h
  exact ⟨g, h1, hb g _ _ h2⟩
theorem TErr.down {W W' : World} {ah am ar : Addr} {v : Value} {R : Nat × Option Nat} (h : TErr W ah am ar v R) (hb : Below W.heap.size W W') : TErr W' ah am ar v R := h.keep fun _ _ _ hg => hg.below hb hg.lt
theorem TErr.far {W : World} {ah am ar : Addr} {v : Value} {R : Nat × Option Nat} (h : TErr W ah am ar v R) {b : Nat} {t : TypeId} {cs : List Value} (hb : Has W b t cs) (ht : cs.length ≠ 2) (i : Nat) (x : Value) : TErr (W.setCell ⟨b, i, none⟩ x) ah am ar v R := h.keep fun g y z hg => hg.far (p := ⟨b, i, none⟩) (by
  intro (e : g = b)
  subst e
  have h1 : W.heap[g]? = _ := hg
  have h2 : W.heap[g]? = _ := hb
  rw [h1] at h2
  simp at h2
  rw [← h2.1] at ht
  exact ht rfl) x
def Elm.Lies (w : World) (k : Nat) (xs : List Value) : Prop := k < w.heap.size ∧ ∀ (j : Nat) (x : Value), xs[j]? = some x → w.cell? ⟨k, j, none⟩ = some x
theorem Elm.Lies.below {w w' : World} {k : Nat} {xs : List Value} (h : Elm.Lies w k xs) (hb : Below w.heap.size w w') : Elm.Lies w' k xs :=
 ⟨Nat.lt_of_lt_of_le h.1 hb.size, fun j x hx => (hb.cell h.1).trans (h.2 j x hx)⟩
theorem Tens.wide_fit (n : Int) (h : -9223372036854775808 ≤ n ∧ n ≤ 9223372036854775807) : decide (Tens.wide n = n) = Tens.fit true n := by
 unfold Tens.wide Tens.fit
 rw [if_pos rfl]
 exact decide_eq_decide.2 (by omega)
theorem Tens.narrow_fit (n : Int) : decide (Tens.narrow n = n) = Tens.fit false n := by
 unfold Tens.narrow Tens.fit
 rw [if_neg (by decide)]
 exact decide_eq_decide.2 (by omega)
set_option maxRecDepth 100000 in
theorem efits_c (n : Int) (u : Bool) (w : World) (hn : -9223372036854775808 ≤ n ∧ n ≤ 9223372036854775807) :
  Calls Tryz.prog 129 #[.int .i64 n, .bool u] w fun e w' => e = .returned (.bool (Tens.fit u n)) ∧ w' = w := by
 have H1 := hide (wide_c n)
 have H2 := hide (narrow_c n)
 have e1 := Tens.wide_fit n hn
 have e2 := Tens.narrow_fit n
 obtain ⟨a, ha⟩ : ∃ a, Hid (Tens.wide n = a) := ⟨_, hide rfl⟩
 obtain ⟨b, hb⟩ : ∃ a, Hid (Tens.narrow n = a) := ⟨_, hide rfl⟩
 rw [ha.out] at H1 e1
 rw [hb.out] at H2 e2
 clear ha hb
 cases u
 ·rw [← e2]
  clear e1 e2
  go_enter Tryz.func129, Tryz.ntmps129
  go_wp2_with fail
  refine (H2.out _).mono ?_
  rintro e w1 ⟨rfl, rfl⟩
  go_wp2_with fail
  go_ret
  exact ⟨rfl, rfl⟩
 ·rw [← e1]
  clear e1 e2
  go_enter Tryz.func129, Tryz.ntmps129
  go_wp2_with fail
  refine (H1.out _).mono ?_
  rintro e w1 ⟨rfl, rfl⟩
  go_wp2_with fail
  go_ret
  exact ⟨rfl, rfl⟩
def Elm.may (op : Int) (u : Bool) (qs : List Int) : Bool :=
 if op = 9 then decide (qs.getD 0 0 ≤ qs.getD 1 0) && Tens.fit u (qs.getD 0 0) && Tens.fit u (qs.getD 1 0)
 else if op = 10 then decide (0 ≤ qs.getD 0 0) && decide (qs.getD 0 0 ≤ 2147483647) && decide (0 ≤ qs.getD 1 0) && decide (qs.getD 1 0 ≤ 62) && Tens.fit false (qs.getD 2 0)
 else if op = 11 then Tens.fit false (qs.getD 0 0) else true
set_option maxRecDepth 100000 in
set_option maxHeartbeats 4000000 in
theorem may_c (op : Int) (ho : 4 ≤ op ∧ op ≤ 11) (u : Bool) (qs : List Int) (A : Option Addr) (cap : Nat) (w : World) (hl : qs.length = Elm.nargs op) (hr : Ri w A qs) :
  Calls Tryz.prog 119 #[.int .i64 op, .slice A qs.length cap, .bool u] w fun e w' => e = .returned (.bool (Elm.may op u qs)) ∧ ∃ k, w' = w.drewN k := by
 have hc : (op = 4 ∨ op = 5 ∨ op = 6 ∨ op = 7 ∨ op = 8) ∨ op = 9 ∨ op = 10 ∨ op = 11 := by omega
 rcases hc with h | rfl | rfl | rfl
 ·have e : Elm.may op u qs = true := by
   unfold Elm.may
   rw [if_neg (by omega), if_neg (by omega), if_neg (by omega)]
  rw [e]
  have n9 : op ≠ 9 := by omega
  have n10 : op ≠ 10 := by omega
  have n11 : op ≠ 11 := by omega
  clear e hl hr h ho
  go_enter Tryz.func119, Tryz.ntmps119
  go_wp2_with fail
  go_ret
  exact ⟨rfl, 0, rfl⟩
 ·obtain ⟨a, b, rfl⟩ := list_two hl
  have ha := i64_wf (hr.1 a (by simp))
  have hb := i64_wf (hr.1 b (by simp))
  obtain ⟨ad, rfl, -, c0, c1⟩ := ri_two hr
  have e : Elm.may 9 u [a, b] = (decide (a ≤ b) && Tens.fit u a && Tens.fit u b) := rfl
  rw [e]
  have H1 := hide (fun W => efits_c a u W ha)
  have H2 := hide (fun W => efits_c b u W hb)
  obtain ⟨x, hx⟩ : ∃ x, Hid (Tens.fit u a = x) := ⟨_, hide rfl⟩
  obtain ⟨y, hy⟩ : ∃ x, Hid (Tens.fit u b = x) := ⟨_, hide rfl⟩
  rw [hx.out] at H1 ⊢
  rw [hy.out] at H2 ⊢
  clear hl hr e ha hb hx hy
  go_enter Tryz.func119, Tryz.ntmps119
  go_wp2_with fail
  go_quiet (fail)
  by_cases hab : a ≤ b
  ·cases x
   ·go_wp2_with fail
    refine (H1.out _).mono ?_
    rintro e w1 ⟨rfl, rfl⟩
    go_wp2_with fail
    go_ret
    exact ⟨by simp, _, rfl⟩
   ·go_wp2_with fail
    refine (H1.out _).mono ?_
    rintro e w1 ⟨rfl, rfl⟩
    go_wp2_with fail
    refine (H2.out _).mono ?_
    rintro e w1 ⟨rfl, rfl⟩
    go_wp2_with fail
    go_ret
    exact ⟨by simp [hab], _, rfl⟩
  ·go_wp2_with fail
   go_ret
   exact ⟨by first | (simp; done) | (simp; intros; omega), _, rfl⟩
 ·obtain ⟨a, b, c, rfl⟩ := list_three hl
  have hcw := i64_wf (hr.1 c (by simp))
  obtain ⟨ad, rfl, -, c0, c1, c2⟩ := ri_three hr
  have e : Elm.may 10 u [a, b, c] = (decide (0 ≤ a) && decide (a ≤ 2147483647) && decide (0 ≤ b) && decide (b ≤ 62) && Tens.fit false c) := rfl
  rw [e]
  have H1 := hide (fun W => efits_c c false W hcw)
  obtain ⟨x, hx⟩ : ∃ x, Hid (Tens.fit false c = x) := ⟨_, hide rfl⟩
  rw [hx.out] at H1 ⊢
  clear hl hr e hcw hx ho
  by_cases h1 : 0 ≤ a
  ·by_cases h2 : a ≤ 2147483647
   ·by_cases h3 : 0 ≤ b
    ·by_cases h4 : b ≤ 62
     ·go_enter Tryz.func119, Tryz.ntmps119
      go_wp2_with fail
      refine (H1.out _).mono ?_
      rintro e w1 ⟨rfl, rfl⟩
      go_wp2_with fail
      go_ret
      exact ⟨by simp [h1, h2, h3, h4], 0, rfl⟩
     ·go_enter Tryz.func119, Tryz.ntmps119
      go_wp2_with fail
      go_ret
      exact ⟨by first | (simp; done) | (simp; intros; omega), 0, rfl⟩
    ·go_enter Tryz.func119, Tryz.ntmps119
     go_wp2_with fail
     go_ret
     exact ⟨by first | (simp; done) | (simp; intros; omega), 0, rfl⟩
   ·go_enter Tryz.func119, Tryz.ntmps119
    go_wp2_with fail
    go_ret
    exact ⟨by first | (simp; done) | (simp; intros; omega), 0, rfl⟩
  ·go_enter Tryz.func119, Tryz.ntmps119
   go_wp2_with fail
   go_ret
   exact ⟨by first | (simp; done) | (simp; intros; omega), 0, rfl⟩
 ·obtain ⟨a, rfl⟩ := list_one hl
  have ha := i64_wf (hr.1 a (by simp))
  obtain ⟨ad, rfl, -, c0⟩ := ri_one hr
  have e : Elm.may 11 u [a] = Tens.fit false a := rfl
  rw [e]
  have H1 := hide (fun W => efits_c a false W ha)
  obtain ⟨x, hx⟩ : ∃ x, Hid (Tens.fit false a = x) := ⟨_, hide rfl⟩
  rw [hx.out] at H1 ⊢
  clear hl hr e ha hx
  go_enter Tryz.func119, Tryz.ntmps119
  go_wp2_with fail
  refine (H1.out _).mono ?_
  rintro e w1 ⟨rfl, rfl⟩
  go_wp2_with fail
  go_ret
  exact ⟨rfl, 0, rfl⟩
def Elm.alike (op : Int) (ds : List Dsc) : Bool :=
 match ds with
 | [] => false
 | [d] => if op = 10 then d.u else if op = 11 then !d.u else true
 | d :: f :: _ => decide (d.zs = f.zs) && (d.u == f.u)
set_option maxRecDepth 100000 in
set_option maxHeartbeats 4000000 in
theorem looks_e (op : Int) (ho : 4 ≤ op ∧ op ≤ 11) (ds : List Dsc) (B : Option Addr) (cap : Nat) (w : World) (hl : ds.length = Elm.nins op) (hR : Row w B (ds.flatMap Dsc.vals)) (hI : ∀ d ∈ ds, d.In w) :
  Calls Tryz.prog 118 #[.int .i64 op, .slice B ds.length cap] w fun e w' => e = .returned (.bool (Elm.alike op ds)) ∧ Below w.heap.size w w' := by
 by_cases h2 : op ≤ 7
 ·have : ds.length = 2 := by rw [hl]; unfold Elm.nins; rw [if_pos ⟨ho.1, h2⟩]
  match ds, this with
  | [d, f], _ =>
   obtain ⟨ad, hB, hbl, hcs⟩ := hR (by simp [Dsc.vals])
   subst hB
   have c0 := hcs 0 _ rfl
   have c1 := hcs 1 _ rfl
   have c2 := hcs 2 _ rfl
   have c3 := hcs 3 _ rfl
   have n10 : op ≠ 10 := by omega
   have n11 : op ≠ 11 := by omega
   have hd := hI d (by simp)
   have hf := hI f (by simp)
   have hs := hide (fun W (hb : Below w.heap.size w W) => same_c d.zs f.zs d.P f.P d.cap f.cap d.u f.u W (hd.shp.below hb) (hf.shp.below hb) hd.ls hf.ls)
   have e : Elm.alike op [d, f] = (decide (d.zs = f.zs) && (d.u == f.u)) := rfl
   rw [e]
   obtain ⟨b, hb⟩ : ∃ b, Hid ((decide (d.zs = f.zs) && (d.u == f.u)) = b) := ⟨_, hide rfl⟩
   rw [hb.out] at hs ⊢
   clear hl hR hI hcs e hb hd hf ho h2
   rw [Addr.add_zero'] at c0
   simp only [Addr.add, Nat.reduceEqDiff, if_false] at c1 c2 c3
   go_enter Tryz.func118, Tryz.ntmps118
   go_wp2_with fail
   go_region_law (first
    | (go_simp; go_at_call 80; refine (hs.out _ (by first | exact (Below.refl _ w).drew | exact Below.refl _ w)).mono ?_; rintro e W2 ⟨rfl, hb⟩))
   all_goals go_wp2_with fail
   all_goals go_ret
   all_goals exact ⟨rfl, (Below.refl _ w).drew.trans hb⟩
 ·have : ds.length = 1 := by rw [hl]; unfold Elm.nins; rw [if_neg (by omega)]
  match ds, this with
  | [d], _ =>
   obtain ⟨ad, hB, hbl, hcs⟩ := hR (by simp [Dsc.vals])
   subst hB
   have c0 := hcs 0 _ rfl
   have c1 := hcs 1 _ rfl
   rw [Addr.add_zero'] at c0
   simp only [Addr.add, Nat.reduceEqDiff, if_false] at c1
   have e : Elm.alike op [d] = if op = 10 then d.u else if op = 11 then !d.u else true := rfl
   rw [e]
   clear hl hR hI hcs e
   have hc : op = 8 ∨ op = 9 ∨ op = 10 ∨ op = 11 := by omega
   rcases hc with rfl | rfl | rfl | rfl
   all_goals
    go_enter Tryz.func118, Tryz.ntmps118
    go_wp2_with fail
   ·go_quiet (fail)
    go_wp2_with fail
    go_ret
    exact ⟨rfl, below_drewN (Below.refl _ w) _⟩
   ·go_quiet (fail)
    go_wp2_with fail
    go_ret
    exact ⟨rfl, below_drewN (Below.refl _ w) _⟩
   ·go_ret
    exact ⟨rfl, Below.refl _ _⟩
   ·go_ret
    exact ⟨rfl, Below.refl _ _⟩
theorem results_desc {fn : Func} {p u : Tmp} (h : fn.results = #[.cell p 24, .tmp u]) (tmps : Array Value) (w : World) (g : Nat) (x y : Value)
  (hp : tmps.getD p undef = .pointer (some ⟨g, 0, none⟩)) (hg : Has w g 24 [x, y]) : (results fn tmps).run Tryz.prog w = .ok (.tuple #[.agg #[x, y], tmps.getD u undef]) w := by
 rw [results_cell_tmp h, hp]
 have h1 := run_loadVar_row (P := Tryz.prog) w g 24 24 #[x, y] (0, 0) _ hg Tryz.underlying24 rfl (by kernel_rfl)
 simp [asAddr, h1, Result.andThen]
set_option maxRecDepth 100000 in
set_option maxHeartbeats 8000000 in
theorem looks_c (ts : List Ten) (B : Option Addr) (cap : Nat) (ah am ar : Addr) (w : World) (hT : Row w B (ts.flatMap Ten.vals)) (hI : ∀ t ∈ ts, t.In w) (hl : ts.length ≤ 1000000) (hE : E3 w ah am ar) :
  Calls Tryz.prog 81 #[.slice B ts.length cap] w fun e w' =>
   (∃ v x, e = .returned (.tuple #[v, x]) ∧ (Tens.first ts = (0, none) → x = .nilIface ∧ w'.ownsRow w.heap.size 24 2 v ts.length (ts.flatMap fun t => t.look.vals)) ∧ (Tens.first ts ≠ (0, none) → v = .slice none 0 0 ∧ TErr w' ah am ar x (Tens.first ts))) ∧ Below w.heap.size w w' := by
 have V : Hid (∀ (i : Nat) (t : Ten), ts[i]? = some t → ∀ W, Below w.heap.size w W → Calls Tryz.prog 94 #[.agg (tcells t.P t.zs.length t.cap t.u t.D t.ds.length t.dcap)] W fun e w' => (∃ v, e = .returned v ∧ TErr w' ah am ar v t.fault) ∧ Below W.heap.size W w') := hide fun i t ht W hb => by
  have h := (hI t (List.mem_of_getElem? ht)).below hb
  exact tvalid_c t.zs t.ds t.P t.D t.cap t.dcap t.u ah am ar W h.shp h.dat (by have := h.ls; omega) (by have := h.ld; omega) (hE.below hb)
 have HR := hide hT
 obtain ⟨i0, hi0, hz0, hz1, hz2⟩ := descinfo
 have HI0 := hide hi0
 have HZ0 := hide hz0
 have HZ1 := hide hz1
 have HZ2 := hide hz2
 have HU := hide uds
 clear hi0 hz0 hz1 hz2 hT hI hE
 obtain ⟨n, hn⟩ : ∃ n, Hid (ts.length = n) := ⟨_, hide rfl⟩
 rw [hn.out] at hl ⊢
 go_enter Tryz.func81, Tryz.ntmps81
 go_wp2_with fail
 go_loopw [4, 10] (fun v k wr => ∃ i : Nat, i ≤ n ∧ k = .int .i64 i ∧ Hid (wr.ownsRow w.heap.size 24 2 v i ((ts.take i).flatMap fun t => t.look.vals)) ∧ Hid (Below w.heap.size w wr) ∧ Hid (∀ (j : Nat) x, j < i → ts[j]? = some x → x.fault = (0, none))) (fun _ k _ => n - (intOf k).toNat)
 case atStart => exact ⟨0, by omega, rfl, hide ⟨rfl, .inl ⟨rfl, rfl⟩⟩, hide (Below.refl _ _), hide (fun j x hj => by omega)⟩
 case round =>
  obtain ⟨i, hi, rfl, HO, HB, HF⟩ := hrel
  by_cases hlt : i < n
  ·obtain ⟨ad, t, rfl, had, ht, c0, c1, c2⟩ := row_ten (HR.out.below HB.out) i (by rw [hn.out]; exact hlt)
   have hx := Has.new wr 26 t.vals
   have HBx := hide (HB.out.alloc HB.out.size (.cells t.vals.toArray 26))
   have HOx := hide (HO.out.alloc (.cells t.vals.toArray 26))
   have HX := hide hx
   have HV := hide (V.out i t ht.out _ HBx.out)
   have hcs := tfault_cases t.zs t.u t.ds
   have hek : Ten.fault t = Tens.fault t.zs t.u t.ds := rfl
   rw [← hek] at hcs
   clear hek hx HO HB V
   go_wp2_with fail
   clear c0 c1 c2 had
   refine HV.out.mono ?_
   rintro e w1 ⟨⟨v, rfl, hv⟩, hb⟩
   have HB := hide (HBx.out.trans (hb.mono HBx.out.size))
   have hx := HX.out.below hb HX.out.lt
   have hown := own_kept HOx.out hb
   clear HV HBx HOx HX hb
   have c3 : w1.cell? ⟨wr.heap.size, 0, none⟩ = some (.slice t.P t.zs.length t.cap) := hx.cell 0
   have c4 : w1.cell? ⟨wr.heap.size, 1, none⟩ = some (.bool t.u) := hx.cell 1
   clear hx
   by_cases hf : t.fault = (0, none)
   ·rw [hf] at hv
    obtain rfl : v = .nilIface := hv
    have hown2 := hide (hown.alloc (.cells #[.slice t.P t.zs.length t.cap, .bool t.u] 24))
    have HB2 := hide (HB.out.alloc HB.out.size (.cells #[.slice t.P t.zs.length t.cap, .bool t.u] 24))
    have hsz := hide HB2.out.size
    have hnw := hide (new_cells w1 24 [.slice t.P t.zs.length t.cap, .bool t.u])
    have h1w : Hid (∀ x ∈ [Value.slice t.P t.zs.length t.cap, .bool t.u], x.oneCell' = true) := hide (by
     intro x hx
     simp at hx
     rcases hx with rfl | rfl
     all_goals rfl)
    have HFt := hide hf
    clear hown HB hcs hf
    go_wp2_with (at_builtin; refine wpList_append_own_at _ rfl _ _ 45 rfl w.heap.size 24 i0 (.agg #[.slice none 0 0, .bool false]) 2 32 HU.out HI0.out HZ0.out HZ1.out HZ2.out rfl (by decide) _ i _ rfl hown2.out ⟨w1.heap.size, 0, none⟩ 1 1 [.slice t.P t.zs.length t.cap, .bool t.u] rfl rfl hnw.out h1w.out (by unfold maxLen; omega) (by omega) hsz.out ?_)
    intro s0 W0 hown' hgrow hnil hat
    have HB := hide (elm_grown HB2.out hown2.out HB2.out.size hgrow)
    have HO := hide hown'
    clear HB2 hown2 hown' hgrow hnw h1w hsz c3 c4 hnil hat
    go_wp2_with fail
    go_roundw
    case rel =>
     refine ⟨i + 1, by omega, by go_num, hide ?_, HB, hide (fun j x hj hx => ?_)⟩
     ·have h := HO.out
      rw [List.take_add_one, ht.out, Option.toList_some, List.flatMap_append, List.flatMap_cons, List.flatMap_nil, List.append_nil]
      exact h
     ·rcases Nat.lt_or_ge j i with h | h
      ·exact HF.out j x h hx
      ·obtain rfl : j = i := by omega
       rw [ht.out] at hx
       obtain rfl := Option.some.inj hx
       exact HFt.out
    case measure => simp [intOf]; omega
   ·have hE := hv.errv hcs hf
    have e1 := hide (Tens.first_at ts i t ht.out HF.out hf)
    have HV := hide hv
    have HN := hide hf
    have r1 := run_neqerr hE
    have r2 := run_neqguard hE
    clear hown hf hv hcs c3 c4 hE
    go_wp2_with fail
    refine bodyPost_ret (results_two rfl _ _) rfl ?_
    refine ⟨⟨_, _, rfl, fun h => ?_, fun _ => ⟨rfl, ?_⟩⟩, HB.out⟩
    ·rw [e1.out] at h
     exact absurd h HN.out
    ·rw [e1.out]
     exact HV.out
  ·obtain rfl : i = n := by omega
   have hl2 : ts.take i = ts := List.take_of_length_le (by rw [hn.out]; exact Nat.le_refl _)
   rw [hl2] at HO
   have e1 := hide (Tens.first_none ts fun j x hx => HF.out j x (by have := (List.getElem?_eq_some_iff.1 hx).1; rw [hn.out] at this; exact this) hx)
   clear hl2 HF
   go_wp2_with fail
   refine bodyPost_ret (results_two rfl _ _) rfl ?_
   exact ⟨⟨_, _, rfl, fun _ => ⟨rfl, HO.out⟩, fun h => absurd e1.out h⟩, HB.out⟩
def E4 (w : World) (ah am ar ak : Addr) : Prop := E3 w ah am ar ∧ ErrIs w 0 ak
theorem E4.below {w wr : World} {ah am ar ak : Addr} (h : E4 w ah am ar ak) (hb : Below w.heap.size w wr) : E4 wr ah am ar ak := ⟨h.1.below hb, h.2.below hb⟩
def Elm.err (ah am ar ak : Addr) (k : Nat) : Value := if k = 103 then errv ak else Tens.err ah am ar k
theorem elm_two {w W : World} {b base : Nat} {t : TypeId} {x y : Value} (hz : Has W b t [x, y]) (hB : Below base w W) (hb : base ≤ b) (v1 v2 : Value) : W.cell? ⟨b, 0, none⟩ = some x ∧ W.cell? ⟨b, 1, none⟩ = some y ∧ W.frozen? ⟨b, 0, none⟩ = false ∧ W.frozen? ⟨b, 1, none⟩ = false ∧
  Hid (Has ((W.setCell ⟨b, 0, none⟩ v1).setCell ⟨b, 1, none⟩ v2) b t [v1, v2]) ∧ Hid (Below base w ((W.setCell ⟨b, 0, none⟩ v1).setCell ⟨b, 1, none⟩ v2)) :=
 ⟨hz.cell 0, hz.cell 1, hz.frozen 0, hz.frozen 1, (hz.set_ 0 v1).set_ 1 v2, (hB.setCell (p := ⟨b, 0, none⟩) hb v1).setCell (p := ⟨b, 1, none⟩) hb v2⟩
theorem elm_twod {w W : World} {b base : Nat} {t : TypeId} {x y : Value} (hz : Has W b t [x, y]) (hB : Below base w W) (hb : base ≤ b) (v1 v2 : Value) : W.cell? ⟨b, 0, none⟩ = some x ∧ W.cell? ⟨b, 1, none⟩ = some y ∧ W.frozen? ⟨b, 0, none⟩ = false ∧ W.frozen? ⟨b, 1, none⟩ = false ∧
  Hid (Has ((W.drew.setCell ⟨b, 0, none⟩ v1).setCell ⟨b, 1, none⟩ v2) b t [v1, v2]) ∧ Hid (Below base w ((W.drew.setCell ⟨b, 0, none⟩ v1).setCell ⟨b, 1, none⟩ v2)) :=
 ⟨hz.cell 0, hz.cell 1, hz.frozen 0, hz.frozen 1, ((hz.drewN 1).set_ 0 v1).set_ 1 v2, (hB.drew.setCell (p := ⟨b, 0, none⟩) hb v1).setCell (p := ⟨b, 1, none⟩) hb v2⟩
theorem elm_three {w W : World} {b base : Nat} {t : TypeId} {x y z : Value} (hz : Has W b t [x, y, z]) (hB : Below base w W) (hb : base ≤ b) (v1 v2 v3 : Value) : W.cell? ⟨b, 0, none⟩ = some x ∧ W.cell? ⟨b, 1, none⟩ = some y ∧ W.cell? ⟨b, 2, none⟩ = some z ∧ W.frozen? ⟨b, 0, none⟩ = false ∧ W.frozen? ⟨b, 1, none⟩ = false ∧ W.frozen? ⟨b, 2, none⟩ = false ∧
  Hid (Has (((W.setCell ⟨b, 0, none⟩ v1).setCell ⟨b, 1, none⟩ v2).setCell ⟨b, 2, none⟩ v3) b t [v1, v2, v3]) ∧ Hid (Below base w (((W.setCell ⟨b, 0, none⟩ v1).setCell ⟨b, 1, none⟩ v2).setCell ⟨b, 2, none⟩ v3)) :=
 ⟨hz.cell 0, hz.cell 1, hz.cell 2, hz.frozen 0, hz.frozen 1, hz.frozen 2, ((hz.set_ 0 v1).set_ 1 v2).set_ 2 v3, ((hB.setCell (p := ⟨b, 0, none⟩) hb v1).setCell (p := ⟨b, 1, none⟩) hb v2).setCell (p := ⟨b, 2, none⟩) hb v3⟩
def Shp.firstbad : List Dsc → Nat
 | [] => 0
 | d :: l => if Shp.code d.zs = 0 then Shp.firstbad l else Shp.code d.zs
theorem Shp.first_at (ts : List Dsc) (i : Nat) (t : Dsc) (h : ts[i]? = some t) (hj : ∀ (j : Nat) x, j < i → ts[j]? = some x → Shp.code x.zs = 0) (hf : Shp.code t.zs ≠ 0) : Shp.firstbad ts = Shp.code t.zs := by
 induction ts generalizing i with
 | nil => simp at h
 | cons x l ih =>
  cases i with
  | zero =>
   simp at h
   subst h
   unfold Shp.firstbad
   rw [if_neg hf]
  | succ i =>
   unfold Shp.firstbad
   rw [if_pos (hj 0 x (Nat.succ_pos i) rfl)]
   exact ih i (by simpa using h) fun j y hji hy => hj (j + 1) y (by omega) (by simpa using hy)
theorem Shp.first_none (ts : List Dsc) (h : ∀ (j : Nat) x, ts[j]? = some x → Shp.code x.zs = 0) : Shp.firstbad ts = 0 := by
 induction ts with
 | nil => rfl
 | cons x l ih =>
  unfold Shp.firstbad
  rw [if_pos (h 0 x rfl)]
  exact ih fun j y hy => h (j + 1) y (by simpa using hy)
def Elm.code (op : Int) (qs : List Int) (ds : List Dsc) : Nat :=
 if Elm.known op = false then 103 else if ds.length ≠ Elm.nins op ∨ qs.length ≠ Elm.nargs op then 101 else if Shp.firstbad ds ≠ 0 then Shp.firstbad ds
 else if Elm.alike op ds = false then 101 else if Elm.may op ((ds.head?.map (·.u)).getD false) qs = false then 102 else 0
def Elm.wide (op : Int) (u : Bool) : Bool := (op == 11) || (u && (op != 10))
def Elm.shape (op : Int) (qs : List Int) (ds : List Dsc) : List Int := if Elm.code op qs ds = 0 then (ds.head?.map (·.zs)).getD [] else []
def Elm.kind (op : Int) (qs : List Int) (ds : List Dsc) : Bool := if Elm.code op qs ds = 0 then Elm.wide op ((ds.head?.map (·.u)).getD false) else false
theorem Elm.err_v {ah am ar ak : Addr} {k : Nat} (h : k = 101 ∨ k = 102 ∨ k = 103 ∨ k = 104) : ErrV (Elm.err ah am ar ak k) := by
 rcases h with rfl | rfl | rfl | rfl
 all_goals exact .inl ⟨_, rfl⟩
theorem Shp.err_v {am ar : Addr} {k : Nat} (h : k = 104 ∨ k = 102 ∨ k = 0) (hk : k ≠ 0) : ErrV (Shp.err am ar k) := by
 rcases h with rfl | rfl | rfl
 ·exact .inl ⟨_, rfl⟩
 ·exact .inl ⟨_, rfl⟩
 ·exact absurd rfl hk
theorem Elm.err_shp (ah am ar ak : Addr) (k : Nat) (h : k = 104 ∨ k = 102 ∨ k = 0) : Elm.err ah am ar ak k = Shp.err am ar k := by
 rcases h with rfl | rfl | rfl
 all_goals rfl
theorem elm_block (a : Addr) (i : Nat) : (a.add i).block = a.block := by
 unfold Addr.add
 repeat' split
 all_goals rfl
def Elm.part (op : Int) (u : Bool) (qs ds es : List Int) (f m : Nat) : List Int := (List.range m).map fun i => Elm.val op u (ds.getD (f + i) 0) (es.getD (f + i) 0) qs
theorem Elm.part_length (op : Int) (u : Bool) (qs ds es : List Int) (f m : Nat) : (Elm.part op u qs ds es f m).length = m := by simp [Elm.part]
theorem Elm.part_at (op : Int) (u : Bool) (qs ds es : List Int) (f m i : Nat) (x y : Int) (hi : i < m) (hx : ds[f + i]? = some x) (hy : es[f + i]? = some y) : (Elm.part op u qs ds es f m)[i]? = some (Elm.val op u x y qs) := by
 unfold Elm.part
 rw [List.getElem?_map, List.getElem?_range hi]
 simp only [Option.map_some, List.getD_eq_getElem?_getD, hx, hy, Option.getD_some]
set_option maxRecDepth 100000 in
set_option maxHeartbeats 8000000 in
theorem pointwise_c (op : Int) (ho : 4 ≤ op ∧ op ≤ 11) (qs os : List Int) (ts : List Ten) (a b : Ten) (hts : (ts = [a] ∧ b = a) ∨ ts = [a, b]) (A B : Option Addr) (qcap bcap ocap : Nat) (f g : Nat) (w0 w : World)
  (hql : qs.length = Elm.nargs op) (hQ : Ri w0 A qs) (ha : a.In w0) (hb : b.In w0) (hB : Below w0.heap.size w0 w) (hg0 : w0.heap.size ≤ g) (hG : Has w g 3 (i64s os)) (hl : f + os.length ≤ a.ds.length) (hl2 : f + os.length ≤ b.ds.length) (hR : Row w B (ts.flatMap Ten.vals)) :
  Calls Tryz.prog 114 #[.slice (some ⟨g, 0, none⟩) os.length ocap, .int .i64 f, .int .i64 op, .slice A qs.length qcap, .slice B ts.length bcap] w fun e w' => e = .returned (.tuple #[]) ∧ Has w' g 3 (i64s (Elm.part op a.u qs a.ds b.ds f os.length)) ∧ Below w0.heap.size w0 w' := by
 have V := hide (fun x y W (h : Below w0.heap.size w0 W) => value_c op ho a.u x y qs A qcap W hql (hQ.below h))
 obtain ⟨r, hrr⟩ : ∃ r, Hid (Elm.part op a.u qs a.ds b.ds f os.length = r) := ⟨_, hide rfl⟩
 have hrl : Hid (r.length = os.length) := hide (by rw [← hrr.out]; exact Elm.part_length _ _ _ _ _ _ _)
 have hri : Hid (∀ (i : Nat) (x y : Int), i < os.length → a.ds[f + i]? = some x → b.ds[f + i]? = some y → r[i]? = some (Elm.val op a.u x y qs)) := hide (fun i x y hi hx hy => by
  rw [← hrr.out]
  exact Elm.part_at _ _ _ _ _ _ _ _ _ _ hi hx hy)
 rw [hrr.out]
 clear hrr
 have HA := hide ha.dat
 have HA2 := hide hb.dat
 have hda := ha.ld
 have hdb := hb.ld
 obtain ⟨na, hna⟩ : ∃ n, Hid (a.ds.length = n) := ⟨_, hide rfl⟩
 obtain ⟨nb, hnb⟩ : ∃ n, Hid (b.ds.length = n) := ⟨_, hide rfl⟩
 obtain ⟨n, hn⟩ : ∃ n, Hid (os.length = n) := ⟨_, hide rfl⟩
 obtain ⟨nq, hnq⟩ : ∃ n, Hid (qs.length = n) := ⟨_, hide rfl⟩
 rw [hna.out] at hl hda
 rw [hnb.out] at hl2 hdb
 rw [hn.out] at hl hl2 hrl hri ⊢
 rw [hnq.out] at V ⊢
 have hwf : IntKind.i64.wrap (f : Int) = (f : Int) := by rw [IntKind.wrap_i64]; omega
 have hgl := hG.lt
 have hsz := hB.size
 have HX := hide ((Has.new w 26 a.vals).alloc (.cells b.vals.toArray 26))
 have HY : Hid (Has ((w.alloc (.cells a.vals.toArray 26)).alloc (.cells b.vals.toArray 26)) (w.heap.size + 1) 26 b.vals) := hide (by
  have h := Has.new (w.alloc (.cells a.vals.toArray 26)) 26 b.vals
  simpa using h)
 have HG := hide ((hG.alloc (.cells a.vals.toArray 26)).alloc (.cells b.vals.toArray 26))
 have HB := hide ((hB.alloc hB.size (.cells a.vals.toArray 26)).alloc (by have := hB.size; simp; omega) (.cells b.vals.toArray 26))
 unfold Ten.vals at HX HY HG HB
 rw [hna.out] at HX HY HG HB
 rw [hnb.out] at HX HY HG HB
 have HOL := hide hn.out
 have pre : ∃ ad, B = some ad ∧ ad.block < w.heap.size ∧ w.cell? ad = some (.slice a.P a.zs.length a.cap) ∧ w.cell? ⟨ad.block, ad.off + 1, none⟩ = some (.bool a.u) ∧ w.cell? ⟨ad.block, ad.off + 2, none⟩ = some (.slice a.D na a.dcap) ∧
   ((ts.length = 1 ∧ b = a ∧ nb = na) ∨ (ts.length = 2 ∧ w.cell? ⟨ad.block, ad.off + 3, none⟩ = some (.slice b.P b.zs.length b.cap) ∧ w.cell? ⟨ad.block, ad.off + 4, none⟩ = some (.bool b.u) ∧ w.cell? ⟨ad.block, ad.off + 5, none⟩ = some (.slice b.D nb b.dcap))) := by
  rcases hts with ⟨rfl, rfl⟩ | rfl
  ·obtain ⟨ad, h1, h2, h3⟩ := hR (by simp [Ten.vals])
   have c0 := h3 0 _ rfl
   have c1 := h3 1 _ rfl
   have c2 := h3 2 _ rfl
   rw [Addr.add_zero'] at c0
   simp only [Addr.add, Nat.reduceEqDiff, if_false] at c1 c2
   rw [hna.out] at c2
   exact ⟨ad, h1, h2, c0, c1, c2, .inl ⟨rfl, rfl, hnb.out.symm.trans hna.out⟩⟩
  ·obtain ⟨ad, h1, h2, h3⟩ := hR (by simp [Ten.vals])
   have c0 := h3 0 _ rfl
   have c1 := h3 1 _ rfl
   have c2 := h3 2 _ rfl
   have c3 := h3 3 _ rfl
   have c4 := h3 4 _ rfl
   have c5 := h3 5 _ rfl
   rw [Addr.add_zero'] at c0
   simp only [Addr.add, Nat.reduceEqDiff, if_false] at c1 c2 c3 c4 c5
   rw [hna.out] at c2
   rw [hnb.out] at c5
   exact ⟨ad, h1, h2, c0, c1, c2, .inr ⟨rfl, c3, c4, c5⟩⟩
 obtain ⟨ad0, rfl, hadl, c0, c1, c2, hrest⟩ := pre
 have HLA := hide hna.out
 have HLB := hide hnb.out
 clear hts hql hQ ha hb hB hG hR hn hna hnb
 rcases hrest with ⟨hl1, hab, hnn⟩ | ⟨hl1, c3, c4, c5⟩
 case' inl =>
  subst hab
  subst hnn
 all_goals
  rw [hl1]
  clear hl1
  go_enter Tryz.func114, Tryz.ntmps114
  go_wp2_with fail
 ·generalize ((w.alloc (.cells #[.slice b.P b.zs.length b.cap, .bool b.u, .slice b.D nb b.dcap] 26)).alloc (.cells #[.slice b.P b.zs.length b.cap, .bool b.u, .slice b.D nb b.dcap] 26)) = W at *
  clear c0 c1 c2 hadl
  go_loopw [24] (fun k wr => ∃ (i : Nat) (xs : List Int), i ≤ n ∧ k = .int .i64 i ∧ Hid (xs.length = n) ∧ Hid (∀ j, j < i → xs[j]? = r[j]?) ∧ Hid (Has wr g 3 (i64s xs)) ∧ Hid (Has wr w.heap.size 26 [.slice b.P b.zs.length b.cap, .bool b.u, .slice b.D nb b.dcap]) ∧ Hid (Has wr (w.heap.size + 1) 26 [.slice b.P b.zs.length b.cap, .bool b.u, .slice b.D nb b.dcap]) ∧ Hid (Below w0.heap.size w0 wr)) (fun k _ => n - (intOf k).toNat)
  case atStart => exact ⟨0, os, by omega, rfl, HOL, hide (fun j hj => by omega), HG, HX, HY, HB⟩
  case round =>
   clear HG HX HY HB
   obtain ⟨i, xs, hi, rfl, HN, HI, HG, HX, HY, HB⟩ := hrel
   by_cases hlt : i < n
   ·obtain ⟨ad, x, hAD, ex, cx⟩ := ri_at (HA.out.below HB.out) (f + i) (by rw [HLA.out]; omega)
    obtain ⟨bd, y, hBD, ey, cy⟩ := ri_at (HA2.out.below HB.out) (f + i) (by rw [HLB.out]; omega)
    have him : (i : Int) < n := by omega
    have hi0 : (0 : Int) ≤ (i : Int) := by omega
    have hw2 : IntKind.i64.wrap (i : Int) = (i : Int) := by rw [IntKind.wrap_i64]; omega
    obtain ⟨s, hs⟩ : ∃ s, Hid (f + i = s) := ⟨_, hide rfl⟩
    have hss := hs.out
    have hw1 : IntKind.i64.wrap ((f : Int) + (i : Int)) = (s : Int) := by rw [IntKind.wrap_i64]; omega
    have hfa : (s : Int) < nb := by omega
    have hfb : (s : Int) < nb := by omega
    have hf0 : (0 : Int) ≤ (s : Int) := by omega
    rw [hss] at cx cy
    clear hss
    have hv := hri.out i x y hlt ex.out ey.out
    have hab : g ≠ ad.block := by
     obtain ⟨ad', h1, h2, -⟩ := HA.out.2 (by intro h; rw [h] at ex; have h := ex.out; simp at h)
     rw [hAD] at h1
     have h1 : ad = ad' := Option.some.inj h1
     subst h1
     omega
    have hbb : g ≠ bd.block := by
     obtain ⟨ad', h1, h2, -⟩ := HA2.out.2 (by intro h; rw [h] at ey; have h := ey.out; simp at h)
     rw [hBD] at h1
     have h1 : bd = ad' := Option.some.inj h1
     subst h1
     omega
    rw [hAD] at HX
    rw [hBD] at HY
    have a1 : wr.cell? ⟨w.heap.size, 1, none⟩ = some (.bool b.u) := HX.out.cell 1
    have a2 : wr.cell? ⟨w.heap.size, 2, none⟩ = some (.slice (some ad) nb b.dcap) := HX.out.cell 2
    have b2 : wr.cell? ⟨w.heap.size + 1, 2, none⟩ = some (.slice (some bd) nb b.dcap) := HY.out.cell 2
    have g1 : wr.cell? ⟨g, i, none⟩ = some (.int .i64 (xs[i]'(by rw [HN.out]; exact hlt))) := by
     rw [HG.out.cell]
     unfold i64s
     rw [List.getElem?_map, List.getElem?_eq_getElem (by rw [HN.out]; exact hlt)]
     rfl
    have gf := HG.out.frozen i
    obtain ⟨v, hvv⟩ : ∃ v, Hid (Elm.val op b.u x y qs = v) := ⟨_, hide rfl⟩
    have HV := hide (V.out x y)
    rw [hvv.out] at hv HV
    have HV2 := hide hv
    have HBd := hide (show Below w0.heap.size w0 wr.drew from HB.out.drew)
    have HAD := hide hAD
    have HBD := hide hBD
    clear hv hAD hBD
    have hS0 : wr.drew.cell? ⟨w.heap.size, 1, none⟩ = some (.bool b.u) ∧ wr.drew.cell? ⟨w.heap.size, 2, none⟩ = some (.slice (some ad) nb b.dcap) ∧ wr.drew.cell? ⟨w.heap.size + 1, 2, none⟩ = some (.slice (some bd) nb b.dcap) ∧ wr.drew.cell? (ad.add s) = some (.int .i64 x) ∧ wr.drew.cell? (bd.add s) = some (.int .i64 y) := ⟨a1, a2, b2, cx, cy⟩
    have hS1 : ∀ k, ((wr.drewN (1 + k)).setCell ⟨g, i, none⟩ (.int .i64 v)).cell? ⟨w.heap.size, 1, none⟩ = some (.bool b.u) ∧ ((wr.drewN (1 + k)).setCell ⟨g, i, none⟩ (.int .i64 v)).cell? ⟨w.heap.size, 2, none⟩ = some (.slice (some ad) nb b.dcap) ∧ ((wr.drewN (1 + k)).setCell ⟨g, i, none⟩ (.int .i64 v)).cell? ⟨w.heap.size + 1, 2, none⟩ = some (.slice (some bd) nb b.dcap) ∧ ((wr.drewN (1 + k)).setCell ⟨g, i, none⟩ (.int .i64 v)).cell? (ad.add s) = some (.int .i64 x) ∧ ((wr.drewN (1 + k)).setCell ⟨g, i, none⟩ (.int .i64 v)).cell? (bd.add s) = some (.int .i64 y) := fun k =>
     ⟨(World.cell?_setCell_far (wr.drewN (1 + k)) _ _ _ (by simp; omega)).trans a1, (World.cell?_setCell_far (wr.drewN (1 + k)) _ _ _ (by simp; omega)).trans a2, (World.cell?_setCell_far (wr.drewN (1 + k)) _ _ _ (by simp; omega)).trans b2, (World.cell?_setCell_far (wr.drewN (1 + k)) _ _ _ (by rw [elm_block]; exact hab)).trans cx, (World.cell?_setCell_far (wr.drewN (1 + k)) _ _ _ (by rw [elm_block]; exact hbb)).trans cy⟩
    go_wp2_with fail
    go_region_held3 (fun W => W.cell? ⟨w.heap.size, 1, none⟩ = some (.bool b.u) ∧ W.cell? ⟨w.heap.size, 2, none⟩ = some (.slice (some ad) nb b.dcap) ∧ W.cell? ⟨w.heap.size + 1, 2, none⟩ = some (.slice (some bd) nb b.dcap) ∧ W.cell? (ad.add s) = some (.int .i64 x) ∧ W.cell? (bd.add s) = some (.int .i64 y))
     (first | exact hS0 | exact hS1 _ | assumption)
     (first
      | (go_at_call 128; refine (HV.out _ HBd.out).mono ?_; rintro e W2 ⟨rfl, kk, rfl⟩))
    go_wp2_with fail
    go_roundw
    case rel =>
     refine ⟨i + 1, xs.set i v, by omega, by go_num, hide (by rw [List.length_set]; exact HN.out), hide (fun j hj => ?_), ?_, ?_, ?_, ?_⟩
     ·rw [List.getElem?_set]
      split
      ·rename_i h
       subst h
       rw [if_pos (by rw [HN.out]; exact hlt), HV2.out]
      ·exact HI.out j (by omega)
     ·have h := (HG.out.drewN (1 + kk)).set_ i (.int .i64 v)
      unfold i64s at h ⊢
      rw [List.map_set]
      exact hide h
     ·have h := hide ((HX.out.drewN (1 + kk)).far (p := ⟨g, i, none⟩) (by simp; omega) (.int .i64 v))
      rw [← HAD.out] at h
      exact h
     ·have h := hide ((HY.out.drewN (1 + kk)).far (p := ⟨g, i, none⟩) (by simp; omega) (.int .i64 v))
      rw [← HBD.out] at h
      exact h
     ·exact hide ((below_drewN HB.out (1 + kk)).setCell (p := ⟨g, i, none⟩) hg0 (.int .i64 v))
    case measure => simp [intOf]; omega
   ·obtain rfl : i = n := by omega
    have hx : xs = r := List.ext_getElem? (fun j => by
     rcases Nat.lt_or_ge j i with h | h
     ·exact HI.out j h
     ·rw [List.getElem?_eq_none (by rw [HN.out]; exact h), List.getElem?_eq_none (by rw [hrl.out]; exact h)])
    subst hx
    go_wp2_with fail
    refine bodyPost_end (results_none rfl _ _ _) rfl ?_
    exact ⟨rfl, HG.out, HB.out⟩
 ·generalize ((w.alloc (.cells #[.slice a.P a.zs.length a.cap, .bool a.u, .slice a.D na a.dcap] 26)).alloc (.cells #[.slice b.P b.zs.length b.cap, .bool b.u, .slice b.D nb b.dcap] 26)) = W at *
  clear c0 c1 c2 c3 c4 c5 hadl
  go_loopw [24] (fun k wr => ∃ (i : Nat) (xs : List Int), i ≤ n ∧ k = .int .i64 i ∧ Hid (xs.length = n) ∧ Hid (∀ j, j < i → xs[j]? = r[j]?) ∧ Hid (Has wr g 3 (i64s xs)) ∧ Hid (Has wr w.heap.size 26 [.slice a.P a.zs.length a.cap, .bool a.u, .slice a.D na a.dcap]) ∧ Hid (Has wr (w.heap.size + 1) 26 [.slice b.P b.zs.length b.cap, .bool b.u, .slice b.D nb b.dcap]) ∧ Hid (Below w0.heap.size w0 wr)) (fun k _ => n - (intOf k).toNat)
  case atStart => exact ⟨0, os, by omega, rfl, HOL, hide (fun j hj => by omega), HG, HX, HY, HB⟩
  case round =>
   clear HG HX HY HB
   obtain ⟨i, xs, hi, rfl, HN, HI, HG, HX, HY, HB⟩ := hrel
   by_cases hlt : i < n
   ·obtain ⟨ad, x, hAD, ex, cx⟩ := ri_at (HA.out.below HB.out) (f + i) (by rw [HLA.out]; omega)
    obtain ⟨bd, y, hBD, ey, cy⟩ := ri_at (HA2.out.below HB.out) (f + i) (by rw [HLB.out]; omega)
    have him : (i : Int) < n := by omega
    have hi0 : (0 : Int) ≤ (i : Int) := by omega
    have hw2 : IntKind.i64.wrap (i : Int) = (i : Int) := by rw [IntKind.wrap_i64]; omega
    obtain ⟨s, hs⟩ : ∃ s, Hid (f + i = s) := ⟨_, hide rfl⟩
    have hss := hs.out
    have hw1 : IntKind.i64.wrap ((f : Int) + (i : Int)) = (s : Int) := by rw [IntKind.wrap_i64]; omega
    have hfa : (s : Int) < na := by omega
    have hfb : (s : Int) < nb := by omega
    have hf0 : (0 : Int) ≤ (s : Int) := by omega
    rw [hss] at cx cy
    clear hss
    have hv := hri.out i x y hlt ex.out ey.out
    have hab : g ≠ ad.block := by
     obtain ⟨ad', h1, h2, -⟩ := HA.out.2 (by intro h; rw [h] at ex; have h := ex.out; simp at h)
     rw [hAD] at h1
     have h1 : ad = ad' := Option.some.inj h1
     subst h1
     omega
    have hbb : g ≠ bd.block := by
     obtain ⟨ad', h1, h2, -⟩ := HA2.out.2 (by intro h; rw [h] at ey; have h := ey.out; simp at h)
     rw [hBD] at h1
     have h1 : bd = ad' := Option.some.inj h1
     subst h1
     omega
    rw [hAD] at HX
    rw [hBD] at HY
    have a1 : wr.cell? ⟨w.heap.size, 1, none⟩ = some (.bool a.u) := HX.out.cell 1
    have a2 : wr.cell? ⟨w.heap.size, 2, none⟩ = some (.slice (some ad) na a.dcap) := HX.out.cell 2
    have b2 : wr.cell? ⟨w.heap.size + 1, 2, none⟩ = some (.slice (some bd) nb b.dcap) := HY.out.cell 2
    have g1 : wr.cell? ⟨g, i, none⟩ = some (.int .i64 (xs[i]'(by rw [HN.out]; exact hlt))) := by
     rw [HG.out.cell]
     unfold i64s
     rw [List.getElem?_map, List.getElem?_eq_getElem (by rw [HN.out]; exact hlt)]
     rfl
    have gf := HG.out.frozen i
    obtain ⟨v, hvv⟩ : ∃ v, Hid (Elm.val op a.u x y qs = v) := ⟨_, hide rfl⟩
    have HV := hide (V.out x y)
    rw [hvv.out] at hv HV
    have HV2 := hide hv
    have HBd := hide (show Below w0.heap.size w0 wr.drew from HB.out.drew)
    have HAD := hide hAD
    have HBD := hide hBD
    clear hv hAD hBD
    have hS0 : wr.drew.cell? ⟨w.heap.size, 1, none⟩ = some (.bool a.u) ∧ wr.drew.cell? ⟨w.heap.size, 2, none⟩ = some (.slice (some ad) na a.dcap) ∧ wr.drew.cell? ⟨w.heap.size + 1, 2, none⟩ = some (.slice (some bd) nb b.dcap) ∧ wr.drew.cell? (ad.add s) = some (.int .i64 x) ∧ wr.drew.cell? (bd.add s) = some (.int .i64 y) := ⟨a1, a2, b2, cx, cy⟩
    have hS1 : ∀ k, ((wr.drewN (1 + k)).setCell ⟨g, i, none⟩ (.int .i64 v)).cell? ⟨w.heap.size, 1, none⟩ = some (.bool a.u) ∧ ((wr.drewN (1 + k)).setCell ⟨g, i, none⟩ (.int .i64 v)).cell? ⟨w.heap.size, 2, none⟩ = some (.slice (some ad) na a.dcap) ∧ ((wr.drewN (1 + k)).setCell ⟨g, i, none⟩ (.int .i64 v)).cell? ⟨w.heap.size + 1, 2, none⟩ = some (.slice (some bd) nb b.dcap) ∧ ((wr.drewN (1 + k)).setCell ⟨g, i, none⟩ (.int .i64 v)).cell? (ad.add s) = some (.int .i64 x) ∧ ((wr.drewN (1 + k)).setCell ⟨g, i, none⟩ (.int .i64 v)).cell? (bd.add s) = some (.int .i64 y) := fun k =>
     ⟨(World.cell?_setCell_far (wr.drewN (1 + k)) _ _ _ (by simp; omega)).trans a1, (World.cell?_setCell_far (wr.drewN (1 + k)) _ _ _ (by simp; omega)).trans a2, (World.cell?_setCell_far (wr.drewN (1 + k)) _ _ _ (by simp; omega)).trans b2, (World.cell?_setCell_far (wr.drewN (1 + k)) _ _ _ (by rw [elm_block]; exact hab)).trans cx, (World.cell?_setCell_far (wr.drewN (1 + k)) _ _ _ (by rw [elm_block]; exact hbb)).trans cy⟩
    go_wp2_with fail
    go_region_held3 (fun W => W.cell? ⟨w.heap.size, 1, none⟩ = some (.bool a.u) ∧ W.cell? ⟨w.heap.size, 2, none⟩ = some (.slice (some ad) na a.dcap) ∧ W.cell? ⟨w.heap.size + 1, 2, none⟩ = some (.slice (some bd) nb b.dcap) ∧ W.cell? (ad.add s) = some (.int .i64 x) ∧ W.cell? (bd.add s) = some (.int .i64 y))
     (first | exact hS0 | exact hS1 _ | assumption)
     (first
      | (go_at_call 128; refine (HV.out _ HBd.out).mono ?_; rintro e W2 ⟨rfl, kk, rfl⟩))
    go_wp2_with fail
    go_roundw
    case rel =>
     refine ⟨i + 1, xs.set i v, by omega, by go_num, hide (by rw [List.length_set]; exact HN.out), hide (fun j hj => ?_), ?_, ?_, ?_, ?_⟩
     ·rw [List.getElem?_set]
      split
      ·rename_i h
       subst h
       rw [if_pos (by rw [HN.out]; exact hlt), HV2.out]
      ·exact HI.out j (by omega)
     ·have h := (HG.out.drewN (1 + kk)).set_ i (.int .i64 v)
      unfold i64s at h ⊢
      rw [List.map_set]
      exact hide h
     ·have h := hide ((HX.out.drewN (1 + kk)).far (p := ⟨g, i, none⟩) (by simp; omega) (.int .i64 v))
      rw [← HAD.out] at h
      exact h
     ·have h := hide ((HY.out.drewN (1 + kk)).far (p := ⟨g, i, none⟩) (by simp; omega) (.int .i64 v))
      rw [← HBD.out] at h
      exact h
     ·exact hide ((below_drewN HB.out (1 + kk)).setCell (p := ⟨g, i, none⟩) hg0 (.int .i64 v))
    case measure => simp [intOf]; omega
   ·obtain rfl : i = n := by omega
    have hx : xs = r := List.ext_getElem? (fun j => by
     rcases Nat.lt_or_ge j i with h | h
     ·exact HI.out j h
     ·rw [List.getElem?_eq_none (by rw [HN.out]; exact h), List.getElem?_eq_none (by rw [hrl.out]; exact h)])
    subst hx
    go_wp2_with fail
    refine bodyPost_end (results_none rfl _ _ _) rfl ?_
    exact ⟨rfl, HG.out, HB.out⟩
set_option maxRecDepth 100000 in
set_option maxHeartbeats 8000000 in
theorem fill_c (op : Int) (ho : 4 ≤ op ∧ op ≤ 11) (qs os : List Int) (ts : List Ten) (a b : Ten) (hts : (ts = [a] ∧ b = a) ∨ ts = [a, b]) (A B : Option Addr) (qcap bcap ocap : Nat) (f g : Nat) (w0 w : World)
  (hql : qs.length = Elm.nargs op) (hQ : Ri w0 A qs) (ha : a.In w0) (hb : b.In w0) (hB : Below w0.heap.size w0 w) (hg0 : w0.heap.size ≤ g) (hG : Has w g 3 (i64s os)) (hl : f + os.length ≤ a.ds.length) (hl2 : f + os.length ≤ b.ds.length) (hR : Row w B (ts.flatMap Ten.vals)) :
  Calls Tryz.prog 96 #[.slice (some ⟨g, 0, none⟩) os.length ocap, .int .i64 f, .int .i64 op, .slice A qs.length qcap, .slice B ts.length bcap] w fun e w' => e = .returned (.tuple #[]) ∧ Has w' g 3 (i64s (Elm.part op a.u qs a.ds b.ds f os.length)) ∧ Below w0.heap.size w0 w' := by
 have V := hide (pointwise_c op ho qs os ts a b hts A B qcap bcap ocap f g w0 w hql hQ ha hb hB hg0 hG hl hl2 hR)
 obtain ⟨n, hn⟩ : ∃ n, os.length = n := ⟨_, rfl⟩
 obtain ⟨nq, hnq⟩ : ∃ n, qs.length = n := ⟨_, rfl⟩
 obtain ⟨nt, hnt⟩ : ∃ n, ts.length = n := ⟨_, rfl⟩
 rw [hn, hnq, hnt] at V
 rw [hn, hnq, hnt]
 clear hn hnq hnt hts hql hQ ha hb hB hG hl hl2 hR
 have e12 : op ≠ 12 := by omega
 have e13 : op ≠ 13 := by omega
 have e14 : op ≠ 14 := by omega
 have e15 : op ≠ 15 := by omega
 have e16 : op ≠ 16 := by omega
 have e17 : op ≠ 17 := by omega
 have e18 : op ≠ 18 := by omega
 have e19 : op ≠ 19 := by omega
 have e20 : op ≠ 20 := by omega
 have e21 : op ≠ 21 := by omega
 clear ho
 go_enter Tryz.func96, Tryz.ntmps96
 go_wp2_with fail
 refine V.out.mono ?_
 rintro e w1 ⟨rfl, h1, h2⟩
 go_wp2_with fail
 refine bodyPost_end (results_none rfl _ _ _) rfl ?_
 exact ⟨rfl, h1, h2⟩
set_option maxRecDepth 100000 in
set_option maxHeartbeats 8000000 in
theorem cof_c (op : Int) (ho : 4 ≤ op ∧ op ≤ 11) (qs : List Int) (ts : List Ten) (a b : Ten) (hts : (ts = [a] ∧ b = a) ∨ ts = [a, b]) (A B : Option Addr) (qcap bcap : Nat) (f n : Nat) (w : World)
  (hql : qs.length = Elm.nargs op) (hQ : Ri w A qs) (ha : a.In w) (hb : b.In w) (hl : f + n ≤ a.ds.length) (hl2 : f + n ≤ b.ds.length) (hR : Row w B (ts.flatMap Ten.vals)) :
  Calls Tryz.prog 83 #[.int .i64 op, .slice A qs.length qcap, .int .i64 f, .int .i64 ((f + n : Nat) : Int), .slice B ts.length bcap] w fun e w' => (∃ g, e = .returned (.slice (some ⟨g, 0, none⟩) n n) ∧ w.heap.size ≤ g ∧ Has w' g 3 (i64s (Elm.part op a.u qs a.ds b.ds f n))) ∧ Below w.heap.size w w' := by
 have hm : n ≤ 1000000 := by have := ha.ld; omega
 obtain ⟨Z, hZ, hmk⟩ := made_ints n hm
 have hG : Has (w.alloc (.cells Z 3)) w.heap.size 3 (i64s (List.replicate n 0)) := by
  rw [hZ.out]
  exact Has.new w _ _
 have hB := (Below.refl w.heap.size w).alloc (Nat.le_refl _) (.cells Z 3)
 have h := fill_c op ho qs (List.replicate n 0) ts a b hts A B qcap bcap n f w.heap.size w _ hql hQ ha hb hB (Nat.le_refl _) hG (by rw [List.length_replicate]; exact hl) (by rw [List.length_replicate]; exact hl2) (hR.below hB)
 rw [List.length_replicate] at h
 have V := hide h
 have hfm : f + n ≤ 1000000 := by have := ha.ld; omega
 obtain ⟨nq, hnq⟩ : ∃ n, qs.length = n := ⟨_, rfl⟩
 obtain ⟨nt, hnt⟩ : ∃ n, ts.length = n := ⟨_, rfl⟩
 rw [hnq, hnt] at V
 rw [hnq, hnt]
 clear hnq hnt hG hB h hl2 hl ho hZ hts hql hQ ha hb hR
 have hw1 : IntKind.i64.wrap (((f + n : Nat) : Int) - (f : Int)) = (n : Int) := by rw [IntKind.wrap_i64]; omega
 have hw0 : wrap64 (((f + n : Nat) : Int) - (f : Int)) = (n : Int) := by unfold wrap64; omega
 obtain ⟨s, hs⟩ : ∃ s, Hid (((f + n : Nat) : Int) = s) := ⟨_, hide rfl⟩
 rw [hs.out] at hw1 hw0 ⊢
 clear hs hfm
 go_enter Tryz.func83, Tryz.ntmps83
 go_wp2_with fail
 refine V.out.mono ?_
 rintro e w1 ⟨rfl, h1, h2⟩
 go_wp2_with fail
 go_ret
 exact ⟨⟨_, rfl, Nat.le_refl _, h1⟩, h2⟩
theorem results_tn {fn : Func} {p u : Tmp} (h : fn.results = #[.cell p 26, .tmp u]) (tmps : Array Value) (w : World) (g : Nat) (x y z : Value)
  (hp : tmps.getD p undef = .pointer (some ⟨g, 0, none⟩)) (hg : Has w g 26 [x, y, z]) : (results fn tmps).run Tryz.prog w = .ok (.tuple #[.agg #[x, y, z], tmps.getD u undef]) w := by
 rw [results_cell_tmp h, hp]
 have h1 := run_loadVar_row (P := Tryz.prog) w g 26 26 #[x, y, z] (0, 0) _ hg Tryz.underlying26 rfl (by kernel_rfl)
 simp [asAddr, h1, Result.andThen]
theorem boxes_two (w : World) (t t2 : TypeId) (xs ys : List Value) : Below w.heap.size w ((w.alloc (Obj.cells xs.toArray t)).alloc (Obj.cells ys.toArray t2)) ∧ Has ((w.alloc (Obj.cells xs.toArray t)).alloc (Obj.cells ys.toArray t2)) w.heap.size t xs ∧
  Has ((w.alloc (Obj.cells xs.toArray t)).alloc (Obj.cells ys.toArray t2)) (w.heap.size + 1) t2 ys := by
 refine ⟨((Below.refl _ w).alloc (Nat.le_refl _) _).alloc (by simp) _, (Has.new w t xs).alloc _, ?_⟩
 have h := Has.new (w.alloc (Obj.cells xs.toArray t)) t2 ys
 simpa using h
abbrev BoxS (w : World) (x y : Value) (W : World) : Prop := W.cell? ⟨w.heap.size, 0, none⟩ = some x ∧ W.cell? ⟨w.heap.size, 1, none⟩ = some y ∧ Hid (Below w.heap.size w W)
theorem BoxS.keep {w : World} {x y : Value} {W W' : World} (h : BoxS w x y W) (hk : w.heap.size < W.heap.size) (hb : Below W.heap.size W W') : BoxS w x y W' :=
 ⟨(hb.cell hk).trans h.1, (hb.cell hk).trans h.2.1, h.2.2.out.trans (hb.mono h.2.2.out.size)⟩
theorem BoxS.of {w W : World} {x y : Value} {t : TypeId} (h : Has W w.heap.size t [x, y]) (hb : Below w.heap.size w W) : BoxS w x y W := ⟨h.cell 0, h.cell 1, hb⟩
set_option maxRecDepth 100000 in
set_option maxHeartbeats 8000000 in
theorem all_c (zs rs : List Int) (P : Option Addr) (cap : Nat) (u : Bool) (op : Int) (A B : Option Addr) (nq qcap nt bcap : Nat) (am ar : Addr) (w : World) (hr : Ri w P zs) (hl : zs.length ≤ 1000000) (hE : E2 w am ar) (hn : (rs.length : Int) = Shp.elems zs)
  (hV : ∀ W, Below w.heap.size w W → Calls Tryz.prog 83 #[.int .i64 op, .slice A nq qcap, .int .i64 0, .int .i64 (rs.length : Int), .slice B nt bcap] W fun e w' => (∃ g, e = .returned (.slice (some ⟨g, 0, none⟩) rs.length rs.length) ∧ W.heap.size ≤ g ∧ Has w' g 3 (i64s rs)) ∧ Below W.heap.size W w') :
  Calls Tryz.prog 59 #[.agg (dcells P zs.length cap u), .int .i64 op, .slice A nq qcap, .slice B nt bcap] w fun e w' => (∃ g, e = .returned (.agg (tcells P zs.length cap u (some ⟨g, 0, none⟩) rs.length rs.length)) ∧ w.heap.size < g ∧ Has w' g 3 (i64s rs)) ∧ Below w.heap.size w w' := by
 obtain ⟨hb1, hT, hZ⟩ := boxes_two w 24 26 [.slice P zs.length cap, .bool u] [.slice none 0 0, .bool false, .slice none 0 0]
 have HI := hide (fun W (hb : Below w.heap.size w W) => elems_c zs P cap am ar W (hr.below hb) (by omega) (hE.below hb))
 have HJ := hide hV
 rw [← hn] at HI
 obtain ⟨n, hnn⟩ : ∃ n, Hid (zs.length = n) := ⟨_, hide rfl⟩
 obtain ⟨m, hm⟩ : ∃ n, Hid (rs.length = n) := ⟨_, hide rfl⟩
 rw [hnn.out] at HI hb1 hT hZ ⊢
 rw [hm.out] at HI HJ ⊢
 clear hr hl hE hn hV hnn hm
 go_enter Tryz.func59, Tryz.ntmps59
 have hS0 := BoxS.of (hT.drewN 1) hb1.drew
 have HB1 := hide hb1.drew
 have HT1 := hide (hT.drewN 1)
 have HZ1 := hide (hZ.drewN 1)
 clear hb1 hT hZ
 go_wp2_with fail
 go_region_held3 (fun W => W.cell? ⟨w.heap.size, 0, none⟩ = some (.slice P n cap) ∧ W.cell? ⟨w.heap.size, 1, none⟩ = some (.bool u) ∧ Hid (Below w.heap.size w W))
  (first | exact hS0 | assumption | exact hS9.out | exact BoxS.keep (by assumption) hsl hb)
  (first
   | (go_at_call 82; refine (HI.out _ HB1.out).mono ?_; rintro e W2 ⟨rfl, hb⟩; have hsl := HT1.out.lt; have hz2 := HZ1.out.below hb HZ1.out.lt; have ht2 := HT1.out.below hb HT1.out.lt; have hB2 := HB1.out.trans (hb.mono HB1.out.size))
   | (go_at_call 83; refine (HJ.out _ hB2).mono ?_; rintro e W3 ⟨⟨g, rfl, hg, hD⟩, hb⟩; have hgl := ht2.lt; have hsl := ht2.lt; have hz3 := hz2.below hb hz2.lt; have ht3 := ht2.below hb ht2.lt; have hB3 := hB2.trans (hb.mono hB2.size); have hz2l := hz2.lt; obtain ⟨z0, z1, z2, zf0, zf1, zf2, HZf, HFf⟩ := elm_three hz3 hB3 (Nat.le_succ _) (.slice P n cap) (.bool u) (.slice (some ⟨g, 0, none⟩) m m); have hDf := hide (((hD.far (p := ⟨w.heap.size + 1, 0, none⟩) (by simp; omega) (.slice P n cap)).far (p := ⟨w.heap.size + 1, 1, none⟩) (by simp; omega) (.bool u)).far (p := ⟨w.heap.size + 1, 2, none⟩) (by simp; omega) (.slice (some ⟨g, 0, none⟩) m m)); have hTf := ((ht3.far (p := ⟨w.heap.size + 1, 0, none⟩) (by simp) (.slice P n cap)).far (p := ⟨w.heap.size + 1, 1, none⟩) (by simp) (.bool u)).far (p := ⟨w.heap.size + 1, 2, none⟩) (by simp) (.slice (some ⟨g, 0, none⟩) m m); have hS9 := hide (BoxS.of hTf HFf.out); have hg' : w.heap.size < g := (by omega)))
 go_wp2_with fail
 refine bodyPost_ret (results_cell_row rfl _ _ (w.heap.size + 1) 26 (tcells P n cap u (some ⟨g, 0, none⟩) m m) (0, 0) _ rfl HZf.out Tryz.underlying26 rfl (by kernel_rfl)) rfl ?_
 exact ⟨⟨g, rfl, hg', hDf.out⟩, HFf.out⟩
theorem own_row {w : World} {base n s : Nat} {e : TypeId} {v : Value} {xs : List Value} (h : w.ownsRow base e s v n xs) : ∃ B c, v = .slice B n c ∧ Row w B xs := by
 rcases h.2 with ⟨rfl, rfl⟩ | ⟨g, c, cur, rfl, h2, h3, -, -, -, h4⟩
 ·have h1 := h.1
  rw [Nat.zero_mul] at h1
  exact ⟨none, 0, rfl, fun hx => absurd (List.eq_nil_of_length_eq_zero h1) hx⟩
 ·refine ⟨_, c, rfl, fun _ => ⟨_, rfl, (Array.getElem?_eq_some_iff.1 h3).1, fun j x hx => ?_⟩⟩
  rw [Addr.add_lit, Nat.zero_add]
  rw [← h4, List.getElem?_take] at hx
  split at hx
  ·have : w.cell? ⟨g, j, none⟩ = cur[j]? := by simp [World.cell?, h3]
   rw [this, ← hx, Array.getElem?_toList]
  ·cases hx
theorem fine_len {zs ds : List Int} {u : Bool} (h : Tens.fault zs u ds = (0, none)) : (ds.length : Int) = Shp.elems zs ∧ Shp.code zs = 0 := by
 unfold Tens.fault at h
 split at h
 ·rename_i hc
  exact absurd (congrArg Prod.fst h) hc
 ·rename_i hc
  split at h
  ·cases h
  ·rename_i hl
   exact ⟨by omega, by omega⟩
theorem val_i64 (op : Int) (u : Bool) (x y : Int) (qs : List Int) (hx : -9223372036854775808 ≤ x ∧ x ≤ 9223372036854775807) (hy : -9223372036854775808 ≤ y ∧ y ≤ 9223372036854775807) (hq : ∀ q ∈ qs, (Lit.int .i64 q).wf = true) : -9223372036854775808 ≤ Elm.val op u x y qs ∧ Elm.val op u x y qs ≤ 9223372036854775807 := by
 have hg : ∀ i, -9223372036854775808 ≤ qs.getD i 0 ∧ qs.getD i 0 ≤ 9223372036854775807 := fun i => by
  rw [List.getD_eq_getElem?_getD]
  cases h : qs[i]? with
  | none => exact ⟨by decide, by decide⟩
  | some q => exact i64_wf (hq q (List.mem_of_getElem? h))
 have hk : ∀ n, -9223372036854775808 ≤ Elm.kept u n ∧ Elm.kept u n ≤ 9223372036854775807 := fun n => by
  unfold Elm.kept Tens.wide Tens.narrow
  split <;> omega
 unfold Elm.val
 have h0 := hg 0
 have h1 := hg 1
 split
 ·omega
 split
 ·omega
 split
 ·unfold Qua.req
  have := clamp_in (Qua.down (Flt.clamp x (-2147483648) 2147483647 * Flt.clamp (qs.getD 0 0) 0 2147483647) (Flt.clamp (qs.getD 1 0) 0 62).toNat + Flt.clamp (qs.getD 2 0) (-128) 127) (-128) 127 (by decide)
  omega
 split
 ·rw [IntKind.wrap_i64]
  omega
 ·unfold Elm.bin
  split
  ·exact hk _
  split
  ·exact hk _
  split
  ·exact hk _
  ·omega
theorem Elm.part_wf (op : Int) (u : Bool) (qs ds es : List Int) (f m : Nat) (hd : ∀ z ∈ ds, (Lit.int .i64 z).wf = true) (he : ∀ z ∈ es, (Lit.int .i64 z).wf = true) (hq : ∀ q ∈ qs, (Lit.int .i64 q).wf = true) : ∀ z ∈ Elm.part op u qs ds es f m, (Lit.int .i64 z).wf = true := by
 have hg : ∀ (l : List Int) (i : Nat), (∀ z ∈ l, (Lit.int .i64 z).wf = true) → -9223372036854775808 ≤ l.getD i 0 ∧ l.getD i 0 ≤ 9223372036854775807 := fun l i hl => by
  rw [List.getD_eq_getElem?_getD]
  cases h : l[i]? with
  | none => exact ⟨by decide, by decide⟩
  | some q => exact i64_wf (hl q (List.mem_of_getElem? h))
 intro z hz
 unfold Elm.part at hz
 obtain ⟨i, -, rfl⟩ := List.mem_map.1 hz
 exact wf_i64 _ (val_i64 op u _ _ qs (hg ds _ hd) (hg es _ he) hq)
def Elm.Err (W : World) (ah am ar ak : Addr) (v : Value) (R : Nat × Option Nat) : Prop := if R = (103, none) then v = errv ak else TErr W ah am ar v R
def Elm.fault (op : Int) (qs : List Int) (ts : List Ten) : Nat × Option Nat := if Tens.first ts = (0, none) then (Elm.code op qs (ts.map Ten.look), none) else Tens.first ts
def Elm.ozs (op : Int) (qs : List Int) (ts : List Ten) : List Int := if Elm.fault op qs ts = (0, none) then (ts.head?.map (·.zs)).getD [] else []
def Elm.ou (op : Int) (qs : List Int) (ts : List Ten) : Bool := if Elm.fault op qs ts = (0, none) then Elm.wide op ((ts.head?.map (·.u)).getD false) else false
def Elm.ods (op : Int) (qs : List Int) (ts : List Ten) : List Int := if Elm.fault op qs ts = (0, none) then
 Elm.part op ((ts.head?.map (·.u)).getD false) qs ((ts.head?.map (·.ds)).getD []) ((ts.getLast?.map (·.ds)).getD []) 0 ((ts.head?.map (·.ds.length)).getD 0) else []
theorem Ten.flat_look (ts : List Ten) : (ts.map Ten.look).flatMap Dsc.vals = ts.flatMap fun t => t.look.vals := by
 rw [List.flatMap_map]
theorem Elm.code_zero {op : Int} {qs : List Int} {ts : List Ten} (h : Elm.code op qs (ts.map Ten.look) = 0) :
  (4 ≤ op ∧ op ≤ 11) ∧ qs.length = Elm.nargs op ∧ ∃ a b, ((ts = [a] ∧ b = a) ∨ (ts = [a, b] ∧ a.zs = b.zs ∧ a.u = b.u)) ∧ Shp.code a.zs = 0 := by
 unfold Elm.code at h
 split at h
 ·cases h
 rename_i h1
 split at h
 ·cases h
 rename_i h2
 split at h
 ·rename_i h3
  exact absurd h h3
 rename_i h3
 split at h
 ·cases h
 rename_i h4
 have ho : 4 ≤ op ∧ op ≤ 11 := by
  have : Elm.known op = true := by simpa using h1
  exact of_decide_eq_true this
 have hn : (ts.map Ten.look).length = Elm.nins op := by
  rcases Decidable.em ((ts.map Ten.look).length = Elm.nins op) with h | h
  ·exact h
  ·exact absurd (.inl h) h2
 have hq : qs.length = Elm.nargs op := by
  rcases Decidable.em (qs.length = Elm.nargs op) with h | h
  ·exact h
  ·exact absurd (.inr h) h2
 refine ⟨ho, hq, ?_⟩
 rw [List.length_map] at hn
 unfold Elm.nins at hn
 by_cases h7 : op ≤ 7
 ·rw [if_pos ⟨ho.1, h7⟩] at hn
  match ts, hn with
  | [a, b], _ =>
   have h4' : Elm.alike op [a.look, b.look] = true := by simpa using h4
   have h5 : (decide (a.zs = b.zs) && (a.u == b.u)) = true := h4'
   rw [Bool.and_eq_true] at h5
   have h6 : Shp.firstbad [a.look, b.look] = 0 := by simpa using h3
   refine ⟨a, b, .inr ⟨rfl, of_decide_eq_true h5.1, by simpa using h5.2⟩, ?_⟩
   unfold Shp.firstbad at h6
   by_cases hc : Shp.code a.look.zs = 0
   ·exact hc
   ·rw [if_neg hc] at h6
    exact h6
 ·rw [if_neg (by omega)] at hn
  match ts, hn with
  | [a], _ =>
   have h6 : Shp.firstbad [a.look] = 0 := by simpa using h3
   refine ⟨a, a, .inl ⟨rfl, rfl⟩, ?_⟩
   unfold Shp.firstbad at h6
   by_cases hc : Shp.code a.look.zs = 0
   ·exact hc
   ·rw [if_neg hc] at h6
    exact h6
theorem Ten.In.far {w : World} {t : Ten} (h : t.In w) {b : Nat} (hP : ∀ ad, t.P = some ad → ad.block ≠ b) (hD : ∀ ad, t.D = some ad → ad.block ≠ b) (i : Nat) (x : Value) : t.In (w.setCell ⟨b, i, none⟩ x) := by
 have key : ∀ (P : Option Addr) (zs : List Int), (∀ ad, P = some ad → ad.block ≠ b) → Ri w P zs → Ri (w.setCell ⟨b, i, none⟩ x) P zs := fun P zs hne hr => by
  refine ⟨hr.1, fun hz => ?_⟩
  obtain ⟨ad, h1, h2, h3⟩ := hr.2 hz
  refine ⟨ad, h1, by simpa using h2, fun j z hj => ?_⟩
  rw [World.cell?_setCell_far _ _ _ _ (by rw [ad_block]; exact Ne.symm (hne ad h1))]
  exact h3 j z hj
 exact ⟨key _ _ hP h.shp, key _ _ hD h.dat, h.ls, h.ld⟩
def Ten.Fresh (n : Nat) (t : Ten) : Prop := (∀ ad, t.P = some ad → n ≤ ad.block) ∧ ∀ ad, t.D = some ad → n ≤ ad.block
theorem Ten.Fresh.le {n m : Nat} {t : Ten} (h : t.Fresh n) (hm : m ≤ n) : t.Fresh m := ⟨fun ad ha => Nat.le_trans hm (h.1 ad ha), fun ad ha => Nat.le_trans hm (h.2 ad ha)⟩
theorem Ten.In.far3 {w : World} {t : Ten} (h : t.In w) {b : Nat} (hf : t.Fresh (b + 1)) (x y z : Value) : t.In (((w.setCell ⟨b, 0, none⟩ x).setCell ⟨b, 1, none⟩ y).setCell ⟨b, 2, none⟩ z) := by
 have h1 : ∀ ad, t.P = some ad → ad.block ≠ b := fun ad ha => by have := hf.1 ad ha; omega
 have h2 : ∀ ad, t.D = some ad → ad.block ≠ b := fun ad ha => by have := hf.2 ad ha; omega
 exact ((h.far h1 h2 0 x).far h1 h2 1 y).far h1 h2 2 z
theorem box_at (W : World) (t : TypeId) (xs : List Value) (n : Nat) (h : W.heap.size = n) : Has (W.alloc (Obj.cells xs.toArray t)) n t xs := by
 subst h
 exact Has.new W t xs
theorem rwide_c (n : Int) (w : World) : Calls Tryz.prog 73 #[.int .i64 n] w fun e w' => e = .returned (.int .i64 (Tens.wide n)) ∧ w' = w := by
 obtain ⟨a, ha⟩ : ∃ a, Hid (IntKind.u64.wrap n = a) := ⟨_, hide rfl⟩
 obtain ⟨b, hb⟩ : ∃ b, Hid (IntKind.u32.wrap a = b) := ⟨_, hide rfl⟩
 have h1 := ha.out
 have h2 := hb.out
 have h3 : IntKind.i32.wrap b = Tens.wide n := by
  rw [← h2, ← h1, IntKind.wrap_i32, IntKind.wrap_u32, IntKind.wrap_u64]
  unfold Tens.wide
  omega
 have h4 : IntKind.i64.wrap (Tens.wide n) = Tens.wide n := by rw [IntKind.wrap_i64]; unfold Tens.wide; omega
 obtain ⟨q, hq⟩ : ∃ q, Hid (Tens.wide n = q) := ⟨_, hide rfl⟩
 rw [hq.out] at h3 h4 ⊢
 clear hq ha hb
 go_enter Tryz.func73, Tryz.ntmps73
 go_wp2_with fail
 go_ret
 exact ⟨rfl, rfl⟩
set_option maxRecDepth 100000 in
theorem rkept_c (u : Bool) (n : Int) (w : World) : Calls Tryz.prog 88 #[.int .i64 n, .bool u] w fun e w' => e = .returned (.int .i64 (Elm.kept u n)) ∧ w' = w := by
 have H1 := hide (rwide_c n)
 have H2 := hide (fun W => refclamp_c n (-128) 127 (by decide) W)
 have e0 : Flt.clamp n (-128) 127 = Tens.narrow n := by unfold Flt.clamp Tens.narrow; split <;> split <;> omega
 rw [e0] at H2
 unfold Elm.kept
 obtain ⟨a, ha⟩ : ∃ a, Hid (Tens.wide n = a) := ⟨_, hide rfl⟩
 obtain ⟨b, hb⟩ : ∃ a, Hid (Tens.narrow n = a) := ⟨_, hide rfl⟩
 rw [ha.out] at H1 ⊢
 rw [hb.out] at H2 ⊢
 clear ha hb e0
 cases u
 ·go_enter Tryz.func88, Tryz.ntmps88
  go_wp2_with fail
  refine (H2.out _).mono ?_
  rintro e w1 ⟨rfl, rfl⟩
  go_wp2_with fail
  go_ret
  exact ⟨rfl, rfl⟩
 ·go_enter Tryz.func88, Tryz.ntmps88
  go_wp2_with fail
  refine (H1.out _).mono ?_
  rintro e w1 ⟨rfl, rfl⟩
  go_wp2_with fail
  go_ret
  exact ⟨rfl, rfl⟩
set_option maxRecDepth 100000 in
set_option maxHeartbeats 4000000 in
theorem rvalue_c (op : Int) (ho : 4 ≤ op ∧ op ≤ 11) (u : Bool) (x y : Int) (qs : List Int) (A : Option Addr) (cap : Nat) (w : World) (hl : qs.length = Elm.nargs op) (hr : Ri w A qs) (hm : Elm.may op u qs = true) :
  Calls Tryz.prog 72 #[.int .i64 op, .bool u, .int .i64 x, .int .i64 y, .slice A qs.length cap] w fun e w' => e = .returned (.int .i64 (Elm.val op u x y qs)) ∧ ∃ k, w' = w.drewN k := by
 have H := hide (fun n => rkept_c u n)
 have hc : op = 4 ∨ op = 5 ∨ op = 6 ∨ op = 7 ∨ op = 8 ∨ op = 9 ∨ op = 10 ∨ op = 11 := by omega
 rcases hc with rfl | rfl | rfl | rfl | rfl | rfl | rfl | rfl
 ·have e : Elm.val 4 u x y qs = Elm.kept u (IntKind.i64.wrap (x + y)) := rfl
  rw [e]
  obtain ⟨s, hs⟩ : ∃ s, IntKind.i64.wrap (x + y) = s := ⟨_, rfl⟩
  rw [hs]
  clear hl hr hm e
  go_enter Tryz.func72, Tryz.ntmps72
  go_wp2_with fail
  refine (H.out s _).mono ?_
  rintro e w1 ⟨rfl, rfl⟩
  go_wp2_with fail
  go_ret
  exact ⟨rfl, 0, rfl⟩
 ·have e : Elm.val 5 u x y qs = Elm.kept u (IntKind.i64.wrap (x - y)) := rfl
  rw [e]
  obtain ⟨s, hs⟩ : ∃ s, IntKind.i64.wrap (x - y) = s := ⟨_, rfl⟩
  rw [hs]
  clear hl hr hm e
  go_enter Tryz.func72, Tryz.ntmps72
  go_wp2_with fail
  refine (H.out s _).mono ?_
  rintro e w1 ⟨rfl, rfl⟩
  go_wp2_with fail
  go_ret
  exact ⟨rfl, 0, rfl⟩
 ·have e : Elm.val 6 u x y qs = Elm.kept u (IntKind.i64.wrap (x * y)) := rfl
  rw [e]
  obtain ⟨s, hs⟩ : ∃ s, IntKind.i64.wrap (x * y) = s := ⟨_, rfl⟩
  rw [hs]
  clear hl hr hm e
  go_enter Tryz.func72, Tryz.ntmps72
  go_wp2_with fail
  refine (H.out s _).mono ?_
  rintro e w1 ⟨rfl, rfl⟩
  go_wp2_with fail
  go_ret
  exact ⟨rfl, 0, rfl⟩
 ·have e : Elm.val 7 u x y qs = max x y := rfl
  rw [e]
  clear hl hr hm e H
  obtain ⟨m, hm⟩ : ∃ m, Hid (max x y = m) := ⟨_, hide rfl⟩
  have f1 : (if x < y then y else x) = m := by have := hm.out; split <;> omega
  have f2 : (if y < x then x else y) = m := by have := hm.out; split <;> omega
  rw [hm.out]
  go_enter Tryz.func72, Tryz.ntmps72
  go_wp2_with fail
  go_ret
  exact ⟨rfl, 0, rfl⟩
 ·have e : Elm.val 8 u x y qs = max x 0 := rfl
  rw [e]
  clear hl hr hm e H
  obtain ⟨m, hm⟩ : ∃ m, Hid (max x 0 = m) := ⟨_, hide rfl⟩
  have f1 : (if x < 0 then 0 else x) = m := by have := hm.out; split <;> omega
  have f2 : (if 0 < x then x else 0) = m := by have := hm.out; split <;> omega
  rw [hm.out]
  go_enter Tryz.func72, Tryz.ntmps72
  go_wp2_with fail
  go_ret
  exact ⟨rfl, 0, rfl⟩
 ·obtain ⟨a, b, rfl⟩ := list_two hl
  obtain ⟨ad, rfl, -, c0, c1⟩ := ri_two hr
  have e : Elm.val 9 u x y [a, b] = max a (min x b) := rfl
  have hab : a ≤ b := by
   have h : (decide (a ≤ b) && Tens.fit u a && Tens.fit u b) = true := hm
   rw [Bool.and_eq_true, Bool.and_eq_true] at h
   exact of_decide_eq_true h.1.1
  have HC := hide (fun W => refclamp_c x a b hab W)
  have e2 : Flt.clamp x a b = max a (min x b) := by unfold Flt.clamp; split <;> split <;> omega
  rw [e, ← e2]
  obtain ⟨m, hm2⟩ : ∃ m, Hid (Flt.clamp x a b = m) := ⟨_, hide rfl⟩
  rw [hm2.out] at HC ⊢
  clear hl hr e hm hab e2 hm2
  go_enter Tryz.func72, Tryz.ntmps72
  go_wp2_with fail
  go_quiet ((go_at_call 77; exact Calls.quiet_of_same (HC.out _)))
  go_wp2_with fail
  go_ret
  exact ⟨rfl, _, rfl⟩
 ·obtain ⟨a, b, c, rfl⟩ := list_three hl
  obtain ⟨ad, rfl, -, c0, c1, c2⟩ := ri_three hr
  have e : Elm.val 10 u x y [a, b, c] = Qua.req x a b c := rfl
  rw [e]
  have HC := hide (fun W => rrequant_c x a b c W)
  obtain ⟨r, hrr⟩ : ∃ r, Hid (Qua.req x a b c = r) := ⟨_, hide rfl⟩
  rw [hrr.out] at HC ⊢
  clear hl hr e hrr hm
  go_enter Tryz.func72, Tryz.ntmps72
  go_wp2_with fail
  go_quiet ((go_at_call 89; exact Calls.quiet_of_same (HC.out _)))
  go_wp2_with fail
  go_ret
  exact ⟨rfl, _, rfl⟩
 ·obtain ⟨a, rfl⟩ := list_one hl
  obtain ⟨ad, rfl, -, c0⟩ := ri_one hr
  have e : Elm.val 11 u x y [a] = IntKind.i64.wrap (x - a) := rfl
  rw [e]
  obtain ⟨s, hs⟩ : ∃ s, IntKind.i64.wrap (x - a) = s := ⟨_, rfl⟩
  rw [hs]
  clear hl hr e hm
  go_enter Tryz.func72, Tryz.ntmps72
  go_wp2_with fail
  go_ret
  exact ⟨rfl, 0, rfl⟩
set_option maxRecDepth 100000 in
set_option maxHeartbeats 4000000 in
theorem descs_c (ds : List Dsc) (B : Option Addr) (cap : Nat) (w : World) (hR : Row w B (ds.flatMap Dsc.vals)) (hI : ∀ d ∈ ds, d.In w) (hl : ds.length ≤ 1000000) :
  Calls Tryz.prog 49 #[.slice B ds.length cap] w fun e w' => e = .returned (.int .i64 (Shp.firstbad ds : Nat)) ∧ Below w.heap.size w w' := by
 have V1 : Hid (∀ (i : Nat) (d : Dsc), ds[i]? = some d → ∀ W, Below w.heap.size w W → Calls Tryz.prog 63 #[.agg (dcells d.P d.zs.length d.cap d.u)] W fun e w' => e = .returned (.int .i64 (Shp.code d.zs)) ∧ Below W.heap.size W w') := hide fun i d hd W hb => by
  have h := (hI d (List.mem_of_getElem? hd)).below hb
  exact refvalid_c d.zs d.P d.cap d.u W h.shp (by have := h.ls; omega)
 have HR := hide hR
 obtain ⟨nd, hnd⟩ : ∃ n, Hid (ds.length = n) := ⟨_, hide rfl⟩
 obtain ⟨F, hF⟩ : ∃ n, Hid (Shp.firstbad ds = n) := ⟨_, hide rfl⟩
 rw [hF.out]
 rw [hnd.out] at hl ⊢
 clear hR hI
 go_enter Tryz.func49, Tryz.ntmps49
 go_wp2_with fail
 go_loopw [3] (fun k wr => ∃ i : Nat, i ≤ nd ∧ k = .int .i64 i ∧ Hid (Below w.heap.size w wr) ∧ Hid (∀ (j : Nat) x, j < i → ds[j]? = some x → Shp.code x.zs = 0)) (fun k _ => nd - (intOf k).toNat)
 case atStart => exact ⟨0, by omega, rfl, hide (Below.refl _ _), hide (fun j x hj => by omega)⟩
 case round =>
  obtain ⟨i, hi, rfl, HB, HK⟩ := hrel
  by_cases hlt : i < nd
  ·obtain ⟨ad, d, hBad, had, hd, c0, c1⟩ := row_dsc (HR.out.below HB.out) i (by rw [hnd.out]; exact hlt)
   subst hBad
   have HV := hide (V1.out i d hd.out _ HB.out)
   have hcs := Shp.code_is d.zs
   clear had
   go_wp2_with fail
   clear c0 c1
   refine HV.out.mono ?_
   rintro e w1 ⟨rfl, hb⟩
   have HB2 := hide (HB.out.trans (hb.mono HB.out.size))
   clear HV HB hb
   by_cases hf : Shp.code d.zs = 0
   ·rw [hf]
    have HFt := hide hf
    clear hcs hf
    go_wp2_with fail
    go_roundw
    case rel =>
     refine ⟨i + 1, by omega, by go_num, HB2, hide (fun j x hj hx => ?_)⟩
     rcases Nat.lt_or_ge j i with h | h
     ·exact HK.out j x h hx
     ·obtain rfl : j = i := by omega
      rw [hd.out] at hx
      obtain rfl := Option.some.inj hx
      exact HFt.out
    case measure => simp [intOf]; omega
   ·have hR2 : F = Shp.code d.zs := by
     rw [← hF.out]
     exact Shp.first_at ds i d hd.out HK.out hf
    rw [← hR2] at hcs hf ⊢
    have hfi : ((F : Int) == 0) = false := by simp; omega
    have hfj : ((F : Int) != 0) = true := by simp; omega
    clear hR2 hcs hf hF
    go_wp2_with fail
    go_ret
    exact ⟨rfl, HB2.out⟩
  ·obtain rfl : i = nd := by omega
   have hfb := Shp.first_none ds fun j x hx => HK.out j x (by have := (List.getElem?_eq_some_iff.1 hx).1; rw [hnd.out] at this; exact this) hx
   rw [hF.out] at hfb
   subst hfb
   clear HK hlt hi V1 hF
   go_wp2_with fail
   go_ret
   exact ⟨rfl, HB.out⟩
set_option maxRecDepth 100000 in
theorem in3_c (n : Int) (u : Bool) (w : World) :
  Calls Tryz.prog 64 #[.int .i64 n, .bool u] w fun e w' => e = .returned (.bool (Tens.fit u n)) ∧ w' = w := by
 unfold Tens.fit
 cases u
 ·rw [if_neg (by decide)]
  by_cases h1 : -128 ≤ n
  ·by_cases h2 : n ≤ 127
   ·rw [decide_eq_true ⟨h1, h2⟩]
    go_enter Tryz.func64, Tryz.ntmps64
    go_wp2_with fail
    go_ret
    exact ⟨rfl, rfl⟩
   ·rw [decide_eq_false (fun h => h2 h.2)]
    go_enter Tryz.func64, Tryz.ntmps64
    go_wp2_with fail
    go_ret
    exact ⟨rfl, rfl⟩
  ·rw [decide_eq_false (fun h => h1 h.1)]
   go_enter Tryz.func64, Tryz.ntmps64
   go_wp2_with fail
   go_ret
   exact ⟨rfl, rfl⟩
 ·rw [if_pos rfl]
  by_cases h1 : -2147483648 ≤ n
  ·by_cases h2 : n ≤ 2147483647
   ·rw [decide_eq_true ⟨h1, h2⟩]
    go_enter Tryz.func64, Tryz.ntmps64
    go_wp2_with fail
    go_ret
    exact ⟨rfl, rfl⟩
   ·rw [decide_eq_false (fun h => h2 h.2)]
    go_enter Tryz.func64, Tryz.ntmps64
    go_wp2_with fail
    go_ret
    exact ⟨rfl, rfl⟩
  ·rw [decide_eq_false (fun h => h1 h.1)]
   go_enter Tryz.func64, Tryz.ntmps64
   go_wp2_with fail
   go_ret
   exact ⟨rfl, rfl⟩
set_option maxRecDepth 100000 in
theorem rnarrow_c (n : Int) (w : World) :
  Calls Tryz.prog 87 #[.int .i64 n] w fun e w' => e = .returned (.bool (Tens.fit false n)) ∧ w' = w := by
 have H := hide (in3_c n false)
 obtain ⟨b, hb⟩ : ∃ b, Hid (Tens.fit false n = b) := ⟨_, hide rfl⟩
 rw [hb.out] at H ⊢
 clear hb
 go_enter Tryz.func87, Tryz.ntmps87
 go_wp2_with fail
 refine (H.out _).mono ?_
 rintro e w1 ⟨rfl, rfl⟩
 go_wp2_with fail
 go_ret
 exact ⟨rfl, rfl⟩
theorem dstore {w W : World} {g : Nat} {cs ts : List Value} {t : TypeId} {x y : Value} (v1 v2 : Value) (hz : Has W (w.heap.size + 1) 24 [x, y]) (hT : Has W w.heap.size t ts) (hC : Has W g 3 cs) (hB : Below w.heap.size w W) (hg : g ≠ w.heap.size + 1) :
  Has ((W.setCell ⟨w.heap.size + 1, 0, none⟩ v1).setCell ⟨w.heap.size + 1, 1, none⟩ v2) (w.heap.size + 1) 24 [v1, v2] ∧ Has ((W.setCell ⟨w.heap.size + 1, 0, none⟩ v1).setCell ⟨w.heap.size + 1, 1, none⟩ v2) w.heap.size t ts ∧
  Has ((W.setCell ⟨w.heap.size + 1, 0, none⟩ v1).setCell ⟨w.heap.size + 1, 1, none⟩ v2) g 3 cs ∧ Below w.heap.size w ((W.setCell ⟨w.heap.size + 1, 0, none⟩ v1).setCell ⟨w.heap.size + 1, 1, none⟩ v2) :=
 ⟨(hz.set_ 0 v1).set_ 1 v2, (hT.far (p := ⟨w.heap.size + 1, 0, none⟩) (by simp) v1).far (p := ⟨w.heap.size + 1, 1, none⟩) (by simp) v2,
  (hC.far (p := ⟨w.heap.size + 1, 0, none⟩) hg v1).far (p := ⟨w.heap.size + 1, 1, none⟩) hg v2, (hB.setCell (p := ⟨w.heap.size + 1, 0, none⟩) (Nat.le_succ _) v1).setCell (p := ⟨w.heap.size + 1, 1, none⟩) (Nat.le_succ _) v2⟩
theorem tstore {w W : World} {g gd : Nat} {cs cd ts : List Value} {t : TypeId} {x y z : Value} (v1 v2 v3 : Value) (hz : Has W (w.heap.size + 1) 26 [x, y, z]) (hT : Has W w.heap.size t ts) (hC : Has W g 3 cs) (hD : Has W gd 3 cd) (hB : Below w.heap.size w W) (hg : g ≠ w.heap.size + 1) (hgd : gd ≠ w.heap.size + 1) :
  Has (((W.setCell ⟨w.heap.size + 1, 0, none⟩ v1).setCell ⟨w.heap.size + 1, 1, none⟩ v2).setCell ⟨w.heap.size + 1, 2, none⟩ v3) (w.heap.size + 1) 26 [v1, v2, v3] ∧ Has (((W.setCell ⟨w.heap.size + 1, 0, none⟩ v1).setCell ⟨w.heap.size + 1, 1, none⟩ v2).setCell ⟨w.heap.size + 1, 2, none⟩ v3) w.heap.size t ts ∧
  Has (((W.setCell ⟨w.heap.size + 1, 0, none⟩ v1).setCell ⟨w.heap.size + 1, 1, none⟩ v2).setCell ⟨w.heap.size + 1, 2, none⟩ v3) g 3 cs ∧ Has (((W.setCell ⟨w.heap.size + 1, 0, none⟩ v1).setCell ⟨w.heap.size + 1, 1, none⟩ v2).setCell ⟨w.heap.size + 1, 2, none⟩ v3) gd 3 cd ∧
  Below w.heap.size w (((W.setCell ⟨w.heap.size + 1, 0, none⟩ v1).setCell ⟨w.heap.size + 1, 1, none⟩ v2).setCell ⟨w.heap.size + 1, 2, none⟩ v3) :=
 ⟨((hz.set_ 0 v1).set_ 1 v2).set_ 2 v3, ((hT.far (p := ⟨w.heap.size + 1, 0, none⟩) (by simp) v1).far (p := ⟨w.heap.size + 1, 1, none⟩) (by simp) v2).far (p := ⟨w.heap.size + 1, 2, none⟩) (by simp) v3,
  ((hC.far (p := ⟨w.heap.size + 1, 0, none⟩) hg v1).far (p := ⟨w.heap.size + 1, 1, none⟩) hg v2).far (p := ⟨w.heap.size + 1, 2, none⟩) hg v3, ((hD.far (p := ⟨w.heap.size + 1, 0, none⟩) hgd v1).far (p := ⟨w.heap.size + 1, 1, none⟩) hgd v2).far (p := ⟨w.heap.size + 1, 2, none⟩) hgd v3,
  ((hB.setCell (p := ⟨w.heap.size + 1, 0, none⟩) (Nat.le_succ _) v1).setCell (p := ⟨w.heap.size + 1, 1, none⟩) (Nat.le_succ _) v2).setCell (p := ⟨w.heap.size + 1, 2, none⟩) (Nat.le_succ _) v3⟩
abbrev DesS (w : World) (x y : Value) (W : World) : Prop := W.cell? ⟨w.heap.size, 0, none⟩ = some x ∧ W.cell? ⟨w.heap.size, 1, none⟩ = some y ∧ Hid (Below w.heap.size w W)
theorem DesS.keep {w : World} {x y : Value} {W W' : World} (h : DesS w x y W) (hb : Below W.heap.size W W') : DesS w x y W' :=
 ⟨ten_kept h.1 hb, ten_kept h.2.1 hb, hide (h.2.2.out.trans (hb.mono h.2.2.out.size))⟩
theorem DesS.of {w W : World} {x y : Value} {t : TypeId} (h : Has W w.heap.size t [x, y]) (hb : Below w.heap.size w W) : DesS w x y W :=
 ⟨by rw [h.cell]; rfl, by rw [h.cell]; rfl, hide hb⟩
theorem box_two (w : World) (t t2 : TypeId) (xs ys : List Value) : Below w.heap.size w ((w.alloc (Obj.cells xs.toArray t)).alloc (Obj.cells ys.toArray t2)).drew ∧ Has ((w.alloc (Obj.cells xs.toArray t)).alloc (Obj.cells ys.toArray t2)).drew w.heap.size t xs ∧
  Has ((w.alloc (Obj.cells xs.toArray t)).alloc (Obj.cells ys.toArray t2)).drew (w.heap.size + 1) t2 ys := by
 refine ⟨(((Below.refl _ w).alloc (Nat.le_refl _) _).alloc (by simp) _).drew, ((Has.new w _ _).alloc _).drewN 1, ?_⟩
 have h := Has.new (w.alloc (Obj.cells xs.toArray t)) t2 ys
 have h2 : Has ((w.alloc (Obj.cells xs.toArray t)).alloc (Obj.cells ys.toArray t2)) (w.heap.size + 1) t2 ys := by simpa using h
 exact h2.drewN 1
set_option maxRecDepth 100000 in
set_option maxHeartbeats 4000000 in
theorem rdesc_c (zs : List Int) (P : Option Addr) (cap : Nat) (u : Bool) (w : World) (hr : Ri w P zs) (hl : zs.length ≤ 1000000) :
  Calls Tryz.prog 71 #[.agg (dcells P zs.length cap u)] w fun e w' => (∃ g c rest, e = .returned (.agg (dcells (some ⟨g, 0, none⟩) zs.length c u)) ∧ w.heap.size ≤ g ∧ Has w' g 3 (i64s zs ++ rest)) ∧ Below w.heap.size w w' := by
 obtain ⟨hb1, hT, hZ⟩ := box_two w 24 24 [.slice P zs.length cap, .bool u] [.slice none 0 0, .bool false]
 have HI := hide (fun W (hb : Below w.heap.size w W) => refints_c zs P cap W (hr.below hb) hl)
 obtain ⟨n, hn⟩ : ∃ n, Hid (zs.length = n) := ⟨_, hide rfl⟩
 rw [hn.out] at HI hb1 hT hZ ⊢
 clear hr hl hn
 have HB1 := hide hb1
 have HT1 := hide hT
 have HZ1 := hide hZ
 have hS0 := DesS.of hT hb1
 clear hb1 hT hZ
 go_enter Tryz.func71, Tryz.ntmps71
 go_wp2_with fail
 go_region_held3 (fun W => W.cell? ⟨w.heap.size, 0, none⟩ = some (.slice P n cap) ∧ W.cell? ⟨w.heap.size, 1, none⟩ = some (.bool u) ∧ Hid (Below w.heap.size w W))
  (first | exact hS0 | assumption | exact hS9.out | exact DesS.keep (by assumption) hb)
  (first
   | (go_at_call 70; refine (HI.out _ HB1.out).mono ?_; rintro e W2 ⟨⟨g, c, rest, rfl, hg, hc1, hc2, hC⟩, hb⟩; have hz := HZ1.out.below hb HZ1.out.lt; have ht := HT1.out.below hb HT1.out.lt; have hB := HB1.out.trans (hb.mono HB1.out.size); have hlt := HZ1.out.lt; have d0 : W2.cell? ⟨w.heap.size + 1, 0, none⟩ = some (.slice none 0 0) := (by rw [hz.cell]; rfl); have d1 : W2.cell? ⟨w.heap.size + 1, 1, none⟩ = some (.bool false) := (by rw [hz.cell]; rfl); have f0 := hz.frozen 0; have f1 := hz.frozen 1; have HO := hide (dstore (.slice (some ⟨g, 0, none⟩) n c) (.bool u) hz ht hC hB (by omega)); have hS9 := hide (DesS.of HO.out.2.1 HO.out.2.2.2); have hg' : w.heap.size ≤ g := (by have := HB1.out.size; omega)))
 go_wp2_with fail
 refine bodyPost_ret (results_cell_row rfl _ _ (w.heap.size + 1) 24 (dcells (some ⟨g, 0, none⟩) n c u) (0, 0) _ rfl HO.out.1 Tryz.underlying24 rfl (by kernel_rfl)) rfl ?_
 exact ⟨⟨g, c, rest, rfl, hg', HO.out.2.2.1⟩, HO.out.2.2.2⟩
set_option maxRecDepth 100000 in
set_option maxHeartbeats 4000000 in
theorem rzero_c (zs : List Int) (P : Option Addr) (cap : Nat) (u : Bool) (w : World) (hr : Ri w P zs) (hl : zs.length ≤ 1000000) :
  Calls Tryz.prog 41 #[.agg (dcells P zs.length cap u)] w fun e w' => (∃ g c rest gd, e = .returned (.agg (tcells (some ⟨g, 0, none⟩) zs.length c u (some ⟨gd, 0, none⟩) (Shp.elems zs).toNat (Shp.elems zs).toNat)) ∧ Has w' g 3 (i64s zs ++ rest) ∧ Has w' gd 3 (i64s (List.replicate (Shp.elems zs).toNat 0)) ∧ w.heap.size ≤ g ∧ w.heap.size ≤ gd ∧ g ≠ gd) ∧ Below w.heap.size w w' := by
 obtain ⟨hb1, hT, hZ⟩ := box_two w 24 26 [.slice P zs.length cap, .bool u] [.slice none 0 0, .bool false, .slice none 0 0]
 have HI := hide (fun W (hb : Below w.heap.size w W) => rdesc_c zs P cap u W (hr.below hb) hl)
 have HJ := hide (fun W (hb : Below w.heap.size w W) => refelems_c zs P cap W (hr.below hb) (by omega))
 have hEb := Shp.elems_le zs
 obtain ⟨m, hm⟩ : ∃ m : Nat, Hid (Shp.elems zs = (m : Int)) := ⟨(Shp.elems zs).toNat, hide (by omega)⟩
 have hm16 : m ≤ 16384 := by have := hm.out; omega
 obtain ⟨Y, hY, hmk⟩ := made_ints m (by omega)
 obtain ⟨n, hn⟩ : ∃ n, Hid (zs.length = n) := ⟨_, hide rfl⟩
 rw [hm.out, Int.toNat_natCast]
 rw [hm.out] at HJ
 rw [hn.out] at HI HJ hb1 hT hZ ⊢
 clear hr hl hn hm hEb
 have HB1 := hide hb1
 have HT1 := hide hT
 have HZ1 := hide hZ
 have hS0 := DesS.of hT hb1
 clear hb1 hT hZ
 go_enter Tryz.func41, Tryz.ntmps41
 go_wp2_with fail
 go_region_held3 (fun W => W.cell? ⟨w.heap.size, 0, none⟩ = some (.slice P n cap) ∧ W.cell? ⟨w.heap.size, 1, none⟩ = some (.bool u) ∧ Hid (Below w.heap.size w W))
  (first | exact hS0 | assumption | exact hS9.out | exact hS8.out | exact DesS.keep (by assumption) hb)
  (first
   | (go_at_call 71; refine (HI.out _ HB1.out).mono ?_; rintro e W2 ⟨⟨g, c, rest, rfl, hg, hC⟩, hb⟩; have hz2 := HZ1.out.below hb HZ1.out.lt; have ht2 := HT1.out.below hb HT1.out.lt; have hB2 := HB1.out.trans (hb.mono HB1.out.size); have hlt := HZ1.out.lt; have hgn : g ≠ w.heap.size + 1 := (by omega); have hsz := hb.size)
   | (go_at_call 54; refine (HJ.out _ hB2).mono ?_; rintro e W3 ⟨rfl, hb⟩; have hz := (hz2.below hb hz2.lt).alloc (Obj.cells Y 3); have ht := (ht2.below hb ht2.lt).alloc (Obj.cells Y 3); have hC3 := (hC.below hb hC.lt).alloc (Obj.cells Y 3); have hBq := hB2.trans (hb.mono hB2.size); have hB := hBq.alloc hBq.size (Obj.cells Y 3); have hsz2 := hb.size; have hD : Has (W3.alloc (Obj.cells Y 3)) W3.heap.size 3 (i64s (List.replicate m 0)) := (by rw [hY.out]; exact Has.new W3 _ _); have d0 : (W3.alloc (Obj.cells Y 3)).cell? ⟨w.heap.size + 1, 0, none⟩ = some (.slice none 0 0) := (by rw [hz.cell]; rfl); have d1 : (W3.alloc (Obj.cells Y 3)).cell? ⟨w.heap.size + 1, 1, none⟩ = some (.bool false) := (by rw [hz.cell]; rfl); have d2 : (W3.alloc (Obj.cells Y 3)).cell? ⟨w.heap.size + 1, 2, none⟩ = some (.slice none 0 0) := (by rw [hz.cell]; rfl); have f0 := hz.frozen 0; have f1 := hz.frozen 1; have f2 := hz.frozen 2; have HO := hide (tstore (.slice (some ⟨g, 0, none⟩) n c) (.bool u) (.slice (some ⟨W3.heap.size, 0, none⟩) m m) hz ht hC3 hD hB hgn (by omega)); have hS8 := hide (DesS.of ht hB); have hS9 := hide (DesS.of HO.out.2.1 HO.out.2.2.2.2)))
 go_wp2_with fail
 refine bodyPost_ret (results_cell_row rfl _ _ (w.heap.size + 1) 26 (tcells (some ⟨g, 0, none⟩) n c u (some ⟨W3.heap.size, 0, none⟩) m m) (0, 0) _ rfl HO.out.1 Tryz.underlying26 rfl (by kernel_rfl)) rfl ?_
 have hz1 := HB1.out.size
 have hz3 := hBq.size
 have hgl := hC.lt
 exact ⟨⟨g, c, rest, W3.heap.size, rfl, HO.out.2.2.1, HO.out.2.2.2.1, by omega, hz3, by omega⟩, HO.out.2.2.2.2⟩
set_option maxRecDepth 100000 in
set_option maxHeartbeats 8000000 in
theorem of_any (rs : List Int) (op : Int) (A B : Option Addr) (nq qcap nt bcap f n : Nat) (w : World) (hm : n ≤ 1000000)
  (hV : ∀ (W : World) (g : Nat), Below w.heap.size w W → w.heap.size ≤ g → Has W g 3 (i64s (List.replicate n 0)) → Calls Tryz.prog 96 #[.slice (some ⟨g, 0, none⟩) n n, .int .i64 f, .int .i64 op, .slice A nq qcap, .slice B nt bcap] W fun e w' => e = .returned (.tuple #[]) ∧ Has w' g 3 (i64s rs) ∧ Below w.heap.size w w') :
  Calls Tryz.prog 83 #[.int .i64 op, .slice A nq qcap, .int .i64 f, .int .i64 ((f + n : Nat) : Int), .slice B nt bcap] w fun e w' => (∃ g, e = .returned (.slice (some ⟨g, 0, none⟩) n n) ∧ w.heap.size ≤ g ∧ Has w' g 3 (i64s rs)) ∧ Below w.heap.size w w' := by
 obtain ⟨Z, hZ, hmk⟩ := made_ints n hm
 have hG : Has (w.alloc (.cells Z 3)) w.heap.size 3 (i64s (List.replicate n 0)) := by
  rw [hZ.out]
  exact Has.new w _ _
 have hB := (Below.refl w.heap.size w).alloc (Nat.le_refl _) (.cells Z 3)
 have V := hide (hV _ w.heap.size hB (Nat.le_refl _) hG)
 clear hG hB hZ hV
 have hw1 : IntKind.i64.wrap (((f + n : Nat) : Int) - (f : Int)) = (n : Int) := by rw [IntKind.wrap_i64]; omega
 have hw0 : wrap64 (((f + n : Nat) : Int) - (f : Int)) = (n : Int) := by unfold wrap64; omega
 obtain ⟨s, hs⟩ : ∃ s, Hid (((f + n : Nat) : Int) = s) := ⟨_, hide rfl⟩
 rw [hs.out] at hw1 hw0 ⊢
 clear hs
 go_enter Tryz.func83, Tryz.ntmps83
 go_wp2_with fail
 refine V.out.mono ?_
 rintro e w1 ⟨rfl, h1, h2⟩
 go_wp2_with fail
 go_ret
 exact ⟨⟨_, rfl, Nat.le_refl _, h1⟩, h2⟩
set_option maxRecDepth 100000 in
set_option maxHeartbeats 8000000 in
theorem one_any (zs : List Int) (P : Option Addr) (cap : Nat) (u : Bool) (op i v : Int) (A B : Option Addr) (nq qcap nt bcap : Nat) (am ar : Addr) (w : World) (hr : Ri w P zs) (hl : zs.length ≤ 1000000) (hE : E2 w am ar) (hi1 : i ≤ 9223372036854775807) (hi2 : -9223372036854775808 ≤ i)
  (hv : ¬ (0 ≤ i ∧ i < Shp.elems zs) → v = 0)
  (hV : ∀ (k : Nat) W, i = k → i < Shp.elems zs → Below w.heap.size w W → Calls Tryz.prog 83 #[.int .i64 op, .slice A nq qcap, .int .i64 k, .int .i64 ((k + 1 : Nat) : Int), .slice B nt bcap] W fun e w' => (∃ g, e = .returned (.slice (some ⟨g, 0, none⟩) 1 1) ∧ W.heap.size ≤ g ∧ Has w' g 3 (i64s [v])) ∧ Below W.heap.size W w') :
  Calls Tryz.prog 52 #[.agg (dcells P zs.length cap u), .int .i64 i, .int .i64 op, .slice A nq qcap, .slice B nt bcap] w fun e w' => e = .returned (.int .i64 v) ∧ Below w.heap.size w w' := by
 have hb1 := (Below.refl w.heap.size w).alloc (Nat.le_refl _) (.cells #[.slice P zs.length cap, .bool u] 24)
 have hx := Has.new w 24 [.slice P zs.length cap, .bool u]
 have HI := hide (fun W (hb : Below w.heap.size w W) => elems_c zs P cap am ar W (hr.below hb) (by omega) (hE.below hb))
 have hEl := Shp.elems_le zs
 have hb2 := hide (hb1.drew)
 obtain ⟨m, hm⟩ : ∃ m, Hid (Shp.elems zs = m) := ⟨_, hide rfl⟩
 obtain ⟨n, hn⟩ : ∃ n, Hid (zs.length = n) := ⟨_, hide rfl⟩
 rw [hm.out] at HI hV hv hEl
 rw [hn.out] at HI hb1 hx hb2 ⊢
 have HV := hide hV
 have HVV := hide hv
 have HB := hide hb1
 have HX := hide hx
 clear hr hl hE hV hb1 hx hv
 by_cases h0 : i < 0
 ·have hv0 := HVV.out (by omega)
  subst hv0
  go_enter Tryz.func52, Tryz.ntmps52
  go_wp2_with fail
  go_ret
  exact ⟨rfl, HB.out⟩
 ·have hd : decide (i < 0) = false := by simpa using h0
  have c0 : (w.alloc (.cells #[.slice P n cap, .bool u] 24)).cell? ⟨w.heap.size, 0, none⟩ = some (.slice P n cap) := HX.out.cell 0
  by_cases hi : i < m
  ·have hd2 : decide (i ≥ m) = false := by simp; omega
   have hd3 : decide (m ≤ i) = false := by simp; omega
   obtain ⟨k, hk⟩ : ∃ k : Nat, i = k := ⟨i.toNat, by omega⟩
   have HC := hide (fun W => HV.out k W hk hi)
   have hkb : i + 1 ≤ 1000000 := by omega
   have hk0 : 0 ≤ i := by omega
   have HK := hide hk
   have hks : Hid (((k + 1 : Nat) : Int) = i + 1) := hide (by omega)
   rw [hks.out, ← HK.out] at HC
   clear h0 hi hEl hks hk
   go_enter Tryz.func52, Tryz.ntmps52
   go_wp2_with fail
   refine (HI.out _ HB.out).mono ?_
   rintro e w1 ⟨rfl, hb⟩
   have hB1 := HB.out.trans (hb.mono HB.out.size)
   clear c0 HI hb
   have HB1 := hide hB1
   clear hB1
   go_wp2_with fail
   refine (HC.out _ HB1.out).mono ?_
   rintro e w2 ⟨⟨g, rfl, hg, hG⟩, hb⟩
   have hB2 := HB1.out.trans (hb.mono HB1.out.size)
   have c1 : w2.cell? ⟨g, 0, none⟩ = some (.int .i64 v) := hG.cell 0
   have HB2 := hide hB2
   clear HC hb hB2 hG
   go_wp2_with fail
   go_ret
   exact ⟨rfl, HB2.out⟩
  ·have hv0 := HVV.out (by omega)
   subst hv0
   have hd2 : decide (i ≥ m) = true := by simp; omega
   clear hEl
   go_enter Tryz.func52, Tryz.ntmps52
   go_wp2_with fail
   refine (HI.out _ HB.out).mono ?_
   rintro e w1 ⟨rfl, hb⟩
   have hB1 := HB.out.trans (hb.mono HB.out.size)
   have HB1 := hide hB1
   clear c0 HI hb hB1
   go_wp2_with fail
   go_ret
   exact ⟨rfl, HB1.out⟩
theorem row_one {w : World} {B : Option Addr} {a : Ten} (h : Row w B ([a].flatMap Ten.vals)) : ∃ ad, B = some ad ∧ ad.block < w.heap.size ∧ w.cell? ad = some (.slice a.P a.zs.length a.cap) ∧ w.cell? ⟨ad.block, ad.off + 1, none⟩ = some (.bool a.u) ∧ w.cell? ⟨ad.block, ad.off + 2, none⟩ = some (.slice a.D a.ds.length a.dcap) := by
 obtain ⟨ad, h1, h2, h3⟩ := h (by simp [Ten.vals])
 have c0 := h3 0 _ rfl
 have c1 := h3 1 _ rfl
 have c2 := h3 2 _ rfl
 rw [Addr.add_zero'] at c0
 simp only [Addr.add, Nat.reduceEqDiff, if_false] at c1 c2
 exact ⟨ad, h1, h2, c0, c1, c2⟩
theorem row_two {w : World} {B : Option Addr} {a b : Ten} (h : Row w B ([a, b].flatMap Ten.vals)) : ∃ ad, B = some ad ∧ ad.block < w.heap.size ∧ w.cell? ad = some (.slice a.P a.zs.length a.cap) ∧ w.cell? ⟨ad.block, ad.off + 1, none⟩ = some (.bool a.u) ∧ w.cell? ⟨ad.block, ad.off + 2, none⟩ = some (.slice a.D a.ds.length a.dcap) ∧
  w.cell? ⟨ad.block, ad.off + 3, none⟩ = some (.slice b.P b.zs.length b.cap) ∧ w.cell? ⟨ad.block, ad.off + 4, none⟩ = some (.bool b.u) ∧ w.cell? ⟨ad.block, ad.off + 5, none⟩ = some (.slice b.D b.ds.length b.dcap) := by
 obtain ⟨ad, h1, h2, h3⟩ := h (by simp [Ten.vals])
 have c0 := h3 0 _ rfl
 have c1 := h3 1 _ rfl
 have c2 := h3 2 _ rfl
 have c3 := h3 3 _ rfl
 have c4 := h3 4 _ rfl
 have c5 := h3 5 _ rfl
 rw [Addr.add_zero'] at c0
 simp only [Addr.add, Nat.reduceEqDiff, if_false] at c1 c2 c3 c4 c5
 exact ⟨ad, h1, h2, c0, c1, c2, c3, c4, c5⟩
theorem ri_pair {w : World} {A : Option Addr} {x y : Int} (h : Ri w A [x, y]) : ∃ ad, A = some ad ∧ w.cell? ad = some (.int .i64 x) ∧ w.cell? ⟨ad.block, ad.off + 1, none⟩ = some (.int .i64 y) := by
 obtain ⟨ad, h1, -, h3⟩ := h.2 (by simp)
 have c0 := h3 0 x rfl
 have c1 := h3 1 y rfl
 rw [Addr.add_zero'] at c0
 simp only [Addr.add, Nat.reduceEqDiff, if_false] at c1
 exact ⟨ad, h1, c0, c1⟩
set_option maxRecDepth 100000 in
set_option maxHeartbeats 8000000 in
theorem fill_turn (H : World → Prop) (a : Ten) (A B : Option Addr) (nq qcap bcap ocap f n : Nat) (g : Option Addr) (w : World) (hR : Row w B ([a].flatMap Ten.vals))
  (hV : Calls Tryz.prog 107 #[.slice g n ocap, .int .i64 f, .agg (tcells a.P a.zs.length a.cap a.u a.D a.ds.length a.dcap)] w fun e w' => e = .returned (.tuple #[]) ∧ H w') :
  Calls Tryz.prog 96 #[.slice g n ocap, .int .i64 f, .int .i64 21, .slice A nq qcap, .slice B 1 bcap] w fun e w' => e = .returned (.tuple #[]) ∧ H w' := by
 obtain ⟨ad, rfl, -, c0, c1, c2⟩ := row_one hR
 have V := hide hV
 clear hR hV
 go_enter Tryz.func96, Tryz.ntmps96
 go_wp2_with fail
 refine V.out.mono ?_
 rintro e w1 ⟨rfl, h1⟩
 go_wp2_with fail
 refine bodyPost_end (results_none rfl _ _ _) rfl ?_
 exact ⟨rfl, h1⟩
set_option maxRecDepth 100000 in
set_option maxHeartbeats 8000000 in
theorem fill_mat (H : World → Prop) (a b : Ten) (za zb : Int) (A B : Option Addr) (qcap bcap ocap f n : Nat) (g : Option Addr) (w : World) (hQ : Ri w A [za, zb]) (hR : Row w B ([a, b].flatMap Ten.vals))
  (hV : Calls Tryz.prog 106 #[.slice g n ocap, .int .i64 f, .agg (tcells a.P a.zs.length a.cap a.u a.D a.ds.length a.dcap), .agg (tcells b.P b.zs.length b.cap b.u b.D b.ds.length b.dcap), .int .i64 za, .int .i64 zb] w.drew fun e w' => e = .returned (.tuple #[]) ∧ H w') :
  Calls Tryz.prog 96 #[.slice g n ocap, .int .i64 f, .int .i64 12, .slice A 2 qcap, .slice B 2 bcap] w fun e w' => e = .returned (.tuple #[]) ∧ H w' := by
 obtain ⟨ad, rfl, -, c0, c1, c2, c3, c4, c5⟩ := row_two hR
 obtain ⟨aq, rfl, q0, q1⟩ := ri_pair hQ
 have V := hide hV
 clear hR hV hQ
 go_enter Tryz.func96, Tryz.ntmps96
 go_wp2_with fail
 go_still_tail 14, (by kernel_rfl)
 change wpList _ _ _ _ _ w.drew
 go_wp2_with fail
 refine V.out.mono ?_
 rintro e w1 ⟨rfl, h1⟩
 go_wp2_with fail
 refine bodyPost_end (results_none rfl _ _ _) rfl ?_
 exact ⟨rfl, h1⟩
end Go.Proofs.YtgdcfjmpjhlndaaGreatDoor
