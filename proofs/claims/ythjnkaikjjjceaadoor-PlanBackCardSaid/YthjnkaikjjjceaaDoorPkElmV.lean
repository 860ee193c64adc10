/-
  What an operation element by element makes of one element. By an AI agent. No person has read it.
-/
import Derived.Test.YthjnkaikjjjceaaDoorPkTenA
import Derived.Test.YthjnkaikjjjceaaDoorPkShpCl
import Derived.Test.YthjnkaikjjjceaaDoorPkShpA
import Derived.Test.YthjnkaikjjjceaaDoorPkShpC
import Derived.Deep.RegionHeld3
import Derived.Laws.OwnMore
import Derived.LoopN
import Derived.Deep.RegionLaw
import Derived.Laws.ResultCell
import Derived.StillTailTactics
namespace Go.Proofs.YthjnkaikjjjceaaDoor
open Go.RowKit
/-- How many args such an operation has, and how many ins. -/
def Elm.nargs (op : Int) : Nat := if op = 9 then 2 else if op = 10 then 3 else if op = 11 then 1 else 0
def Elm.nins (op : Int) : Nat := if 4 ≤ op ∧ op ≤ 7 then 2 else 1
def Elm.known (op : Int) : Bool := decide (4 ≤ op ∧ op ≤ 11)
end Go.Proofs.YthjnkaikjjjceaaDoor
namespace Go.Proofs.YthjnkaikjjjceaaDoor
open Go.RowKit
theorem descinfo : ∃ i : TypeInfo, Tryd.prog.info? 59 = some i ∧ i.zero = some (.agg #[.slice none 0 0, .bool false]) ∧ i.size = 2 ∧ i.bytes = 32 := by
  obtain ⟨i, hi⟩ : ∃ i, Tryd.prog.info? 59 = some i := by
    refine Option.isSome_iff_exists.1 ?_
    kernel_rfl
  have h1 : (Tryd.prog.info? 59).bind (·.zero) = some (.agg #[.slice none 0 0, .bool false]) := by kernel_rfl
  have h2 : (Tryd.prog.info? 59).map (·.size) = some 2 := by kernel_rfl
  have h3 : (Tryd.prog.info? 59).map (·.bytes) = some 32 := by kernel_rfl
  rw [hi] at h1 h2 h3
  exact ⟨i, hi, by simpa using h1, by simpa using h2, by simpa using h3⟩
theorem uds : Tryd.prog.underlying 24 = some (.slice 59) := by kernel_rfl
theorem elm_grown {w W w' : World} {base n s : Nat} {e : TypeId} {v : Value} {xs : List Value} (hb : Below base w W) (h : W.ownsRow base e s v n xs) (hs : base ≤ W.heap.size) (hg : W.grownBy w' v.ownBlock) : Below base w w' := by
  refine hb.grown hg hs (fun k hk => ?_)
  rcases h.2 with ⟨rfl, -⟩ | ⟨g, c, cur, rfl, h2, -⟩
  · cases hk
  · have : g = k := Option.some.inj hk
    omega
theorem results_two {fn : Func} {p u : Tmp} (h : fn.results = #[.tmp p, .tmp u]) (tmps : Array Value) (w : World) : (results fn tmps).run Tryd.prog w = .ok (.tuple #[tmps.getD p undef, tmps.getD u undef]) w := by
  simp [results, h]
theorem own_apart {w : World} {base n s g : Nat} {e : TypeId} {v : Value} {xs : List Value} (h : w.ownsRow base e s v n xs) (hg : g < base) : some g ≠ v.ownBlock := by
  intro hk
  rcases h.2 with ⟨rfl, -⟩ | ⟨k, c, cur, rfl, h2, -⟩
  · cases hk
  · have : g = k := Option.some.inj hk
    omega
/-- What lies from B on. -/
def Row (w : World) (B : Option Addr) (xs : List Value) : Prop := xs ≠ [] → ∃ ad, B = some ad ∧ ad.block < w.heap.size ∧ ∀ (j : Nat) (x : Value), xs[j]? = some x → w.cell? (ad.add j) = some x
theorem Row.below {w w' : World} {B : Option Addr} {xs : List Value} (h : Row w B xs) (hb : Below w.heap.size w w') : Row w' B xs := fun hx => by
  obtain ⟨ad, h1, h2, h3⟩ := h hx
  exact ⟨ad, h1, Nat.lt_of_lt_of_le h2 hb.size, fun j x hj => by rw [hb.cell (by rw [ad_block]; exact h2)]; exact h3 j x hj⟩
theorem Row.nil (w : World) (B : Option Addr) : Row w B [] := fun h => absurd rfl h
theorem Has.row {w : World} {g : Nat} {t : TypeId} {xs : List Value} (h : Has w g t xs) : Row w (some ⟨g, 0, none⟩) xs :=
  fun _ => ⟨_, rfl, h.lt, fun j x hj => by rw [Addr.add_lit, h.cell, Nat.zero_add]; exact hj⟩
/-- A tensor: its value's parts, and what they read as. -/
structure Ten where
  P : Option Addr
  zs : List Int
  cap : Nat
  u : Bool
  D : Option Addr
  ds : List Int
  dcap : Nat
/-- What it looks like. -/
structure Dsc where
  P : Option Addr
  zs : List Int
  cap : Nat
  u : Bool
def Ten.look (t : Ten) : Dsc := ⟨t.P, t.zs, t.cap, t.u⟩
def Ten.vals (t : Ten) : List Value := [.slice t.P t.zs.length t.cap, .bool t.u, .slice t.D t.ds.length t.dcap]
def Dsc.vals (d : Dsc) : List Value := [.slice d.P d.zs.length d.cap, .bool d.u]
structure Ten.In (w : World) (t : Ten) : Prop where
  shp : Ri w t.P t.zs
  dat : Ri w t.D t.ds
  ls : t.zs.length ≤ 1000000
  ld : t.ds.length ≤ 1000000
structure Dsc.In (w : World) (d : Dsc) : Prop where
  shp : Ri w d.P d.zs
  ls : d.zs.length ≤ 1000000
theorem Ten.In.below {w w' : World} {t : Ten} (h : t.In w) (hb : Below w.heap.size w w') : t.In w' := ⟨h.shp.below hb, h.dat.below hb, h.ls, h.ld⟩
theorem Dsc.In.below {w w' : World} {t : Dsc} (h : t.In w) (hb : Below w.heap.size w w') : t.In w' := ⟨h.shp.below hb, h.ls⟩
def Ten.fault (t : Ten) : Nat × Option Nat := Tens.fault t.zs t.u t.ds
/-- The first fault of some. -/
def Tens.first : List Ten → Nat × Option Nat
  | [] => (0, none)
  | t :: l => if t.fault = (0, none) then Tens.first l else t.fault
theorem Tens.first_at (ts : List Ten) (i : Nat) (t : Ten) (h : ts[i]? = some t) (hj : ∀ (j : Nat) x, j < i → ts[j]? = some x → x.fault = (0, none)) (hf : t.fault ≠ (0, none)) : Tens.first ts = t.fault := by
  induction ts generalizing i with
  | nil => simp at h
  | cons x l ih =>
    cases i with
    | zero =>
      simp at h
      subst h
      unfold Tens.first
      rw [if_neg hf]
    | succ i =>
      unfold Tens.first
      rw [if_pos (hj 0 x (Nat.succ_pos i) rfl)]
      exact ih i (by simpa using h) fun j y hji hy => hj (j + 1) y (by omega) (by simpa using hy)
theorem Tens.first_none (ts : List Ten) (h : ∀ (j : Nat) x, ts[j]? = some x → x.fault = (0, none)) : Tens.first ts = (0, none) := by
  induction ts with
  | nil => rfl
  | cons x l ih =>
    unfold Tens.first
    rw [if_pos (h 0 x rfl)]
    exact ih fun j y hy => h (j + 1) y (by simpa using hy)
/-- An element's cells, in a row of all. -/
theorem flat_at {α : Type} (f : α → List Value) (n : Nat) (ts : List α) (hf : ∀ t ∈ ts, (f t).length = n) (i : Nat) (t : α) (h : ts[i]? = some t) (j : Nat) (hj : j < n) : (ts.flatMap f)[i * n + j]? = (f t)[j]? := by
  induction ts generalizing i with
  | nil => simp at h
  | cons x l ih =>
    have hx := hf x (by simp)
    cases i with
    | zero =>
      simp at h
      subst h
      rw [List.flatMap_cons, Nat.zero_mul, Nat.zero_add, List.getElem?_append_left (by omega)]
    | succ i =>
      rw [List.flatMap_cons, List.getElem?_append_right (by rw [hx, Nat.succ_mul]; omega), hx, show (i + 1) * n + j - n = i * n + j by rw [Nat.succ_mul]; omega]
      exact ih (fun t ht => hf t (by simp [ht])) i (by simpa using h)
theorem flat_len {α : Type} (f : α → List Value) (n : Nat) (ts : List α) (hf : ∀ t ∈ ts, (f t).length = n) : (ts.flatMap f).length = ts.length * n := by
  induction ts with
  | nil => simp
  | cons x l ih => rw [List.flatMap_cons, List.length_append, hf x (by simp), ih (fun t ht => hf t (by simp [ht])), List.length_cons, Nat.succ_mul]; omega
theorem add_more (a : Addr) (m k : Nat) : a.add (m + (k + 1)) = ⟨(a.add m).block, (a.add m).off + (k + 1), none⟩ := by
  unfold Addr.add
  by_cases hm : m = 0
  · simp [hm]
  · simp [hm, Nat.add_assoc]
theorem row_ten {w : World} {B : Option Addr} {ts : List Ten} (h : Row w B (ts.flatMap Ten.vals)) (i : Nat) (hi : i < ts.length) : ∃ ad t, B = some ad ∧ ad.block < w.heap.size ∧ Hid (ts[i]? = some t) ∧
    w.cell? (ad.add (i * 3)) = some (.slice t.P t.zs.length t.cap) ∧ w.cell? ⟨(ad.add (i * 3)).block, (ad.add (i * 3)).off + 1, none⟩ = some (.bool t.u) ∧ w.cell? ⟨(ad.add (i * 3)).block, (ad.add (i * 3)).off + 2, none⟩ = some (.slice t.D t.ds.length t.dcap) := by
  have hne : ts.flatMap Ten.vals ≠ [] := fun hc => by
    have := flat_len Ten.vals 3 ts (fun _ _ => rfl)
    rw [hc] at this
    simp at this
    omega
  obtain ⟨ad, h1, h2, h3⟩ := h hne
  have ht := List.getElem?_eq_getElem hi
  exact ⟨ad, ts[i], h1, h2, hide ht, h3 (i * 3) _ (by rw [← Nat.add_zero (i * 3), flat_at Ten.vals 3 ts (fun _ _ => rfl) i _ ht 0 (by decide)]; rfl), by rw [← add_more ad (i * 3) 0]; exact h3 (i * 3 + 1) _ (by rw [flat_at Ten.vals 3 ts (fun _ _ => rfl) i _ ht 1 (by decide)]; rfl), by rw [← add_more ad (i * 3) 1]; exact h3 (i * 3 + 2) _ (by rw [flat_at Ten.vals 3 ts (fun _ _ => rfl) i _ ht 2 (by decide)]; rfl)⟩
theorem row_dsc {w : World} {B : Option Addr} {ts : List Dsc} (h : Row w B (ts.flatMap Dsc.vals)) (i : Nat) (hi : i < ts.length) : ∃ ad t, B = some ad ∧ ad.block < w.heap.size ∧ Hid (ts[i]? = some t) ∧
    w.cell? (ad.add (i * 2)) = some (.slice t.P t.zs.length t.cap) ∧ w.cell? ⟨(ad.add (i * 2)).block, (ad.add (i * 2)).off + 1, none⟩ = some (.bool t.u) := by
  have hne : ts.flatMap Dsc.vals ≠ [] := fun hc => by
    have := flat_len Dsc.vals 2 ts (fun _ _ => rfl)
    rw [hc] at this
    simp at this
    omega
  obtain ⟨ad, h1, h2, h3⟩ := h hne
  have ht := List.getElem?_eq_getElem hi
  exact ⟨ad, ts[i], h1, h2, hide ht, h3 (i * 2) _ (by rw [← Nat.add_zero (i * 2), flat_at Dsc.vals 2 ts (fun _ _ => rfl) i _ ht 0 (by decide)]; rfl), by rw [← add_more ad (i * 2) 0]; exact h3 (i * 2 + 1) _ (by rw [flat_at Dsc.vals 2 ts (fun _ _ => rfl) i _ ht 1 (by decide)]; rfl)⟩
/-- An error that is none of nil. -/
def ErrV (v : Value) : Prop := (∃ a, v = errv a) ∨ ∃ g, v = .iface 119 (.pointer (some ⟨g, 0, none⟩))
theorem TErr.errv {W : World} {ah am ar : Addr} {v : Value} {R : Nat × Option Nat} (h : TErr W ah am ar v R) (hc : R = (0, none) ∨ R = (101, none) ∨ R = (102, none) ∨ R = (104, none) ∨ ∃ i, R = (102, some i)) (hn : R ≠ (0, none)) : ErrV v := by
  rcases hc with rfl | rfl | rfl | rfl | ⟨i, rfl⟩
  · exact absurd rfl hn
  · exact .inl ⟨_, h⟩
  · exact .inl ⟨_, h⟩
  · exact .inl ⟨_, h⟩
  · obtain ⟨g, h1, -⟩ := h
    exact .inr ⟨g, h1⟩
theorem TErr.keep {W W' : World} {ah am ar : Addr} {v : Value} {R : Nat × Option Nat} (h : TErr W ah am ar v R) (hb : ∀ (g : Nat) (x y : Value), Has W g 122 [x, y] → Has W' g 122 [x, y]) : TErr W' ah am ar v R := by
  obtain ⟨k, o⟩ := R
  cases o with
  | none => exact h
  | some i =>
    obtain ⟨g, h1, h2⟩ := h
    exact ⟨g, h1, hb g _ _ h2⟩
theorem TErr.far {W : World} {ah am ar : Addr} {v : Value} {R : Nat × Option Nat} (h : TErr W ah am ar v R) {b : Nat} {t : TypeId} {cs : List Value} (hb : Has W b t cs) (ht : cs.length ≠ 2) (i : Nat) (x : Value) : TErr (W.setCell ⟨b, i, none⟩ x) ah am ar v R := h.keep fun g y z hg => hg.far (p := ⟨b, i, none⟩) (by
    intro (e : g = b)
    subst e
    have h1 : W.heap[g]? = _ := hg
    have h2 : W.heap[g]? = _ := hb
    rw [h1] at h2
    simp at h2
    rw [← h2.1] at ht
    exact ht rfl) x
/-- What lies from the beginning of a block on. -/
def Elm.Lies (w : World) (k : Nat) (xs : List Value) : Prop := k < w.heap.size ∧ ∀ (j : Nat) (x : Value), xs[j]? = some x → w.cell? ⟨k, j, none⟩ = some x
theorem Elm.Lies.below {w w' : World} {k : Nat} {xs : List Value} (h : Elm.Lies w k xs) (hb : Below w.heap.size w w') : Elm.Lies w' k xs :=
  ⟨Nat.lt_of_lt_of_le h.1 hb.size, fun j x hx => (hb.cell h.1).trans (h.2 j x hx)⟩
/-- May the args be? -/
def Elm.may (op : Int) (u : Bool) (qs : List Int) : Bool :=
  if op = 9 then decide (qs.getD 0 0 ≤ qs.getD 1 0) && Tens.fit u (qs.getD 0 0) && Tens.fit u (qs.getD 1 0)
  else if op = 10 then decide (0 ≤ qs.getD 0 0) && decide (qs.getD 0 0 ≤ 2147483647) && decide (0 ≤ qs.getD 1 0) && decide (qs.getD 1 0 ≤ 62) && Tens.fit false (qs.getD 2 0)
  else if op = 11 then Tens.fit false (qs.getD 0 0) else true
/-- Are the ins alike, and of their kind? -/
def Elm.alike (op : Int) (ds : List Dsc) : Bool :=
  match ds with
  | [] => false
  | [d] => if op = 10 then d.u else if op = 11 then !d.u else true
  | d :: f :: _ => decide (d.zs = f.zs) && (d.u == f.u)
/-- The four errors. -/
def E4 (w : World) (ah am ar ak : Addr) : Prop := E3 w ah am ar ∧ ErrIs w 0 ak
theorem E4.below {w wr : World} {ah am ar ak : Addr} (h : E4 w ah am ar ak) (hb : Below w.heap.size w wr) : E4 wr ah am ar ak := ⟨h.1.below hb, h.2.below hb⟩
def Elm.err (ah am ar ak : Addr) (k : Nat) : Value := if k = 103 then errv ak else Tens.err ah am ar k
/-- What is amiss with the first of some that may not be. -/
def Shp.firstbad : List Dsc → Nat
  | [] => 0
  | d :: l => if Shp.code d.zs = 0 then Shp.firstbad l else Shp.code d.zs
/-- What is amiss with an operation: the error's number. -/
def Elm.code (op : Int) (qs : List Int) (ds : List Dsc) : Nat :=
  if Elm.known op = false then 103 else if ds.length ≠ Elm.nins op ∨ qs.length ≠ Elm.nargs op then 101 else if Shp.firstbad ds ≠ 0 then Shp.firstbad ds
  else if Elm.alike op ds = false then 101 else if Elm.may op ((ds.head?.map (·.u)).getD false) qs = false then 102 else 0
abbrev BoxS (w : World) (x y : Value) (W : World) : Prop := W.cell? ⟨w.heap.size, 0, none⟩ = some x ∧ W.cell? ⟨w.heap.size, 1, none⟩ = some y ∧ Hid (Below w.heap.size w W)
theorem BoxS.keep {w : World} {x y : Value} {W W' : World} (h : BoxS w x y W) (hk : w.heap.size < W.heap.size) (hb : Below W.heap.size W W') : BoxS w x y W' :=
  ⟨(hb.cell hk).trans h.1, (hb.cell hk).trans h.2.1, h.2.2.out.trans (hb.mono h.2.2.out.size)⟩
/-- A row of the call's own, as a slice. -/
theorem own_row {w : World} {base n s : Nat} {e : TypeId} {v : Value} {xs : List Value} (h : w.ownsRow base e s v n xs) : ∃ B c, v = .slice B n c ∧ Row w B xs := by
  rcases h.2 with ⟨rfl, rfl⟩ | ⟨g, c, cur, rfl, h2, h3, -, -, -, h4⟩
  · have h1 := h.1
    rw [Nat.zero_mul] at h1
    exact ⟨none, 0, rfl, fun hx => absurd (List.eq_nil_of_length_eq_zero h1) hx⟩
  · refine ⟨_, c, rfl, fun _ => ⟨_, rfl, (Array.getElem?_eq_some_iff.1 h3).1, fun j x hx => ?_⟩⟩
    rw [Addr.add_lit, Nat.zero_add]
    rw [← h4, List.getElem?_take] at hx
    split at hx
    · have : w.cell? ⟨g, j, none⟩ = cur[j]? := by simp [World.cell?, h3]
      rw [this, ← hx, Array.getElem?_toList]
    · cases hx
/-- What is amiss with an operation of tensors. -/
def Elm.fault (op : Int) (qs : List Int) (ts : List Ten) : Nat × Option Nat := if Tens.first ts = (0, none) then (Elm.code op qs (ts.map Ten.look), none) else Tens.first ts
/-- A tensor that came back lies on where one's own block is written. -/
theorem Ten.In.far {w : World} {t : Ten} (h : t.In w) {b : Nat} (hP : ∀ ad, t.P = some ad → ad.block ≠ b) (hD : ∀ ad, t.D = some ad → ad.block ≠ b) (i : Nat) (x : Value) : t.In (w.setCell ⟨b, i, none⟩ x) := by
  have key : ∀ (P : Option Addr) (zs : List Int), (∀ ad, P = some ad → ad.block ≠ b) → Ri w P zs → Ri (w.setCell ⟨b, i, none⟩ x) P zs := fun P zs hne hr => by
    refine ⟨hr.1, fun hz => ?_⟩
    obtain ⟨ad, h1, h2, h3⟩ := hr.2 hz
    refine ⟨ad, h1, by simpa using h2, fun j z hj => ?_⟩
    rw [World.cell?_setCell_far _ _ _ _ (by rw [ad_block]; exact Ne.symm (hne ad h1))]
    exact h3 j z hj
  exact ⟨key _ _ hP h.shp, key _ _ hD h.dat, h.ls, h.ld⟩
/-- .. a tensor. -/
theorem tstore {w W : World} {g gd : Nat} {cs cd ts : List Value} {t : TypeId} {x y z : Value} (v1 v2 v3 : Value) (hz : Has W (w.heap.size + 1) 70 [x, y, z]) (hT : Has W w.heap.size t ts) (hC : Has W g 3 cs) (hD : Has W gd 3 cd) (hB : Below w.heap.size w W) (hg : g ≠ w.heap.size + 1) (hgd : gd ≠ w.heap.size + 1) :
    Has (((W.setCell ⟨w.heap.size + 1, 0, none⟩ v1).setCell ⟨w.heap.size + 1, 1, none⟩ v2).setCell ⟨w.heap.size + 1, 2, none⟩ v3) (w.heap.size + 1) 70 [v1, v2, v3] ∧ Has (((W.setCell ⟨w.heap.size + 1, 0, none⟩ v1).setCell ⟨w.heap.size + 1, 1, none⟩ v2).setCell ⟨w.heap.size + 1, 2, none⟩ v3) w.heap.size t ts ∧
    Has (((W.setCell ⟨w.heap.size + 1, 0, none⟩ v1).setCell ⟨w.heap.size + 1, 1, none⟩ v2).setCell ⟨w.heap.size + 1, 2, none⟩ v3) g 3 cs ∧ Has (((W.setCell ⟨w.heap.size + 1, 0, none⟩ v1).setCell ⟨w.heap.size + 1, 1, none⟩ v2).setCell ⟨w.heap.size + 1, 2, none⟩ v3) gd 3 cd ∧
    Below w.heap.size w (((W.setCell ⟨w.heap.size + 1, 0, none⟩ v1).setCell ⟨w.heap.size + 1, 1, none⟩ v2).setCell ⟨w.heap.size + 1, 2, none⟩ v3) :=
  ⟨((hz.set_ 0 v1).set_ 1 v2).set_ 2 v3, ((hT.far (p := ⟨w.heap.size + 1, 0, none⟩) (by simp) v1).far (p := ⟨w.heap.size + 1, 1, none⟩) (by simp) v2).far (p := ⟨w.heap.size + 1, 2, none⟩) (by simp) v3,
    ((hC.far (p := ⟨w.heap.size + 1, 0, none⟩) hg v1).far (p := ⟨w.heap.size + 1, 1, none⟩) hg v2).far (p := ⟨w.heap.size + 1, 2, none⟩) hg v3, ((hD.far (p := ⟨w.heap.size + 1, 0, none⟩) hgd v1).far (p := ⟨w.heap.size + 1, 1, none⟩) hgd v2).far (p := ⟨w.heap.size + 1, 2, none⟩) hgd v3,
    ((hB.setCell (p := ⟨w.heap.size + 1, 0, none⟩) (Nat.le_succ _) v1).setCell (p := ⟨w.heap.size + 1, 1, none⟩) (Nat.le_succ _) v2).setCell (p := ⟨w.heap.size + 1, 2, none⟩) (Nat.le_succ _) v3⟩
abbrev DesS (w : World) (x y : Value) (W : World) : Prop := W.cell? ⟨w.heap.size, 0, none⟩ = some x ∧ W.cell? ⟨w.heap.size, 1, none⟩ = some y ∧ Hid (Below w.heap.size w W)
theorem DesS.keep {w : World} {x y : Value} {W W' : World} (h : DesS w x y W) (hb : Below W.heap.size W W') : DesS w x y W' :=
  ⟨ten_kept h.1 hb, ten_kept h.2.1 hb, hide (h.2.2.out.trans (hb.mono h.2.2.out.size))⟩
theorem DesS.of {w W : World} {x y : Value} {t : TypeId} (h : Has W w.heap.size t [x, y]) (hb : Below w.heap.size w W) : DesS w x y W :=
  ⟨by rw [h.cell]; rfl, by rw [h.cell]; rfl, hide hb⟩
end Go.Proofs.YthjnkaikjjjceaaDoor
