/-
  slices.Clone of ints, plan.cloneView, plan.cloneInstr, walked; rows whose elements are put in one by one. By an AI agent. No person has read it.
-/
import Derived.Test.YthjnkaikjjjceaaDoorPcPlnQ
import Derived.Lib.SliceRun
namespace Go.Proofs.YthjnkaikjjjceaaDoor
open Go.RowKit Go.Shelf
attribute [local go_sem] Oper.semAt_some

theorem own_blank (w : World) (base : Nat) (h : base ≤ w.heap.size) : (w.alloc (.cells #[] 3)).ownsRow base 3 1 (.slice (some ⟨w.heap.size, 0, none⟩) 0 0) 0 [] :=
  ⟨rfl, .inr ⟨_, 0, #[], rfl, h, heap_alloc_new w _, by omega, by unfold maxLen; omega, by simp, by simp⟩⟩
set_option maxRecDepth 100000 in
set_option maxHeartbeats 4000000 in
theorem clonei_c (zs : List Int) (P : Option Addr) (cap : Nat) (w : World) (hr : Ri w P zs) (hl : zs.length ≤ 1000000) :
    Calls Tryd.prog 84 #[.slice P zs.length cap] w fun e w' => (∃ A c, e = .returned (.slice A zs.length c) ∧ w'.ownsRow w.heap.size 3 1 (.slice A zs.length c) zs.length (i64s zs)) ∧ Below w.heap.size w w' := by
  cases P with
  | none =>
    have hz : zs = [] := Classical.byContradiction fun h => by
      obtain ⟨ad, e, -⟩ := hr.2 h
      cases e
    subst hz
    rw [show ([] : List Int).length = 0 from rfl]
    have hnil := fun W : World => Lib.run_eql_slice_nil (P := Tryd.prog) W 46 3 none 0 cap 0 0 uis
    clear hr hl
    go_enter Tryd.func84, Tryd.ntmps84
    go_wp2_with fail
    go_ret
    exact ⟨⟨none, 0, rfl, World.ownsRow_nil w w.heap.size 3 1⟩, Below.refl _ _⟩
  | some ad =>
    have HOWN := hide (own_blank w w.heap.size (Nat.le_refl _))
    have hb1 := (Below.refl _ w).alloc (Nat.le_refl _) (Obj.cells #[] 3)
    have HR := hide (hr.below hb1)
    have HB1 := hide hb1
    obtain ⟨n, hn⟩ : ∃ n, Hid (zs.length = n) := ⟨_, hide rfl⟩
    have HS := hide (show 0 + n ≤ 1000000000000 by have := hn.out; omega)
    rw [hn.out]
    have hnil := fun W : World => Lib.run_eql_slice_nil (P := Tryd.prog) W 46 3 (some ad) n cap 0 0 uis
    clear hr hb1 hl
    go_enter Tryd.func84, Tryd.ntmps84
    go_wp2_with (at_builtin; refine wpList_append_is rfl (.tmp 5) (.tmp 6) rfl w.heap.size _ 0 [] rfl HOWN.out (some ad) n cap zs rfl hn HR.out HS.out HB1.out.size ?_)
    intro v' w' h1 h2 h3
    have HO : Hid (∃ A c, v' = .slice A n c ∧ w'.ownsRow w.heap.size 3 1 (.slice A n c) n (i64s zs)) := hide (by
      have h1' : w'.ownsRow w.heap.size 3 1 v' n (i64s zs) := by simpa using h1
      obtain ⟨A, c, rfl, -⟩ := own_row h1'
      exact ⟨A, c, rfl, h1'⟩)
    have HBF : Hid (Below w.heap.size w w') := hide (HB1.out.grown h2 HB1.out.size (fun k e => by have e : w.heap.size = k := Option.some.inj e; omega))
    clear h1 h2 h3
    go_wp2_with fail
    go_ret
    obtain ⟨A, c, rfl, hA⟩ := HO.out
    exact ⟨⟨A, c, rfl, hA⟩, HBF.out⟩
theorem own_lower {w : World} {base base' : Nat} {e : TypeId} {size : Nat} {v : Value} {n : Nat} {xs : List Value} (h : w.ownsRow base e size v n xs) (hb : base' ≤ base) : w.ownsRow base' e size v n xs :=
  ⟨h.1, h.2.imp id fun ⟨g, cap, cur, h1, h2, h3⟩ => ⟨g, cap, cur, h1, Nat.le_trans hb h2, h3⟩⟩
theorem own_io {base : Nat} {w : World} {A : Option Addr} {c : Nat} {zs : List Int} (h : w.ownsRow base 3 1 (.slice A zs.length c) zs.length (i64s zs)) (hw : ∀ z ∈ zs, (Lit.int .i64 z).wf = true) : Io base w A zs := by
  obtain ⟨P, c2, e, hio⟩ := Io.of_own h hw
  injection e with e1
  subst e1
  exact hio
/-- A row of ints that lies in no block of this slice. -/
def RowOff (v : Value) (P : Option Addr) (zs : List Int) : Prop := zs ≠ [] → ∀ ad, P = some ad → some ad.block ≠ v.ownBlock
theorem row_off1 {W1 W2 : World} {b base n k : Nat} {e : TypeId} {P : Option Addr} {zs : List Int} {v : Value} {xs : List Value} (h : Io b W1 P zs) (ho : W2.ownsRow base e k v n xs) (hb : W1.heap.size ≤ base) : RowOff v P zs := by
  intro hn ad e1 e2
  obtain ⟨g, rest, rfl, -, hH⟩ := h.2 hn
  obtain rfl := Option.some.inj e1
  have h1 := own_low ho g e2.symm
  have h2 := hH.lt
  omega
theorem own_under {w : World} {base n s : Nat} {e : TypeId} {v : Value} {xs : List Value} (h : w.ownsRow base e s v n xs) (k : Nat) (hk : v.ownBlock = some k) : k < w.heap.size := by
  rcases h.2 with ⟨rfl, -⟩ | ⟨g, c, cur, rfl, h2, h3, -⟩
  · cases hk
  · obtain rfl : g = k := Option.some.inj hk
    rcases Nat.lt_or_ge g w.heap.size with hlt | hge
    · exact hlt
    · rw [Array.getElem?_eq_none hge] at h3; cases h3
theorem row_off2 {W1 W2 : World} {b base n k : Nat} {e : TypeId} {P : Option Addr} {zs : List Int} {v : Value} {xs : List Value} (ho : W1.ownsRow base e k v n xs) (h : Io b W2 P zs) (hb : W1.heap.size ≤ b) : RowOff v P zs := by
  intro hn ad e1 e2
  obtain ⟨g, rest, rfl, hg, -⟩ := h.2 hn
  obtain rfl := Option.some.inj e1
  have h1 := own_under ho g e2.symm
  omega
theorem Io.off {base : Nat} {W W' : World} {P : Option Addr} {zs : List Int} {v : Value} (h : Io base W P zs) (hg : W.grownBy W' v.ownBlock) (hr : RowOff v P zs) : Io base W' P zs := by
  refine ⟨h.1, fun hn => ?_⟩
  obtain ⟨g, rest, h1, h2, hH⟩ := h.2 hn
  exact ⟨g, rest, h1, h2, hH.grown hg (hr hn _ h1)⟩
/-- An instruction that was cloned: its args may grow. -/
structure Ins.Ck (base : Nat) (w : World) (n : Ins) : Prop where
  io : n.Io base w
  own : w.ownsRow base 3 1 (.slice n.G n.gs.length n.gc) n.gs.length (i64s n.gs)
theorem Ins.Ck.grown {base : Nat} {w w' : World} {row : Option Nat} {n : Ins} (h : n.Ck base w) (hg : w.grownBy w' row) (hr : NotT w row 3) : n.Ck base w' := ⟨h.io.grown hg hr, own_not h.own hg hr⟩
theorem Ins.Ck.less {base b2 : Nat} {w : World} {n : Ins} (h : n.Ck base w) (hb : b2 ≤ base) : n.Ck b2 w := ⟨h.io.less hb, own_lower h.own hb⟩
/-- A row of elements of k cells: the cell j of element i. -/
theorem flat_get {α : Type} (f : α → List Value) (k : Nat) (hk : 0 < k) (hf : ∀ x, (f x).length = k) : ∀ (L : List α) (m : Nat), (L.flatMap f)[m]? = (L[m / k]?).bind (fun x => (f x)[m % k]?) := by
  intro L
  induction L with
  | nil => intro m; simp
  | cons x L ih =>
    intro m
    rw [List.flatMap_cons]
    rcases Nat.lt_or_ge m k with h | h
    · rw [List.getElem?_append_left (by rw [hf]; exact h), Nat.div_eq_of_lt h, Nat.mod_eq_of_lt h]
      rfl
    · rw [List.getElem?_append_right (by rw [hf]; exact h), hf, ih]
      obtain ⟨m', rfl⟩ : ∃ m', m = m' + k := ⟨m - k, by omega⟩
      rw [Nat.add_sub_cancel, Nat.add_div_right _ hk, Nat.add_mod_right]
      rfl
/-- Some values put from a place on. -/
def putAt (xs : List Value) (o : Nat) : List Value → List Value
  | [] => xs
  | v :: vs => putAt (xs.set o v) (o + 1) vs
theorem putAt_get (vs : List Value) : ∀ (xs : List Value) (o m : Nat), o + vs.length ≤ xs.length → (putAt xs o vs)[m]? = if o ≤ m ∧ m < o + vs.length then vs[m - o]? else xs[m]? := by
  induction vs with
  | nil => intro xs o m _; rw [if_neg (by simp)]; rfl
  | cons v vs ih =>
    intro xs o m hl
    rw [List.length_cons] at hl
    show (putAt (xs.set o v) (o + 1) vs)[m]? = _
    rw [ih _ _ _ (by rw [List.length_set]; omega), List.length_cons]
    rcases Nat.lt_trichotomy m o with h | h | h
    · rw [if_neg (by omega), if_neg (by omega), List.getElem?_set_ne (by omega)]
    · subst h
      rw [if_neg (by omega), if_pos (by omega), Nat.sub_self, List.getElem?_set_self (by omega)]
      rfl
    · by_cases h2 : m < o + 1 + vs.length
      · rw [if_pos ⟨h, h2⟩, if_pos (by omega), show m - o = (m - (o + 1)) + 1 by omega]
        rfl
      · rw [if_neg (by omega), if_neg (by omega), List.getElem?_set_ne (by omega)]
theorem flat_put {α : Type} (f : α → List Value) (k : Nat) (hk : 0 < k) (hf : ∀ x, (f x).length = k) (L : List α) (i : Nat) (x : α) (hi : i < L.length) : putAt (L.flatMap f) (i * k) (f x) = (L.set i x).flatMap f := by
  apply List.ext_getElem?
  intro m
  have hlen : (L.flatMap f).length = L.length * k := flat_len f k L (fun _ _ => hf _)
  have hle : (i + 1) * k ≤ L.length * k := Nat.mul_le_mul_right k hi
  rw [Nat.succ_mul] at hle
  rw [putAt_get _ _ _ _ (by rw [hf, hlen]; exact hle), hf, flat_get f k hk hf, flat_get f k hk hf]
  have hm := Nat.div_add_mod m k
  have hmk := Nat.mod_lt m hk
  rw [Nat.mul_comm] at hm
  by_cases h : i * k ≤ m ∧ m < i * k + k
  · rw [if_pos h]
    have hq : m / k = i := by
      rw [Nat.div_eq_of_lt_le h.1]
      rw [Nat.succ_mul]
      exact h.2
    rw [hq] at hm ⊢
    rw [List.getElem?_set_self hi, show m - i * k = m % k by omega]
    rfl
  · rw [if_neg h, List.getElem?_set_ne]
    intro hq
    rw [← hq] at hm
    omega
theorem flat_one {α : Type} (f : α → List Value) (k : Nat) (hk : 0 < k) (hf : ∀ x, (f x).length = k) (L : List α) (i j : Nat) (x y : α) (v : Value) (hy : L[i]? = some y) (hj : j < k) (hx : f x = (f y).set j v) : (L.flatMap f).set (i * k + j) v = (L.set i x).flatMap f := by
  have hi : i < L.length := (List.getElem?_eq_some_iff.1 hy).1
  have hlen : (L.flatMap f).length = L.length * k := flat_len f k L (fun _ _ => hf _)
  have hle : (i + 1) * k ≤ L.length * k := Nat.mul_le_mul_right k hi
  rw [Nat.succ_mul] at hle
  apply List.ext_getElem?
  intro m
  rw [flat_get f k hk hf, List.getElem?_set]
  have hm := Nat.div_add_mod m k
  have hmk := Nat.mod_lt m hk
  rw [Nat.mul_comm] at hm
  by_cases h : m / k = i
  · rw [h] at hm ⊢
    rw [List.getElem?_set_self hi]
    show _ = (f x)[m % k]?
    rw [hx, List.getElem?_set, hf]
    by_cases h2 : i * k + j = m
    · rw [if_pos h2, if_pos (by omega), if_pos (by omega), if_pos hj]
    · rw [if_neg h2, if_neg (by omega), flat_get f k hk hf, h, hy]
      rfl
  · rw [List.getElem?_set_ne (fun e => h e.symm), if_neg, flat_get f k hk hf]
    intro h2
    apply h
    rw [← h2, Nat.mul_comm, Nat.mul_add_div hk, Nat.div_eq_of_lt hj, Nat.add_zero]
theorem three_held {W : World} {g : Nat} {t : TypeId} {a b c : Value} (h : Has W g t [a, b, c]) : W.cell? ⟨g, 0, none⟩ = some a ∧ W.cell? ⟨g, 1, none⟩ = some b ∧ W.cell? ⟨g, 2, none⟩ = some c := ⟨h.cell 0, h.cell 1, h.cell 2⟩
theorem grown_cell (w : World) (a : Addr) (u : Value) : w.grownBy (w.setCell a u) (some a.block) :=
  ⟨rfl, rfl, rfl, by simp, fun k _ hk => Below.heap_setCell w a u k fun e => hk (by rw [e])⟩
set_option maxRecDepth 100000 in
set_option maxHeartbeats 4000000 in
theorem cloneview_c (x : Vw) (w : World) (hx : x.In w) :
    Calls Tryd.prog 59 #[.agg #[.int .i64 x.off, .slice x.d.P x.d.zs.length x.d.cap, .bool x.d.u]] w fun e w' => (∃ y : Vw, e = .returned (.agg #[.int .i64 y.off, .slice y.d.P y.d.zs.length y.d.cap, .bool y.d.u]) ∧ y.pl = x.pl ∧ y.Io w.heap.size w') ∧ Below w.heap.size w w' := by
  obtain ⟨hb1, hT, hZ⟩ := box_two w 61 61 [.int .i64 x.off, .slice x.d.P x.d.zs.length x.d.cap, .bool x.d.u] [.int .i64 0, .slice none 0 0, .bool false]
  have HC : Hid (∀ W, Below w.heap.size w W → Calls Tryd.prog 63 #[.agg (dcells x.d.P x.d.zs.length x.d.cap x.d.u)] W fun e w' => (∃ (P : Option Addr) (c : Nat), e = .returned (.agg #[.slice P x.d.zs.length c, .bool x.d.u]) ∧ Io w.heap.size w' P x.d.zs) ∧ Below W.heap.size W w') := hide (fun W hW => (clone_own x.d.zs x.d.P x.d.cap x.d.u W (hx.d.shp.below hW) hx.d.ls).mono (by
    rintro e w' ⟨⟨g, c, rest, rfl, h1, -, -, h2, -⟩, h3⟩
    have hs := hW.size
    exact ⟨⟨some ⟨g, 0, none⟩, c, rfl, (hx.d.shp).1, fun _ => ⟨g, rest, rfl, by omega, h2⟩⟩, h3⟩))
  have HF : Hid (∀ (P : Option Addr) (c : Nat) (w' : World), Io w.heap.size w' P x.d.zs → (Vw.mk x.off ⟨P, x.d.zs, c, x.d.u⟩).pl = x.pl ∧ (Vw.mk x.off ⟨P, x.d.zs, c, x.d.u⟩).Io w.heap.size w') := hide (fun P c w' h => ⟨rfl, h, hx.d.ls⟩)
  obtain ⟨n, hn⟩ : ∃ n, Hid (x.d.zs.length = n) := ⟨_, hide rfl⟩
  rw [hn.out] at HC hb1 hT hZ ⊢
  have HB1 := hide hb1
  have HT1 := hide hT
  have HZ1 := hide hZ
  have hS0 : (((w.alloc (Obj.cells #[.int .i64 x.off, .slice x.d.P n x.d.cap, .bool x.d.u] 61)).alloc (Obj.cells #[.int .i64 0, .slice none 0 0, .bool false] 61)).drew).cell? ⟨w.heap.size, 0, none⟩ = some (.int .i64 x.off) ∧ (((w.alloc (Obj.cells #[.int .i64 x.off, .slice x.d.P n x.d.cap, .bool x.d.u] 61)).alloc (Obj.cells #[.int .i64 0, .slice none 0 0, .bool false] 61)).drew).cell? ⟨w.heap.size, 1, none⟩ = some (.slice x.d.P n x.d.cap) ∧ (((w.alloc (Obj.cells #[.int .i64 x.off, .slice x.d.P n x.d.cap, .bool x.d.u] 61)).alloc (Obj.cells #[.int .i64 0, .slice none 0 0, .bool false] 61)).drew).cell? ⟨w.heap.size, 2, none⟩ = some (.bool x.d.u) := ⟨by rw [hT.cell]; rfl, by rw [hT.cell]; rfl, by rw [hT.cell]; rfl⟩
  clear hb1 hT hZ hx
  go_enter Tryd.func59, Tryd.ntmps59
  go_wp2_with fail
  go_region_held3 (fun W => W.cell? ⟨w.heap.size, 0, none⟩ = some (.int .i64 x.off) ∧ W.cell? ⟨w.heap.size, 1, none⟩ = some (.slice x.d.P n x.d.cap) ∧ W.cell? ⟨w.heap.size, 2, none⟩ = some (.bool x.d.u))
    (first | exact hS0 | assumption | exact hS9.out)
    (first
      | (go_at_call 63; refine (HC.out _ HB1.out).mono ?_; rintro e W2 ⟨⟨P, c, rfl, hio⟩, hb⟩; have hz := HZ1.out.below hb HZ1.out.lt; have ht := HT1.out.below hb HT1.out.lt; have hB := HB1.out.trans (hb.mono HB1.out.size); obtain ⟨d0, d1, d2, f0, f1, f2, HO, HOB⟩ := elm_three hz hB (Nat.le_add_right _ 1) (.int .i64 x.off) (.slice P n c) (.bool x.d.u); have hS2 : W2.cell? ⟨w.heap.size, 0, none⟩ = some (.int .i64 x.off) ∧ W2.cell? ⟨w.heap.size, 1, none⟩ = some (.slice x.d.P n x.d.cap) ∧ W2.cell? ⟨w.heap.size, 2, none⟩ = some (.bool x.d.u) := ⟨by rw [ht.cell]; rfl, by rw [ht.cell]; rfl, by rw [ht.cell]; rfl⟩; have hS9 := hide (three_held (((ht.far (p := ⟨w.heap.size + 1, 0, none⟩) (by simp) (.int .i64 x.off)).far (p := ⟨w.heap.size + 1, 1, none⟩) (by simp) (.slice P n c)).far (p := ⟨w.heap.size + 1, 2, none⟩) (by simp) (.bool x.d.u))); have HIO := hide (((hio.grown (grown_cell W2 ⟨w.heap.size + 1, 0, none⟩ (.int .i64 x.off)) (NotT.has hz (by decide))).grown (grown_cell _ ⟨w.heap.size + 1, 1, none⟩ (.slice P n c)) (NotT.has (hz.set_ 0 _) (by decide))).grown (grown_cell _ ⟨w.heap.size + 1, 2, none⟩ (.bool x.d.u)) (NotT.has ((hz.set_ 0 _).set_ 1 _) (by decide)))))
  go_wp2_with fail
  refine bodyPost_ret (results_cell_row rfl _ _ (w.heap.size + 1) 61 #[.int .i64 x.off, .slice P n c, .bool x.d.u] (0, 0) _ rfl HO.out Tryd.underlying61 rfl (by kernel_rfl)) rfl ?_
  obtain ⟨q1, q2⟩ := HF.out P c _ HIO.out
  refine ⟨⟨_, ?_, q1, q2⟩, HOB.out⟩
  show _ = Ending.returned (.agg #[.int .i64 x.off, .slice P x.d.zs.length c, .bool x.d.u])
  rw [hn.out]
set_option maxRecDepth 100000 in
set_option maxHeartbeats 4000000 in
theorem cloneins_c (x : Ins) (w : World) (hx : x.In w) :
    Calls Tryd.prog 65 #[.agg #[.int .i64 x.op, .int .i64 x.dst, .slice x.I x.is.length x.ic, .slice x.G x.gs.length x.gc, .int .i64 x.fr, .int .i64 x.to]] w fun e w' => (∃ y : Ins, e = .returned (.agg #[.int .i64 y.op, .int .i64 y.dst, .slice y.I y.is.length y.ic, .slice y.G y.gs.length y.gc, .int .i64 y.fr, .int .i64 y.to]) ∧ y.pl = x.pl ∧ y.Ck w.heap.size w' ∧ RowOff (.slice y.G y.gs.length y.gc) y.I y.is) ∧ Below w.heap.size w w' := by
  have HI := hide (fun W (h : Below w.heap.size w W) => (clonei_c x.is x.I x.ic W (hx.is.below h) hx.li).mono (R' := fun e w' => (∃ A c, e = .returned (.slice A x.is.length c) ∧ w'.ownsRow W.heap.size 3 1 (.slice A x.is.length c) x.is.length (i64s x.is) ∧ Io W.heap.size w' A x.is) ∧ Below W.heap.size W w') (by
    rintro e w' ⟨⟨A, c, rfl, ho⟩, hb⟩
    exact ⟨⟨A, c, rfl, ho, own_io ho hx.is.1⟩, hb⟩))
  have HG := hide (fun W (h : Below w.heap.size w W) => clonei_c x.gs x.G x.gc W (hx.gs.below h) hx.lg)
  have HF : Hid (∀ (P Q : Option Addr) (c d : Nat) (W : World), W.ownsRow w.heap.size 3 1 (.slice P x.is.length c) x.is.length (i64s x.is) → W.ownsRow w.heap.size 3 1 (.slice Q x.gs.length d) x.gs.length (i64s x.gs) → RowOff (.slice Q x.gs.length d) P x.is → ∃ y : Ins, (#[.int .i64 x.op, .int .i64 x.dst, .slice P x.is.length c, .slice Q x.gs.length d, .int .i64 x.fr, .int .i64 x.to] : Array Value) = #[.int .i64 y.op, .int .i64 y.dst, .slice y.I y.is.length y.ic, .slice y.G y.gs.length y.gc, .int .i64 y.fr, .int .i64 y.to] ∧ y.pl = x.pl ∧ y.Ck w.heap.size W ∧ RowOff (.slice y.G y.gs.length y.gc) y.I y.is) := hide (fun P Q c d W h1 h2 h3 => ⟨⟨x.op, x.dst, P, x.is, c, Q, x.gs, d, x.fr, x.to⟩, rfl, rfl, ⟨⟨own_io h1 hx.is.1, own_io h2 hx.gs.1, hx.li, hx.lg⟩, h2⟩, h3⟩)
  obtain ⟨n, hn⟩ : ∃ n, Hid (x.is.length = n) := ⟨_, hide rfl⟩
  obtain ⟨m, hm⟩ : ∃ n, Hid (x.gs.length = n) := ⟨_, hide rfl⟩
  rw [hn.out] at HI
  rw [hm.out] at HG
  rw [hn.out, hm.out] at HF ⊢
  have hb0 := ((Below.refl w.heap.size w).alloc (Nat.le_refl _) (.cells #[.int .i64 x.op, .int .i64 x.dst, .slice x.I n x.ic, .slice x.G m x.gc, .int .i64 x.fr, .int .i64 x.to] 48)).alloc (by simp) (.cells #[.int .i64 0, .int .i64 0, .slice none 0 0, .slice none 0 0, .int .i64 0, .int .i64 0] 48)
  obtain ⟨W0, hW0⟩ : ∃ W0, Hid ((w.alloc (.cells #[.int .i64 x.op, .int .i64 x.dst, .slice x.I n x.ic, .slice x.G m x.gc, .int .i64 x.fr, .int .i64 x.to] 48)).alloc (.cells #[.int .i64 0, .int .i64 0, .slice none 0 0, .slice none 0 0, .int .i64 0, .int .i64 0] 48) = W0) := ⟨_, hide rfl⟩
  have hr1 : Has W0 w.heap.size 48 [.int .i64 x.op, .int .i64 x.dst, .slice x.I n x.ic, .slice x.G m x.gc, .int .i64 x.fr, .int .i64 x.to] := by
    rw [← hW0.out]
    exact (Has.new w 48 [.int .i64 x.op, .int .i64 x.dst, .slice x.I n x.ic, .slice x.G m x.gc, .int .i64 x.fr, .int .i64 x.to]).alloc _
  have hr2 : Has W0 (w.heap.size + 1) 48 [.int .i64 0, .int .i64 0, .slice none 0 0, .slice none 0 0, .int .i64 0, .int .i64 0] := by
    rw [← hW0.out]
    have h := Has.new (w.alloc (.cells #[.int .i64 x.op, .int .i64 x.dst, .slice x.I n x.ic, .slice x.G m x.gc, .int .i64 x.fr, .int .i64 x.to] 48)) 48 [.int .i64 0, .int .i64 0, .slice none 0 0, .slice none 0 0, .int .i64 0, .int .i64 0]
    simpa using h
  rw [hW0.out] at hb0
  have HB0 := hide hb0
  have HR1 := hide hr1
  have HR2 := hide hr2
  have HC1 := hide (HI.out W0 hb0)
  clear hb0 hr1 hr2 HI hx
  go_enter Tryd.func65, Tryd.ntmps65
  go_wp2_with fail
  rw [hW0.out]
  refine HC1.out.mono ?_
  rintro e w1 ⟨⟨P, c, rfl, ho, hio1⟩, hb⟩
  have HIO1 := hide hio1
  have hr1 := HR1.out.below hb HR1.out.lt
  have hr2 := HR2.out.below hb HR2.out.lt
  have hbw := HB0.out.trans (hb.mono HB0.out.size)
  have hs1 : Has (w1.setCell ⟨w.heap.size, 2, none⟩ (.slice P n c)) w.heap.size 48 [.int .i64 x.op, .int .i64 x.dst, .slice P n c, .slice x.G m x.gc, .int .i64 x.fr, .int .i64 x.to] := hr1.set_ 2 _
  have hz : w.heap.size ≤ W0.heap.size := HB0.out.size
  have HO1 := hide (own_lower (own_not ho (grown_cell w1 ⟨w.heap.size, 2, none⟩ (.slice P n c)) (NotT.has hr1 (by decide))) hz)
  have HS1 := hide hs1
  have HS2 : Hid (Has (w1.setCell ⟨w.heap.size, 2, none⟩ (.slice P n c)) (w.heap.size + 1) 48 [.int .i64 0, .int .i64 0, .slice none 0 0, .slice none 0 0, .int .i64 0, .int .i64 0]) := hide (hr2.far (by simp) _)
  have hbx := hbw.setCell (p := ⟨w.heap.size, 2, none⟩) (Nat.le_refl _) (.slice P n c)
  have HBX := hide hbx
  have HC2 := hide (HG.out _ hbx)
  have c2 : w1.cell? ⟨w.heap.size, 2, none⟩ = some (.slice x.I n x.ic) := hr1.cell 2
  have f2 := hr1.frozen 2
  have c3 : (w1.setCell ⟨w.heap.size, 2, none⟩ (.slice P n c)).cell? ⟨w.heap.size, 3, none⟩ = some (.slice x.G m x.gc) := hs1.cell 3
  have c3' : w1.cell? ⟨w.heap.size, 3, none⟩ = some (.slice x.G m x.gc) := hr1.cell 3
  have hl1 := hr1.lt
  clear HC1 HG ho hb hr1 hr2 hbw hs1 hbx HB0 HR1 HR2 hz hio1
  go_wp2_with fail
  clear c2 f2 c3 c3' hl1
  refine HC2.out.mono ?_
  rintro e w2 ⟨⟨Q, d, rfl, ho⟩, hb⟩
  have hof : RowOff (.slice Q m d) P x.is := row_off1 HIO1.out ho (by simp)
  clear HIO1
  have hr1 := HS1.out.below hb HS1.out.lt
  have hr2 := HS2.out.below hb HS2.out.lt
  have hbw := HBX.out.trans (hb.mono HBX.out.size)
  have hs1 : Has (w2.setCell ⟨w.heap.size, 3, none⟩ (.slice Q m d)) w.heap.size 48 [.int .i64 x.op, .int .i64 x.dst, .slice P n c, .slice Q m d, .int .i64 x.fr, .int .i64 x.to] := hr1.set_ 3 _
  have hs2 : Has (w2.setCell ⟨w.heap.size, 3, none⟩ (.slice Q m d)) (w.heap.size + 1) 48 [.int .i64 0, .int .i64 0, .slice none 0 0, .slice none 0 0, .int .i64 0, .int .i64 0] := hr2.far (by simp) _
  have ho1 := own_not (own_kept HO1.out hb) (grown_cell w2 ⟨w.heap.size, 3, none⟩ (.slice Q m d)) (NotT.has hr1 (by decide))
  have ho2 := own_lower (own_not ho (grown_cell w2 ⟨w.heap.size, 3, none⟩ (.slice Q m d)) (NotT.has hr1 (by decide))) HBX.out.size
  have hbx := hbw.setCell (p := ⟨w.heap.size, 3, none⟩) (Nat.le_refl _) (.slice Q m d)
  have c3 : w2.cell? ⟨w.heap.size, 3, none⟩ = some (.slice x.G m x.gc) := hr1.cell 3
  have f3 := hr1.frozen 3
  have hl1 := hr1.lt
  obtain ⟨X, hX⟩ : ∃ X, Hid (w2.setCell ⟨w.heap.size, 3, none⟩ (.slice Q m d) = X) := ⟨_, hide rfl⟩
  have a0 : (w2.setCell ⟨w.heap.size, 3, none⟩ (.slice Q m d)).cell? ⟨w.heap.size, 0, none⟩ = some (.int .i64 x.op) := hs1.cell 0
  have a1 : (w2.setCell ⟨w.heap.size, 3, none⟩ (.slice Q m d)).cell? ⟨w.heap.size, 1, none⟩ = some (.int .i64 x.dst) := hs1.cell 1
  have a2 : (w2.setCell ⟨w.heap.size, 3, none⟩ (.slice Q m d)).cell? ⟨w.heap.size, 2, none⟩ = some (.slice P n c) := hs1.cell 2
  have a3 : (w2.setCell ⟨w.heap.size, 3, none⟩ (.slice Q m d)).cell? ⟨w.heap.size, 3, none⟩ = some (.slice Q m d) := hs1.cell 3
  have a4 : (w2.setCell ⟨w.heap.size, 3, none⟩ (.slice Q m d)).cell? ⟨w.heap.size, 4, none⟩ = some (.int .i64 x.fr) := hs1.cell 4
  have a5 : (w2.setCell ⟨w.heap.size, 3, none⟩ (.slice Q m d)).cell? ⟨w.heap.size, 5, none⟩ = some (.int .i64 x.to) := hs1.cell 5
  have e0 : (w2.setCell ⟨w.heap.size, 3, none⟩ (.slice Q m d)).cell? ⟨w.heap.size + 1, 0, none⟩ = some (.int .i64 0) := hs2.cell 0
  have e1 : (w2.setCell ⟨w.heap.size, 3, none⟩ (.slice Q m d)).cell? ⟨w.heap.size + 1, 1, none⟩ = some (.int .i64 0) := hs2.cell 1
  have e2 : (w2.setCell ⟨w.heap.size, 3, none⟩ (.slice Q m d)).cell? ⟨w.heap.size + 1, 2, none⟩ = some (.slice none 0 0) := hs2.cell 2
  have e3 : (w2.setCell ⟨w.heap.size, 3, none⟩ (.slice Q m d)).cell? ⟨w.heap.size + 1, 3, none⟩ = some (.slice none 0 0) := hs2.cell 3
  have e4 : (w2.setCell ⟨w.heap.size, 3, none⟩ (.slice Q m d)).cell? ⟨w.heap.size + 1, 4, none⟩ = some (.int .i64 0) := hs2.cell 4
  have e5 : (w2.setCell ⟨w.heap.size, 3, none⟩ (.slice Q m d)).cell? ⟨w.heap.size + 1, 5, none⟩ = some (.int .i64 0) := hs2.cell 5
  have k0 := hs2.frozen 0
  have k1 := hs2.frozen 1
  have k2 := hs2.frozen 2
  have k3 := hs2.frozen 3
  have k4 := hs2.frozen 4
  have k5 := hs2.frozen 5
  have b0 : w2.cell? ⟨w.heap.size, 0, none⟩ = some (.int .i64 x.op) := hr1.cell 0
  have b1 : w2.cell? ⟨w.heap.size, 1, none⟩ = some (.int .i64 x.dst) := hr1.cell 1
  have b2 : w2.cell? ⟨w.heap.size, 2, none⟩ = some (.slice P n c) := hr1.cell 2
  have b4 : w2.cell? ⟨w.heap.size, 4, none⟩ = some (.int .i64 x.fr) := hr1.cell 4
  have b5 : w2.cell? ⟨w.heap.size, 5, none⟩ = some (.int .i64 x.to) := hr1.cell 5
  have hg : World.grownBy (w2.setCell ⟨w.heap.size, 3, none⟩ (.slice Q m d)) (World.setCell (World.setCell (World.setCell (World.setCell (World.setCell (World.setCell (w2.setCell ⟨w.heap.size, 3, none⟩ (.slice Q m d)) ⟨w.heap.size + 1, 0, none⟩ (.int .i64 x.op)) ⟨w.heap.size + 1, 1, none⟩ (.int .i64 x.dst)) ⟨w.heap.size + 1, 2, none⟩ (.slice P n c)) ⟨w.heap.size + 1, 3, none⟩ (.slice Q m d)) ⟨w.heap.size + 1, 4, none⟩ (.int .i64 x.fr)) ⟨w.heap.size + 1, 5, none⟩ (.int .i64 x.to)) (some (w.heap.size + 1)) := ((((((grown_cell _ ⟨w.heap.size + 1, 0, none⟩ (.int .i64 x.op)).trans (grown_cell _ ⟨w.heap.size + 1, 1, none⟩ (.int .i64 x.dst))).trans (grown_cell _ ⟨w.heap.size + 1, 2, none⟩ (.slice P n c))).trans (grown_cell _ ⟨w.heap.size + 1, 3, none⟩ (.slice Q m d))).trans (grown_cell _ ⟨w.heap.size + 1, 4, none⟩ (.int .i64 x.fr))).trans (grown_cell _ ⟨w.heap.size + 1, 5, none⟩ (.int .i64 x.to)))
  have HZ : Hid (Has (World.setCell (World.setCell (World.setCell (World.setCell (World.setCell (World.setCell (w2.setCell ⟨w.heap.size, 3, none⟩ (.slice Q m d)) ⟨w.heap.size + 1, 0, none⟩ (.int .i64 x.op)) ⟨w.heap.size + 1, 1, none⟩ (.int .i64 x.dst)) ⟨w.heap.size + 1, 2, none⟩ (.slice P n c)) ⟨w.heap.size + 1, 3, none⟩ (.slice Q m d)) ⟨w.heap.size + 1, 4, none⟩ (.int .i64 x.fr)) ⟨w.heap.size + 1, 5, none⟩ (.int .i64 x.to)) (w.heap.size + 1) 48 [.int .i64 x.op, .int .i64 x.dst, .slice P n c, .slice Q m d, .int .i64 x.fr, .int .i64 x.to]) := hide ((((((hs2.set_ 0 (.int .i64 x.op)).set_ 1 (.int .i64 x.dst)).set_ 2 (.slice P n c)).set_ 3 (.slice Q m d)).set_ 4 (.int .i64 x.fr)).set_ 5 (.int .i64 x.to))
  have HBZ : Hid (Below w.heap.size w (World.setCell (World.setCell (World.setCell (World.setCell (World.setCell (World.setCell (w2.setCell ⟨w.heap.size, 3, none⟩ (.slice Q m d)) ⟨w.heap.size + 1, 0, none⟩ (.int .i64 x.op)) ⟨w.heap.size + 1, 1, none⟩ (.int .i64 x.dst)) ⟨w.heap.size + 1, 2, none⟩ (.slice P n c)) ⟨w.heap.size + 1, 3, none⟩ (.slice Q m d)) ⟨w.heap.size + 1, 4, none⟩ (.int .i64 x.fr)) ⟨w.heap.size + 1, 5, none⟩ (.int .i64 x.to))) := hide ((((((hbx.setCell (p := ⟨w.heap.size + 1, 0, none⟩) (Nat.le_add_right _ 1) (.int .i64 x.op)).setCell (p := ⟨w.heap.size + 1, 1, none⟩) (Nat.le_add_right _ 1) (.int .i64 x.dst)).setCell (p := ⟨w.heap.size + 1, 2, none⟩) (Nat.le_add_right _ 1) (.slice P n c)).setCell (p := ⟨w.heap.size + 1, 3, none⟩) (Nat.le_add_right _ 1) (.slice Q m d)).setCell (p := ⟨w.heap.size + 1, 4, none⟩) (Nat.le_add_right _ 1) (.int .i64 x.fr)).setCell (p := ⟨w.heap.size + 1, 5, none⟩) (Nat.le_add_right _ 1) (.int .i64 x.to))
  have HY := hide (HF.out P Q c d _ (own_not ho1 hg (NotT.has hs2 (by decide))) (own_not ho2 hg (NotT.has hs2 (by decide))) hof)
  clear hg
  clear hof HC2 ho hb hr1 hr2 hbw hs1 hs2 ho1 ho2 hbx HBX HS1 HS2 HO1 HF
  go_wp2_with fail
  refine bodyPost_ret (results_cell_row rfl _ _ (w.heap.size + 1) 48 #[.int .i64 x.op, .int .i64 x.dst, .slice P n c, .slice Q m d, .int .i64 x.fr, .int .i64 x.to] (0, 0) _ rfl HZ.out Tryd.underlying48 rfl (by kernel_rfl)) rfl ?_
  obtain ⟨y, e, h1, h2, h3⟩ := HY.out
  exact ⟨⟨y, by rw [e], h1, h2, h3⟩, HBZ.out⟩
end Go.Proofs.YthjnkaikjjjceaaDoor
