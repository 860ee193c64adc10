/-
  slices.ContainsFunc over what a plan has, by each of its closures; plan.fitsWide. By an AI agent. No person has read it.
-/
import Derived.Test.YthjnkaikjjjceaaDoorPkPlnE
import Derived.Test.YthjnkaikjjjceaaDoorPkTenA
import Derived.Shelf.GgClosure.Gives
namespace Go.Proofs.YthjnkaikjjjceaaDoor
open Go.RowKit
theorem row_ins {w : World} {B : Option Addr} {ts : List Ins} (h : Row w B (ts.flatMap Ins.vals)) (i : Nat) (hi : i < ts.length) : ∃ ad t, B = some ad ∧ ad.block < w.heap.size ∧ Hid (ts[i]? = some t) ∧
    w.cell? (ad.add (i * 6)) = some (.int .i64 t.op) ∧ w.cell? ⟨(ad.add (i * 6)).block, (ad.add (i * 6)).off + 1, none⟩ = some (.int .i64 t.dst) ∧ w.cell? ⟨(ad.add (i * 6)).block, (ad.add (i * 6)).off + 2, none⟩ = some (.slice t.I t.is.length t.ic) ∧
    w.cell? ⟨(ad.add (i * 6)).block, (ad.add (i * 6)).off + 3, none⟩ = some (.slice t.G t.gs.length t.gc) ∧ w.cell? ⟨(ad.add (i * 6)).block, (ad.add (i * 6)).off + 4, none⟩ = some (.int .i64 t.fr) ∧ w.cell? ⟨(ad.add (i * 6)).block, (ad.add (i * 6)).off + 5, none⟩ = some (.int .i64 t.to) := by
  have hne : ts.flatMap Ins.vals ≠ [] := fun hc => by
    have := flat_len Ins.vals 6 ts (fun _ _ => rfl)
    rw [hc] at this
    simp at this
    omega
  obtain ⟨ad, h1, h2, h3⟩ := h hne
  have ht := List.getElem?_eq_getElem hi
  have k : ∀ j (hj : j < 6) v, (ts[i]).vals[j]? = some v → w.cell? (ad.add (i * 6 + j)) = some v := fun j hj v hv => h3 (i * 6 + j) v (by rw [flat_at Ins.vals 6 ts (fun _ _ => rfl) i _ ht j hj]; exact hv)
  exact ⟨ad, ts[i], h1, h2, hide ht, k 0 (by decide) _ rfl, by rw [← add_more ad (i * 6) 0]; exact k 1 (by decide) _ rfl, by rw [← add_more ad (i * 6) 1]; exact k 2 (by decide) _ rfl, by rw [← add_more ad (i * 6) 2]; exact k 3 (by decide) _ rfl, by rw [← add_more ad (i * 6) 3]; exact k 4 (by decide) _ rfl, by rw [← add_more ad (i * 6) 4]; exact k 5 (by decide) _ rfl⟩
theorem row_vw {w : World} {B : Option Addr} {ts : List Vw} (h : Row w B (ts.flatMap Vw.vals)) (i : Nat) (hi : i < ts.length) : ∃ ad t, B = some ad ∧ ad.block < w.heap.size ∧ Hid (ts[i]? = some t) ∧
    w.cell? (ad.add (i * 3)) = some (.int .i64 t.off) ∧ w.cell? ⟨(ad.add (i * 3)).block, (ad.add (i * 3)).off + 1, none⟩ = some (.slice t.d.P t.d.zs.length t.d.cap) ∧ w.cell? ⟨(ad.add (i * 3)).block, (ad.add (i * 3)).off + 2, none⟩ = some (.bool t.d.u) := by
  have hne : ts.flatMap Vw.vals ≠ [] := fun hc => by
    have := flat_len Vw.vals 3 ts (fun _ _ => rfl)
    rw [hc] at this
    simp at this
    omega
  obtain ⟨ad, h1, h2, h3⟩ := h hne
  have ht := List.getElem?_eq_getElem hi
  have k : ∀ j (hj : j < 3) v, (ts[i]).vals[j]? = some v → w.cell? (ad.add (i * 3 + j)) = some v := fun j hj v hv => h3 (i * 3 + j) v (by rw [flat_at Vw.vals 3 ts (fun _ _ => rfl) i _ ht j hj]; exact hv)
  exact ⟨ad, ts[i], h1, h2, hide ht, k 0 (by decide) _ rfl, by rw [← add_more ad (i * 3) 0]; exact k 1 (by decide) _ rfl, by rw [← add_more ad (i * 3) 1]; exact k 2 (by decide) _ rfl⟩
/-- Ints that are read, whatever they are. -/
def Rc (w : World) (A : Option Addr) (l : List Int) : Prop := l ≠ [] → ∃ ad, A = some ad ∧ ad.block < w.heap.size ∧ ∀ (i : Nat) (z : Int), l[i]? = some z → w.cell? (ad.add i) = some (.int .i64 z)
theorem Ri.rc {w : World} {A : Option Addr} {l : List Int} (h : Ri w A l) : Rc w A l := h.2
theorem Rc.below {w w' : World} {A : Option Addr} {l : List Int} (h : Rc w A l) (hb : Below w.heap.size w w') : Rc w' A l := fun hn => by
  obtain ⟨ad, e, h1, h2⟩ := h hn
  refine ⟨ad, e, Nat.lt_of_lt_of_le h1 hb.size, fun i z hi => ?_⟩
  rw [hb.cell (p := ad.add i) (by rw [ad_block]; exact h1)]
  exact h2 i z hi
theorem rc_at {w : World} {A : Option Addr} {l : List Int} (h : Rc w A l) (i : Nat) (hi : i < l.length) : ∃ ad z, A = some ad ∧ Hid (l[i]? = some z) ∧ w.cell? (ad.add i) = some (.int .i64 z) := by
  obtain ⟨ad, e, -, h2⟩ := h (fun hn => by rw [hn] at hi; simp at hi)
  exact ⟨ad, l[i], e, hide (List.getElem?_eq_getElem hi), h2 i _ (List.getElem?_eq_getElem hi)⟩
theorem new_rc (w : World) (t : TypeId) (zs : List Int) : Rc (w.alloc (.cells (i64s zs).toArray t)) (some ⟨w.heap.size, 0, none⟩) zs := fun _ =>
  ⟨_, rfl, by simp, fun i z hi => new_cells w t (i64s zs) i (.int .i64 z) (by simp [hi])⟩
theorem any_drop {α : Type} (q : α → Bool) (l : List α) (i : Nat) (x : α) (h : l[i]? = some x) : (l.drop i).any q = (q x || (l.drop (i + 1)).any q) := by
  obtain ⟨h1, h2⟩ := List.getElem?_eq_some_iff.1 h
  rw [List.drop_eq_getElem_cons h1, h2]
  rfl
/-- A number that is not wide. -/
def Pl.far (z : Int) : Bool := decide (¬ Tens.wide z = z)
set_option maxRecDepth 100000 in
theorem far_c (x : Int) (w : World) : Calls Tryd.prog 106 #[.int .i64 x] w fun e w' => e = .returned (.bool (Pl.far x)) ∧ Below w.heap.size w w' := by
  have HW := hide (fun W : World => wide_c x W)
  unfold Pl.far
  obtain ⟨z, hz⟩ : ∃ z, Hid (Tens.wide x = z) := ⟨_, hide rfl⟩
  rw [hz.out] at HW ⊢
  go_enter Tryd.func106, Tryd.ntmps106
  go_wp2_with fail
  refine (HW.out _).mono ?_
  rintro e w1 ⟨rfl, rfl⟩
  by_cases h : z = x
  · subst h
    go_wp2_with fail
    go_ret
    exact ⟨by simp, Below.refl _ _⟩
  · have hh : (z == x) = false := by rw [beq_eq_false_iff_ne]; exact h
    have h2 := decide_eq_true h
    go_wp2_with fail
    go_ret
    exact ⟨by simp; rfl, Below.refl _ _⟩
/-- A dimension that has no room in two bytes. -/
def Pl.dim (z : Int) : Bool := decide (z < 0 ∨ 65535 < z)
set_option maxRecDepth 100000 in
theorem dim_c (x : Int) (w : World) : Calls Tryd.prog 95 #[.int .i64 x] w fun e w' => e = .returned (.bool (Pl.dim x)) ∧ Below w.heap.size w w' := by
  unfold Pl.dim
  have HB := hide (Below.refl w.heap.size w)
  rcases Int.lt_or_le x 0 with h | h
  · have e1 : decide (x < 0 ∨ 65535 < x) = true := decide_eq_true (.inl h)
    rw [e1]
    clear e1
    go_enter Tryd.func95, Tryd.ntmps95
    go_wp2_with fail
    go_ret
    exact ⟨rfl, HB.out⟩
  · have h0 : ¬ x < 0 := by omega
    rcases Int.lt_or_le 65535 x with k | k
    · have e1 : decide (x < 0 ∨ 65535 < x) = true := decide_eq_true (.inr k)
      rw [e1]
      clear e1
      go_enter Tryd.func95, Tryd.ntmps95
      go_wp2_with fail
      go_ret
      exact ⟨rfl, HB.out⟩
    · have k0 : ¬ 65535 < x := by omega
      have e1 : decide (x < 0 ∨ 65535 < x) = false := decide_eq_false (by omega)
      rw [e1]
      clear e1
      go_enter Tryd.func95, Tryd.ntmps95
      go_wp2_with fail
      go_ret
      exact ⟨rfl, HB.out⟩
/-- More dimensions than a desc's bytes can tell. -/
def Pl.deep (d : Dsc) : Bool := decide (7 < d.zs.length)
set_option maxRecDepth 100000 in
theorem deep_c (d : Dsc) (w : World) : Calls Tryd.prog 92 #[.agg #[.slice d.P d.zs.length d.cap, .bool d.u]] w fun e w' => e = .returned (.bool (Pl.deep d)) ∧ Below w.heap.size w w' := by
  unfold Pl.deep
  have HB := hide ((Below.refl w.heap.size w).alloc (Nat.le_refl _) (.cells #[.slice d.P d.zs.length d.cap, .bool d.u] 59))
  obtain ⟨n, hn⟩ : ∃ n, Hid (d.zs.length = n) := ⟨_, hide rfl⟩
  rw [hn.out] at HB ⊢
  have e1 : decide (7 < n) = decide ((7 : Int) < (n : Int)) := decide_eq_decide.2 (by omega)
  rw [e1]
  clear e1
  go_enter Tryd.func92, Tryd.ntmps92
  go_wp2_with fail
  go_ret
  exact ⟨rfl, HB.out⟩
/-- More ins or args than there may be. -/
def Pl.many (x : Ins) : Bool := decide (8 < x.is.length ∨ 8 < x.gs.length)
set_option maxRecDepth 100000 in
theorem many_c (x : Ins) (w : World) : Calls Tryd.prog 89 #[.agg #[.int .i64 x.op, .int .i64 x.dst, .slice x.I x.is.length x.ic, .slice x.G x.gs.length x.gc, .int .i64 x.fr, .int .i64 x.to]] w fun e w' => e = .returned (.bool (Pl.many x)) ∧ Below w.heap.size w w' := by
  unfold Pl.many
  have HB := hide ((Below.refl w.heap.size w).alloc (Nat.le_refl _) (.cells #[.int .i64 x.op, .int .i64 x.dst, .slice x.I x.is.length x.ic, .slice x.G x.gs.length x.gc, .int .i64 x.fr, .int .i64 x.to] 48))
  obtain ⟨n, hn⟩ : ∃ n, Hid (x.is.length = n) := ⟨_, hide rfl⟩
  obtain ⟨m, hm⟩ : ∃ n, Hid (x.gs.length = n) := ⟨_, hide rfl⟩
  rw [hn.out, hm.out] at HB ⊢
  rcases Nat.lt_or_ge 8 n with h | h
  · rw [decide_eq_true (show 8 < n ∨ 8 < m from .inl h)]
    have h' : (8 : Int) < (n : Int) := by omega
    clear h
    go_enter Tryd.func89, Tryd.ntmps89
    go_wp2_with fail
    go_ret
    exact ⟨rfl, HB.out⟩
  · have h' : ¬ (8 : Int) < (n : Int) := by omega
    rcases Nat.lt_or_ge 8 m with k | k
    · rw [decide_eq_true (show 8 < n ∨ 8 < m from .inr k)]
      have k' : (8 : Int) < (m : Int) := by omega
      clear h k
      go_enter Tryd.func89, Tryd.ntmps89
      go_wp2_with fail
      go_ret
      exact ⟨rfl, HB.out⟩
    · rw [decide_eq_false (show ¬ (8 < n ∨ 8 < m) by omega)]
      have k' : ¬ (8 : Int) < (m : Int) := by omega
      clear h k
      go_enter Tryd.func89, Tryd.ntmps89
      go_wp2_with fail
      go_ret
      exact ⟨rfl, HB.out⟩
set_option maxRecDepth 100000 in
set_option maxHeartbeats 4000000 in
theorem index_far (l : List Int) (A : Option Addr) (cap : Nat) (w : World) (hR : Rc w A l) (hl : l.length ≤ 1000000) :
    Calls Tryd.prog 108 #[.slice A l.length cap, .func (.func 106) #[] #[]] w fun e w' => (∃ j : Int, e = .returned (.int .i64 j) ∧ decide (0 ≤ j) = l.any Pl.far) ∧ Below w.heap.size w w' := by
  have eg : ∀ args w, (callFunc 106 args).run Tryd.prog w = .ok (.enter 106 args) w := enters_of Tryd.func106 (by kernel_rfl) rfl
  have HR := hide hR

  obtain ⟨nd, hnd⟩ : ∃ n, Hid (l.length = n) := ⟨_, hide rfl⟩
  obtain ⟨G, hG⟩ : ∃ G, Hid (l.any Pl.far = G) := ⟨_, hide rfl⟩
  rw [hG.out]
  rw [hnd.out] at hl ⊢
  clear hR
  go_enter Tryd.func108, Tryd.ntmps108
  go_wp2_with fail
  go_loopw [5, 8] (fun _ k wr => ∃ i : Nat, i ≤ nd ∧ k = .int .i64 i ∧ Hid (Below w.heap.size w wr) ∧ Hid ((l.drop i).any Pl.far = G)) (fun _ k _ => nd - (intOf k).toNat)
  case atStart => exact ⟨0, by omega, rfl, hide (Below.refl _ _), hide hG.out⟩
  case round =>
    obtain ⟨i, hi, rfl, HB, HK⟩ := hrel
    by_cases hlt : i < nd
    · obtain ⟨ad, x, hBad, hd, c0⟩ := (rc_at (HR.out.below HB.out) i (by rw [hnd.out]; exact hlt))
      subst hBad
      have hk := HK.out
      rw [any_drop _ l i x hd.out] at hk
      have HP := hide (far_c x wr)
      obtain ⟨qq, hqq⟩ : ∃ y, Hid (Pl.far x = y) := ⟨_, hide rfl⟩
      rw [hqq.out] at hk HP
      clear HK
      cases qq
      · rw [Bool.false_or] at hk
        have HKf := hide hk
        clear hk
        go_wp2_with (go_at_fn 106; refine HP.out.mono ?_; rintro e w' ⟨rfl, hb'⟩)
        go_roundw
        case rel => exact ⟨i + 1, by omega, by go_num, hide (HB.out.trans (hb'.mono HB.out.size)), HKf⟩
        case measure => simp [intOf]; omega
      · rw [Bool.true_or] at hk
        have HKf := hide hk
        clear hk
        go_wp2_with (go_at_fn 106; refine HP.out.mono ?_; rintro e w' ⟨rfl, hb'⟩)
        go_ret
        exact ⟨⟨_, rfl, by rw [← HKf.out]; exact decide_eq_true (by omega)⟩, HB.out.trans (hb'.mono HB.out.size)⟩
    · obtain rfl : i = nd := by omega
      have hk := HK.out
      rw [List.drop_eq_nil_of_le (by rw [hnd.out]; omega)] at hk
      have HKf := hide hk
      clear HK hlt hi hk
      go_wp2_with fail
      go_ret
      exact ⟨⟨_, rfl, by rw [← HKf.out]; rfl⟩, HB.out⟩
theorem has_far (l : List Int) (A : Option Addr) (cap : Nat) (w : World) (hR : Rc w A l) (hl : l.length ≤ 1000000) :
    Calls Tryd.prog 94 #[.slice A l.length cap, .func (.func 106) #[] #[]] w fun e w' => e = .returned (.bool (l.any Pl.far)) ∧ Below w.heap.size w w' := by
  have HP := hide (index_far l A cap w hR hl)
  obtain ⟨G, hG⟩ : ∃ G, Hid (l.any Pl.far = G) := ⟨_, hide rfl⟩
  rw [hG.out] at HP ⊢
  go_enter Tryd.func94, Tryd.ntmps94
  go_wp2_with fail
  refine HP.out.mono ?_
  rintro e w' ⟨⟨j, rfl, hj⟩, hb'⟩
  have HB := hide hb'
  clear HP hR hl hb' hG
  go_wp2_with fail
  go_ret
  exact ⟨rfl, HB.out⟩
set_option maxRecDepth 100000 in
set_option maxHeartbeats 4000000 in
theorem index_dim (l : List Int) (A : Option Addr) (cap : Nat) (w : World) (hR : Rc w A l) (hl : l.length ≤ 1000000) :
    Calls Tryd.prog 108 #[.slice A l.length cap, .func (.func 95) #[] #[]] w fun e w' => (∃ j : Int, e = .returned (.int .i64 j) ∧ decide (0 ≤ j) = l.any Pl.dim) ∧ Below w.heap.size w w' := by
  have eg : ∀ args w, (callFunc 95 args).run Tryd.prog w = .ok (.enter 95 args) w := enters_of Tryd.func95 (by kernel_rfl) rfl
  have HR := hide hR

  obtain ⟨nd, hnd⟩ : ∃ n, Hid (l.length = n) := ⟨_, hide rfl⟩
  obtain ⟨G, hG⟩ : ∃ G, Hid (l.any Pl.dim = G) := ⟨_, hide rfl⟩
  rw [hG.out]
  rw [hnd.out] at hl ⊢
  clear hR
  go_enter Tryd.func108, Tryd.ntmps108
  go_wp2_with fail
  go_loopw [5, 8] (fun _ k wr => ∃ i : Nat, i ≤ nd ∧ k = .int .i64 i ∧ Hid (Below w.heap.size w wr) ∧ Hid ((l.drop i).any Pl.dim = G)) (fun _ k _ => nd - (intOf k).toNat)
  case atStart => exact ⟨0, by omega, rfl, hide (Below.refl _ _), hide hG.out⟩
  case round =>
    obtain ⟨i, hi, rfl, HB, HK⟩ := hrel
    by_cases hlt : i < nd
    · obtain ⟨ad, x, hBad, hd, c0⟩ := (rc_at (HR.out.below HB.out) i (by rw [hnd.out]; exact hlt))
      subst hBad
      have hk := HK.out
      rw [any_drop _ l i x hd.out] at hk
      have HP := hide (dim_c x wr)
      obtain ⟨qq, hqq⟩ : ∃ y, Hid (Pl.dim x = y) := ⟨_, hide rfl⟩
      rw [hqq.out] at hk HP
      clear HK
      cases qq
      · rw [Bool.false_or] at hk
        have HKf := hide hk
        clear hk
        go_wp2_with (go_at_fn 95; refine HP.out.mono ?_; rintro e w' ⟨rfl, hb'⟩)
        go_roundw
        case rel => exact ⟨i + 1, by omega, by go_num, hide (HB.out.trans (hb'.mono HB.out.size)), HKf⟩
        case measure => simp [intOf]; omega
      · rw [Bool.true_or] at hk
        have HKf := hide hk
        clear hk
        go_wp2_with (go_at_fn 95; refine HP.out.mono ?_; rintro e w' ⟨rfl, hb'⟩)
        go_ret
        exact ⟨⟨_, rfl, by rw [← HKf.out]; exact decide_eq_true (by omega)⟩, HB.out.trans (hb'.mono HB.out.size)⟩
    · obtain rfl : i = nd := by omega
      have hk := HK.out
      rw [List.drop_eq_nil_of_le (by rw [hnd.out]; omega)] at hk
      have HKf := hide hk
      clear HK hlt hi hk
      go_wp2_with fail
      go_ret
      exact ⟨⟨_, rfl, by rw [← HKf.out]; rfl⟩, HB.out⟩
theorem has_dim (l : List Int) (A : Option Addr) (cap : Nat) (w : World) (hR : Rc w A l) (hl : l.length ≤ 1000000) :
    Calls Tryd.prog 94 #[.slice A l.length cap, .func (.func 95) #[] #[]] w fun e w' => e = .returned (.bool (l.any Pl.dim)) ∧ Below w.heap.size w w' := by
  have HP := hide (index_dim l A cap w hR hl)
  obtain ⟨G, hG⟩ : ∃ G, Hid (l.any Pl.dim = G) := ⟨_, hide rfl⟩
  rw [hG.out] at HP ⊢
  go_enter Tryd.func94, Tryd.ntmps94
  go_wp2_with fail
  refine HP.out.mono ?_
  rintro e w' ⟨⟨j, rfl, hj⟩, hb'⟩
  have HB := hide hb'
  clear HP hR hl hb' hG
  go_wp2_with fail
  go_ret
  exact ⟨rfl, HB.out⟩
set_option maxRecDepth 100000 in
set_option maxHeartbeats 4000000 in
theorem index_deep (l : List Dsc) (A : Option Addr) (cap : Nat) (w : World) (hR : Row w A (l.flatMap Dsc.vals)) (hl : l.length ≤ 4000000) :
    Calls Tryd.prog 105 #[.slice A l.length cap, .func (.func 92) #[] #[]] w fun e w' => (∃ j : Int, e = .returned (.int .i64 j) ∧ decide (0 ≤ j) = l.any Pl.deep) ∧ Below w.heap.size w w' := by
  have eg : ∀ args w, (callFunc 92 args).run Tryd.prog w = .ok (.enter 92 args) w := enters_of Tryd.func92 (by kernel_rfl) rfl
  have HR := hide hR

  obtain ⟨nd, hnd⟩ : ∃ n, Hid (l.length = n) := ⟨_, hide rfl⟩
  obtain ⟨G, hG⟩ : ∃ G, Hid (l.any Pl.deep = G) := ⟨_, hide rfl⟩
  rw [hG.out]
  rw [hnd.out] at hl ⊢
  clear hR
  go_enter Tryd.func105, Tryd.ntmps105
  go_wp2_with fail
  go_loopw [5, 8] (fun _ k wr => ∃ i : Nat, i ≤ nd ∧ k = .int .i64 i ∧ Hid (Below w.heap.size w wr) ∧ Hid ((l.drop i).any Pl.deep = G)) (fun _ k _ => nd - (intOf k).toNat)
  case atStart => exact ⟨0, by omega, rfl, hide (Below.refl _ _), hide hG.out⟩
  case round =>
    obtain ⟨i, hi, rfl, HB, HK⟩ := hrel
    by_cases hlt : i < nd
    · obtain ⟨ad, x, hBad, had, hd, c0, c1⟩ := (row_dsc (HR.out.below HB.out) i (by rw [hnd.out]; exact hlt))
      subst hBad
      have hk := HK.out
      rw [any_drop _ l i x hd.out] at hk
      have HP := hide (deep_c x wr)
      obtain ⟨qq, hqq⟩ : ∃ y, Hid (Pl.deep x = y) := ⟨_, hide rfl⟩
      rw [hqq.out] at hk HP
      clear HK had
      cases qq
      · rw [Bool.false_or] at hk
        have HKf := hide hk
        clear hk
        go_wp2_with (go_at_fn 92; refine HP.out.mono ?_; rintro e w' ⟨rfl, hb'⟩)
        go_roundw
        case rel => exact ⟨i + 1, by omega, by go_num, hide (HB.out.trans (hb'.mono HB.out.size)), HKf⟩
        case measure => simp [intOf]; omega
      · rw [Bool.true_or] at hk
        have HKf := hide hk
        clear hk
        go_wp2_with (go_at_fn 92; refine HP.out.mono ?_; rintro e w' ⟨rfl, hb'⟩)
        go_ret
        exact ⟨⟨_, rfl, by rw [← HKf.out]; exact decide_eq_true (by omega)⟩, HB.out.trans (hb'.mono HB.out.size)⟩
    · obtain rfl : i = nd := by omega
      have hk := HK.out
      rw [List.drop_eq_nil_of_le (by rw [hnd.out]; omega)] at hk
      have HKf := hide hk
      clear HK hlt hi hk
      go_wp2_with fail
      go_ret
      exact ⟨⟨_, rfl, by rw [← HKf.out]; rfl⟩, HB.out⟩
theorem has_deep (l : List Dsc) (A : Option Addr) (cap : Nat) (w : World) (hR : Row w A (l.flatMap Dsc.vals)) (hl : l.length ≤ 4000000) :
    Calls Tryd.prog 90 #[.slice A l.length cap, .func (.func 92) #[] #[]] w fun e w' => e = .returned (.bool (l.any Pl.deep)) ∧ Below w.heap.size w w' := by
  have HP := hide (index_deep l A cap w hR hl)
  obtain ⟨G, hG⟩ : ∃ G, Hid (l.any Pl.deep = G) := ⟨_, hide rfl⟩
  rw [hG.out] at HP ⊢
  go_enter Tryd.func90, Tryd.ntmps90
  go_wp2_with fail
  refine HP.out.mono ?_
  rintro e w' ⟨⟨j, rfl, hj⟩, hb'⟩
  have HB := hide hb'
  clear HP hR hl hb' hG
  go_wp2_with fail
  go_ret
  exact ⟨rfl, HB.out⟩
set_option maxRecDepth 100000 in
set_option maxHeartbeats 4000000 in
theorem index_many (l : List Ins) (A : Option Addr) (cap : Nat) (w : World) (hR : Row w A (l.flatMap Ins.vals)) (hl : l.length ≤ 1000000) :
    Calls Tryd.prog 104 #[.slice A l.length cap, .func (.func 89) #[] #[]] w fun e w' => (∃ j : Int, e = .returned (.int .i64 j) ∧ decide (0 ≤ j) = l.any Pl.many) ∧ Below w.heap.size w w' := by
  have eg : ∀ args w, (callFunc 89 args).run Tryd.prog w = .ok (.enter 89 args) w := enters_of Tryd.func89 (by kernel_rfl) rfl
  have HR := hide hR

  obtain ⟨nd, hnd⟩ : ∃ n, Hid (l.length = n) := ⟨_, hide rfl⟩
  obtain ⟨G, hG⟩ : ∃ G, Hid (l.any Pl.many = G) := ⟨_, hide rfl⟩
  rw [hG.out]
  rw [hnd.out] at hl ⊢
  clear hR
  go_enter Tryd.func104, Tryd.ntmps104
  go_wp2_with fail
  go_loopw [5, 8] (fun _ k wr => ∃ i : Nat, i ≤ nd ∧ k = .int .i64 i ∧ Hid (Below w.heap.size w wr) ∧ Hid ((l.drop i).any Pl.many = G)) (fun _ k _ => nd - (intOf k).toNat)
  case atStart => exact ⟨0, by omega, rfl, hide (Below.refl _ _), hide hG.out⟩
  case round =>
    obtain ⟨i, hi, rfl, HB, HK⟩ := hrel
    by_cases hlt : i < nd
    · obtain ⟨ad, x, hBad, had, hd, c0, c1, c2, c3, c4, c5⟩ := (row_ins (HR.out.below HB.out) i (by rw [hnd.out]; exact hlt))
      subst hBad
      have hk := HK.out
      rw [any_drop _ l i x hd.out] at hk
      have HP := hide (many_c x wr)
      obtain ⟨qq, hqq⟩ : ∃ y, Hid (Pl.many x = y) := ⟨_, hide rfl⟩
      rw [hqq.out] at hk HP
      clear HK had
      cases qq
      · rw [Bool.false_or] at hk
        have HKf := hide hk
        clear hk
        go_wp2_with (go_at_fn 89; refine HP.out.mono ?_; rintro e w' ⟨rfl, hb'⟩)
        go_roundw
        case rel => exact ⟨i + 1, by omega, by go_num, hide (HB.out.trans (hb'.mono HB.out.size)), HKf⟩
        case measure => simp [intOf]; omega
      · rw [Bool.true_or] at hk
        have HKf := hide hk
        clear hk
        go_wp2_with (go_at_fn 89; refine HP.out.mono ?_; rintro e w' ⟨rfl, hb'⟩)
        go_ret
        exact ⟨⟨_, rfl, by rw [← HKf.out]; exact decide_eq_true (by omega)⟩, HB.out.trans (hb'.mono HB.out.size)⟩
    · obtain rfl : i = nd := by omega
      have hk := HK.out
      rw [List.drop_eq_nil_of_le (by rw [hnd.out]; omega)] at hk
      have HKf := hide hk
      clear HK hlt hi hk
      go_wp2_with fail
      go_ret
      exact ⟨⟨_, rfl, by rw [← HKf.out]; rfl⟩, HB.out⟩
theorem has_many (l : List Ins) (A : Option Addr) (cap : Nat) (w : World) (hR : Row w A (l.flatMap Ins.vals)) (hl : l.length ≤ 1000000) :
    Calls Tryd.prog 88 #[.slice A l.length cap, .func (.func 89) #[] #[]] w fun e w' => e = .returned (.bool (l.any Pl.many)) ∧ Below w.heap.size w w' := by
  have HP := hide (index_many l A cap w hR hl)
  obtain ⟨G, hG⟩ : ∃ G, Hid (l.any Pl.many = G) := ⟨_, hide rfl⟩
  rw [hG.out] at HP ⊢
  go_enter Tryd.func88, Tryd.ntmps88
  go_wp2_with fail
  refine HP.out.mono ?_
  rintro e w' ⟨⟨j, rfl, hj⟩, hb'⟩
  have HB := hide hb'
  clear HP hR hl hb' hG
  go_wp2_with fail
  go_ret
  exact ⟨rfl, HB.out⟩
set_option maxRecDepth 100000 in
theorem fits_wide (l : List Int) (A : Option Addr) (cap : Nat) (w : World) (hR : Rc w A l) (hl : l.length ≤ 1000000) :
    Calls Tryd.prog 93 #[.slice A l.length cap] w fun e w' => e = .returned (.bool (!l.any Pl.far)) ∧ Below w.heap.size w w' := by
  have HP := hide (has_far l A cap w hR hl)
  obtain ⟨G, hG⟩ : ∃ G, Hid (l.any Pl.far = G) := ⟨_, hide rfl⟩
  rw [hG.out] at HP ⊢
  clear hR hl hG
  go_enter Tryd.func93, Tryd.ntmps93
  go_wp2_with fail
  refine HP.out.mono ?_
  rintro e w' ⟨rfl, hb'⟩
  have HB := hide hb'
  clear HP hb'
  go_wp2_with fail
  go_ret
  exact ⟨rfl, HB.out⟩
end Go.Proofs.YthjnkaikjjjceaaDoor
