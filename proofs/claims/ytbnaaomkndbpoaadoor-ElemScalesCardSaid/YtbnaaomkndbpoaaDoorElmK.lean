/-
  elem.fits, may, looks of any operation, walked. By an AI agent. No person has read it.
-/
import Derived.Test.YtbnaaomkndbpoaaDoorElmV
import Derived.Test.YtbnaaomkndbpoaaDoorElmG
import Derived.Test.YtbnaaomkndbpoaaDoorElmC
namespace Go.Proofs.YtbnaaomkndbpoaaDoor
open Go.RowKit

theorem Tens.wide_fit (n : Int) (h : -9223372036854775808 ≤ n ∧ n ≤ 9223372036854775807) : decide (Tens.wide n = n) = Tens.fit true n := by
  unfold Tens.wide Tens.fit
  rw [if_pos rfl]
  exact decide_eq_decide.2 (by omega)
theorem Tens.narrow_fit (n : Int) : decide (Tens.narrow n = n) = Tens.fit false n := by
  unfold Tens.narrow Tens.fit
  rw [if_neg (by decide)]
  exact decide_eq_decide.2 (by omega)
set_option maxRecDepth 100000 in
theorem efits_c (n : Int) (u : Bool) (w : World) (hn : -9223372036854775808 ≤ n ∧ n ≤ 9223372036854775807) :
    Calls Tryd.prog 64 #[.int .i64 n, .bool u] w fun e w' => e = .returned (.bool (Tens.fit u n)) ∧ w' = w := by
  have H1 := hide (wide_c n)
  have H2 := hide (narrow_c n)
  have e1 := Tens.wide_fit n hn
  have e2 := Tens.narrow_fit n
  obtain ⟨a, ha⟩ : ∃ a, Hid (Tens.wide n = a) := ⟨_, hide rfl⟩
  obtain ⟨b, hb⟩ : ∃ a, Hid (Tens.narrow n = a) := ⟨_, hide rfl⟩
  rw [ha.out] at H1 e1
  rw [hb.out] at H2 e2
  clear ha hb
  cases u
  · rw [← e2]
    clear e1 e2
    go_enter Tryd.func64, Tryd.ntmps64
    go_wp2_with fail
    refine (H2.out _).mono ?_
    rintro e w1 ⟨rfl, rfl⟩
    go_wp2_with fail
    go_ret
    exact ⟨rfl, rfl⟩
  · rw [← e1]
    clear e1 e2
    go_enter Tryd.func64, Tryd.ntmps64
    go_wp2_with fail
    refine (H1.out _).mono ?_
    rintro e w1 ⟨rfl, rfl⟩
    go_wp2_with fail
    go_ret
    exact ⟨rfl, rfl⟩
/-- May the args be? -/
def Elm.may (op : Int) (u : Bool) (qs : List Int) : Bool :=
  if op = 9 then decide (qs.getD 0 0 ≤ qs.getD 1 0) && Tens.fit u (qs.getD 0 0) && Tens.fit u (qs.getD 1 0)
  else if op = 10 then decide (0 ≤ qs.getD 0 0) && decide (qs.getD 0 0 ≤ 2147483647) && decide (0 ≤ qs.getD 1 0) && decide (qs.getD 1 0 ≤ 62) && Tens.fit false (qs.getD 2 0)
  else if op = 11 then Tens.fit false (qs.getD 0 0) else true
set_option maxRecDepth 100000 in
set_option maxHeartbeats 4000000 in
theorem may_c (op : Int) (ho : 4 ≤ op ∧ op ≤ 11) (u : Bool) (qs : List Int) (A : Option Addr) (cap : Nat) (w : World) (hl : qs.length = Elm.nargs op) (hr : Ri w A qs) :
    Calls Tryd.prog 36 #[.int .i64 op, .slice A qs.length cap, .bool u] w fun e w' => e = .returned (.bool (Elm.may op u qs)) ∧ ∃ k, w' = w.drewN k := by
  have hc : (op = 4 ∨ op = 5 ∨ op = 6 ∨ op = 7 ∨ op = 8) ∨ op = 9 ∨ op = 10 ∨ op = 11 := by omega
  rcases hc with h | rfl | rfl | rfl
  · have e : Elm.may op u qs = true := by
      unfold Elm.may
      rw [if_neg (by omega), if_neg (by omega), if_neg (by omega)]
    rw [e]
    have n9 : op ≠ 9 := by omega
    have n10 : op ≠ 10 := by omega
    have n11 : op ≠ 11 := by omega
    clear e hl hr h ho
    go_enter Tryd.func36, Tryd.ntmps36
    go_wp2_with fail
    go_ret
    exact ⟨rfl, 0, rfl⟩
  · obtain ⟨a, b, rfl⟩ := list_two hl
    have ha := i64_wf (hr.1 a (by simp))
    have hb := i64_wf (hr.1 b (by simp))
    obtain ⟨ad, rfl, -, c0, c1⟩ := ri_two hr
    have e : Elm.may 9 u [a, b] = (decide (a ≤ b) && Tens.fit u a && Tens.fit u b) := rfl
    rw [e]
    have H1 := hide (fun W => efits_c a u W ha)
    have H2 := hide (fun W => efits_c b u W hb)
    obtain ⟨x, hx⟩ : ∃ x, Hid (Tens.fit u a = x) := ⟨_, hide rfl⟩
    obtain ⟨y, hy⟩ : ∃ x, Hid (Tens.fit u b = x) := ⟨_, hide rfl⟩
    rw [hx.out] at H1 ⊢
    rw [hy.out] at H2 ⊢
    clear hl hr e ha hb hx hy
    go_enter Tryd.func36, Tryd.ntmps36
    go_wp2_with fail
    go_quiet (fail)
    by_cases hab : a ≤ b
    · cases x
      · go_wp2_with fail
        refine (H1.out _).mono ?_
        rintro e w1 ⟨rfl, rfl⟩
        go_wp2_with fail
        go_ret
        exact ⟨by simp, _, rfl⟩
      · go_wp2_with fail
        refine (H1.out _).mono ?_
        rintro e w1 ⟨rfl, rfl⟩
        go_wp2_with fail
        refine (H2.out _).mono ?_
        rintro e w1 ⟨rfl, rfl⟩
        go_wp2_with fail
        go_ret
        exact ⟨by simp [hab], _, rfl⟩
    · go_wp2_with fail
      go_ret
      exact ⟨by first | (simp; done) | (simp; intros; omega), _, rfl⟩
  · obtain ⟨a, b, c, rfl⟩ := list_three hl
    have hcw := i64_wf (hr.1 c (by simp))
    obtain ⟨ad, rfl, -, c0, c1, c2⟩ := ri_three hr
    have e : Elm.may 10 u [a, b, c] = (decide (0 ≤ a) && decide (a ≤ 2147483647) && decide (0 ≤ b) && decide (b ≤ 62) && Tens.fit false c) := rfl
    rw [e]
    have H1 := hide (fun W => efits_c c false W hcw)
    obtain ⟨x, hx⟩ : ∃ x, Hid (Tens.fit false c = x) := ⟨_, hide rfl⟩
    rw [hx.out] at H1 ⊢
    clear hl hr e hcw hx ho
    by_cases h1 : 0 ≤ a
    · by_cases h2 : a ≤ 2147483647
      · by_cases h3 : 0 ≤ b
        · by_cases h4 : b ≤ 62
          · go_enter Tryd.func36, Tryd.ntmps36
            go_wp2_with fail
            refine (H1.out _).mono ?_
            rintro e w1 ⟨rfl, rfl⟩
            go_wp2_with fail
            go_ret
            exact ⟨by simp [h1, h2, h3, h4], 0, rfl⟩
          · go_enter Tryd.func36, Tryd.ntmps36
            go_wp2_with fail
            go_ret
            exact ⟨by first | (simp; done) | (simp; intros; omega), 0, rfl⟩
        · go_enter Tryd.func36, Tryd.ntmps36
          go_wp2_with fail
          go_ret
          exact ⟨by first | (simp; done) | (simp; intros; omega), 0, rfl⟩
      · go_enter Tryd.func36, Tryd.ntmps36
        go_wp2_with fail
        go_ret
        exact ⟨by first | (simp; done) | (simp; intros; omega), 0, rfl⟩
    · go_enter Tryd.func36, Tryd.ntmps36
      go_wp2_with fail
      go_ret
      exact ⟨by first | (simp; done) | (simp; intros; omega), 0, rfl⟩
  · obtain ⟨a, rfl⟩ := list_one hl
    have ha := i64_wf (hr.1 a (by simp))
    obtain ⟨ad, rfl, -, c0⟩ := ri_one hr
    have e : Elm.may 11 u [a] = Tens.fit false a := rfl
    rw [e]
    have H1 := hide (fun W => efits_c a false W ha)
    obtain ⟨x, hx⟩ : ∃ x, Hid (Tens.fit false a = x) := ⟨_, hide rfl⟩
    rw [hx.out] at H1 ⊢
    clear hl hr e ha hx
    go_enter Tryd.func36, Tryd.ntmps36
    go_wp2_with fail
    refine (H1.out _).mono ?_
    rintro e w1 ⟨rfl, rfl⟩
    go_wp2_with fail
    go_ret
    exact ⟨rfl, 0, rfl⟩
/-- Are the ins alike, and of their kind? -/
def Elm.alike (op : Int) (ds : List Dsc) : Bool :=
  match ds with
  | [] => false
  | [d] => if op = 10 then d.u else if op = 11 then !d.u else true
  | d :: f :: _ => decide (d.zs = f.zs) && (d.u == f.u)
set_option maxRecDepth 100000 in
set_option maxHeartbeats 4000000 in
theorem looks_e (op : Int) (ho : 4 ≤ op ∧ op ≤ 11) (ds : List Dsc) (B : Option Addr) (cap : Nat) (w : World) (hl : ds.length = Elm.nins op) (hR : Row w B (ds.flatMap Dsc.vals)) (hI : ∀ d ∈ ds, d.In w) :
    Calls Tryd.prog 35 #[.int .i64 op, .slice B ds.length cap] w fun e w' => e = .returned (.bool (Elm.alike op ds)) ∧ Below w.heap.size w w' := by
  by_cases h2 : op ≤ 7
  · have : ds.length = 2 := by rw [hl]; unfold Elm.nins; rw [if_pos ⟨ho.1, h2⟩]
    match ds, this with
    | [d, f], _ =>
      obtain ⟨ad, hB, hbl, hcs⟩ := hR (by simp [Dsc.vals])
      subst hB
      have c0 := hcs 0 _ rfl
      have c1 := hcs 1 _ rfl
      have c2 := hcs 2 _ rfl
      have c3 := hcs 3 _ rfl
      have n10 : op ≠ 10 := by omega
      have n11 : op ≠ 11 := by omega
      have hd := hI d (by simp)
      have hf := hI f (by simp)
      have hs := hide (fun W (hb : Below w.heap.size w W) => same_c d.zs f.zs d.P f.P d.cap f.cap d.u f.u W (hd.shp.below hb) (hf.shp.below hb) hd.ls hf.ls)
      have e : Elm.alike op [d, f] = (decide (d.zs = f.zs) && (d.u == f.u)) := rfl
      rw [e]
      obtain ⟨b, hb⟩ : ∃ b, Hid ((decide (d.zs = f.zs) && (d.u == f.u)) = b) := ⟨_, hide rfl⟩
      rw [hb.out] at hs ⊢
      clear hl hR hI hcs e hb hd hf ho h2
      rw [Addr.add_zero'] at c0
      simp only [Addr.add, Nat.reduceEqDiff, if_false] at c1 c2 c3
      go_enter Tryd.func35, Tryd.ntmps35
      go_wp2_with fail
      go_region_law (first
        | (go_simp; go_at_call 58; refine (hs.out _ (by first | exact (Below.refl _ w).drew | exact Below.refl _ w)).mono ?_; rintro e W2 ⟨rfl, hb⟩))
      all_goals go_wp2_with fail
      all_goals go_ret
      all_goals exact ⟨rfl, (Below.refl _ w).drew.trans hb⟩
  · have : ds.length = 1 := by rw [hl]; unfold Elm.nins; rw [if_neg (by omega)]
    match ds, this with
    | [d], _ =>
      obtain ⟨ad, hB, hbl, hcs⟩ := hR (by simp [Dsc.vals])
      subst hB
      have c0 := hcs 0 _ rfl
      have c1 := hcs 1 _ rfl
      rw [Addr.add_zero'] at c0
      simp only [Addr.add, Nat.reduceEqDiff, if_false] at c1
      have e : Elm.alike op [d] = if op = 10 then d.u else if op = 11 then !d.u else true := rfl
      rw [e]
      clear hl hR hI hcs e
      have hc : op = 8 ∨ op = 9 ∨ op = 10 ∨ op = 11 := by omega
      rcases hc with rfl | rfl | rfl | rfl
      all_goals
        go_enter Tryd.func35, Tryd.ntmps35
        go_wp2_with fail
      · go_quiet (fail)
        go_wp2_with fail
        go_ret
        exact ⟨rfl, below_drewN (Below.refl _ w) _⟩
      · go_quiet (fail)
        go_wp2_with fail
        go_ret
        exact ⟨rfl, below_drewN (Below.refl _ w) _⟩
      · go_ret
        exact ⟨rfl, Below.refl _ _⟩
      · go_ret
        exact ⟨rfl, Below.refl _ _⟩
end Go.Proofs.YtbnaaomkndbpoaaDoor
