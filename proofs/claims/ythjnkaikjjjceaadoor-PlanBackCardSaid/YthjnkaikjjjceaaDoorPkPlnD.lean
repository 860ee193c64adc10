/-
  Package pack's Reader by its state: Took, End, Err, At, Fail. By an AI agent. No person has read it.
-/
import Derived.Test.YthjnkaikjjjceaaDoorPkPlnC
namespace Go.Proofs.YthjnkaikjjjceaaDoor
open Go.RowKit
/-- Fail with one of api's errors, alone. -/
theorem fail_m {B : Nat} {W : World} {g : Nat} {A : Option Addr} {bs : List Nat} {cap : Nat} {es : List Addr} {s : Rs} (x : Option Nat × Nat) (v : Value) (hv : EV B W es (some x) v) (h : RdB B W g A bs cap es s) :
    Calls Tryd.prog 33 #[.pointer (some ⟨g, 0, none⟩), v] W fun e w' => (∃ r, e = .returned r) ∧ RdB B w' g A bs cap es (s.fail x) ∧ W.grownBy w' (some g) := by
  obtain ⟨hat, v0, hH, hV⟩ := h
  obtain ⟨at_, e⟩ := s
  match e, hV with
  | none, hV =>
    obtain rfl : v0 = .nilIface := hV
    refine (fail_first g _ _ v hv.is W hH).mono ?_
    rintro e w' ⟨hr, rfl⟩
    have hG := grown_one W ⟨g, 2, none⟩ v
    refine ⟨hr, ⟨hat, v, hH.set_ 2 v, hv.grown hG fun k e => .inr ?_⟩, hG⟩
    cases e
    exact has_not hH (by decide)
  | some y, hV =>
    refine (fail_more g _ _ v0 v hV.is W hH).mono ?_
    rintro e w' ⟨hr, rfl⟩
    exact ⟨hr, ⟨hat, v0, hH, hV⟩, World.grownBy.refl _ _⟩
section
variable {w0 : World} {A : Option Addr} {bs : List Nat} {cap : Nat} {es : List Addr} {ae am ak : Addr}
set_option maxRecDepth 100000 in
set_option maxHeartbeats 4000000 in
/-- Took: what somebody else read. -/
theorem took_m (hX : Rx w0 A bs cap es ae am ak) (g n k p : Nat) (ev : Value) (s : Rs) (W : World) (hn : k = 0 → 1 ≤ n) (hn2 : n ≤ 1000000000) (hk : ErrK es k ev) (hg : w0.heap.size ≤ g) (hW : Below w0.heap.size w0 W) (h : RdB W.heap.size W g A bs cap es s) :
    Calls Tryd.prog 40 #[.pointer (some ⟨g, 0, none⟩), .int .i64 (n : Int), ev, .int .i64 (p : Int)] W fun e w' => (∃ r, e = .returned r) ∧ RdB w'.heap.size w' g A bs cap es (s.took bs n k p) ∧ W.grownBy w' (some g) := by
  obtain ⟨hrb, hez⟩ := hX.at_ hW
  have hE : ErrIs W 3 ae := hez.2.2 4 _ ae rfl hX.ie
  have ce := hE.1
  rcases hk with ⟨rfl, rfl⟩ | ⟨j, a, hj, rfl, rfl⟩
  · have HP := hide (piece_m hX W.heap.size g n s W (hn rfl) hn2 hg hW h)
    have et : s.took bs n 0 p = (s.piece bs n).2 := rfl
    rw [et]
    have hcmp : ∀ w : World, (binOp .eql 32 .nilIface (errv ae)).run Tryd.prog w = .ok (.bool false) w := fun w => by kernel_rfl
    clear hn hE hez hrb h
    go_enter Tryd.func40, Tryd.ntmps40
    go_wp2_with fail
    refine HP.out.mono ?_
    rintro e w1 ⟨⟨A2, c2, rfl, -, -⟩, h1, h2⟩
    have H1 := hide h1.tight
    have H2 := hide h2
    clear h1 h2
    go_wp2_with fail
    refine bodyPost_end (results_none rfl _ _ _) rfl ?_
    exact ⟨⟨_, rfl⟩, H1.out, H2.out⟩
  · have hge : egs[j]? = some (egs.getD j 0) := by
      have h21 : j < 21 := by have := (List.getElem?_eq_some_iff.1 hj).1; have := hez.1; omega
      rw [List.getD_eq_getElem?_getD, List.getElem?_eq_getElem (by show j < 21; exact h21)]
      rfl
    have hEa := hez.2.2 j _ a hge hj
    have hcmp := run_eql_errs hEa.2.2.2 hE.2.2.2
    by_cases hj4 : j = 4
    · subst hj4
      have haa : a = ae := by
        have := hX.ie
        rw [hj] at this
        exact Option.some.inj this
      subst haa
      rw [decide_eq_true rfl] at hcmp
      have HF := hide (fail_m (none, 4) (errv a) (show EV W.heap.size W es (some (none, 4)) (errv a) from ⟨a, hj, rfl⟩) h)
      have et : s.took bs n (101 + 4) p = s.fail (none, 4) := rfl
      rw [et]
      clear hn hE hez hrb h hge hEa
      go_enter Tryd.func40, Tryd.ntmps40
      go_wp2_with fail
      refine HF.out.mono ?_
      rintro e w1 ⟨⟨r, rfl⟩, h1, h2⟩
      have H1 := hide h1.tight
      have H2 := hide h2
      clear h1 h2
      go_wp2_with fail
      refine bodyPost_end (results_none rfl _ _ _) rfl ?_
      exact ⟨⟨_, rfl⟩, H1.out, H2.out⟩
    · have hne : a ≠ ae := by
        rintro rfl
        have h1 := (List.getElem?_inj (l := es) (List.getElem?_eq_some_iff.1 hj).1 hez.2.1).1 (hj.trans hX.ie.symm)
        exact hj4 h1
      rw [decide_eq_false hne] at hcmp
      have et : s.took bs n (101 + j) p = s.fail (some p, j) := by
        unfold Rs.took
        rw [if_neg (by omega), if_pos (by omega), Nat.add_sub_cancel_left]
      rw [et]
      have HA := hide (at_of a (p : Nat) W)
      have HF := hide (show ∀ W1, W1 = W.alloc (Obj.cells #[.int .i64 (p : Nat), errv a] 122) → Calls Tryd.prog 33 #[.pointer (some ⟨g, 0, none⟩), .iface 119 (.pointer (some ⟨W.heap.size, 0, none⟩))] W1 fun e w' => (∃ r, e = .returned r) ∧ RdB w'.heap.size w' g A bs cap es (s.fail (some p, j)) ∧ W.grownBy w' (some g) from by
        rintro W1 rfl
        have hA2 : Has (W.alloc (Obj.cells #[.int .i64 (p : Nat), errv a] 122)) W.heap.size 122 [.int .i64 (p : Nat), errv a] := Has.new W _ _
        have hG := World.grownBy_alloc W (Obj.cells #[.int .i64 (p : Nat), errv a] 122) none
        have hlt := h.lt
        refine (fail_m (B := (W.alloc (Obj.cells #[.int .i64 (p : Nat), errv a] 122)).heap.size) (some p, j) _ ⟨a, W.heap.size, hj, rfl, hA2.lt, hA2⟩ ((h.grown hG (fun k e => by cases e)).mono (by simp))).mono ?_
        rintro e w' ⟨hr, h1, h2⟩
        exact ⟨hr, h1.tight, (World.grownBy_alloc W (Obj.cells #[.int .i64 (p : Nat), errv a] 122) (some g)).trans h2⟩)
      clear hn hE hez hrb h hge hEa hne
      go_enter Tryd.func40, Tryd.ntmps40
      go_wp2_with fail
      refine HA.out.mono ?_
      rintro e w1 ⟨rfl, hw1⟩
      have HF1 := hide (HF.out w1 hw1)
      clear hw1 HF HA
      go_wp2_with fail
      refine HF1.out.mono ?_
      rintro e w2 ⟨⟨r, rfl⟩, h1, h2⟩
      have H1 := hide h1
      have H2 := hide h2
      clear h1 h2
      go_wp2_with fail
      refine bodyPost_end (results_none rfl _ _ _) rfl ?_
      exact ⟨⟨_, rfl⟩, H1.out, H2.out⟩
set_option maxRecDepth 100000 in
set_option maxHeartbeats 4000000 in
/-- End. -/
theorem end_m (hX : Rx w0 A bs cap es ae am ak) (g : Nat) (s : Rs) (W : World) (_hg : w0.heap.size ≤ g) (hW : Below w0.heap.size w0 W) (h : RdB W.heap.size W g A bs cap es s) :
    Calls Tryd.prog 42 #[.pointer (some ⟨g, 0, none⟩)] W fun e w' => (∃ r, e = .returned r) ∧ RdB w'.heap.size w' g A bs cap es (s.end_ bs) ∧ W.grownBy w' (some g) := by
  have HR := hide (rest_m hX W.heap.size g s W hW h)
  by_cases hnil : s.rest bs = []
  · have ee : s.end_ bs = s := by unfold Rs.end_; rw [if_pos hnil]
    rw [ee]
    rw [hnil] at HR
    clear hnil h hX
    go_enter Tryd.func42, Tryd.ntmps42
    go_wp2_with fail
    refine HR.out.mono ?_
    rintro e w1 ⟨⟨A2, c2, rfl, -, -⟩, h1, h2⟩
    have H1 := hide h1.tight
    have H2 := hide (show W.grownBy w1 (some g) from ⟨h2.os, h2.tape, h2.output, h2.size, fun k hk _ => h2.block k hk (by simp)⟩)
    clear h1 h2
    go_wp2_with fail
    refine bodyPost_end (results_none rfl _ _ _) rfl ?_
    exact ⟨⟨_, rfl⟩, H1.out, H2.out⟩
  · have ee : s.end_ bs = s.fail (some s.at_, 3) := by unfold Rs.end_; rw [if_neg hnil]
    rw [ee]
    obtain ⟨m, hm⟩ : ∃ m, Hid ((s.rest bs).length = m) := ⟨_, hide rfl⟩
    have hm0 : 0 < m := by
      rw [← hm.out]
      exact List.length_pos_iff.2 hnil
    have hmi : (0 : Int) < (m : Int) := by omega
    have HX := hide (fun W1 (hG : W.grownBy W1 none) (h1 : RdB W.heap.size W1 g A bs cap es s) =>
      show W1.cell? ⟨g, 1, none⟩ = some (.int .i64 (s.at_ : Nat)) ∧ W1.cell? ⟨1, 0, none⟩ = some (errv am) ∧ Hid (Calls Tryd.prog 33 #[.pointer (some ⟨g, 0, none⟩), .iface 119 (.pointer (some ⟨W1.heap.size, 0, none⟩))] (W1.alloc (Obj.cells #[.int .i64 (s.at_ : Nat), errv am] 122)) fun e w' => (∃ r, e = .returned r) ∧ RdB w'.heap.size w' g A bs cap es (s.fail (some s.at_, 3)) ∧ W.grownBy w' (some g) ∧ w'.cell? ⟨g, 1, none⟩ = some (.int .i64 (s.at_ : Nat)) ∧ w'.cell? ⟨1, 0, none⟩ = some (errv am)) from by
        have hW1 := hW.grown hG hW.size (fun k e => by cases e)
        have hez := (hX.at_ hW1).2
        have hlt := h1.lt
        refine ⟨?_, (hez.2.2 3 _ am rfl hX.im).1, hide ?_⟩
        · obtain ⟨_, v, hH, _⟩ := h1
          rw [hH.cell]
          rfl
        · have hA2 : Has (W1.alloc (Obj.cells #[.int .i64 (s.at_ : Nat), errv am] 122)) W1.heap.size 122 [.int .i64 (s.at_ : Nat), errv am] := Has.new W1 _ _
          have hG1 := World.grownBy_alloc W1 (Obj.cells #[.int .i64 (s.at_ : Nat), errv am] 122) none
          refine (fail_m (B := (W1.alloc (Obj.cells #[.int .i64 (s.at_ : Nat), errv am] 122)).heap.size) (some s.at_, 3) _ ⟨am, W1.heap.size, hX.im, rfl, hA2.lt, hA2⟩ ((h1.grown hG1 (fun k e => by cases e)).mono (by have := hG.size; simp; omega))).mono ?_
          rintro e w' ⟨hr, h1, h2⟩
          have hGg : W.grownBy W1 (some g) := ⟨hG.os, hG.tape, hG.output, hG.size, fun k hk _ => hG.block k hk (by simp)⟩
          have hG9 := (hGg.trans (World.grownBy_alloc W1 (Obj.cells #[.int .i64 (s.at_ : Nat), errv am] 122) (some g))).trans h2
          refine ⟨hr, h1.tight, hG9, ?_, (((hX.at_ (hW.grown hG9 hW.size (fun k e => by cases e; exact _hg))).2).2.2 3 _ am rfl hX.im).1⟩
          obtain ⟨_, v, hH, _⟩ := h1
          rw [hH.cell, Rs.fail_at]
          rfl)
    have HA := hide (fun W1 : World => at_of am (s.at_ : Nat) W1)
    obtain ⟨q, hq⟩ : ∃ q, Hid (s.at_ = q) := ⟨_, hide rfl⟩
    rw [hq.out] at HX HA
    have HQ : Hid (s.fail (some s.at_, 3) = s.fail (some q, 3)) := hide (by rw [hq.out])
    rw [HQ.out]
    clear hnil h
    go_enter Tryd.func42, Tryd.ntmps42
    go_wp2_with fail
    refine HR.out.mono ?_
    rintro e w1 ⟨⟨A2, c2, he, -, -⟩, h1, h2⟩
    rw [hm.out] at he
    subst he
    have hd1 : RdB W.heap.size w1.drew g A bs cap es s := h1.grown (grown_drew (World.grownBy.refl w1 none)) (fun k e => by cases e)
    obtain ⟨x1, x2, -⟩ := HX.out w1 h2 h1
    obtain ⟨z1, z2, x3⟩ := HX.out w1.drew (grown_drew h2) hd1
    have ha1 := h1.grown (World.grownBy_alloc w1 (Obj.cells #[.int .i64 (q : Nat), errv am] 122) none) (fun k e => by cases e)
    obtain ⟨y1, y2, -⟩ := HX.out (w1.alloc (Obj.cells #[.int .i64 (q : Nat), errv am] 122)) (h2.trans (World.grownBy_alloc w1 _ none)) ha1
    have x12 := And.intro x1 x2
    have z12 := And.intro z1 z2
    have y12 : ((w1.alloc (Obj.cells #[.int .i64 (q : Nat), errv am] 122)).drew).cell? ⟨g, 1, none⟩ = some (.int .i64 (q : Nat)) ∧ ((w1.alloc (Obj.cells #[.int .i64 (q : Nat), errv am] 122)).drew).cell? ⟨1, 0, none⟩ = some (errv am) := And.intro y1 y2
    clear ha1 hd1 y1 y2
    clear h1 h2 HX HR hX
    go_wp2_with fail
    go_region_held3 (fun W => W.cell? ⟨g, 1, none⟩ = some (.int .i64 (q : Nat)) ∧ W.cell? ⟨1, 0, none⟩ = some (errv am))
      (first | with_reducible exact x12 | with_reducible exact z12 | with_reducible exact y12 | assumption)
      (first
        | (go_at_call 34; refine (HA.out _).mono ?_; rintro e w2 ⟨rfl, hw2⟩; subst hw2)
        | (go_at_call 33; refine x3.out.mono ?_; rintro e w3 ⟨⟨r, rfl⟩, h1, h2, h3⟩; have H1 := hide h1; have H2 := hide h2; clear h1 h2))
    go_wp2_with fail
    refine bodyPost_end (results_none rfl _ _ _) rfl ?_
    exact ⟨⟨_, rfl⟩, H1.out, H2.out⟩
end
end Go.Proofs.YthjnkaikjjjceaaDoor
