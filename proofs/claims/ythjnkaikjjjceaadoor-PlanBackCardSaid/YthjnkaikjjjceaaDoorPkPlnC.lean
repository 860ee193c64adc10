/-
  Package pack's Reader by its state: Desc, Rest, Took, End. By an AI agent. No person has read it.
-/
import Derived.Test.YthjnkaikjjjceaaDoorPkPlnB
import Derived.Test.YthjnkaikjjjceaaDoorPkElmV
import Derived.Test.YthjnkaikjjjceaaDoorPkElmOpen
namespace Go.Proofs.YthjnkaikjjjceaaDoor
open Go.RowKit
/-- No row of this type. -/
def NotT (W : World) (row : Option Nat) (t : TypeId) : Prop := ∀ k, row = some k → ∀ cs, ¬ Has W k t cs
theorem NotT.has {W : World} {g : Nat} {e t : TypeId} {cs : List Value} (h : Has W g e cs) (ht : e ≠ t) : NotT W (some g) t := fun k hk cs2 => by
  cases hk
  exact has_not h ht cs2
theorem NotT.own {W : World} {base n s : Nat} {e t : TypeId} {v : Value} {xs : List Value} (h : W.ownsRow base e s v n xs) (ht : t ≠ e) : NotT W v.ownBlock t := by
  intro k hk cs hc
  rcases h.2 with ⟨rfl, -⟩ | ⟨g, c, cur, rfl, -, h3, -⟩
  · cases hk
  · obtain rfl : g = k := Option.some.inj hk
    unfold Has at hc
    rw [hc] at h3
    injection h3 with h3
    injection h3 with h4 h5 h6
    exact ht h5
theorem NotT.none (W : World) (t : TypeId) : NotT W none t := fun _ h => by cases h
/-- A row of ints that lies in a block of ints of its own, from some place on. -/
def Io (base : Nat) (W : World) (P : Option Addr) (zs : List Int) : Prop := (∀ z ∈ zs, (Lit.int .i64 z).wf = true) ∧ (zs ≠ [] → ∃ g rest, P = some ⟨g, 0, none⟩ ∧ base ≤ g ∧ Has W g 3 (i64s zs ++ rest))
theorem Io.nil (base : Nat) (W : World) (P : Option Addr) : Io base W P [] := ⟨fun z h => by simp at h, fun h => absurd rfl h⟩
theorem Io.ri {base : Nat} {W : World} {P : Option Addr} {zs : List Int} (h : Io base W P zs) : Ri W P zs := by
  refine ⟨h.1, fun hn => ?_⟩
  obtain ⟨g, rest, rfl, -, hH⟩ := h.2 hn
  exact (hH.ri_app h.1).2 hn
theorem Io.grown {base : Nat} {W W' : World} {P : Option Addr} {zs : List Int} {row : Option Nat} (h : Io base W P zs) (hg : W.grownBy W' row) (hr : NotT W row 3) : Io base W' P zs := by
  refine ⟨h.1, fun hn => ?_⟩
  obtain ⟨g, rest, h1, h2, hH⟩ := h.2 hn
  exact ⟨g, rest, h1, h2, hH.grown hg fun e => hr g e.symm _ hH⟩
theorem Io.below {base : Nat} {W W' : World} {P : Option Addr} {zs : List Int} (h : Io base W P zs) (hb : Below W.heap.size W W') : Io base W' P zs := by
  refine ⟨h.1, fun hn => ?_⟩
  obtain ⟨g, rest, h1, h2, hH⟩ := h.2 hn
  exact ⟨g, rest, h1, h2, hH.below hb hH.lt⟩
theorem Io.less {base b2 : Nat} {W : World} {P : Option Addr} {zs : List Int} (h : Io base W P zs) (hb : b2 ≤ base) : Io b2 W P zs := by
  refine ⟨h.1, fun hn => ?_⟩
  obtain ⟨g, rest, h1, h2, hH⟩ := h.2 hn
  exact ⟨g, rest, h1, by omega, hH⟩
theorem Io.of_own {base n : Nat} {W : World} {v : Value} {zs : List Int} (h : W.ownsRow base 3 1 v n (i64s zs)) (hw : ∀ z ∈ zs, (Lit.int .i64 z).wf = true) : ∃ P c, v = .slice P zs.length c ∧ Io base W P zs := by
  by_cases hv : v = .slice none 0 0
  · subst hv
    have hl0 : zs = [] := by
      have hl := h.1
      rcases h.2 with ⟨-, hx⟩ | ⟨g, cap, cur, hx, -⟩
      · rw [hx] at hl
        simp at hl
        exact hl
      · cases hx
    subst hl0
    exact ⟨none, 0, rfl, Io.nil _ _ _⟩
  · obtain ⟨g4, c4, rest, rfl, hl2, hg4, -, -, hH4⟩ := own_has h hv
    exact ⟨some ⟨g4, 0, none⟩, c4, by rw [hl2], hw, fun _ => ⟨g4, rest, rfl, hg4, hH4⟩⟩
theorem RdB.not_at {B : Nat} {W W' : World} {g : Nat} {A : Option Addr} {bs : List Nat} {cap : Nat} {es : List Addr} {s : Rs} {row : Option Nat} (h : RdB B W g A bs cap es s) (hg : W.grownBy W' row) (h1 : NotT W row 118) (h2 : NotT W row 122) : RdB B W' g A bs cap es s := by
  refine h.grown hg fun k hk => ⟨?_, .inr (h2 k hk)⟩
  rintro rfl
  obtain ⟨_, v, hH, _⟩ := h
  exact h1 k hk _ hH
theorem RdB.has {B : Nat} {W : World} {g : Nat} {A : Option Addr} {bs : List Nat} {cap : Nat} {es : List Addr} {s : Rs} (h : RdB B W g A bs cap es s) : ∃ cs, Has W g 118 cs := let ⟨_, _, h, _⟩ := h; ⟨_, h⟩
/-- 'b[lo:]'. -/
theorem tail_run (A A2 : Option Addr) (len cap lo : Nat) (hA : Hid ((if cap = lo then A else A.map (·.add (lo * 1))) = A2)) (h1 : lo ≤ len) (W : World) :
    (Instr.slice 30 (.slice A len cap) (some (.int .i64 (lo : Int))) none none).run Tryd.prog W = .ok (.slice A2 (len - lo) (cap - lo)) W := by
  rw [← hA.out]
  have hu : Tryd.prog.underlying 30 = some (.slice (Tryd.prog.elem 30)) := by kernel_rfl
  have hz : ∀ W : World, (sizeOf (Tryd.prog.elem 30)).run Tryd.prog W = .ok 1 W := fun _ => by kernel_rfl
  rw [run_slice_l W _ _ _ _ hu _ _ (by omega) (by omega), hz]
  simp only [Result.andThen, sliced, Int.toNat_natCast]
/-- Some bytes, as a slice that is answered. -/
def RbOut (w : World) (e : Ending) (cs : List Nat) : Prop := ∃ A2 c2, e = .returned (.slice A2 cs.length c2) ∧ cs.length ≤ c2 ∧ Rb w A2 cs
section
variable {w0 : World} {A : Option Addr} {bs : List Nat} {cap : Nat} {es : List Addr} {ae am ak : Addr}
theorem desc_m (hX : Rx w0 A bs cap es ae am ak) (g : Nat) (s : Rs) (W : World) (hg : w0.heap.size ≤ g) (hW : Below w0.heap.size w0 W) (h : RdB W.heap.size W g A bs cap es s) :
    Calls Tryd.prog 37 #[.pointer (some ⟨g, 0, none⟩)] W fun e w' => (∃ d : Dsc, e = .returned (.agg d.vals.toArray) ∧ (d.zs, d.u) = (s.desc bs).1 ∧ Io W.heap.size w' d.P d.zs) ∧ RdB w'.heap.size w' g A bs cap es (s.desc bs).2 ∧ W.grownBy w' (some g) := by
  obtain ⟨hrb, hez⟩ := hX.at_ hW
  have hk : ErrIs W 0 ak := hez.2.2 2 _ ak rfl hX.ik
  have hlt := h.lt
  have hsz := hW.size
  by_cases hm : 15 < (s.number bs 1).1
  · have e0 : s.e = none := by
      obtain ⟨at_, e⟩ := s
      match e with
      | none => rfl
      | some x =>
        have : (Rs.number bs 1 ⟨at_, some x⟩).1 = 0 := rfl
        omega
    have e2 : (s.number bs 1).2.e = none := by
      obtain ⟨at_, e⟩ := s
      obtain rfl : e = none := e0
      show (Rs.piece bs 1 ⟨at_, none⟩).2.e = none
      have hm2 : 15 < Pk.val (Rs.piece bs 1 ⟨at_, none⟩).1 := hm
      unfold Rs.piece at hm2 ⊢
      dsimp only at hm2 ⊢
      split
      · rfl
      · rename_i hh
        rw [if_neg hh] at hm2
        simp [Pk.val] at hm2
    have ec : s.count bs 1 15 2 = (0, ⟨(s.number bs 1).2.at_, some (some s.at_, 2)⟩) := by
      unfold Rs.count
      rw [if_pos hm]
      unfold Rs.fail
      rw [e2]
    have ed : s.desc bs = (([], false), ⟨(s.number bs 1).2.at_, some (some s.at_, 2)⟩) := by
      unfold Rs.desc
      rw [ec]
      rfl
    rw [ed]
    have hat := h.1
    refine (rdrdesc_zero g ak (fun W' => ∃ g2, W.heap.size < g2 ∧ Has W' g2 122 [.int .i64 (s.at_ : Nat), errv ak] ∧ Has W' g 118 [.slice A bs.length cap, .int .i64 ((s.number bs 1).2.at_ : Nat), .iface 119 (.pointer (some ⟨g2, 0, none⟩))]) W hlt hk fun W1 hG hs => ?_).mono ?_
    · have h1 : RdB W.heap.size W1 g A bs cap es s := h.grown hG (fun k e => by cases e)
      have HN := number_m hX W.heap.size g 1 s W1 (by omega) (by omega) hg (hW.grown hG hsz (fun k e => by cases e)) h1
      obtain ⟨-, v, hH, hV⟩ := h1
      rw [e0] at hV
      obtain rfl : v = .nilIface := hV
      refine (count_many g 1 15 (s.number bs 1).1 (s.at_ : Nat) ((s.number bs 1).2.at_ : Nat) (.slice A bs.length cap) ak W1 hH hm (HN.mono ?_)).mono ?_
      · rintro e w' ⟨rfl, ⟨ha2, v2, h2, h3⟩, h4⟩
        rw [e2] at h3
        obtain rfl : v2 = .nilIface := h3
        exact ⟨rfl, h2, h4⟩
      · rintro e w' ⟨rfl, ⟨g2, -, hle, h2, h3⟩, h4⟩
        exact ⟨rfl, ⟨g2, by omega, h2, h3⟩, h4⟩
    · rintro e w' ⟨rfl, ⟨W0, ⟨g2, hg2, hA2, hR2⟩, hg0⟩, hgw⟩
      have hA3 := hA2.grown hg0 (by intro h; injection h; omega)
      refine ⟨⟨⟨none, [], 0, false⟩, rfl, rfl, Io.nil _ _ _⟩, ⟨Rs.piece_at bs 1 s hat, _, hR2.grown hg0 (by intro h; injection h; omega), ak, g2, hX.ik, rfl, hA3.lt, hA3⟩, hgw⟩
  · have ec : s.count bs 1 15 2 = s.number bs 1 := by unfold Rs.count; rw [if_neg hm]
    obtain ⟨sc, hsc⟩ : ∃ sc, (s.number bs 1).2 = sc := ⟨_, rfl⟩
    obtain ⟨hd, hhd⟩ : ∃ hd, (s.number bs 1).1 = hd := ⟨_, rfl⟩
    have ed : s.desc bs = (((Rs.rep (Rs.dim bs) (hd % 8) sc).1, decide (8 ≤ hd)), (Rs.rep (Rs.dim bs) (hd % 8) sc).2) := by
      unfold Rs.desc
      rw [ec, hsc, hhd]
    rw [ed]
    rw [hhd] at hm
    refine (rdrdesc_of g hd ak (fun l W' => RdB W.heap.size W' g A bs cap es (Rs.rep (Rs.dim bs) l.length sc).2 ∧ (Rs.rep (Rs.dim bs) l.length sc).1 = l ∧ Below w0.heap.size w0 W') W hlt (by omega) hk ?_ ?_ ?_).mono ?_
    · rintro l W1 W2 row ⟨a, b, c⟩ hG hr
      exact ⟨a.grown hG fun k e => ⟨by have := hr k e; omega, .inl (hr k e)⟩, b, c.grown hG c.size fun k e => by have := hr k e; omega⟩
    · intro W1 hG
      have h1 : RdB W.heap.size W1 g A bs cap es s := h.grown hG (fun k e => by cases e)
      have hB1 := hW.grown hG hsz (fun k e => by cases e)
      have HN := number_m hX W.heap.size g 1 s W1 (by omega) (by omega) hg hB1 h1
      obtain ⟨-, v, hH, hV⟩ := h1
      rw [hhd, hsc] at HN
      refine count_of g 1 15 hd (s.at_ : Nat) (.slice A bs.length cap) v (errv ak) _ W1 hH (by omega) (HN.mono ?_)
      rintro e w' ⟨rfl, h2, h3⟩
      exact ⟨rfl, ⟨h2, rfl, hB1.grown h3 hB1.size (fun k e => by cases e; omega)⟩, h3⟩
    · rintro l W1 hl ⟨a, b, c⟩
      refine (number_m hX W.heap.size g 2 _ W1 (by omega) (by omega) hg c a).mono ?_
      rintro e w' ⟨rfl, h2, h3⟩
      have hlen : (l ++ [((((Rs.rep (Rs.dim bs) l.length sc).2.number bs 2).1 : Nat) : Int)]).length = l.length + 1 := by simp
      refine ⟨_, rfl, wf_i64 _ (by have := Rs.number_lt bs 2 (Rs.rep (Rs.dim bs) l.length sc).2 hX.rb.1 (by omega); omega), ⟨?_, ?_, c.grown h3 c.size (fun k e => by cases e; omega)⟩, h3⟩
      · rw [hlen]; exact h2
      · rw [hlen]
        show (Rs.rep (Rs.dim bs) l.length sc).1 ++ _ = _
        rw [b]
        rfl
    · rintro e w' ⟨l, sv, rfl, hll, hw, hO, ⟨ha, hb, -⟩, hG⟩
      rw [hll] at ha hb
      rw [← hll] at hO
      obtain ⟨P, c, rfl, hio⟩ := Io.of_own hO hw
      exact ⟨⟨⟨P, l, c, decide (8 ≤ hd)⟩, rfl, by rw [hb], hio⟩, ha.tight, hG⟩
set_option maxRecDepth 100000 in
set_option maxHeartbeats 4000000 in
theorem rest_m (hX : Rx w0 A bs cap es ae am ak) (B g : Nat) (s : Rs) (W : World) (hW : Below w0.heap.size w0 W) (h : RdB B W g A bs cap es s) :
    Calls Tryd.prog 39 #[.pointer (some ⟨g, 0, none⟩)] W fun e w' => RbOut w' e (s.rest bs) ∧ RdB B w' g A bs cap es s ∧ W.grownBy w' none := by
  obtain ⟨hrb, hez⟩ := hX.at_ hW
  have hc := hX.hc
  have hl := hX.hl
  have h0 := h
  obtain ⟨hat, v, hH, hV⟩ := h
  obtain ⟨at_, e⟩ := s
  match e, hV with
  | some x, hV =>
    have c2 : W.cell? ⟨g, 2, none⟩ = some v := by rw [hH.cell]; rfl
    have er : Rs.rest bs ⟨at_, some x⟩ = [] := rfl
    rw [er]
    have HH := hide h0
    have hv := hV.is
    clear h0 hH hV
    rcases hv with ⟨a, rfl⟩ | ⟨k, rfl⟩
    all_goals
      go_enter Tryd.func39, Tryd.ntmps39
      go_wp2_with fail
      go_ret
      exact ⟨⟨none, 0, rfl, Nat.le_refl _, (fun b hb => by simp at hb), fun h => absurd rfl h⟩, HH.out, World.grownBy.refl _ _⟩
  | none, hV =>
    obtain rfl : v = .nilIface := hV
    have er : Rs.rest bs ⟨at_, none⟩ = bs.drop at_ := rfl
    rw [er]
    obtain ⟨A2, hA2⟩ : ∃ A2, Hid ((if cap = at_ then A else A.map (·.add (at_ * 1))) = A2) := ⟨_, hide rfl⟩
    have hcut := fun W => tail_run A A2 bs.length cap at_ hA2 hat W
    have HB : Hid (Rb W.drew A2 (bs.drop at_)) := hide (by
      have h := (show Rb W.drew A bs from hrb).cut (lo := at_) (hi := bs.length) hA2 (Nat.le_refl _) hc
      rwa [List.take_length] at h)
    have hlen : (bs.drop at_).length = bs.length - at_ := List.length_drop
    have HH : Hid (RdB B W.drew g A bs cap es ⟨at_, none⟩) := hide ⟨hat, .nilIface, hH.drewN 1, rfl⟩
    have hS0 : RdS g (.slice A bs.length cap) (.int .i64 (at_ : Nat)) .nilIface W := RdS.of hH
    have c2 : W.cell? ⟨g, 2, none⟩ = some .nilIface := by rw [hH.cell]; rfl
    have HC := hide (show bs.length - at_ ≤ cap - at_ by omega)
    obtain ⟨ds, hds⟩ : ∃ ds, Hid (bs.drop at_ = ds) := ⟨_, hide rfl⟩
    rw [hds.out] at HB hlen ⊢
    have HL := hide hlen
    obtain ⟨len, hlen2⟩ : ∃ len, Hid (bs.length = len) := ⟨_, hide rfl⟩
    have hat2 : at_ ≤ len := by rw [← hlen2.out]; exact hat
    have hc2 : len ≤ cap := by rw [← hlen2.out]; exact hc
    rw [hlen2.out] at hcut hS0 HC HL
    have c0 : W.cell? ⟨g, 0, none⟩ = some (.slice A len cap) := hS0.1
    have c1 : W.cell? ⟨g, 1, none⟩ = some (.int .i64 (at_ : Nat)) := hS0.2.1
    have hS1 : RdS g (.slice A len cap) (.int .i64 (at_ : Nat)) .nilIface W.drew := hS0
    have hS2 : RdS g (.slice A len cap) (.int .i64 (at_ : Nat)) .nilIface W.drew.drew := hS0
    clear h0 hH hrb hez hc hat hlen
    go_enter Tryd.func39, Tryd.ntmps39
    go_wp2_with fail
    go_region_held3 (fun W => W.cell? ⟨g, 0, none⟩ = some (.slice A len cap) ∧ W.cell? ⟨g, 1, none⟩ = some (.int .i64 (at_ : Nat)) ∧ W.cell? ⟨g, 2, none⟩ = some .nilIface)
      (first | exact hS0 | exact hS1 | assumption)
      (first | fail)
    go_wp2_with fail
    go_ret
    exact ⟨⟨A2, _, by rw [HL.out]; rfl, by rw [HL.out]; exact HC.out, HB.out⟩, HH.out, grown_drew (World.grownBy.refl _ _)⟩
end
end Go.Proofs.YthjnkaikjjjceaaDoor
