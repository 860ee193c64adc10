/-
  Arena.Blocks and Arena.Used of a part that is there, walked. By an AI agent. No person has read it.
-/
import Derived.Test.YtemaaipgjghlaaaDoorAreBi
namespace Go.Proofs.YtemaaipgjghlaaaDoor
open Go.RowKit Go.Shelf

attribute [local go_sem] Oper.semAt_some

/-- What Blocks gives: a function that has a box with a row of its own. -/
def Ar.Seq (bs : List (Nat × Nat)) (w : World) (e : Ending) (w' : World) : Prop :=
  ∃ B G A c, e = .returned (.func (.func 34) #[] #[.pointer (some ⟨B, 0, none⟩)]) ∧ Boxed w' B 60 (.slice A bs.length c) ∧ Bk.Lies G w' A bs ∧ w.heap.size ≤ B ∧ B < w'.heap.size ∧ w.heap.size ≤ G ∧ G < w'.heap.size ∧ Below w.heap.size w w'

theorem own_lies {W : World} {base n c k : Nat} {A : Option Addr} {bs : List (Nat × Nat)} (h : W.ownsRow base 64 2 (.slice A n c) n (bs.flatMap Bk.vals)) (hk : k ≤ base) (hk2 : k < W.heap.size) : ∃ G, Bk.Lies G W A bs ∧ k ≤ G ∧ G < W.heap.size := by
  obtain ⟨A4, c4, e4, -, hl4, -⟩ := own_lie h
  cases e4
  rcases h.2 with ⟨h1, h2⟩ | ⟨g, c', cur, h1, h2, h3, -⟩
  · have hb : bs = [] := by
      have := h.1
      rw [flat_len Bk.vals 2 bs (fun _ _ => rfl), h2] at this
      exact List.eq_nil_of_length_eq_zero (by omega)
    exact ⟨k, fun j b hj => by rw [hb] at hj; simp at hj, Nat.le_refl _, hk2⟩
  · cases h1
    refine ⟨g, fun j b hj => ?_, Nat.le_trans hk h2, (Array.getElem?_eq_some_iff.1 h3).1⟩
    obtain ⟨ad, b', e, -, h2, h3, h4⟩ := lie_bk hl4 j (List.getElem?_eq_some_iff.1 hj).1
    cases e
    have e' := h2.out
    rw [hj] at e'
    cases e'
    simp only [Addr.add_lit, Nat.zero_add] at h3 h4
    exact ⟨rfl, h3, h4⟩
set_option maxRecDepth 100000 in
set_option maxHeartbeats 4000000 in
theorem blocks_c (id : Int) (base a m i : Nat) (v : Value) (mem : List Nat) (l : List Hd) (h : Hd) (w : World) (hA : ArIn base w a m v mem l) (hl : l.length ≤ 1000) (hi : l[i]? = some h) (hf : Ar.find id 0 l = (i : Int)) (hbl : h.bs.length ≤ 1000000) :
    Calls Tryd.prog 18 #[.pointer (some ⟨a, 0, none⟩), .int .i64 id] w (Ar.Seq h.bs w) := by
  have hil := (List.getElem?_eq_some_iff.1 hi).1
  obtain ⟨p, c, rfl, hnc⟩ := own_some hA.row (by omega)
  obtain ⟨A, c0, e0, -, hlie, -, -⟩ := own_lie hA.row
  cases e0
  have HA := hide hA
  have HI := hide hi
  obtain ⟨nd, hnd⟩ : ∃ n, Hid (l.length = n) := ⟨_, hide rfl⟩
  have VF := hide (fun W (hb : Below w.heap.size w W) => find_c l (some ⟨p, 0, none⟩) c a _ id W (hlie.below hb) (by omega) (hA.below hb).box)
  rw [hf] at VF
  have hin : i < nd := by rw [← hnd.out]; exact hil
  have hni : (0 : Int) ≤ (i : Int) := by omega
  have VC := hide (fun W (hb : Below w.heap.size w W) => by
    have hrow := (hA.below hb).bks h (List.mem_of_getElem? hi)
    obtain ⟨A2, c2, e2, -, hl2, -, -⟩ := own_lie hrow
    cases e2
    exact cloneblk_c h.bs h.A h.bs.length h.c W hl2 rfl (fun e => by
      rcases hrow.2 with ⟨h1, h2⟩ | ⟨g, c', cur, h1, -⟩
      · injection h1 with h1 h2 h3
        exact ⟨h2, h3⟩
      · injection h1 with h1
        rw [e] at h1
        cases h1) hbl)
  obtain ⟨hm, hmm⟩ : ∃ hm, Hid (h.bs.length = hm) := ⟨_, hide rfl⟩
  rw [hmm.out] at VC
  have HB0 := hide ((Below.refl w.heap.size w).alloc (Nat.le_refl _) (.cells #[.slice none 0 0] 60))
  have HX0 := hide (Boxed.new w 60 (.slice none 0 0))
  clear hlie hf hil hA hi
  go_enter Tryd.func18, Tryd.ntmps18
  go_wp2_with fail
  refine (VF.out _ HB0.out).mono ?_
  rintro e w1 ⟨rfl, hb1⟩
  have HB1 := hide (HB0.out.trans (hb1.mono HB0.out.size))
  have HX1 : Hid (Boxed w1 w.heap.size 60 (.slice none 0 0)) := hide ((hb1.block w.heap.size (by simp)).trans HX0.out)
  have c1 : w1.cell? ⟨a, 1, none⟩ = some (.slice (some ⟨p, 0, none⟩) nd c) := by
    rw [← hnd.out]
    exact ((HA.out.below HB1.out).box).cell 1
  obtain ⟨-, -, -, k3, -⟩ := (HA.out.below HB1.out).cells HI.out
  rw [hmm.out] at k3
  have HC := hide (VC.out w1 HB1.out)
  clear VF VC hb1 HB0 HX0
  go_wp2_with fail
  refine HC.out.mono ?_
  rintro e w2 ⟨v', rfl, hrow, hb2⟩
  have hw1 : w.heap.size < w1.heap.size := by
    have h : Boxed w1 w.heap.size 60 (.slice none 0 0) := HX1.out
    exact (Array.getElem?_eq_some_iff.1 h).1
  have HX2 : Hid (Boxed w2 w.heap.size 60 (.slice none 0 0)) := hide ((hb2.block w.heap.size hw1).trans HX1.out)
  have HB2 := hide (HB1.out.trans (hb2.mono HB1.out.size))
  obtain ⟨A3, c3, rfl, -⟩ := own_lie hrow
  have x0 := HX2.out.cell
  have x1 := HX2.out.frozen
  have FIN : Hid (Ar.Seq h.bs w (.returned (.func (.func 34) #[] #[.pointer (some ⟨w.heap.size, 0, none⟩)])) (w2.setCell ⟨w.heap.size, 0, none⟩ (.slice A3 hm c3))) := hide (by
    have hrow3 := own_set (p := ⟨w.heap.size, 0, none⟩) hrow (fun k hk e => by have := own_ge hrow k hk; have e : k = w.heap.size := e; omega) (.slice A3 hm c3)
    have hsz : w.heap.size < (w2.setCell ⟨w.heap.size, 0, none⟩ (.slice A3 hm c3)).heap.size := by
      rw [show (w2.setCell ⟨w.heap.size, 0, none⟩ (.slice A3 hm c3)).heap.size = w2.heap.size by simp [World.setCell]]
      have := hb2.size
      omega
    have hbf := HB2.out.setCell (p := ⟨w.heap.size, 0, none⟩) (Nat.le_refl _) (.slice A3 hm c3)
    obtain ⟨G, h1, h2, h3⟩ := own_lies hrow3 (by omega) hsz
    exact ⟨w.heap.size, G, A3, c3, rfl, by rw [hmm.out]; exact HX2.out.set _, h1, Nat.le_refl _, hsz, h2, h3, hbf⟩)
  clear HC hrow hb2 HX1 HX2 HB1 c1 k3
  go_wp2_with fail
  go_ret
  exact FIN.out

theorem blocks_stops (F : Fence) (n : Nat) (h8 : F.fn 34) (hro : F.round = none) (hn : 1 ≤ n) (Bs G len cap : Nat) (A : Option Addr) (bs : List (Nat × Nat)) (hl : Hid (bs.length = len)) (hreach : len ≤ 1000000) (w : World) (hBs : Bs < w.heap.size) (hG : G < w.heap.size)
    (hc : w.cell? ⟨Bs, 0, none⟩ = some (.slice A len cap)) (hI : Bk.Lies G w A bs) :
    SeqStopsK F n Tryd.prog 34 #[.pointer (some ⟨Bs, 0, none⟩)] (fun x : Nat × Nat => #[Value.int .i64 (x.1 : Nat), Value.int .i64 (x.2 : Nat)]) (Ar.KR Bs G) (fun ys => ys = bs)
      (fun pre => ∃ k, k ≤ len ∧ pre = bs.take k) len w := fun l J Jx W hW hJ _ hY h0 =>
  blocks1_in F n h8 hro hn l Bs G len cap A bs hl hreach J Jx hY W hJ (Nat.lt_of_lt_of_le hBs hW.size) (Nat.lt_of_lt_of_le hG hW.size) ((hW.cell (p := ⟨Bs, 0, none⟩) hBs).trans hc) (hide (hI.same (hW.block G hG))) h0
/-- How many bytes blocks have, as a loop adds them up. -/
def Bk.sumw (pre : List (Nat × Nat)) : Int := pre.foldl (fun s x => wrap64 (s + (x.2 : Int))) 0
def Bk.sum (bs : List (Nat × Nat)) : Nat := (bs.map (·.2)).sum
theorem Bk.sumw_snoc (pre : List (Nat × Nat)) (x : Nat × Nat) : Bk.sumw (pre ++ [x]) = wrap64 (Bk.sumw pre + (x.2 : Int)) := by
  unfold Bk.sumw
  rw [List.foldl_append]
  rfl
theorem Bk.sumw_eq (bs : List (Nat × Nat)) (h : Bk.sum bs ≤ 1000000000) : Bk.sumw bs = (Bk.sum bs : Int) := by
  have key : ∀ (bs : List (Nat × Nat)) (s : Nat), s + Bk.sum bs ≤ 1000000000 → bs.foldl (fun s x => wrap64 (s + (x.2 : Int))) (s : Int) = ((s + Bk.sum bs : Nat) : Int) := by
    intro bs
    induction bs with
    | nil => intro s _; simp [Bk.sum]
    | cons x l ih =>
      intro s hs
      have hx : Bk.sum (x :: l) = x.2 + Bk.sum l := by simp [Bk.sum]
      rw [hx] at hs ⊢
      rw [List.foldl_cons, show wrap64 ((s : Int) + (x.2 : Int)) = ((s + x.2 : Nat) : Int) by unfold wrap64; omega, ih (s + x.2) (by omega)]
      congr 1
      omega
  have := key bs 0 (by omega)
  rw [Nat.zero_add] at this
  exact this
end Go.Proofs.YtemaaipgjghlaaaDoor
