/-
  Arena.Used of a part that is there, walked. By an AI agent. No person has read it.
-/
import Derived.Test.YtemaaipgjghlaaaDoorAreBj
import Derived.Test.YtemaaipgjghlaaaDoorAreBx
namespace Go.Proofs.YtemaaipgjghlaaaDoor
open Go.RowKit Go.Shelf

attribute [local go_sem] Oper.semAt_some

set_option maxRecDepth 100000 in
set_option maxHeartbeats 4000000 in
theorem used_c (id : Int) (base a m i : Nat) (v : Value) (mem : List Nat) (l : List Hd) (h : Hd) (w : World) (hA : ArIn base w a m v mem l) (hl : l.length ≤ 1000) (hi : l[i]? = some h) (hf : Ar.find id 0 l = (i : Int)) (hbl : h.bs.length ≤ 1000000) (hs : Bk.sum h.bs ≤ 1000000000) :
    Calls Tryd.prog 16 #[.pointer (some ⟨a, 0, none⟩), .int .i64 id] w fun e w' => e = .returned (.int .i64 (Bk.sum h.bs : Nat)) ∧ Below w.heap.size w w' := by
  have HS := hide (Bk.sumw_eq h.bs hs)
  have VB := hide (fun W (hb : Below w.heap.size w W) => blocks_c id base a m i v mem l h W (hA.below hb) hl hi hf hbl)
  clear hA hl hi hf hs
  refine (callsIn_wide (n := 6)).1 ?_
  refine callsIn_of_wp_marks Tryd.func16 rfl trivial ?_ rfl
  simp only [Tryd.ntmps16, List.size_toArray, List.length_cons, List.length_nil, Nat.reduceAdd, Nat.reduceSub, Array.replicate_succ, Array.replicate_zero, List.push_toArray, List.append_toArray, List.nil_append, List.cons_append]
  have hU0 := Boxed.new w 3 (.int .i64 0)
  have hB0 := (Below.refl w.heap.size w).alloc (Nat.le_refl _) (.cells #[.int .i64 0] 3)
  have : Fence.wide.fn 18 := trivial
  gi_wp2_with (gi_at_call 18; refine (callsIn_wide.2 (VB.out _ hB0)).mono ?_; rintro e w1 ⟨B, G, A, c, rfl, hbx, hli, hB1, hB2, hG1, hG2, hb1⟩)
  have hszA : (w.alloc (.cells #[.int .i64 0] 3)).heap.size = w.heap.size + 1 := by simp
  rw [hszA] at hB1 hG1 hb1
  have hU1 : Boxed w1 w.heap.size 3 (.int .i64 0) := by exact (hb1.block w.heap.size (by omega)).trans hU0
  have hBw : Below w.heap.size w w1 := by
    exact hB0.trans (hb1.mono (by omega))
  have hu1 : w.heap.size < w1.heap.size := by omega
  refine wpIn_rangeFunc_ownG (F := Fence.wide) rfl (by decide) (gf := 34) (lb := #[.pointer (some ⟨B, 0, none⟩)]) rfl trivial (enters_of Tryd.func34 (by kernel_rfl) rfl)
    (blocks_stops Fence.wide 5 trivial rfl (by decide) B G h.bs.length c A h.bs (hide rfl) hbl w1 hB2 hG2 hbx.cell hli) (fun h k => h.trans k) (Ar.KR.put hB2 hG2) (Below.refl _ _) (fun _ => rfl)
    (fun pre W => Boxed W w.heap.size 3 (.int .i64 (Bk.sumw pre)) ∧ Below w.heap.size w W)
    (fun _ _ _ => False)
    (OwnFrom.and (Own.from (fun s A B row hs hg hr => box_own _ _ (fun pre : List (Nat × Nat) => Value.int .i64 (Bk.sumw pre)) s A B row hs hg hr) _) (ownFrom_below (by omega) (by omega)))
    (fun _ _ _ _ _ hs _ _ => hs)
    ⟨hU1, hBw⟩
    (fun x => { tmps := #[.pointer (some ⟨a, 0, none⟩), .int .i64 id, undef, undef, .int .i64 0, .pointer (some ⟨w.heap.size, 0, none⟩), undef, .int .i64 (x.2 : Nat), .pointer (some ⟨a, 0, none⟩), .int .i64 id, .func (.func 34) #[] #[.pointer (some ⟨B, 0, none⟩)], .int .i64 (x.1 : Nat), .int .i64 (x.2 : Nat), undef, undef, undef, undef], defers := [] }) ?assign ?body ?done ?stop
  case assign =>
    intro l x W K hK
    gi_wp2
    exact hK
  case body =>
    rintro l pre ⟨x1, x2⟩ W ⟨hUw, hB⟩ _
    have c2 := hUw.cell
    have f2 := hUw.frozen
    obtain ⟨S, hS⟩ : ∃ S, Bk.sumw pre = S := ⟨_, rfl⟩
    rw [hS] at hUw c2
    gi_wp2
    exact ⟨(KeepsOthers.setCell _ _ _).from _, ⟨Below.heap_setCell W ⟨w.heap.size, 0, none⟩ _ B (by show B ≠ w.heap.size; omega), Below.heap_setCell W ⟨w.heap.size, 0, none⟩ _ G (by show G ≠ w.heap.size; omega), by simp [World.setCell]⟩, (by rw [Bk.sumw_snoc, hS]; exact hUw.set _), hB.setCell (p := ⟨w.heap.size, 0, none⟩) (Nat.le_refl _) _⟩
  case done =>
    rintro D ys W hD rfl ⟨hUw, hB⟩ hK
    rw [HS.out] at hUw
    have c2 := hUw.cell
    gi_wp2
    refine ⟨by simp, .inl ⟨_, _, rfl, run_takeDeferred hK, ?_⟩⟩
    refine ⟨_, results_tmp rfl _ _ _, rfl, ?_⟩
    exact hB.trans (belowK_b (w := w1) (by omega) W D _ _ (by omega) hK rfl rfl)
  case stop =>
    rintro D c pre W _ _ h _
    exact h.elim
end Go.Proofs.YtemaaipgjghlaaaDoor
