import Derived.Test.YtijgomgiinlcoaaDoorShaMem
import Derived.StillTailTactics
import Derived.Deep.RegionHeld3
import Derived.Deep.Light
namespace Go.Proofs.YtijgomgiinlcoaaDoor
open Go.RowKit

theorem len58 : Tryd.prog.arrayLen 58 = 64 := by kernel_rfl
theorem und58 : Tryd.prog.underlying 58 = some (.array (Tryd.prog.arrayLen 58) (Tryd.prog.elem 58)) := by kernel_rfl
theorem size58 (W : World) : (sizeOf (Tryd.prog.elem 58)).run Tryd.prog W = .ok 1 W := by kernel_rfl
theorem slice4 (g k : Nat) (hk : k < 16) (W : World) :
    (Instr.sliceAt 58 (.pointer (some ⟨g, 8, none⟩)) (some (.int .i64 (4 * (k : Int)))) (some (.int .i64 (4 * (k : Int) + 4))) none).run Tryd.prog W = .ok (.slice (some ⟨g, 8 + 4 * k, none⟩) 4 (64 - 4 * k)) W := by
  rw [run_sliceAt_array_lh W _ _ und58 _ _ _ _ (by omega) (by omega) (by rw [len58]; omega), size58, len58]
  simp only [Result.andThen, slicedAt]
  rw [if_neg (by omega)]
  have e1 : (4 * (k : Int)).toNat = 4 * k := by omega
  have e2 : (4 * (k : Int) + 4).toNat = 4 * k + 4 := by omega
  rw [e1, e2, show 4 * k + 4 - 4 * k = 4 by omega]
  simp [Addr.add]

theorem und55 : Tryd.prog.underlying 55 = some (.array 64 28) := by kernel_rfl
/-- 'rounds[k]', the array as a value. -/
theorem idxK (CS : Array Value) (hCS : Hid ((u32s Sha.K).toArray = CS)) (k : Nat) (hk : k < 64) : ∃ kk : Nat, Hid (Sha.K.getD k 0 = kk) ∧ kk < 4294967296 ∧
    ∀ W : World, (Instr.index 55 (.agg CS) (.int .i64 (k : Int))).run Tryd.prog W = .ok (.int .u32 (kk : Int)) W := by
  refine ⟨_, rfl, Sha.getD_lt _ Sha.K_lt (by decide) k, fun W => ?_⟩
  have hc : (u32s Sha.K).toArray[k]? = some (.int .u32 ((Sha.K.getD k 0 : Nat) : Int)) := by
    rw [List.getElem?_toArray]; exact u32s_at _ _ (by rw [Sha.K_length]; exact hk)
  rw [hCS.out] at hc
  clear hCS
  simp [Instr.index, run_underlying und55, asIntOf, go_sem, hc]
  intro h; omega

/-- The package's table of constants stands in block 0. -/
def Table (w : World) : Prop := ∃ (t : TypeId) (fr : Nat × Nat), w.heap[0]? = some (.cells (u32s Sha.K).toArray t fr) ∧ 0 < w.heap.size
theorem Table.below {w w' : World} (h : Table w) (hb : Below w.heap.size w w') : Table w' := by
  obtain ⟨t, fr, h1, h2⟩ := h
  exact ⟨t, fr, (hb.block 0 h2).trans h1, Nat.lt_of_lt_of_le h2 hb.size⟩
/-- What holds of the message's words behind k rounds. -/
def Sched (w : World) (bs : List Nat) (g0 : Nat) (k : Nat) (wr : World) : Prop := Has wr g0 55 (u32s (Sha.row bs k)) ∧ Below w.heap.size w wr ∧ g0 = w.heap.size
theorem Sched.first {w wr : World} {bs : List Nat} {g0 k c0 c1 c2 c3 : Nat} (h : Sched w bs g0 k wr) (hlt : k < 16)
    (e0 : Hid (bs.getD (4 * k) 0 = c0)) (e1 : Hid (bs.getD (4 * k + 1) 0 = c1)) (e2 : Hid (bs.getD (4 * k + 2) 0 = c2)) (e3 : Hid (bs.getD (4 * k + 3) 0 = c3))
    (l0 : c0 < 256) (l1 : c1 < 256) (l2 : c2 < 256) (l3 : c3 < 256) :
    Sched w bs g0 (k + 1) (wr.setCell ⟨g0, k, none⟩ (.int .u32 (bits .or .u32 (bits .or .u32 (bits .or .u32 ((c0 : Int) * 16777216) ((c1 : Int) * 65536)) ((c2 : Int) * 256)) (c3 : Int)))).drew := by
  obtain ⟨h1, h2, h3⟩ := h
  refine ⟨?_, (h2.setCell (by simp [h3]) _).drew, h3⟩
  have h4 := h1.set_ k (.int .u32 ((Sha.next bs (Sha.sched bs k) k : Nat) : Int))
  rw [u32s_set, Sha.row_set _ _ (by omega)] at h4
  have e : Sha.next bs (Sha.sched bs k) k = (c0 * 16777216 ||| c1 * 65536 ||| c2 * 256 ||| c3) := by
    rw [← e0.out, ← e1.out, ← e2.out, ← e3.out]
    simp [Sha.next, hlt, Sha.word]
  rw [e, ← Sha.word_or c0 c1 c2 c3 l0 l1 l2 l3] at h4
  exact h4

theorem Sched.second {w wr : World} {bs : List Nat} {g0 j a b c d : Nat} (N : Nat) (h : Sched w bs g0 (j + 16) wr) (hlt : j < 48)
    (ea : Hid ((Sha.sched bs (j + 16)).getD j 0 = a)) (eb : Hid ((Sha.sched bs (j + 16)).getD (j + 1) 0 = b)) (ec : Hid ((Sha.sched bs (j + 16)).getD (j + 9) 0 = c)) (ed : Hid ((Sha.sched bs (j + 16)).getD (j + 14) 0 = d)) :
    Sched w bs g0 (j + 1 + 16) ((wr.drewN N).setCell ⟨g0, j + 16, none⟩ (.int .u32 (IntKind.u32.wrap (IntKind.u32.wrap (IntKind.u32.wrap ((a : Int) + (Sha.thin b 7 18 3 : Nat)) + (c : Int)) + (Sha.thin d 17 19 10 : Nat))))) := by
  obtain ⟨h1, h2, h3⟩ := h
  refine ⟨?_, Below.setCell (B := w.heap.size) (w := wr.drewN N) ⟨h2.os, h2.tape, h2.output, h2.size, h2.block⟩ (by simp [h3]) _, h3⟩
  have h4 := (h1.drewN N).set_ (j + 16) (.int .u32 ((Sha.next bs (Sha.sched bs (j + 16)) (j + 16) : Nat) : Int))
  rw [u32s_set, Sha.row_set _ _ (by omega)] at h4
  have e : Sha.next bs (Sha.sched bs (j + 16)) (j + 16) = (a + Sha.thin b 7 18 3 + c + Sha.thin d 17 19 10) % 4294967296 := by
    unfold Sha.next
    rw [if_neg (by omega), show j + 16 - 16 = j by omega, show j + 16 - 15 = j + 1 by omega, show j + 16 - 7 = j + 9 by omega, show j + 16 - 2 = j + 14 by omega, ea.out, eb.out, ec.out, ed.out]
  have e2 : IntKind.u32.wrap (IntKind.u32.wrap (IntKind.u32.wrap ((a : Int) + (Sha.thin b 7 18 3 : Nat)) + (c : Int)) + (Sha.thin d 17 19 10 : Nat)) = (((a + Sha.thin b 7 18 3 + c + Sha.thin d 17 19 10) % 4294967296 : Nat) : Int) := by
    simp only [IntKind.wrap_u32']
    omega
  rw [e, ← e2] at h4
  rw [show j + 1 + 16 = j + 16 + 1 by omega]
  exact h4
/-- What holds behind k of the rounds: the words of the message stand, the eight words of the state are those of k rounds. -/
def Rnd (w w2 : World) (st bs : List Nat) (k : Nat) (wr : World) : Prop :=
  Has wr w2.heap.size 57 (u32s (Sha.rounds st (Sha.sched bs 64) k)) ∧ Has wr w.heap.size 55 (u32s (Sha.sched bs 64)) ∧ Below w.heap.size w wr ∧ w.heap.size < w2.heap.size
theorem Rnd.start {w w2 : World} {st bs : List Nat} (h : Sched w bs w.heap.size 64 w2) : Rnd w w2 st bs 0 (w2.alloc (.cells (u32s st).toArray 57)) := by
  obtain ⟨h1, h2, _⟩ := h
  rw [Sha.row_all] at h1
  exact ⟨Has.new _ _ _, h1.alloc _, h2.alloc h2.size _, h1.lt⟩
theorem Rnd.next {w w2 wr : World} {st bs : List Nat} {k kk ww s0 s1 s2 s3 s4 s5 s6 s7 : Nat} (N : Nat) (h : Rnd w w2 st bs k wr)
    (ek : Hid (Sha.K.getD k 0 = kk)) (ew : Hid ((Sha.sched bs 64).getD k 0 = ww)) (es : Hid (Sha.rounds st (Sha.sched bs 64) k = [s0, s1, s2, s3, s4, s5, s6, s7])) :
    Rnd w w2 st bs (k + 1)
      (((((((((wr.drewN N).setCell ⟨w2.heap.size, 0, none⟩
        (.int .u32 (((s7 : Int) + (Sha.stir s4 6 11 25 : Nat) + (Sha.choice s4 s5 s6 : Nat) + (kk : Int) + (ww : Int) + ((Sha.stir s0 2 13 22 : Nat) + (Sha.most s0 s1 s2 : Nat))) % 4294967296))).setCell
        ⟨w2.heap.size, 1, none⟩ (.int .u32 s0)).setCell ⟨w2.heap.size, 2, none⟩ (.int .u32 s1)).setCell ⟨w2.heap.size, 3, none⟩ (.int .u32 s2)).setCell
        ⟨w2.heap.size, 4, none⟩ (.int .u32 (((s3 : Int) + ((s7 : Int) + (Sha.stir s4 6 11 25 : Nat) + (Sha.choice s4 s5 s6 : Nat) + (kk : Int) + (ww : Int))) % 4294967296))).setCell
        ⟨w2.heap.size, 5, none⟩ (.int .u32 s4)).setCell ⟨w2.heap.size, 6, none⟩ (.int .u32 s5)).setCell ⟨w2.heap.size, 7, none⟩ (.int .u32 s6)) := by
  obtain ⟨h1, h2, h3, h4⟩ := h
  have e : Sha.rounds st (Sha.sched bs 64) (k + 1) = [(Sha.tee s4 s5 s6 s7 kk ww + Sha.you s0 s1 s2) % 4294967296, s0, s1, s2, (s3 + Sha.tee s4 s5 s6 s7 kk ww) % 4294967296, s4, s5, s6] := by
    rw [Sha.rounds, es.out, ek.out, ew.out]
    rfl
  have e0 : (((s7 : Int) + (Sha.stir s4 6 11 25 : Nat) + (Sha.choice s4 s5 s6 : Nat) + (kk : Int) + (ww : Int) + ((Sha.stir s0 2 13 22 : Nat) + (Sha.most s0 s1 s2 : Nat))) % 4294967296) = (((Sha.tee s4 s5 s6 s7 kk ww + Sha.you s0 s1 s2) % 4294967296 : Nat) : Int) := by
    unfold Sha.tee Sha.you
    omega
  have e4 : (((s3 : Int) + ((s7 : Int) + (Sha.stir s4 6 11 25 : Nat) + (Sha.choice s4 s5 s6 : Nat) + (kk : Int) + (ww : Int))) % 4294967296) = (((s3 + Sha.tee s4 s5 s6 s7 kk ww) % 4294967296 : Nat) : Int) := by
    unfold Sha.tee
    omega
  rw [e0, e4]
  rw [es.out] at h1
  have hl := h2.lt
  have ne : w.heap.size ≠ w2.heap.size := Nat.ne_of_lt h4
  refine ⟨?_, ?_, ?_, h4⟩
  · rw [e]
    exact ((((((((h1.drewN N).set_ 0 _).set_ 1 _).set_ 2 _).set_ 3 _).set_ 4 _).set_ 5 _).set_ 6 _).set_ 7 _
  · exact ((((((((h2.drewN N).far (p := ⟨_, _, _⟩) ne _).far (p := ⟨_, _, _⟩) ne _).far (p := ⟨_, _, _⟩) ne _).far (p := ⟨_, _, _⟩) ne _).far (p := ⟨_, _, _⟩) ne _).far (p := ⟨_, _, _⟩) ne _).far (p := ⟨_, _, _⟩) ne _).far (p := ⟨_, _, _⟩) ne _
  · have hb : Below w.heap.size w (wr.drewN N) := ⟨h3.os, h3.tape, h3.output, h3.size, h3.block⟩
    have le : w.heap.size ≤ w2.heap.size := Nat.le_of_lt h4
    exact (((((((hb.setCell (p := ⟨_, _, _⟩) le _).setCell (p := ⟨_, _, _⟩) le _).setCell (p := ⟨_, _, _⟩) le _).setCell (p := ⟨_, _, _⟩) le _).setCell (p := ⟨_, _, _⟩) le _).setCell (p := ⟨_, _, _⟩) le _).setCell (p := ⟨_, _, _⟩) le _).setCell (p := ⟨_, _, _⟩) le _
/-- What holds behind i of the last eight additions: only the Hash, and what is new, has turned. -/
def Add8 (w w2 : World) (g : Nat) (st s bs : List Nat) (n i : Nat) (wr : World) : Prop :=
  HasHash wr g (Sha.addTo st s i) bs n ∧ Has wr w2.heap.size 57 (u32s s) ∧ w.grownBy wr (some g) ∧ g < w2.heap.size
theorem Add8.next {w w2 wr : World} {g : Nat} {st s bs : List Nat} {n i a b : Nat} (h : Add8 w w2 g st s bs n i wr) (hi : i < 8) (h1 : st.length = 8) (h2 : s.length = 8)
    (ea : Hid (st.getD i 0 = a)) (eb : Hid (s.getD i 0 = b)) :
    Add8 w w2 g st s bs n (i + 1) (wr.setCell ⟨g, i, none⟩ (.int .u32 (((a : Int) + (b : Int)) % 4294967296))).drew := by
  obtain ⟨⟨k1, k2, k3⟩, k4, k5, k6⟩ := h
  have e : (((a : Int) + (b : Int)) % 4294967296) = (((a + b) % 4294967296 : Nat) : Int) := by omega
  rw [e]
  refine ⟨⟨?_, Sha.addTo_length _ _ h1 h2 _ (by omega), k3⟩, k4.far (p := ⟨_, _, _⟩) (Nat.ne_of_gt k6) _, ?_, k6⟩
  · have h3 := k1.set_ i (.int .u32 (((a + b) % 4294967296 : Nat) : Int))
    rw [List.set_append_left _ _ (by simp [k2]; exact hi), u32s_set, ← ea.out, ← eb.out, Sha.addTo_set _ _ h1 h2 _ hi] at h3
    rw [← ea.out, ← eb.out]
    exact h3
  · exact ⟨k5.os, k5.tape, k5.output, by simpa [World.setCell] using k5.size, fun j hj hne => (Below.heap_setCell wr ⟨g, i, none⟩ _ j (fun e => hne (by rw [e]))).trans (k5.block j hj hne)⟩
theorem keep4 {W : World} {g0 i1 i2 i3 i4 k : Nat} {v1 v2 v3 v4 : Value} (u : Value) (h1 : i1 ≠ k) (h2 : i2 ≠ k) (h3 : i3 ≠ k) (h4 : i4 ≠ k)
    (c1 : W.cell? ⟨g0, i1, none⟩ = some v1) (c2 : W.cell? ⟨g0, i2, none⟩ = some v2) (c3 : W.cell? ⟨g0, i3, none⟩ = some v3) (c4 : W.cell? ⟨g0, i4, none⟩ = some v4) :
    (W.setCell ⟨g0, k, none⟩ u).cell? ⟨g0, i1, none⟩ = some v1 ∧ (W.setCell ⟨g0, k, none⟩ u).cell? ⟨g0, i2, none⟩ = some v2 ∧ (W.setCell ⟨g0, k, none⟩ u).cell? ⟨g0, i3, none⟩ = some v3 ∧ (W.setCell ⟨g0, k, none⟩ u).cell? ⟨g0, i4, none⟩ = some v4 := by
  have far : ∀ i v, i ≠ k → W.cell? ⟨g0, i, none⟩ = some v → (W.setCell ⟨g0, k, none⟩ u).cell? ⟨g0, i, none⟩ = some v := fun i v hne hc =>
    (World.cell?_setCell_other W _ _ u (by intro e; injection e; omega)).trans hc
  exact ⟨far _ _ h1 c1, far _ _ h2 c2, far _ _ h3 c3, far _ _ h4 c4⟩

set_option maxRecDepth 100000 in
set_option maxHeartbeats 8000000 in
theorem mix_c (g : Nat) (st bs : List Nat) (n : Nat) (w : World) (h : HasHash w g st bs n) (hbs : ∀ b ∈ bs, b < 256) (hst : ∀ x ∈ st, x < 4294967296) (hR : Table w) :
    Calls Tryd.prog 38 #[.pointer (some ⟨g, 0, none⟩)] w fun e w' => e = .returned (.tuple #[]) ∧ HasHash w' g (Sha.compress st bs) bs n ∧ w.grownBy w' (some g) := by
  go_enter Tryd.func38, Tryd.ntmps38
  go_wp2
  go_loopw [14] (fun v wr => ∃ k : Nat, k ≤ 16 ∧ v = .int .i64 k ∧ Sched w bs w.heap.size k wr) (fun v _ => 16 - (intOf v).toNat)
  case atStart => exact ⟨0, by omega, rfl, Has.new _ _ _, (Below.refl _ _).alloc (Nat.le_refl _) _, rfl⟩
  case round =>
    obtain ⟨k, hk, rfl, hS⟩ := hrel
    by_cases hlt : k < 16
    ·
      --{
      obtain ⟨c0, e0, l0, b0⟩ := (h.below hS.2.1).byte' hbs (4 * k) (8 + 4 * k) (by omega) rfl
      obtain ⟨c1, e1, l1, b1⟩ := (h.below hS.2.1).byte' hbs (4 * k + 1) (8 + 4 * k + 1) (by omega) rfl
      obtain ⟨c2, e2, l2, b2⟩ := (h.below hS.2.1).byte' hbs (4 * k + 2) (8 + 4 * k + 2) (by omega) rfl
      obtain ⟨c3, e3, l3, b3⟩ := (h.below hS.2.1).byte' hbs (4 * k + 3) (8 + 4 * k + 3) (by omega) rfl
      have hsl := slice4 g k hlt
      have hWk : wr.cell? ⟨w.heap.size, k, none⟩ = some _ := (hS.1.cell k).trans (u32s_at _ k (by rw [Sha.row_length _ _ (by omega)]; omega))
      have hWf := hS.1.frozen k
      have hi64 : (k : Int) < 64 := by omega
      go_wp2
      go_still_tail 24, (by kernel_rfl)
      change wpList _ _ _ _ _ wr.drew
      go_wp2
      go_roundw
      case rel => exact ⟨k + 1, by omega, by go_num, hS.first hlt e0 e1 e2 e3 l0 l1 l2 l3⟩
      case measure => simp [intOf]; omega
      --}
    · rw [show (k : Int) = 16 by omega]
      obtain rfl : k = 16 := by omega
      obtain ⟨w1, hS1⟩ : ∃ w1, Sched w bs w.heap.size 16 w1 ∧ w1 = wr := ⟨_, hS, rfl⟩
      obtain ⟨hS1, rfl⟩ := hS1
      clear hk hlt hS
      go_wp2
      go_loopw [5] (fun v wr => ∃ j : Nat, j ≤ 48 ∧ v = .int .i64 (j + 16) ∧ Sched w bs w.heap.size (j + 16) wr) (fun v _ => 64 - (intOf v).toNat)
      case atStart => exact ⟨0, by omega, rfl, hS1⟩
      case round =>
        obtain ⟨j, hj, rfl, hS⟩ := hrel
        by_cases hlt : j < 48
        ·
          --{
          obtain ⟨a, ea, la, ca⟩ := row_at hS.1 hbs (by omega) j (by omega)
          obtain ⟨b, eb, lb, cb⟩ := row_at hS.1 hbs (by omega) (j + 1) (by omega)
          obtain ⟨c, ec, lc, cc⟩ := row_at hS.1 hbs (by omega) (j + 9) (by omega)
          obtain ⟨d, ed, ld, cd⟩ := row_at hS.1 hbs (by omega) (j + 14) (by omega)
          have hWk : wr.cell? ⟨w.heap.size, j + 16, none⟩ = some _ := (hS.1.cell (j + 16)).trans (u32s_at _ (j + 16) (by rw [Sha.row_length _ _ (by omega)]; omega))
          have hWf := hS.1.frozen (j + 16)
          have hi0 : (0 : Int) ≤ (j : Int) := by omega
          have hi64 : (j : Int) + 16 < 64 := by omega
          have hi1 : (j : Int) < 64 := by omega
          have hi2 : (j : Int) + 1 < 64 := by omega
          have hi3 : (j : Int) + 9 < 64 := by omega
          have hi4 : (j : Int) + 14 < 64 := by omega
          have w0 : IntKind.i64.wrap (j : Int) = (j : Int) := by rw [IntKind.wrap_i64]; omega
          have w1 : IntKind.i64.wrap ((j : Int) + 1) = (j : Int) + 1 := by rw [IntKind.wrap_i64]; omega
          have w2 : IntKind.i64.wrap ((j : Int) + 9) = (j : Int) + 9 := by rw [IntKind.wrap_i64]; omega
          have w3 : IntKind.i64.wrap ((j : Int) + 14) = (j : Int) + 14 := by rw [IntKind.wrap_i64]; omega
          have w4 : IntKind.i64.wrap ((j : Int) + 16 - 15) = (j : Int) + 1 := by rw [IntKind.wrap_i64]; omega
          have w5 : IntKind.i64.wrap ((j : Int) + 16 - 7) = (j : Int) + 9 := by rw [IntKind.wrap_i64]; omega
          have w6 : IntKind.i64.wrap ((j : Int) + 16 - 2) = (j : Int) + 14 := by rw [IntKind.wrap_i64]; omega
          have p1 : (0 : Int) ≤ (j : Int) + 1 := by omega
          have p2 : (0 : Int) ≤ (j : Int) + 9 := by omega
          have p3 : (0 : Int) ≤ (j : Int) + 14 := by omega
          have t1 : ((j : Int) + 1).toNat = j + 1 := by omega
          have t2 : ((j : Int) + 9).toNat = j + 9 := by omega
          have t3 : ((j : Int) + 14).toNat = j + 14 := by omega
          have t4 : ((j : Int) + 16).toNat = j + 16 := by omega
          have p4 : (0 : Int) ≤ (j : Int) + 16 := by omega
          go_wp2
          go_region_held3 (fun w' => w'.cell? ⟨w.heap.size, j, none⟩ = some (.int .u32 a) ∧ w'.cell? ⟨w.heap.size, j + 1, none⟩ = some (.int .u32 b) ∧ w'.cell? ⟨w.heap.size, j + 9, none⟩ = some (.int .u32 c) ∧ w'.cell? ⟨w.heap.size, j + 14, none⟩ = some (.int .u32 d))
            (first | (go_keep; done) | exact keep4 _ (by omega) (by omega) (by omega) (by omega) ca cb cc cd)
            (first
              | (go_at_call 40; ((with_reducible refine (thin_a b _ lb).mono ?_)); rintro e w' ⟨rfl, nq, rfl⟩)
              | (go_at_call 40; ((with_reducible refine (thin_b d _ ld).mono ?_)); rintro e w' ⟨rfl, nq, rfl⟩))
          go_wp2
          go_roundw
          case rel => exact ⟨j + 1, by omega, by go_num, hS.second _ hlt ea eb ec ed⟩
          case measure => simp [intOf]; omega
          --}
        · rw [show (j : Int) + 16 = 64 by omega]
          obtain rfl : j = 48 := by omega
          obtain ⟨w2, hS2⟩ : ∃ w2, Sched w bs w.heap.size 64 w2 ∧ w2 = wr := ⟨_, hS, rfl⟩
          obtain ⟨hS2, rfl⟩ := hS2
          clear hj hlt hS
          have hh2 := h.below hS2.2.1
          have z0 := hh2.word 0 (by decide)
          have z1 := hh2.word 1 (by decide)
          have z2 := hh2.word 2 (by decide)
          have z3 := hh2.word 3 (by decide)
          have z4 := hh2.word 4 (by decide)
          have z5 := hh2.word 5 (by decide)
          have z6 := hh2.word 6 (by decide)
          have z7 := hh2.word 7 (by decide)
          obtain ⟨t0, t1, t2, t3, t4, t5, t6, t7, rfl⟩ := Sha.eight st h.2.1
          simp only [List.getD_cons_zero, List.getD_cons_succ] at z0 z1 z2 z3 z4 z5 z6 z7
          obtain ⟨tR, fR, hR0, hR1⟩ := hR.below hS2.2.1
          have HR := hide hR0
          clear hR0
          go_wp2_with (refine wpList_load_row rfl 55 _ rfl 0 rfl tR _ fR _ ((Below.heap_alloc _ _ 0 hR1).trans HR.out) Tryd.underlying55 rfl (by kernel_rfl) ?_)
          obtain ⟨CS, hCS⟩ : ∃ CS, Hid ((u32s Sha.K).toArray = CS) := ⟨_, rfl⟩
          rw [hCS.out]
          have hB2 := hS2.2.1.size
          go_loopw [83] (fun v wr => ∃ k : Nat, k ≤ 64 ∧ v = .int .i64 k ∧ Rnd w w2 [t0, t1, t2, t3, t4, t5, t6, t7] bs k wr) (fun v _ => 64 - (intOf v).toNat)
          case atStart => exact ⟨0, by omega, rfl, Rnd.start hS2⟩
          case round =>
            obtain ⟨k, hk, rfl, hN⟩ := hrel
            by_cases hlt : k < 64
            ·
              --{
              obtain ⟨kk, ek, lk, hidx⟩ := idxK CS hCS k hlt
              obtain ⟨ww, ew, lw, cw⟩ := word_at hN.2.1 (Sha.sched_lt bs hbs 64) k (by rw [Sha.sched_length]; exact hlt)
              obtain ⟨s0, s1, s2, s3, s4, s5, s6, s7, es, l0, l1, l2, l3, l4, l5, l6, l7, c0, c1, c2, c3, c4, c5, c6, c7⟩ := words_at hN.1 (Sha.rounds_words ⟨rfl, hst⟩ _ _)
              have f0 := hN.1.frozen 0
              have f1 := hN.1.frozen 1
              have f2 := hN.1.frozen 2
              have f3 := hN.1.frozen 3
              have f4 := hN.1.frozen 4
              have f5 := hN.1.frozen 5
              have f6 := hN.1.frozen 6
              have f7 := hN.1.frozen 7
              have hi64 : (k : Int) < 64 := by omega
              have HST := hide hst
              have HBS := hide hbs
              clear hst hbs z0 z1 z2 z3 z4 z5 z6 z7
              have hm : (if IntKind.u32.signed = true then (-1 : Int) else IntKind.u32.max) = 4294967295 := rfl
              have hch := Sha.choice_eq s4 s5 s6 l4 l5 l6
              have hmo := Sha.most_eq s0 s1 s2 l0 l1 l2
              go_wp2_with fail
              go_quiet ((go_at_call 41; exact Calls.quiet_of_same (stir_a s4 _ l4)))
              go_wp2_with (go_at_call 41; ((with_reducible refine (stir_b s0 _ l0).mono ?_)); rintro e w' ⟨rfl, rfl⟩)
              go_roundw
              case rel => exact ⟨k + 1, by omega, by go_num, hN.next _ ek ew es⟩
              case measure => simp [intOf]; omega
              --}
            · rw [show (k : Int) = 64 by omega]
              obtain rfl : k = 64 := by omega
              clear hk hlt
              go_wp2
              obtain ⟨w3, hN3⟩ : ∃ w3, Rnd w w2 [t0, t1, t2, t3, t4, t5, t6, t7] bs 64 w3 ∧ w3 = wr := ⟨_, hN, rfl⟩
              obtain ⟨hN3, rfl⟩ := hN3
              clear hN
              have hsw := Sha.rounds_words (st := [t0, t1, t2, t3, t4, t5, t6, t7]) ⟨rfl, hst⟩ (Sha.sched bs 64) 64
              obtain ⟨s, hs⟩ : ∃ s, Hid (Sha.rounds [t0, t1, t2, t3, t4, t5, t6, t7] (Sha.sched bs 64) 64 = s) := ⟨_, rfl⟩
              rw [hs.out] at hsw
              have hA3 : Add8 w w2 g [t0, t1, t2, t3, t4, t5, t6, t7] s bs n 0 w3 := by
                obtain ⟨m1, _, m3, m4⟩ := hN3
                rw [hs.out] at m1
                exact ⟨by rw [Sha.addTo_zero]; exact h.below m3, m1, ⟨m3.os, m3.tape, m3.output, m3.size, fun j hj _ => m3.block j hj⟩, Nat.lt_trans h.1.lt m4⟩
              go_loopw [156] (fun v wr => ∃ i : Nat, i ≤ 8 ∧ v = .int .i64 i ∧ Add8 w w2 g [t0, t1, t2, t3, t4, t5, t6, t7] s bs n i wr) (fun v _ => 8 - (intOf v).toNat)
              case atStart => exact ⟨0, by omega, rfl, hA3⟩
              case round =>
                obtain ⟨i, hi, rfl, hA⟩ := hrel
                by_cases hlt : i < 8
                ·
                  --{
                  obtain ⟨b, eb, lb, cb⟩ := word_at hA.2.1 hsw.2 i (by rw [hsw.1]; exact hlt)
                  obtain ⟨a, ea, la, ca⟩ := hA.1.word' rfl hsw.1 hlt hst
                  have hf := hA.1.1.frozen i
                  have hi8 : (i : Int) < 8 := by omega
                  have HST := hide hst
                  have HBS := hide hbs
                  clear hst hbs z0 z1 z2 z3 z4 z5 z6 z7
                  go_wp2_with fail
                  go_still_tail 13, (by kernel_rfl)
                  change wpList _ _ _ _ _ wr.drew
                  go_wp2
                  go_roundw
                  case rel =>
                    exact ⟨i + 1, by omega, by go_num, hA.next hlt rfl hsw.1 ea eb⟩
                  case measure => simp [intOf]; omega
                  --}
                · rw [show (i : Int) = 8 by omega]
                  obtain rfl : i = 8 := by omega
                  go_wp2
                  go_end0
                  obtain ⟨q1, q2, q3, q4⟩ := hA
                  rw [Sha.addTo_all _ _ rfl hsw.1, ← hs.out] at q1
                  exact ⟨rfl, q1, q3⟩
end Go.Proofs.YtijgomgiinlcoaaDoor
