/-
  The document's own SHA-256, lodgeref1.Sum: plain facts and words for the walk of its loops. By an AI agent. No person has read it.
-/
import Derived.Test.YtijgomgiinlcoaaDoorShaRef1
import Derived.StillTailTactics
namespace Go.Proofs.YtijgomgiinlcoaaDoor
open Go.RowKit

theorem new_rb (w : World) (x : Nat) (xi : Int) (h : xi = x) (hx : x < 256) : Rb (w.alloc (.cells #[.int .u8 xi] 5)) (some ⟨w.heap.size, 0, none⟩) [x] := by
  subst h
  refine ⟨fun b hb => by simp at hb; omega, fun _ => ⟨_, rfl, by simp, fun i b hi => ?_⟩⟩
  refine new_cells w 5 [.int .u8 (x : Int)] i _ ?_
  match i, hi with
  | 0, hi => simp at hi; subst hi; rfl
/-- How far the padded message is laid. -/
def PadI (W wr : World) (u : Value) (xs : List Nat) : Prop := wr.ownsRow (W.heap.size + 1) 5 1 u xs.length (u8s xs) ∧ Below W.heap.size W wr ∧ Has wr W.heap.size 24 (u8s (List.replicate 32 0))
theorem PadI.app {W wr w' : World} {u v' : Value} {xs ys : List Nat} {n : Nat} (h : PadI W wr u xs) (hown : w'.ownsRow (W.heap.size + 1) 5 1 v' n (u8s xs ++ u8s ys)) (hn : n = (xs ++ ys).length) (hg : wr.grownBy w' u.ownBlock) : PadI W w' v' (xs ++ ys) := by
  obtain ⟨h1, h2, h3⟩ := h
  subst hn
  refine ⟨by simpa using hown, h2.grown hg h2.size (fun k hk => by have := (h1.lt k hk).1; omega), h3.grown hg (fun e => ?_)⟩
  have := (h1.lt _ e.symm).1
  omega
theorem PadI.alloc {W wr : World} {u : Value} {xs : List Nat} (h : PadI W wr u xs) (o : Obj) : PadI W (wr.alloc o) u xs := ⟨h.1.alloc o, h.2.1.alloc h.2.1.size o, h.2.2.alloc o⟩
theorem pad0_bytes {bs : List Nat} (h : Sha.Bytes bs) (j : Nat) : Sha.Bytes (Sha.pad0 bs j) := by
  unfold Sha.pad0
  refine (h.append (fun b hb => ?_)).append (fun b hb => ?_)
  · simp at hb; omega
  · have := (List.mem_replicate.1 hb).2; omega
theorem be8_bytes (x : Nat) : Sha.Bytes (Sha.be8 x) := by
  intro b hb
  simp only [Sha.be8, List.mem_cons, List.not_mem_nil, or_false] at hb
  rcases hb with rfl | rfl | rfl | rfl | rfl | rfl | rfl | rfl <;> exact Nat.mod_lt _ (by decide)
theorem pad1_bytes {bs : List Nat} (h : Sha.Bytes bs) (j : Nat) : Sha.Bytes (Sha.pad1 bs j) := (pad0_bytes h _).append ((be8_bytes _).take j)
theorem blk_getD (M : List Nat) (k j : Nat) (hj : j < 64) : (Sha.blk M k).getD j 0 = M.getD (64 * k + j) 0 := by
  unfold Sha.blk
  simp [List.getD_eq_getElem?_getD, hj]
theorem blk_bytes {M : List Nat} (h : Sha.Bytes M) (k : Nat) : Sha.Bytes (Sha.blk M k) := (h.drop _).take _
/-- 'm[at+4*i : at+4*i+4]'. -/
theorem cut4 (gm len cap a i : Nat) (h : a + 4 * i + 4 ≤ cap) (W : World) :
    (Instr.slice 22 (.slice (some ⟨gm, 0, none⟩) len cap) (some (.int .i64 ((a : Int) + 4 * (i : Int)))) (some (.int .i64 ((a : Int) + 4 * (i : Int) + 4))) none).run Tryd.prog W = .ok (.slice (some ⟨gm, a + 4 * i, none⟩) 4 (cap - (a + 4 * i))) W := by
  have hu : Tryd.prog.underlying 22 = some (.slice (Tryd.prog.elem 22)) := by kernel_rfl
  have hz : ∀ W : World, (sizeOf (Tryd.prog.elem 22)).run Tryd.prog W = .ok 1 W := fun _ => by kernel_rfl
  rw [run_slice_lh W _ _ _ _ hu _ _ _ _ (by omega) (by omega) (by omega), hz]
  have e1 : ((a : Int) + 4 * (i : Int)).toNat = a + 4 * i := by omega
  have e2 : ((a : Int) + 4 * (i : Int) + 4).toNat = a + 4 * i + 4 := by omega
  simp only [Result.andThen, sliced, e1, e2]
  rw [if_neg (by omega)]
  simp [Addr.add]
  omega
/-- A byte of what is read, under a name of its own. -/
theorem rb_at {w wr : World} {gm : Nat} {M : List Nat} (h : Rb w (some ⟨gm, 0, none⟩) M) (hb : Below w.heap.size w wr) (j off : Nat) (hj : j < M.length) (ho : off = j) : ∃ c : Nat, Hid (M.getD j 0 = c) ∧ c < 256 ∧ wr.cell? ⟨gm, off, none⟩ = some (.int .u8 c) := by
  subst ho
  obtain ⟨ad, e, h1, h2⟩ := h.2 (by rintro rfl; simp at hj)
  cases e
  refine ⟨_, hide rfl, Sha.getD_lt _ h.1 (by decide) off, ?_⟩
  have e : (⟨gm, off, none⟩ : Addr) = (⟨gm, 0, none⟩ : Addr).add off := by unfold Addr.add; split <;> simp_all
  rw [hb.cell (p := ⟨gm, off, none⟩) h1, e]
  refine h2 off _ ?_
  rw [List.getD_eq_getElem?_getD, List.getElem?_eq_getElem hj]
  rfl

/-- What holds at the head of each block's round. -/
def RK (W : World) (gm gk gh : Nat) (M : List Nat) (wr : World) : Prop :=
  Has wr W.heap.size 24 (u8s (List.replicate 32 0)) ∧ Has wr gk 28 (u32s Sha.K) ∧ Rb wr (some ⟨gm, 0, none⟩) M ∧ Below W.heap.size W wr ∧ W.heap.size < gm ∧ gm < gk ∧ gk < gh ∧ gh < wr.heap.size
theorem RK.below {W wr w' : World} {gm gk gh : Nat} {M : List Nat} (h : RK W gm gk gh M wr) (hb : Below wr.heap.size wr w') : RK W gm gk gh M w' := by
  obtain ⟨h1, h2, h3, h4, h5, h6, h7, h8⟩ := h
  exact ⟨h1.below hb h1.lt, h2.below hb h2.lt, h3.below hb, h4.trans (hb.mono h4.size), h5, h6, h7, Nat.lt_of_lt_of_le h8 hb.size⟩
theorem RK.grown {W wr w' : World} {gm gk gh : Nat} {M : List Nat} (h : RK W gm gk gh M wr) (hb : wr.grownBy w' (some gh)) : RK W gm gk gh M w' := by
  obtain ⟨h1, h2, h3, h4, h5, h6, h7, h8⟩ := h
  exact ⟨h1.grown hb (by simp; omega), h2.grown hb (by simp; omega), h3.grown hb (fun ad e => by cases e; simp; omega), h4.trans (below_of_grown hb (by omega) h4.size), h5, h6, h7, Nat.lt_of_lt_of_le h8 hb.size⟩
/-- The eight words while a block is mixed in. -/
def V8 (B : Nat) (wr : World) (v : Value) (s : List Nat) : Prop := ∃ gv cap, v = .slice (some ⟨gv, 0, none⟩) 8 cap ∧ 8 ≤ cap ∧ B ≤ gv ∧ gv < wr.heap.size ∧ ∀ (j c : Nat), s[j]? = some c → wr.cell? ⟨gv, j, none⟩ = some (.int .u32 (c : Int))
theorem v8_words {wr : World} {gv : Nat} {s : List Nat} (h : ∀ (j c : Nat), s[j]? = some c → wr.cell? ⟨gv, j, none⟩ = some (.int .u32 (c : Int))) (hw : Sha.Words s) :
    ∃ s0 s1 s2 s3 s4 s5 s6 s7 : Nat, Hid (s = [s0, s1, s2, s3, s4, s5, s6, s7]) ∧ s0 < 4294967296 ∧ s1 < 4294967296 ∧ s2 < 4294967296 ∧ s3 < 4294967296 ∧ s4 < 4294967296 ∧ s5 < 4294967296 ∧ s6 < 4294967296 ∧ s7 < 4294967296 ∧
      wr.cell? ⟨gv, 0, none⟩ = some (.int .u32 s0) ∧ wr.cell? ⟨gv, 1, none⟩ = some (.int .u32 s1) ∧ wr.cell? ⟨gv, 2, none⟩ = some (.int .u32 s2) ∧ wr.cell? ⟨gv, 3, none⟩ = some (.int .u32 s3) ∧
      wr.cell? ⟨gv, 4, none⟩ = some (.int .u32 s4) ∧ wr.cell? ⟨gv, 5, none⟩ = some (.int .u32 s5) ∧ wr.cell? ⟨gv, 6, none⟩ = some (.int .u32 s6) ∧ wr.cell? ⟨gv, 7, none⟩ = some (.int .u32 s7) := by
  obtain ⟨s0, s1, s2, s3, s4, s5, s6, s7, rfl⟩ := Sha.eight s hw.1
  have hh := hw.2
  simp only [List.mem_cons, List.not_mem_nil, or_false, forall_eq_or_imp, forall_eq] at hh
  obtain ⟨a0, a1, a2, a3, a4, a5, a6, a7⟩ := hh
  exact ⟨s0, s1, s2, s3, s4, s5, s6, s7, rfl, a0, a1, a2, a3, a4, a5, a6, a7, h 0 _ rfl, h 1 _ rfl, h 2 _ rfl, h 3 _ rfl, h 4 _ rfl, h 5 _ rfl, h 6 _ rfl, h 7 _ rfl⟩
theorem Sched.drewN {w wr : World} {b : List Nat} {g0 k : Nat} (h : Sched w b g0 k wr) (n : Nat) : Sched w b g0 k (wr.drewN n) := ⟨h.1.drewN n, ⟨h.2.1.os, h.2.1.tape, h.2.1.output, h.2.1.size, h.2.1.block⟩, h.2.2⟩

theorem quiet_base {f : FuncId} {args : Array Value} {w : World} {m x : Nat} {v : Value} (h : Calls Tryd.prog f args (w.drewN (m + x)) fun e w' => e = .returned v ∧ w' = w.drewN (m + x)) :
    Calls Tryd.prog f args (w.drewN (m + x)) fun e w'' => e = .returned v ∧ ∃ n, w'' = w.drewN (m + n) := h.mono fun _ _ ⟨he, hm⟩ => ⟨he, x, hm⟩
theorem bytesOf_at (l : List Nat) (a r : Nat) (hr : r < 4) (ha : a < l.length) : (Sha.bytesOf l)[4 * a + r]? = (Sha.split4 (l.getD a 0))[r]? := by
  induction l generalizing a with
  | nil => simp at ha
  | cons x l ih =>
    cases a with
    | zero =>
      rw [Sha.bytesOf, List.getElem?_append_left (by rw [Sha.split4_length]; omega)]
      simp
    | succ a =>
      rw [Sha.bytesOf, List.getElem?_append_right (by rw [Sha.split4_length]; omega), Sha.split4_length, show 4 * (a + 1) + r - 4 = 4 * a + r by omega, ih a (by simpa using ha)]
      simp
/-- How far the answer is written. -/
def outB (st : List Nat) (i : Nat) : List Nat := (Sha.bytesOf st).take i ++ List.replicate (32 - i) 0
theorem outB_zero (st : List Nat) : outB st 0 = List.replicate 32 0 := by simp [outB]
theorem outB_all (st : List Nat) (h : st.length = 8) : outB st 32 = Sha.bytesOf st := by
  unfold outB
  rw [List.take_of_length_le (by rw [Sha.bytesOf_length, h]; decide)]
  simp
theorem outB_length (st : List Nat) (h : st.length = 8) (i : Nat) (hi : i ≤ 32) : (outB st i).length = 32 := by
  simp [outB, Sha.bytesOf_length, h]; omega
theorem outB_set (st : List Nat) (h : st.length = 8) (i a r x : Nat) (hi : i < 32) (hq : i = 4 * a + r) (hr : r < 4) (hx : st.getD a 0 = x) : (outB st i).set i (x / 2 ^ (24 - 8 * r) % 256) = outB st (i + 1) := by
  have e : List.replicate (32 - i) 0 = 0 :: List.replicate (32 - (i + 1)) 0 := by
    rw [show 32 - i = (32 - (i + 1)) + 1 by omega]; rfl
  have hb : (Sha.bytesOf st)[i]? = some (x / 2 ^ (24 - 8 * r) % 256) := by
    rw [hq, bytesOf_at st a r hr (by omega), hx]
    match r, hr with
    | 0, _ | 1, _ | 2, _ | 3, _ => simp [Sha.split4]
  have hl : (List.take i (Sha.bytesOf st)).length = i := by rw [List.length_take, Sha.bytesOf_length, h]; omega
  unfold outB
  rw [List.set_append_right _ _ (by rw [hl]; exact Nat.le_refl _), hl, Nat.sub_self, e, List.take_add_one, hb]
  simp
theorem info4 : ∃ i : TypeInfo, Tryd.prog.info? 28 = some i ∧ i.zero = some (.int .u32 0) ∧ i.size = 1 ∧ i.bytes = 4 := by
  obtain ⟨i, hi⟩ : ∃ i, Tryd.prog.info? 28 = some i := by
    refine Option.isSome_iff_exists.1 ?_
    kernel_rfl
  have h1 : (Tryd.prog.info? 28).bind (·.zero) = some (.int .u32 0) := by kernel_rfl
  have h2 : (Tryd.prog.info? 28).map (·.size) = some 1 := by kernel_rfl
  have h3 : (Tryd.prog.info? 28).map (·.bytes) = some 4 := by kernel_rfl
  rw [hi] at h1 h2 h3
  exact ⟨i, hi, by simpa using h1, by simpa using h2, by simpa using h3⟩
theorem und26 : Tryd.prog.underlying 26 = some (.slice 28) := by kernel_rfl

theorem Sched.second2 {w wr : World} {bs : List Nat} {g0 j a b c d : Nat} (h : Sched w bs g0 (j + 16) wr) (hlt : j < 48)
    (ea : Hid ((Sha.sched bs (j + 16)).getD j 0 = a)) (eb : Hid ((Sha.sched bs (j + 16)).getD (j + 1) 0 = b)) (ec : Hid ((Sha.sched bs (j + 16)).getD (j + 9) 0 = c)) (ed : Hid ((Sha.sched bs (j + 16)).getD (j + 14) 0 = d)) :
    Sched w bs g0 (j + 1 + 16) (wr.setCell ⟨g0, j + 16, none⟩ (.int .u32 (((a : Int) + (Sha.thin b 7 18 3 : Nat) + (c : Int) + (Sha.thin d 17 19 10 : Nat)) % 4294967296))).drew := by
  obtain ⟨h1, h2, h3⟩ := h
  refine ⟨?_, (Below.setCell h2 (by simp [h3]) _).drew, h3⟩
  have h4 := h1.set_ (j + 16) (.int .u32 ((Sha.next bs (Sha.sched bs (j + 16)) (j + 16) : Nat) : Int))
  rw [u32s_set, Sha.row_set _ _ (by omega)] at h4
  have e : Sha.next bs (Sha.sched bs (j + 16)) (j + 16) = (a + Sha.thin b 7 18 3 + c + Sha.thin d 17 19 10) % 4294967296 := by
    unfold Sha.next
    rw [if_neg (by omega), show j + 16 - 16 = j by omega, show j + 16 - 15 = j + 1 by omega, show j + 16 - 7 = j + 9 by omega, show j + 16 - 2 = j + 14 by omega, ea.out, eb.out, ec.out, ed.out]
  have e2 : ((a : Int) + (Sha.thin b 7 18 3 : Nat) + (c : Int) + (Sha.thin d 17 19 10 : Nat)) % 4294967296 = (((a + Sha.thin b 7 18 3 + c + Sha.thin d 17 19 10) % 4294967296 : Nat) : Int) := by
    omega
  rw [e, ← e2] at h4
  rw [show j + 1 + 16 = j + 16 + 1 by omega]
  exact h4
theorem rnd_next {B : Nat} {wo w5 : World} {ws st : List Nat} {m kk ww s0 s1 s2 s3 s4 s5 s6 s7 : Nat} (_hB : Below B wo w5) (hs : B ≤ w5.heap.size)
    (ek : Hid (Sha.K.getD m 0 = kk)) (ew : Hid (ws.getD m 0 = ww)) (es : Hid (Sha.rounds st ws m = [s0, s1, s2, s3, s4, s5, s6, s7])) :
    V8 B (w5.alloc (.cells #[.int .u32 (((s7 : Int) + (Sha.stir s4 6 11 25 : Nat) + (Sha.choice s4 s5 s6 : Nat) + (kk : Int) + (ww : Int) + (Sha.stir s0 2 13 22 : Nat) + (Sha.most s0 s1 s2 : Nat)) % 4294967296),
      .int .u32 (s0 : Int), .int .u32 (s1 : Int), .int .u32 (s2 : Int), .int .u32 (((s3 : Int) + ((s7 : Int) + (Sha.stir s4 6 11 25 : Nat) + (Sha.choice s4 s5 s6 : Nat) + (kk : Int) + (ww : Int))) % 4294967296),
      .int .u32 (s4 : Int), .int .u32 (s5 : Int), .int .u32 (s6 : Int)] 28)).drew (.slice (some ⟨w5.heap.size, 0, none⟩) 8 8) (Sha.rounds st ws (m + 1)) := by
  have e : Sha.rounds st ws (m + 1) = [(Sha.tee s4 s5 s6 s7 kk ww + Sha.you s0 s1 s2) % 4294967296, s0, s1, s2, (s3 + Sha.tee s4 s5 s6 s7 kk ww) % 4294967296, s4, s5, s6] := by
    rw [Sha.rounds, es.out, ek.out, ew.out]
    rfl
  have e0 : (((s7 : Int) + (Sha.stir s4 6 11 25 : Nat) + (Sha.choice s4 s5 s6 : Nat) + (kk : Int) + (ww : Int) + (Sha.stir s0 2 13 22 : Nat) + (Sha.most s0 s1 s2 : Nat)) % 4294967296) = (((Sha.tee s4 s5 s6 s7 kk ww + Sha.you s0 s1 s2) % 4294967296 : Nat) : Int) := by
    unfold Sha.tee Sha.you
    omega
  have e4 : (((s3 : Int) + ((s7 : Int) + (Sha.stir s4 6 11 25 : Nat) + (Sha.choice s4 s5 s6 : Nat) + (kk : Int) + (ww : Int))) % 4294967296) = (((s3 + Sha.tee s4 s5 s6 s7 kk ww) % 4294967296 : Nat) : Int) := by
    unfold Sha.tee
    omega
  rw [e0, e4, e]
  refine ⟨_, 8, rfl, Nat.le_refl _, hs, by simp, fun j c hj => ?_⟩
  have h : Has (w5.alloc (.cells (u32s [(Sha.tee s4 s5 s6 s7 kk ww + Sha.you s0 s1 s2) % 4294967296, s0, s1, s2, (s3 + Sha.tee s4 s5 s6 s7 kk ww) % 4294967296, s4, s5, s6]).toArray 28)) w5.heap.size 28 (u32s [(Sha.tee s4 s5 s6 s7 kk ww + Sha.you s0 s1 s2) % 4294967296, s0, s1, s2, (s3 + Sha.tee s4 s5 s6 s7 kk ww) % 4294967296, s4, s5, s6]) := Has.new _ _ _
  refine (h.cell j).trans ?_
  rw [List.getElem?_map, hj]
  rfl
theorem add_next {wr : World} {gh i a b : Nat} {st s : List Nat} (h : Has wr gh 28 (u32s (Sha.addTo st s i))) (hi : i < 8) (h1 : st.length = 8) (h2 : s.length = 8) (ea : Hid (st.getD i 0 = a)) (eb : Hid (s.getD i 0 = b)) :
    Has (wr.setCell ⟨gh, i, none⟩ (.int .u32 (((a : Int) + (b : Int)) % 4294967296))).drew gh 28 (u32s (Sha.addTo st s (i + 1))) := by
  have e : (((a : Int) + (b : Int)) % 4294967296) = (((a + b) % 4294967296 : Nat) : Int) := by omega
  rw [e]
  have h3 := h.set_ i (.int .u32 (((a + b) % 4294967296 : Nat) : Int))
  rw [u32s_set, ← ea.out, ← eb.out, Sha.addTo_set _ _ h1 h2 _ hi] at h3
  rw [← ea.out, ← eb.out]
  exact h3

/-- The loops' bodies of a code, as they stand. -/
def allLoops : Code → List Code
  | .loop c => c :: allLoops c
  | .seq a b => allLoops a ++ allLoops b
  | .block _ c => allLoops c
  | .scope c => allLoops c
  | .cond _ a b => allLoops a ++ allLoops b
  | _ => []
noncomputable def bodyN (n : Nat) : Code := ((Tryd.f13.body.map allLoops).getD []).getD n .skip
noncomputable def body4 : Code := bodyN 3
noncomputable def body5 : Code := bodyN 4
noncomputable def body6 : Code := bodyN 5
noncomputable def body7 : Code := bodyN 6
end Go.Proofs.YtijgomgiinlcoaaDoor
