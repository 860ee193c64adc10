/-
  shape.Steps, walked. By an AI agent. No person has read it.
-/
import Derived.Test.YtnbjcdmiehnceaaDoorShpA
import Derived.Test.YtnbjcdmiehnceaaDoorShpR
namespace Go.Proofs.YtnbjcdmiehnceaaDoor
open Go.RowKit Go.Shelf

attribute [local go_sem] Oper.semAt_some

/-- How far neighbours are apart. -/
def Shp.steps : List Int → List Int
  | [] => []
  | _ :: zs => Shp.prod zs :: Shp.steps zs
theorem Shp.steps_length (zs : List Int) : (Shp.steps zs).length = zs.length := by
  induction zs with
  | nil => rfl
  | cons z zs ih => rw [Shp.steps, List.length_cons, ih, List.length_cons]
theorem Shp.steps_drop (zs : List Int) : ∀ j, (Shp.steps zs).drop j = Shp.steps (zs.drop j) := by
  induction zs with
  | nil => intro j; simp [Shp.steps]
  | cons z zs ih =>
    intro j
    cases j with
    | zero => rfl
    | succ j => rw [Shp.steps, List.drop_succ_cons, List.drop_succ_cons, ih]
/-- The row of steps, its last r left. -/
def Shp.stepRow (zs : List Int) (r : Nat) : List Int := List.replicate r 0 ++ Shp.steps (zs.drop r)
theorem Shp.stepRow_set (zs : List Int) (r : Nat) (h : r < zs.length) : (i64s (Shp.stepRow zs (r + 1))).set r (.int .i64 (Shp.prod (zs.drop (r + 1)))) = i64s (Shp.stepRow zs r) := by
  rw [show (Value.int .i64 (Shp.prod (zs.drop (r + 1)))) = (fun z => Value.int .i64 z) (Shp.prod (zs.drop (r + 1))) from rfl, ← List.map_set]
  congr 1
  unfold Shp.stepRow
  rw [List.replicate_succ', List.append_assoc, List.set_append_right _ _ (by simp), List.length_replicate, Nat.sub_self, List.drop_eq_getElem_cons h, Shp.steps]
  rfl
/-- What the loop makes of what has come: the row, and the step. -/
def Shp.fold (n : Nat) (pre : List (Nat × Int)) : List Int × Int := pre.foldl (fun s x => (s.1.set x.1 s.2, wrap64 (s.2 * x.2))) (List.replicate n 0, 1)
theorem Shp.fold_snoc (n : Nat) (pre : List (Nat × Int)) (x : Nat × Int) : Shp.fold n (pre ++ [x]) = ((Shp.fold n pre).1.set x.1 (Shp.fold n pre).2, wrap64 ((Shp.fold n pre).2 * x.2)) := by
  unfold Shp.fold
  rw [List.foldl_append]
  rfl
theorem Shp.fold_len (pre : List (Nat × Int)) : ∀ s : List Int × Int, (pre.foldl (fun s x => (s.1.set x.1 s.2, wrap64 (s.2 * x.2))) s).1.length = s.1.length := by
  induction pre with
  | nil => intro s; rfl
  | cons x pre ih => intro s; rw [List.foldl_cons, ih, List.length_set]
theorem Shp.fold_length (n : Nat) (pre : List (Nat × Int)) : (Shp.fold n pre).1.length = n := by
  unfold Shp.fold
  rw [Shp.fold_len, List.length_replicate]
theorem has_own {β : Type} (G : Nat) (t : TypeId) (f : β → List Value) : Own (fun s W => Has W G t (f s)) := fun s W W' row hs hg hr => hs.grown hg fun e => by
  obtain ⟨o, ho, hc⟩ := hr G e.symm
  have hs' : W.heap[G]? = some (.cells (f s).toArray t (0, 0)) := hs
  rw [hs'] at ho
  cases ho
  cases hc
theorem box_own {β : Type} (G : Nat) (t : TypeId) (f : β → Value) : Own (fun s W => Boxed W G t (f s)) := fun s W W' row hs hg hr => hs.kept hg fun e => by
  obtain ⟨o, ho, hc⟩ := hr G e.symm
  have hs' : W.heap[G]? = some (.cells #[f s] t (0, 0)) := hs
  rw [hs'] at ho
  cases ho
  cases hc
theorem Shp.fold_upto (zs : List Int) (hok : Shp.ok zs = true) : ∀ k, k ≤ zs.length → Shp.fold zs.length (Rf.upto (Rf.back zs) k) = (Shp.stepRow zs (zs.length - k), Shp.prod (zs.drop (zs.length - k)))
  | 0, _ => by
    unfold Shp.stepRow
    rw [Nat.sub_zero, List.drop_eq_nil_of_le (Nat.le_refl _)]
    simp [Rf.upto, Shp.fold, Shp.steps, Shp.prod]
  | k + 1, hk => by
    have ih := Shp.fold_upto zs hok k (by omega)
    have hj : zs.length - (k + 1) < zs.length := by omega
    have e1 : zs.length - k = (zs.length - (k + 1)) + 1 := by omega
    rw [Rf.upto_succ, Shp.fold_snoc, ih]
    have hb : Rf.back zs k = (zs.length - (k + 1), zs[zs.length - (k + 1)]) := by
      unfold Rf.back
      rw [show zs.length - 1 - k = zs.length - (k + 1) by omega, List.getElem?_eq_getElem hj]
      rfl
    rw [hb, e1]
    have hd := List.drop_eq_getElem_cons hj
    have hp : Shp.prod (zs.drop (zs.length - (k + 1))) = zs[zs.length - (k + 1)] * Shp.prod (zs.drop (zs.length - (k + 1) + 1)) := by
      rw [hd, Shp.prod]
    have hall : (zs.drop (zs.length - (k + 1))).all Shp.okDim = true := by
      have := ((Shp.ok_iff zs).1 hok).2.1
      rw [List.all_eq_true] at this ⊢
      exact fun x hx => this x (List.mem_of_mem_drop hx)
    have hq := Shp.prod_pos _ hall
    have hq2 := Shp.pow_le (zs.drop (zs.length - (k + 1))).length (by have := ((Shp.ok_iff zs).1 hok).1; rw [List.length_drop]; omega)
    refine Prod.ext ?_ ?_
    · have := Shp.stepRow_set zs (zs.length - (k + 1)) hj
      rw [show (Value.int .i64 (Shp.prod (zs.drop (zs.length - (k + 1) + 1)))) = (fun z => Value.int .i64 z) (Shp.prod (zs.drop (zs.length - (k + 1) + 1))) from rfl, ← List.map_set] at this
      exact (List.map_inj_right (fun a b h => by injection h)).1 this
    · show wrap64 (Shp.prod (zs.drop (zs.length - (k + 1) + 1)) * zs[zs.length - (k + 1)]) = _
      rw [Int.mul_comm, ← hp]
      unfold wrap64
      omega
set_option maxRecDepth 100000 in
set_option maxHeartbeats 2000000 in
theorem steps_c (zs : List Int) (P : Option Addr) (cap : Nat) (am ar : Addr) (w : World) (hr : Ri w P zs) (hm : zs.length ≤ 9223372036854775807) (hE : E2 w am ar) (hok : Shp.ok zs = true) :
    Calls Tryd.prog 25 #[.slice P zs.length cap] w fun e w' => (∃ g, e = .returned (.slice (some ⟨g, 0, none⟩) zs.length zs.length) ∧ w.heap.size ≤ g ∧ Has w' g 3 (i64s (Shp.steps zs))) ∧ Below w.heap.size w w' := by
  have HV := hide (isvalid_c zs P cap am ar w hr hm hE)
  rw [hok] at HV
  have h4 := ((Shp.ok_iff zs).1 hok).1
  obtain ⟨n, hn⟩ : ∃ n, Hid (zs.length = n) := ⟨_, hide rfl⟩
  rw [hn.out] at HV hm h4 ⊢
  have HA := hide hr
  clear hr hE
  obtain ⟨Z, hZ, hmk⟩ := made_ints n (by omega)
  refine (callsIn_wide (n := 6)).1 ?_
  refine callsIn_of_wp_marks Tryd.func25 rfl trivial ?_ rfl
  simp only [Tryd.ntmps25, List.size_toArray, List.length_cons, List.length_nil, Nat.reduceAdd, Nat.reduceSub, Array.replicate_succ, Array.replicate_zero, List.push_toArray, List.append_toArray, List.nil_append, List.cons_append]
  have : Fence.wide.fn 66 := trivial
  have : Fence.wide.fn 67 := trivial
  gi_wp2_with (gi_at_call 66; refine (callsIn_wide.2 HV.out).mono ?_; rintro e w1 ⟨rfl, hb1⟩)
  refine (back_in Fence.wide 5 trivial rfl _ _ _ _).mono ?_
  rintro e w' ⟨rfl, rfl⟩
  have hR : Has (w1.alloc (.cells Z 3)) w1.heap.size 3 (i64s (List.replicate n 0)) := by
    rw [hZ.out]
    exact Has.new w1 _ _
  have bS := Boxed.new (w1.alloc (.cells Z 3)) 22 (.slice (some ⟨w1.heap.size, 0, none⟩) n n)
  have bT := Boxed.new ((w1.alloc (.cells Z 3)).alloc (.cells #[.slice (some ⟨w1.heap.size, 0, none⟩) n n] 22)) 3 (.int .i64 1)
  have bN := Boxed.new (((w1.alloc (.cells Z 3)).alloc (.cells #[.slice (some ⟨w1.heap.size, 0, none⟩) n n] 22)).alloc (.cells #[.int .i64 1] 3)) 22 (.slice P n cap)
  gi_wp2
  have hB0 : Below w1.heap.size w1 ((((w1.alloc (.cells Z 3)).alloc (.cells #[.slice (some ⟨w1.heap.size, 0, none⟩) n n] 22)).alloc (.cells #[.int .i64 1] 3)).alloc (.cells #[.slice P n cap] 22)) :=
    ((((Below.refl _ w1).alloc (Nat.le_refl _) _).alloc (by simp) _).alloc (by simp; omega) _).alloc (by simp; omega) _
  have hIn := (HA.out.below hb1).ints.below hB0
  refine wpIn_rangeFunc_ownG (F := Fence.wide) rfl (by decide) (gf := 92) (lb := #[.pointer (some ⟨w1.heap.size + 1 + 1 + 1, 0, none⟩)]) rfl trivial (enters_of Tryd.func92 (by kernel_rfl) rfl)
    (back_stops Fence.wide 5 trivial rfl (by decide) (w1.heap.size + 1 + 1 + 1) w1.heap.size n cap P zs hn (by omega) _ (by simp) (by simp; omega) (by simpa using bN.cell) hIn) (fun h k => h.trans k) (Rf.kb_b (by simp; omega) (by simp)) (Below.refl _ _) (fun _ => rfl)
    (fun pre W => (Has W w1.heap.size 3 (i64s (Shp.fold n (pre.map (·.1))).1) ∧ Boxed W (w1.heap.size + 1) 22 (.slice (some ⟨w1.heap.size, 0, none⟩) n n) ∧ Boxed W (w1.heap.size + 1 + 1) 3 (.int .i64 (Shp.fold n (pre.map (·.1))).2)) ∧ Below w1.heap.size w1 W)
    (fun _ _ _ => False)
    (OwnFrom.and (Own.from (fun s A B row hs hg hr => ⟨has_own _ _ (fun pre : List (Rf.Pair zs) => i64s (Shp.fold n (pre.map (·.1))).1) s A B row hs.1 hg hr, box_own _ _ (fun _ : List (Rf.Pair zs) => Value.slice (some ⟨w1.heap.size, 0, none⟩) n n) s A B row hs.2.1 hg hr, box_own _ _ (fun pre : List (Rf.Pair zs) => Value.int .i64 (Shp.fold n (pre.map (·.1))).2) s A B row hs.2.2 hg hr⟩) _) (ownFrom_below (Nat.le_refl _) (by simp; omega)))
    (fun _ _ _ _ _ hs _ _ => hs)
    ⟨⟨((hR.alloc _).alloc _).alloc _, by simpa using (bS.alloc _).alloc _, by simpa [Shp.fold] using bT.alloc _⟩, hB0⟩
    (fun x => { tmps := #[.slice P n cap, undef, .slice none 0 0, .pointer (some ⟨w1.heap.size + 1, 0, none⟩), .pointer (some ⟨w1.heap.size + 1 + 1, 0, none⟩), .int .i64 (x.1.1 : Int), .int .i64 x.1.2, .slice P n cap, .bool true, .bool false, .slice P n cap, .int .i64 n, .slice (some ⟨w1.heap.size, 0, none⟩) n n, .slice P n cap, .func (.func 92) #[] #[.pointer (some ⟨w1.heap.size + 1 + 1 + 1, 0, none⟩)], .int .i64 (x.1.1 : Int), .int .i64 x.1.2, undef, undef, undef, undef, undef, undef, undef, undef], defers := [] }) ?assign ?body ?done ?stop
  case assign =>
    intro l x W K hK
    gi_wp2
    exact hK
  case body =>
    rintro l pre ⟨⟨j, z⟩, hx⟩ W ⟨⟨hRw, hSw, hTw⟩, hB⟩ _
    have hj : j < n := by
      have h := (List.getElem?_eq_some_iff.1 hx).1
      rw [hn.out] at h
      exact h
    have hji : (j : Int) < n := by omega
    have hlen := Shp.fold_length n (pre.map (·.1))
    obtain ⟨L, hL⟩ : ∃ L, (Shp.fold n (pre.map (·.1))).1 = L := ⟨_, rfl⟩
    obtain ⟨S, hS⟩ : ∃ S, (Shp.fold n (pre.map (·.1))).2 = S := ⟨_, rfl⟩
    rw [hL] at hRw hlen
    rw [hS] at hTw
    obtain ⟨u, hu⟩ : ∃ u, L[j]? = some u := ⟨_, List.getElem?_eq_getElem (by omega)⟩
    have c1 := hSw.cell
    have c2 := hTw.cell
    have c3 : W.cell? ⟨w1.heap.size, j, none⟩ = some (.int .i64 u) := by rw [hRw.cell, List.getElem?_map, hu]; rfl
    have f2 := hTw.frozen
    have f3 := hRw.frozen j
    gi_wp2
    have e : Shp.fold n ((pre ++ [(⟨(j, z), hx⟩ : Rf.Pair zs)]).map (·.1)) = (L.set j S, wrap64 (S * z)) := by
      rw [List.map_append, List.map_cons, List.map_nil, Shp.fold_snoc, hL, hS]
    have h1 : Has (W.setCell ⟨w1.heap.size, j, none⟩ (.int .i64 S)) w1.heap.size 3 (i64s (L.set j S)) := by
      have h := hRw.set_ j (.int .i64 S)
      rw [show (Value.int .i64 S) = (fun z => Value.int .i64 z) S from rfl, ← List.map_set] at h
      exact h
    have h2 : Boxed (W.setCell ⟨w1.heap.size, j, none⟩ (.int .i64 S)) (w1.heap.size + 1) 22 (.slice (some ⟨w1.heap.size, 0, none⟩) n n) := (Below.heap_setCell W ⟨w1.heap.size, j, none⟩ _ (w1.heap.size + 1) (by simp)).trans hSw
    have h3 : Boxed (W.setCell ⟨w1.heap.size, j, none⟩ (.int .i64 S)) (w1.heap.size + 1 + 1) 3 (.int .i64 S) := (Below.heap_setCell W ⟨w1.heap.size, j, none⟩ _ (w1.heap.size + 1 + 1) (by simp; omega)).trans hTw
    refine ⟨((KeepsOthers.setCell _ _ _).trans (KeepsOthers.setCell _ _ _)).from _, ⟨((Below.refl w1.heap.size W).setCell (p := ⟨w1.heap.size, j, none⟩) (Nat.le_refl _) _).setCell (p := ⟨w1.heap.size + 1 + 1, 0, none⟩) (by simp; omega) _, ?_⟩, ⟨?_, ?_, ?_⟩, (hB.setCell (p := ⟨w1.heap.size, j, none⟩) (Nat.le_refl _) _).setCell (p := ⟨w1.heap.size + 1 + 1, 0, none⟩) (by simp; omega) _⟩
    · exact (Below.heap_setCell _ ⟨w1.heap.size + 1 + 1, 0, none⟩ _ (w1.heap.size + 1 + 1 + 1) (by simp)).trans (Below.heap_setCell W ⟨w1.heap.size, j, none⟩ _ (w1.heap.size + 1 + 1 + 1) (by simp; omega))
    · rw [e]
      exact h1.far (p := ⟨w1.heap.size + 1 + 1, 0, none⟩) (by show ¬ w1.heap.size = w1.heap.size + 1 + 1; omega) _
    · exact h2.other (by omega) _
    · rw [e]
      exact h3.set _
  case done =>
    rintro D ys W hD hys ⟨⟨hRw, hSw, hTw⟩, hB⟩ hK
    have hf : Shp.fold n (ys.map (·.1)) = (Shp.steps zs, Shp.prod zs) := by
      have h := Shp.fold_upto zs hok n (by rw [hn.out]; exact Nat.le_refl _)
      rw [hn.out, Nat.sub_self] at h
      rw [show ys.map (·.1) = Rf.upto (Rf.back zs) n from hys, h]
      rfl
    rw [hf] at hRw
    have c1 := hSw.cell
    gi_wp2
    refine ⟨by simp, .inl ⟨_, _, rfl, run_takeDeferred hK, ?_⟩⟩
    have hDs : w1.heap.size < D := by simp at hD; omega
    refine ⟨_, results_tmp rfl _ _ _, ⟨w1.heap.size, rfl, hb1.size, ?_⟩, hb1.trans ((hB.trans (belowK_b (w := w1) (Nat.le_refl _) W D _ _ (by omega) hK rfl rfl)).mono hb1.size)⟩
    exact (World.putObj_heap_other (by omega)).trans hRw
  case stop =>
    rintro D c pre W _ _ h _
    exact h.elim
end Go.Proofs.YtnbjcdmiehnceaaDoor
