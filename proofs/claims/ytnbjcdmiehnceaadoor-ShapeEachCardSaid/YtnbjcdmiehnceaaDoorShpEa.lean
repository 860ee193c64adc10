/-
  A range over shape.Each: what the iterator is asked for, and the law of the loop whose body reads and writes the place that it is handed. By an AI agent. No person has read it.
-/
import Derived.Test.YtnbjcdmiehnceaaDoorShpV
import Derived.Test.YtnbjcdmiehnceaaDoorBasE
namespace Go.Proofs.YtnbjcdmiehnceaaDoor
open Go.RowKit Go.Shelf

attribute [local go_sem] Oper.semAt_some

/-- Ints that lie at a block's begin. -/
structure Each.At (W : World) (A : Option Addr) (G : Nat) (zs : List Int) : Prop where
  wf : ∀ z ∈ zs, (Lit.int .i64 z).wf = true
  at_ : zs ≠ [] → A = some ⟨G, 0, none⟩ ∧ ∃ rest, Has W G 3 (i64s zs ++ rest)
theorem Each.At.ri {W : World} {A : Option Addr} {G : Nat} {zs : List Int} (h : Each.At W A G zs) : Ri W A zs := by
  by_cases hz : zs = []
  · subst hz; exact Ri.nil _ _
  · obtain ⟨rfl, rest, hH⟩ := h.at_ hz
    exact hH.ri_app h.wf
theorem Each.At.same {W W' : World} {A : Option Addr} {G : Nat} {zs : List Int} (h : Each.At W A G zs) (hs : W'.heap[G]? = W.heap[G]?) : Each.At W' A G zs :=
  ⟨h.wf, fun hz => ⟨(h.at_ hz).1, by obtain ⟨rest, hH⟩ := (h.at_ hz).2; exact ⟨rest, hs.trans hH⟩⟩⟩
/-- What a round keeps: all that lay when the law began, the iterator's box, its row. -/
structure Each.Keeps (m B G : Nat) (W W' : World) : Prop where
  low : Below m W W'
  box : W'.heap[B]? = W.heap[B]?
  row : W'.heap[G]? = W.heap[G]?
theorem Each.Keeps.refl (m B G : Nat) (W : World) : Each.Keeps m B G W W := ⟨Below.refl _ _, rfl, rfl⟩
theorem Each.Keeps.trans {m B G : Nat} {X Y Z : World} (h : Each.Keeps m B G X Y) (k : Each.Keeps m B G Y Z) : Each.Keeps m B G X Z := ⟨h.low.trans k.low, k.box.trans h.box, k.row.trans h.row⟩
theorem Each.Keeps.of {m B G : Nat} {W W' : World} (h : Below W.heap.size W W') (hm : m ≤ W.heap.size) (hB : B < W.heap.size) (hG : G < W.heap.size) : Each.Keeps m B G W W' := ⟨h.mono hm, h.block B hB, h.block G hG⟩
theorem grown_of {W W' : World} (h : Below W.heap.size W W') : W.grownBy W' none := ⟨h.os, h.tape, h.output, h.size, fun k hk _ => h.block k hk⟩
/-- What a round asks of yield, and what it gives back. -/
abbrev Each.Yields (k E m B G : Nat) (f : Nat → List Int) (l h : Nat) (J Jx : Nat → World → Prop) : Prop :=
  ∀ i b W, i < E → J i W → h ≤ b → Has W b 3 (i64s (f i)) → YieldAt Fence.wide (k - 1) Tryd.prog l #[.int .i64 (i : Int), .slice (some ⟨b, 0, none⟩) (f i).length (f i).length] W fun e W' =>
    (e = .returned (.bool true) ∧ J (i + 1) W' ∧ Each.Keeps m B G W W') ∨ (e = .returned (.bool false) ∧ Jx (i + 1) W')
/-- The iterator: in turn, each where it is, until a round has said no more. -/
def Each.Runs (k E m B G g : Nat) (f : Nat → List Int) (w : World) : Prop :=
  ∀ (l : Nat) (J Jx : Nat → World → Prop) (W : World), Below w.heap.size w W → AbidesFrom W.heap.size J → AbidesFrom W.heap.size Jx → Each.Yields k E m B G f l W.heap.size J Jx → J 0 W →
    CallsIn Fence.wide k Tryd.prog g (#[.func (.yield l) #[] #[]] ++ #[.pointer (some ⟨B, 0, none⟩)]) W fun e W' => (∃ v, e = .returned v) ∧ (J E W' ∨ ∃ i, i ≤ E ∧ Jx i W')
/-- How the body of a round may be left. -/
def Each.Post (m B G : Nat) (I : Nat → World → Prop) (Ix : Code → Nat → World → Prop) (i : Nat) (W : World) : Exit → Act → World → Prop
  | .normal, _, W' => KeepsOthers W W' ∧ Each.Keeps m B G W W' ∧ I i W'
  | .ret, _, W' => KeepsOthers W W' ∧ Ix .ret i W'
  | .exit c, _, W' => KeepsOthers W W' ∧ Ix (.exit c) i W'
  | .goto c, _, W' => KeepsOthers W W' ∧ Ix (.goto c) i W'
  | .panic _, _, _ => False
  | .outgrown, _, _ => False
theorem Each.Keeps.put {m B G : Nat} {W : World} {l : Nat} {o : Obj} (o' : Obj) (hl : W.heap[l]? = some o) (hm : m ≤ l) (hB : B ≠ l) (hG : G ≠ l) : Each.Keeps m B G W (W.putObj l o') :=
  ⟨(Below.refl m W).grown (grownBy_putObj' W l o') (by have := (Array.getElem?_eq_some_iff.1 hl).1; omega) (fun k e => by cases e; omega), World.putObj_heap_other hB, World.putObj_heap_other hG⟩
theorem has_put {W : World} {b l : Nat} {t : TypeId} {cs : List Value} {r : Loop} (o' : Obj) (h : Has W b t cs) (hl : W.heap[l]? = some (.loop r)) : Has (W.putObj l o') b t cs := by
  refine (World.putObj_heap_other ?_).trans h
  rintro rfl
  have h' : W.heap[b]? = _ := h
  rw [hl] at h'
  cases h'
/-- The law of such a loop. -/
theorem each_range {k E m B G gf : Nat} {f : Nat → List Int} {g : Operand} {ps : Array Tmp} {assign body : Code} {Q : Exit → Act → World → Prop} {a : Act} {w : World}
    (h1 : 1 ≤ k) (hg : a.eval g = .func (.func gf) #[] #[.pointer (some ⟨B, 0, none⟩)]) (eg : ∀ args w, (callFunc gf args).run Tryd.prog w = .ok (.enter gf args) w) (hps : ps.size = 2)
    (hit : Each.Runs (k - 1) E m B G gf f w) (hm : m ≤ w.heap.size) (hB : B < w.heap.size) (hG : G < w.heap.size)
    (I : Nat → World → Prop) (Ix : Code → Nat → World → Prop) (hI : OwnFrom w.heap.size I) (hIx : ∀ c, OwnFrom w.heap.size (Ix c)) (h0 : I 0 w) (a₁ : Nat → Nat → Act)
    (hassign : ∀ (l i b : Nat) (W : World) (K : Act → World → Prop), K (a₁ i b) W →
      assign.wpIn (Fence.wide.inRound l) (k - 1 - 1) Tryd.prog (Exit.then K (fun _ _ _ => False)) { tmps := (ps.zip #[.int .i64 (i : Int), .slice (some ⟨b, 0, none⟩) (f i).length (f i).length]).foldl (fun t (p, v) => t.setIfInBounds p v) a.tmps, defers := [] } W)
    (hbody : ∀ (l i b : Nat) (W : World), i < E → I i W → w.heap.size ≤ b → Has W b 3 (i64s (f i)) → body.wpIn (Fence.wide.inRound l) (k - 1 - 1) Tryd.prog (Each.Post m B G I Ix (i + 1) W) (a₁ i b) W)
    (hdone : ∀ (D : Nat) (W : World), w.heap.size ≤ D → I E W → W.heap[D]? = some (.deferred (some [])) → Q .normal { a with defers := { target := .collected D, args := #[] } :: a.defers } W)
    (hstop : ∀ (D : Nat) (c : Code) (i : Nat) (W : World), w.heap.size ≤ D → i ≤ E → Ix c i W → W.heap[D]? = some (.deferred (some [])) → c.wpIn Fence.wide k Tryd.prog Q { a with defers := { target := .collected D, args := #[] } :: a.defers } W) :
    (Code.rangeFunc g ps assign body).wpIn Fence.wide k Tryd.prog Q a w := by
  refine wpIn_rangeFunc fun fn hfn => ?_
  obtain ⟨D, hD⟩ : ∃ D, D = w.heap.size := ⟨_, rfl⟩
  obtain ⟨l, hl⟩ : ∃ l, l = D + 1 := ⟨_, rfl⟩
  obtain ⟨rec, hrec⟩ : ∃ rec : LoopState → Option Code → Loop, rec = fun s p => { state := s, pending := p, fn, tmps := a.tmps, params := ps, assign, body, defers := w.heap.size } := ⟨_, rfl⟩
  -- the two blocks that the statement lays
  obtain ⟨V, hV⟩ : ∃ V, V = (w.alloc (.deferred (some []))).alloc (.loop (rec .ready none)) := ⟨_, rfl⟩
  have hVd : V.heap[D]? = some (.deferred (some [])) := by
    rw [hV, hD]; exact (Below.heap_alloc _ _ _ (by simp)).trans (World.alloc_heap_new w _)
  have hVl : V.heap[l]? = some (.loop (rec .ready none)) := by
    have h := World.alloc_heap_new (w.alloc (.deferred (some []))) (.loop (rec .ready none))
    rw [World.size_alloc] at h
    rw [hV, hl, hD]; exact h
  have hVb : Below w.heap.size w V := by rw [hV]; exact ((Below.refl _ w).alloc (Nat.le_refl _) _).alloc (by simp) _
  have hVs : w.heap.size ≤ V.heap.size := hVb.size
  have hI0 : I 0 V := by rw [hV]; exact hI.alloc _ (hI.alloc _ h0)
  refine ⟨l, [{ target := .collected D, args := #[] }], V, { target := .fn (.func gf) #[.pointer (some ⟨B, 0, none⟩)], args := #[.func (.yield l) #[] #[]] }, V, gf, #[.func (.yield l) #[] #[]] ++ #[.pointer (some ⟨B, 0, none⟩)], V, ?_, ?_, fun _ _ => trivial, ?_, fun _ => h1, ?_⟩
  · rw [hV, hl, hrec, hD]; exact run_enterLoop_outer _ _ _ _ _
  · simp only [resolve, hg]
    simp [go_sem]
  · simp [invoke, go_sem, eg]
  -- the record and the deferred calls' block stand by what the iterator does of its own
  have stands : ∀ {X Y : World} {row : Option Nat} {o : Obj} {j : Nat}, X.grownBy Y row → (∀ r, row = some r → V.heap.size ≤ r ∧ ∃ o : Obj, X.heap[r]? = some o ∧ o.isWalk = true) → j < V.heap.size → X.heap[j]? = some o → Y.heap[j]? = some o := by
    intro X Y row o j hg hr hj ho
    refine (hg.block j (Array.getElem?_eq_some_iff.1 ho).1 (fun e => ?_)).trans ho
    have := (hr j e.symm).1
    omega
  have own : ∀ {X : World} {row : Option Nat}, (∀ r, row = some r → V.heap.size ≤ r ∧ ∃ o : Obj, X.heap[r]? = some o ∧ o.isWalk = true) → (∀ r, row = some r → w.heap.size ≤ r ∧ ∃ o : Obj, X.heap[r]? = some o ∧ o.isCells = false) := by
    intro X row hr r e
    obtain ⟨h, o, ho, hw⟩ := hr r e
    exact ⟨by omega, o, ho, Obj.not_cells_of_walk hw⟩
  have hDl : D < V.heap.size := (Array.getElem?_eq_some_iff.1 hVd).1
  have hll : l < V.heap.size := (Array.getElem?_eq_some_iff.1 hVl).1
  refine (hit l (fun i W => I i W ∧ W.heap[l]? = some (.loop (rec .ready none)) ∧ W.heap[D]? = some (.deferred (some [])))
    (fun i W => ∃ c, Ix c i W ∧ W.heap[l]? = some (.loop (rec .done (some c))) ∧ W.heap[D]? = some (.deferred (some []))) V hVb
    (fun i X Y row hs hgr hr => ⟨hI i X Y row hs.1 hgr (own hr), stands hgr hr hll hs.2.1, stands hgr hr hDl hs.2.2⟩)
    (fun i X Y row hs hgr hr => by
      obtain ⟨c, h2, h3, h4⟩ := hs
      exact ⟨c, hIx c i X Y row h2 hgr (own hr), stands hgr hr hll h3, stands hgr hr hDl h4⟩)
    ?_ ⟨hI0, hVl, hVd⟩).mono ?_
  · rintro i b W hi ⟨hi0, hr, hd⟩ hb hrow
    have hy := run_yield (P := Tryd.prog) (args := #[.int .i64 (i : Int), .slice (some ⟨b, 0, none⟩) (f i).length (f i).length]) hr (by rw [hrec]; exact hps.symm)
    rw [hrec] at hy
    have hlt : l < W.heap.size := (Array.getElem?_eq_some_iff.1 hr).1
    refine ⟨fn, _, assign, body, hy, roundIn_of_wpIn hfn (hassign l i b W _ ⟨_, run_beginRound hr (by rw [hrec]), ?_⟩)⟩
    obtain ⟨busy, hbusy⟩ : ∃ busy, busy = ({ rec .ready none with state := .busy } : Loop) := ⟨_, rfl⟩
    rw [← hbusy]
    have hr2 : (W.putObj l (.loop busy)).heap[l]? = some (.loop busy) := World.putObj_heap_same hlt
    have hd2 : (W.putObj l (.loop busy)).heap[D]? = some (.deferred (some [])) := (World.putObj_heap_other (by omega)).trans hd
    have hk2 : Each.Keeps m B G W (W.putObj l (.loop busy)) := Each.Keeps.put _ hr (by omega) (by omega) (by omega)
    refine wpIn_mono (hbody l i b _ hi (hI.putObj _ hi0 (by omega) hr rfl) (by omega) (has_put _ hrow hr)) ?_
    -- a round's end
    have fin : ∀ (j : Option Code) (Z : World), KeepsOthers (W.putObj l (.loop busy)) Z →
        (Instr.endRound l j).run Tryd.prog Z = .ok (.bool j.isNone) (Z.putObj l (.loop (rec (if j.isNone then .ready else .done) j))) ∧ Z.heap[l]? = some (.loop busy) ∧
        (Z.putObj l (.loop (rec (if j.isNone then .ready else .done) j))).heap[l]? = some (.loop (rec (if j.isNone then .ready else .done) j)) ∧
        (Z.putObj l (.loop (rec (if j.isNone then .ready else .done) j))).heap[D]? = some (.deferred (some [])) := by
      intro j Z hk
      have h3 := hk.same _ _ hr2 rfl
      have h4 := run_endRound (P := Tryd.prog) j (by rw [h3, hbusy])
      refine ⟨?_, h3, World.putObj_heap_same (Array.getElem?_eq_some_iff.1 h3).1, (World.putObj_heap_other (by omega)).trans (hk.same _ _ hd2 rfl)⟩
      rw [hrec] at h4 ⊢
      exact h4
    intro e a3 Z hp
    cases e with
    | normal =>
      obtain ⟨q1, q2, q3⟩ := hp
      obtain ⟨e1, e2, e3, e4⟩ := fin none Z q1
      exact ⟨_, _, e1, .inl ⟨rfl, ⟨hI.putObj _ q3 (by omega) e2 rfl, e3, e4⟩, (hk2.trans q2).trans (Each.Keeps.put _ e2 (by omega) (by omega) (by omega))⟩⟩
    | ret =>
      obtain ⟨q1, q3⟩ := hp
      obtain ⟨e1, e2, e3, e4⟩ := fin (some .ret) Z q1
      exact ⟨_, _, e1, .inr ⟨rfl, .ret, (hIx _).putObj _ q3 (by omega) e2 rfl, e3, e4⟩⟩
    | exit c =>
      obtain ⟨q1, q3⟩ := hp
      obtain ⟨e1, e2, e3, e4⟩ := fin (some (.exit c)) Z q1
      exact ⟨_, _, e1, .inr ⟨rfl, .exit c, (hIx _).putObj _ q3 (by omega) e2 rfl, e3, e4⟩⟩
    | goto c =>
      obtain ⟨q1, q3⟩ := hp
      obtain ⟨e1, e2, e3, e4⟩ := fin (some (.goto c)) Z q1
      exact ⟨_, _, e1, .inr ⟨rfl, .goto c, (hIx _).putObj _ q3 (by omega) e2 rfl, e3, e4⟩⟩
    | panic c => exact hp.elim
    | outgrown => exact hp.elim
  · rintro e Z ⟨⟨v, rfl⟩, (⟨q, hr, hd⟩ | ⟨i, hi, c, q, hr, hd⟩)⟩
    · have h := run_endLoop (P := Tryd.prog) hr (by rw [hrec]; simp)
      rw [hrec] at h
      exact ⟨none, _, h, hdone D _ (by omega) (hI.putObj _ q (by omega) hr rfl) ((World.putObj_heap_other (by omega)).trans hd)⟩
    · have h := run_endLoop (P := Tryd.prog) hr (by rw [hrec]; simp)
      rw [hrec] at h
      exact ⟨some c, _, h, hstop D c i _ (by omega) hi ((hIx c).putObj _ q (by omega) hr rfl) ((World.putObj_heap_other (by omega)).trans hd)⟩
end Go.Proofs.YtnbjcdmiehnceaaDoor
