/-
  The law ShapeEach, walked. By an AI agent. No person has read it.
-/
import Derived.Test.YtnbjcdmiehnceaaDoorShpEc
import Derived.Test.YtnbjcdmiehnceaaDoorShpW
namespace Go.Proofs.YtnbjcdmiehnceaaDoor
open Go.RowKit Go.Shelf

attribute [local go_sem] Oper.semAt_some

theorem results_bool {fn : Func} {p : Tmp} (h : fn.results = #[.cell p 4]) (tmps : Array Value) (w : World) (g : Nat) (b : Bool)
    (hp : tmps.getD p undef = .pointer (some ⟨g, 0, none⟩)) (hc : w.cell? ⟨g, 0, none⟩ = some (.bool b)) : (results fn tmps).run Tryd.prog w = .ok (.bool b) w := by
  simp only [results, h]
  rw [Array.getD_eq_getD_getElem?] at hp
  simp [hp, asAddr]
  go_simp
/-- What lies while the law runs: the shape's box, the result, a number. -/
structure Each.Inv (w : World) (X : Nat) (P : Option Addr) (n cap : Nat) (j : Int) (W : World) : Prop where
  low : Below w.heap.size w W
  s : Boxed W w.heap.size 22 (.slice P n cap)
  r : Boxed W (w.heap.size + 1) 4 (.bool false)
  x : Boxed W X 3 (.int .i64 j)
theorem Each.Inv.other {w W : World} {X n cap : Nat} {P : Option Addr} {j : Int} (h : Each.Inv w X P n cap j W) {p : Addr} (hX : w.heap.size + 1 < X) (hp : X < p.block) (v : Value) : Each.Inv w X P n cap j (W.setCell p v) :=
  ⟨h.low.setCell (by omega) v, (Below.heap_setCell W p v w.heap.size (by omega)).trans h.s, (Below.heap_setCell W p v (w.heap.size + 1) (by omega)).trans h.r, (Below.heap_setCell W p v X (by omega)).trans h.x⟩
theorem Each.Inv.next {w W : World} {X n cap : Nat} {P : Option Addr} {j : Int} (h : Each.Inv w X P n cap j W) (hX : w.heap.size + 1 < X) (j' : Int) : Each.Inv w X P n cap j' (W.setCell ⟨X, 0, none⟩ (.int .i64 j')) :=
  ⟨h.low.setCell (p := ⟨X, 0, none⟩) (Nat.le_of_lt (Nat.lt_of_succ_lt hX)) _, h.s.other (by omega) _, h.r.other (by omega) _, h.x.set _⟩
theorem Each.Inv.below {w W W' : World} {X n cap : Nat} {P : Option Addr} {j : Int} (h : Each.Inv w X P n cap j W) (hb : Below W.heap.size W W') : Each.Inv w X P n cap j W' :=
  ⟨h.low.trans (hb.mono h.low.size), (hb.block _ h.s.lt).trans h.s, (hb.block _ h.r.lt).trans h.r, (hb.block _ h.x.lt).trans h.x⟩
theorem Each.Keeps.set {m B G : Nat} {W : World} {p : Addr} (v : Value) (hm : m ≤ p.block) (hB : B ≠ p.block) (hG : G ≠ p.block) : Each.Keeps m B G W (W.setCell p v) :=
  ⟨(Below.refl m W).setCell hm v, Below.heap_setCell W p v B hB, Below.heap_setCell W p v G hG⟩
theorem each_own (w : World) (X n cap : Nat) (P : Option Addr) (h : Nat) (hh : w.heap.size ≤ h) : OwnFrom h (fun (i : Nat) W => Each.Inv w X P n cap (i : Int) W) := by
  intro i U V row hs hg hr
  have hr2 : ∀ r, row = some r → ∃ o : Obj, U.heap[r]? = some o ∧ o.isCells = false := fun r e => (hr r e).2
  exact ⟨hs.low.grown hg hs.low.size (fun k hk => Nat.le_trans hh (hr k hk).1), box_own w.heap.size 22 (fun _ : Unit => Value.slice P n cap) () U V row hs.s hg hr2, box_own (w.heap.size + 1) 4 (fun _ : Unit => Value.bool false) () U V row hs.r hg hr2,
    box_own X 3 (fun _ : Unit => Value.int .i64 (i : Int)) () U V row hs.x hg hr2⟩
/-- In a round: what the body has kept since it began, and the place that it was handed. -/
structure Each.Mid (w W : World) (X B G b n cap : Nat) (P : Option Addr) (j : Int) (V : World) : Prop where
  ko : KeepsOthers W V
  ke : Each.Keeps w.heap.size B G W V
  inv : Each.Inv w X P n cap j V
  row : ∃ cs, cs.length = n ∧ Has V b 3 cs
theorem Each.Mid.set {w W V : World} {X B G b n cap : Nat} {P : Option Addr} {j : Int} (h : Each.Mid w W X B G b n cap P j V) (hX : w.heap.size + 1 < X) (hb : X < b) (hB : B ≠ b) (hG : G ≠ b) (p : Nat) (v : Value) : Each.Mid w W X B G b n cap P j (V.setCell ⟨b, p, none⟩ v) := by
  refine ⟨h.ko.trans (KeepsOthers.setCell _ _ _), h.ke.trans (Each.Keeps.set (p := ⟨b, p, none⟩) v (by show w.heap.size ≤ b; omega) hB hG), h.inv.other hX hb v, ?_⟩
  obtain ⟨cs, h1, h2⟩ := h.row
  exact ⟨cs.set p v, by rw [List.length_set]; exact h1, h2.set_ p v⟩
theorem Each.Mid.cell {w W V : World} {X B G b n cap : Nat} {P : Option Addr} {j : Int} (h : Each.Mid w W X B G b n cap P j V) (p : Nat) (hp : p < n) : (∃ u, V.cell? ⟨b, p, none⟩ = some u) ∧ V.frozen? ⟨b, p, none⟩ = false := by
  obtain ⟨cs, h1, h2⟩ := h.row
  exact ⟨⟨cs[p]'(by omega), by rw [h2.cell]; exact List.getElem?_eq_getElem _⟩, h2.frozen p⟩
theorem Each.Mid.done {w W V : World} {X B G b n cap : Nat} {P : Option Addr} {j : Int} (h : Each.Mid w W X B G b n cap P j V) (hX : w.heap.size + 1 < X) (hB : B ≠ X) (hG : G ≠ X) (j' : Int) :
    KeepsOthers W (V.setCell ⟨X, 0, none⟩ (.int .i64 j')) ∧ Each.Keeps w.heap.size B G W (V.setCell ⟨X, 0, none⟩ (.int .i64 j')) ∧ Each.Inv w X P n cap j' (V.setCell ⟨X, 0, none⟩ (.int .i64 j')) :=
  ⟨h.ko.trans (KeepsOthers.setCell _ _ _), h.ke.trans (Each.Keeps.set (p := ⟨X, 0, none⟩) _ (by show w.heap.size ≤ X; omega) hB hG), h.inv.next hX j'⟩
/-- The law's way out, its loops' blocks taken in. -/
theorem each_out {w V : World} {D : Nat} (hr : Boxed V (w.heap.size + 1) 4 (.bool true)) (hB : Below w.heap.size w V) (hD : V.heap[D]? = some (.deferred (some []))) (hw : w.heap.size + 1 < D) :
    Boxed (V.putObj D (.deferred none)) (w.heap.size + 1) 4 (.bool true) ∧ Below w.heap.size w (V.putObj D (.deferred none)) :=
  ⟨(World.putObj_heap_other (by omega)).trans hr, hB.trans (belowK_b (w := w) (Nat.le_refl _) V D _ _ (by omega) hD rfl rfl)⟩
theorem each_told {w V : World} {D : Nat} {x : Value} (hr : Boxed V (w.heap.size + 1) 4 x) (hB : Below w.heap.size w V) (hD : V.heap[D]? = some (.deferred (some []))) (hw : w.heap.size + 1 < D) :
    Boxed (V.setCell ⟨w.heap.size + 1, 0, none⟩ (.bool true)) (w.heap.size + 1) 4 (.bool true) ∧ Below w.heap.size w (V.setCell ⟨w.heap.size + 1, 0, none⟩ (.bool true)) ∧ (V.setCell ⟨w.heap.size + 1, 0, none⟩ (.bool true)).heap[D]? = some (.deferred (some [])) :=
  ⟨hr.set _, hB.setCell (p := ⟨w.heap.size + 1, 0, none⟩) (Nat.le_succ _) _, (Below.heap_setCell V ⟨w.heap.size + 1, 0, none⟩ _ D (by show D ≠ w.heap.size + 1; omega)).trans hD⟩
/-- What lies while the second loop runs. -/
structure Each.Inv2 (w : World) (Y D st : Nat) (j : Nat) (W : World) : Prop where
  low : Below w.heap.size w W
  r : Boxed W (w.heap.size + 1) 4 (.bool false)
  s : Boxed W Y 3 (.int .i64 (st : Int))
  x : Boxed W (Y + 1) 3 (.int .i64 (j : Int))
  d : W.heap[D]? = some (.deferred (some []))
  le : j ≤ st
theorem each_own2 (w : World) (Y D st h : Nat) (hh : w.heap.size ≤ h) (hDh : D < h) : OwnFrom h (fun (i : Nat) W => Each.Inv2 w Y D st i W) := by
  intro i U V row hs hg hr
  have hr2 : ∀ r, row = some r → ∃ o : Obj, U.heap[r]? = some o ∧ o.isCells = false := fun r e => (hr r e).2
  exact ⟨hs.low.grown hg hs.low.size (fun k hk => Nat.le_trans hh (hr k hk).1), box_own (w.heap.size + 1) 4 (fun _ : Unit => Value.bool false) () U V row hs.r hg hr2,
    box_own Y 3 (fun _ : Unit => Value.int .i64 (st : Int)) () U V row hs.s hg hr2, box_own (Y + 1) 3 (fun _ : Unit => Value.int .i64 (i : Int)) () U V row hs.x hg hr2,
    (hg.block D (Array.getElem?_eq_some_iff.1 hs.d).1 (fun e => by have := (hr D e.symm).1; omega)).trans hs.d, hs.le⟩
theorem Each.Inv2.next {w W : World} {Y D st j : Nat} (h : Each.Inv2 w Y D st j W) (hY : w.heap.size + 1 < Y) (hDY : D < Y) (hj : j + 1 ≤ st) : Each.Inv2 w Y D st (j + 1) (W.setCell ⟨Y + 1, 0, none⟩ (.int .i64 ((j + 1 : Nat) : Int))) :=
  ⟨h.low.setCell (p := ⟨Y + 1, 0, none⟩) (by show w.heap.size ≤ Y + 1; omega) _, h.r.other (by omega) _, h.s.other (by omega) _, h.x.set _, (Below.heap_setCell W ⟨Y + 1, 0, none⟩ _ D (by show D ≠ Y + 1; omega)).trans h.d, hj⟩
set_option maxRecDepth 100000 in
set_option maxHeartbeats 8000000 in
theorem each_law (am ar : Addr) (zs : List Int) (P : Option Addr) (cap : Nat) (q : Int) (w : World) (hr : Ri w P zs) (hE : E2 w am ar) (hl : zs.length ≤ 9223372036854775807) :
    Calls Tryd.prog 5 #[.slice P zs.length cap, .int .i64 q] w fun e w' => e = .returned (.bool true) ∧ Below w.heap.size w w' := by
  obtain ⟨hb0, hS, hR⟩ : Below w.heap.size w ((w.alloc (Obj.cells #[.slice P zs.length cap] 22)).alloc (Obj.cells #[.bool false] 4)) ∧ Boxed ((w.alloc (Obj.cells #[.slice P zs.length cap] 22)).alloc (Obj.cells #[.bool false] 4)) w.heap.size 22 (.slice P zs.length cap) ∧
      Boxed ((w.alloc (Obj.cells #[.slice P zs.length cap] 22)).alloc (Obj.cells #[.bool false] 4)) (w.heap.size + 1) 4 (.bool false) := by
    refine ⟨((Below.refl _ w).alloc (Nat.le_refl _) _).alloc (by simp) _, (Boxed.new w _ _).alloc _, ?_⟩
    have h := Boxed.new (w.alloc (Obj.cells #[.slice P zs.length cap] 22)) 4 (.bool false)
    simpa using h
  have HF := hide (first_c am ar _ (hE.below hb0))
  have HEl := hide (fun W (h : Below w.heap.size w W) => elems_c zs P cap am ar W (hr.below h) hl (hE.below h))
  have HRi := hide (fun W (h : Below w.heap.size w W) => hr.below h)
  have HE2 := hide (fun W (h : Below w.heap.size w W) => hE.below h)
  have hEb := Shp.elems_le zs
  obtain ⟨E, hEE⟩ : ∃ E : Nat, Hid (Shp.elems zs = (E : Int)) := ⟨(Shp.elems zs).toNat, hide (by omega)⟩
  obtain ⟨n, hn⟩ : ∃ n, Hid (zs.length = n) := ⟨_, hide rfl⟩
  rw [hEE.out] at HEl hEb
  rw [hn.out] at HEl hb0 hS hR HF hl ⊢
  have HB := hide hb0
  have HS := hide hS
  have HR := hide hR
  clear hb0 hS hR hr hE
  refine (callsIn_wide (n := 12)).1 ?_
  refine callsIn_of_wp_marks Tryd.func5 rfl trivial ?_ rfl
  simp only [Tryd.ntmps5, List.size_toArray, List.length_cons, List.length_nil, Nat.reduceAdd, Nat.reduceSub, Array.replicate_succ, Array.replicate_zero, List.push_toArray, List.append_toArray, List.nil_append, List.cons_append]
  refine wpIn_wide.2 ?_
  go_wp2_with fail
  refine HF.out.mono ?_
  rintro e w1 ⟨rfl, hb⟩
  replace HS := hide (show Boxed w1 w.heap.size 22 (.slice P n cap) from (hb.block _ HS.out.lt).trans HS.out)
  replace HR := hide (show Boxed w1 (w.heap.size + 1) 4 (.bool false) from (hb.block _ HR.out.lt).trans HR.out)
  replace HB := hide (HB.out.trans (hb.mono HB.out.size))
  clear hb HF
  have c0 := HS.out.cell
  have r0 := HR.out.cell
  have fr := HR.out.frozen
  have HT := hide (HR.out.set (.bool true))
  have HTB := hide (HB.out.setCell (p := ⟨w.heap.size + 1, 0, none⟩) (Nat.le_succ _) (.bool true))
  by_cases hn8 : 8 < n
  · have hn8' : (8 : Int) < n := by omega
    clear HEl HRi HE2
    go_wp2_with fail
    exact ⟨_, results_bool rfl _ _ (w.heap.size + 1) true rfl HT.out.cell, rfl, HTB.out⟩
  · have hn8' : ¬ (8 : Int) < n := by omega
    have HEl1 := hide (HEl.out w1 HB.out)
    clear HT HTB
    go_wp2_with fail
    refine HEl1.out.mono ?_
    rintro e w2 ⟨rfl, hb⟩
    clear HEl1
    replace HS := hide (show Boxed w2 w.heap.size 22 (.slice P n cap) from (hb.block _ HS.out.lt).trans HS.out)
    replace HR := hide (show Boxed w2 (w.heap.size + 1) 4 (.bool false) from (hb.block _ HR.out.lt).trans HR.out)
    replace HB := hide (HB.out.trans (hb.mono HB.out.size))
    clear hb c0 r0 fr
    have c0 := HS.out.cell
    have r0 := HR.out.cell
    have fr := HR.out.frozen
    by_cases hE2k : 2000 < E
    · have hE2' : (2000 : Int) < (E : Int) := by omega
      have HT := hide (HR.out.set (.bool true))
      have HTB := hide (HB.out.setCell (p := ⟨w.heap.size + 1, 0, none⟩) (Nat.le_succ _) (.bool true))
      clear HEl HRi HE2
      go_wp2_with fail
      exact ⟨_, results_bool rfl _ _ (w.heap.size + 1) true rfl HT.out.cell, rfl, HTB.out⟩
    · have hE2' : ¬ (2000 : Int) < (E : Int) := by omega
      have HEl2 := hide (HEl.out w2 HB.out)
      clear HEl
      go_wp2_with fail
      refine HEl2.out.mono ?_
      rintro e w3 ⟨rfl, hb⟩
      clear HEl2
      replace HS := hide (show Boxed w3 w.heap.size 22 (.slice P n cap) from (hb.block _ HS.out.lt).trans HS.out)
      replace HR := hide (show Boxed w3 (w.heap.size + 1) 4 (.bool false) from (hb.block _ HR.out.lt).trans HR.out)
      replace HB := hide (HB.out.trans (hb.mono HB.out.size))
      clear hb c0 r0 fr
      have c0 := HS.out.cell
      have r0 := HR.out.cell
      have fr := HR.out.frozen
      have hn6 : n ≤ 1000000 := by omega
      have HX := hide (Boxed.new w3 3 (.int .i64 0))
      have HB4 := hide (HB.out.alloc HB.out.size (Obj.cells #[.int .i64 0] 3))
      have HS4 := hide (HS.out.alloc (Obj.cells #[.int .i64 0] 3))
      have HR4 := hide (HR.out.alloc (Obj.cells #[.int .i64 0] 3))
      have HCl := hide (each_c zs P cap (w3.alloc (Obj.cells #[.int .i64 0] 3)) (HRi.out _ HB4.out) (by rw [hn.out]; exact hn6))
      rw [hn.out] at HCl
      obtain ⟨X, hX⟩ : ∃ X, X = w3.heap.size := ⟨_, rfl⟩
      rw [← hX] at HX
      have hXs : Hid (w.heap.size + 1 < X) := hide (by rw [hX]; exact HR.out.lt)
      have hXl : Hid (X < (w3.alloc (Obj.cells #[.int .i64 0] 3)).heap.size) := hide HX.out.lt
      clear c0 r0 fr
      have c0 := HS4.out.cell
      have r0 := HR4.out.cell
      clear HB HS HR
      go_wp2_with fail
      refine HCl.out.mono ?_
      rintro e w5 ⟨⟨A, c, B, G, rfl, hBx, hA, hBl, hGl, hGs⟩, hb⟩
      rw [← hX]
      have hI0 : Each.Inv w X P n cap 0 w5 := ⟨HB4.out.trans (hb.mono HB4.out.size), (hb.block _ HS4.out.lt).trans HS4.out, (hb.block _ HR4.out.lt).trans HR4.out, (hb.block _ HX.out.lt).trans HX.out⟩
      have hXB : X < B := Nat.lt_of_lt_of_le hXl.out hBl
      have hXG : X < G := Nat.lt_of_lt_of_le hXl.out hGl
      have hm := hI0.low.size
      have hE25 : ∀ W', Below w.heap.size w5 W' → E2 W' am ar := fun W' h => HE2.out W' (hI0.low.trans h)
      have HRuns := each_runs 11 (by decide) am ar w.heap.size B G c n E A zs hn hn6 hEE w5 hBx hA hm hGs hE25
      clear hb HCl hX HX HB4 HS4 HR4 c0 r0 hXl hGl hBl hE25
      go_wp2_with fail
      refine (wpIn_wide (n := 12)).1 ?_
      refine each_range (k := 12) (E := E) (m := w.heap.size) (B := B) (G := G) (f := fun i => (Shp.at zs (i : Int)).1) (by decide) rfl (enters_of Tryd.func72 (by kernel_rfl) rfl) rfl HRuns hm hBx.lt hGs
        (fun i W => Each.Inv w X P n cap (i : Int) W) (fun _ _ _ => False) (each_own w X n cap P _ hm) (fun _ _ _ _ _ hs _ _ => hs) hI0 ?a1 ?assign ?body ?done ?stop
      case assign =>
        intro l i b W K hK
        gi_wp2
        exact hK
      case body =>
        intro l i b W hi hI hb hrow
        have hlen : (Shp.at zs (i : Int)).1.length = n := by rw [Shp.at_length, hn.out]
        have hel : (i : Int) < Shp.elems zs := by rw [hEE.out]; omega
        have hok : Shp.ok zs = true := by
          have h := hel
          unfold Shp.elems at h
          split at h
          · assumption
          · omega
        have hbd := (Shp.at_bound zs (i : Int) (by omega) (fun z hz => by
          obtain ⟨j, hj⟩ := List.getElem?_of_mem hz
          exact (Shp.dims zs hok j z hj).1)).2
        have hQ : Ri W (some ⟨b, 0, none⟩) (Shp.at zs (i : Int)).1 := hrow.ri (fun x hx => wf_i64 x (by have := hbd x hx; omega))
        have HIx := hide (index_c zs (Shp.at zs (i : Int)).1 P (some ⟨b, 0, none⟩) cap n am ar W (HRi.out W hI.low) hQ (by rw [hn.out]; omega) (by rw [hlen]; omega) (HE2.out W hI.low))
        rw [Shp.index_where zs (i : Int) (by omega) hel, hlen, hn.out] at HIx
        rw [hlen]
        have hbl : X < b := Nat.lt_trans hXB (Nat.lt_of_lt_of_le hBx.lt hb)
        have hBb : B ≠ b := by have := hBx.lt; omega
        have hGb : G ≠ b := by omega
        have HRow : Hid (∃ cs : List Value, cs.length = n ∧ Has W b 3 cs) := hide ⟨_, by simpa using hlen, hrow⟩
        have HI := hide hI
        have c0 := hI.s.cell
        have hie : (i : Int) < (E : Int) := by omega
        have hadd : IntKind.i64.wrap ((i : Int) + 1) = ((i + 1 : Nat) : Int) := by rw [IntKind.wrap_i64]; omega
        have hBW : B < W.heap.size := by have := hBx.lt; have := hrow.lt; omega
        have hGW : G < W.heap.size := by have := hrow.lt; omega
        clear hlen hel hok hbd hQ hrow hI
        gi_wp2_with (refine ⟨trivial, ?_⟩; gi_at_call 31; refine (CallsIn.inRound l (callsIn_wide.2 HIx.out)).mono ?_; rintro e W2 ⟨rfl, hb2⟩; have HM : Hid (Each.Mid w W X B G b n cap P (i : Int) W2) := hide ⟨KeepsOthers.of_grownBy (grown_of hb2) (fun j o e => by cases e), Each.Keeps.of hb2 HI.out.low.size hBW hGW, HI.out.below hb2, (by obtain ⟨cs, h1, h2⟩ := HRow.out; exact ⟨cs, h1, h2.below hb2 h2.lt⟩)⟩; have cX := HM.out.inv.x.cell; have fX := HM.out.inv.x.frozen)
        clear HIx HRow HI c0
        gi_loopw [12] (fun v wr => ∃ p : Nat, p ≤ n ∧ v = .int .i64 (p : Int) ∧ Hid (Each.Mid w W X B G b n cap P (i : Int) wr)) (fun v _ => n - (intOf v).toNat)
        case atStart => exact ⟨0, Nat.zero_le _, rfl, HM⟩
        case round =>
          obtain ⟨p, hp, rfl, HMp⟩ := hrel
          clear cX fX
          by_cases hpn : p < n
          · have hpi : (p : Int) < (n : Int) := by omega
            obtain ⟨⟨uu, cu⟩, fu⟩ := HMp.out.cell p hpn
            have HN := hide (HMp.out.set hXs.out hbl hBb hGb p (.int .i64 (-5)))
            have hadp : IntKind.i64.wrap ((p : Int) + 1) = ((p + 1 : Nat) : Int) := by rw [IntKind.wrap_i64]; omega
            gi_wp2
            go_roundw
            case rel => exact ⟨p + 1, by omega, by go_num, HN⟩
            case measure => simp [intOf]; omega
          · obtain rfl : p = n := by omega
            have cX := HMp.out.inv.x.cell
            have fX := HMp.out.inv.x.frozen
            have HD := hide (HMp.out.done hXs.out (by omega) (by omega) ((i + 1 : Nat) : Int))
            gi_wp2
            exact HD.out
      case done =>
        intro D W hD hI hK
        have hDw : w.heap.size + 1 < D := by have := hBx.lt; have := hXs.out; omega
        have cX := hI.x.cell
        have c0 := hI.s.cell
        have r0 := hI.r.cell
        have HI := hide hI
        have HK := hide hK
        clear hI hK HRuns
        by_cases hE0 : E = 0
        · subst hE0
          have hcz : Shp.ok zs = false := (Shp.elems_zero zs).1 hEE.out
          have HV := hide (valid_c zs P cap false am ar W (HRi.out W HI.out.low) (by rw [hn.out]; omega) (HE2.out W HI.out.low))
          rw [hn.out] at HV
          rcases Shp.code_is zs with hk | hk | hk
          case inr.inr =>
            unfold Shp.ok at hcz
            rw [hk] at hcz
            simp at hcz
          all_goals
            rw [hk] at HV
            first | rw [show Shp.err am ar 104 = errv am from rfl] at HV | rw [show Shp.err am ar 102 = errv ar from rfl] at HV
            clear hcz hk
            go_wp2_with fail
            refine HV.out.mono ?_
            rintro e W2 ⟨rfl, hb⟩
            have hI2 := HI.out.below hb
            have HO := hide (each_told hI2.r hI2.low ((hb.block D (Array.getElem?_eq_some_iff.1 HK.out).1).trans HK.out) hDw)
            have r2 := hI2.r.cell
            have f2 := hI2.r.frozen
            clear hb hI2 r0 c0 cX
            go_wp2_with fail
            refine ⟨by simp, .inl ⟨_, _, rfl, run_takeDeferred HO.out.2.2, ?_⟩⟩
            have HL := each_out HO.out.1 HO.out.2.1 HO.out.2.2 hDw
            exact ⟨_, results_bool rfl _ _ (w.heap.size + 1) true rfl HL.1.cell, rfl, HL.2⟩
        · have hEi : (E : Int) ≠ 0 := by omega
          have hEi0 : ((E : Int) == 0) = false := by simp; omega
          have HNum := hide (fun W => number_c q E (by omega) (by omega) (E : Int) rfl W)
          go_wp2_with fail
          refine (HNum.out _).mono ?_
          rintro e W2 ⟨⟨st, hst, rfl⟩, rfl⟩
          obtain ⟨Y, hY⟩ : ∃ Y, Y = W2.heap.size := ⟨_, rfl⟩
          have hDl : D < Y := by rw [hY]; exact (Array.getElem?_eq_some_iff.1 HK.out).1
          have hB6 := (HI.out.low.alloc HI.out.low.size (Obj.cells #[.int .i64 (st : Int)] 3)).alloc (by have := HI.out.low.size; simp; omega) (Obj.cells #[.int .i64 0] 3)
          have hS6 := (HI.out.s.alloc (Obj.cells #[.int .i64 (st : Int)] 3)).alloc (Obj.cells #[.int .i64 0] 3)
          have hR6 := (HI.out.r.alloc (Obj.cells #[.int .i64 (st : Int)] 3)).alloc (Obj.cells #[.int .i64 0] 3)
          have hY6 : Boxed ((W2.alloc (Obj.cells #[.int .i64 (st : Int)] 3)).alloc (Obj.cells #[.int .i64 0] 3)) Y 3 (.int .i64 (st : Int)) := by rw [hY]; exact (Boxed.new W2 _ _).alloc _
          have hZ6 : Boxed ((W2.alloc (Obj.cells #[.int .i64 (st : Int)] 3)).alloc (Obj.cells #[.int .i64 0] 3)) (Y + 1) 3 (.int .i64 0) := by
            have h := Boxed.new (W2.alloc (Obj.cells #[.int .i64 (st : Int)] 3)) 3 (.int .i64 0)
            rw [hY]
            simpa using h
          have hD6 : ((W2.alloc (Obj.cells #[.int .i64 (st : Int)] 3)).alloc (Obj.cells #[.int .i64 0] 3)).heap[D]? = some (.deferred (some [])) :=
            (Below.heap_alloc _ _ _ (by simp; omega)).trans ((Below.heap_alloc _ _ _ (by omega)).trans HK.out)
          have HCl := hide (each_c zs P cap _ (HRi.out _ hB6) (by rw [hn.out]; exact hn6))
          rw [hn.out] at HCl
          have c6 := hS6.cell
          have HB6 := hide hB6
          have HR6 := hide hR6
          have HY6 := hide hY6
          have HZ6 := hide hZ6
          have HD6 := hide hD6
          clear c0 r0 cX HI HK hB6 hS6 hR6 hY6 hZ6 hD6
          go_wp2_with fail
          refine HCl.out.mono ?_
          rintro e W7 ⟨⟨A2, c2, B2, G2, rfl, hBx2, hA2, hBl2, hGl2, hGs2⟩, hb⟩
          rw [← hY]
          have hI7 : Each.Inv2 w Y D st 0 W7 := ⟨HB6.out.trans (hb.mono HB6.out.size), (hb.block _ HR6.out.lt).trans HR6.out, (hb.block _ HY6.out.lt).trans HY6.out, (hb.block _ HZ6.out.lt).trans HZ6.out, (hb.block _ (Array.getElem?_eq_some_iff.1 HD6.out).1).trans HD6.out, Nat.zero_le _⟩
          have hm7 := hI7.low.size
          have hYl := hI7.s.lt
          have hYB : Y + 1 < B2 := Nat.lt_of_lt_of_le HZ6.out.lt hBl2
          have hYG : Y + 1 < G2 := Nat.lt_of_lt_of_le HZ6.out.lt hGl2
          have HRuns2 := each_runs 11 (by decide) am ar w.heap.size B2 G2 c2 n E A2 zs hn hn6 hEE W7 hBx2 hA2 hm7 hGs2 (fun W' h => HE2.out W' (hI7.low.trans h))
          clear hb HCl HB6 HR6 HY6 HZ6 HD6 c6 hBl2 hGl2 HNum hY
          go_wp2_with fail
          refine (wpIn_wide (n := 12)).1 ?_
          refine each_range (k := 12) (E := E) (m := w.heap.size) (B := B2) (G := G2) (f := fun i => (Shp.at zs (i : Int)).1) (by decide) rfl (enters_of Tryd.func72 (by kernel_rfl) rfl) rfl HRuns2 hm7 hBx2.lt hGs2
            (fun i W => Each.Inv2 w Y D st i W) (fun c _ W => c = .exit 4 ∧ Each.Inv2 w Y D st st W) (each_own2 w Y D st _ hm7 (by omega)) (fun c i U V row hs hg hr => ⟨hs.1, each_own2 w Y D st _ hm7 (by omega) st U V row hs.2 hg hr⟩) hI7 ?a2 ?assign2 ?body2 ?done2 ?stop2
          case assign2 =>
            intro l i b W K hK
            gi_wp2
            exact hK
          case body2 =>
            intro l i b W hi hI hb hrow
            have cY := hI.s.cell
            have cZ := hI.x.cell
            have fZ := hI.x.frozen
            by_cases hij : i = st
            · subst hij
              have HI := hide hI
              clear hI
              gi_wp2
              exact ⟨KeepsOthers.refl _, rfl, HI.out⟩
            · have hle := hI.le
              have hne : ((i : Int) == (st : Int)) = false := by simp; omega
              have hadd : IntKind.i64.wrap ((i : Int) + 1) = ((i + 1 : Nat) : Int) := by rw [IntKind.wrap_i64]; omega
              have HN : Hid (KeepsOthers W (W.setCell ⟨Y + 1, 0, none⟩ (.int .i64 ((i + 1 : Nat) : Int))) ∧ Each.Keeps w.heap.size B2 G2 W (W.setCell ⟨Y + 1, 0, none⟩ (.int .i64 ((i + 1 : Nat) : Int))) ∧ Each.Inv2 w Y D st (i + 1) (W.setCell ⟨Y + 1, 0, none⟩ (.int .i64 ((i + 1 : Nat) : Int)))) := hide
                ⟨KeepsOthers.setCell _ _ _, Each.Keeps.set (p := ⟨Y + 1, 0, none⟩) _ (by show w.heap.size ≤ Y + 1; omega) (by show B2 ≠ Y + 1; omega) (by show G2 ≠ Y + 1; omega), hI.next (by omega) hDl (by omega)⟩
              clear hI
              gi_wp2
              exact HN.out
          case done2 =>
            intro D2 W hD2 hI hK2
            have := hI.le
            omega
          case stop2 =>
            rintro D2 c i W hD2 hi ⟨rfl, hI⟩ hK2
            have hDw2 : w.heap.size + 1 < D2 := by omega
            have cY := hI.s.cell
            have cZ := hI.x.cell
            have rr := hI.r.cell
            have fr := hI.r.frozen
            have HO2 := hide (each_told hI.r hI.low hK2 hDw2)
            have HO1 := hide (each_told hI.r hI.low hI.d hDw)
            clear hI
            refine (wpIn_wide (n := 12)).2 ?_
            go_wp2_with fail
            refine ⟨by simp, .inl ⟨_, _, rfl, run_takeDeferred HO2.out.2.2, ?_⟩⟩
            have HL2 := each_out HO2.out.1 HO2.out.2.1 HO2.out.2.2 hDw2
            have hK1 : ((W.setCell ⟨w.heap.size + 1, 0, none⟩ (.bool true)).putObj D2 (.deferred none)).heap[D]? = some (.deferred (some [])) := (World.putObj_heap_other (show D ≠ D2 by omega)).trans HO1.out.2.2
            refine ⟨by simp, .inl ⟨_, _, rfl, run_takeDeferred hK1, ?_⟩⟩
            have HL1 := each_out HL2.1 HL2.2 hK1 hDw
            exact ⟨_, results_bool rfl _ _ (w.heap.size + 1) true rfl HL1.1.cell, rfl, HL1.2⟩
      case stop =>
        rintro D c i W _ _ h _
        exact h.elim
end Go.Proofs.YtnbjcdmiehnceaaDoor
