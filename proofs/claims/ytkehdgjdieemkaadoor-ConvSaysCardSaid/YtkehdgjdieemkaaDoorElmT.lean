/-
  cells.All; elem.do, Two, One of any operation, walked. By an AI agent. No person has read it.
-/
import Derived.Test.YtkehdgjdieemkaaDoorCelR
import Derived.Test.YtkehdgjdieemkaaDoorElmP
import Derived.Laws.ResultCell
namespace Go.Proofs.YtkehdgjdieemkaaDoor
open Go.RowKit

theorem results_tn {fn : Func} {p u : Tmp} (h : fn.results = #[.cell p 26, .tmp u]) (tmps : Array Value) (w : World) (g : Nat) (x y z : Value)
    (hp : tmps.getD p undef = .pointer (some ⟨g, 0, none⟩)) (hg : Has w g 26 [x, y, z]) : (results fn tmps).run Tryd.prog w = .ok (.tuple #[.agg #[x, y, z], tmps.getD u undef]) w := by
  rw [results_cell_tmp h, hp]
  have h1 := run_loadVar_row (P := Tryd.prog) w g 26 26 #[x, y, z] (0, 0) _ hg Tryd.underlying26 rfl (by kernel_rfl)
  simp [asAddr, h1, Result.andThen]
/-- Two boxes, one behind the other. -/
theorem boxes_two (w : World) (t t2 : TypeId) (xs ys : List Value) : Below w.heap.size w ((w.alloc (Obj.cells xs.toArray t)).alloc (Obj.cells ys.toArray t2)) ∧ Has ((w.alloc (Obj.cells xs.toArray t)).alloc (Obj.cells ys.toArray t2)) w.heap.size t xs ∧
    Has ((w.alloc (Obj.cells xs.toArray t)).alloc (Obj.cells ys.toArray t2)) (w.heap.size + 1) t2 ys := by
  refine ⟨((Below.refl _ w).alloc (Nat.le_refl _) _).alloc (by simp) _, (Has.new w t xs).alloc _, ?_⟩
  have h := Has.new (w.alloc (Obj.cells xs.toArray t)) t2 ys
  simpa using h
abbrev BoxS (w : World) (x y : Value) (W : World) : Prop := W.cell? ⟨w.heap.size, 0, none⟩ = some x ∧ W.cell? ⟨w.heap.size, 1, none⟩ = some y ∧ Hid (Below w.heap.size w W)
theorem BoxS.keep {w : World} {x y : Value} {W W' : World} (h : BoxS w x y W) (hk : w.heap.size < W.heap.size) (hb : Below W.heap.size W W') : BoxS w x y W' :=
  ⟨(hb.cell hk).trans h.1, (hb.cell hk).trans h.2.1, h.2.2.out.trans (hb.mono h.2.2.out.size)⟩
theorem BoxS.of {w W : World} {x y : Value} {t : TypeId} (h : Has W w.heap.size t [x, y]) (hb : Below w.heap.size w W) : BoxS w x y W := ⟨h.cell 0, h.cell 1, hb⟩
set_option maxRecDepth 100000 in
set_option maxHeartbeats 8000000 in
theorem all_c (zs rs : List Int) (P : Option Addr) (cap : Nat) (u : Bool) (op : Int) (A B : Option Addr) (nq qcap nt bcap : Nat) (am ar : Addr) (w : World) (hr : Ri w P zs) (hl : zs.length ≤ 1000000) (hE : E2 w am ar) (hn : (rs.length : Int) = Shp.elems zs)
    (hV : ∀ W, Below w.heap.size w W → Calls Tryd.prog 70 #[.int .i64 op, .slice A nq qcap, .int .i64 0, .int .i64 (rs.length : Int), .slice B nt bcap] W fun e w' => (∃ g, e = .returned (.slice (some ⟨g, 0, none⟩) rs.length rs.length) ∧ W.heap.size ≤ g ∧ Has w' g 3 (i64s rs)) ∧ Below W.heap.size W w') :
    Calls Tryd.prog 43 #[.agg (dcells P zs.length cap u), .int .i64 op, .slice A nq qcap, .slice B nt bcap] w fun e w' => (∃ g, e = .returned (.agg (tcells P zs.length cap u (some ⟨g, 0, none⟩) rs.length rs.length)) ∧ w.heap.size < g ∧ Has w' g 3 (i64s rs)) ∧ Below w.heap.size w w' := by
  obtain ⟨hb1, hT, hZ⟩ := boxes_two w 24 26 [.slice P zs.length cap, .bool u] [.slice none 0 0, .bool false, .slice none 0 0]
  have HI := hide (fun W (hb : Below w.heap.size w W) => elems_c zs P cap am ar W (hr.below hb) (by omega) (hE.below hb))
  have HJ := hide hV
  rw [← hn] at HI
  obtain ⟨n, hnn⟩ : ∃ n, Hid (zs.length = n) := ⟨_, hide rfl⟩
  obtain ⟨m, hm⟩ : ∃ n, Hid (rs.length = n) := ⟨_, hide rfl⟩
  rw [hnn.out] at HI hb1 hT hZ ⊢
  rw [hm.out] at HI HJ ⊢
  clear hr hl hE hn hV hnn hm
  go_enter Tryd.func43, Tryd.ntmps43
  have hS0 := BoxS.of (hT.drewN 1) hb1.drew
  have HB1 := hide hb1.drew
  have HT1 := hide (hT.drewN 1)
  have HZ1 := hide (hZ.drewN 1)
  clear hb1 hT hZ
  go_wp2_with fail
  go_region_held3 (fun W => W.cell? ⟨w.heap.size, 0, none⟩ = some (.slice P n cap) ∧ W.cell? ⟨w.heap.size, 1, none⟩ = some (.bool u) ∧ Hid (Below w.heap.size w W))
    (first | exact hS0 | assumption | exact hS9.out | exact BoxS.keep (by assumption) hsl hb)
    (first
      | (go_at_call 71; refine (HI.out _ HB1.out).mono ?_; rintro e W2 ⟨rfl, hb⟩; have hsl := HT1.out.lt; have hz2 := HZ1.out.below hb HZ1.out.lt; have ht2 := HT1.out.below hb HT1.out.lt; have hB2 := HB1.out.trans (hb.mono HB1.out.size))
      | (go_at_call 70; refine (HJ.out _ hB2).mono ?_; rintro e W3 ⟨⟨g, rfl, hg, hD⟩, hb⟩; have hgl := ht2.lt; have hsl := ht2.lt; have hz3 := hz2.below hb hz2.lt; have ht3 := ht2.below hb ht2.lt; have hB3 := hB2.trans (hb.mono hB2.size); have hz2l := hz2.lt; obtain ⟨z0, z1, z2, zf0, zf1, zf2, HZf, HFf⟩ := elm_three hz3 hB3 (Nat.le_succ _) (.slice P n cap) (.bool u) (.slice (some ⟨g, 0, none⟩) m m); have hDf := hide (((hD.far (p := ⟨w.heap.size + 1, 0, none⟩) (by simp; omega) (.slice P n cap)).far (p := ⟨w.heap.size + 1, 1, none⟩) (by simp; omega) (.bool u)).far (p := ⟨w.heap.size + 1, 2, none⟩) (by simp; omega) (.slice (some ⟨g, 0, none⟩) m m)); have hTf := ((ht3.far (p := ⟨w.heap.size + 1, 0, none⟩) (by simp) (.slice P n cap)).far (p := ⟨w.heap.size + 1, 1, none⟩) (by simp) (.bool u)).far (p := ⟨w.heap.size + 1, 2, none⟩) (by simp) (.slice (some ⟨g, 0, none⟩) m m); have hS9 := hide (BoxS.of hTf HFf.out); have hg' : w.heap.size < g := (by omega)))
  go_wp2_with fail
  refine bodyPost_ret (results_cell_row rfl _ _ (w.heap.size + 1) 26 (tcells P n cap u (some ⟨g, 0, none⟩) m m) (0, 0) _ rfl HZf.out Tryd.underlying26 rfl (by kernel_rfl)) rfl ?_
  exact ⟨⟨g, rfl, hg', hDf.out⟩, HFf.out⟩
/-- A row of the call's own, as a slice. -/
theorem own_row {w : World} {base n s : Nat} {e : TypeId} {v : Value} {xs : List Value} (h : w.ownsRow base e s v n xs) : ∃ B c, v = .slice B n c ∧ Row w B xs := by
  rcases h.2 with ⟨rfl, rfl⟩ | ⟨g, c, cur, rfl, h2, h3, -, -, -, h4⟩
  · have h1 := h.1
    rw [Nat.zero_mul] at h1
    exact ⟨none, 0, rfl, fun hx => absurd (List.eq_nil_of_length_eq_zero h1) hx⟩
  · refine ⟨_, c, rfl, fun _ => ⟨_, rfl, (Array.getElem?_eq_some_iff.1 h3).1, fun j x hx => ?_⟩⟩
    rw [Addr.add_lit, Nat.zero_add]
    rw [← h4, List.getElem?_take] at hx
    split at hx
    · have : w.cell? ⟨g, j, none⟩ = cur[j]? := by simp [World.cell?, h3]
      rw [this, ← hx, Array.getElem?_toList]
    · cases hx
theorem fine_len {zs ds : List Int} {u : Bool} (h : Tens.fault zs u ds = (0, none)) : (ds.length : Int) = Shp.elems zs ∧ Shp.code zs = 0 := by
  unfold Tens.fault at h
  split at h
  · rename_i hc
    exact absurd (congrArg Prod.fst h) hc
  · rename_i hc
    split at h
    · cases h
    · rename_i hl
      exact ⟨by omega, by omega⟩
theorem val_i64 (op : Int) (u : Bool) (x y : Int) (qs : List Int) (hx : -9223372036854775808 ≤ x ∧ x ≤ 9223372036854775807) (hy : -9223372036854775808 ≤ y ∧ y ≤ 9223372036854775807) (hq : ∀ q ∈ qs, (Lit.int .i64 q).wf = true) : -9223372036854775808 ≤ Elm.val op u x y qs ∧ Elm.val op u x y qs ≤ 9223372036854775807 := by
  have hg : ∀ i, -9223372036854775808 ≤ qs.getD i 0 ∧ qs.getD i 0 ≤ 9223372036854775807 := fun i => by
    rw [List.getD_eq_getElem?_getD]
    cases h : qs[i]? with
    | none => exact ⟨by decide, by decide⟩
    | some q => exact i64_wf (hq q (List.mem_of_getElem? h))
  have hk : ∀ n, -9223372036854775808 ≤ Elm.kept u n ∧ Elm.kept u n ≤ 9223372036854775807 := fun n => by
    unfold Elm.kept Tens.wide Tens.narrow
    split <;> omega
  unfold Elm.val
  have h0 := hg 0
  have h1 := hg 1
  split
  · omega
  split
  · omega
  split
  · unfold Qua.req
    have := clamp_in (Qua.down (Flt.clamp x (-2147483648) 2147483647 * Flt.clamp (qs.getD 0 0) 0 2147483647) (Flt.clamp (qs.getD 1 0) 0 62).toNat + Flt.clamp (qs.getD 2 0) (-128) 127) (-128) 127 (by decide)
    omega
  split
  · rw [IntKind.wrap_i64]
    omega
  · unfold Elm.bin
    split
    · exact hk _
    split
    · exact hk _
    split
    · exact hk _
    · omega
theorem Elm.part_wf (op : Int) (u : Bool) (qs ds es : List Int) (f m : Nat) (hd : ∀ z ∈ ds, (Lit.int .i64 z).wf = true) (he : ∀ z ∈ es, (Lit.int .i64 z).wf = true) (hq : ∀ q ∈ qs, (Lit.int .i64 q).wf = true) : ∀ z ∈ Elm.part op u qs ds es f m, (Lit.int .i64 z).wf = true := by
  have hg : ∀ (l : List Int) (i : Nat), (∀ z ∈ l, (Lit.int .i64 z).wf = true) → -9223372036854775808 ≤ l.getD i 0 ∧ l.getD i 0 ≤ 9223372036854775807 := fun l i hl => by
    rw [List.getD_eq_getElem?_getD]
    cases h : l[i]? with
    | none => exact ⟨by decide, by decide⟩
    | some q => exact i64_wf (hl q (List.mem_of_getElem? h))
  intro z hz
  unfold Elm.part at hz
  obtain ⟨i, -, rfl⟩ := List.mem_map.1 hz
  exact wf_i64 _ (val_i64 op u _ _ qs (hg ds _ hd) (hg es _ he) hq)
/-- An error of a fault, the fourth error among them. -/
def Elm.Err (W : World) (ah am ar ak : Addr) (v : Value) (R : Nat × Option Nat) : Prop := if R = (103, none) then v = errv ak else TErr W ah am ar v R
/-- What is amiss with an operation of tensors. -/
def Elm.fault (op : Int) (qs : List Int) (ts : List Ten) : Nat × Option Nat := if Tens.first ts = (0, none) then (Elm.code op qs (ts.map Ten.look), none) else Tens.first ts
/-- What it comes to. -/
def Elm.ozs (op : Int) (qs : List Int) (ts : List Ten) : List Int := if Elm.fault op qs ts = (0, none) then (ts.head?.map (·.zs)).getD [] else []
def Elm.ou (op : Int) (qs : List Int) (ts : List Ten) : Bool := if Elm.fault op qs ts = (0, none) then Elm.wide op ((ts.head?.map (·.u)).getD false) else false
def Elm.ods (op : Int) (qs : List Int) (ts : List Ten) : List Int := if Elm.fault op qs ts = (0, none) then
  Elm.part op ((ts.head?.map (·.u)).getD false) qs ((ts.head?.map (·.ds)).getD []) ((ts.getLast?.map (·.ds)).getD []) 0 ((ts.head?.map (·.ds.length)).getD 0) else []
end Go.Proofs.YtkehdgjdieemkaaDoor
