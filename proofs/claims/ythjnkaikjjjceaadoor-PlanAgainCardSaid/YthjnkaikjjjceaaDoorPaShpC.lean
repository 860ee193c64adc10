/-
  shape.Index and the reference's Elems and Index, walked. By an AI agent. No person has read it.
-/
import Derived.Test.YthjnkaikjjjceaaDoorPaShpA
import Derived.Test.YthjnkaikjjjceaaDoorPaBasD
import Derived.Laws.BitsAllLaws
import Derived.Deep.QuietTactic
import Derived.BigQuiet
namespace Go.Proofs.YthjnkaikjjjceaaDoor
open Go.RowKit
theorem Shp.elems_zero (zs : List Int) : (Shp.elems zs = 0) ↔ Shp.ok zs = false := by
  unfold Shp.elems
  cases h : Shp.ok zs
  · simp
  · rw [Shp.ok_iff] at h
    have := (Shp.prod_pos zs h.2.1).1
    rw [if_pos rfl]
    constructor
    · intro h; omega
    · intro h; cases h
end Go.Proofs.YthjnkaikjjjceaaDoor
namespace Go.Proofs.YthjnkaikjjjceaaDoor
open Go.RowKit
/-- A block whose first cells are these ints reads as them. -/
theorem Has.ri_app {w : World} {g : Nat} {t : TypeId} {zs : List Int} {rest : List Value} (h : Has w g t (i64s zs ++ rest)) (hb : ∀ z ∈ zs, (Lit.int .i64 z).wf = true) : Ri w (some ⟨g, 0, none⟩) zs :=
  ⟨hb, fun _ => ⟨_, rfl, h.lt, fun i z hi => by
    have hl := (List.getElem?_eq_some_iff.1 hi).1
    rw [Addr.add_lit, h.cell, Nat.zero_add, List.getElem?_append_left (by simpa using hl)]
    simp [hi]⟩⟩
theorem own_has {w : World} {base n : Nat} {t : TypeId} {v : Value} {zs : List Int} (h : w.ownsRow base t 1 v n (i64s zs)) (hv : v ≠ .slice none 0 0) :
    ∃ g cap rest, v = .slice (some ⟨g, 0, none⟩) n cap ∧ zs.length = n ∧ base ≤ g ∧ n ≤ cap ∧ cap ≤ 9223372036854775807 ∧ Has w g t (i64s zs ++ rest) := by
  have hl : zs.length = n := by simpa using h.1
  rcases h.2 with ⟨rfl, rfl⟩ | ⟨g, cap, cur, rfl, h2, h3, h4, h5, h6, h7⟩
  · exact absurd rfl hv
  · refine ⟨g, cap, cur.toList.drop (n * 1), rfl, hl, h2, h4, by unfold maxLen at h5; omega, ?_⟩
    unfold Has
    rw [← h7, List.take_append_drop]
    exact h3
end Go.Proofs.YthjnkaikjjjceaaDoor
namespace Go.Proofs.YthjnkaikjjjceaaDoor
open Go.RowKit
def Shp.size (zs : List Int) (wide : Bool) : Int := if wide = true then 4 * Shp.elems zs else Shp.elems zs
theorem Shp.size_eq (zs : List Int) (wide : Bool) : Shp.size zs wide = if wide = true then 4 * Shp.elems zs else Shp.elems zs := rfl
/-- The block in which a Desc lies. -/
theorem desc_row (w : World) (P : Option Addr) (n cap : Nat) (wide : Bool) : Has (w.alloc (Obj.cells (dcells P n cap wide) 59)) w.heap.size 59 [.slice P n cap, .bool wide] := Has.new w _ _
set_option maxRecDepth 100000 in
set_option maxHeartbeats 4000000 in
theorem bytes_c (zs : List Int) (P : Option Addr) (cap : Nat) (wide : Bool) (am ar : Addr) (w : World) (hr : Ri w P zs) (hm : zs.length ≤ 9223372036854775807) (hE : E2 w am ar) :
    Calls Tryd.prog 80 #[.agg (dcells P zs.length cap wide)] w fun e w' => e = .returned (.int .i64 (Shp.size zs wide)) ∧ Below w.heap.size w w' := by
  have hb1 := (Below.refl _ w).alloc (Nat.le_refl _) (Obj.cells (dcells P zs.length cap wide) 59)
  have HV := hide (elems_c zs P cap am ar _ (hr.below hb1) hm (hE.below hb1))
  have HB1 := hide hb1
  clear hr hb1 hE
  have hEb := Shp.elems_le zs
  rw [Shp.size_eq]
  obtain ⟨E, hE⟩ : ∃ E, Hid (Shp.elems zs = E) := ⟨_, hide rfl⟩
  rw [hE.out] at HV hEb ⊢
  obtain ⟨n, hn⟩ : ∃ n, Hid (zs.length = n) := ⟨_, hide rfl⟩
  rw [hn.out] at HV HB1 ⊢
  clear hn hE hm
  obtain ⟨t, ht⟩ : ∃ t, Hid (4 * E = t) := ⟨_, hide rfl⟩
  have hw : wrap64 (4 * E) = t := by rw [← ht.out]; unfold wrap64; omega
  have hw' : IntKind.i64.wrap (4 * E) = t := by rw [IntKind.wrap_i64]; have h := hw; unfold wrap64 at h; exact h
  rw [ht.out]
  cases wide
  · rw [if_neg (by decide)]
    go_enter Tryd.func80, Tryd.ntmps80
    go_wp2_with fail
    refine HV.out.mono ?_
    rintro e w1 ⟨rfl, hb⟩
    have hfin := HB1.out.trans (hb.mono HB1.out.size)
    clear hb
    go_wp2_with fail
    go_ret
    exact ⟨rfl, hfin⟩
  · rw [if_pos rfl]
    go_enter Tryd.func80, Tryd.ntmps80
    go_wp2_with fail
    refine HV.out.mono ?_
    rintro e w1 ⟨rfl, hb⟩
    have hfin := HB1.out.trans (hb.mono HB1.out.size)
    clear hb
    go_wp2_with fail
    go_ret
    exact ⟨by first | rw [hw] | rfl, hfin⟩
end Go.Proofs.YthjnkaikjjjceaaDoor
