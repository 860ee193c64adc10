/-
  shape.Text, walked. By an AI agent. No person has read it.
-/
import Derived.Test.YtnbjcdmiehnceaaDoorShpTx
namespace Go.Proofs.YtnbjcdmiehnceaaDoor
open Go.RowKit

/-- A dimension's text. -/
def Shp.dimText (z : Int) : ByteArray := ⟨(Lib.itoa z).toArray⟩
abbrev noText : ByteArray := ⟨#[]⟩
abbrev strs (l : List ByteArray) : List Value := l.map fun s => Value.string s
theorem strinfo : ∃ i : TypeInfo, Tryd.prog.info? 9 = some i ∧ i.zero = some (.string noText) ∧ i.size = 1 ∧ i.bytes = 16 := by
  obtain ⟨i, hi⟩ : ∃ i, Tryd.prog.info? 9 = some i := by
    refine Option.isSome_iff_exists.1 ?_
    kernel_rfl
  have h1 : (Tryd.prog.info? 9).bind (·.zero) = some (.string noText) := by kernel_rfl
  have h2 : (Tryd.prog.info? 9).map (·.size) = some 1 := by kernel_rfl
  have h3 : (Tryd.prog.info? 9).map (·.bytes) = some 16 := by kernel_rfl
  rw [hi] at h1 h2 h3
  exact ⟨i, hi, by simpa using h1, by simpa using h2, by simpa using h3⟩
theorem uss : Tryd.prog.underlying 90 = some (.slice 9) := by kernel_rfl
/-- make([]string, n). -/
theorem made_strs (n : Nat) (hn : n ≤ 1000000) : ∃ Z : Array Value, Hid (Z = (strs (List.replicate n noText)).toArray) ∧ ∀ w : World, (Instr.makeSlice 90 (.int .i64 n) (.int .i64 n)).run Tryd.prog w = .ok (.slice (some ⟨w.heap.size, 0, none⟩) n n) (w.alloc (.cells Z 9)) := by
  obtain ⟨i0, hi0, hz0, hz1, hz2⟩ := strinfo
  refine ⟨madeCells (Value.string noText).cells n, hide ?_, fun w => ?_⟩
  · apply Array.ext'
    rw [show (Value.string noText).cells = #[Value.string noText] from rfl, toList_madeCells_one]
    simp
  · have h := run_make (P := Tryd.prog) w 90 9 i0 (.string noText) uss hi0 hz0 .i64 .i64 (n : Int) (n : Int) (by omega) (by omega) (by rw [hz2]; omega) (by omega)
    rw [hz1, Int.toNat_natCast, Nat.mul_one] at h
    exact h
/-- The row with its first i laid. -/
def Shp.texts (zs : List Int) (n i : Nat) : List ByteArray := (zs.take i).map Shp.dimText ++ List.replicate (n - i) noText
theorem Shp.texts_cell (zs : List Int) (n i : Nat) (hn : zs.length = n) (h : i < n) : (strs (Shp.texts zs n i))[i]? = some (.string noText) := by
  unfold strs Shp.texts
  rw [List.getElem?_map, List.getElem?_append_right (by rw [List.length_map, List.length_take]; omega), List.length_map, List.length_take, Nat.min_eq_left (by omega), Nat.sub_self, List.getElem?_replicate, if_pos (by omega)]
  rfl
theorem Shp.texts_set (zs : List Int) (n i : Nat) (hn : zs.length = n) (z : Int) (hz : zs[i]? = some z) : (strs (Shp.texts zs n i)).set i (.string (Shp.dimText z)) = strs (Shp.texts zs n (i + 1)) := by
  have hi := (List.getElem?_eq_some_iff.1 hz).1
  unfold strs
  rw [show (Value.string (Shp.dimText z)) = (fun s => Value.string s) (Shp.dimText z) from rfl, ← List.map_set]
  congr 1
  unfold Shp.texts
  have e : n - i = (n - (i + 1)) + 1 := by omega
  rw [List.set_append_right _ _ (by rw [List.length_map, List.length_take]; omega), List.length_map, List.length_take, Nat.min_eq_left (by omega), Nat.sub_self, e, List.replicate_succ, List.set_cons_zero, List.take_add_one, hz, Option.toList_some, List.map_append, List.append_assoc]
  rfl
theorem Shp.texts_join (zs : List Int) : Lib.join ((zs.map Shp.dimText).map (·.data.toList)) [120] = Shp.txt zs := by
  unfold Shp.txt
  congr 1
  rw [List.map_map]
  exact List.map_congr_left fun z _ => by simp [Shp.dimText]
theorem Shp.txt_len (zs : List Int) (h : ∀ z ∈ zs, 0 ≤ z ∧ z < 1000) : (Shp.txt zs).length ≤ 4 * zs.length := by
  have key : ∀ (ys : List Int) (a : Nat), (∀ z ∈ ys, 0 ≤ z ∧ z < 1000) → (Lib.joinTail [120] (ys.map Lib.itoa)).length ≤ 4 * ys.length := by
    intro ys
    induction ys with
    | nil => intro _ _; simp [Lib.joinTail]
    | cons y ys ih =>
      intro a hy
      have h1 := ih a (fun z hz => hy z (List.mem_cons_of_mem _ hz))
      have h2 := itoa_len y (hy y (List.mem_cons_self ..)).1 (hy y (List.mem_cons_self ..)).2
      unfold Lib.joinTail at h1 ⊢
      simp only [List.map_cons, List.flatten_cons, List.length_append, List.length_cons, List.length_nil] at h1 ⊢
      omega
  cases zs with
  | nil => decide
  | cons z zs =>
    unfold Shp.txt
    rw [List.map_cons, Lib.join_cons, List.length_append, List.length_cons]
    have h1 := key zs 0 (fun y hy => h y (List.mem_cons_of_mem _ hy))
    have h2 := itoa_len z (h z (List.mem_cons_self ..)).1 (h z (List.mem_cons_self ..)).2
    omega
set_option maxRecDepth 100000 in
set_option maxHeartbeats 4000000 in
theorem text_c (zs : List Int) (P : Option Addr) (cap : Nat) (wide : Bool) (w : World) (hr : Ri w P zs) (hP : Pz w) (hok : Shp.ok zs = true) :
    Calls Tryd.prog 29 #[.agg (dcells P zs.length cap wide)] w fun e w' => (∃ s, e = .returned (.string s) ∧ Sb s (Shp.text zs wide)) ∧ Below w.heap.size w w' := by
  have hb1 := (Below.refl _ w).alloc (Nat.le_refl _) (Obj.cells (dcells P zs.length cap wide) 24)
  have HB1 := hide hb1
  have HA := hide (hr.below hb1)
  have HD := hide (desc_row w P zs.length cap wide)
  have HP := hide hP
  have HOK := hide hok
  have h4 := ((Shp.ok_iff zs).1 hok).1
  have htl := Shp.txt_len zs (fun z hz => by
    obtain ⟨j, hj⟩ := List.getElem?_of_mem hz
    have := Shp.dims zs hok j z hj
    omega)
  have HTL := hide htl
  obtain ⟨n, hn⟩ : ∃ n, Hid (zs.length = n) := ⟨_, hide rfl⟩
  rw [hn.out] at HB1 HA HD h4 ⊢
  obtain ⟨Z, hZ, hmk⟩ := made_strs n (by omega)
  clear hr hb1 hP hok htl
  obtain ⟨w1, hw1⟩ : ∃ w1, Hid (w.alloc (Obj.cells (dcells P n cap wide) 24) = w1) := ⟨_, hide rfl⟩
  rw [hw1.out] at HB1 HA HD
  have HI0 : Hid (Has (w1.alloc (.cells Z 9)) w1.heap.size 9 (strs (Shp.texts zs n 0))) := by
    rw [hZ.out]
    exact hide (Has.new w1 _ _)
  have hs1 : w1.heap.size = w.heap.size + 1 := by rw [← hw1.out]; simp
  rw [hs1] at HI0
  have HS1 := hide hs1
  have HBZ := hide ((Below.refl (w.heap.size + 1) w1).alloc (Nat.le_of_eq hs1.symm) (.cells Z 9))
  clear hZ hs1
  go_enter Tryd.func29, Tryd.ntmps29
  go_wp2_with fail
  have hw1' := hw1.out
  rw [hw1']
  clear hw1 hw1'
  go_loopw [14] (fun k wr => ∃ i : Nat, i ≤ n ∧ k = .int .i64 i ∧ Hid (Has wr (w.heap.size + 1) 9 (strs (Shp.texts zs n i))) ∧ Hid (Below (w.heap.size + 1) w1 wr)) (fun k _ => n - (intOf k).toNat)
  case atStart => exact ⟨0, by omega, rfl, HI0, HBZ⟩
  case round =>
    obtain ⟨i, hi, rfl, hI, hB⟩ := hrel
    clear HI0 HBZ
    have HBW := hide (HB1.out.trans (hB.out.mono (Nat.le_succ _)))
    by_cases hlt : i < n
    · obtain ⟨ad, z, rfl, ez, cz⟩ := ri_at (HA.out.below (by rw [HS1.out]; exact hB.out)) i (by rw [hn.out]; exact hlt)
      have him : (i : Int) < n := by omega
      have hzb := Shp.dims zs HOK.out i z ez.out
      have HI := hide (itoa_c z (by omega) (by omega) wr (HP.out.below HBW.out HP.out.lt))
      have HST := hide (Shp.texts_set zs n i hn.out z ez.out)
      obtain ⟨q, hq⟩ : ∃ q : ByteArray, Hid (Shp.dimText z = q) := ⟨_, hide rfl⟩
      rw [show (⟨(Lib.itoa z).toArray⟩ : ByteArray) = Shp.dimText z from rfl, hq.out] at HI
      rw [hq.out] at HST
      have hsz := hI.out.lt
      have HSZ := hide hsz
      clear hsz
      go_wp2_with fail
      refine HI.out.mono ?_
      rintro e w5 ⟨rfl, hb5⟩
      have h5 := hI.out.below hb5 HSZ.out
      have hc : w5.cell? ⟨w.heap.size + 1, i, none⟩ = some (.string noText) := by rw [h5.cell, Shp.texts_cell zs n i hn.out hlt]
      have hf := h5.frozen i
      have h6 := h5.set_ i (.string q)
      rw [HST.out] at h6
      have HH := hide h6
      have HB5 := hide ((hB.out.trans (hb5.mono (Nat.le_of_lt HSZ.out))).setCell (p := ⟨w.heap.size + 1, i, none⟩) (Nat.le_refl _) (.string q))
      clear h5 h6 hb5
      go_wp2_with fail
      go_roundw
      case rel => exact ⟨i + 1, by omega, by go_num, HH, HB5⟩
      case measure => simp [intOf]; omega
    · obtain rfl : i = n := by omega
      have hcw : wr.cell? ⟨w.heap.size, 1, none⟩ = some (.bool wide) := by
        rw [(HD.out.below hB.out (by omega)).cell]
        rfl
      have hrow : Has wr (w.heap.size + 1) 9 (strs (zs.map Shp.dimText)) := by
        have h := hI.out
        unfold Shp.texts at h
        rw [Nat.sub_self, List.replicate_zero, List.append_nil, List.take_of_length_le (by rw [hn.out]; exact Nat.le_refl _)] at h
        exact h
      have htl := HTL.out
      have hnn := hn.out
      have hj := join_c (w.heap.size + 1) 0 i (zs.map Shp.dimText) ⟨#[120]⟩ wr (fun j x hx => by
        rw [Nat.zero_add, hrow.cell, List.getElem?_map, hx]; rfl) hrow.lt (by rw [List.length_map]; omega) (by rw [List.length_map]; omega) (by
        rw [show ((⟨#[120]⟩ : ByteArray).data.toList) = [120] from rfl, Shp.texts_join]; omega)
      rw [List.length_map, hn.out, show ((⟨#[120]⟩ : ByteArray).data.toList) = [120] from rfl, Shp.texts_join] at hj
      obtain ⟨q, hq⟩ : ∃ q : ByteArray, Hid (⟨(Shp.txt zs).toArray⟩ = q) := ⟨_, hide rfl⟩
      rw [hq.out] at hj
      have hqb : Sb q (Shp.txt zs) := by rw [← hq.out]; exact Sb.mk _
      have hqz : q.size ≤ 16 := by rw [hqb.size]; omega
      have HQB := hide hqb
      have HJ := hide hj
      have g1 : 2 + q.size ≤ 9223372036854775807 := by omega
      have g2 : 2 + q.size + 1 ≤ 9223372036854775807 := by omega
      clear hj hqb hrow htl hnn hI
      cases wide
      · have HT : Hid (Sb (⟨#[110, 91]⟩ ++ q ++ ⟨#[93]⟩) (Shp.text zs false)) := hide (((Sb.mk [110, 91]).add HQB.out).add (Sb.mk [93]))
        go_wp2_with fail
        refine HJ.out.mono ?_
        rintro e w5 ⟨rfl, hb5⟩
        have hfin := HBW.out.trans (hb5.mono HBW.out.size)
        clear hb5
        go_wp2_with fail
        go_ret
        exact ⟨⟨_, rfl, HT.out⟩, hfin⟩
      · have HT : Hid (Sb (⟨#[119, 91]⟩ ++ q ++ ⟨#[93]⟩) (Shp.text zs true)) := hide (((Sb.mk [119, 91]).add HQB.out).add (Sb.mk [93]))
        go_wp2_with fail
        refine HJ.out.mono ?_
        rintro e w5 ⟨rfl, hb5⟩
        have hfin := HBW.out.trans (hb5.mono HBW.out.size)
        clear hb5
        go_wp2_with fail
        go_ret
        exact ⟨⟨_, rfl, HT.out⟩, hfin⟩
end Go.Proofs.YtnbjcdmiehnceaaDoor
