/-
  plan.each at views, tensors, descriptions and instructions, walked. By an AI agent. No person has read it.
-/
import Derived.Test.YthjnkaikjjjceaaDoorPcPlnWb
import Derived.Test.YthjnkaikjjjceaaDoorPcTenB
namespace Go.Proofs.YthjnkaikjjjceaaDoor
open Go.RowKit
theorem below_grown {W W' : World} (hb : Below W.heap.size W W') : W.grownBy W' none := ⟨hb.os, hb.tape, hb.output, hb.size, fun k hk _ => hb.block k hk⟩
def Ten.zero : Ten := ⟨none, [], 0, false, none, [], 0⟩
def Ins.zero : Ins := ⟨0, 0, none, [], 0, none, [], 0, 0, 0⟩
theorem made_tens (n : Nat) (hn : n ≤ 1000000) : ∃ Z : Array Value, Hid (Z = ((List.replicate n Ten.zero).flatMap Ten.vals).toArray) ∧ ∀ w : World, (Instr.makeSlice 23 (.int .i64 n) (.int .i64 n)).run Tryd.prog w = .ok (.slice (some ⟨w.heap.size, 0, none⟩) n n) (w.alloc (.cells Z 70)) := by
  obtain ⟨i0, hi0, hz0, hz1, hz2⟩ := tnsinfo
  refine ⟨madeCells (Value.agg #[.slice none 0 0, .bool false, .slice none 0 0]).cells (n * 3), hide ?_, fun w => ?_⟩
  · apply Array.ext'
    rw [List.flatMap_def, List.map_replicate]
    exact made_flat #[.slice none 0 0, .bool false, .slice none 0 0] n (by decide)
  · have h := run_make (P := Tryd.prog) w 23 70 i0 (.agg #[.slice none 0 0, .bool false, .slice none 0 0]) utens hi0 hz0 .i64 .i64 (n : Int) (n : Int) (by omega) (by omega) (by rw [hz2]; omega) (by omega)
    rw [hz1, Int.toNat_natCast] at h
    exact h
theorem made_instrs (n : Nat) (hn : n ≤ 1000000) : ∃ Z : Array Value, Hid (Z = ((List.replicate n Ins.zero).flatMap Ins.vals).toArray) ∧ ∀ w : World, (Instr.makeSlice 25 (.int .i64 n) (.int .i64 n)).run Tryd.prog w = .ok (.slice (some ⟨w.heap.size, 0, none⟩) n n) (w.alloc (.cells Z 48)) := by
  obtain ⟨i0, hi0, hz0, hz1, hz2⟩ := insinfo
  refine ⟨madeCells (Value.agg #[.int .i64 0, .int .i64 0, .slice none 0 0, .slice none 0 0, .int .i64 0, .int .i64 0]).cells (n * 6), hide ?_, fun w => ?_⟩
  · apply Array.ext'
    rw [List.flatMap_def, List.map_replicate]
    exact made_flat #[.int .i64 0, .int .i64 0, .slice none 0 0, .slice none 0 0, .int .i64 0, .int .i64 0] n (by decide)
  · have h := run_make (P := Tryd.prog) w 25 48 i0 (.agg #[.int .i64 0, .int .i64 0, .slice none 0 0, .slice none 0 0, .int .i64 0, .int .i64 0]) uins hi0 hz0 .i64 .i64 (n : Int) (n : Int) (by omega) (by omega) (by rw [hz2]; omega) (by omega)
    rw [hz1, Int.toNat_natCast] at h
    exact h
theorem cloneten_c (x : Ten) (w : World) (hx : x.In w) :
    Calls Tryd.prog 61 #[.agg #[.slice x.P x.zs.length x.cap, .bool x.u, .slice x.D x.ds.length x.dcap]] w fun e w' => (∃ y : Ten, e = .returned (.agg #[.slice y.P y.zs.length y.cap, .bool y.u, .slice y.D y.ds.length y.dcap]) ∧ y.pl = x.pl ∧ y.Io w.heap.size w') ∧ Below w.heap.size w w' := by
  refine (show Calls Tryd.prog 61 #[.agg #[.slice x.P x.zs.length x.cap, .bool x.u, .slice x.D x.ds.length x.dcap]] w _ from tclone_c x.zs x.ds x.P x.D x.cap x.dcap x.u w hx.shp hx.dat hx.ls hx.ld).mono ?_
  rintro e w' ⟨⟨g, c, rest, gd, cd, rd, rfl, h1, -, -, h2, h3, -, -, h4, -⟩, hb⟩
  exact ⟨⟨⟨some ⟨g, 0, none⟩, x.zs, c, x.u, some ⟨gd, 0, none⟩, x.ds, cd⟩, rfl, rfl, ⟨hx.shp.1, fun _ => ⟨g, rest, rfl, h1, h2⟩⟩, ⟨hx.dat.1, fun _ => ⟨gd, rd, rfl, h3, h4⟩⟩, hx.ls, hx.ld⟩, hb⟩
theorem clonedsc_c (x : Dsc) (w : World) (hx : x.In w) :
    Calls Tryd.prog 63 #[.agg #[.slice x.P x.zs.length x.cap, .bool x.u]] w fun e w' => (∃ y : Dsc, e = .returned (.agg #[.slice y.P y.zs.length y.cap, .bool y.u]) ∧ y.pl = x.pl ∧ y.Io w.heap.size w') ∧ Below w.heap.size w w' := by
  refine (show Calls Tryd.prog 63 #[.agg #[.slice x.P x.zs.length x.cap, .bool x.u]] w _ from clone_own x.zs x.P x.cap x.u w hx.shp hx.ls).mono ?_
  rintro e w' ⟨⟨g, c, rest, rfl, h1, -, -, h2, -⟩, hb⟩
  exact ⟨⟨⟨some ⟨g, 0, none⟩, x.zs, c, x.u⟩, rfl, rfl, ⟨hx.shp.1, fun _ => ⟨g, rest, rfl, h1, h2⟩⟩, hx.ls⟩, hb⟩
/-- Their args lie apart from all their other ints. -/
def InsApart (L : List Ins) : Prop := ∀ (a b : Nat) (x y : Ins), L[a]? = some x → L[b]? = some y → (a ≠ b → RowOff (.slice x.G x.gs.length x.gc) y.I y.is ∧ RowOff (.slice x.G x.gs.length x.gc) y.G y.gs) ∧ RowOff (.slice x.G x.gs.length x.gc) x.I x.is
theorem InsApart.nil : InsApart [] := fun a b x y h => by simp at h
theorem InsApart.snoc {L : List Ins} {z : Ins} {base : Nat} {w W : World} (h : InsApart L) (hL : ∀ y ∈ L, Ins.Ck base w y) (hz : Ins.Ck w.heap.size W z) (ho : RowOff (.slice z.G z.gs.length z.gc) z.I z.is) : InsApart (L ++ [z]) := by
  intro a b x y ha hb
  rcases Nat.lt_or_ge a L.length with h1 | h1
  · rw [List.getElem?_append_left h1] at ha
    rcases Nat.lt_or_ge b L.length with h2 | h2
    · rw [List.getElem?_append_left h2] at hb
      exact h a b x y ha hb
    · rw [List.getElem?_append_right h2] at hb
      obtain rfl : z = y := by
        have h3 := (List.getElem?_eq_some_iff.1 hb).1
        rw [List.length_singleton] at h3
        rw [show b - L.length = 0 by omega] at hb
        exact Option.some.inj hb
      have hx := hL x (List.mem_of_getElem? ha)
      exact ⟨fun _ => ⟨row_off2 hx.own hz.io.1 (Nat.le_refl _), row_off2 hx.own hz.io.2.1 (Nat.le_refl _)⟩, (h a a x x ha ha).2⟩
  · rw [List.getElem?_append_right h1] at ha
    have h3 := (List.getElem?_eq_some_iff.1 ha).1
    rw [List.length_singleton] at h3
    have ha0 : a = L.length := by omega
    obtain rfl : z = x := by
      rw [show a - L.length = 0 by omega] at ha
      exact Option.some.inj ha
    rcases Nat.lt_or_ge b L.length with h2 | h2
    · rw [List.getElem?_append_left h2] at hb
      have hy := hL y (List.mem_of_getElem? hb)
      exact ⟨fun _ => ⟨row_off1 hy.io.1 hz.own (Nat.le_refl _), row_off1 hy.io.2.1 hz.own (Nat.le_refl _)⟩, ho⟩
    · rw [List.getElem?_append_right h2] at hb
      have h4 := (List.getElem?_eq_some_iff.1 hb).1
      rw [List.length_singleton] at h4
      exact ⟨fun hne => absurd (show a = b by omega) hne, ho⟩
def EachVw (w w' : World) (xs : List Vw) (e : Ending) : Prop := ∃ (g : Nat) (ys : List Vw), e = .returned (.slice (some ⟨g, 0, none⟩) xs.length xs.length) ∧ w.heap.size ≤ g ∧ Has w' g 61 (ys.flatMap Vw.vals) ∧ ys.map Vw.pl = xs.map Vw.pl ∧ (∀ y ∈ ys, Vw.Io w.heap.size w' y)
set_option maxRecDepth 100000 in
set_option maxHeartbeats 8000000 in
theorem each_vw (xs : List Vw) (B : Option Addr) (cap : Nat) (w : World) (hR : Row w B (xs.flatMap Vw.vals)) (hI : ∀ v ∈ xs, v.In w) (hl : xs.length ≤ 1000000) :
    Calls Tryd.prog 58 #[.slice B xs.length cap, .func (Fn.func 59) #[] #[]] w fun e w' => EachVw w w' xs e ∧ Below w.heap.size w w' := by
  have HFIN : Hid (∀ (L : List Vw) (W : World), L.length = xs.length → Has W w.heap.size 61 (L.flatMap Vw.vals) → (L.take xs.length).map Vw.pl = (xs.take xs.length).map Vw.pl → (∀ y ∈ L.take xs.length, Vw.Io w.heap.size W y) → EachVw w W xs (.returned (.slice (some ⟨w.heap.size, 0, none⟩) xs.length xs.length))) := hide (fun L W h1 h2 h3 h4 => by
    rw [List.take_of_length_le (Nat.le_of_eq h1)] at h3 h4
    rw [List.take_length] at h3
    exact ⟨w.heap.size, L, rfl, Nat.le_refl _, h2, h3, h4⟩)
  obtain ⟨n, hn⟩ : ∃ n, Hid (xs.length = n) := ⟨_, hide rfl⟩
  obtain ⟨Z, hZ, hmk⟩ := made_views n (by rw [← hn.out]; exact hl)
  have HMK := hide hmk
  obtain ⟨W0, hW0⟩ : ∃ W0, Hid (w.alloc (.cells Z 61) = W0) := ⟨_, hide rfl⟩
  have hmk0 : (Instr.makeSlice 22 (.int .i64 n) (.int .i64 n)).run Tryd.prog w = .ok (.slice (some ⟨w.heap.size, 0, none⟩) n n) W0 := by rw [← hW0.out]; exact HMK.out w
  have HB0 : Hid (Below w.heap.size w W0) := hide (by rw [← hW0.out]; exact (Below.refl _ w).alloc (Nat.le_refl _) _)
  have HG0 : Hid (Has W0 w.heap.size 61 ((List.replicate n Vw.zero).flatMap Vw.vals)) := hide (by rw [← hW0.out, hZ.out]; exact Has.new w _ _)
  have HLR : Hid ((List.replicate n Vw.zero).length = n) := hide List.length_replicate
  have hnn : n ≤ 1000000 := by rw [← hn.out]; exact hl
  have HR := hide hR
  have HI := hide hI
  rw [hn.out] at HFIN ⊢
  clear hR hI hl hZ hmk HMK hW0
  go_enter Tryd.func58, Tryd.ntmps58
  go_wp2_with fail
  go_loopw [13] (fun k wr => ∃ (i : Nat) (L : List Vw), i ≤ n ∧ k = .int .i64 i ∧ Hid (L.length = n) ∧ Hid (Has wr w.heap.size 61 (L.flatMap Vw.vals)) ∧ Hid ((L.take i).map Vw.pl = (xs.take i).map Vw.pl) ∧ Hid (∀ y ∈ L.take i, Vw.Io w.heap.size wr y) ∧ Hid (Below w.heap.size w wr)) (fun k _ => n - (intOf k).toNat)
  case atStart => exact ⟨0, List.replicate n Vw.zero, by omega, rfl, HLR, HG0, hide rfl, hide (by simp), HB0⟩
  case round =>
    obtain ⟨i, L, hi, rfl, HL, HG, HK, HIO, HB⟩ := hrel
    clear hmk0 HB0 HG0 HLR
    by_cases hlt : i < n
    · obtain ⟨ad, t, rfl, had, ht, c0, c1, c2⟩ := row_vw (HR.out.below HB.out) i (by rw [hn.out]; exact hlt)
      have hHI := (HI.out t (List.mem_of_getElem? ht.out)).below (HB.out)
      have hba := (Below.refl wr.heap.size wr).alloc (Nat.le_refl _) (.cells #[.int .i64 t.off, .slice t.d.P t.d.zs.length t.d.cap, .bool t.d.u] 61)
      have HV := hide (cloneview_c t _ (hHI.below hba))
      have HBA := hide hba
      have hln := had
      clear hHI hba
      go_wp2_with fail
      refine HV.out.mono ?_
      clear c0 c1 c2 HV
      rintro e w2 ⟨⟨y, rfl, hpl, hio⟩, hb⟩
      have HBW2 : Hid (Below wr.heap.size wr w2) := hide (HBA.out.trans (hb.mono HBA.out.size))
      have HBW : Hid (Below w.heap.size w w2) := hide (HB.out.trans (HBW2.out.mono HB.out.size))
      have HG2 : Hid (Has w2 w.heap.size 61 (L.flatMap Vw.vals)) := hide (HG.out.below HBW2.out HG.out.lt)
      have hiL : i < L.length := by rw [HL.out]; exact hlt
      obtain ⟨y0, hy0⟩ : ∃ y0, L[i]? = some y0 := ⟨_, List.getElem?_eq_getElem hiL⟩
      have HY0 := hide hy0
      have hgr : World.grownBy w2 (World.setCell (World.setCell (World.setCell w2 ⟨w.heap.size, i * 3, none⟩ (.int .i64 y.off)) ⟨w.heap.size, i * 3 + 1, none⟩ (.slice y.d.P y.d.zs.length y.d.cap)) ⟨w.heap.size, i * 3 + 2, none⟩ (.bool y.d.u)) (some w.heap.size) := (((grown_cell _ ⟨w.heap.size, i * 3, none⟩ (.int .i64 y.off)).trans (grown_cell _ ⟨w.heap.size, i * 3 + 1, none⟩ (.slice y.d.P y.d.zs.length y.d.cap))).trans (grown_cell _ ⟨w.heap.size, i * 3 + 2, none⟩ (.bool y.d.u)))
      have hnt : NotT w2 (some w.heap.size) 3 := NotT.has HG2.out (by decide)
      have HY : Hid (Vw.Io w.heap.size (World.setCell (World.setCell (World.setCell w2 ⟨w.heap.size, i * 3, none⟩ (.int .i64 y.off)) ⟨w.heap.size, i * 3 + 1, none⟩ (.slice y.d.P y.d.zs.length y.d.cap)) ⟨w.heap.size, i * 3 + 2, none⟩ (.bool y.d.u)) y) := hide (Vw.Io.grown (Vw.Io.less hio (Nat.le_trans HB.out.size HBA.out.size)) hgr hnt)
      have HIO2 : Hid (∀ x ∈ L.take i, Vw.Io w.heap.size (World.setCell (World.setCell (World.setCell w2 ⟨w.heap.size, i * 3, none⟩ (.int .i64 y.off)) ⟨w.heap.size, i * 3 + 1, none⟩ (.slice y.d.P y.d.zs.length y.d.cap)) ⟨w.heap.size, i * 3 + 2, none⟩ (.bool y.d.u)) x) := hide (fun x hx => Vw.Io.grown (Vw.Io.grown (HIO.out x hx) (below_grown HBW2.out) (NotT.none _ _)) hgr hnt)
      have HG3 : Hid (Has (World.setCell (World.setCell (World.setCell w2 ⟨w.heap.size, i * 3, none⟩ (.int .i64 y.off)) ⟨w.heap.size, i * 3 + 1, none⟩ (.slice y.d.P y.d.zs.length y.d.cap)) ⟨w.heap.size, i * 3 + 2, none⟩ (.bool y.d.u)) w.heap.size 61 ((L.set i y).flatMap Vw.vals)) := hide (by
        rw [← flat_put Vw.vals 3 (by decide) (fun _ => rfl) L i y hiL]
        exact (((HG2.out.set_ (i * 3) (.int .i64 y.off)).set_ (i * 3 + 1) (.slice y.d.P y.d.zs.length y.d.cap)).set_ (i * 3 + 2) (.bool y.d.u)))
      have HB3 : Hid (Below w.heap.size w (World.setCell (World.setCell (World.setCell w2 ⟨w.heap.size, i * 3, none⟩ (.int .i64 y.off)) ⟨w.heap.size, i * 3 + 1, none⟩ (.slice y.d.P y.d.zs.length y.d.cap)) ⟨w.heap.size, i * 3 + 2, none⟩ (.bool y.d.u))) := hide (((HBW.out.setCell (p := ⟨w.heap.size, i * 3, none⟩) (Nat.le_refl _) (.int .i64 y.off)).setCell (p := ⟨w.heap.size, i * 3 + 1, none⟩) (Nat.le_refl _) (.slice y.d.P y.d.zs.length y.d.cap)).setCell (p := ⟨w.heap.size, i * 3 + 2, none⟩) (Nat.le_refl _) (.bool y.d.u))
      have HK3 : Hid (((L.set i y).take (i + 1)).map Vw.pl = (xs.take (i + 1)).map Vw.pl) := hide (by
        rw [List.take_add_one, List.take_add_one, List.take_set_of_le (Nat.le_refl _), List.getElem?_set_self hiL, ht.out, List.map_append, List.map_append, HK.out]
        simp [hpl])
      have HI3 : Hid (∀ x ∈ (L.set i y).take (i + 1), Vw.Io w.heap.size (World.setCell (World.setCell (World.setCell w2 ⟨w.heap.size, i * 3, none⟩ (.int .i64 y.off)) ⟨w.heap.size, i * 3 + 1, none⟩ (.slice y.d.P y.d.zs.length y.d.cap)) ⟨w.heap.size, i * 3 + 2, none⟩ (.bool y.d.u)) x) := hide (fun x hx => by
        rw [List.take_add_one, List.take_set_of_le (Nat.le_refl _), List.getElem?_set_self hiL] at hx
        rcases List.mem_append.1 hx with h | h
        · exact HIO2.out x h
        · obtain rfl : x = y := by simpa using h
          exact HY.out)
      have HL3 : Hid ((L.set i y).length = n) := hide (by rw [List.length_set]; exact HL.out)
      have o0 : w2.cell? ⟨w.heap.size, i * 3, none⟩ = some (.int .i64 y0.off) := by rw [HG2.out.cell]; rw [← Nat.add_zero (i * 3)]; rw [flat_at Vw.vals 3 L (fun _ _ => rfl) i _ HY0.out 0 (by decide)]; rfl
      have f0 := HG2.out.frozen (i * 3)
      have o1 : w2.cell? ⟨w.heap.size, i * 3 + 1, none⟩ = some (.slice y0.d.P y0.d.zs.length y0.d.cap) := by rw [HG2.out.cell]; rw [flat_at Vw.vals 3 L (fun _ _ => rfl) i _ HY0.out 1 (by decide)]; rfl
      have f1 := HG2.out.frozen (i * 3 + 1)
      have o2 : w2.cell? ⟨w.heap.size, i * 3 + 2, none⟩ = some (.bool y0.d.u) := by rw [HG2.out.cell]; rw [flat_at Vw.vals 3 L (fun _ _ => rfl) i _ HY0.out 2 (by decide)]; rfl
      have f2 := HG2.out.frozen (i * 3 + 2)
      have hlG : w.heap.size < w2.heap.size := HG2.out.lt
      clear hgr hnt HY HIO2 hio hb HBA HBW2 HBW HG2 HIO HG HB HK hpl hy0 HY0 hiL had hln
      go_wp2_with fail
      clear o0 f0 o1 f1 o2 f2 hlG
      go_roundw
      case rel => exact ⟨i + 1, _, by omega, by go_num, HL3, HG3, HK3, HI3, HB3⟩
      case measure => simp [intOf]; omega
    · obtain rfl : n = i := by omega
      have HE := hide (HFIN.out L wr HL.out HG.out HK.out HIO.out)
      clear HFIN HL HG HK HIO HR HI
      go_wp2_with fail
      go_ret
      exact ⟨HE.out, HB.out⟩
def EachTen (w w' : World) (xs : List Ten) (e : Ending) : Prop := ∃ (g : Nat) (ys : List Ten), e = .returned (.slice (some ⟨g, 0, none⟩) xs.length xs.length) ∧ w.heap.size ≤ g ∧ Has w' g 70 (ys.flatMap Ten.vals) ∧ ys.map Ten.pl = xs.map Ten.pl ∧ (∀ y ∈ ys, Ten.Io w.heap.size w' y)
set_option maxRecDepth 100000 in
set_option maxHeartbeats 8000000 in
theorem each_ten (xs : List Ten) (B : Option Addr) (cap : Nat) (w : World) (hR : Row w B (xs.flatMap Ten.vals)) (hI : ∀ v ∈ xs, v.In w) (hl : xs.length ≤ 1000000) :
    Calls Tryd.prog 60 #[.slice B xs.length cap, .func (Fn.func 61) #[] #[]] w fun e w' => EachTen w w' xs e ∧ Below w.heap.size w w' := by
  have HFIN : Hid (∀ (L : List Ten) (W : World), L.length = xs.length → Has W w.heap.size 70 (L.flatMap Ten.vals) → (L.take xs.length).map Ten.pl = (xs.take xs.length).map Ten.pl → (∀ y ∈ L.take xs.length, Ten.Io w.heap.size W y) → EachTen w W xs (.returned (.slice (some ⟨w.heap.size, 0, none⟩) xs.length xs.length))) := hide (fun L W h1 h2 h3 h4 => by
    rw [List.take_of_length_le (Nat.le_of_eq h1)] at h3 h4
    rw [List.take_length] at h3
    exact ⟨w.heap.size, L, rfl, Nat.le_refl _, h2, h3, h4⟩)
  obtain ⟨n, hn⟩ : ∃ n, Hid (xs.length = n) := ⟨_, hide rfl⟩
  obtain ⟨Z, hZ, hmk⟩ := made_tens n (by rw [← hn.out]; exact hl)
  have HMK := hide hmk
  obtain ⟨W0, hW0⟩ : ∃ W0, Hid (w.alloc (.cells Z 70) = W0) := ⟨_, hide rfl⟩
  have hmk0 : (Instr.makeSlice 23 (.int .i64 n) (.int .i64 n)).run Tryd.prog w = .ok (.slice (some ⟨w.heap.size, 0, none⟩) n n) W0 := by rw [← hW0.out]; exact HMK.out w
  have HB0 : Hid (Below w.heap.size w W0) := hide (by rw [← hW0.out]; exact (Below.refl _ w).alloc (Nat.le_refl _) _)
  have HG0 : Hid (Has W0 w.heap.size 70 ((List.replicate n Ten.zero).flatMap Ten.vals)) := hide (by rw [← hW0.out, hZ.out]; exact Has.new w _ _)
  have HLR : Hid ((List.replicate n Ten.zero).length = n) := hide List.length_replicate
  have hnn : n ≤ 1000000 := by rw [← hn.out]; exact hl
  have HR := hide hR
  have HI := hide hI
  rw [hn.out] at HFIN ⊢
  clear hR hI hl hZ hmk HMK hW0
  go_enter Tryd.func60, Tryd.ntmps60
  go_wp2_with fail
  go_loopw [13] (fun k wr => ∃ (i : Nat) (L : List Ten), i ≤ n ∧ k = .int .i64 i ∧ Hid (L.length = n) ∧ Hid (Has wr w.heap.size 70 (L.flatMap Ten.vals)) ∧ Hid ((L.take i).map Ten.pl = (xs.take i).map Ten.pl) ∧ Hid (∀ y ∈ L.take i, Ten.Io w.heap.size wr y) ∧ Hid (Below w.heap.size w wr)) (fun k _ => n - (intOf k).toNat)
  case atStart => exact ⟨0, List.replicate n Ten.zero, by omega, rfl, HLR, HG0, hide rfl, hide (by simp), HB0⟩
  case round =>
    obtain ⟨i, L, hi, rfl, HL, HG, HK, HIO, HB⟩ := hrel
    clear hmk0 HB0 HG0 HLR
    by_cases hlt : i < n
    · obtain ⟨ad, t, rfl, had, ht, c0, c1, c2⟩ := row_ten (HR.out.below HB.out) i (by rw [hn.out]; exact hlt)
      have hHI := (HI.out t (List.mem_of_getElem? ht.out)).below (HB.out)
      have hba := (Below.refl wr.heap.size wr).alloc (Nat.le_refl _) (.cells #[.slice t.P t.zs.length t.cap, .bool t.u, .slice t.D t.ds.length t.dcap] 70)
      have HV := hide (cloneten_c t _ (hHI.below hba))
      have HBA := hide hba
      have hln := had
      clear hHI hba
      go_wp2_with fail
      refine HV.out.mono ?_
      clear c0 c1 c2 HV
      rintro e w2 ⟨⟨y, rfl, hpl, hio⟩, hb⟩
      have HBW2 : Hid (Below wr.heap.size wr w2) := hide (HBA.out.trans (hb.mono HBA.out.size))
      have HBW : Hid (Below w.heap.size w w2) := hide (HB.out.trans (HBW2.out.mono HB.out.size))
      have HG2 : Hid (Has w2 w.heap.size 70 (L.flatMap Ten.vals)) := hide (HG.out.below HBW2.out HG.out.lt)
      have hiL : i < L.length := by rw [HL.out]; exact hlt
      obtain ⟨y0, hy0⟩ : ∃ y0, L[i]? = some y0 := ⟨_, List.getElem?_eq_getElem hiL⟩
      have HY0 := hide hy0
      have hgr : World.grownBy w2 (World.setCell (World.setCell (World.setCell w2 ⟨w.heap.size, i * 3, none⟩ (.slice y.P y.zs.length y.cap)) ⟨w.heap.size, i * 3 + 1, none⟩ (.bool y.u)) ⟨w.heap.size, i * 3 + 2, none⟩ (.slice y.D y.ds.length y.dcap)) (some w.heap.size) := (((grown_cell _ ⟨w.heap.size, i * 3, none⟩ (.slice y.P y.zs.length y.cap)).trans (grown_cell _ ⟨w.heap.size, i * 3 + 1, none⟩ (.bool y.u))).trans (grown_cell _ ⟨w.heap.size, i * 3 + 2, none⟩ (.slice y.D y.ds.length y.dcap)))
      have hnt : NotT w2 (some w.heap.size) 3 := NotT.has HG2.out (by decide)
      have HY : Hid (Ten.Io w.heap.size (World.setCell (World.setCell (World.setCell w2 ⟨w.heap.size, i * 3, none⟩ (.slice y.P y.zs.length y.cap)) ⟨w.heap.size, i * 3 + 1, none⟩ (.bool y.u)) ⟨w.heap.size, i * 3 + 2, none⟩ (.slice y.D y.ds.length y.dcap)) y) := hide (Ten.Io.grown (Ten.Io.less hio (Nat.le_trans HB.out.size HBA.out.size)) hgr hnt)
      have HIO2 : Hid (∀ x ∈ L.take i, Ten.Io w.heap.size (World.setCell (World.setCell (World.setCell w2 ⟨w.heap.size, i * 3, none⟩ (.slice y.P y.zs.length y.cap)) ⟨w.heap.size, i * 3 + 1, none⟩ (.bool y.u)) ⟨w.heap.size, i * 3 + 2, none⟩ (.slice y.D y.ds.length y.dcap)) x) := hide (fun x hx => Ten.Io.grown (Ten.Io.grown (HIO.out x hx) (below_grown HBW2.out) (NotT.none _ _)) hgr hnt)
      have HG3 : Hid (Has (World.setCell (World.setCell (World.setCell w2 ⟨w.heap.size, i * 3, none⟩ (.slice y.P y.zs.length y.cap)) ⟨w.heap.size, i * 3 + 1, none⟩ (.bool y.u)) ⟨w.heap.size, i * 3 + 2, none⟩ (.slice y.D y.ds.length y.dcap)) w.heap.size 70 ((L.set i y).flatMap Ten.vals)) := hide (by
        rw [← flat_put Ten.vals 3 (by decide) (fun _ => rfl) L i y hiL]
        exact (((HG2.out.set_ (i * 3) (.slice y.P y.zs.length y.cap)).set_ (i * 3 + 1) (.bool y.u)).set_ (i * 3 + 2) (.slice y.D y.ds.length y.dcap)))
      have HB3 : Hid (Below w.heap.size w (World.setCell (World.setCell (World.setCell w2 ⟨w.heap.size, i * 3, none⟩ (.slice y.P y.zs.length y.cap)) ⟨w.heap.size, i * 3 + 1, none⟩ (.bool y.u)) ⟨w.heap.size, i * 3 + 2, none⟩ (.slice y.D y.ds.length y.dcap))) := hide (((HBW.out.setCell (p := ⟨w.heap.size, i * 3, none⟩) (Nat.le_refl _) (.slice y.P y.zs.length y.cap)).setCell (p := ⟨w.heap.size, i * 3 + 1, none⟩) (Nat.le_refl _) (.bool y.u)).setCell (p := ⟨w.heap.size, i * 3 + 2, none⟩) (Nat.le_refl _) (.slice y.D y.ds.length y.dcap))
      have HK3 : Hid (((L.set i y).take (i + 1)).map Ten.pl = (xs.take (i + 1)).map Ten.pl) := hide (by
        rw [List.take_add_one, List.take_add_one, List.take_set_of_le (Nat.le_refl _), List.getElem?_set_self hiL, ht.out, List.map_append, List.map_append, HK.out]
        simp [hpl])
      have HI3 : Hid (∀ x ∈ (L.set i y).take (i + 1), Ten.Io w.heap.size (World.setCell (World.setCell (World.setCell w2 ⟨w.heap.size, i * 3, none⟩ (.slice y.P y.zs.length y.cap)) ⟨w.heap.size, i * 3 + 1, none⟩ (.bool y.u)) ⟨w.heap.size, i * 3 + 2, none⟩ (.slice y.D y.ds.length y.dcap)) x) := hide (fun x hx => by
        rw [List.take_add_one, List.take_set_of_le (Nat.le_refl _), List.getElem?_set_self hiL] at hx
        rcases List.mem_append.1 hx with h | h
        · exact HIO2.out x h
        · obtain rfl : x = y := by simpa using h
          exact HY.out)
      have HL3 : Hid ((L.set i y).length = n) := hide (by rw [List.length_set]; exact HL.out)
      have o0 : w2.cell? ⟨w.heap.size, i * 3, none⟩ = some (.slice y0.P y0.zs.length y0.cap) := by rw [HG2.out.cell]; rw [← Nat.add_zero (i * 3)]; rw [flat_at Ten.vals 3 L (fun _ _ => rfl) i _ HY0.out 0 (by decide)]; rfl
      have f0 := HG2.out.frozen (i * 3)
      have o1 : w2.cell? ⟨w.heap.size, i * 3 + 1, none⟩ = some (.bool y0.u) := by rw [HG2.out.cell]; rw [flat_at Ten.vals 3 L (fun _ _ => rfl) i _ HY0.out 1 (by decide)]; rfl
      have f1 := HG2.out.frozen (i * 3 + 1)
      have o2 : w2.cell? ⟨w.heap.size, i * 3 + 2, none⟩ = some (.slice y0.D y0.ds.length y0.dcap) := by rw [HG2.out.cell]; rw [flat_at Ten.vals 3 L (fun _ _ => rfl) i _ HY0.out 2 (by decide)]; rfl
      have f2 := HG2.out.frozen (i * 3 + 2)
      have hlG : w.heap.size < w2.heap.size := HG2.out.lt
      clear hgr hnt HY HIO2 hio hb HBA HBW2 HBW HG2 HIO HG HB HK hpl hy0 HY0 hiL had hln
      go_wp2_with fail
      clear o0 f0 o1 f1 o2 f2 hlG
      go_roundw
      case rel => exact ⟨i + 1, _, by omega, by go_num, HL3, HG3, HK3, HI3, HB3⟩
      case measure => simp [intOf]; omega
    · obtain rfl : n = i := by omega
      have HE := hide (HFIN.out L wr HL.out HG.out HK.out HIO.out)
      clear HFIN HL HG HK HIO HR HI
      go_wp2_with fail
      go_ret
      exact ⟨HE.out, HB.out⟩
def EachDsc (w w' : World) (xs : List Dsc) (e : Ending) : Prop := ∃ (g : Nat) (ys : List Dsc), e = .returned (.slice (some ⟨g, 0, none⟩) xs.length xs.length) ∧ w.heap.size ≤ g ∧ Has w' g 59 (ys.flatMap Dsc.vals) ∧ ys.map Dsc.pl = xs.map Dsc.pl ∧ (∀ y ∈ ys, Dsc.Io w.heap.size w' y)
set_option maxRecDepth 100000 in
set_option maxHeartbeats 8000000 in
theorem each_dsc (xs : List Dsc) (B : Option Addr) (cap : Nat) (w : World) (hR : Row w B (xs.flatMap Dsc.vals)) (hI : ∀ v ∈ xs, v.In w) (hl : xs.length ≤ 1000000) :
    Calls Tryd.prog 62 #[.slice B xs.length cap, .func (Fn.func 63) #[] #[]] w fun e w' => EachDsc w w' xs e ∧ Below w.heap.size w w' := by
  have HFIN : Hid (∀ (L : List Dsc) (W : World), L.length = xs.length → Has W w.heap.size 59 (L.flatMap Dsc.vals) → (L.take xs.length).map Dsc.pl = (xs.take xs.length).map Dsc.pl → (∀ y ∈ L.take xs.length, Dsc.Io w.heap.size W y) → EachDsc w W xs (.returned (.slice (some ⟨w.heap.size, 0, none⟩) xs.length xs.length))) := hide (fun L W h1 h2 h3 h4 => by
    rw [List.take_of_length_le (Nat.le_of_eq h1)] at h3 h4
    rw [List.take_length] at h3
    exact ⟨w.heap.size, L, rfl, Nat.le_refl _, h2, h3, h4⟩)
  obtain ⟨n, hn⟩ : ∃ n, Hid (xs.length = n) := ⟨_, hide rfl⟩
  obtain ⟨Z, hZ, hmk⟩ := made_descs n (by rw [← hn.out]; exact hl)
  have HMK := hide hmk
  obtain ⟨W0, hW0⟩ : ∃ W0, Hid (w.alloc (.cells Z 59) = W0) := ⟨_, hide rfl⟩
  have hmk0 : (Instr.makeSlice 24 (.int .i64 n) (.int .i64 n)).run Tryd.prog w = .ok (.slice (some ⟨w.heap.size, 0, none⟩) n n) W0 := by rw [← hW0.out]; exact HMK.out w
  have HB0 : Hid (Below w.heap.size w W0) := hide (by rw [← hW0.out]; exact (Below.refl _ w).alloc (Nat.le_refl _) _)
  have HG0 : Hid (Has W0 w.heap.size 59 ((List.replicate n Dsc.zero).flatMap Dsc.vals)) := hide (by rw [← hW0.out, hZ.out]; exact Has.new w _ _)
  have HLR : Hid ((List.replicate n Dsc.zero).length = n) := hide List.length_replicate
  have hnn : n ≤ 1000000 := by rw [← hn.out]; exact hl
  have HR := hide hR
  have HI := hide hI
  rw [hn.out] at HFIN ⊢
  clear hR hI hl hZ hmk HMK hW0
  go_enter Tryd.func62, Tryd.ntmps62
  go_wp2_with fail
  go_loopw [13] (fun k wr => ∃ (i : Nat) (L : List Dsc), i ≤ n ∧ k = .int .i64 i ∧ Hid (L.length = n) ∧ Hid (Has wr w.heap.size 59 (L.flatMap Dsc.vals)) ∧ Hid ((L.take i).map Dsc.pl = (xs.take i).map Dsc.pl) ∧ Hid (∀ y ∈ L.take i, Dsc.Io w.heap.size wr y) ∧ Hid (Below w.heap.size w wr)) (fun k _ => n - (intOf k).toNat)
  case atStart => exact ⟨0, List.replicate n Dsc.zero, by omega, rfl, HLR, HG0, hide rfl, hide (by simp), HB0⟩
  case round =>
    obtain ⟨i, L, hi, rfl, HL, HG, HK, HIO, HB⟩ := hrel
    clear hmk0 HB0 HG0 HLR
    by_cases hlt : i < n
    · obtain ⟨ad, t, rfl, had, ht, c0, c1⟩ := row_dsc (HR.out.below HB.out) i (by rw [hn.out]; exact hlt)
      have hHI := (HI.out t (List.mem_of_getElem? ht.out)).below (HB.out)
      have hba := (Below.refl wr.heap.size wr).alloc (Nat.le_refl _) (.cells #[.slice t.P t.zs.length t.cap, .bool t.u] 59)
      have HV := hide (clonedsc_c t _ (hHI.below hba))
      have HBA := hide hba
      have hln := had
      clear hHI hba
      go_wp2_with fail
      refine HV.out.mono ?_
      clear c0 c1 HV
      rintro e w2 ⟨⟨y, rfl, hpl, hio⟩, hb⟩
      have HBW2 : Hid (Below wr.heap.size wr w2) := hide (HBA.out.trans (hb.mono HBA.out.size))
      have HBW : Hid (Below w.heap.size w w2) := hide (HB.out.trans (HBW2.out.mono HB.out.size))
      have HG2 : Hid (Has w2 w.heap.size 59 (L.flatMap Dsc.vals)) := hide (HG.out.below HBW2.out HG.out.lt)
      have hiL : i < L.length := by rw [HL.out]; exact hlt
      obtain ⟨y0, hy0⟩ : ∃ y0, L[i]? = some y0 := ⟨_, List.getElem?_eq_getElem hiL⟩
      have HY0 := hide hy0
      have hgr : World.grownBy w2 (World.setCell (World.setCell w2 ⟨w.heap.size, i * 2, none⟩ (.slice y.P y.zs.length y.cap)) ⟨w.heap.size, i * 2 + 1, none⟩ (.bool y.u)) (some w.heap.size) := ((grown_cell _ ⟨w.heap.size, i * 2, none⟩ (.slice y.P y.zs.length y.cap)).trans (grown_cell _ ⟨w.heap.size, i * 2 + 1, none⟩ (.bool y.u)))
      have hnt : NotT w2 (some w.heap.size) 3 := NotT.has HG2.out (by decide)
      have HY : Hid (Dsc.Io w.heap.size (World.setCell (World.setCell w2 ⟨w.heap.size, i * 2, none⟩ (.slice y.P y.zs.length y.cap)) ⟨w.heap.size, i * 2 + 1, none⟩ (.bool y.u)) y) := hide (Dsc.Io.grown (Dsc.Io.less hio (Nat.le_trans HB.out.size HBA.out.size)) hgr hnt)
      have HIO2 : Hid (∀ x ∈ L.take i, Dsc.Io w.heap.size (World.setCell (World.setCell w2 ⟨w.heap.size, i * 2, none⟩ (.slice y.P y.zs.length y.cap)) ⟨w.heap.size, i * 2 + 1, none⟩ (.bool y.u)) x) := hide (fun x hx => Dsc.Io.grown (Dsc.Io.grown (HIO.out x hx) (below_grown HBW2.out) (NotT.none _ _)) hgr hnt)
      have HG3 : Hid (Has (World.setCell (World.setCell w2 ⟨w.heap.size, i * 2, none⟩ (.slice y.P y.zs.length y.cap)) ⟨w.heap.size, i * 2 + 1, none⟩ (.bool y.u)) w.heap.size 59 ((L.set i y).flatMap Dsc.vals)) := hide (by
        rw [← flat_put Dsc.vals 2 (by decide) (fun _ => rfl) L i y hiL]
        exact ((HG2.out.set_ (i * 2) (.slice y.P y.zs.length y.cap)).set_ (i * 2 + 1) (.bool y.u)))
      have HB3 : Hid (Below w.heap.size w (World.setCell (World.setCell w2 ⟨w.heap.size, i * 2, none⟩ (.slice y.P y.zs.length y.cap)) ⟨w.heap.size, i * 2 + 1, none⟩ (.bool y.u))) := hide ((HBW.out.setCell (p := ⟨w.heap.size, i * 2, none⟩) (Nat.le_refl _) (.slice y.P y.zs.length y.cap)).setCell (p := ⟨w.heap.size, i * 2 + 1, none⟩) (Nat.le_refl _) (.bool y.u))
      have HK3 : Hid (((L.set i y).take (i + 1)).map Dsc.pl = (xs.take (i + 1)).map Dsc.pl) := hide (by
        rw [List.take_add_one, List.take_add_one, List.take_set_of_le (Nat.le_refl _), List.getElem?_set_self hiL, ht.out, List.map_append, List.map_append, HK.out]
        simp [hpl])
      have HI3 : Hid (∀ x ∈ (L.set i y).take (i + 1), Dsc.Io w.heap.size (World.setCell (World.setCell w2 ⟨w.heap.size, i * 2, none⟩ (.slice y.P y.zs.length y.cap)) ⟨w.heap.size, i * 2 + 1, none⟩ (.bool y.u)) x) := hide (fun x hx => by
        rw [List.take_add_one, List.take_set_of_le (Nat.le_refl _), List.getElem?_set_self hiL] at hx
        rcases List.mem_append.1 hx with h | h
        · exact HIO2.out x h
        · obtain rfl : x = y := by simpa using h
          exact HY.out)
      have HL3 : Hid ((L.set i y).length = n) := hide (by rw [List.length_set]; exact HL.out)
      have o0 : w2.cell? ⟨w.heap.size, i * 2, none⟩ = some (.slice y0.P y0.zs.length y0.cap) := by rw [HG2.out.cell]; rw [← Nat.add_zero (i * 2)]; rw [flat_at Dsc.vals 2 L (fun _ _ => rfl) i _ HY0.out 0 (by decide)]; rfl
      have f0 := HG2.out.frozen (i * 2)
      have o1 : w2.cell? ⟨w.heap.size, i * 2 + 1, none⟩ = some (.bool y0.u) := by rw [HG2.out.cell]; rw [flat_at Dsc.vals 2 L (fun _ _ => rfl) i _ HY0.out 1 (by decide)]; rfl
      have f1 := HG2.out.frozen (i * 2 + 1)
      have hlG : w.heap.size < w2.heap.size := HG2.out.lt
      clear hgr hnt HY HIO2 hio hb HBA HBW2 HBW HG2 HIO HG HB HK hpl hy0 HY0 hiL had hln
      go_wp2_with fail
      clear o0 f0 o1 f1 hlG
      go_roundw
      case rel => exact ⟨i + 1, _, by omega, by go_num, HL3, HG3, HK3, HI3, HB3⟩
      case measure => simp [intOf]; omega
    · obtain rfl : n = i := by omega
      have HE := hide (HFIN.out L wr HL.out HG.out HK.out HIO.out)
      clear HFIN HL HG HK HIO HR HI
      go_wp2_with fail
      go_ret
      exact ⟨HE.out, HB.out⟩
def EachIns (w w' : World) (xs : List Ins) (e : Ending) : Prop := ∃ (g : Nat) (ys : List Ins), e = .returned (.slice (some ⟨g, 0, none⟩) xs.length xs.length) ∧ w.heap.size ≤ g ∧ Has w' g 48 (ys.flatMap Ins.vals) ∧ ys.map Ins.pl = xs.map Ins.pl ∧ (∀ y ∈ ys, Ins.Ck w.heap.size w' y) ∧ InsApart ys
set_option maxRecDepth 100000 in
set_option maxHeartbeats 8000000 in
theorem each_ins (xs : List Ins) (B : Option Addr) (cap : Nat) (w : World) (hR : Row w B (xs.flatMap Ins.vals)) (hI : ∀ v ∈ xs, v.In w) (hl : xs.length ≤ 1000000) :
    Calls Tryd.prog 64 #[.slice B xs.length cap, .func (Fn.func 65) #[] #[]] w fun e w' => EachIns w w' xs e ∧ Below w.heap.size w w' := by
  have HFIN : Hid (∀ (L : List Ins) (W : World), L.length = xs.length → Has W w.heap.size 48 (L.flatMap Ins.vals) → (L.take xs.length).map Ins.pl = (xs.take xs.length).map Ins.pl → (∀ y ∈ L.take xs.length, Ins.Ck w.heap.size W y) → InsApart (L.take xs.length) → EachIns w W xs (.returned (.slice (some ⟨w.heap.size, 0, none⟩) xs.length xs.length))) := hide (fun L W h1 h2 h3 h4 h5 => by
    rw [List.take_of_length_le (Nat.le_of_eq h1)] at h3 h4 h5
    rw [List.take_length] at h3
    exact ⟨w.heap.size, L, rfl, Nat.le_refl _, h2, h3, h4, h5⟩)
  obtain ⟨n, hn⟩ : ∃ n, Hid (xs.length = n) := ⟨_, hide rfl⟩
  obtain ⟨Z, hZ, hmk⟩ := made_instrs n (by rw [← hn.out]; exact hl)
  have HMK := hide hmk
  obtain ⟨W0, hW0⟩ : ∃ W0, Hid (w.alloc (.cells Z 48) = W0) := ⟨_, hide rfl⟩
  have hmk0 : (Instr.makeSlice 25 (.int .i64 n) (.int .i64 n)).run Tryd.prog w = .ok (.slice (some ⟨w.heap.size, 0, none⟩) n n) W0 := by rw [← hW0.out]; exact HMK.out w
  have HB0 : Hid (Below w.heap.size w W0) := hide (by rw [← hW0.out]; exact (Below.refl _ w).alloc (Nat.le_refl _) _)
  have HG0 : Hid (Has W0 w.heap.size 48 ((List.replicate n Ins.zero).flatMap Ins.vals)) := hide (by rw [← hW0.out, hZ.out]; exact Has.new w _ _)
  have HLR : Hid ((List.replicate n Ins.zero).length = n) := hide List.length_replicate
  have hnn : n ≤ 1000000 := by rw [← hn.out]; exact hl
  have HR := hide hR
  have HI := hide hI
  rw [hn.out] at HFIN ⊢
  clear hR hI hl hZ hmk HMK hW0
  go_enter Tryd.func64, Tryd.ntmps64
  go_wp2_with fail
  go_loopw [13] (fun k wr => ∃ (i : Nat) (L : List Ins), i ≤ n ∧ k = .int .i64 i ∧ Hid (L.length = n) ∧ Hid (Has wr w.heap.size 48 (L.flatMap Ins.vals)) ∧ Hid ((L.take i).map Ins.pl = (xs.take i).map Ins.pl) ∧ Hid (∀ y ∈ L.take i, Ins.Ck w.heap.size wr y) ∧ Hid (InsApart (L.take i)) ∧ Hid (Below w.heap.size w wr)) (fun k _ => n - (intOf k).toNat)
  case atStart => exact ⟨0, List.replicate n Ins.zero, by omega, rfl, HLR, HG0, hide rfl, hide (by simp), hide InsApart.nil, HB0⟩
  case round =>
    obtain ⟨i, L, hi, rfl, HL, HG, HK, HIO, HAP, HB⟩ := hrel
    clear hmk0 HB0 HG0 HLR
    by_cases hlt : i < n
    · obtain ⟨ad, t, rfl, had, ht, c0, c1, c2, c3, c4, c5⟩ := row_ins (HR.out.below HB.out) i (by rw [hn.out]; exact hlt)
      have hHI := (HI.out t (List.mem_of_getElem? ht.out)).below (HB.out)
      have hba := (Below.refl wr.heap.size wr).alloc (Nat.le_refl _) (.cells #[.int .i64 t.op, .int .i64 t.dst, .slice t.I t.is.length t.ic, .slice t.G t.gs.length t.gc, .int .i64 t.fr, .int .i64 t.to] 48)
      have HV := hide (cloneins_c t _ (hHI.below hba))
      have HBA := hide hba
      have hln := had
      clear hHI hba
      go_wp2_with fail
      refine HV.out.mono ?_
      clear c0 c1 c2 c3 c4 c5 HV
      rintro e w2 ⟨⟨y, rfl, hpl, hio, hof⟩, hb⟩
      have HBW2 : Hid (Below wr.heap.size wr w2) := hide (HBA.out.trans (hb.mono HBA.out.size))
      have HBW : Hid (Below w.heap.size w w2) := hide (HB.out.trans (HBW2.out.mono HB.out.size))
      have HG2 : Hid (Has w2 w.heap.size 48 (L.flatMap Ins.vals)) := hide (HG.out.below HBW2.out HG.out.lt)
      have hiL : i < L.length := by rw [HL.out]; exact hlt
      obtain ⟨y0, hy0⟩ : ∃ y0, L[i]? = some y0 := ⟨_, List.getElem?_eq_getElem hiL⟩
      have HY0 := hide hy0
      have hgr : World.grownBy w2 (World.setCell (World.setCell (World.setCell (World.setCell (World.setCell (World.setCell w2 ⟨w.heap.size, i * 6, none⟩ (.int .i64 y.op)) ⟨w.heap.size, i * 6 + 1, none⟩ (.int .i64 y.dst)) ⟨w.heap.size, i * 6 + 2, none⟩ (.slice y.I y.is.length y.ic)) ⟨w.heap.size, i * 6 + 3, none⟩ (.slice y.G y.gs.length y.gc)) ⟨w.heap.size, i * 6 + 4, none⟩ (.int .i64 y.fr)) ⟨w.heap.size, i * 6 + 5, none⟩ (.int .i64 y.to)) (some w.heap.size) := ((((((grown_cell _ ⟨w.heap.size, i * 6, none⟩ (.int .i64 y.op)).trans (grown_cell _ ⟨w.heap.size, i * 6 + 1, none⟩ (.int .i64 y.dst))).trans (grown_cell _ ⟨w.heap.size, i * 6 + 2, none⟩ (.slice y.I y.is.length y.ic))).trans (grown_cell _ ⟨w.heap.size, i * 6 + 3, none⟩ (.slice y.G y.gs.length y.gc))).trans (grown_cell _ ⟨w.heap.size, i * 6 + 4, none⟩ (.int .i64 y.fr))).trans (grown_cell _ ⟨w.heap.size, i * 6 + 5, none⟩ (.int .i64 y.to)))
      have hnt : NotT w2 (some w.heap.size) 3 := NotT.has HG2.out (by decide)
      have HY : Hid (Ins.Ck w.heap.size (World.setCell (World.setCell (World.setCell (World.setCell (World.setCell (World.setCell w2 ⟨w.heap.size, i * 6, none⟩ (.int .i64 y.op)) ⟨w.heap.size, i * 6 + 1, none⟩ (.int .i64 y.dst)) ⟨w.heap.size, i * 6 + 2, none⟩ (.slice y.I y.is.length y.ic)) ⟨w.heap.size, i * 6 + 3, none⟩ (.slice y.G y.gs.length y.gc)) ⟨w.heap.size, i * 6 + 4, none⟩ (.int .i64 y.fr)) ⟨w.heap.size, i * 6 + 5, none⟩ (.int .i64 y.to)) y) := hide (Ins.Ck.grown (Ins.Ck.less hio (Nat.le_trans HB.out.size HBA.out.size)) hgr hnt)
      have HIO2 : Hid (∀ x ∈ L.take i, Ins.Ck w.heap.size (World.setCell (World.setCell (World.setCell (World.setCell (World.setCell (World.setCell w2 ⟨w.heap.size, i * 6, none⟩ (.int .i64 y.op)) ⟨w.heap.size, i * 6 + 1, none⟩ (.int .i64 y.dst)) ⟨w.heap.size, i * 6 + 2, none⟩ (.slice y.I y.is.length y.ic)) ⟨w.heap.size, i * 6 + 3, none⟩ (.slice y.G y.gs.length y.gc)) ⟨w.heap.size, i * 6 + 4, none⟩ (.int .i64 y.fr)) ⟨w.heap.size, i * 6 + 5, none⟩ (.int .i64 y.to)) x) := hide (fun x hx => Ins.Ck.grown (Ins.Ck.grown (HIO.out x hx) (below_grown HBW2.out) (NotT.none _ _)) hgr hnt)
      have HG3 : Hid (Has (World.setCell (World.setCell (World.setCell (World.setCell (World.setCell (World.setCell w2 ⟨w.heap.size, i * 6, none⟩ (.int .i64 y.op)) ⟨w.heap.size, i * 6 + 1, none⟩ (.int .i64 y.dst)) ⟨w.heap.size, i * 6 + 2, none⟩ (.slice y.I y.is.length y.ic)) ⟨w.heap.size, i * 6 + 3, none⟩ (.slice y.G y.gs.length y.gc)) ⟨w.heap.size, i * 6 + 4, none⟩ (.int .i64 y.fr)) ⟨w.heap.size, i * 6 + 5, none⟩ (.int .i64 y.to)) w.heap.size 48 ((L.set i y).flatMap Ins.vals)) := hide (by
        rw [← flat_put Ins.vals 6 (by decide) (fun _ => rfl) L i y hiL]
        exact ((((((HG2.out.set_ (i * 6) (.int .i64 y.op)).set_ (i * 6 + 1) (.int .i64 y.dst)).set_ (i * 6 + 2) (.slice y.I y.is.length y.ic)).set_ (i * 6 + 3) (.slice y.G y.gs.length y.gc)).set_ (i * 6 + 4) (.int .i64 y.fr)).set_ (i * 6 + 5) (.int .i64 y.to)))
      have HB3 : Hid (Below w.heap.size w (World.setCell (World.setCell (World.setCell (World.setCell (World.setCell (World.setCell w2 ⟨w.heap.size, i * 6, none⟩ (.int .i64 y.op)) ⟨w.heap.size, i * 6 + 1, none⟩ (.int .i64 y.dst)) ⟨w.heap.size, i * 6 + 2, none⟩ (.slice y.I y.is.length y.ic)) ⟨w.heap.size, i * 6 + 3, none⟩ (.slice y.G y.gs.length y.gc)) ⟨w.heap.size, i * 6 + 4, none⟩ (.int .i64 y.fr)) ⟨w.heap.size, i * 6 + 5, none⟩ (.int .i64 y.to))) := hide ((((((HBW.out.setCell (p := ⟨w.heap.size, i * 6, none⟩) (Nat.le_refl _) (.int .i64 y.op)).setCell (p := ⟨w.heap.size, i * 6 + 1, none⟩) (Nat.le_refl _) (.int .i64 y.dst)).setCell (p := ⟨w.heap.size, i * 6 + 2, none⟩) (Nat.le_refl _) (.slice y.I y.is.length y.ic)).setCell (p := ⟨w.heap.size, i * 6 + 3, none⟩) (Nat.le_refl _) (.slice y.G y.gs.length y.gc)).setCell (p := ⟨w.heap.size, i * 6 + 4, none⟩) (Nat.le_refl _) (.int .i64 y.fr)).setCell (p := ⟨w.heap.size, i * 6 + 5, none⟩) (Nat.le_refl _) (.int .i64 y.to))
      have HK3 : Hid (((L.set i y).take (i + 1)).map Ins.pl = (xs.take (i + 1)).map Ins.pl) := hide (by
        rw [List.take_add_one, List.take_add_one, List.take_set_of_le (Nat.le_refl _), List.getElem?_set_self hiL, ht.out, List.map_append, List.map_append, HK.out]
        simp [hpl])
      have HI3 : Hid (∀ x ∈ (L.set i y).take (i + 1), Ins.Ck w.heap.size (World.setCell (World.setCell (World.setCell (World.setCell (World.setCell (World.setCell w2 ⟨w.heap.size, i * 6, none⟩ (.int .i64 y.op)) ⟨w.heap.size, i * 6 + 1, none⟩ (.int .i64 y.dst)) ⟨w.heap.size, i * 6 + 2, none⟩ (.slice y.I y.is.length y.ic)) ⟨w.heap.size, i * 6 + 3, none⟩ (.slice y.G y.gs.length y.gc)) ⟨w.heap.size, i * 6 + 4, none⟩ (.int .i64 y.fr)) ⟨w.heap.size, i * 6 + 5, none⟩ (.int .i64 y.to)) x) := hide (fun x hx => by
        rw [List.take_add_one, List.take_set_of_le (Nat.le_refl _), List.getElem?_set_self hiL] at hx
        rcases List.mem_append.1 hx with h | h
        · exact HIO2.out x h
        · obtain rfl : x = y := by simpa using h
          exact HY.out)
      have HAP3 : Hid (InsApart ((L.set i y).take (i + 1))) := hide (by
        rw [List.take_add_one, List.take_set_of_le (Nat.le_refl _), List.getElem?_set_self hiL]
        exact HAP.out.snoc HIO.out (Ins.Ck.less hio HBA.out.size) hof)
      have HL3 : Hid ((L.set i y).length = n) := hide (by rw [List.length_set]; exact HL.out)
      have o0 : w2.cell? ⟨w.heap.size, i * 6, none⟩ = some (.int .i64 y0.op) := by rw [HG2.out.cell]; rw [← Nat.add_zero (i * 6)]; rw [flat_at Ins.vals 6 L (fun _ _ => rfl) i _ HY0.out 0 (by decide)]; rfl
      have f0 := HG2.out.frozen (i * 6)
      have o1 : w2.cell? ⟨w.heap.size, i * 6 + 1, none⟩ = some (.int .i64 y0.dst) := by rw [HG2.out.cell]; rw [flat_at Ins.vals 6 L (fun _ _ => rfl) i _ HY0.out 1 (by decide)]; rfl
      have f1 := HG2.out.frozen (i * 6 + 1)
      have o2 : w2.cell? ⟨w.heap.size, i * 6 + 2, none⟩ = some (.slice y0.I y0.is.length y0.ic) := by rw [HG2.out.cell]; rw [flat_at Ins.vals 6 L (fun _ _ => rfl) i _ HY0.out 2 (by decide)]; rfl
      have f2 := HG2.out.frozen (i * 6 + 2)
      have o3 : w2.cell? ⟨w.heap.size, i * 6 + 3, none⟩ = some (.slice y0.G y0.gs.length y0.gc) := by rw [HG2.out.cell]; rw [flat_at Ins.vals 6 L (fun _ _ => rfl) i _ HY0.out 3 (by decide)]; rfl
      have f3 := HG2.out.frozen (i * 6 + 3)
      have o4 : w2.cell? ⟨w.heap.size, i * 6 + 4, none⟩ = some (.int .i64 y0.fr) := by rw [HG2.out.cell]; rw [flat_at Ins.vals 6 L (fun _ _ => rfl) i _ HY0.out 4 (by decide)]; rfl
      have f4 := HG2.out.frozen (i * 6 + 4)
      have o5 : w2.cell? ⟨w.heap.size, i * 6 + 5, none⟩ = some (.int .i64 y0.to) := by rw [HG2.out.cell]; rw [flat_at Ins.vals 6 L (fun _ _ => rfl) i _ HY0.out 5 (by decide)]; rfl
      have f5 := HG2.out.frozen (i * 6 + 5)
      have hlG : w.heap.size < w2.heap.size := HG2.out.lt
      clear hgr hnt HY HIO2 hio hb HBA HBW2 HBW HG2 HIO HG HB HK hpl hy0 HY0 hiL had hln hof HAP
      go_wp2_with fail
      clear o0 f0 o1 f1 o2 f2 o3 f3 o4 f4 o5 f5 hlG
      go_roundw
      case rel => exact ⟨i + 1, _, by omega, by go_num, HL3, HG3, HK3, HI3, HAP3, HB3⟩
      case measure => simp [intOf]; omega
    · obtain rfl : n = i := by omega
      have HE := hide (HFIN.out L wr HL.out HG.out HK.out HIO.out HAP.out)
      clear HFIN HL HG HK HIO HR HI HAP
      go_wp2_with fail
      go_ret
      exact ⟨HE.out, HB.out⟩
end Go.Proofs.YthjnkaikjjjceaaDoor
