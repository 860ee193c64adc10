/-
  What the operations of package soft look like; soft.counts, soft.look, walked. By an AI agent. No person has read it.
-/
import Derived.Test.YtcgjnjchkachdaaDoorSftE
namespace Go.Proofs.YtcgjnjchkachdaaDoor
open Go.RowKit

/-- What is held in a region: 5 cells. -/
abbrev SfC5 (p0 p1 p2 p3 p4 : Addr) (v0 v1 v2 v3 v4 : Value) (W : World) : Prop := W.cell? p0 = some v0 ∧ W.cell? p1 = some v1 ∧ W.cell? p2 = some v2 ∧ W.cell? p3 = some v3 ∧ W.cell? p4 = some v4
theorem SfC5.keep {p0 p1 p2 p3 p4 : Addr} {v0 v1 v2 v3 v4 : Value} {W W' : World} (h : SfC5 p0 p1 p2 p3 p4 v0 v1 v2 v3 v4 W) (l0 : p0.block < W.heap.size) (l1 : p1.block < W.heap.size) (l2 : p2.block < W.heap.size) (l3 : p3.block < W.heap.size) (l4 : p4.block < W.heap.size) (hB : Below W.heap.size W W') : SfC5 p0 p1 p2 p3 p4 v0 v1 v2 v3 v4 W' := by
  obtain ⟨h0, h1, h2, h3, h4⟩ := h
  exact ⟨(hB.cell l0).trans h0, (hB.cell l1).trans h1, (hB.cell l2).trans h2, (hB.cell l3).trans h3, (hB.cell l4).trans h4⟩
theorem SfC5.far {p0 p1 p2 p3 p4 : Addr} {v0 v1 v2 v3 v4 : Value} {W : World} (h : SfC5 p0 p1 p2 p3 p4 v0 v1 v2 v3 v4 W) {b : Nat} (l0 : b ≠ p0.block) (l1 : b ≠ p1.block) (l2 : b ≠ p2.block) (l3 : b ≠ p3.block) (l4 : b ≠ p4.block) (j : Nat) (x : Value) : SfC5 p0 p1 p2 p3 p4 v0 v1 v2 v3 v4 (W.setCell ⟨b, j, none⟩ x) := by
  obtain ⟨h0, h1, h2, h3, h4⟩ := h
  have f : ∀ (p : Addr) (v : Value), b ≠ p.block → W.cell? p = some v → (W.setCell ⟨b, j, none⟩ x).cell? p = some v := fun p v hn hc => by
    rw [World.cell?_setCell_far _ _ _ _ (by exact hn)]
    exact hc
  exact ⟨f _ _ l0 h0, f _ _ l1 h1, f _ _ l2 h2, f _ _ l3 h3, f _ _ l4 h4⟩
theorem SfC5.drew {p0 p1 p2 p3 p4 : Addr} {v0 v1 v2 v3 v4 : Value} {W : World} (h : SfC5 p0 p1 p2 p3 p4 v0 v1 v2 v3 v4 W) : SfC5 p0 p1 p2 p3 p4 v0 v1 v2 v3 v4 W.drew := h
def Sf.isOp (op : Int) : Prop := op = 16 ∨ op = 17 ∨ op = 19 ∨ op = 20
def Sf.nins (op : Int) : Nat := if op = 16 ∨ op = 17 then 2 else 1
/-- What an operation comes to looks like; none, if the ins do not fit. -/
def Sf.lk (op : Int) (ds : List Dsc) : Option (List Int × Bool) :=
  match ds with
  | [a] => if 0 < a.zs.length then some (a.zs.dropLast, true) else none
  | [a, b] => if op = 16 then (if a.u = false ∧ 0 < a.zs.length ∧ b.zs = [256] ∧ b.u = true then some (a.zs, false) else none)
    else (if a.zs.length = 2 ∧ b.u = true ∧ b.zs.length = 1 then some ([b.zs.getD 0 0, a.zs.getD 1 0], a.u) else none)
  | _ => none
/-- What soft.look answers. -/
def Sf.LkE (w : World) (ah : Addr) (x : Option (List Int × Bool)) (e : Ending) (w' : World) : Prop :=
  (match x with
  | some (zs, u) => ∃ d : Dsc, e = .returned (.tuple #[.agg (dcells d.P d.zs.length d.cap d.u), .nilIface]) ∧ d.In w' ∧ d.Fresh w.heap.size ∧ d.zs = zs ∧ d.u = u
  | none => e = .returned (.tuple #[.agg (dcells none 0 0 false), errv ah])) ∧ Below w.heap.size w w'
theorem rowd_one {w : World} {B : Option Addr} {a : Dsc} (hR : Row w B ([a].flatMap Dsc.vals)) : ∃ ad, B = some ad ∧ ad.block < w.heap.size ∧ w.cell? ad = some (.slice a.P a.zs.length a.cap) ∧ w.cell? ⟨ad.block, ad.off + 1, none⟩ = some (.bool a.u) := by
  obtain ⟨ad, h1, h2, h3⟩ := hR (by simp [Dsc.vals])
  have c0 := h3 0 _ rfl
  have c1 := h3 1 _ rfl
  rw [Addr.add_zero'] at c0
  simp only [Addr.add, Nat.reduceEqDiff, if_false] at c1
  exact ⟨ad, h1, h2, c0, c1⟩
theorem cut_slice_run (A : Option Addr) (len cap hi : Nat) (h2 : hi ≤ cap) (W : World) :
    (Instr.slice 22 (.slice A len cap) none (some (.int .i64 (hi : Int))) none).run Tryd.prog W = .ok (.slice A hi cap) W := by
  have hu : Tryd.prog.underlying 22 = some (.slice (Tryd.prog.elem 22)) := by kernel_rfl
  have hz : ∀ W : World, (sizeOf (Tryd.prog.elem 22)).run Tryd.prog W = .ok 1 W := fun _ => by kernel_rfl
  rw [run_slice_h W _ _ _ _ hu _ _ (by omega) (by omega), hz]
  simp only [Result.andThen, sliced, Int.toNat_natCast]
  have ha : A.map (·.add 0) = A := by cases A with
    | none => rfl
    | some x => show some (x.add 0) = some x; rw [Addr.add_zero']
  simp [ha]
set_option maxRecDepth 100000 in
theorem scounts_c (op : Int) (hop : Sf.isOp op) (w : World) :
    Calls Tryd.prog 130 #[.int .i64 op] w fun e w' => e = .returned (.int .i64 (Sf.nins op : Nat)) ∧ w' = w := by
  rcases hop with rfl | rfl | rfl | rfl <;>
  · go_enter Tryd.func130, Tryd.ntmps130
    go_wp2_with fail
    go_ret
    exact ⟨rfl, rfl⟩
set_option maxRecDepth 100000 in
set_option maxHeartbeats 8000000 in
theorem slook_row (op : Int) (hop : op = 19 ∨ op = 20) (a : Dsc) (B : Option Addr) (cap : Nat) (ah : Addr) (w : World) (hR : Row w B ([a].flatMap Dsc.vals)) (ha : a.In w) (hE : ErrIs w 0 ah) :
    Calls Tryd.prog 131 #[.int .i64 op, .slice B 1 cap] w (Sf.LkE w ah (Sf.lk op [a])) := by
  have HEs := hide hE
  obtain ⟨W0, hW0⟩ : ∃ W, W = w.alloc (.cells #[.slice none 0 0, .bool false] 24) := ⟨_, rfl⟩
  have HZ : Hid (Has W0 w.heap.size 24 [.slice none 0 0, .bool false]) := hide (by rw [hW0]; exact Has.new _ _ _)
  have HB0 : Hid (Below w.heap.size w W0) := hide (by rw [hW0]; exact (Below.refl _ _).alloc (Nat.le_refl _) _)
  have HV := hide (clone_own a.zs a.P a.cap a.u W0 (ha.shp.below HB0.out) ha.ls)
  obtain ⟨ad, hB, had, c0, c1⟩ := rowd_one hR
  subst hB
  have HWF := hide ha.shp.1
  have HW := hide hW0
  obtain ⟨n, hn⟩ : ∃ n, Hid (a.zs.length = n) := ⟨_, hide rfl⟩
  rw [hn.out] at HV c0
  have hln : (n : Int) ≤ 1000000 := by have := ha.ls; have := hn.out; omega
  have h1 : ∀ op, n = 0 → Sf.lk op [a] = none := fun op h => by unfold Sf.lk; exact if_neg (by rw [hn.out]; omega)
  have h2 : ∀ op, ¬ n = 0 → Sf.lk op [a] = some (a.zs.dropLast, true) := fun op h => by unfold Sf.lk; exact if_pos (by rw [hn.out]; omega)
  clear hR ha hE hW0
  rcases hop with rfl | rfl
  · by_cases h0 : n = 0
    · rw [h1 _ h0]
      have hn0 : ¬ (0 : Int) < (n : Int) := by omega
      clear h1 h2 h0
      go_enter Tryd.func131, Tryd.ntmps131
      go_wp2_with fail
      rw [← HW.out]
      clear HW c0 c1 had
      refine HV.out.mono ?_
      rintro e w1 ⟨⟨g, c, rest, rfl, hg, hc, hcc, hG, hrl⟩, hb⟩
      have hg1 : w.heap.size + 1 ≤ g := by have h1 := HZ.out.lt; omega
      have hgl := hG.lt
      have HG := hide hG
      replace HZ := hide (HZ.out.below hb HZ.out.lt)
      replace HB0 := hide (HB0.out.trans (hb.mono HB0.out.size))
      obtain ⟨W1, hW1⟩ : ∃ W, W = w1.alloc (.cells #[.slice (some ⟨g, 0, none⟩) n c, .bool a.u] 24) := ⟨_, rfl⟩
      have hbA : Below w1.heap.size w1 W1 := by rw [hW1]; exact (Below.refl _ _).alloc (Nat.le_refl _) _
      have HX : Hid (Has W1 w1.heap.size 24 [.slice (some ⟨g, 0, none⟩) n c, .bool a.u]) := hide (by rw [hW1]; exact Has.new _ _ _)
      have hzl : w.heap.size < w1.heap.size := HZ.out.lt
      have HZ0 := HZ
      have HG0 := HG
      have HBq := HB0
      have y0 := HZ.out.cell 0
      have y1 := HZ.out.cell 1
      have yf0 := HZ.out.frozen 0
      have yf1 := HZ.out.frozen 1
      replace HZ := hide (HZ.out.below hbA HZ.out.lt)
      replace HG := hide (HG.out.below hbA HG.out.lt)
      replace HB0 := hide (HB0.out.trans (hbA.mono HB0.out.size))
      have HW1 := hide hW1
      clear hW1 hbA hb hG HV
      obtain ⟨z0, z1, zf0, zf1, HZf, HFf⟩ := elm_twod HZ.out HB0.out (Nat.le_refl _) (.slice none 0 0) (.bool false)
      have hs5 : W1.drew.cell? ⟨0, 0, none⟩ = some (errv ah) := (HEs.out.below HB0.out).1
      have hglt : 0 < w.heap.size := HEs.out.2.1
      have hS9 := hide (HEs.out.below HFf.out).1
      go_wp2_with fail
      rw [← HW1.out]
      clear HW1 y0 y1 yf0 yf1
      go_region_held3 (fun W => W.cell? ⟨0, 0, none⟩ = some (errv ah))
        (first | exact hs5 | assumption | exact hS9.out)
        (first | fail)
      go_wp2_with fail
      refine bodyPost_ret (results_desc rfl _ _ w.heap.size _ _ rfl HZf.out) rfl ?_
      exact ⟨rfl, HFf.out⟩
    · rw [h2 _ h0]
      have hn0 : (0 : Int) < (n : Int) := by omega
      obtain ⟨n', hn'⟩ : ∃ x, Hid (n - 1 = x) := ⟨_, hide rfl⟩
      have hn1 : (n : Int) - 1 = (n' : Int) := by rw [← hn'.out]; omega
      have hkk : wrap64 (n' : Int) = (n' : Int) := by clear hn1; rw [← hn'.out]; unfold wrap64; omega
      have hdl : Hid (a.zs.dropLast.length = n') := hide (by rw [List.length_dropLast, hn.out, hn'.out])
      have hne : Hid (a.zs ≠ []) := hide (by intro h; have := hn.out; rw [h] at this; simp at this; omega)
      clear h1 h2
      go_enter Tryd.func131, Tryd.ntmps131
      go_wp2_with fail
      rw [← HW.out]
      clear HW c0 c1 had
      refine HV.out.mono ?_
      rintro e w1 ⟨⟨g, c, rest, rfl, hg, hc, hcc, hG, hrl⟩, hb⟩
      have hg1 : w.heap.size + 1 ≤ g := by have h1 := HZ.out.lt; omega
      have hgl := hG.lt
      have HG := hide hG
      replace HZ := hide (HZ.out.below hb HZ.out.lt)
      replace HB0 := hide (HB0.out.trans (hb.mono HB0.out.size))
      obtain ⟨W1, hW1⟩ : ∃ W, W = w1.alloc (.cells #[.slice (some ⟨g, 0, none⟩) n c, .bool a.u] 24) := ⟨_, rfl⟩
      have hbA : Below w1.heap.size w1 W1 := by rw [hW1]; exact (Below.refl _ _).alloc (Nat.le_refl _) _
      have HX : Hid (Has W1 w1.heap.size 24 [.slice (some ⟨g, 0, none⟩) n c, .bool a.u]) := hide (by rw [hW1]; exact Has.new _ _ _)
      have hzl : w.heap.size < w1.heap.size := HZ.out.lt
      have HZ0 := HZ
      have HG0 := HG
      have HBq := HB0
      have y0 := HZ.out.cell 0
      have y1 := HZ.out.cell 1
      have yf0 := HZ.out.frozen 0
      have yf1 := HZ.out.frozen 1
      replace HZ := hide (HZ.out.below hbA HZ.out.lt)
      replace HG := hide (HG.out.below hbA HG.out.lt)
      replace HB0 := hide (HB0.out.trans (hbA.mono HB0.out.size))
      have HW1 := hide hW1
      clear hW1 hbA hb hG HV
      have hnc : n' ≤ c := by rw [← hn'.out]; have := hn.out; omega
      have hs := fun W => cut_slice_run (some ⟨g, 0, none⟩) n c n' hnc W
      have HGr : Hid (Has w1 g 3 (i64s a.zs.dropLast ++ (i64s [a.zs.getLast hne.out] ++ rest))) := hide (by
        rw [← List.append_assoc]
        unfold i64s
        rw [← List.map_append, List.dropLast_concat_getLast]
        exact HG0.out)
      obtain ⟨z0, z1, zf0, zf1, HZp, HFp⟩ := elm_two HZ0.out HBq.out (Nat.le_refl _) (.slice (some ⟨g, 0, none⟩) n' c) (.bool true)
      have HZf := hide (HZp.out.alloc (.cells #[.slice (some ⟨g, 0, none⟩) n c, .bool a.u] 24))
      have HFf := hide (HFp.out.alloc HFp.out.size (.cells #[.slice (some ⟨g, 0, none⟩) n c, .bool a.u] 24))
      clear HW1 z0 z1 zf0 zf1
      go_wp2_with fail
      refine bodyPost_ret (results_desc rfl _ _ w.heap.size _ _ rfl HZf.out) rfl ?_
      refine ⟨⟨⟨some ⟨g, 0, none⟩, a.zs.dropLast, c, true⟩, by rw [hdl.out]; rfl, ⟨(((HGr.out.far (p := ⟨w.heap.size, 0, none⟩) (by simp; omega) _).far (p := ⟨w.heap.size, 1, none⟩) (by simp; omega) _).alloc _).ri_app (fun q hq => HWF.out q (List.dropLast_subset _ hq)), by rw [hdl.out]; omega⟩, ?_, rfl, rfl⟩, HFf.out⟩
      intro ad h
      cases h
      show w.heap.size ≤ g
      omega
  · by_cases h0 : n = 0
    · rw [h1 _ h0]
      have hn0 : ¬ (0 : Int) < (n : Int) := by omega
      clear h1 h2 h0
      go_enter Tryd.func131, Tryd.ntmps131
      go_wp2_with fail
      rw [← HW.out]
      clear HW c0 c1 had
      refine HV.out.mono ?_
      rintro e w1 ⟨⟨g, c, rest, rfl, hg, hc, hcc, hG, hrl⟩, hb⟩
      have hg1 : w.heap.size + 1 ≤ g := by have h1 := HZ.out.lt; omega
      have hgl := hG.lt
      have HG := hide hG
      replace HZ := hide (HZ.out.below hb HZ.out.lt)
      replace HB0 := hide (HB0.out.trans (hb.mono HB0.out.size))
      obtain ⟨W1, hW1⟩ : ∃ W, W = w1.alloc (.cells #[.slice (some ⟨g, 0, none⟩) n c, .bool a.u] 24) := ⟨_, rfl⟩
      have hbA : Below w1.heap.size w1 W1 := by rw [hW1]; exact (Below.refl _ _).alloc (Nat.le_refl _) _
      have HX : Hid (Has W1 w1.heap.size 24 [.slice (some ⟨g, 0, none⟩) n c, .bool a.u]) := hide (by rw [hW1]; exact Has.new _ _ _)
      have hzl : w.heap.size < w1.heap.size := HZ.out.lt
      have HZ0 := HZ
      have HG0 := HG
      have HBq := HB0
      have y0 := HZ.out.cell 0
      have y1 := HZ.out.cell 1
      have yf0 := HZ.out.frozen 0
      have yf1 := HZ.out.frozen 1
      replace HZ := hide (HZ.out.below hbA HZ.out.lt)
      replace HG := hide (HG.out.below hbA HG.out.lt)
      replace HB0 := hide (HB0.out.trans (hbA.mono HB0.out.size))
      have HW1 := hide hW1
      clear hW1 hbA hb hG HV
      obtain ⟨z0, z1, zf0, zf1, HZf, HFf⟩ := elm_twod HZ.out HB0.out (Nat.le_refl _) (.slice none 0 0) (.bool false)
      have hs5 : W1.drew.cell? ⟨0, 0, none⟩ = some (errv ah) := (HEs.out.below HB0.out).1
      have hglt : 0 < w.heap.size := HEs.out.2.1
      have hS9 := hide (HEs.out.below HFf.out).1
      go_wp2_with fail
      rw [← HW1.out]
      clear HW1 y0 y1 yf0 yf1
      go_region_held3 (fun W => W.cell? ⟨0, 0, none⟩ = some (errv ah))
        (first | exact hs5 | assumption | exact hS9.out)
        (first | fail)
      go_wp2_with fail
      refine bodyPost_ret (results_desc rfl _ _ w.heap.size _ _ rfl HZf.out) rfl ?_
      exact ⟨rfl, HFf.out⟩
    · rw [h2 _ h0]
      have hn0 : (0 : Int) < (n : Int) := by omega
      obtain ⟨n', hn'⟩ : ∃ x, Hid (n - 1 = x) := ⟨_, hide rfl⟩
      have hn1 : (n : Int) - 1 = (n' : Int) := by rw [← hn'.out]; omega
      have hkk : wrap64 (n' : Int) = (n' : Int) := by clear hn1; rw [← hn'.out]; unfold wrap64; omega
      have hdl : Hid (a.zs.dropLast.length = n') := hide (by rw [List.length_dropLast, hn.out, hn'.out])
      have hne : Hid (a.zs ≠ []) := hide (by intro h; have := hn.out; rw [h] at this; simp at this; omega)
      clear h1 h2
      go_enter Tryd.func131, Tryd.ntmps131
      go_wp2_with fail
      rw [← HW.out]
      clear HW c0 c1 had
      refine HV.out.mono ?_
      rintro e w1 ⟨⟨g, c, rest, rfl, hg, hc, hcc, hG, hrl⟩, hb⟩
      have hg1 : w.heap.size + 1 ≤ g := by have h1 := HZ.out.lt; omega
      have hgl := hG.lt
      have HG := hide hG
      replace HZ := hide (HZ.out.below hb HZ.out.lt)
      replace HB0 := hide (HB0.out.trans (hb.mono HB0.out.size))
      obtain ⟨W1, hW1⟩ : ∃ W, W = w1.alloc (.cells #[.slice (some ⟨g, 0, none⟩) n c, .bool a.u] 24) := ⟨_, rfl⟩
      have hbA : Below w1.heap.size w1 W1 := by rw [hW1]; exact (Below.refl _ _).alloc (Nat.le_refl _) _
      have HX : Hid (Has W1 w1.heap.size 24 [.slice (some ⟨g, 0, none⟩) n c, .bool a.u]) := hide (by rw [hW1]; exact Has.new _ _ _)
      have hzl : w.heap.size < w1.heap.size := HZ.out.lt
      have HZ0 := HZ
      have HG0 := HG
      have HBq := HB0
      have y0 := HZ.out.cell 0
      have y1 := HZ.out.cell 1
      have yf0 := HZ.out.frozen 0
      have yf1 := HZ.out.frozen 1
      replace HZ := hide (HZ.out.below hbA HZ.out.lt)
      replace HG := hide (HG.out.below hbA HG.out.lt)
      replace HB0 := hide (HB0.out.trans (hbA.mono HB0.out.size))
      have HW1 := hide hW1
      clear hW1 hbA hb hG HV
      have hnc : n' ≤ c := by rw [← hn'.out]; have := hn.out; omega
      have hs := fun W => cut_slice_run (some ⟨g, 0, none⟩) n c n' hnc W
      have HGr : Hid (Has w1 g 3 (i64s a.zs.dropLast ++ (i64s [a.zs.getLast hne.out] ++ rest))) := hide (by
        rw [← List.append_assoc]
        unfold i64s
        rw [← List.map_append, List.dropLast_concat_getLast]
        exact HG0.out)
      obtain ⟨z0, z1, zf0, zf1, HZp, HFp⟩ := elm_two HZ0.out HBq.out (Nat.le_refl _) (.slice (some ⟨g, 0, none⟩) n' c) (.bool true)
      have HZf := hide (HZp.out.alloc (.cells #[.slice (some ⟨g, 0, none⟩) n c, .bool a.u] 24))
      have HFf := hide (HFp.out.alloc HFp.out.size (.cells #[.slice (some ⟨g, 0, none⟩) n c, .bool a.u] 24))
      clear HW1 z0 z1 zf0 zf1
      go_wp2_with fail
      refine bodyPost_ret (results_desc rfl _ _ w.heap.size _ _ rfl HZf.out) rfl ?_
      refine ⟨⟨⟨some ⟨g, 0, none⟩, a.zs.dropLast, c, true⟩, by rw [hdl.out]; rfl, ⟨(((HGr.out.far (p := ⟨w.heap.size, 0, none⟩) (by simp; omega) _).far (p := ⟨w.heap.size, 1, none⟩) (by simp; omega) _).alloc _).ri_app (fun q hq => HWF.out q (List.dropLast_subset _ hq)), by rw [hdl.out]; omega⟩, ?_, rfl, rfl⟩, HFf.out⟩
      intro ad h
      cases h
      show w.heap.size ≤ g
      omega
end Go.Proofs.YtcgjnjchkachdaaDoor
