/-
  slices.Delete of one element of a row of the call's own, walked. By an AI agent. No person has read it.
-/
import Derived.Test.YtemaaipgjghlaaaDoorAreQ
namespace Go.Proofs.YtemaaipgjghlaaaDoor
open Go.RowKit

/-- append, whose run is known, in a region that draws. -/
theorem step_append_runI {P : Program} {ops : Array Oper} {o : Oper} {a : Act} {w : World} {K : Act → World → Prop} {Q : Exit → Act → World → Prop} {E : Prop}
    (hg : o.guard = none) (d x : Operand) (dT sT : TypeId) (hop : o.op = Op.call { callee := Callee.builtin Builtin.append, args := #[d, x], argTypes := #[dT, sT] })
    (v u : Value) (hd : a.eval d = v) (hx : a.eval x = u) {v' : Value} {w' : World} (hr : (Builtin.append_ #[dT, sT] o.type #[v, u]).run P w = .ok v' w') (hK : K (a.put o.dst v') w') :
    if Region.wanted o (yielded ops a.tmps) = true then Oper.wp P o a w K Q else E := by
  have hw : Region.wanted o (yielded ops a.tmps) = true := by simp [Region.wanted, hg]
  rw [if_pos hw]
  unfold Oper.wp
  simp [execOp, hop, resolve, invoke, builtin, hd, hx, hr, Result.andThen]
  exact hK

set_option maxRecDepth 100000 in
set_option maxHeartbeats 8000000 in
theorem delblk_far (g n cap i base : Nat) (cur : Array Value) (xs : List Value) (w : World) (hlt : i < n) (hnc : n ≤ cap) (hce : cap ≠ i + 1) (hcm : cap ≤ maxLen) (hbg : base ≤ g) (hg : w.heap[g]? = some (.cells cur 64 (0, 0))) (hcs : cur.size = cap * 2) (htake : cur.toList.take (n * 2) = xs) (hn : n ≤ 1000000) (hs1 : ∀ u ∈ xs, u.oneCell' = true) :
    Calls Tryd.prog 30 #[.slice (some ⟨g, 0, none⟩) n cap, .int .i64 (i : Nat), .int .i64 ((i : Int) + 1)] w (DelAt base 64 2 n i (.slice (some ⟨g, 0, none⟩) n cap) xs w) := by
  have mixed : Tryd.prog.follows Departure.mixedOrders = true := by kernel_rfl
  obtain ⟨i0, hi0, hz0, hsz0, hby0⟩ := blk_info
  have hl : xs.length = n * 2 := by rw [← htake, List.length_take, Array.length_toList, hcs]; exact Nat.min_eq_left (Nat.mul_le_mul_right _ hnc)
  have hdl : (xs.drop ((i + 1) * 2)).length = (n - (i + 1)) * 2 := by rw [List.length_drop, hl, Nat.sub_mul]
  obtain ⟨C1, hC1⟩ : ∃ C1 : Array Value, C1 = (cur.toList.take (i * 2) ++ xs.drop ((i + 1) * 2) ++ cur.toList.drop (i * 2 + (xs.drop ((i + 1) * 2)).length)).toArray := ⟨_, rfl⟩
  have hap : ∀ ty c, (Builtin.append_ #[60, 60] ty #[.slice (some ⟨g, 0, none⟩) i cap, .slice (some ⟨g, (i + 1) * 2, none⟩) (n - (i + 1)) c]).run Tryd.prog w.drew = .ok (.slice (some ⟨g, 0, none⟩) (n - 1) cap) (w.drew.setRow g C1) := fun ty c => by
    have h := run_append_room (P := Tryd.prog) w.drew 60 ty 64 i0 uds_blk hi0 g i cap cur hg ⟨g, (i + 1) * 2, none⟩ (n - (i + 1)) c (xs.drop ((i + 1) * 2)) (by rw [hsz0]; exact hdl) (fun j u hj => by
        rw [Addr.add_lit]
        rw [List.getElem?_drop, ← htake, List.getElem?_take] at hj
        split at hj
        · rw [cell_of_row w.drew g ((i + 1) * 2 + j) cur 64 (0, 0) hg, ← Array.getElem?_toList]; exact hj
        · cases hj) (fun u hu => hs1 u (List.mem_of_mem_drop hu)) (by omega) (by rw [hsz0, hdl, hcs]; omega)
    rw [hsz0, show i + (n - (i + 1)) = n - 1 by omega] at h
    rw [hC1]
    exact h
  have hC1l : C1.size = cap * 2 := by
    rw [hC1]
    simp only [List.size_toArray, List.length_append, List.length_take, List.length_drop, Array.length_toList, hcs, hl]
    omega
  have hg1 : (w.drew.setRow g C1).heap[g]? = some (.cells C1 64 (0, 0)) := setRow_heap w.drew g cur C1 64 _ hg
  obtain ⟨C2, hC2⟩ : ∃ C2 : Array Value, C2 = (C1.toList.take ((n - 1) * 2) ++ (Builtin.zeroCells (Value.cells (.agg #[.int .i64 0, .int .i64 0])) 1).toList ++ C1.toList.drop ((n - 1) * 2 + 1 * (Value.cells (.agg #[.int .i64 0, .int .i64 0])).size)).toArray := ⟨_, rfl⟩
  have hcl : ∀ (W : World), W.heap = (w.drew.setRow g C1).heap → ∀ ty c, (Builtin.clear_ #[60] ty #[.slice (some ⟨g, (n - 1) * 2, none⟩) 1 c]).run Tryd.prog W = .ok (.tuple #[]) (W.setRow g C2) := fun W hW ty c => by
    rw [hC2]
    exact run_clear_row W 60 64 ty i0 (.agg #[.int .i64 0, .int .i64 0]) uds_blk hi0 hz0 g ((n - 1) * 2) 1 c C1 64 (by rw [hW]; exact hg1) (by omega) (by show (n - 1) * 2 + 1 * 2 ≤ _; rw [hC1l]; omega) (by
      intro u hu
      simp [Builtin.zeroCells, Value.cells] at hu
      obtain ⟨q, hq, rfl⟩ := hu
      rcases q with _ | _ | _ | _ | q <;> first | rfl | (exfalso; revert hq; simp))
  have fin : Hid (∀ W : World, W.heap = (w.drew.setRow g C1).heap → W.os = w.os → W.tape = w.tape → W.output = w.output → DelAt base 64 2 n i (.slice (some ⟨g, 0, none⟩) n cap) xs w (.returned (.slice (some ⟨g, 0, none⟩) (n - 1) cap)) (W.setRow g C2)) := hide fun W hWh ho ht hp => by
    have hC2l : C2.size = cap * 2 := by
      rw [hC2]
      simp only [List.size_toArray, List.length_append, List.length_take, List.length_drop, Array.length_toList, hC1l, size_zeroCells]
      show min ((n - 1) * 2) (cap * 2) + 1 * 2 + (cap * 2 - ((n - 1) * 2 + 1 * 2)) = _
      omega
    refine ⟨_, rfl, ⟨?_, .inr ⟨g, cap, C2, rfl, hbg, setRow_heap W g C1 C2 64 _ (by rw [hWh]; exact hg1), by omega, hcm, hC2l, ?_⟩⟩, ⟨ho, ht, hp, ?_, ?_⟩, rfl⟩
    · simp only [List.length_append, List.length_take, List.length_drop, hl]; omega
    · rw [hC2, List.append_assoc]
      show ((C1.toList.take ((n - 1) * 2)) ++ _).take ((n - 1) * 2) = _
      rw [List.take_left' (by rw [List.length_take, Array.length_toList, hC1l]; omega), hC1]
      show ((cur.toList.take (i * 2) ++ xs.drop ((i + 1) * 2)) ++ _).take ((n - 1) * 2) = _
      rw [List.take_left' (by rw [List.length_append, List.length_take, Array.length_toList, hcs, hdl]; omega), ← htake, List.take_take, Nat.min_eq_left (by omega)]
    · show w.heap.size ≤ (W.heap.modify g _).size
      rw [Array.size_modify, hWh]
      simp
    · intro j hj hne
      have hne' : j ≠ g := fun e => hne (by simp [Value.ownBlock, e])
      rw [setRow_other W g j C2 hne', hWh, setRow_other w.drew g j C1 hne']
      rfl
  have hq : ¬ ((i : Int) = (i : Int) + 1) := by omega
  have hi : i ≤ n := by omega
  have hic : i ≤ cap := by omega
  have hi1 : (i : Int) + 1 ≤ (n : Int) := by omega
  have hb1 : (0 : Int) ≤ (i : Int) + 1 := by omega
  have htn : ((i : Int) + 1).toNat = i + 1 := by omega
  have hb2 : (i : Int) ≤ (i : Int) + 1 := by omega
  have hb4 : (n : Int) ≤ (cap : Int) := by omega
  have hc0 : ¬ (cap = i) := by omega
  have hc1 : ¬ (cap = i + 1) := hce
  have hc2 : ¬ (cap = n - 1) := by omega
  have hn1 : n - 1 ≤ n := by omega
  have hn2 : n - (n - 1) = 1 := by omega
  clear hi0 hz0 hsz0 hby0 hC1 hC2 hg1 hC1l hdl hl hg hcs htake hs1 hcm hbg hce
  go_enter Tryd.func30, Tryd.ntmps30
  go_wp2_with fail
  go_region_law_o (refine step_append_runI rfl _ _ 60 60 rfl (.slice (some ⟨g, 0, none⟩) i cap) (.slice (some ⟨g, (i + 1) * 2, none⟩) (n - (i + 1)) (cap - (i + 1))) (by simp [Act.eval, Act.put]) (by simp [Act.eval, Act.put]) (hap _ _) ?_)
  go_wp2_with (refine wp_clear_run _ rfl _ 60 rfl _ rfl (hcl _ rfl _ _) ?_)
  go_ret
  exact fin.out _ rfl rfl rfl rfl

set_option maxRecDepth 100000 in
set_option maxHeartbeats 8000000 in
theorem delblk_last (g i base : Nat) (cur : Array Value) (xs : List Value) (w : World) (hcm : i + 1 ≤ maxLen) (hbg : base ≤ g) (hg : w.heap[g]? = some (.cells cur 64 (0, 0))) (hcs : cur.size = (i + 1) * 2) (htake : cur.toList.take ((i + 1) * 2) = xs) (hn : i + 1 ≤ 1000000) :
    Calls Tryd.prog 30 #[.slice (some ⟨g, 0, none⟩) (i + 1) (i + 1), .int .i64 (i : Nat), .int .i64 ((i : Int) + 1)] w (DelAt base 64 2 (i + 1) i (.slice (some ⟨g, 0, none⟩) (i + 1) (i + 1)) xs w) := by
  have mixed : Tryd.prog.follows Departure.mixedOrders = true := by kernel_rfl
  obtain ⟨i0, hi0, hz0, hsz0, hby0⟩ := blk_info
  have hl : xs.length = (i + 1) * 2 := by rw [← htake, List.length_take, Array.length_toList, hcs, Nat.min_self]
  obtain ⟨C1, hC1⟩ : ∃ C1 : Array Value, C1 = (cur.toList.take (i * 2) ++ [] ++ cur.toList.drop (i * 2 + 0)).toArray := ⟨_, rfl⟩
  have hap : ∀ ty, (Builtin.append_ #[60, 60] ty #[.slice (some ⟨g, 0, none⟩) i (i + 1), .slice (some ⟨g, 0, none⟩) 0 0]).run Tryd.prog w.drew = .ok (.slice (some ⟨g, 0, none⟩) i (i + 1)) (w.drew.setRow g C1) := fun ty => by
    have h := run_append_room (P := Tryd.prog) w.drew 60 ty 64 i0 uds_blk hi0 g i (i + 1) cur hg ⟨g, 0, none⟩ 0 0 [] (by simp) (fun j u hj => by simp at hj) (fun u hu => by simp at hu) (by omega) (by rw [hsz0, hcs]; simp only [List.length_nil]; omega)
    rw [hsz0] at h
    rw [hC1]
    exact h
  have hC1l : C1.size = (i + 1) * 2 := by
    rw [hC1]
    simp only [List.size_toArray, List.length_append, List.length_take, List.length_drop, List.length_nil, Array.length_toList, hcs]
    omega
  have hg1 : (w.drew.setRow g C1).heap[g]? = some (.cells C1 64 (0, 0)) := setRow_heap w.drew g cur C1 64 _ hg
  obtain ⟨C2, hC2⟩ : ∃ C2 : Array Value, C2 = (C1.toList.take (i * 2) ++ (Builtin.zeroCells (Value.cells (.agg #[.int .i64 0, .int .i64 0])) 1).toList ++ C1.toList.drop (i * 2 + 1 * (Value.cells (.agg #[.int .i64 0, .int .i64 0])).size)).toArray := ⟨_, rfl⟩
  have hcl : ∀ (W : World), W.heap = (w.drew.setRow g C1).heap → ∀ ty c, (Builtin.clear_ #[60] ty #[.slice (some ⟨g, i * 2, none⟩) 1 c]).run Tryd.prog W = .ok (.tuple #[]) (W.setRow g C2) := fun W hW ty c => by
    rw [hC2]
    exact run_clear_row W 60 64 ty i0 (.agg #[.int .i64 0, .int .i64 0]) uds_blk hi0 hz0 g (i * 2) 1 c C1 64 (by rw [hW]; exact hg1) (by omega) (by show i * 2 + 1 * 2 ≤ _; rw [hC1l]; omega) (by
      intro u hu
      simp [Builtin.zeroCells, Value.cells] at hu
      obtain ⟨q, hq, rfl⟩ := hu
      rcases q with _ | _ | _ | _ | q <;> first | rfl | (exfalso; revert hq; simp))
  have fin : Hid (∀ W : World, W.heap = (w.drew.setRow g C1).heap → W.os = w.os → W.tape = w.tape → W.output = w.output → DelAt base 64 2 (i + 1) i (.slice (some ⟨g, 0, none⟩) (i + 1) (i + 1)) xs w (.returned (.slice (some ⟨g, 0, none⟩) i (i + 1))) (W.setRow g C2)) := hide fun W hWh ho ht hp => by
    have hC2l : C2.size = (i + 1) * 2 := by
      rw [hC2]
      simp only [List.size_toArray, List.length_append, List.length_take, List.length_drop, Array.length_toList, hC1l, size_zeroCells]
      show min (i * 2) ((i + 1) * 2) + 1 * 2 + ((i + 1) * 2 - (i * 2 + 1 * 2)) = _
      omega
    refine ⟨_, rfl, ⟨?_, .inr ⟨g, i + 1, C2, rfl, hbg, setRow_heap W g C1 C2 64 _ (by rw [hWh]; exact hg1), by omega, hcm, hC2l, ?_⟩⟩, ⟨ho, ht, hp, ?_, ?_⟩, rfl⟩
    · simp only [List.length_append, List.length_take, List.length_drop, hl]; omega
    · rw [hC2, List.append_assoc]
      show ((C1.toList.take (i * 2)) ++ _).take (i * 2) = _
      rw [List.take_left' (by rw [List.length_take, Array.length_toList, hC1l]; omega), hC1]
      show ((cur.toList.take (i * 2) ++ []) ++ _).take (i * 2) = _
      rw [List.take_left' (by rw [List.append_nil, List.length_take, Array.length_toList, hcs]; omega), List.append_nil, List.drop_eq_nil_of_le (by omega), List.append_nil, ← htake, List.take_take, Nat.min_eq_left (by omega)]
    · show w.heap.size ≤ (W.heap.modify g _).size
      rw [Array.size_modify, hWh]
      simp
    · intro j hj hne
      have hne' : j ≠ g := fun e => hne (by simp [Value.ownBlock, e])
      rw [setRow_other W g j C2 hne', hWh, setRow_other w.drew g j C1 hne']
      rfl
  have hq : ¬ ((i : Int) = (i : Int) + 1) := by omega
  have hi : i ≤ i + 1 := by omega
  have hb1 : (0 : Int) ≤ (i : Int) + 1 := by omega
  have htn : ((i : Int) + 1).toNat = i + 1 := by omega
  have hb2 : (i : Int) ≤ (i : Int) + 1 := by omega
  have hc0 : ¬ (i + 1 = i) := by omega
  have hn2 : i + 1 - i = 1 := by omega
  clear hi0 hz0 hsz0 hby0 hC1 hC2 hg1 hC1l hl hg hcs htake hcm hbg
  go_enter Tryd.func30, Tryd.ntmps30
  go_wp2_with fail
  go_region_law_o (refine step_append_runI rfl _ _ 60 60 rfl (.slice (some ⟨g, 0, none⟩) i (i + 1)) (.slice (some ⟨g, 0, none⟩) 0 0) (by simp [Act.eval, Act.put]) (by simp [Act.eval, Act.put]) (hap _) ?_)
  go_wp2_with (refine wp_clear_run _ rfl _ 60 rfl _ rfl (hcl _ rfl _ _) ?_)
  go_ret
  exact fin.out _ rfl rfl rfl rfl

theorem delblk_c (v : Value) (n i base : Nat) (xs : List Value) (w : World) (hown : w.ownsRow base 64 2 v n xs) (hi : i < n) (hn : n ≤ 1000000) (hs1 : ∀ u ∈ xs, u.oneCell' = true) :
    Calls Tryd.prog 30 #[v, .int .i64 (i : Nat), .int .i64 ((i : Int) + 1)] w (DelAt base 64 2 n i v xs w) := by
  rcases hown.2 with ⟨-, rfl⟩ | ⟨g, cap, cur, rfl, hbg, hg, hnc, hcm, hcs, htake⟩
  · omega
  · by_cases hce : cap = i + 1
    · subst hce
      obtain rfl : n = i + 1 := by omega
      exact delblk_last g i base cur xs w hcm hbg hg hcs htake hn
    · exact delblk_far g n cap i base cur xs w hi hnc hce hcm hbg hg hcs htake hn hs1

set_option maxRecDepth 100000 in
set_option maxHeartbeats 8000000 in
theorem delhold_far (g n cap i base : Nat) (cur : Array Value) (xs : List Value) (w : World) (hlt : i < n) (hnc : n ≤ cap) (hce : cap ≠ i + 1) (hcm : cap ≤ maxLen) (hbg : base ≤ g) (hg : w.heap[g]? = some (.cells cur 62 (0, 0))) (hcs : cur.size = cap * 4) (htake : cur.toList.take (n * 4) = xs) (hn : n ≤ 1000000) (hs1 : ∀ u ∈ xs, u.oneCell' = true) :
    Calls Tryd.prog 32 #[.slice (some ⟨g, 0, none⟩) n cap, .int .i64 (i : Nat), .int .i64 ((i : Int) + 1)] w (DelAt base 62 4 n i (.slice (some ⟨g, 0, none⟩) n cap) xs w) := by
  have mixed : Tryd.prog.follows Departure.mixedOrders = true := by kernel_rfl
  obtain ⟨i0, hi0, hz0, hsz0, hby0⟩ := hold_info
  have hl : xs.length = n * 4 := by rw [← htake, List.length_take, Array.length_toList, hcs]; exact Nat.min_eq_left (Nat.mul_le_mul_right _ hnc)
  have hdl : (xs.drop ((i + 1) * 4)).length = (n - (i + 1)) * 4 := by rw [List.length_drop, hl, Nat.sub_mul]
  obtain ⟨C1, hC1⟩ : ∃ C1 : Array Value, C1 = (cur.toList.take (i * 4) ++ xs.drop ((i + 1) * 4) ++ cur.toList.drop (i * 4 + (xs.drop ((i + 1) * 4)).length)).toArray := ⟨_, rfl⟩
  have hap : ∀ ty c, (Builtin.append_ #[57, 57] ty #[.slice (some ⟨g, 0, none⟩) i cap, .slice (some ⟨g, (i + 1) * 4, none⟩) (n - (i + 1)) c]).run Tryd.prog w.drew = .ok (.slice (some ⟨g, 0, none⟩) (n - 1) cap) (w.drew.setRow g C1) := fun ty c => by
    have h := run_append_room (P := Tryd.prog) w.drew 57 ty 62 i0 uds_hold hi0 g i cap cur hg ⟨g, (i + 1) * 4, none⟩ (n - (i + 1)) c (xs.drop ((i + 1) * 4)) (by rw [hsz0]; exact hdl) (fun j u hj => by
        rw [Addr.add_lit]
        rw [List.getElem?_drop, ← htake, List.getElem?_take] at hj
        split at hj
        · rw [cell_of_row w.drew g ((i + 1) * 4 + j) cur 62 (0, 0) hg, ← Array.getElem?_toList]; exact hj
        · cases hj) (fun u hu => hs1 u (List.mem_of_mem_drop hu)) (by omega) (by rw [hsz0, hdl, hcs]; omega)
    rw [hsz0, show i + (n - (i + 1)) = n - 1 by omega] at h
    rw [hC1]
    exact h
  have hC1l : C1.size = cap * 4 := by
    rw [hC1]
    simp only [List.size_toArray, List.length_append, List.length_take, List.length_drop, Array.length_toList, hcs, hl]
    omega
  have hg1 : (w.drew.setRow g C1).heap[g]? = some (.cells C1 62 (0, 0)) := setRow_heap w.drew g cur C1 62 _ hg
  obtain ⟨C2, hC2⟩ : ∃ C2 : Array Value, C2 = (C1.toList.take ((n - 1) * 4) ++ (Builtin.zeroCells (Value.cells (.agg #[.int .i64 0, .int .i64 0, .int .i64 0, .slice none 0 0])) 1).toList ++ C1.toList.drop ((n - 1) * 4 + 1 * (Value.cells (.agg #[.int .i64 0, .int .i64 0, .int .i64 0, .slice none 0 0])).size)).toArray := ⟨_, rfl⟩
  have hcl : ∀ (W : World), W.heap = (w.drew.setRow g C1).heap → ∀ ty c, (Builtin.clear_ #[57] ty #[.slice (some ⟨g, (n - 1) * 4, none⟩) 1 c]).run Tryd.prog W = .ok (.tuple #[]) (W.setRow g C2) := fun W hW ty c => by
    rw [hC2]
    exact run_clear_row W 57 62 ty i0 (.agg #[.int .i64 0, .int .i64 0, .int .i64 0, .slice none 0 0]) uds_hold hi0 hz0 g ((n - 1) * 4) 1 c C1 62 (by rw [hW]; exact hg1) (by omega) (by show (n - 1) * 4 + 1 * 4 ≤ _; rw [hC1l]; omega) (by
      intro u hu
      simp [Builtin.zeroCells, Value.cells] at hu
      obtain ⟨q, hq, rfl⟩ := hu
      rcases q with _ | _ | _ | _ | q <;> first | rfl | (exfalso; revert hq; simp))
  have fin : Hid (∀ W : World, W.heap = (w.drew.setRow g C1).heap → W.os = w.os → W.tape = w.tape → W.output = w.output → DelAt base 62 4 n i (.slice (some ⟨g, 0, none⟩) n cap) xs w (.returned (.slice (some ⟨g, 0, none⟩) (n - 1) cap)) (W.setRow g C2)) := hide fun W hWh ho ht hp => by
    have hC2l : C2.size = cap * 4 := by
      rw [hC2]
      simp only [List.size_toArray, List.length_append, List.length_take, List.length_drop, Array.length_toList, hC1l, size_zeroCells]
      show min ((n - 1) * 4) (cap * 4) + 1 * 4 + (cap * 4 - ((n - 1) * 4 + 1 * 4)) = _
      omega
    refine ⟨_, rfl, ⟨?_, .inr ⟨g, cap, C2, rfl, hbg, setRow_heap W g C1 C2 62 _ (by rw [hWh]; exact hg1), by omega, hcm, hC2l, ?_⟩⟩, ⟨ho, ht, hp, ?_, ?_⟩, rfl⟩
    · simp only [List.length_append, List.length_take, List.length_drop, hl]; omega
    · rw [hC2, List.append_assoc]
      show ((C1.toList.take ((n - 1) * 4)) ++ _).take ((n - 1) * 4) = _
      rw [List.take_left' (by rw [List.length_take, Array.length_toList, hC1l]; omega), hC1]
      show ((cur.toList.take (i * 4) ++ xs.drop ((i + 1) * 4)) ++ _).take ((n - 1) * 4) = _
      rw [List.take_left' (by rw [List.length_append, List.length_take, Array.length_toList, hcs, hdl]; omega), ← htake, List.take_take, Nat.min_eq_left (by omega)]
    · show w.heap.size ≤ (W.heap.modify g _).size
      rw [Array.size_modify, hWh]
      simp
    · intro j hj hne
      have hne' : j ≠ g := fun e => hne (by simp [Value.ownBlock, e])
      rw [setRow_other W g j C2 hne', hWh, setRow_other w.drew g j C1 hne']
      rfl
  have hq : ¬ ((i : Int) = (i : Int) + 1) := by omega
  have hi : i ≤ n := by omega
  have hic : i ≤ cap := by omega
  have hi1 : (i : Int) + 1 ≤ (n : Int) := by omega
  have hb1 : (0 : Int) ≤ (i : Int) + 1 := by omega
  have htn : ((i : Int) + 1).toNat = i + 1 := by omega
  have hb2 : (i : Int) ≤ (i : Int) + 1 := by omega
  have hb4 : (n : Int) ≤ (cap : Int) := by omega
  have hc0 : ¬ (cap = i) := by omega
  have hc1 : ¬ (cap = i + 1) := hce
  have hc2 : ¬ (cap = n - 1) := by omega
  have hn1 : n - 1 ≤ n := by omega
  have hn2 : n - (n - 1) = 1 := by omega
  clear hi0 hz0 hsz0 hby0 hC1 hC2 hg1 hC1l hdl hl hg hcs htake hs1 hcm hbg hce
  go_enter Tryd.func32, Tryd.ntmps32
  go_wp2_with fail
  go_region_law_o (refine step_append_runI rfl _ _ 57 57 rfl (.slice (some ⟨g, 0, none⟩) i cap) (.slice (some ⟨g, (i + 1) * 4, none⟩) (n - (i + 1)) (cap - (i + 1))) (by simp [Act.eval, Act.put]) (by simp [Act.eval, Act.put]) (hap _ _) ?_)
  go_wp2_with (refine wp_clear_run _ rfl _ 57 rfl _ rfl (hcl _ rfl _ _) ?_)
  go_ret
  exact fin.out _ rfl rfl rfl rfl

set_option maxRecDepth 100000 in
set_option maxHeartbeats 8000000 in
theorem delhold_last (g i base : Nat) (cur : Array Value) (xs : List Value) (w : World) (hcm : i + 1 ≤ maxLen) (hbg : base ≤ g) (hg : w.heap[g]? = some (.cells cur 62 (0, 0))) (hcs : cur.size = (i + 1) * 4) (htake : cur.toList.take ((i + 1) * 4) = xs) (hn : i + 1 ≤ 1000000) :
    Calls Tryd.prog 32 #[.slice (some ⟨g, 0, none⟩) (i + 1) (i + 1), .int .i64 (i : Nat), .int .i64 ((i : Int) + 1)] w (DelAt base 62 4 (i + 1) i (.slice (some ⟨g, 0, none⟩) (i + 1) (i + 1)) xs w) := by
  have mixed : Tryd.prog.follows Departure.mixedOrders = true := by kernel_rfl
  obtain ⟨i0, hi0, hz0, hsz0, hby0⟩ := hold_info
  have hl : xs.length = (i + 1) * 4 := by rw [← htake, List.length_take, Array.length_toList, hcs, Nat.min_self]
  obtain ⟨C1, hC1⟩ : ∃ C1 : Array Value, C1 = (cur.toList.take (i * 4) ++ [] ++ cur.toList.drop (i * 4 + 0)).toArray := ⟨_, rfl⟩
  have hap : ∀ ty, (Builtin.append_ #[57, 57] ty #[.slice (some ⟨g, 0, none⟩) i (i + 1), .slice (some ⟨g, 0, none⟩) 0 0]).run Tryd.prog w.drew = .ok (.slice (some ⟨g, 0, none⟩) i (i + 1)) (w.drew.setRow g C1) := fun ty => by
    have h := run_append_room (P := Tryd.prog) w.drew 57 ty 62 i0 uds_hold hi0 g i (i + 1) cur hg ⟨g, 0, none⟩ 0 0 [] (by simp) (fun j u hj => by simp at hj) (fun u hu => by simp at hu) (by omega) (by rw [hsz0, hcs]; simp only [List.length_nil]; omega)
    rw [hsz0] at h
    rw [hC1]
    exact h
  have hC1l : C1.size = (i + 1) * 4 := by
    rw [hC1]
    simp only [List.size_toArray, List.length_append, List.length_take, List.length_drop, List.length_nil, Array.length_toList, hcs]
    omega
  have hg1 : (w.drew.setRow g C1).heap[g]? = some (.cells C1 62 (0, 0)) := setRow_heap w.drew g cur C1 62 _ hg
  obtain ⟨C2, hC2⟩ : ∃ C2 : Array Value, C2 = (C1.toList.take (i * 4) ++ (Builtin.zeroCells (Value.cells (.agg #[.int .i64 0, .int .i64 0, .int .i64 0, .slice none 0 0])) 1).toList ++ C1.toList.drop (i * 4 + 1 * (Value.cells (.agg #[.int .i64 0, .int .i64 0, .int .i64 0, .slice none 0 0])).size)).toArray := ⟨_, rfl⟩
  have hcl : ∀ (W : World), W.heap = (w.drew.setRow g C1).heap → ∀ ty c, (Builtin.clear_ #[57] ty #[.slice (some ⟨g, i * 4, none⟩) 1 c]).run Tryd.prog W = .ok (.tuple #[]) (W.setRow g C2) := fun W hW ty c => by
    rw [hC2]
    exact run_clear_row W 57 62 ty i0 (.agg #[.int .i64 0, .int .i64 0, .int .i64 0, .slice none 0 0]) uds_hold hi0 hz0 g (i * 4) 1 c C1 62 (by rw [hW]; exact hg1) (by omega) (by show i * 4 + 1 * 4 ≤ _; rw [hC1l]; omega) (by
      intro u hu
      simp [Builtin.zeroCells, Value.cells] at hu
      obtain ⟨q, hq, rfl⟩ := hu
      rcases q with _ | _ | _ | _ | q <;> first | rfl | (exfalso; revert hq; simp))
  have fin : Hid (∀ W : World, W.heap = (w.drew.setRow g C1).heap → W.os = w.os → W.tape = w.tape → W.output = w.output → DelAt base 62 4 (i + 1) i (.slice (some ⟨g, 0, none⟩) (i + 1) (i + 1)) xs w (.returned (.slice (some ⟨g, 0, none⟩) i (i + 1))) (W.setRow g C2)) := hide fun W hWh ho ht hp => by
    have hC2l : C2.size = (i + 1) * 4 := by
      rw [hC2]
      simp only [List.size_toArray, List.length_append, List.length_take, List.length_drop, Array.length_toList, hC1l, size_zeroCells]
      show min (i * 4) ((i + 1) * 4) + 1 * 4 + ((i + 1) * 4 - (i * 4 + 1 * 4)) = _
      omega
    refine ⟨_, rfl, ⟨?_, .inr ⟨g, i + 1, C2, rfl, hbg, setRow_heap W g C1 C2 62 _ (by rw [hWh]; exact hg1), by omega, hcm, hC2l, ?_⟩⟩, ⟨ho, ht, hp, ?_, ?_⟩, rfl⟩
    · simp only [List.length_append, List.length_take, List.length_drop, hl]; omega
    · rw [hC2, List.append_assoc]
      show ((C1.toList.take (i * 4)) ++ _).take (i * 4) = _
      rw [List.take_left' (by rw [List.length_take, Array.length_toList, hC1l]; omega), hC1]
      show ((cur.toList.take (i * 4) ++ []) ++ _).take (i * 4) = _
      rw [List.take_left' (by rw [List.append_nil, List.length_take, Array.length_toList, hcs]; omega), List.append_nil, List.drop_eq_nil_of_le (by omega), List.append_nil, ← htake, List.take_take, Nat.min_eq_left (by omega)]
    · show w.heap.size ≤ (W.heap.modify g _).size
      rw [Array.size_modify, hWh]
      simp
    · intro j hj hne
      have hne' : j ≠ g := fun e => hne (by simp [Value.ownBlock, e])
      rw [setRow_other W g j C2 hne', hWh, setRow_other w.drew g j C1 hne']
      rfl
  have hq : ¬ ((i : Int) = (i : Int) + 1) := by omega
  have hi : i ≤ i + 1 := by omega
  have hb1 : (0 : Int) ≤ (i : Int) + 1 := by omega
  have htn : ((i : Int) + 1).toNat = i + 1 := by omega
  have hb2 : (i : Int) ≤ (i : Int) + 1 := by omega
  have hc0 : ¬ (i + 1 = i) := by omega
  have hn2 : i + 1 - i = 1 := by omega
  clear hi0 hz0 hsz0 hby0 hC1 hC2 hg1 hC1l hl hg hcs htake hcm hbg
  go_enter Tryd.func32, Tryd.ntmps32
  go_wp2_with fail
  go_region_law_o (refine step_append_runI rfl _ _ 57 57 rfl (.slice (some ⟨g, 0, none⟩) i (i + 1)) (.slice (some ⟨g, 0, none⟩) 0 0) (by simp [Act.eval, Act.put]) (by simp [Act.eval, Act.put]) (hap _) ?_)
  go_wp2_with (refine wp_clear_run _ rfl _ 57 rfl _ rfl (hcl _ rfl _ _) ?_)
  go_ret
  exact fin.out _ rfl rfl rfl rfl

theorem delhold_c (v : Value) (n i base : Nat) (xs : List Value) (w : World) (hown : w.ownsRow base 62 4 v n xs) (hi : i < n) (hn : n ≤ 1000000) (hs1 : ∀ u ∈ xs, u.oneCell' = true) :
    Calls Tryd.prog 32 #[v, .int .i64 (i : Nat), .int .i64 ((i : Int) + 1)] w (DelAt base 62 4 n i v xs w) := by
  rcases hown.2 with ⟨-, rfl⟩ | ⟨g, cap, cur, rfl, hbg, hg, hnc, hcm, hcs, htake⟩
  · omega
  · by_cases hce : cap = i + 1
    · subst hce
      obtain rfl : n = i + 1 := by omega
      exact delhold_last g i base cur xs w hcm hbg hg hcs htake hn
    · exact delhold_far g n cap i base cur xs w hi hnc hce hcm hbg hg hcs htake hn hs1
end Go.Proofs.YtemaaipgjghlaaaDoor
