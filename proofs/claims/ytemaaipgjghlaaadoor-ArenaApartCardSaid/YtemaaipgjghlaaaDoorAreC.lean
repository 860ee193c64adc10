/-
  slices.Insert of one element into a row of the call's own, walked. By an AI agent. No person has read it.
-/
import Derived.Test.YtemaaipgjghlaaaDoorAreB
import Derived.Deep.RegionLaw
import Derived.Shelf.RegionOpenPlain
import Derived.Shelf.Spec.SlicesInsert
namespace Go.Proofs.YtemaaipgjghlaaaDoor
open Go.RowKit

theorem hold_info : ∃ i : TypeInfo, Tryd.prog.info? 62 = some i ∧ i.zero = some (.agg #[.int .i64 0, .int .i64 0, .int .i64 0, .slice none 0 0]) ∧ i.size = 4 ∧ i.bytes = 48 := by
  obtain ⟨i, hi⟩ : ∃ i, Tryd.prog.info? 62 = some i := by
    refine Option.isSome_iff_exists.1 ?_
    kernel_rfl
  have h1 : (Tryd.prog.info? 62).bind (·.zero) = some (.agg #[.int .i64 0, .int .i64 0, .int .i64 0, .slice none 0 0]) := by kernel_rfl
  have h2 : (Tryd.prog.info? 62).map (·.size) = some 4 := by kernel_rfl
  have h3 : (Tryd.prog.info? 62).map (·.bytes) = some 48 := by kernel_rfl
  rw [hi] at h1 h2 h3
  exact ⟨i, hi, by simpa using h1, by simpa using h2, by simpa using h3⟩
theorem blk_info : ∃ i : TypeInfo, Tryd.prog.info? 64 = some i ∧ i.zero = some (.agg #[.int .i64 0, .int .i64 0]) ∧ i.size = 2 ∧ i.bytes = 16 := by
  obtain ⟨i, hi⟩ : ∃ i, Tryd.prog.info? 64 = some i := by
    refine Option.isSome_iff_exists.1 ?_
    kernel_rfl
  have h1 : (Tryd.prog.info? 64).bind (·.zero) = some (.agg #[.int .i64 0, .int .i64 0]) := by kernel_rfl
  have h2 : (Tryd.prog.info? 64).map (·.size) = some 2 := by kernel_rfl
  have h3 : (Tryd.prog.info? 64).map (·.bytes) = some 16 := by kernel_rfl
  rw [hi] at h1 h2 h3
  exact ⟨i, hi, by simpa using h1, by simpa using h2, by simpa using h3⟩
theorem uds_hold : Tryd.prog.underlying 57 = some (.slice 62) := by kernel_rfl
theorem uds_blk : Tryd.prog.underlying 60 = some (.slice 64) := by kernel_rfl
/-- Behind an insertion: a row of one's own with the new one in its place; nothing else is turned but the old row. -/
def InsAt (base : Nat) (E : TypeId) (k n i : Nat) (v : Value) (xs x : List Value) (w : World) (e : Ending) (w' : World) : Prop :=
  ∃ v', e = .returned v' ∧ w'.ownsRow base E k v' (n + 1) (xs.take (i * k) ++ x ++ xs.drop (i * k)) ∧ w.grownBy w' v.ownBlock ∧ (v'.ownBlock = v.ownBlock ∨ v'.ownBlock = some w.heap.size)
theorem ins_list (c xs x : List Value) (a N k a' N' : Nat) (hxs : c.take N = xs) (ha : a ≤ N) (hx : x.length = k) (hc : N + k ≤ c.length) (ha' : a' = a + k) (hN' : N' = N + k) :
    ((((c.take a' ++ xs.drop a ++ c.drop (a' + (xs.drop a).length)).toArray).toList.take a ++ x ++ ((c.take a' ++ xs.drop a ++ c.drop (a' + (xs.drop a).length)).toArray).toList.drop (a + x.length)).toArray).toList.take N' = xs.take a ++ x ++ xs.drop a := by
  subst ha' hN'
  have hl : (c.take (a + k)).length = a + k := by rw [List.length_take]; omega
  have hxl : xs.length = N := by rw [← hxs, List.length_take]; omega
  have h1 : (c.take (a + k) ++ xs.drop a ++ c.drop (a + k + (xs.drop a).length)).take a = xs.take a := by
    rw [List.append_assoc, List.take_append_of_le_length (by omega), List.take_take, Nat.min_eq_left (by omega), ← hxs, List.take_take, Nat.min_eq_left ha]
  have h2 : (c.take (a + k) ++ xs.drop a ++ c.drop (a + k + (xs.drop a).length)).drop (a + x.length) = xs.drop a ++ c.drop (a + k + (xs.drop a).length) := by
    rw [hx, List.append_assoc, List.drop_left' hl]
  rw [h1, h2, ← List.append_assoc]
  have h3 : (xs.take a ++ x ++ xs.drop a).length = N + k := by
    rw [List.length_append, List.length_append, List.length_take, List.length_drop, hx, hxl]; omega
  show (xs.take a ++ x ++ xs.drop a ++ c.drop (a + k + (xs.drop a).length)).take (N + k) = _
  rw [← h3, List.take_left]
theorem ins_list2 (D xs x : List Value) (a N k a' N' : Nat) (hD : D.take a = xs.take a) (hl : xs.length = N) (ha : a ≤ N) (hx : x.length = k) (hc : N + k ≤ D.length) (ha' : a' = a + k) (hN' : N' = N + k) :
    ((((D.take a ++ x ++ D.drop (a + x.length)).toArray).toList.take a' ++ xs.drop a ++ (((D.take a ++ x ++ D.drop (a + x.length)).toArray).toList.drop (a' + (xs.drop a).length))).toArray).toList.take N' = xs.take a ++ x ++ xs.drop a := by
  subst ha' hN'
  have h0 : (D.take a ++ x).length = a + k := by rw [List.length_append, List.length_take, hx]; omega
  have h1 : (D.take a ++ x ++ D.drop (a + x.length)).take (a + k) = xs.take a ++ x := by
    rw [← h0, List.take_left, hD]
  show (((D.take a ++ x ++ D.drop (a + x.length)).take (a + k) ++ xs.drop a ++ ((D.take a ++ x ++ D.drop (a + x.length)).drop (a + k + (xs.drop a).length)))).take (N + k) = _
  rw [h1]
  have h3 : (xs.take a ++ x ++ xs.drop a).length = N + k := by
    rw [List.length_append, List.length_append, List.length_take, List.length_drop, hx, hl]; omega
  rw [← h3, List.take_left]

set_option maxRecDepth 100000 in
set_option maxHeartbeats 8000000 in
theorem inshold_end (v : Value) (n base : Nat) (xs x : List Value) (vb : Nat) (w : World) (hown : w.ownsRow base 62 4 v n xs) (hn : n ≤ 1000000) (hx : Has w vb 62 x) (hxl : x.length = 4) (hx1 : ∀ u ∈ x, u.oneCell' = true) (hbase : base ≤ w.heap.size) :
    Calls Tryd.prog 24 #[v, .int .i64 (n : Nat), .slice (some ⟨vb, 0, none⟩) 1 1] w (InsAt base 62 4 n n v xs x w) := by
  obtain ⟨i0, hi0, hz0, hz1, hz2⟩ := hold_info
  have HI0 := hide hi0
  have HZ0 := hide hz0
  have HZ1 := hide hz1
  have HZ2 := hide hz2
  have HU := hide uds_hold
  have HO := hide hown
  have hnw := hide (fun (j : Nat) (u : Value) (hj : x[j]? = some u) => show w.cell? ((⟨vb, 0, none⟩ : Addr).add j) = some u by rw [Addr.add_lit, hx.cell, Nat.zero_add]; exact hj)
  have h1x := hide hx1
  have hl : xs.length = n * 4 := hown.1
  have hsz := hide hbase
  have hxl' : x.length = 1 * 4 := by omega
  have HXL := hide hxl'
  have fin : Hid (∀ v' w', w'.ownsRow base 62 4 v' (n + 1) (xs ++ x) → w.grownBy w' v.ownBlock → (v'.ownBlock = v.ownBlock ∨ v'.ownBlock = some w.heap.size) → InsAt base 62 4 n n v xs x w (.returned v') w') := hide fun v' w' h2 h3 h4 => ⟨v', rfl, by
    rw [List.take_of_length_le (by omega), List.drop_eq_nil_of_le (by omega), List.append_nil]; exact h2, h3, h4⟩
  have hn1 : ¬ ((n : Int) < 0) := by omega
  clear hi0 hz0 hz1 hz2 hx hx1 hl hbase hxl hxl'
  rcases hown.2 with ⟨rfl, rfl⟩ | ⟨g, cap, cur, rfl, hbg, hg, hnc, hcm, hcs, htake⟩
  · clear hown
    go_enter Tryd.func24, Tryd.ntmps24
    go_wp2_with (at_builtin; refine wpList_append_own_at _ rfl _ _ 57 rfl base 62 i0 (.agg #[.int .i64 0, .int .i64 0, .int .i64 0, .slice none 0 0]) 4 48 HU.out HI0.out HZ0.out HZ1.out HZ2.out rfl (by decide) _ 0 _ rfl HO.out ⟨vb, 0, none⟩ 1 1 x rfl HXL.out hnw.out h1x.out (by unfold maxLen; omega) (by omega) hsz.out ?_; intro s0 W0 hown' hgrow hnil hat; have HF := hide (fin.out s0 W0 hown' hgrow hat); clear hown' hgrow hnil hat)
    go_ret
    exact HF.out
  · clear hown hbg hg hcs htake
    have hn2 : n ≤ cap := hnc
    go_enter Tryd.func24, Tryd.ntmps24
    go_wp2_with (at_builtin; refine wpList_append_own_at _ rfl _ _ 57 rfl base 62 i0 (.agg #[.int .i64 0, .int .i64 0, .int .i64 0, .slice none 0 0]) 4 48 HU.out HI0.out HZ0.out HZ1.out HZ2.out rfl (by decide) _ n _ rfl HO.out ⟨vb, 0, none⟩ 1 1 x rfl HXL.out hnw.out h1x.out (by unfold maxLen; omega) (by omega) hsz.out ?_; intro s0 W0 hown' hgrow hnil hat; have HF := hide (fin.out s0 W0 hown' hgrow hat); clear hown' hgrow hnil hat)
    all_goals (go_ret; exact HF.out)

set_option maxRecDepth 100000 in
set_option maxHeartbeats 8000000 in
theorem inshold_room (g n cap i base : Nat) (cur : Array Value) (xs x : List Value) (vb : Nat) (w : World) (hlt : i < n) (hroom : n + 1 ≤ cap) (hcm : cap ≤ maxLen) (hbg : base ≤ g) (hg : w.heap[g]? = some (.cells cur 62 (0, 0))) (hcs : cur.size = cap * 4) (htake : cur.toList.take (n * 4) = xs) (hn : n ≤ 1000000) (hx : Has w vb 62 x) (hxl : x.length = 4) (hx1 : ∀ u ∈ x, u.oneCell' = true) (hvb : vb ≠ g) (hs1 : ∀ u ∈ xs, u.oneCell' = true) :
    Calls Tryd.prog 24 #[.slice (some ⟨g, 0, none⟩) n cap, .int .i64 (i : Nat), .slice (some ⟨vb, 0, none⟩) 1 1] w (InsAt base 62 4 n i (.slice (some ⟨g, 0, none⟩) n cap) xs x w) := by
  have hw1 : IntKind.i64.wrap ((i : Int) + 1) = (i : Int) + 1 := by rw [IntKind.wrap_i64]; omega
  have hw2 : IntKind.i64.wrap ((n : Int) + 1) = (n : Int) + 1 := by rw [IntKind.wrap_i64]; omega
  have hb1 : (0 : Int) ≤ (i : Int) + 1 := by omega
  have htn : ((i : Int) + 1).toNat = i + 1 := by omega
  have hb3 : (i : Int) ≤ (n : Int) + 1 := by omega
  have hq : ((i : Int) == (n : Int)) = false := by simp; omega
  have hq2 : ¬ ((i : Int) = (n : Int)) := by omega
  have hr : ¬ ((cap : Int) < ((n + 1 : Nat) : Int)) := by omega
  have hi : i ≤ n := by omega
  have hi2 : i ≤ cap := by omega
  have hi3 : i + 1 ≤ n + 1 := by omega
  have hc0 : ¬ (cap = i) := by omega
  have hc1 : ¬ (cap = i + 1) := by omega
  have mixed : Tryd.prog.follows Departure.mixedOrders = true := by kernel_rfl
  obtain ⟨i0, hi0, -, hsz0, -⟩ := hold_info
  have hdl : (xs.drop (i * 4)).length = (n - i) * 4 := by rw [List.length_drop, ← htake, List.length_take, Array.length_toList, hcs, Nat.min_eq_left (Nat.mul_le_mul_right _ (by omega)), Nat.sub_mul]
  have hov : ∀ lb cb, (callFunc 39 #[.slice (some ⟨vb, 0, none⟩) 1 1, .slice (some ⟨g, (i + 1) * 4, none⟩) lb cb]).run Tryd.prog w = .ok (.value (.bool false)) w := fun lb cb => by
    rw [run_callFunc_extern Tryd.func39 (by kernel_rfl) (by kernel_rfl) (by kernel_rfl) (show Extern.find Tryd.f39 = some (Extern.SlicesOverlaps.overlaps #[57, 57] #[4]) by kernel_rfl),
      Lib.run_overlaps_apart w 57 4 62 uds_hold 4 (fun _ => by simp [sizeOf, typeInfo, hi0, hsz0]) ⟨vb, 0, none⟩ ⟨g, (i + 1) * 4, none⟩ 1 1 lb cb hvb 62 62 4 (cap * 4) (by have h := hx; unfold Has at h; simp [World.shape?, h, hxl]) (by simp [World.shape?, hg, hcs]) (by omega) (hx.frozen 0) (hx.frozen 4)]
    rfl
  have hk : (Tryd.prog.info? 62).map (·.size) = some 4 := by kernel_rfl
  obtain ⟨C1, hC1⟩ : ∃ C1 : Array Value, C1 = (cur.toList.take ((i + 1) * 4) ++ xs.drop (i * 4) ++ cur.toList.drop ((i + 1) * 4 + (xs.drop (i * 4)).length)).toArray := ⟨_, rfl⟩
  have hcp1 : ∀ ty dc sc, (Builtin.copy_ #[57, 57] ty #[.slice (some ⟨g, (i + 1) * 4, none⟩) (n - i) dc, .slice (some ⟨g, i * 4, none⟩) (n + 1 - i) sc]).run Tryd.prog w.drew = .ok (goInt (Nat.min (n + 1 - i) (n - i))) (w.drew.setRow g C1) := fun ty dc sc => by
    rw [hC1]
    exact run_copy_rows w.drew 57 57 ty 62 g ((i + 1) * 4) (n - i) dc ⟨g, i * 4, none⟩ (n + 1 - i) sc cur 62 (xs.drop (i * 4)) 4 uds_hold hk hg (by show _ = min (n + 1 - i) (n - i) * 4; rw [hdl, Nat.min_eq_right (by omega)])
      (fun j u hj => by
        rw [Addr.add_lit]
        rw [List.getElem?_drop, ← htake, List.getElem?_take] at hj
        split at hj
        · rw [cell_of_row w.drew g (i * 4 + j) cur 62 (0, 0) hg, ← Array.getElem?_toList]; exact hj
        · cases hj) (by rw [hdl, hcs]; omega) (fun u hu => hs1 u (List.mem_of_mem_drop hu))
  have hC1l : C1.size = cap * 4 := by
    rw [hC1]
    simp only [List.size_toArray, List.length_append, List.length_take, List.length_drop, Array.length_toList]
    simp only [List.length_drop] at hdl
    omega
  have hg1 : (w.drew.setRow g C1).heap[g]? = some (.cells C1 62 (0, 0)) := setRow_heap w.drew g cur C1 62 _ hg
  obtain ⟨C2, hC2⟩ : ∃ C2 : Array Value, C2 = (C1.toList.take (i * 4) ++ x ++ C1.toList.drop (i * 4 + x.length)).toArray := ⟨_, rfl⟩
  have hcp2 : ∀ (W : World), W.heap = (w.drew.setRow g C1).heap → ∀ ty dc, (Builtin.copy_ #[57, 57] ty #[.slice (some ⟨g, i * 4, none⟩) (n + 1 - i) dc, .slice (some ⟨vb, 0, none⟩) 1 1]).run Tryd.prog W = .ok (goInt (Nat.min 1 (n + 1 - i))) (W.setRow g C2) := fun W hW ty dc => by
    rw [hC2]
    exact run_copy_rows W 57 57 ty 62 g (i * 4) (n + 1 - i) dc ⟨vb, 0, none⟩ 1 1 C1 62 x 4 uds_hold hk (by rw [hW]; exact hg1) (by show _ = min 1 (n + 1 - i) * 4; rw [hxl, Nat.min_eq_left (by omega)])
      (fun j u hj => by
        rw [Addr.add_lit, Nat.zero_add, cell_of_row W vb j x.toArray 62 (0, 0) (by rw [hW, setRow_other w.drew g vb _ hvb]; exact hx)]
        simpa using hj) (by rw [hxl, hC1l]; omega) hx1
  have fin : Hid (∀ W : World, W = (w.drew.setRow g C1) ∨ W = (w.drew.setRow g C1).drew → InsAt base 62 4 n i (.slice (some ⟨g, 0, none⟩) n cap) xs x w (.returned (.slice (some ⟨g, 0, none⟩) (n + 1) cap)) (W.setRow g C2)) := hide fun W hW => by
    have hWh : W.heap = (w.drew.setRow g C1).heap := by rcases hW with rfl | rfl <;> rfl
    have hl : xs.length = n * 4 := by rw [← htake, List.length_take, Array.length_toList, hcs]; exact Nat.min_eq_left (Nat.mul_le_mul_right _ (by omega))
    refine ⟨_, rfl, ⟨?_, .inr ⟨g, cap, C2, rfl, hbg, setRow_heap W g C1 C2 62 _ (by rw [hWh]; exact hg1), hroom, hcm, ?_, ?_⟩⟩, ⟨?_, ?_, ?_, ?_, ?_⟩, .inl rfl⟩
    · simp only [List.length_append, List.length_take, List.length_drop, hxl, hl]; omega
    · rw [hC2]
      simp only [List.size_toArray, List.length_append, List.length_take, List.length_drop, Array.length_toList, hC1l, hxl]; omega
    · rw [hC2, hC1]
      exact ins_list cur.toList xs x (i * 4) (n * 4) 4 ((i + 1) * 4) ((n + 1) * 4) htake (by omega) hxl (by rw [Array.length_toList, hcs]; omega) (by omega) (by omega)
    · rcases hW with rfl | rfl <;> rfl
    · rcases hW with rfl | rfl <;> rfl
    · rcases hW with rfl | rfl <;> rfl
    · rcases hW with rfl | rfl <;> simp
    · intro j hj hne
      have hne' : j ≠ g := fun e => hne (by simp [Value.ownBlock, e])
      rw [setRow_other W g j C2 hne', hWh, setRow_other w.drew g j C1 hne']
      rfl
  have hm1 : Nat.min 1 (n + 1 - i) = 1 := Nat.min_eq_left (by omega)
  clear hi0 hsz0 hC1 hC2 hg1 hC1l hdl hg hcs htake hx hxl hx1 hs1 hcm hbg hk hvb
  go_enter Tryd.func24, Tryd.ntmps24
  go_wp2_with (simp only [hov])
  go_region_law_o (refine step_copy_runI rfl _ _ 57 57 rfl _ _ (by simp [Act.eval, Act.put]) (by simp [Act.eval, Act.put]) (hcp1 _ _ _) ?_)
  go_wp2_with (at_builtin; refine wpList_copy_runI _ rfl _ _ 57 57 rfl _ _ rfl rfl (hcp2 _ rfl _ _) ?_)
  go_ret
  first | exact fin.out _ (.inl rfl) | exact fin.out _ (.inr rfl)

set_option maxRecDepth 100000 in
set_option maxHeartbeats 8000000 in
theorem inshold_grow (g n cap i base : Nat) (cur : Array Value) (xs x : List Value) (vb : Nat) (w : World) (hlt : i < n) (hroom : ¬ n + 1 ≤ cap) (hnc : n ≤ cap) (hg : w.heap[g]? = some (.cells cur 62 (0, 0))) (hcs : cur.size = cap * 4) (htake : cur.toList.take (n * 4) = xs) (hn : n ≤ 1000000) (hx : Has w vb 62 x) (hxl : x.length = 4) (hx1 : ∀ u ∈ x, u.oneCell' = true) (hs1 : ∀ u ∈ xs, u.oneCell' = true) (hbase : base ≤ w.heap.size) :
    Calls Tryd.prog 24 #[.slice (some ⟨g, 0, none⟩) n cap, .int .i64 (i : Nat), .slice (some ⟨vb, 0, none⟩) 1 1] w (InsAt base 62 4 n i (.slice (some ⟨g, 0, none⟩) n cap) xs x w) := by
  have hw1 : IntKind.i64.wrap ((i : Int) + 1) = (i : Int) + 1 := by rw [IntKind.wrap_i64]; omega
  have hw2 : IntKind.i64.wrap ((n : Int) + 1) = (n : Int) + 1 := by rw [IntKind.wrap_i64]; omega
  have hw3 : IntKind.i64.wrap ((n : Int) + 1 - (i : Int)) = (n : Int) + 1 - (i : Int) := by rw [IntKind.wrap_i64]; omega
  have hb1 : (0 : Int) ≤ (i : Int) + 1 := by omega
  have htn : ((i : Int) + 1).toNat = i + 1 := by omega
  have hb3 : (i : Int) ≤ (n : Int) + 1 := by omega
  have hq : ((i : Int) == (n : Int)) = false := by simp; omega
  have hq2 : ¬ ((i : Int) = (n : Int)) := by omega
  have hr : (cap : Int) < ((n + 1 : Nat) : Int) := by omega
  have hr2 : (cap : Int) < (n : Int) + 1 := by omega
  have hi : i ≤ n := by omega
  have hi2 : i ≤ cap := by omega
  have hi3 : i + 1 ≤ n + 1 := by omega
  have hc0 : ¬ (cap = i) := by omega
  have mixed : Tryd.prog.follows Departure.mixedOrders = true := by kernel_rfl
  obtain ⟨i0, hi0, hz0, hsz0, hby0⟩ := hold_info
  have hl : xs.length = n * 4 := by rw [← htake, List.length_take, Array.length_toList, hcs]; exact Nat.min_eq_left (Nat.mul_le_mul_right _ hnc)
  have hdl : (xs.drop (i * 4)).length = (n - i) * 4 := by rw [List.length_drop, hl, Nat.sub_mul]
  have htl : (xs.take (i * 4)).length = i * 4 := by rw [List.length_take, hl]; omega
  have hk : (Tryd.prog.info? 62).map (·.size) = some 4 := by kernel_rfl
  obtain ⟨gc, D, hge, hgm, hDs, hDt, hrun⟩ : ∃ (gc : Nat) (D : Array Value), n + 1 ≤ gc ∧ gc ≤ maxLen ∧ D.size = gc * 4 ∧ D.toList.take (i * 4) = xs.take (i * 4) ∧ ∀ ty, (Builtin.append_ #[57, 3] ty #[.slice (some ⟨g, 0, none⟩) i cap, .int .i64 ((n : Int) + 1 - (i : Int))]).run Tryd.prog w = .ok (.slice (some ⟨w.heap.size, 0, none⟩) (n + 1) gc) (w.drew.alloc (.cells D 62)) := by
    have he : i + (n + 1 - i) = n + 1 := by omega
    have hge := grownCap_ge w (n + 1) cap 62
    refine ⟨grownCap w (n + 1) cap 62, ((xs.take (i * 4)).toArray ++ Builtin.zeroCells (Value.cells (.agg #[.int .i64 0, .int .i64 0, .int .i64 0, .slice none 0 0])) (n + 1 - i) ++ Builtin.zeroCells (Value.cells (.agg #[.int .i64 0, .int .i64 0, .int .i64 0, .slice none 0 0])) (grownCap w (n + 1) cap 62 - (n + 1))), hge, grownCap_le_maxLen w (n + 1) cap 62 (by unfold maxLen; omega), ?_, ?_, fun ty => ?_⟩
    · simp only [Array.size_append, List.size_toArray, size_zeroCells, htl]
      show i * 4 + (n + 1 - i) * 4 + (grownCap w (n + 1) cap 62 - (n + 1)) * 4 = _
      omega
    · simp only [Array.toList_append, List.append_assoc]
      exact List.take_left' htl
    · have h := run_append_made (P := Tryd.prog) w 57 3 ty 62 i0 (.agg #[.int .i64 0, .int .i64 0, .int .i64 0, .slice none 0 0]) .i64 uds_hold (by kernel_rfl) hi0 hz0 ⟨g, 0, none⟩ i cap (n + 1 - i) (xs.take (i * 4)) (by rw [hsz0]; exact htl) (fun j u hj => by
        rw [Addr.add_lit, Nat.zero_add, cell_of_row w g j cur 62 (0, 0) hg, ← Array.getElem?_toList]
        rw [← htake, List.take_take, List.getElem?_take] at hj
        split at hj
        · exact hj
        · cases hj) (by omega) (by rw [hsz0]; decide) (by omega) (by omega) (by rw [hby0]; omega)
      rw [he, show (((n + 1 - i : Nat) : Int)) = (n : Int) + 1 - (i : Int) by omega] at h
      exact h
  obtain ⟨D1, hD1⟩ : ∃ D1 : Array Value, D1 = (D.toList.take (i * 4) ++ x ++ D.toList.drop (i * 4 + x.length)).toArray := ⟨_, rfl⟩
  have hgh : g < w.heap.size := Has.lt (cs := cur.toList) (by unfold Has; simpa using hg)
  have hvh : vb < w.heap.size := hx.lt
  have hD1l : D1.size = gc * 4 := by
    rw [hD1]
    simp only [List.size_toArray, List.length_append, List.length_take, List.length_drop, Array.length_toList, hDs, hxl]
    omega
  have hcp1 : ∀ (W : World), W.heap = (w.drew.alloc (.cells D 62)).heap → ∀ ty dc, (Builtin.copy_ #[57, 57] ty #[.slice (some ⟨w.heap.size, i * 4, none⟩) (n + 1 - i) dc, .slice (some ⟨vb, 0, none⟩) 1 1]).run Tryd.prog W = .ok (goInt (Nat.min 1 (n + 1 - i))) (W.setRow w.heap.size D1) := fun W hW ty dc => by
    rw [hD1]
    exact run_copy_rows W 57 57 ty 62 w.heap.size (i * 4) (n + 1 - i) dc ⟨vb, 0, none⟩ 1 1 D 62 x 4 uds_hold hk (by rw [hW]; exact heap_alloc_new w.drew _) (by show _ = min 1 (n + 1 - i) * 4; rw [hxl, Nat.min_eq_left (by omega)])
      (fun j u hj => by
        rw [Addr.add_lit, Nat.zero_add, cell_of_row W vb j x.toArray 62 (0, 0) (by rw [hW]; exact (heap_alloc_old w.drew _ hvh).trans hx)]
        simpa using hj) (by rw [hxl, hDs]; omega) hx1
  have hg1 : ((w.drew.alloc (.cells D 62)).setRow w.heap.size D1).heap[w.heap.size]? = some (.cells D1 62 (0, 0)) := setRow_heap _ w.heap.size D D1 62 _ (heap_alloc_new w.drew _)
  obtain ⟨D2, hD2⟩ : ∃ D2 : Array Value, D2 = (D1.toList.take ((i + 1) * 4) ++ xs.drop (i * 4) ++ D1.toList.drop ((i + 1) * 4 + (xs.drop (i * 4)).length)).toArray := ⟨_, rfl⟩
  have hcp2 : ∀ (W : World), W.heap = ((w.drew.alloc (.cells D 62)).setRow w.heap.size D1).heap → ∀ ty dc sc, (Builtin.copy_ #[57, 57] ty #[.slice (some ⟨w.heap.size, (i + 1) * 4, none⟩) (n - i) dc, .slice (some ⟨g, i * 4, none⟩) (n - i) sc]).run Tryd.prog W = .ok (goInt (Nat.min (n - i) (n - i))) (W.setRow w.heap.size D2) := fun W hW ty dc sc => by
    rw [hD2]
    exact run_copy_rows W 57 57 ty 62 w.heap.size ((i + 1) * 4) (n - i) dc ⟨g, i * 4, none⟩ (n - i) sc D1 62 (xs.drop (i * 4)) 4 uds_hold hk (by rw [hW]; exact hg1) (by show _ = min (n - i) (n - i) * 4; rw [hdl, Nat.min_self])
      (fun j u hj => by
        rw [Addr.add_lit]
        rw [List.getElem?_drop, ← htake, List.getElem?_take] at hj
        split at hj
        · rw [cell_of_row W g (i * 4 + j) cur 62 (0, 0) (by rw [hW, setRow_other _ w.heap.size g _ (by omega)]; exact (heap_alloc_old w.drew _ hgh).trans hg), ← Array.getElem?_toList]; exact hj
        · cases hj) (by rw [hdl, hD1l]; omega) (fun u hu => hs1 u (List.mem_of_mem_drop hu))
  have fin : Hid (∀ W : World, W.heap = ((w.drew.alloc (.cells D 62)).setRow w.heap.size D1).heap → W.os = w.os → W.tape = w.tape → W.output = w.output → InsAt base 62 4 n i (.slice (some ⟨g, 0, none⟩) n cap) xs x w (.returned (.slice (some ⟨w.heap.size, 0, none⟩) (n + 1) gc)) (W.setRow w.heap.size D2)) := hide fun W hWh ho ht hp => by
    refine ⟨_, rfl, ⟨?_, .inr ⟨w.heap.size, gc, D2, rfl, hbase, setRow_heap W w.heap.size D1 D2 62 _ (by rw [hWh]; exact hg1), hge, hgm, ?_, ?_⟩⟩, ⟨?_, ?_, ?_, ?_, ?_⟩, .inr rfl⟩
    · simp only [List.length_append, List.length_take, List.length_drop, hxl, hl]; omega
    · rw [hD2]
      simp only [List.size_toArray, List.length_append, List.length_take, List.length_drop, Array.length_toList, hD1l, hl]; omega
    · rw [hD2, hD1]
      exact ins_list2 D.toList xs x (i * 4) (n * 4) 4 ((i + 1) * 4) ((n + 1) * 4) hDt hl (by omega) hxl (by rw [Array.length_toList, hDs]; omega) (by omega) (by omega)
    · exact ho
    · exact ht
    · exact hp
    · show w.heap.size ≤ (W.heap.modify w.heap.size _).size
      rw [Array.size_modify, hWh]
      simp
    · intro j hj hne
      have hne' : j ≠ w.heap.size := by omega
      rw [setRow_other W w.heap.size j D2 hne', hWh, setRow_other _ w.heap.size j D1 hne']
      exact heap_alloc_old w.drew _ hj
  clear hi0 hz0 hsz0 hby0 hD1 hD2 hg1 hD1l hdl hg hcs htake hx hxl hx1 hs1 hgm hk hl htl hDs hDt hgh hvh hbase
  have hgc0 : ¬ (gc = i) := by omega
  have hgc1 : ¬ (gc = i + 1) := by omega
  have hgc2 : i ≤ gc := by omega
  go_enter Tryd.func24, Tryd.ntmps24
  go_wp2_with (at_builtin; refine Lib.wpList_append_run _ rfl _ _ _ _ rfl _ _ rfl rfl _ _ (hrun _) ?_; revert mixed)
  intro mixed
  go_wp2_with (refine wpList_copy_runI _ rfl _ _ 57 57 rfl _ _ rfl rfl (hcp1 _ rfl _ _) ?_)

  go_region_law_o (refine step_copy_runI (P := Tryd.prog) (w := ((w.alloc (.cells D 62)).drew.setRow w.heap.size D1).drew) rfl _ _ 57 57 rfl (.slice (some ⟨w.heap.size, (i + 1) * 4, none⟩) (n - i) (gc - (i + 1))) (.slice (some ⟨g, i * 4, none⟩) (n - i) (cap - i)) (by simp [Act.eval, Act.put]) (by simp [Act.eval, Act.put]) (hcp2 (((w.alloc (.cells D 62)).drew.setRow w.heap.size D1).drew) rfl 3 (gc - (i + 1)) (cap - i)) ?_)
  go_wp2_with fail
  go_ret
  exact fin.out _ rfl rfl rfl rfl

theorem inshold_c (v : Value) (n i base : Nat) (xs x : List Value) (vb : Nat) (w : World) (hown : w.ownsRow base 62 4 v n xs) (hi : i ≤ n) (hn : n ≤ 1000000) (hx : Has w vb 62 x) (hxl : x.length = 4) (hx1 : ∀ u ∈ x, u.oneCell' = true) (hs1 : ∀ u ∈ xs, u.oneCell' = true) (hvb : v.ownBlock ≠ some vb) (hbase : base ≤ w.heap.size) :
    Calls Tryd.prog 24 #[v, .int .i64 (i : Nat), .slice (some ⟨vb, 0, none⟩) 1 1] w (InsAt base 62 4 n i v xs x w) := by
  by_cases he : i = n
  · subst he
    exact inshold_end v i base xs x vb w hown hn hx hxl hx1 hbase
  · rcases hown.2 with ⟨rfl, rfl⟩ | ⟨g, cap, cur, rfl, hbg, hg, hnc, hcm, hcs, htake⟩
    · omega
    · by_cases hroom : n + 1 ≤ cap
      · exact inshold_room g n cap i base cur xs x vb w (by omega) hroom hcm hbg hg hcs htake hn hx hxl hx1 (fun e => hvb (by rw [e]; rfl)) hs1
      · exact inshold_grow g n cap i base cur xs x vb w (by omega) hroom hnc hg hcs htake hn hx hxl hx1 hs1 hbase

set_option maxRecDepth 100000 in
set_option maxHeartbeats 8000000 in
theorem insblk_end (v : Value) (n base : Nat) (xs x : List Value) (vb : Nat) (w : World) (hown : w.ownsRow base 64 2 v n xs) (hn : n ≤ 1000000) (hx : Has w vb 64 x) (hxl : x.length = 2) (hx1 : ∀ u ∈ x, u.oneCell' = true) (hbase : base ≤ w.heap.size) :
    Calls Tryd.prog 25 #[v, .int .i64 (n : Nat), .slice (some ⟨vb, 0, none⟩) 1 1] w (InsAt base 64 2 n n v xs x w) := by
  obtain ⟨i0, hi0, hz0, hz1, hz2⟩ := blk_info
  have HI0 := hide hi0
  have HZ0 := hide hz0
  have HZ1 := hide hz1
  have HZ2 := hide hz2
  have HU := hide uds_blk
  have HO := hide hown
  have hnw := hide (fun (j : Nat) (u : Value) (hj : x[j]? = some u) => show w.cell? ((⟨vb, 0, none⟩ : Addr).add j) = some u by rw [Addr.add_lit, hx.cell, Nat.zero_add]; exact hj)
  have h1x := hide hx1
  have hl : xs.length = n * 2 := hown.1
  have hsz := hide hbase
  have hxl' : x.length = 1 * 2 := by omega
  have HXL := hide hxl'
  have fin : Hid (∀ v' w', w'.ownsRow base 64 2 v' (n + 1) (xs ++ x) → w.grownBy w' v.ownBlock → (v'.ownBlock = v.ownBlock ∨ v'.ownBlock = some w.heap.size) → InsAt base 64 2 n n v xs x w (.returned v') w') := hide fun v' w' h2 h3 h4 => ⟨v', rfl, by
    rw [List.take_of_length_le (by omega), List.drop_eq_nil_of_le (by omega), List.append_nil]; exact h2, h3, h4⟩
  have hn1 : ¬ ((n : Int) < 0) := by omega
  clear hi0 hz0 hz1 hz2 hx hx1 hl hbase hxl hxl'
  rcases hown.2 with ⟨rfl, rfl⟩ | ⟨g, cap, cur, rfl, hbg, hg, hnc, hcm, hcs, htake⟩
  · clear hown
    go_enter Tryd.func25, Tryd.ntmps25
    go_wp2_with (at_builtin; refine wpList_append_own_at _ rfl _ _ 60 rfl base 64 i0 (.agg #[.int .i64 0, .int .i64 0]) 2 16 HU.out HI0.out HZ0.out HZ1.out HZ2.out rfl (by decide) _ 0 _ rfl HO.out ⟨vb, 0, none⟩ 1 1 x rfl HXL.out hnw.out h1x.out (by unfold maxLen; omega) (by omega) hsz.out ?_; intro s0 W0 hown' hgrow hnil hat; have HF := hide (fin.out s0 W0 hown' hgrow hat); clear hown' hgrow hnil hat)
    go_ret
    exact HF.out
  · clear hown hbg hg hcs htake
    have hn2 : n ≤ cap := hnc
    go_enter Tryd.func25, Tryd.ntmps25
    go_wp2_with (at_builtin; refine wpList_append_own_at _ rfl _ _ 60 rfl base 64 i0 (.agg #[.int .i64 0, .int .i64 0]) 2 16 HU.out HI0.out HZ0.out HZ1.out HZ2.out rfl (by decide) _ n _ rfl HO.out ⟨vb, 0, none⟩ 1 1 x rfl HXL.out hnw.out h1x.out (by unfold maxLen; omega) (by omega) hsz.out ?_; intro s0 W0 hown' hgrow hnil hat; have HF := hide (fin.out s0 W0 hown' hgrow hat); clear hown' hgrow hnil hat)
    all_goals (go_ret; exact HF.out)

set_option maxRecDepth 100000 in
set_option maxHeartbeats 8000000 in
theorem insblk_room (g n cap i base : Nat) (cur : Array Value) (xs x : List Value) (vb : Nat) (w : World) (hlt : i < n) (hroom : n + 1 ≤ cap) (hcm : cap ≤ maxLen) (hbg : base ≤ g) (hg : w.heap[g]? = some (.cells cur 64 (0, 0))) (hcs : cur.size = cap * 2) (htake : cur.toList.take (n * 2) = xs) (hn : n ≤ 1000000) (hx : Has w vb 64 x) (hxl : x.length = 2) (hx1 : ∀ u ∈ x, u.oneCell' = true) (hvb : vb ≠ g) (hs1 : ∀ u ∈ xs, u.oneCell' = true) :
    Calls Tryd.prog 25 #[.slice (some ⟨g, 0, none⟩) n cap, .int .i64 (i : Nat), .slice (some ⟨vb, 0, none⟩) 1 1] w (InsAt base 64 2 n i (.slice (some ⟨g, 0, none⟩) n cap) xs x w) := by
  have hw1 : IntKind.i64.wrap ((i : Int) + 1) = (i : Int) + 1 := by rw [IntKind.wrap_i64]; omega
  have hw2 : IntKind.i64.wrap ((n : Int) + 1) = (n : Int) + 1 := by rw [IntKind.wrap_i64]; omega
  have hb1 : (0 : Int) ≤ (i : Int) + 1 := by omega
  have htn : ((i : Int) + 1).toNat = i + 1 := by omega
  have hb3 : (i : Int) ≤ (n : Int) + 1 := by omega
  have hq : ((i : Int) == (n : Int)) = false := by simp; omega
  have hq2 : ¬ ((i : Int) = (n : Int)) := by omega
  have hr : ¬ ((cap : Int) < ((n + 1 : Nat) : Int)) := by omega
  have hi : i ≤ n := by omega
  have hi2 : i ≤ cap := by omega
  have hi3 : i + 1 ≤ n + 1 := by omega
  have hc0 : ¬ (cap = i) := by omega
  have hc1 : ¬ (cap = i + 1) := by omega
  have mixed : Tryd.prog.follows Departure.mixedOrders = true := by kernel_rfl
  obtain ⟨i0, hi0, -, hsz0, -⟩ := blk_info
  have hdl : (xs.drop (i * 2)).length = (n - i) * 2 := by rw [List.length_drop, ← htake, List.length_take, Array.length_toList, hcs, Nat.min_eq_left (Nat.mul_le_mul_right _ (by omega)), Nat.sub_mul]
  have hov : ∀ lb cb, (callFunc 41 #[.slice (some ⟨vb, 0, none⟩) 1 1, .slice (some ⟨g, (i + 1) * 2, none⟩) lb cb]).run Tryd.prog w = .ok (.value (.bool false)) w := fun lb cb => by
    rw [run_callFunc_extern Tryd.func41 (by kernel_rfl) (by kernel_rfl) (by kernel_rfl) (show Extern.find Tryd.f41 = some (Extern.SlicesOverlaps.overlaps #[60, 60] #[4]) by kernel_rfl),
      Lib.run_overlaps_apart w 60 4 64 uds_blk 2 (fun _ => by simp [sizeOf, typeInfo, hi0, hsz0]) ⟨vb, 0, none⟩ ⟨g, (i + 1) * 2, none⟩ 1 1 lb cb hvb 64 64 2 (cap * 2) (by have h := hx; unfold Has at h; simp [World.shape?, h, hxl]) (by simp [World.shape?, hg, hcs]) (by omega) (hx.frozen 0) (hx.frozen 2)]
    rfl
  have hk : (Tryd.prog.info? 64).map (·.size) = some 2 := by kernel_rfl
  obtain ⟨C1, hC1⟩ : ∃ C1 : Array Value, C1 = (cur.toList.take ((i + 1) * 2) ++ xs.drop (i * 2) ++ cur.toList.drop ((i + 1) * 2 + (xs.drop (i * 2)).length)).toArray := ⟨_, rfl⟩
  have hcp1 : ∀ ty dc sc, (Builtin.copy_ #[60, 60] ty #[.slice (some ⟨g, (i + 1) * 2, none⟩) (n - i) dc, .slice (some ⟨g, i * 2, none⟩) (n + 1 - i) sc]).run Tryd.prog w.drew = .ok (goInt (Nat.min (n + 1 - i) (n - i))) (w.drew.setRow g C1) := fun ty dc sc => by
    rw [hC1]
    exact run_copy_rows w.drew 60 60 ty 64 g ((i + 1) * 2) (n - i) dc ⟨g, i * 2, none⟩ (n + 1 - i) sc cur 64 (xs.drop (i * 2)) 2 uds_blk hk hg (by show _ = min (n + 1 - i) (n - i) * 2; rw [hdl, Nat.min_eq_right (by omega)])
      (fun j u hj => by
        rw [Addr.add_lit]
        rw [List.getElem?_drop, ← htake, List.getElem?_take] at hj
        split at hj
        · rw [cell_of_row w.drew g (i * 2 + j) cur 64 (0, 0) hg, ← Array.getElem?_toList]; exact hj
        · cases hj) (by rw [hdl, hcs]; omega) (fun u hu => hs1 u (List.mem_of_mem_drop hu))
  have hC1l : C1.size = cap * 2 := by
    rw [hC1]
    simp only [List.size_toArray, List.length_append, List.length_take, List.length_drop, Array.length_toList]
    simp only [List.length_drop] at hdl
    omega
  have hg1 : (w.drew.setRow g C1).heap[g]? = some (.cells C1 64 (0, 0)) := setRow_heap w.drew g cur C1 64 _ hg
  obtain ⟨C2, hC2⟩ : ∃ C2 : Array Value, C2 = (C1.toList.take (i * 2) ++ x ++ C1.toList.drop (i * 2 + x.length)).toArray := ⟨_, rfl⟩
  have hcp2 : ∀ (W : World), W.heap = (w.drew.setRow g C1).heap → ∀ ty dc, (Builtin.copy_ #[60, 60] ty #[.slice (some ⟨g, i * 2, none⟩) (n + 1 - i) dc, .slice (some ⟨vb, 0, none⟩) 1 1]).run Tryd.prog W = .ok (goInt (Nat.min 1 (n + 1 - i))) (W.setRow g C2) := fun W hW ty dc => by
    rw [hC2]
    exact run_copy_rows W 60 60 ty 64 g (i * 2) (n + 1 - i) dc ⟨vb, 0, none⟩ 1 1 C1 64 x 2 uds_blk hk (by rw [hW]; exact hg1) (by show _ = min 1 (n + 1 - i) * 2; rw [hxl, Nat.min_eq_left (by omega)])
      (fun j u hj => by
        rw [Addr.add_lit, Nat.zero_add, cell_of_row W vb j x.toArray 64 (0, 0) (by rw [hW, setRow_other w.drew g vb _ hvb]; exact hx)]
        simpa using hj) (by rw [hxl, hC1l]; omega) hx1
  have fin : Hid (∀ W : World, W = (w.drew.setRow g C1) ∨ W = (w.drew.setRow g C1).drew → InsAt base 64 2 n i (.slice (some ⟨g, 0, none⟩) n cap) xs x w (.returned (.slice (some ⟨g, 0, none⟩) (n + 1) cap)) (W.setRow g C2)) := hide fun W hW => by
    have hWh : W.heap = (w.drew.setRow g C1).heap := by rcases hW with rfl | rfl <;> rfl
    have hl : xs.length = n * 2 := by rw [← htake, List.length_take, Array.length_toList, hcs]; exact Nat.min_eq_left (Nat.mul_le_mul_right _ (by omega))
    refine ⟨_, rfl, ⟨?_, .inr ⟨g, cap, C2, rfl, hbg, setRow_heap W g C1 C2 64 _ (by rw [hWh]; exact hg1), hroom, hcm, ?_, ?_⟩⟩, ⟨?_, ?_, ?_, ?_, ?_⟩, .inl rfl⟩
    · simp only [List.length_append, List.length_take, List.length_drop, hxl, hl]; omega
    · rw [hC2]
      simp only [List.size_toArray, List.length_append, List.length_take, List.length_drop, Array.length_toList, hC1l, hxl]; omega
    · rw [hC2, hC1]
      exact ins_list cur.toList xs x (i * 2) (n * 2) 2 ((i + 1) * 2) ((n + 1) * 2) htake (by omega) hxl (by rw [Array.length_toList, hcs]; omega) (by omega) (by omega)
    · rcases hW with rfl | rfl <;> rfl
    · rcases hW with rfl | rfl <;> rfl
    · rcases hW with rfl | rfl <;> rfl
    · rcases hW with rfl | rfl <;> simp
    · intro j hj hne
      have hne' : j ≠ g := fun e => hne (by simp [Value.ownBlock, e])
      rw [setRow_other W g j C2 hne', hWh, setRow_other w.drew g j C1 hne']
      rfl
  have hm1 : Nat.min 1 (n + 1 - i) = 1 := Nat.min_eq_left (by omega)
  clear hi0 hsz0 hC1 hC2 hg1 hC1l hdl hg hcs htake hx hxl hx1 hs1 hcm hbg hk hvb
  go_enter Tryd.func25, Tryd.ntmps25
  go_wp2_with (simp only [hov])
  go_region_law_o (refine step_copy_runI rfl _ _ 60 60 rfl _ _ (by simp [Act.eval, Act.put]) (by simp [Act.eval, Act.put]) (hcp1 _ _ _) ?_)
  go_wp2_with (at_builtin; refine wpList_copy_runI _ rfl _ _ 60 60 rfl _ _ rfl rfl (hcp2 _ rfl _ _) ?_)
  go_ret
  first | exact fin.out _ (.inl rfl) | exact fin.out _ (.inr rfl)

set_option maxRecDepth 100000 in
set_option maxHeartbeats 8000000 in
theorem insblk_grow (g n cap i base : Nat) (cur : Array Value) (xs x : List Value) (vb : Nat) (w : World) (hlt : i < n) (hroom : ¬ n + 1 ≤ cap) (hnc : n ≤ cap) (hg : w.heap[g]? = some (.cells cur 64 (0, 0))) (hcs : cur.size = cap * 2) (htake : cur.toList.take (n * 2) = xs) (hn : n ≤ 1000000) (hx : Has w vb 64 x) (hxl : x.length = 2) (hx1 : ∀ u ∈ x, u.oneCell' = true) (hs1 : ∀ u ∈ xs, u.oneCell' = true) (hbase : base ≤ w.heap.size) :
    Calls Tryd.prog 25 #[.slice (some ⟨g, 0, none⟩) n cap, .int .i64 (i : Nat), .slice (some ⟨vb, 0, none⟩) 1 1] w (InsAt base 64 2 n i (.slice (some ⟨g, 0, none⟩) n cap) xs x w) := by
  have hw1 : IntKind.i64.wrap ((i : Int) + 1) = (i : Int) + 1 := by rw [IntKind.wrap_i64]; omega
  have hw2 : IntKind.i64.wrap ((n : Int) + 1) = (n : Int) + 1 := by rw [IntKind.wrap_i64]; omega
  have hw3 : IntKind.i64.wrap ((n : Int) + 1 - (i : Int)) = (n : Int) + 1 - (i : Int) := by rw [IntKind.wrap_i64]; omega
  have hb1 : (0 : Int) ≤ (i : Int) + 1 := by omega
  have htn : ((i : Int) + 1).toNat = i + 1 := by omega
  have hb3 : (i : Int) ≤ (n : Int) + 1 := by omega
  have hq : ((i : Int) == (n : Int)) = false := by simp; omega
  have hq2 : ¬ ((i : Int) = (n : Int)) := by omega
  have hr : (cap : Int) < ((n + 1 : Nat) : Int) := by omega
  have hr2 : (cap : Int) < (n : Int) + 1 := by omega
  have hi : i ≤ n := by omega
  have hi2 : i ≤ cap := by omega
  have hi3 : i + 1 ≤ n + 1 := by omega
  have hc0 : ¬ (cap = i) := by omega
  have mixed : Tryd.prog.follows Departure.mixedOrders = true := by kernel_rfl
  obtain ⟨i0, hi0, hz0, hsz0, hby0⟩ := blk_info
  have hl : xs.length = n * 2 := by rw [← htake, List.length_take, Array.length_toList, hcs]; exact Nat.min_eq_left (Nat.mul_le_mul_right _ hnc)
  have hdl : (xs.drop (i * 2)).length = (n - i) * 2 := by rw [List.length_drop, hl, Nat.sub_mul]
  have htl : (xs.take (i * 2)).length = i * 2 := by rw [List.length_take, hl]; omega
  have hk : (Tryd.prog.info? 64).map (·.size) = some 2 := by kernel_rfl
  obtain ⟨gc, D, hge, hgm, hDs, hDt, hrun⟩ : ∃ (gc : Nat) (D : Array Value), n + 1 ≤ gc ∧ gc ≤ maxLen ∧ D.size = gc * 2 ∧ D.toList.take (i * 2) = xs.take (i * 2) ∧ ∀ ty, (Builtin.append_ #[60, 3] ty #[.slice (some ⟨g, 0, none⟩) i cap, .int .i64 ((n : Int) + 1 - (i : Int))]).run Tryd.prog w = .ok (.slice (some ⟨w.heap.size, 0, none⟩) (n + 1) gc) (w.drew.alloc (.cells D 64)) := by
    have he : i + (n + 1 - i) = n + 1 := by omega
    have hge := grownCap_ge w (n + 1) cap 64
    refine ⟨grownCap w (n + 1) cap 64, ((xs.take (i * 2)).toArray ++ Builtin.zeroCells (Value.cells (.agg #[.int .i64 0, .int .i64 0])) (n + 1 - i) ++ Builtin.zeroCells (Value.cells (.agg #[.int .i64 0, .int .i64 0])) (grownCap w (n + 1) cap 64 - (n + 1))), hge, grownCap_le_maxLen w (n + 1) cap 64 (by unfold maxLen; omega), ?_, ?_, fun ty => ?_⟩
    · simp only [Array.size_append, List.size_toArray, size_zeroCells, htl]
      show i * 2 + (n + 1 - i) * 2 + (grownCap w (n + 1) cap 64 - (n + 1)) * 2 = _
      omega
    · simp only [Array.toList_append, List.append_assoc]
      exact List.take_left' htl
    · have h := run_append_made (P := Tryd.prog) w 60 3 ty 64 i0 (.agg #[.int .i64 0, .int .i64 0]) .i64 uds_blk (by kernel_rfl) hi0 hz0 ⟨g, 0, none⟩ i cap (n + 1 - i) (xs.take (i * 2)) (by rw [hsz0]; exact htl) (fun j u hj => by
        rw [Addr.add_lit, Nat.zero_add, cell_of_row w g j cur 64 (0, 0) hg, ← Array.getElem?_toList]
        rw [← htake, List.take_take, List.getElem?_take] at hj
        split at hj
        · exact hj
        · cases hj) (by omega) (by rw [hsz0]; decide) (by omega) (by omega) (by rw [hby0]; omega)
      rw [he, show (((n + 1 - i : Nat) : Int)) = (n : Int) + 1 - (i : Int) by omega] at h
      exact h
  obtain ⟨D1, hD1⟩ : ∃ D1 : Array Value, D1 = (D.toList.take (i * 2) ++ x ++ D.toList.drop (i * 2 + x.length)).toArray := ⟨_, rfl⟩
  have hgh : g < w.heap.size := Has.lt (cs := cur.toList) (by unfold Has; simpa using hg)
  have hvh : vb < w.heap.size := hx.lt
  have hD1l : D1.size = gc * 2 := by
    rw [hD1]
    simp only [List.size_toArray, List.length_append, List.length_take, List.length_drop, Array.length_toList, hDs, hxl]
    omega
  have hcp1 : ∀ (W : World), W.heap = (w.drew.alloc (.cells D 64)).heap → ∀ ty dc, (Builtin.copy_ #[60, 60] ty #[.slice (some ⟨w.heap.size, i * 2, none⟩) (n + 1 - i) dc, .slice (some ⟨vb, 0, none⟩) 1 1]).run Tryd.prog W = .ok (goInt (Nat.min 1 (n + 1 - i))) (W.setRow w.heap.size D1) := fun W hW ty dc => by
    rw [hD1]
    exact run_copy_rows W 60 60 ty 64 w.heap.size (i * 2) (n + 1 - i) dc ⟨vb, 0, none⟩ 1 1 D 64 x 2 uds_blk hk (by rw [hW]; exact heap_alloc_new w.drew _) (by show _ = min 1 (n + 1 - i) * 2; rw [hxl, Nat.min_eq_left (by omega)])
      (fun j u hj => by
        rw [Addr.add_lit, Nat.zero_add, cell_of_row W vb j x.toArray 64 (0, 0) (by rw [hW]; exact (heap_alloc_old w.drew _ hvh).trans hx)]
        simpa using hj) (by rw [hxl, hDs]; omega) hx1
  have hg1 : ((w.drew.alloc (.cells D 64)).setRow w.heap.size D1).heap[w.heap.size]? = some (.cells D1 64 (0, 0)) := setRow_heap _ w.heap.size D D1 64 _ (heap_alloc_new w.drew _)
  obtain ⟨D2, hD2⟩ : ∃ D2 : Array Value, D2 = (D1.toList.take ((i + 1) * 2) ++ xs.drop (i * 2) ++ D1.toList.drop ((i + 1) * 2 + (xs.drop (i * 2)).length)).toArray := ⟨_, rfl⟩
  have hcp2 : ∀ (W : World), W.heap = ((w.drew.alloc (.cells D 64)).setRow w.heap.size D1).heap → ∀ ty dc sc, (Builtin.copy_ #[60, 60] ty #[.slice (some ⟨w.heap.size, (i + 1) * 2, none⟩) (n - i) dc, .slice (some ⟨g, i * 2, none⟩) (n - i) sc]).run Tryd.prog W = .ok (goInt (Nat.min (n - i) (n - i))) (W.setRow w.heap.size D2) := fun W hW ty dc sc => by
    rw [hD2]
    exact run_copy_rows W 60 60 ty 64 w.heap.size ((i + 1) * 2) (n - i) dc ⟨g, i * 2, none⟩ (n - i) sc D1 64 (xs.drop (i * 2)) 2 uds_blk hk (by rw [hW]; exact hg1) (by show _ = min (n - i) (n - i) * 2; rw [hdl, Nat.min_self])
      (fun j u hj => by
        rw [Addr.add_lit]
        rw [List.getElem?_drop, ← htake, List.getElem?_take] at hj
        split at hj
        · rw [cell_of_row W g (i * 2 + j) cur 64 (0, 0) (by rw [hW, setRow_other _ w.heap.size g _ (by omega)]; exact (heap_alloc_old w.drew _ hgh).trans hg), ← Array.getElem?_toList]; exact hj
        · cases hj) (by rw [hdl, hD1l]; omega) (fun u hu => hs1 u (List.mem_of_mem_drop hu))
  have fin : Hid (∀ W : World, W.heap = ((w.drew.alloc (.cells D 64)).setRow w.heap.size D1).heap → W.os = w.os → W.tape = w.tape → W.output = w.output → InsAt base 64 2 n i (.slice (some ⟨g, 0, none⟩) n cap) xs x w (.returned (.slice (some ⟨w.heap.size, 0, none⟩) (n + 1) gc)) (W.setRow w.heap.size D2)) := hide fun W hWh ho ht hp => by
    refine ⟨_, rfl, ⟨?_, .inr ⟨w.heap.size, gc, D2, rfl, hbase, setRow_heap W w.heap.size D1 D2 64 _ (by rw [hWh]; exact hg1), hge, hgm, ?_, ?_⟩⟩, ⟨?_, ?_, ?_, ?_, ?_⟩, .inr rfl⟩
    · simp only [List.length_append, List.length_take, List.length_drop, hxl, hl]; omega
    · rw [hD2]
      simp only [List.size_toArray, List.length_append, List.length_take, List.length_drop, Array.length_toList, hD1l, hl]; omega
    · rw [hD2, hD1]
      exact ins_list2 D.toList xs x (i * 2) (n * 2) 2 ((i + 1) * 2) ((n + 1) * 2) hDt hl (by omega) hxl (by rw [Array.length_toList, hDs]; omega) (by omega) (by omega)
    · exact ho
    · exact ht
    · exact hp
    · show w.heap.size ≤ (W.heap.modify w.heap.size _).size
      rw [Array.size_modify, hWh]
      simp
    · intro j hj hne
      have hne' : j ≠ w.heap.size := by omega
      rw [setRow_other W w.heap.size j D2 hne', hWh, setRow_other _ w.heap.size j D1 hne']
      exact heap_alloc_old w.drew _ hj
  clear hi0 hz0 hsz0 hby0 hD1 hD2 hg1 hD1l hdl hg hcs htake hx hxl hx1 hs1 hgm hk hl htl hDs hDt hgh hvh hbase
  have hgc0 : ¬ (gc = i) := by omega
  have hgc1 : ¬ (gc = i + 1) := by omega
  have hgc2 : i ≤ gc := by omega
  go_enter Tryd.func25, Tryd.ntmps25
  go_wp2_with (at_builtin; refine Lib.wpList_append_run _ rfl _ _ _ _ rfl _ _ rfl rfl _ _ (hrun _) ?_; revert mixed)
  intro mixed
  go_wp2_with (refine wpList_copy_runI _ rfl _ _ 60 60 rfl _ _ rfl rfl (hcp1 _ rfl _ _) ?_)

  go_region_law_o (refine step_copy_runI (P := Tryd.prog) (w := ((w.alloc (.cells D 64)).drew.setRow w.heap.size D1).drew) rfl _ _ 60 60 rfl (.slice (some ⟨w.heap.size, (i + 1) * 2, none⟩) (n - i) (gc - (i + 1))) (.slice (some ⟨g, i * 2, none⟩) (n - i) (cap - i)) (by simp [Act.eval, Act.put]) (by simp [Act.eval, Act.put]) (hcp2 (((w.alloc (.cells D 64)).drew.setRow w.heap.size D1).drew) rfl 3 (gc - (i + 1)) (cap - i)) ?_)
  go_wp2_with fail
  go_ret
  exact fin.out _ rfl rfl rfl rfl

theorem insblk_c (v : Value) (n i base : Nat) (xs x : List Value) (vb : Nat) (w : World) (hown : w.ownsRow base 64 2 v n xs) (hi : i ≤ n) (hn : n ≤ 1000000) (hx : Has w vb 64 x) (hxl : x.length = 2) (hx1 : ∀ u ∈ x, u.oneCell' = true) (hs1 : ∀ u ∈ xs, u.oneCell' = true) (hvb : v.ownBlock ≠ some vb) (hbase : base ≤ w.heap.size) :
    Calls Tryd.prog 25 #[v, .int .i64 (i : Nat), .slice (some ⟨vb, 0, none⟩) 1 1] w (InsAt base 64 2 n i v xs x w) := by
  by_cases he : i = n
  · subst he
    exact insblk_end v i base xs x vb w hown hn hx hxl hx1 hbase
  · rcases hown.2 with ⟨rfl, rfl⟩ | ⟨g, cap, cur, rfl, hbg, hg, hnc, hcm, hcs, htake⟩
    · omega
    · by_cases hroom : n + 1 ≤ cap
      · exact insblk_room g n cap i base cur xs x vb w (by omega) hroom hcm hbg hg hcs htake hn hx hxl hx1 (fun e => hvb (by rw [e]; rfl)) hs1
      · exact insblk_grow g n cap i base cur xs x vb w (by omega) hroom hnc hg hcs htake hn hx hxl hx1 hs1 hbase
end Go.Proofs.YtemaaipgjghlaaaDoor
