/-
  The law ArenaScrubs, walked. By an AI agent. No person has read it.
-/
import Derived.Test.YtemaaipgjghlaaaDoorAreFc
import Derived.Test.YtemaaipgjghlaaaDoorBasC
namespace Go.Proofs.YtemaaipgjghlaaaDoor
open Go.RowKit Go.Shelf

attribute [local go_sem] Oper.semAt_some

theorem Rb.lie {w : World} {A : Option Addr} {bs : List Nat} (h : Rb w A bs) : Lie w A (u8s bs) := fun hne => by
  obtain ⟨ad, e, h1, h2⟩ := h.2 (fun e => hne (by rw [e]; rfl))
  refine ⟨ad, e, h1, fun j x hj => ?_⟩
  unfold u8s at hj
  rw [List.getElem?_map, Option.map_eq_some_iff] at hj
  obtain ⟨y, hy, rfl⟩ := hj
  exact h2 j y hy
theorem Rb.take_ {w : World} {A : Option Addr} {bs : List Nat} (h : Rb w A bs) (k : Nat) : Rb w A (bs.take k) := ⟨fun b hb => h.1 b (List.mem_of_mem_take hb), fun hne => by
  obtain ⟨ad, e, h1, h2⟩ := h.2 (fun e => hne (by rw [e, List.take_nil]))
  refine ⟨ad, e, h1, fun i b hi => h2 i b ?_⟩
  rw [List.getElem?_take] at hi
  split at hi
  · exact hi
  · cases hi⟩
/-- Where a loop over blocks says that the last one ends. -/
def Bk.endw (pre : List (Nat × Nat)) : Int := pre.foldl (fun _ x => wrap64 ((x.1 : Int) + (x.2 : Int))) 0
theorem Bk.endw_snoc (pre : List (Nat × Nat)) (x : Nat × Nat) : Bk.endw (pre ++ [x]) = wrap64 ((x.1 : Int) + (x.2 : Int)) := by
  unfold Bk.endw
  rw [List.foldl_append, List.foldl_cons, List.foldl_nil]
theorem Bk.endw_one (i : Nat) (h : i ≤ 1000000) : Bk.endw [(0, i)] = (i : Int) := by
  unfold Bk.endw
  rw [List.foldl_cons, List.foldl_nil]
  dsimp only
  unfold wrap64
  omega
theorem wipe_all (mem : List Nat) (s : Nat) (h : mem.length = s) : Ar.wipe mem 0 s = List.replicate s 0 := by
  unfold Ar.wipe
  rw [List.take_zero, List.nil_append, Nat.zero_add, List.drop_eq_nil_of_le (by omega), List.append_nil]

set_option maxRecDepth 100000 in
set_option maxHeartbeats 4000000 in
theorem scrubs_long (n0 n1 : Int) (xs : List Nat) (A : Option Addr) (cap : Nat) (w : World) (hl : 200 < xs.length) :
    Calls Tryd.prog 4 #[.int .i64 n0, .int .i64 n1, .slice A xs.length cap] w fun e w' => e = .returned (.bool true) ∧ Below w.heap.size w w' := by
  obtain ⟨L, hL⟩ : ∃ L, Hid (xs.length = L) := ⟨_, hide rfl⟩
  rw [hL.out] at hl ⊢
  have hli : (200 : Int) < (L : Int) := by omega
  go_enter Tryd.func4, Tryd.ntmps4
  go_wp2_with fail
  refine (first13_c w).mono ?_
  rintro e w1 ⟨rfl, hb⟩
  have HB1 := hide hb
  clear hb
  go_wp2_with fail
  refine (number_c n0 200 (by decide) (by decide) 200 rfl w1).mono ?_
  rintro e w2 ⟨⟨s0, hs0, rfl⟩, rfl⟩
  obtain ⟨s, hs⟩ : ∃ s, Hid (s0 + 1 = s) := ⟨_, hide rfl⟩
  have fs : IntKind.i64.wrap ((s0 : Int) + 1) = (s : Int) := by rw [IntKind.wrap_i64]; have := hs.out; omega
  have hsb : 1 ≤ s ∧ s ≤ 200 := by have := hs.out; omega
  go_wp2_with fail
  refine (number_c n1 s (by omega) (by omega) s rfl w2).mono ?_
  rintro e w3 ⟨⟨m0, hm0, rfl⟩, rfl⟩
  obtain ⟨n, hn⟩ : ∃ n, Hid (m0 + 1 = n) := ⟨_, hide rfl⟩
  have fn : IntKind.i64.wrap ((m0 : Int) + 1) = (n : Int) := by rw [IntKind.wrap_i64]; have := hn.out; omega
  clear fs
  go_wp2_with fail
  go_ret
  exact ⟨rfl, HB1.out⟩

set_option maxRecDepth 100000 in
set_option maxHeartbeats 8000000 in
theorem scrubs_short (n0 n1 : Int) (xs : List Nat) (A : Option Addr) (cap : Nat) (w : World) (hR : Rb w A xs) (hl : xs.length ≤ 200) (hc : xs.length ≤ cap) :
    Calls Tryd.prog 4 #[.int .i64 n0, .int .i64 n1, .slice A xs.length cap] w fun e w' => e = .returned (.bool true) ∧ Below w.heap.size w w' := by
  have HR := hide hR
  obtain ⟨L, hL⟩ : ∃ L, Hid (xs.length = L) := ⟨_, hide rfl⟩
  rw [hL.out] at hl hc ⊢
  have hli : ¬ ((200 : Int) < (L : Int)) := by omega
  clear hR
  refine (callsIn_wide (n := 6)).1 ?_
  refine callsIn_of_wp_marks Tryd.func4 rfl trivial ?_ rfl
  refine wpIn_wide.2 ?_
  simp only [Tryd.ntmps4, List.size_toArray, List.length_cons, List.length_nil, Nat.reduceAdd, Nat.reduceSub, Array.replicate_succ, Array.replicate_zero, List.push_toArray, List.append_toArray, List.nil_append, List.cons_append]
  go_wp2_with fail
  refine (first13_c w).mono ?_
  rintro e w1 ⟨rfl, hb⟩
  have HB1 := hide hb
  clear hb
  go_wp2_with fail
  refine (number_c n0 200 (by decide) (by decide) 200 rfl w1).mono ?_
  rintro e w2 ⟨⟨s0, hs0, rfl⟩, rfl⟩
  obtain ⟨s, hs⟩ : ∃ s, Hid (s0 + 1 = s) := ⟨_, hide rfl⟩
  have fs : IntKind.i64.wrap ((s0 : Int) + 1) = (s : Int) := by rw [IntKind.wrap_i64]; have := hs.out; omega
  have hsb : 1 ≤ s ∧ s ≤ 200 := by have := hs.out; omega
  go_wp2_with fail
  refine (number_c n1 s (by omega) (by omega) s rfl w2).mono ?_
  rintro e w3 ⟨⟨m0, hm0, rfl⟩, rfl⟩
  obtain ⟨n, hn⟩ : ∃ n, Hid (m0 + 1 = n) := ⟨_, hide rfl⟩
  have fn : IntKind.i64.wrap ((m0 : Int) + 1) = (n : Int) := by rw [IntKind.wrap_i64]; have := hn.out; omega
  have hnb : 1 ≤ n ∧ n ≤ s := by have := hn.out; omega
  clear fs
  have VN := hide (fnew s (by omega) (by omega) w3)
  go_wp2_with fail
  clear fn hm0 hs0
  refine VN.out.mono ?_
  rintro e w4 ⟨a, rfl, hI, hb⟩
  have HB4 := hide (HB1.out.trans (hb.mono HB1.out.size))
  have HW3 : w.heap.size ≤ w3.heap.size := HB1.out.size
  have VA := hide (fadd_ok 7 s 0 0 hI (by decide) hsb.1 rfl (by rw [List.length_replicate]; simp only [List.map_nil, Ar.gap, Prod.mk.injEq, true_and, decide_eq_true_eq]; omega))
  obtain ⟨B, hB⟩ : ∃ B, Hid (w3.heap.size = B) := ⟨_, hide rfl⟩
  obtain ⟨mem, hmem⟩ : ∃ mem, Hid (List.replicate s 0 = mem) := ⟨_, hide rfl⟩
  have hml : Hid (mem.length = s) := hide (by rw [← hmem.out, List.length_replicate])
  have hm6 : Hid (mem.length ≤ 1000000) := hide (by rw [hml.out]; omega)
  rw [hB.out, hmem.out] at VA
  have hBw : w.heap.size ≤ B := by rw [← hB.out]; exact HW3
  clear hI hb VN HB1 HW3
  go_wp2_with fail
  refine VA.out.mono ?_
  rintro e w5 ⟨rfl, hI, hT⟩
  have HB5 := hide (HB4.out.trans (hT.below.mono hBw))
  have HB6 := hide (HB5.out.alloc HB5.out.size (.cells #[.int .i64 7, .int .i64 0, .int .i64 (s : Nat)] 30))
  have HI6 : Hid (Ar.Is B (w5.alloc (.cells #[.int .i64 7, .int .i64 0, .int .i64 (s : Nat)] 30)) a mem [⟨7, 0, s, []⟩] fun _ => False) := hide (hI.below ((Below.refl w5.heap.size w5).alloc (Nat.le_refl _) (.cells #[.int .i64 7, .int .i64 0, .int .i64 (s : Nat)] 30))).1
  have VT := hide (ftake_ok 7 n 0 0 0 ⟨7, 0, s, []⟩ HI6.out rfl rfl hnb.1 (by show s ≤ _; omega) (by simp only [Ar.gap, Prod.mk.injEq, true_and, decide_eq_true_eq]; omega))
  clear hI hT HB4 HB5 VA HI6
  go_wp2_with fail
  refine VT.out.mono ?_
  rintro e w7 ⟨rfl, hI, hT⟩
  have HI7 : Hid (Ar.Is B w7 a mem [⟨7, 0, s, [(0, n)]⟩] fun _ => False) := hide hI
  have HB7 := hide (HB6.out.trans (hT.below.mono hBw))
  clear hI hT VT HB6
  obtain ⟨k, hk⟩ : ∃ k, Hid (min L n = k) := ⟨_, hide rfl⟩
  have g1 : min (L : Int) (n : Int) = (k : Int) := by have := hk.out; omega
  have hkb : k ≤ L ∧ k ≤ n := by have := hk.out; omega
  have hkc : k ≤ cap := by omega
  have hkci : (k : Int) ≤ (cap : Int) := by omega
  have hk0 : (0 : Int) ≤ (k : Int) := by omega
  have hkl : (xs.take k).length = k := by rw [List.length_take, hL.out]; omega
  have VW := hide (fwrite 7 0 0 cap ⟨7, 0, s, [(0, n)]⟩ (xs.take k) A HI7.out rfl rfl (by show s ≤ _; omega) ⟨(0, n), by simp, by show 0 ≤ 0; omega, by show 0 + (xs.take k).length ≤ 0 + n; omega⟩ (by show 0 + 0 < mem.length; rw [hml.out]; omega) ((HR.out.below HB7.out).take_ k).lie (fun e => by
    rw [hkl]
    have := hkb.1
    have hx : xs = [] := Classical.byContradiction fun hx => by
      obtain ⟨ad, e', -⟩ := HR.out.2 hx
      rw [e] at e'
      cases e'
    rw [← hL.out, hx] at this
    simpa using this))
  rw [hkl] at VW
  have hol : (Ar.over mem (0 + 0) (xs.take k)).length = s := by rw [Ar.over_len _ _ _ (by rw [hml.out, hkl]; omega), hml.out]
  have HOL := hide hol
  have FNW : Hid (∀ W, Ar.Is B W a (Ar.over mem (0 + 0) (xs.take k)) [⟨7, 0, s, [(0, n)]⟩] (fun _ => False) → Calls Tryd.prog 17 #[.pointer (some ⟨a, 0, none⟩), .int .i64 7] W fun e w' => e = .returned (.bool true) ∧ Ar.Is B w' a mem [] (fun _ => False) ∧ Ar.To B (fun _ => False) W w') := hide (fun W hI => by
    have h := fremove 7 0 ⟨7, 0, s, [(0, n)]⟩ hI rfl rfl
    rw [show Ar.wipe (Ar.over mem (0 + 0) (xs.take k)) (Pt.mk 7 0 s [(0, n)]).off (Pt.mk 7 0 s [(0, n)]).size = mem from (wipe_all _ s HOL.out).trans hmem.out] at h
    exact h)
  clear hkl hol HI7 hk0
  cases A
  all_goals
  go_wp2_with fail
  refine VW.out.mono ?_
  rintro e w8 ⟨rfl, hI, hT⟩
  have HB8 := hide (HB7.out.trans (hT.below.mono hBw))
  have VR := hide (FNW.out _ hI)
  clear hI hT VW HB7 FNW g1 hkci
  go_wp2_with fail
  refine VR.out.mono ?_
  rintro e w9 ⟨rfl, hI, hT⟩
  have HB9 := hide (HB8.out.trans (hT.below.mono hBw))
  have VA := hide (fadd_ok 8 s 0 0 hI (by decide) hsb.1 rfl (by rw [hml.out]; simp only [List.map_nil, Ar.gap, Prod.mk.injEq, true_and, decide_eq_true_eq]; omega))
  clear hI hT HB8 VR
  go_wp2_with fail
  refine VA.out.mono ?_
  rintro e w10 ⟨rfl, hI, hT⟩
  have HB10 := hide (HB9.out.trans (hT.below.mono hBw))
  have HB11 := hide (HB10.out.alloc HB10.out.size (.cells #[.int .i64 8, .int .i64 0, .int .i64 (s : Nat)] 30))
  have HI11 : Hid (Ar.Is B (w10.alloc (.cells #[.int .i64 8, .int .i64 0, .int .i64 (s : Nat)] 30)) a mem [⟨8, 0, s, []⟩] fun k => False ∨ (w10.heap.size ≤ k ∧ k < (w10.alloc (.cells #[.int .i64 8, .int .i64 0, .int .i64 (s : Nat)] 30)).heap.size)) := hide (hI.more (S := []) (Off.of_below ((Below.refl w10.heap.size w10).alloc (Nat.le_refl _) (.cells #[.int .i64 8, .int .i64 0, .int .i64 (s : Nat)] 30))) (fun k hk => by cases hk))
  have HX11 := hide (Has.new w10 30 [.int .i64 8, .int .i64 0, .int .i64 (s : Nat)])
  have VT := hide (ftake_ok 8 s 0 0 0 ⟨8, 0, s, []⟩ HI11.out rfl rfl hsb.1 (by show s ≤ _; omega) (by simp only [Ar.gap, Prod.mk.injEq, true_and, decide_eq_true_eq]; omega))
  clear hI hT HB9 HB10 VA HI11
  go_wp2_with fail
  refine VT.out.mono ?_
  rintro e w12 ⟨rfl, hI, hT⟩
  have HI12 : Hid (Ar.Is B w12 a mem [⟨8, 0, s, [(0, s)]⟩] fun _ => False) := hide (hI.fewer (fun k hk => hk.elim))
  have HX12 : Hid (Has w12 w10.heap.size 30 [.int .i64 8, .int .i64 0, .int .i64 (s : Nat)]) := hide ((hT.keep w10.heap.size (.inr ⟨Nat.le_refl _, by simp⟩)).trans HX11.out)
  have HB12 := hide (HB11.out.trans (hT.below.mono hBw))
  have VD := hide (fread 8 0 s 0 ⟨8, 0, s, [(0, s)]⟩ HI12.out rfl rfl (by show s ≤ _; omega) ⟨(0, s), by simp, by show 0 ≤ 0; omega, by show 0 + s ≤ 0 + s; omega⟩ (by show 0 + 0 < mem.length; rw [hml.out]; omega))
  rw [show (mem.drop ((Pt.mk 8 0 s [(0, s)]).off + 0)).take s = mem by show (mem.drop 0).take s = mem; rw [List.drop_zero, List.take_of_length_le (by rw [hml.out]; exact Nat.le_refl _)]] at VD
  clear hI hT VT HB11 HX11
  go_wp2_with fail
  refine VD.out.mono ?_
  rintro e w13 ⟨⟨v', rfl, hrow⟩, hb⟩
  have HI13 := hide (HI12.out.below hb).1
  have HX13 := hide (HX12.out.below hb HX12.out.lt)
  have HB13 := hide (HB12.out.trans (hb.mono HB12.out.size))
  have HR13 := hide (own_later hrow HB12.out.size)
  obtain ⟨A', c', rfl, hnc, -⟩ := own_lie hrow
  have x1 : w13.cell? ⟨w10.heap.size, 1, none⟩ = some (.int .i64 0) := HX13.out.cell 1
  have VRN := hide (fremove_none 7 HI13.out rfl)
  clear hrow hb VD HI12 HB12 HX12 HX13
  go_wp2_with fail
  refine VRN.out.mono ?_
  rintro e w14 ⟨rfl, hb⟩
  have HI14 := hide (HI13.out.below hb).1
  have HB14 := hide (HB13.out.trans (hb.mono HB13.out.size))
  have HR14 : Hid (Rb w14 A' mem) := hide (by
    obtain ⟨A3, c3, e3, -, -, -, h3⟩ := own_rb HR13.out (fun b hb => by
      rw [← hmem.out] at hb
      rw [List.eq_of_mem_replicate hb]
      decide)
    cases e3
    exact h3.below hb)
  clear hb VRN HI13 HB13 HR13 x1
  go_wp2_with fail
  go_loopw [22] (fun v wr => ∃ i : Nat, i ≤ s ∧ v = .int .i64 i ∧ wr = w14) (fun v _ => s - (intOf v).toNat)
  case atStart => exact ⟨0, by omega, rfl, rfl⟩
  case round =>
    obtain ⟨i, hi, rfl, hwr⟩ := hrel
    subst hwr
    by_cases hlt : i < s
    · obtain ⟨ad, b, hA, hbb, -, hcell⟩ := rb_at HR14.out i (by rw [hml.out]; exact hlt)
      subst hA
      have hb0 : b = 0 := by
        have h := hbb.out
        rw [← hmem.out] at h
        exact List.eq_of_mem_replicate (List.mem_of_getElem? h)
      subst hb0
      have hli : (i : Int) < (s : Int) := by omega
      go_wp2_with fail
      go_roundw
      case rel => exact ⟨i + 1, by omega, by go_num, trivial⟩
      case measure => simp [intOf]; omega
    · obtain rfl : i = s := by omega
      have HBx := hide (HB14.out.alloc HB14.out.size (.cells #[.int .i64 0] 3))
      have HIx := hide (HI14.out.below ((Below.refl wr.heap.size wr).alloc (Nat.le_refl _) (.cells #[.int .i64 0] 3))).1
      have HUx := hide (Boxed.new wr 3 (.int .i64 0))
      have HRx := hide (HR14.out.below ((Below.refl wr.heap.size wr).alloc (Nat.le_refl _) (.cells #[.int .i64 0] 3)))
      have VBK := hide (fblocks 8 0 ⟨8, 0, i, [(0, i)]⟩ HIx.out rfl rfl (by show i ≤ _; omega))
      clear hlt hi
      go_wp2_with fail
      refine VBK.out.mono ?_
      rintro e w15 ⟨Bx, G, Ax, cx, rfl, hbx, hlis, hB1, hB2, hG1, hG2, hb1⟩
      have hszA : (wr.alloc (.cells #[.int .i64 0] 3)).heap.size = wr.heap.size + 1 := by simp
      rw [hszA] at hB1 hG1 hb1
      have hU1 : Boxed w15 wr.heap.size 3 (.int .i64 0) := (hb1.block wr.heap.size (by omega)).trans HUx.out
      have hBw1 : Below wr.heap.size wr w15 := ((Below.refl wr.heap.size wr).alloc (Nat.le_refl _) (.cells #[.int .i64 0] 3)).trans (hb1.mono (by omega))
      clear VBK HBx HIx HUx HRx
      go_wp2_with fail
      refine (wpIn_wide (n := 6)).1 ?_
      apply wpIn_rangeFunc_ownG (F := Fence.wide) rfl (by decide) (gf := 34) (lb := #[.pointer (some ⟨Bx, 0, none⟩)]) rfl trivial (enters_of Tryd.func34 (by kernel_rfl) rfl)
        (blocks_stops Fence.wide 5 trivial rfl (by decide) Bx G 1 cx Ax [(0, i)] (hide rfl) (by decide) w15 hB2 hG2 hbx.cell hlis) (fun h k => h.trans k) (Ar.KR.put hB2 hG2) (Below.refl _ _) (fun _ => rfl)
        (fun pre W => Boxed W wr.heap.size 3 (.int .i64 (Bk.endw pre)) ∧ Below wr.heap.size wr W)
        (fun _ _ _ => False)
        (OwnFrom.and (Own.from (fun s A B row hs hg hr => box_own _ _ (fun pre : List (Nat × Nat) => Value.int .i64 (Bk.endw pre)) s A B row hs hg hr) _) (ownFrom_below (by omega) (by omega)))
        (fun _ _ _ _ _ hs _ _ => hs)
        ⟨hU1, hBw1⟩
      case hassign =>
        intro l x W K hK
        gi_wp2
        exact hK
      case hbody =>
        rintro l pre ⟨x1, x2⟩ W ⟨hUw, hB⟩ _
        have c2 := hUw.cell
        have f2 := hUw.frozen
        gi_wp2
        exact ⟨(KeepsOthers.setCell _ _ _).from _, ⟨Below.heap_setCell W ⟨wr.heap.size, 0, none⟩ _ Bx (by show Bx ≠ wr.heap.size; omega), Below.heap_setCell W ⟨wr.heap.size, 0, none⟩ _ G (by show G ≠ wr.heap.size; omega), by simp [World.setCell]⟩, (by rw [Bk.endw_snoc]; exact hUw.set _), hB.setCell (p := ⟨wr.heap.size, 0, none⟩) (Nat.le_refl _) _⟩
      case hdone =>
        rintro D ys W hD rfl ⟨hUw, hB⟩ hK
        rw [Bk.endw_one i (by omega)] at hUw
        have c2 := hUw.cell
        have HBW := hide hB
        have HIW := hide (HI14.out.below hB).1
        have HRW := hide (HR14.out.below hB)
        have HK := hide hK
        have hDw : wr.heap.size < D := by omega
        have hDl : D < W.heap.size := (Array.getElem?_eq_some_iff.1 hK).1
        have VRW := hide (fraw HIW.out)
        rw [hml.out] at VRW
        clear hUw hB hK
        dsimp only
        go_wp2_with fail
        refine VRW.out.mono ?_
        rintro e w16 ⟨⟨v', rfl, hrow⟩, hb⟩
        have HB16 := hide (HBW.out.trans (hb.mono HBW.out.size))
        have HR16 := hide (HRW.out.below hb)
        have HK16 := hide ((hb.block D hDl).trans HK.out)
        have hDl2 := Nat.lt_of_lt_of_le hDl hb.size
        obtain ⟨A3, c3, rfl, -, -, -, hR3⟩ := own_rb hrow (fun b hb => by
          rw [← hmem.out] at hb
          rw [List.eq_of_mem_replicate hb]
          decide)
        have VS := hide (samebytes_c mem mem A3 A' c3 c' w16 hR3 HR16.out hm6.out hm6.out)
        rw [hml.out] at VS
        simp only [decide_true] at VS
        clear hrow hb VRW HBW HIW HRW HK hR3 HR16 c2
        go_wp2_with fail
        refine VS.out.mono ?_
        rintro e w17 ⟨rfl, hb⟩
        have HB17 := hide (HB16.out.trans (hb.mono HB16.out.size))
        have HK17 := hide ((hb.block D hDl2).trans HK16.out)
        clear hb VS HB16 HK16
        go_wp2_with fail
        refine ⟨by simp, .inl ⟨_, _, rfl, run_takeDeferred HK17.out, ?_⟩⟩
        refine ⟨_, results_tmp rfl _ _ _, rfl, ?_⟩
        exact HB14.out.trans ((HB17.out.trans (belowK_b (w := wr) (Nat.le_refl _) w17 D _ _ (by omega) HK17.out rfl rfl)).mono HB14.out.size)
      case hstop =>
        rintro D c pre W _ _ h _
        exact h.elim

theorem arenascrubs_c (n0 n1 : Int) (xs : List Nat) (A : Option Addr) (cap : Nat) (w : World) (hR : Rb w A xs) (hc : xs.length ≤ cap) :
    Calls Tryd.prog 4 #[.int .i64 n0, .int .i64 n1, .slice A xs.length cap] w fun e w' => e = .returned (.bool true) ∧ Below w.heap.size w w' := by
  by_cases hl : xs.length ≤ 200
  · exact scrubs_short n0 n1 xs A cap w hR hl hc
  · exact scrubs_long n0 n1 xs A cap w (by omega)
end Go.Proofs.YtemaaipgjghlaaaDoor
