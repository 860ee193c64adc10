/-
  The law OpMixes, walked. By an AI agent. No person has read it.
-/
import Derived.Test.YtgdcfjmpjhlndaaDoorOpE
import Derived.Test.YtgdcfjmpjhlndaaDoorOpT
import Derived.Test.YtgdcfjmpjhlndaaDoorCelO
import Derived.Test.YtgdcfjmpjhlndaaDoorTenH
namespace Go.Proofs.YtgdcfjmpjhlndaaDoor
open Go.RowKit

theorem own_caps {w : World} {base n c s : Nat} {e : TypeId} {A : Option Addr} {xs : List Value} (h : w.ownsRow base e s (.slice A n c) n xs) : n ≤ c := by
  rcases h.2 with ⟨h1, h2⟩ | ⟨g, c', cur, h1, -, -, h4, -⟩
  · omega
  · injection h1 with _ _ h5
    omega
theorem ri_drews {w : World} {P : Option Addr} {zs : List Int} (h : Ri w P zs) (n : Nat) : Ri (w.drewN n) P zs := h
theorem rints_good (a b : List Int) (A B : Option Addr) (n m ca cb : Nat) (w : World) (ha : Ri w A a) (hb : Ri w B b) (hl : a.length ≤ 1000000) (h : a = b) (hn : a.length = n) (hm : b.length = m) :
    Calls Tryd.prog 37 #[.slice A n ca, .slice B m cb] w fun e w' => e = .returned (.bool true) ∧ Below w.heap.size w w' := by
  subst hn hm
  refine (sameints_c a b A B ca cb w ha hb hl (by rw [← h]; exact hl)).mono fun e w' h2 => ?_
  rw [decide_eq_true h] at h2
  exact h2
set_option maxRecDepth 100000 in
set_option maxHeartbeats 16000000 in
theorem opmixes_c (l : List Int) (A : Option Addr) (cap : Nat) (ah am ar ak : Addr) (w : World) (hr : Ri w A l) (hE : E4 w ah am ar ak) (hKz : Kz w) :
    Calls Tryd.prog 9 #[.slice A l.length cap] w fun e w' => e = .returned (.bool true) ∧ Below w.heap.size w w' := by
  have HF := hide (first12_c ah am ar ak w hE hKz)
  have HE := hide (fun W (hb : Below w.heap.size w W) => hE.below hb)
  have HK := hide (fun W (hb : Below w.heap.size w W) => hKz.below hb)
  have HL := hide (fun W (hb : Below w.heap.size w W) => hr.below hb)
  have HN := hide (fun x W => number_c x 256 (by decide) (by decide) 256 rfl W)
  obtain ⟨n, hn⟩ : ∃ n, Hid (l.length = n) := ⟨_, hide rfl⟩
  rw [hn.out]
  clear hr hE hKz
  by_cases hbig : 40 < n
  case pos =>
    have hb2 : (40 : Int) < n := by omega
    clear hbig
    go_enter Tryd.func9, Tryd.ntmps9
    go_wp2_with fail
    refine HF.out.mono ?_
    rintro e w1 ⟨rfl, hb⟩
    have HB := hide hb
    clear hb HF
    go_wp2_with fail
    go_ret
    exact ⟨rfl, HB.out⟩
  case neg =>
  have hn40 : (n : Int) ≤ 40 := by omega
  by_cases hz : n = 0
  case pos =>
    subst hz
    go_enter Tryd.func9, Tryd.ntmps9
    go_wp2_with fail
    refine HF.out.mono ?_
    rintro e w1 ⟨rfl, hb⟩
    have HB := hide hb
    clear hb HF
    go_wp2_with fail
    go_ret
    exact ⟨rfl, HB.out⟩
  case neg =>
  have hn0 : ((n : Int) == 0) = false := by simp; omega
  have BN : Hid (1 ≤ n ∧ n ≤ 40) := hide (by omega)
  clear hbig hz
  go_enter Tryd.func9, Tryd.ntmps9
  go_wp2_with fail
  refine HF.out.mono ?_
  rintro e w1 ⟨rfl, hb⟩
  have HB := hide hb
  have HWS1 := hide hb.size
  clear hb HF
  obtain ⟨W, hW⟩ : ∃ W, W = (((w1.alloc (.cells #[.int .i64 1, .int .i64 n] 3)).alloc (.cells #[.slice (some ⟨w1.heap.size, 0, none⟩) 2 2, .bool false, .slice none 0 0] 26)).alloc (.cells #[.int .i64 n, .int .i64 1] 3)).alloc (.cells #[.slice (some ⟨w1.heap.size + 2, 0, none⟩) 2 2, .bool false, .slice none 0 0] 26) := ⟨_, rfl⟩
  have hBW : Below w1.heap.size w1 W := by rw [hW]; exact ((((Below.refl _ _).alloc (Nat.le_refl _) _).alloc (by simp) _).alloc (by simp; omega) _).alloc (by simp; omega) _
  have SA : Hid (Has W w1.heap.size 3 (i64s [((1 : Nat) : Int), (n : Int)])) := hide (by rw [hW]; exact (((Has.new w1 3 [.int .i64 1, .int .i64 n]).alloc _).alloc _).alloc _)
  have XA : Hid (Has W (w1.heap.size + 1) 26 [.slice (some ⟨w1.heap.size, 0, none⟩) 2 2, .bool false, .slice none 0 0]) := hide (by rw [hW]; exact ((box_at _ _ [.slice (some ⟨w1.heap.size, 0, none⟩) 2 2, .bool false, .slice none 0 0] _ (by simp)).alloc _).alloc _)
  have SB : Hid (Has W (w1.heap.size + 2) 3 (i64s [(n : Int), ((1 : Nat) : Int)])) := hide (by rw [hW]; exact (box_at _ _ [.int .i64 n, .int .i64 1] _ (by simp)).alloc _)
  have XB : Hid (Has W (w1.heap.size + 3) 26 [.slice (some ⟨w1.heap.size + 2, 0, none⟩) 2 2, .bool false, .slice none 0 0]) := hide (by rw [hW]; exact box_at _ _ _ _ (by simp))
  have hWs : W.heap.size = w1.heap.size + 4 := by rw [hW]; simp
  have HWS := hide hWs
  replace HB := hide (HB.out.trans (hBW.mono HB.out.size))
  have HW := hide hW
  clear hW hBW hWs
  go_wp2_with fail
  rw [← HW.out]
  clear HW
  go_loopg [7] n (fun gq k wr => ∃ (i : Nat) (us vs : List Int) (va vb : Value), gq + i = n ∧ k = .int .i64 i ∧ Hid (∀ d ∈ us, -128 ≤ d ∧ d ≤ 127) ∧ Hid (∀ d ∈ vs, -128 ≤ d ∧ d ≤ 127) ∧ Hid (Has wr w1.heap.size 3 (i64s [((1 : Nat) : Int), (n : Int)])) ∧ Hid (Has wr (w1.heap.size + 1) 26 [.slice (some ⟨w1.heap.size, 0, none⟩) 2 2, .bool false, va]) ∧ Hid (Has wr (w1.heap.size + 2) 3 (i64s [(n : Int), ((1 : Nat) : Int)])) ∧ Hid (Has wr (w1.heap.size + 3) 26 [.slice (some ⟨w1.heap.size + 2, 0, none⟩) 2 2, .bool false, vb]) ∧ Hid (wr.ownsRow (w1.heap.size + 4) 3 1 va i (i64s us)) ∧ Hid (wr.ownsRow (w1.heap.size + 4) 3 1 vb i (i64s vs)) ∧ Hid (Apart2 va vb) ∧ Hid (Below w.heap.size w wr) ∧ Hid (w1.heap.size + 4 ≤ wr.heap.size))
  case atStart => exact ⟨0, [], [], _, _, by omega, rfl, hide (by simp), hide (by simp), SA, XA, SB, XB, hide ⟨rfl, .inl ⟨rfl, rfl⟩⟩, hide ⟨rfl, .inl ⟨rfl, rfl⟩⟩, hide (fun k hk => by cases hk), HB, hide (by rw [HWS.out]; exact Nat.le_refl _)⟩
  case round =>
    clear SA XA SB XB HB HWS
    obtain ⟨i, us, vs, va, vb, hi9, rfl, NA, NB, SA, XA, SB, XB, OA, OB, AP, HB, HSZ⟩ := hrel
    by_cases hlt : i < n
    · obtain ⟨ad, x, hAD, ex, cx⟩ := ri_at (HL.out _ HB.out) i (by rw [hn.out]; exact hlt)
      subst hAD
      have him : (i : Int) < n := by omega
      have hi0 : (0 : Int) ≤ (i : Int) := by omega
      have c2 : wr.cell? ⟨w1.heap.size + 1, 2, none⟩ = some va := XA.out.cell 2
      have adl : ad.block < wr.heap.size := by
        obtain ⟨ad', h1, h2, -⟩ := (HL.out _ HB.out).2 (by intro h; rw [h] at ex; have h := ex.out; simp at h)
        rw [Option.some.inj h1]
        exact h2
      have xl : w1.heap.size + 1 < wr.heap.size := by have := HSZ.out; omega
      clear ex
      go_wp2_with fail
      have hsl := HSZ.out
      have HBI := hide (show i + 1 ≤ 1000000000000 by have := BN.out; omega)
      have HBS := hide (fun k : Int => show w1.heap.size + 4 ≤ ((wr.alloc (.cells #[.int .i64 k] 3)).drew).heap.size by have := HSZ.out; simp [World.drew]; omega)
      have HOW := hide (fun k : Int => (OA.out.alloc (.cells #[.int .i64 k] 3)).drew)
      have HRI := hide (fun (k : Int) (h : -128 ≤ k ∧ k ≤ 127) => show Ri ((wr.alloc (.cells #[.int .i64 k] 3)).drew) (some ⟨wr.heap.size, 0, none⟩) [k] from ri_drews (new_ri wr 3 [k] (by intro q hq; simp at hq; omega)) 1)
      have HGO := hide (fun (k : Int) => (OB.out.alloc (.cells #[.int .i64 k] 3)).drew)
      have HGB := hide (fun (k : Int) (w' : World) (h2 : ((wr.alloc (.cells #[.int .i64 k] 3)).drew).grownBy w' va.ownBlock) => elm_grown ((HB.out.alloc HB.out.size (.cells #[.int .i64 k] 3)).drew) (own_le (HOW.out k) (by have := HWS1.out; omega)) ((HB.out.alloc HB.out.size (.cells #[.int .i64 k] 3)).drew).size h2)
      have HGXA := hide (fun (k : Int) (w' : World) (h2 : ((wr.alloc (.cells #[.int .i64 k] 3)).drew).grownBy w' va.ownBlock) => (show Has ((wr.alloc (.cells #[.int .i64 k] 3)).drew) (w1.heap.size + 1) 26 [.slice (some ⟨w1.heap.size, 0, none⟩) 2 2, .bool false, va] from (XA.out.alloc (.cells #[.int .i64 k] 3)).drewN 1).grown h2 (own_apart OA.out (by omega)))
      have HGSA := hide (fun (k : Int) (w' : World) (h2 : ((wr.alloc (.cells #[.int .i64 k] 3)).drew).grownBy w' va.ownBlock) => (show Has ((wr.alloc (.cells #[.int .i64 k] 3)).drew) w1.heap.size 3 (i64s [((1 : Nat) : Int), (n : Int)]) from (SA.out.alloc (.cells #[.int .i64 k] 3)).drewN 1).grown h2 (own_apart OA.out (by omega)))
      have HGXB := hide (fun (k : Int) (w' : World) (h2 : ((wr.alloc (.cells #[.int .i64 k] 3)).drew).grownBy w' va.ownBlock) => (show Has ((wr.alloc (.cells #[.int .i64 k] 3)).drew) (w1.heap.size + 3) 26 [.slice (some ⟨w1.heap.size + 2, 0, none⟩) 2 2, .bool false, vb] from (XB.out.alloc (.cells #[.int .i64 k] 3)).drewN 1).grown h2 (own_apart OA.out (by omega)))
      have HGSB := hide (fun (k : Int) (w' : World) (h2 : ((wr.alloc (.cells #[.int .i64 k] 3)).drew).grownBy w' va.ownBlock) => (show Has ((wr.alloc (.cells #[.int .i64 k] 3)).drew) (w1.heap.size + 2) 3 (i64s [(n : Int), ((1 : Nat) : Int)]) from (SB.out.alloc (.cells #[.int .i64 k] 3)).drewN 1).grown h2 (own_apart OA.out (by omega)))
      go_region_law (first
        | (go_simp; go_at_call 36; refine (HN.out _ _).mono ?_; rintro e wq ⟨⟨k, hk, rfl⟩, hw⟩; have hw := hw.symm; subst hw; have hk0 : (0 : Int) ≤ k := (by omega); have hk1 : (k : Int) < 256 := (by omega); have HKK := hide (show -128 ≤ IntKind.i64.wrap ((k : Int) - 128) ∧ IntKind.i64.wrap ((k : Int) - 128) ≤ 127 from (by rw [IntKind.wrap_i64]; omega)); have dal : (wr.alloc (.cells #[.int .i64 (IntKind.i64.wrap ((k : Int) - 128))] 3)).cell? ⟨w1.heap.size + 1, 2, none⟩ = some va := (XA.out.alloc (.cells #[.int .i64 (IntKind.i64.wrap ((k : Int) - 128))] 3)).cell 2)
        | (refine step_append_is rfl (.tmp 62) (.tmp 69) rfl (w1.heap.size + 4) va i (i64s us) (by first | rfl | simp [Act.eval]) (HOW.out (IntKind.i64.wrap ((k : Int) - 128))) (some ⟨wr.heap.size, 0, none⟩) 1 1 [IntKind.i64.wrap ((k : Int) - 128)] (by first | rfl | simp [Act.eval]) (hide rfl) (HRI.out _ HKK.out) HBI.out (HBS.out _) (fun v' w' h1 h2 h3 => ?_); obtain ⟨Pn, cn, hvn⟩ := own_slice h1; subst hvn; have H1 := hide h1; have H2 := hide h2; have H3 := hide h3; have hbx := HGXA.out _ _ h2; have d2 : w'.cell? ⟨w1.heap.size + 1, 2, none⟩ = some va := hbx.cell 2; have f2 := hbx.frozen 2; clear h1 h2 h3 hbx))
      all_goals go_ways
      all_goals
        go_wp2_with fail
        obtain ⟨Wn, hWn⟩ : ∃ W, W = w'.setCell ⟨w1.heap.size + 1, 2, none⟩ (.slice Pn (i + 1) cn) := ⟨_, rfl⟩
        rw [← hWn]
        have hbx := HGXA.out _ _ H2.out
        have XA2 : Hid (Has Wn (w1.heap.size + 1) 26 [.slice (some ⟨w1.heap.size, 0, none⟩) 2 2, .bool false, .slice Pn (i + 1) cn]) := hide (by rw [hWn]; exact hbx.set_ 2 (.slice Pn (i + 1) cn))
        have SA2 : Hid (Has Wn w1.heap.size 3 (i64s [((1 : Nat) : Int), (n : Int)])) := hide (by rw [hWn]; exact (HGSA.out _ _ H2.out).far (by simp <;> omega) _)
        have SB2 : Hid (Has Wn (w1.heap.size + 2) 3 (i64s [(n : Int), ((1 : Nat) : Int)])) := hide (by rw [hWn]; exact (HGSB.out _ _ H2.out).far (by simp <;> omega) _)
        have XB2 : Hid (Has Wn (w1.heap.size + 3) 26 [.slice (some ⟨w1.heap.size + 2, 0, none⟩) 2 2, .bool false, vb]) := hide (by rw [hWn]; exact (HGXB.out _ _ H2.out).far (by simp <;> omega) _)
        have OA2 : Hid (Wn.ownsRow (w1.heap.size + 4) 3 1 (.slice Pn (i + 1) cn) (i + 1) (i64s (us ++ [IntKind.i64.wrap ((k : Int) - 128)]))) := hide (by rw [hWn]; exact own_set (by rw [show i64s (us ++ [IntKind.i64.wrap ((k : Int) - 128)]) = i64s us ++ i64s [IntKind.i64.wrap ((k : Int) - 128)] from List.map_append]; exact H1.out) (by simp) _)
        have OB2 : Hid (Wn.ownsRow (w1.heap.size + 4) 3 1 vb i (i64s vs)) := hide (by rw [hWn]; exact own_set (own_other (HGO.out _) H2.out AP.out) (by simp) _)
        have AP2 : Hid (Apart2 vb (.slice Pn (i + 1) cn)) := hide ((AP.out.new (HGO.out _) H3.out).swap)
        have HB2 : Hid (Below w.heap.size w Wn) := hide (by rw [hWn]; exact (HGB.out _ _ H2.out).setCell (by simp; have := HWS1.out; omega) _)
        have HSZ2 : Hid (w1.heap.size + 4 ≤ Wn.heap.size) := hide (by
          have h1 := H2.out.size
          have h2 := HBS.out (IntKind.i64.wrap ((k : Int) - 128))
          rw [hWn]
          simp only [World.size_setCell]
          exact Nat.le_trans h2 h1)
        have NA2 : Hid (∀ d ∈ us ++ [IntKind.i64.wrap ((k : Int) - 128)], -128 ≤ d ∧ d ≤ 127) := hide (fun d hd => by
          rcases List.mem_append.1 hd with hd | hd
          · exact NA.out d hd
          · rw [List.mem_singleton.1 hd]; exact HKK.out)
        obtain ⟨vc, hvc⟩ : ∃ v, Hid (Value.slice Pn (i + 1) cn = v) := ⟨_, hide rfl⟩
        rw [hvc.out] at XA2 OA2 AP2
        obtain ⟨us2, has2⟩ : ∃ v, Hid (us ++ [IntKind.i64.wrap ((k : Int) - 128)] = v) := ⟨_, hide rfl⟩
        rw [has2.out] at OA2 NA2
        clear hbx HGXA HGSA HGSB HGXB H1 H2 H3 HOW HRI HGO HGB HBS HBI HKK hWn NA XA SA SB XB OA OB AP HB HSZ hsl has2 cx adl xl c2 dal hk hk0 hk1
        obtain ⟨ad2, y, hAD2, ey, cy⟩ := ri_at (HL.out _ HB2.out) i (by rw [hn.out]; exact hlt)
        have hAD2 := Option.some.inj hAD2
        subst hAD2
        have adl : ad.block < Wn.heap.size := by
          obtain ⟨ad', h1, h2, -⟩ := (HL.out _ HB2.out).2 (by intro h; rw [h] at ey; have h := ey.out; simp at h)
          rw [Option.some.inj h1]
          exact h2
        have c2 : Wn.cell? ⟨w1.heap.size + 3, 2, none⟩ = some vb := XB2.out.cell 2
        have xl : w1.heap.size + 3 < Wn.heap.size := by have := HSZ2.out; omega
        clear ey
        obtain ⟨HB, HSZ⟩ := And.intro HB2 HSZ2
        clear HB2 HSZ2
      all_goals
        have hsl := HSZ.out
        have HBI := hide (show i + 1 ≤ 1000000000000 by have := BN.out; omega)
        have HBS := hide (fun k : Int => show w1.heap.size + 4 ≤ ((Wn.alloc (.cells #[.int .i64 k] 3)).drew).heap.size by have := HSZ.out; simp [World.drew]; omega)
        have HOW := hide (fun k : Int => (OB2.out.alloc (.cells #[.int .i64 k] 3)).drew)
        have HRI := hide (fun (k : Int) (h : -128 ≤ k ∧ k ≤ 127) => show Ri ((Wn.alloc (.cells #[.int .i64 k] 3)).drew) (some ⟨Wn.heap.size, 0, none⟩) [k] from ri_drews (new_ri Wn 3 [k] (by intro q hq; simp at hq; omega)) 1)
        have HGO := hide (fun (k : Int) => (OA2.out.alloc (.cells #[.int .i64 k] 3)).drew)
        have HGB := hide (fun (k : Int) (w' : World) (h2 : ((Wn.alloc (.cells #[.int .i64 k] 3)).drew).grownBy w' vb.ownBlock) => elm_grown ((HB.out.alloc HB.out.size (.cells #[.int .i64 k] 3)).drew) (own_le (HOW.out k) (by have := HWS1.out; omega)) ((HB.out.alloc HB.out.size (.cells #[.int .i64 k] 3)).drew).size h2)
        have HGXA2 := hide (fun (k : Int) (w' : World) (h2 : ((Wn.alloc (.cells #[.int .i64 k] 3)).drew).grownBy w' vb.ownBlock) => (show Has ((Wn.alloc (.cells #[.int .i64 k] 3)).drew) (w1.heap.size + 1) 26 [.slice (some ⟨w1.heap.size, 0, none⟩) 2 2, .bool false, vc] from (XA2.out.alloc (.cells #[.int .i64 k] 3)).drewN 1).grown h2 (own_apart OB2.out (by omega)))
        have HGSA2 := hide (fun (k : Int) (w' : World) (h2 : ((Wn.alloc (.cells #[.int .i64 k] 3)).drew).grownBy w' vb.ownBlock) => (show Has ((Wn.alloc (.cells #[.int .i64 k] 3)).drew) w1.heap.size 3 (i64s [((1 : Nat) : Int), (n : Int)]) from (SA2.out.alloc (.cells #[.int .i64 k] 3)).drewN 1).grown h2 (own_apart OB2.out (by omega)))
        have HGXB2 := hide (fun (k : Int) (w' : World) (h2 : ((Wn.alloc (.cells #[.int .i64 k] 3)).drew).grownBy w' vb.ownBlock) => (show Has ((Wn.alloc (.cells #[.int .i64 k] 3)).drew) (w1.heap.size + 3) 26 [.slice (some ⟨w1.heap.size + 2, 0, none⟩) 2 2, .bool false, vb] from (XB2.out.alloc (.cells #[.int .i64 k] 3)).drewN 1).grown h2 (own_apart OB2.out (by omega)))
        have HGSB2 := hide (fun (k : Int) (w' : World) (h2 : ((Wn.alloc (.cells #[.int .i64 k] 3)).drew).grownBy w' vb.ownBlock) => (show Has ((Wn.alloc (.cells #[.int .i64 k] 3)).drew) (w1.heap.size + 2) 3 (i64s [(n : Int), ((1 : Nat) : Int)]) from (SB2.out.alloc (.cells #[.int .i64 k] 3)).drewN 1).grown h2 (own_apart OB2.out (by omega)))
        go_region_law (first
          | (go_simp; go_at_call 36; refine (HN.out _ _).mono ?_; rintro e wq ⟨⟨k, hk, rfl⟩, hw⟩; have hw := hw.symm; subst hw; have hk0 : (0 : Int) ≤ k := (by omega); have hk1 : (k : Int) < 256 := (by omega); have HKK := hide (show -128 ≤ IntKind.i64.wrap ((k : Int) - 128) ∧ IntKind.i64.wrap ((k : Int) - 128) ≤ 127 from (by rw [IntKind.wrap_i64]; omega)); have dal : (Wn.alloc (.cells #[.int .i64 (IntKind.i64.wrap ((k : Int) - 128))] 3)).cell? ⟨w1.heap.size + 3, 2, none⟩ = some vb := (XB2.out.alloc (.cells #[.int .i64 (IntKind.i64.wrap ((k : Int) - 128))] 3)).cell 2)
          | (refine step_append_is rfl (.tmp 73) (.tmp 83) rfl (w1.heap.size + 4) vb i (i64s vs) (by first | rfl | simp [Act.eval]) (HOW.out (IntKind.i64.wrap ((k : Int) - 128))) (some ⟨Wn.heap.size, 0, none⟩) 1 1 [IntKind.i64.wrap ((k : Int) - 128)] (by first | rfl | simp [Act.eval]) (hide rfl) (HRI.out _ HKK.out) HBI.out (HBS.out _) (fun v' w' h1 h2 h3 => ?_); obtain ⟨Pn, cn, hvn⟩ := own_slice h1; subst hvn; have H1 := hide h1; have H2 := hide h2; have H3 := hide h3; have hbx := HGXB2.out _ _ h2; have d2 : w'.cell? ⟨w1.heap.size + 3, 2, none⟩ = some vb := hbx.cell 2; have f2 := hbx.frozen 2; clear h1 h2 h3 hbx))
      all_goals go_ways
      all_goals
        go_wp2_with fail
        go_roundg (n - (i + 1))
        case measure => omega
        case rel =>
          have hbx := HGXB2.out _ _ H2.out
          have hbs := hbx.set_ 2 (.slice Pn (i + 1) cn)
          refine ⟨i + 1, us2, vs ++ [IntKind.i64.wrap ((k : Int) - 128)], vc, .slice Pn (i + 1) cn, by omega, by go_num, NA2, hide ?_, hide ((HGSA2.out _ _ H2.out).far (by simp <;> omega) _), hide ((HGXA2.out _ _ H2.out).far (by simp <;> omega) _), hide ((HGSB2.out _ _ H2.out).far (by simp <;> omega) _), hide hbs, hide (own_set (own_other (HGO.out _) H2.out AP2.out) (by simp) _), hide (own_set (by rw [show i64s (vs ++ [IntKind.i64.wrap ((k : Int) - 128)]) = i64s vs ++ i64s [IntKind.i64.wrap ((k : Int) - 128)] from List.map_append]; exact H1.out) (by simp) _), hide ((AP2.out.new (HGO.out _) H3.out).swap), hide ((HGB.out _ _ H2.out).setCell (by simp; have := HWS1.out; omega) _), hide ?_⟩
          · intro d hd
            rcases List.mem_append.1 hd with hd | hd
            · exact NB.out d hd
            · rw [List.mem_singleton.1 hd]; exact HKK.out
          · have h1 := H2.out.size
            have h2 := HBS.out (IntKind.i64.wrap ((k : Int) - 128))
            simp only [World.size_setCell]
            exact Nat.le_trans h2 h1
    · obtain rfl : n = i := by omega
      have hii : ¬ (n : Int) < (n : Int) := by omega
      obtain ⟨DA, dca, rfl, hRA, hla⟩ := own_ri OA.out (fun d hd => wf_i64 d (by have := NA.out d hd; omega))
      obtain ⟨DB, dcb, rfl, hRB, hlb⟩ := own_ri OB.out (fun d hd => wf_i64 d (by have := NB.out d hd; omega))
      have hca := own_caps OA.out
      have hcb := own_caps OB.out
      obtain ⟨a, ea⟩ : ∃ a : Ten, Hid (a = ⟨some ⟨w1.heap.size, 0, none⟩, [((1 : Nat) : Int), (n : Int)], 2, false, DA, us, dca⟩) := ⟨_, hide rfl⟩
      obtain ⟨b, eb⟩ : ∃ a : Ten, Hid (a = ⟨some ⟨w1.heap.size + 2, 0, none⟩, [(n : Int), ((1 : Nat) : Int)], 2, false, DB, vs, dcb⟩) := ⟨_, hide rfl⟩
      obtain ⟨wc, hwc⟩ : ∃ W, W = wr := ⟨_, rfl⟩
      subst hwc
      have TA : Hid (a.In wc) := hide (by rw [ea.out]; exact ⟨SA.out.ri (by intro q hq; have := BN.out; simp at hq; rcases hq with rfl | rfl <;> exact wf_i64 _ (by omega)), hRA, by show 2 ≤ 1000000; omega, by show us.length ≤ 1000000; have := BN.out; omega⟩)
      have TB : Hid (b.In wc) := hide (by rw [eb.out]; exact ⟨SB.out.ri (by intro q hq; have := BN.out; simp at hq; rcases hq with rfl | rfl <;> exact wf_i64 _ (by omega)), hRB, by show 2 ≤ 1000000; omega, by show vs.length ≤ 1000000; have := BN.out; omega⟩)
      have BA : Hid (Has wc (w1.heap.size + 1) 26 [.slice a.P a.zs.length a.cap, .bool a.u, .slice a.D a.ds.length a.dcap]) := hide (by have h := XA.out; rw [ea.out]; show Has wc (w1.heap.size + 1) 26 [.slice (some ⟨w1.heap.size, 0, none⟩) 2 2, .bool false, .slice DA us.length dca]; rw [hla]; exact h)
      have BB : Hid (Has wc (w1.heap.size + 3) 26 [.slice b.P b.zs.length b.cap, .bool b.u, .slice b.D b.ds.length b.dcap]) := hide (by have h := XB.out; rw [eb.out]; show Has wc (w1.heap.size + 3) 26 [.slice (some ⟨w1.heap.size + 2, 0, none⟩) 2 2, .bool false, .slice DB vs.length dcb]; rw [hlb]; exact h)
      have IA : Hid (Mat.Is a 1 n false) := hide ⟨by rw [ea.out], by rw [ea.out], by rw [ea.out, Nat.one_mul]; exact hla, fun z hz => by rw [ea.out] at hz; exact Sf.fitn (NA.out z hz)⟩
      have IB : Hid (Mat.Is b n 1 false) := hide ⟨by rw [eb.out], by rw [eb.out], by rw [eb.out, Nat.mul_one]; exact hlb, fun z hz => by rw [eb.out] at hz; exact Sf.fitn (NB.out z hz)⟩
      have N1 : Hid ((1 ≤ 1 ∧ 1 ≤ 100) ∧ (1 ≤ n ∧ n ≤ 100)) := hide (by have := BN.out; omega)
      clear ea eb XA SA XB SB hRA hRB hla hlb hca hcb NA NB OA OB AP HSZ hlt
      have x0 : (wc.alloc (.cells #[.int .i64 0, .int .i64 0] 3)).cell? ⟨w1.heap.size + 1, 0, none⟩ = some (.slice a.P a.zs.length a.cap) := (BA.out.alloc _).cell 0
      have x1 : (wc.alloc (.cells #[.int .i64 0, .int .i64 0] 3)).cell? ⟨w1.heap.size + 1, 1, none⟩ = some (.bool a.u) := (BA.out.alloc _).cell 1
      have x2 : (wc.alloc (.cells #[.int .i64 0, .int .i64 0] 3)).cell? ⟨w1.heap.size + 1, 2, none⟩ = some (.slice a.D a.ds.length a.dcap) := (BA.out.alloc _).cell 2
      have x3 : (wc.alloc (.cells #[.int .i64 0, .int .i64 0] 3)).cell? ⟨w1.heap.size + 3, 0, none⟩ = some (.slice b.P b.zs.length b.cap) := (BB.out.alloc _).cell 0
      have x4 : (wc.alloc (.cells #[.int .i64 0, .int .i64 0] 3)).cell? ⟨w1.heap.size + 3, 1, none⟩ = some (.bool b.u) := (BB.out.alloc _).cell 1
      have x5 : (wc.alloc (.cells #[.int .i64 0, .int .i64 0] 3)).cell? ⟨w1.heap.size + 3, 2, none⟩ = some (.slice b.D b.ds.length b.dcap) := (BB.out.alloc _).cell 2
      obtain ⟨d1, hd1⟩ : ∃ W, W = wc.alloc (.cells #[.int .i64 0, .int .i64 0] 3) := ⟨_, rfl⟩
      have hbA : Below wc.heap.size wc d1 := by rw [hd1]; exact (Below.refl _ _).alloc (Nat.le_refl _) _
      have QP : Hid (Has d1 wc.heap.size 3 [.int .i64 0, .int .i64 0]) := hide (by rw [hd1]; exact Has.new _ _ _)
      replace HB := hide (HB.out.trans (hbA.mono HB.out.size))
      replace TA := hide (TA.out.below hbA)
      replace BA := hide (BA.out.below hbA BA.out.lt)
      replace TB := hide (TB.out.below hbA)
      replace BB := hide (BB.out.below hbA BB.out.lt)
      have Hd1 := hide hd1
      clear hd1 hbA
      obtain ⟨d2, hd2⟩ : ∃ W, W = d1.alloc (.cells #[.slice a.P a.zs.length a.cap, .bool a.u, .slice a.D a.ds.length a.dcap, .slice b.P b.zs.length b.cap, .bool b.u, .slice b.D b.ds.length b.dcap] 26) := ⟨_, rfl⟩
      have hbA : Below d1.heap.size d1 d2 := by rw [hd2]; exact (Below.refl _ _).alloc (Nat.le_refl _) _
      have RP : Hid (Has d2 (wc.heap.size + 1) 26 [.slice a.P a.zs.length a.cap, .bool a.u, .slice a.D a.ds.length a.dcap, .slice b.P b.zs.length b.cap, .bool b.u, .slice b.D b.ds.length b.dcap]) := hide (by rw [hd2]; exact box_at _ _ _ _ (by rw [Hd1.out]; simp))
      replace HB := hide (HB.out.trans (hbA.mono HB.out.size))
      replace TA := hide (TA.out.below hbA)
      replace BA := hide (BA.out.below hbA BA.out.lt)
      replace TB := hide (TB.out.below hbA)
      replace BB := hide (BB.out.below hbA BB.out.lt)
      replace QP := hide (QP.out.below hbA QP.out.lt)
      have Hd2 := hide hd2
      clear hd2 hbA
      go_wp2_with fail
      rw [← Hd1.out]
      rw [← Hd2.out]
      clear Hd1 Hd2
      clear x0 x1 x2 x3 x4 x5
      refine (opapply_prod (za := 0) (zb := 0) IA.out IB.out N1.out.1 N1.out.2 N1.out.1 (by decide) (by decide) _ _ 2 2 ah am ar ak _ (QP.out.ri (zs := [0, 0]) (by intro q hq; simp at hq; rw [hq]; exact wf_i64 _ (by decide))) RP.out.row TA.out TB.out (HE.out _ HB.out) (HK.out _ HB.out)).mono ?_
      rintro e d3 ⟨⟨tp, rfl, htp, htpz, htpu, htpd, htpc⟩, hb⟩
      replace HB := hide (HB.out.trans (hb.mono HB.out.size))
      replace TA := hide (TA.out.below hb)
      replace BA := hide (BA.out.below hb BA.out.lt)
      replace TB := hide (TB.out.below hb)
      replace BB := hide (BB.out.below hb BB.out.lt)
      replace QP := hide (QP.out.below hb QP.out.lt)
      replace RP := hide (RP.out.below hb RP.out.lt)
      clear hb
      have TP := hide htp
      have ZP := hide htpz
      have UP := hide htpu
      have DP := hide htpd
      have CP := hide htpc
      clear htp htpz htpu htpd htpc
      clear QP RP
      have x0 : (d3.alloc (.cells #[.slice tp.P tp.zs.length tp.cap, .bool tp.u, .slice tp.D tp.ds.length tp.dcap] 26)).cell? ⟨w1.heap.size + 3, 0, none⟩ = some (.slice b.P b.zs.length b.cap) := (BB.out.alloc _).cell 0
      have x1 : (d3.alloc (.cells #[.slice tp.P tp.zs.length tp.cap, .bool tp.u, .slice tp.D tp.ds.length tp.dcap] 26)).cell? ⟨w1.heap.size + 3, 1, none⟩ = some (.bool b.u) := (BB.out.alloc _).cell 1
      have x2 : (d3.alloc (.cells #[.slice tp.P tp.zs.length tp.cap, .bool tp.u, .slice tp.D tp.ds.length tp.dcap] 26)).cell? ⟨w1.heap.size + 3, 2, none⟩ = some (.slice b.D b.ds.length b.dcap) := (BB.out.alloc _).cell 2
      obtain ⟨d4, hd4⟩ : ∃ W, W = d3.alloc (.cells #[.slice tp.P tp.zs.length tp.cap, .bool tp.u, .slice tp.D tp.ds.length tp.dcap] 26) := ⟨_, rfl⟩
      have hbA : Below d3.heap.size d3 d4 := by rw [hd4]; exact (Below.refl _ _).alloc (Nat.le_refl _) _
      have BP : Hid (Has d4 d3.heap.size 26 [.slice tp.P tp.zs.length tp.cap, .bool tp.u, .slice tp.D tp.ds.length tp.dcap]) := hide (by rw [hd4]; exact Has.new _ _ _)
      replace HB := hide (HB.out.trans (hbA.mono HB.out.size))
      replace TA := hide (TA.out.below hbA)
      replace BA := hide (BA.out.below hbA BA.out.lt)
      replace TB := hide (TB.out.below hbA)
      replace BB := hide (BB.out.below hbA BB.out.lt)
      replace TP := hide (TP.out.below hbA)
      have Hd4 := hide hd4
      clear hd4 hbA
      obtain ⟨d5, hd5⟩ : ∃ W, W = d4.alloc (.cells #[.slice b.P b.zs.length b.cap, .bool b.u, .slice b.D b.ds.length b.dcap] 26) := ⟨_, rfl⟩
      have hbA : Below d4.heap.size d4 d5 := by rw [hd5]; exact (Below.refl _ _).alloc (Nat.le_refl _) _
      have RT : Hid (Has d5 (d3.heap.size + 1) 26 [.slice b.P b.zs.length b.cap, .bool b.u, .slice b.D b.ds.length b.dcap]) := hide (by rw [hd5]; exact box_at _ _ _ _ (by rw [Hd4.out]; simp))
      replace HB := hide (HB.out.trans (hbA.mono HB.out.size))
      replace TA := hide (TA.out.below hbA)
      replace BA := hide (BA.out.below hbA BA.out.lt)
      replace TB := hide (TB.out.below hbA)
      replace BB := hide (BB.out.below hbA BB.out.lt)
      replace TP := hide (TP.out.below hbA)
      replace BP := hide (BP.out.below hbA BP.out.lt)
      have Hd5 := hide hd5
      clear hd5 hbA
      go_wp2_with fail
      rw [← Hd4.out]
      rw [← Hd5.out]
      clear Hd4 Hd5
      clear x0 x1 x2
      refine (opapply_turn IB.out N1.out.2 N1.out.1 _ 1 ah am ar ak _ RT.out.row TB.out (HE.out _ HB.out) (HK.out _ HB.out)).mono ?_
      rintro e d6 ⟨⟨tt, rfl, htt, httz, httu, httd, httc⟩, hb⟩
      replace HB := hide (HB.out.trans (hb.mono HB.out.size))
      replace TA := hide (TA.out.below hb)
      replace BA := hide (BA.out.below hb BA.out.lt)
      replace TB := hide (TB.out.below hb)
      replace BB := hide (BB.out.below hb BB.out.lt)
      replace TP := hide (TP.out.below hb)
      replace BP := hide (BP.out.below hb BP.out.lt)
      replace RT := hide (RT.out.below hb RT.out.lt)
      clear hb
      have TT := hide htt
      have ZT := hide httz
      have UT := hide httu
      have DT := hide httd
      have CT := hide httc
      clear htt httz httu httd httc
      clear RT
      have IT : Hid (Mat.Is tt 1 n false) := hide (Mat.turn_is tt IB.out ZT.out UT.out DT.out)
      have ET : Hid (tt.ds = b.ds) := hide (by rw [DT.out]; exact Mat.turn_col b.ds n (by rw [IB.out.len, Nat.mul_one]))
      have x0 : ((d6.alloc (.cells #[.slice tt.P tt.zs.length tt.cap, .bool tt.u, .slice tt.D tt.ds.length tt.dcap] 26)).alloc (.cells #[.int .i64 0] 3)).cell? ⟨w1.heap.size + 1, 0, none⟩ = some (.slice a.P a.zs.length a.cap) := ((BA.out.alloc _).alloc _).cell 0
      have x1 : ((d6.alloc (.cells #[.slice tt.P tt.zs.length tt.cap, .bool tt.u, .slice tt.D tt.ds.length tt.dcap] 26)).alloc (.cells #[.int .i64 0] 3)).cell? ⟨w1.heap.size + 1, 1, none⟩ = some (.bool a.u) := ((BA.out.alloc _).alloc _).cell 1
      have x2 : ((d6.alloc (.cells #[.slice tt.P tt.zs.length tt.cap, .bool tt.u, .slice tt.D tt.ds.length tt.dcap] 26)).alloc (.cells #[.int .i64 0] 3)).cell? ⟨w1.heap.size + 1, 2, none⟩ = some (.slice a.D a.ds.length a.dcap) := ((BA.out.alloc _).alloc _).cell 2
      obtain ⟨d7, hd7⟩ : ∃ W, W = d6.alloc (.cells #[.slice tt.P tt.zs.length tt.cap, .bool tt.u, .slice tt.D tt.ds.length tt.dcap] 26) := ⟨_, rfl⟩
      have hbA : Below d6.heap.size d6 d7 := by rw [hd7]; exact (Below.refl _ _).alloc (Nat.le_refl _) _
      have BT : Hid (Has d7 d6.heap.size 26 [.slice tt.P tt.zs.length tt.cap, .bool tt.u, .slice tt.D tt.ds.length tt.dcap]) := hide (by rw [hd7]; exact Has.new _ _ _)
      replace HB := hide (HB.out.trans (hbA.mono HB.out.size))
      replace TA := hide (TA.out.below hbA)
      replace BA := hide (BA.out.below hbA BA.out.lt)
      replace TB := hide (TB.out.below hbA)
      replace BB := hide (BB.out.below hbA BB.out.lt)
      replace TP := hide (TP.out.below hbA)
      replace BP := hide (BP.out.below hbA BP.out.lt)
      replace TT := hide (TT.out.below hbA)
      have Hd7 := hide hd7
      clear hd7 hbA
      obtain ⟨d8, hd8⟩ : ∃ W, W = d7.alloc (.cells #[.int .i64 0] 3) := ⟨_, rfl⟩
      have hbA : Below d7.heap.size d7 d8 := by rw [hd8]; exact (Below.refl _ _).alloc (Nat.le_refl _) _
      have QX : Hid (Has d8 (d6.heap.size + 1) 3 [.int .i64 0]) := hide (by rw [hd8]; exact box_at _ _ _ _ (by rw [Hd7.out]; simp))
      replace HB := hide (HB.out.trans (hbA.mono HB.out.size))
      replace TA := hide (TA.out.below hbA)
      replace BA := hide (BA.out.below hbA BA.out.lt)
      replace TB := hide (TB.out.below hbA)
      replace BB := hide (BB.out.below hbA BB.out.lt)
      replace TP := hide (TP.out.below hbA)
      replace BP := hide (BP.out.below hbA BP.out.lt)
      replace TT := hide (TT.out.below hbA)
      replace BT := hide (BT.out.below hbA BT.out.lt)
      have Hd8 := hide hd8
      clear hd8 hbA
      obtain ⟨d9, hd9⟩ : ∃ W, W = d8.alloc (.cells #[.slice a.P a.zs.length a.cap, .bool a.u, .slice a.D a.ds.length a.dcap] 26) := ⟨_, rfl⟩
      have hbA : Below d8.heap.size d8 d9 := by rw [hd9]; exact (Below.refl _ _).alloc (Nat.le_refl _) _
      have RX : Hid (Has d9 (d6.heap.size + 2) 26 [.slice a.P a.zs.length a.cap, .bool a.u, .slice a.D a.ds.length a.dcap]) := hide (by rw [hd9]; exact box_at _ _ _ _ (by rw [Hd8.out, Hd7.out]; simp))
      replace HB := hide (HB.out.trans (hbA.mono HB.out.size))
      replace TA := hide (TA.out.below hbA)
      replace BA := hide (BA.out.below hbA BA.out.lt)
      replace TB := hide (TB.out.below hbA)
      replace BB := hide (BB.out.below hbA BB.out.lt)
      replace TP := hide (TP.out.below hbA)
      replace BP := hide (BP.out.below hbA BP.out.lt)
      replace TT := hide (TT.out.below hbA)
      replace BT := hide (BT.out.below hbA BT.out.lt)
      replace QX := hide (QX.out.below hbA QX.out.lt)
      have Hd9 := hide hd9
      clear hd9 hbA
      go_wp2_with fail
      rw [← Hd7.out]
      rw [← Hd8.out]
      rw [← Hd9.out]
      clear Hd7 Hd8 Hd9
      clear x0 x1 x2
      refine (opapply_one 11 (by decide) [0] (IA.out.fault (by decide) (by decide) N1.out.2.1 N1.out.2.2) 1 rfl rfl (by rw [IA.out.hu]; decide) (fun h => by cases h) (fun _ => IA.out.hu) _ _ 1 1 ah am ar ak _ (QX.out.ri (zs := [0]) (by intro q hq; rw [List.mem_singleton.1 hq]; exact wf_i64 _ (by decide))) RX.out.row TA.out (HE.out _ HB.out) (HK.out _ HB.out)).mono ?_
      rintro e d10 ⟨⟨tx, rfl, htx, htxz, htxu, htxd, htxc⟩, hb⟩
      replace HB := hide (HB.out.trans (hb.mono HB.out.size))
      replace TA := hide (TA.out.below hb)
      replace BA := hide (BA.out.below hb BA.out.lt)
      replace TB := hide (TB.out.below hb)
      replace BB := hide (BB.out.below hb BB.out.lt)
      replace TP := hide (TP.out.below hb)
      replace BP := hide (BP.out.below hb BP.out.lt)
      replace TT := hide (TT.out.below hb)
      replace BT := hide (BT.out.below hb BT.out.lt)
      replace QX := hide (QX.out.below hb QX.out.lt)
      replace RX := hide (RX.out.below hb RX.out.lt)
      clear hb
      have TX := hide htx
      have ZX := hide htxz
      have UX := hide htxu
      have DX := hide htxd
      have CX := hide htxc
      clear htx htxz htxu htxd htxc
      clear QX RX
      have ⟨hi, hd⟩ := Mix.widen IA.out ZX.out UX.out DX.out
      have IX := hide hi
      have EX := hide hd
      clear hi hd
      have x0 : ((d10.alloc (.cells #[.slice tx.P tx.zs.length tx.cap, .bool tx.u, .slice tx.D tx.ds.length tx.dcap] 26)).alloc (.cells #[.int .i64 0] 3)).cell? ⟨d6.heap.size, 0, none⟩ = some (.slice tt.P tt.zs.length tt.cap) := ((BT.out.alloc _).alloc _).cell 0
      have x1 : ((d10.alloc (.cells #[.slice tx.P tx.zs.length tx.cap, .bool tx.u, .slice tx.D tx.ds.length tx.dcap] 26)).alloc (.cells #[.int .i64 0] 3)).cell? ⟨d6.heap.size, 1, none⟩ = some (.bool tt.u) := ((BT.out.alloc _).alloc _).cell 1
      have x2 : ((d10.alloc (.cells #[.slice tx.P tx.zs.length tx.cap, .bool tx.u, .slice tx.D tx.ds.length tx.dcap] 26)).alloc (.cells #[.int .i64 0] 3)).cell? ⟨d6.heap.size, 2, none⟩ = some (.slice tt.D tt.ds.length tt.dcap) := ((BT.out.alloc _).alloc _).cell 2
      obtain ⟨d11, hd11⟩ : ∃ W, W = d10.alloc (.cells #[.slice tx.P tx.zs.length tx.cap, .bool tx.u, .slice tx.D tx.ds.length tx.dcap] 26) := ⟨_, rfl⟩
      have hbA : Below d10.heap.size d10 d11 := by rw [hd11]; exact (Below.refl _ _).alloc (Nat.le_refl _) _
      have BX : Hid (Has d11 d10.heap.size 26 [.slice tx.P tx.zs.length tx.cap, .bool tx.u, .slice tx.D tx.ds.length tx.dcap]) := hide (by rw [hd11]; exact Has.new _ _ _)
      replace HB := hide (HB.out.trans (hbA.mono HB.out.size))
      replace TA := hide (TA.out.below hbA)
      replace BA := hide (BA.out.below hbA BA.out.lt)
      replace TB := hide (TB.out.below hbA)
      replace BB := hide (BB.out.below hbA BB.out.lt)
      replace TP := hide (TP.out.below hbA)
      replace BP := hide (BP.out.below hbA BP.out.lt)
      replace TT := hide (TT.out.below hbA)
      replace BT := hide (BT.out.below hbA BT.out.lt)
      replace TX := hide (TX.out.below hbA)
      have Hd11 := hide hd11
      clear hd11 hbA
      obtain ⟨d12, hd12⟩ : ∃ W, W = d11.alloc (.cells #[.int .i64 0] 3) := ⟨_, rfl⟩
      have hbA : Below d11.heap.size d11 d12 := by rw [hd12]; exact (Below.refl _ _).alloc (Nat.le_refl _) _
      have QY : Hid (Has d12 (d10.heap.size + 1) 3 [.int .i64 0]) := hide (by rw [hd12]; exact box_at _ _ _ _ (by rw [Hd11.out]; simp))
      replace HB := hide (HB.out.trans (hbA.mono HB.out.size))
      replace TA := hide (TA.out.below hbA)
      replace BA := hide (BA.out.below hbA BA.out.lt)
      replace TB := hide (TB.out.below hbA)
      replace BB := hide (BB.out.below hbA BB.out.lt)
      replace TP := hide (TP.out.below hbA)
      replace BP := hide (BP.out.below hbA BP.out.lt)
      replace TT := hide (TT.out.below hbA)
      replace BT := hide (BT.out.below hbA BT.out.lt)
      replace TX := hide (TX.out.below hbA)
      replace BX := hide (BX.out.below hbA BX.out.lt)
      have Hd12 := hide hd12
      clear hd12 hbA
      obtain ⟨d13, hd13⟩ : ∃ W, W = d12.alloc (.cells #[.slice tt.P tt.zs.length tt.cap, .bool tt.u, .slice tt.D tt.ds.length tt.dcap] 26) := ⟨_, rfl⟩
      have hbA : Below d12.heap.size d12 d13 := by rw [hd13]; exact (Below.refl _ _).alloc (Nat.le_refl _) _
      have RY : Hid (Has d13 (d10.heap.size + 2) 26 [.slice tt.P tt.zs.length tt.cap, .bool tt.u, .slice tt.D tt.ds.length tt.dcap]) := hide (by rw [hd13]; exact box_at _ _ _ _ (by rw [Hd12.out, Hd11.out]; simp))
      replace HB := hide (HB.out.trans (hbA.mono HB.out.size))
      replace TA := hide (TA.out.below hbA)
      replace BA := hide (BA.out.below hbA BA.out.lt)
      replace TB := hide (TB.out.below hbA)
      replace BB := hide (BB.out.below hbA BB.out.lt)
      replace TP := hide (TP.out.below hbA)
      replace BP := hide (BP.out.below hbA BP.out.lt)
      replace TT := hide (TT.out.below hbA)
      replace BT := hide (BT.out.below hbA BT.out.lt)
      replace TX := hide (TX.out.below hbA)
      replace BX := hide (BX.out.below hbA BX.out.lt)
      replace QY := hide (QY.out.below hbA QY.out.lt)
      have Hd13 := hide hd13
      clear hd13 hbA
      go_wp2_with fail
      rw [← Hd11.out]
      rw [← Hd12.out]
      rw [← Hd13.out]
      clear Hd11 Hd12 Hd13
      clear x0 x1 x2
      refine (opapply_one 11 (by decide) [0] (IT.out.fault (by decide) (by decide) N1.out.2.1 N1.out.2.2) 1 rfl rfl (by rw [IT.out.hu]; decide) (fun h => by cases h) (fun _ => IT.out.hu) _ _ 1 1 ah am ar ak _ (QY.out.ri (zs := [0]) (by intro q hq; rw [List.mem_singleton.1 hq]; exact wf_i64 _ (by decide))) RY.out.row TT.out (HE.out _ HB.out) (HK.out _ HB.out)).mono ?_
      rintro e d14 ⟨⟨ty, rfl, hty, htyz, htyu, htyd, htyc⟩, hb⟩
      replace HB := hide (HB.out.trans (hb.mono HB.out.size))
      replace TA := hide (TA.out.below hb)
      replace BA := hide (BA.out.below hb BA.out.lt)
      replace TB := hide (TB.out.below hb)
      replace BB := hide (BB.out.below hb BB.out.lt)
      replace TP := hide (TP.out.below hb)
      replace BP := hide (BP.out.below hb BP.out.lt)
      replace TT := hide (TT.out.below hb)
      replace BT := hide (BT.out.below hb BT.out.lt)
      replace TX := hide (TX.out.below hb)
      replace BX := hide (BX.out.below hb BX.out.lt)
      replace QY := hide (QY.out.below hb QY.out.lt)
      replace RY := hide (RY.out.below hb RY.out.lt)
      clear hb
      have TY := hide hty
      have ZY := hide htyz
      have UY := hide htyu
      have DY := hide htyd
      have CY := hide htyc
      clear hty htyz htyu htyd htyc
      clear QY RY
      have ⟨hi, hd⟩ := Mix.widen IT.out ZY.out UY.out DY.out
      have IY := hide hi
      have EY := hide hd
      clear hi hd
      have x0 : (d14.alloc (.cells #[.slice ty.P ty.zs.length ty.cap, .bool ty.u, .slice ty.D ty.ds.length ty.dcap] 26)).cell? ⟨d10.heap.size, 0, none⟩ = some (.slice tx.P tx.zs.length tx.cap) := (BX.out.alloc _).cell 0
      have x1 : (d14.alloc (.cells #[.slice ty.P ty.zs.length ty.cap, .bool ty.u, .slice ty.D ty.ds.length ty.dcap] 26)).cell? ⟨d10.heap.size, 1, none⟩ = some (.bool tx.u) := (BX.out.alloc _).cell 1
      have x2 : (d14.alloc (.cells #[.slice ty.P ty.zs.length ty.cap, .bool ty.u, .slice ty.D ty.ds.length ty.dcap] 26)).cell? ⟨d10.heap.size, 2, none⟩ = some (.slice tx.D tx.ds.length tx.dcap) := (BX.out.alloc _).cell 2
      obtain ⟨d15, hd15⟩ : ∃ W, W = d14.alloc (.cells #[.slice ty.P ty.zs.length ty.cap, .bool ty.u, .slice ty.D ty.ds.length ty.dcap] 26) := ⟨_, rfl⟩
      have hbA : Below d14.heap.size d14 d15 := by rw [hd15]; exact (Below.refl _ _).alloc (Nat.le_refl _) _
      have BY : Hid (Has d15 d14.heap.size 26 [.slice ty.P ty.zs.length ty.cap, .bool ty.u, .slice ty.D ty.ds.length ty.dcap]) := hide (by rw [hd15]; exact Has.new _ _ _)
      replace HB := hide (HB.out.trans (hbA.mono HB.out.size))
      replace TA := hide (TA.out.below hbA)
      replace BA := hide (BA.out.below hbA BA.out.lt)
      replace TB := hide (TB.out.below hbA)
      replace BB := hide (BB.out.below hbA BB.out.lt)
      replace TP := hide (TP.out.below hbA)
      replace BP := hide (BP.out.below hbA BP.out.lt)
      replace TT := hide (TT.out.below hbA)
      replace BT := hide (BT.out.below hbA BT.out.lt)
      replace TX := hide (TX.out.below hbA)
      replace BX := hide (BX.out.below hbA BX.out.lt)
      replace TY := hide (TY.out.below hbA)
      have Hd15 := hide hd15
      clear hd15 hbA
      obtain ⟨d16, hd16⟩ : ∃ W, W = d15.alloc (.cells #[.slice tx.P tx.zs.length tx.cap, .bool tx.u, .slice tx.D tx.ds.length tx.dcap, .slice ty.P ty.zs.length ty.cap, .bool ty.u, .slice ty.D ty.ds.length ty.dcap] 26) := ⟨_, rfl⟩
      have hbA : Below d15.heap.size d15 d16 := by rw [hd16]; exact (Below.refl _ _).alloc (Nat.le_refl _) _
      have RZ : Hid (Has d16 (d14.heap.size + 1) 26 [.slice tx.P tx.zs.length tx.cap, .bool tx.u, .slice tx.D tx.ds.length tx.dcap, .slice ty.P ty.zs.length ty.cap, .bool ty.u, .slice ty.D ty.ds.length ty.dcap]) := hide (by rw [hd16]; exact box_at _ _ _ _ (by rw [Hd15.out]; simp))
      replace HB := hide (HB.out.trans (hbA.mono HB.out.size))
      replace TA := hide (TA.out.below hbA)
      replace BA := hide (BA.out.below hbA BA.out.lt)
      replace TB := hide (TB.out.below hbA)
      replace BB := hide (BB.out.below hbA BB.out.lt)
      replace TP := hide (TP.out.below hbA)
      replace BP := hide (BP.out.below hbA BP.out.lt)
      replace TT := hide (TT.out.below hbA)
      replace BT := hide (BT.out.below hbA BT.out.lt)
      replace TX := hide (TX.out.below hbA)
      replace BX := hide (BX.out.below hbA BX.out.lt)
      replace TY := hide (TY.out.below hbA)
      replace BY := hide (BY.out.below hbA BY.out.lt)
      have Hd16 := hide hd16
      clear hd16 hbA
      go_wp2_with fail
      rw [← Hd15.out]
      rw [← Hd16.out]
      clear Hd15 Hd16
      clear x0 x1 x2
      refine (opapply_two 6 (by decide) (Mix.pair N1.out.2.1 N1.out.2.2 IX.out IY.out) _ 2 ah am ar ak _ RZ.out.row TX.out TY.out (HE.out _ HB.out) (HK.out _ HB.out)).mono ?_
      rintro e d17 ⟨⟨tz, rfl, htz, htzz, htzu, htzd, htzc⟩, hb⟩
      replace HB := hide (HB.out.trans (hb.mono HB.out.size))
      replace TA := hide (TA.out.below hb)
      replace BA := hide (BA.out.below hb BA.out.lt)
      replace TB := hide (TB.out.below hb)
      replace BB := hide (BB.out.below hb BB.out.lt)
      replace TP := hide (TP.out.below hb)
      replace BP := hide (BP.out.below hb BP.out.lt)
      replace TT := hide (TT.out.below hb)
      replace BT := hide (BT.out.below hb BT.out.lt)
      replace TX := hide (TX.out.below hb)
      replace BX := hide (BX.out.below hb BX.out.lt)
      replace TY := hide (TY.out.below hb)
      replace BY := hide (BY.out.below hb BY.out.lt)
      replace RZ := hide (RZ.out.below hb RZ.out.lt)
      clear hb
      have TZ := hide htz
      have ZZ := hide htzz
      have UZ := hide htzu
      have DZ := hide htzd
      have CZ := hide htzc
      clear htz htzz htzu htzd htzc
      clear RZ
      have ⟨hi, hd⟩ := Mix.two 6 (by decide) IX.out IY.out ZZ.out UZ.out DZ.out
      have IZ := hide hi
      have EZ := hide hd
      clear hi hd
      obtain ⟨d18, hd18⟩ : ∃ W, W = d17.alloc (.cells #[.slice tz.P tz.zs.length tz.cap, .bool tz.u, .slice tz.D tz.ds.length tz.dcap] 26) := ⟨_, rfl⟩
      have hbA : Below d17.heap.size d17 d18 := by rw [hd18]; exact (Below.refl _ _).alloc (Nat.le_refl _) _
      have BZ : Hid (Has d18 d17.heap.size 26 [.slice tz.P tz.zs.length tz.cap, .bool tz.u, .slice tz.D tz.ds.length tz.dcap]) := hide (by rw [hd18]; exact Has.new _ _ _)
      replace HB := hide (HB.out.trans (hbA.mono HB.out.size))
      replace TA := hide (TA.out.below hbA)
      replace BA := hide (BA.out.below hbA BA.out.lt)
      replace TB := hide (TB.out.below hbA)
      replace BB := hide (BB.out.below hbA BB.out.lt)
      replace TP := hide (TP.out.below hbA)
      replace BP := hide (BP.out.below hbA BP.out.lt)
      replace TT := hide (TT.out.below hbA)
      replace BT := hide (BT.out.below hbA BT.out.lt)
      replace TX := hide (TX.out.below hbA)
      replace BX := hide (BX.out.below hbA BX.out.lt)
      replace TY := hide (TY.out.below hbA)
      replace BY := hide (BY.out.below hbA BY.out.lt)
      replace TZ := hide (TZ.out.below hbA)
      have Hd18 := hide hd18
      clear hd18 hbA
      obtain ⟨d19, hd19⟩ : ∃ W, W = d18.alloc (.cells #[.slice tz.P tz.zs.length tz.cap, .bool tz.u, .slice tz.D tz.ds.length tz.dcap] 26) := ⟨_, rfl⟩
      have hbA : Below d18.heap.size d18 d19 := by rw [hd19]; exact (Below.refl _ _).alloc (Nat.le_refl _) _
      have RS : Hid (Has d19 (d17.heap.size + 1) 26 [.slice tz.P tz.zs.length tz.cap, .bool tz.u, .slice tz.D tz.ds.length tz.dcap]) := hide (by rw [hd19]; exact box_at _ _ _ _ (by rw [Hd18.out]; simp))
      replace HB := hide (HB.out.trans (hbA.mono HB.out.size))
      replace TA := hide (TA.out.below hbA)
      replace BA := hide (BA.out.below hbA BA.out.lt)
      replace TB := hide (TB.out.below hbA)
      replace BB := hide (BB.out.below hbA BB.out.lt)
      replace TP := hide (TP.out.below hbA)
      replace BP := hide (BP.out.below hbA BP.out.lt)
      replace TT := hide (TT.out.below hbA)
      replace BT := hide (BT.out.below hbA BT.out.lt)
      replace TX := hide (TX.out.below hbA)
      replace BX := hide (BX.out.below hbA BX.out.lt)
      replace TY := hide (TY.out.below hbA)
      replace BY := hide (BY.out.below hbA BY.out.lt)
      replace TZ := hide (TZ.out.below hbA)
      replace BZ := hide (BZ.out.below hbA BZ.out.lt)
      have Hd19 := hide hd19
      clear hd19 hbA
      go_wp2_with fail
      rw [← Hd18.out]
      rw [← Hd19.out]
      clear Hd18 Hd19
      refine (opapply_sum (IZ.out.fault (by decide) (by decide) N1.out.2.1 N1.out.2.2) (by rw [IZ.out.zs]; exact Nat.succ_pos _) CZ.out _ 1 ah am ar ak _ RS.out.row TZ.out (HE.out _ HB.out) (HK.out _ HB.out)).mono ?_
      rintro e d20 ⟨⟨ts, rfl, hts, htsz, htsu, htsd, htsc⟩, hb⟩
      replace HB := hide (HB.out.trans (hb.mono HB.out.size))
      replace TA := hide (TA.out.below hb)
      replace BA := hide (BA.out.below hb BA.out.lt)
      replace TB := hide (TB.out.below hb)
      replace BB := hide (BB.out.below hb BB.out.lt)
      replace TP := hide (TP.out.below hb)
      replace BP := hide (BP.out.below hb BP.out.lt)
      replace TT := hide (TT.out.below hb)
      replace BT := hide (BT.out.below hb BT.out.lt)
      replace TX := hide (TX.out.below hb)
      replace BX := hide (BX.out.below hb BX.out.lt)
      replace TY := hide (TY.out.below hb)
      replace BY := hide (BY.out.below hb BY.out.lt)
      replace TZ := hide (TZ.out.below hb)
      replace BZ := hide (BZ.out.below hb BZ.out.lt)
      replace RS := hide (RS.out.below hb RS.out.lt)
      clear hb
      have TS := hide hts
      have ZS := hide htsz
      have US := hide htsu
      have DS := hide htsd
      have CS := hide htsc
      clear hts htsz htsu htsd htsc
      clear RS
      have ES := hide (Mix.sum IZ.out DS.out)
      have x0 : (d20.alloc (.cells #[.slice ts.P ts.zs.length ts.cap, .bool ts.u, .slice ts.D ts.ds.length ts.dcap] 26)).cell? ⟨w1.heap.size + 1, 0, none⟩ = some (.slice a.P a.zs.length a.cap) := (BA.out.alloc _).cell 0
      have x1 : (d20.alloc (.cells #[.slice ts.P ts.zs.length ts.cap, .bool ts.u, .slice ts.D ts.ds.length ts.dcap] 26)).cell? ⟨w1.heap.size + 1, 1, none⟩ = some (.bool a.u) := (BA.out.alloc _).cell 1
      have x2 : (d20.alloc (.cells #[.slice ts.P ts.zs.length ts.cap, .bool ts.u, .slice ts.D ts.ds.length ts.dcap] 26)).cell? ⟨w1.heap.size + 1, 2, none⟩ = some (.slice a.D a.ds.length a.dcap) := (BA.out.alloc _).cell 2
      have x3 : (d20.alloc (.cells #[.slice ts.P ts.zs.length ts.cap, .bool ts.u, .slice ts.D ts.ds.length ts.dcap] 26)).cell? ⟨d6.heap.size, 0, none⟩ = some (.slice tt.P tt.zs.length tt.cap) := (BT.out.alloc _).cell 0
      have x4 : (d20.alloc (.cells #[.slice ts.P ts.zs.length ts.cap, .bool ts.u, .slice ts.D ts.ds.length ts.dcap] 26)).cell? ⟨d6.heap.size, 1, none⟩ = some (.bool tt.u) := (BT.out.alloc _).cell 1
      have x5 : (d20.alloc (.cells #[.slice ts.P ts.zs.length ts.cap, .bool ts.u, .slice ts.D ts.ds.length ts.dcap] 26)).cell? ⟨d6.heap.size, 2, none⟩ = some (.slice tt.D tt.ds.length tt.dcap) := (BT.out.alloc _).cell 2
      obtain ⟨d21, hd21⟩ : ∃ W, W = d20.alloc (.cells #[.slice ts.P ts.zs.length ts.cap, .bool ts.u, .slice ts.D ts.ds.length ts.dcap] 26) := ⟨_, rfl⟩
      have hbA : Below d20.heap.size d20 d21 := by rw [hd21]; exact (Below.refl _ _).alloc (Nat.le_refl _) _
      have BS : Hid (Has d21 d20.heap.size 26 [.slice ts.P ts.zs.length ts.cap, .bool ts.u, .slice ts.D ts.ds.length ts.dcap]) := hide (by rw [hd21]; exact Has.new _ _ _)
      replace HB := hide (HB.out.trans (hbA.mono HB.out.size))
      replace TA := hide (TA.out.below hbA)
      replace BA := hide (BA.out.below hbA BA.out.lt)
      replace TB := hide (TB.out.below hbA)
      replace BB := hide (BB.out.below hbA BB.out.lt)
      replace TP := hide (TP.out.below hbA)
      replace BP := hide (BP.out.below hbA BP.out.lt)
      replace TT := hide (TT.out.below hbA)
      replace BT := hide (BT.out.below hbA BT.out.lt)
      replace TX := hide (TX.out.below hbA)
      replace BX := hide (BX.out.below hbA BX.out.lt)
      replace TY := hide (TY.out.below hbA)
      replace BY := hide (BY.out.below hbA BY.out.lt)
      replace TZ := hide (TZ.out.below hbA)
      replace BZ := hide (BZ.out.below hbA BZ.out.lt)
      replace TS := hide (TS.out.below hbA)
      have Hd21 := hide hd21
      clear hd21 hbA
      obtain ⟨d22, hd22⟩ : ∃ W, W = d21.alloc (.cells #[.slice a.P a.zs.length a.cap, .bool a.u, .slice a.D a.ds.length a.dcap, .slice tt.P tt.zs.length tt.cap, .bool tt.u, .slice tt.D tt.ds.length tt.dcap] 26) := ⟨_, rfl⟩
      have hbA : Below d21.heap.size d21 d22 := by rw [hd22]; exact (Below.refl _ _).alloc (Nat.le_refl _) _
      have RM : Hid (Has d22 (d20.heap.size + 1) 26 [.slice a.P a.zs.length a.cap, .bool a.u, .slice a.D a.ds.length a.dcap, .slice tt.P tt.zs.length tt.cap, .bool tt.u, .slice tt.D tt.ds.length tt.dcap]) := hide (by rw [hd22]; exact box_at _ _ _ _ (by rw [Hd21.out]; simp))
      replace HB := hide (HB.out.trans (hbA.mono HB.out.size))
      replace TA := hide (TA.out.below hbA)
      replace BA := hide (BA.out.below hbA BA.out.lt)
      replace TB := hide (TB.out.below hbA)
      replace BB := hide (BB.out.below hbA BB.out.lt)
      replace TP := hide (TP.out.below hbA)
      replace BP := hide (BP.out.below hbA BP.out.lt)
      replace TT := hide (TT.out.below hbA)
      replace BT := hide (BT.out.below hbA BT.out.lt)
      replace TX := hide (TX.out.below hbA)
      replace BX := hide (BX.out.below hbA BX.out.lt)
      replace TY := hide (TY.out.below hbA)
      replace BY := hide (BY.out.below hbA BY.out.lt)
      replace TZ := hide (TZ.out.below hbA)
      replace BZ := hide (BZ.out.below hbA BZ.out.lt)
      replace TS := hide (TS.out.below hbA)
      replace BS := hide (BS.out.below hbA BS.out.lt)
      have Hd22 := hide hd22
      clear hd22 hbA
      go_wp2_with fail
      rw [← Hd21.out]
      rw [← Hd22.out]
      clear Hd21 Hd22
      clear x0 x1 x2 x3 x4 x5
      refine (opapply_two 7 (by decide) (Mix.pair N1.out.2.1 N1.out.2.2 IA.out IT.out) _ 2 ah am ar ak _ RM.out.row TA.out TT.out (HE.out _ HB.out) (HK.out _ HB.out)).mono ?_
      rintro e d23 ⟨⟨tm, rfl, htm, htmz, htmu, htmd, htmc⟩, hb⟩
      replace HB := hide (HB.out.trans (hb.mono HB.out.size))
      replace TA := hide (TA.out.below hb)
      replace BA := hide (BA.out.below hb BA.out.lt)
      replace TB := hide (TB.out.below hb)
      replace BB := hide (BB.out.below hb BB.out.lt)
      replace TP := hide (TP.out.below hb)
      replace BP := hide (BP.out.below hb BP.out.lt)
      replace TT := hide (TT.out.below hb)
      replace BT := hide (BT.out.below hb BT.out.lt)
      replace TX := hide (TX.out.below hb)
      replace BX := hide (BX.out.below hb BX.out.lt)
      replace TY := hide (TY.out.below hb)
      replace BY := hide (BY.out.below hb BY.out.lt)
      replace TZ := hide (TZ.out.below hb)
      replace BZ := hide (BZ.out.below hb BZ.out.lt)
      replace TS := hide (TS.out.below hb)
      replace BS := hide (BS.out.below hb BS.out.lt)
      replace RM := hide (RM.out.below hb RM.out.lt)
      clear hb
      have TM := hide htm
      have ZM := hide htmz
      have UM := hide htmu
      have DM := hide htmd
      have CM := hide htmc
      clear htm htmz htmu htmd htmc
      clear RM
      have ⟨hi, hd⟩ := Mix.two 7 (by decide) IA.out IT.out ZM.out UM.out DM.out
      have IM := hide hi
      have EM := hide hd
      clear hi hd
      have x0 : (d23.alloc (.cells #[.slice tm.P tm.zs.length tm.cap, .bool tm.u, .slice tm.D tm.ds.length tm.dcap] 26)).cell? ⟨d10.heap.size, 0, none⟩ = some (.slice tx.P tx.zs.length tx.cap) := (BX.out.alloc _).cell 0
      have x1 : (d23.alloc (.cells #[.slice tm.P tm.zs.length tm.cap, .bool tm.u, .slice tm.D tm.ds.length tm.dcap] 26)).cell? ⟨d10.heap.size, 1, none⟩ = some (.bool tx.u) := (BX.out.alloc _).cell 1
      have x2 : (d23.alloc (.cells #[.slice tm.P tm.zs.length tm.cap, .bool tm.u, .slice tm.D tm.ds.length tm.dcap] 26)).cell? ⟨d10.heap.size, 2, none⟩ = some (.slice tx.D tx.ds.length tx.dcap) := (BX.out.alloc _).cell 2
      have x3 : (d23.alloc (.cells #[.slice tm.P tm.zs.length tm.cap, .bool tm.u, .slice tm.D tm.ds.length tm.dcap] 26)).cell? ⟨d14.heap.size, 0, none⟩ = some (.slice ty.P ty.zs.length ty.cap) := (BY.out.alloc _).cell 0
      have x4 : (d23.alloc (.cells #[.slice tm.P tm.zs.length tm.cap, .bool tm.u, .slice tm.D tm.ds.length tm.dcap] 26)).cell? ⟨d14.heap.size, 1, none⟩ = some (.bool ty.u) := (BY.out.alloc _).cell 1
      have x5 : (d23.alloc (.cells #[.slice tm.P tm.zs.length tm.cap, .bool tm.u, .slice tm.D tm.ds.length tm.dcap] 26)).cell? ⟨d14.heap.size, 2, none⟩ = some (.slice ty.D ty.ds.length ty.dcap) := (BY.out.alloc _).cell 2
      obtain ⟨d24, hd24⟩ : ∃ W, W = d23.alloc (.cells #[.slice tm.P tm.zs.length tm.cap, .bool tm.u, .slice tm.D tm.ds.length tm.dcap] 26) := ⟨_, rfl⟩
      have hbA : Below d23.heap.size d23 d24 := by rw [hd24]; exact (Below.refl _ _).alloc (Nat.le_refl _) _
      have BM : Hid (Has d24 d23.heap.size 26 [.slice tm.P tm.zs.length tm.cap, .bool tm.u, .slice tm.D tm.ds.length tm.dcap]) := hide (by rw [hd24]; exact Has.new _ _ _)
      replace HB := hide (HB.out.trans (hbA.mono HB.out.size))
      replace TA := hide (TA.out.below hbA)
      replace BA := hide (BA.out.below hbA BA.out.lt)
      replace TB := hide (TB.out.below hbA)
      replace BB := hide (BB.out.below hbA BB.out.lt)
      replace TP := hide (TP.out.below hbA)
      replace BP := hide (BP.out.below hbA BP.out.lt)
      replace TT := hide (TT.out.below hbA)
      replace BT := hide (BT.out.below hbA BT.out.lt)
      replace TX := hide (TX.out.below hbA)
      replace BX := hide (BX.out.below hbA BX.out.lt)
      replace TY := hide (TY.out.below hbA)
      replace BY := hide (BY.out.below hbA BY.out.lt)
      replace TZ := hide (TZ.out.below hbA)
      replace BZ := hide (BZ.out.below hbA BZ.out.lt)
      replace TS := hide (TS.out.below hbA)
      replace BS := hide (BS.out.below hbA BS.out.lt)
      replace TM := hide (TM.out.below hbA)
      have Hd24 := hide hd24
      clear hd24 hbA
      obtain ⟨d25, hd25⟩ : ∃ W, W = d24.alloc (.cells #[.slice tx.P tx.zs.length tx.cap, .bool tx.u, .slice tx.D tx.ds.length tx.dcap, .slice ty.P ty.zs.length ty.cap, .bool ty.u, .slice ty.D ty.ds.length ty.dcap] 26) := ⟨_, rfl⟩
      have hbA : Below d24.heap.size d24 d25 := by rw [hd25]; exact (Below.refl _ _).alloc (Nat.le_refl _) _
      have RD : Hid (Has d25 (d23.heap.size + 1) 26 [.slice tx.P tx.zs.length tx.cap, .bool tx.u, .slice tx.D tx.ds.length tx.dcap, .slice ty.P ty.zs.length ty.cap, .bool ty.u, .slice ty.D ty.ds.length ty.dcap]) := hide (by rw [hd25]; exact box_at _ _ _ _ (by rw [Hd24.out]; simp))
      replace HB := hide (HB.out.trans (hbA.mono HB.out.size))
      replace TA := hide (TA.out.below hbA)
      replace BA := hide (BA.out.below hbA BA.out.lt)
      replace TB := hide (TB.out.below hbA)
      replace BB := hide (BB.out.below hbA BB.out.lt)
      replace TP := hide (TP.out.below hbA)
      replace BP := hide (BP.out.below hbA BP.out.lt)
      replace TT := hide (TT.out.below hbA)
      replace BT := hide (BT.out.below hbA BT.out.lt)
      replace TX := hide (TX.out.below hbA)
      replace BX := hide (BX.out.below hbA BX.out.lt)
      replace TY := hide (TY.out.below hbA)
      replace BY := hide (BY.out.below hbA BY.out.lt)
      replace TZ := hide (TZ.out.below hbA)
      replace BZ := hide (BZ.out.below hbA BZ.out.lt)
      replace TS := hide (TS.out.below hbA)
      replace BS := hide (BS.out.below hbA BS.out.lt)
      replace TM := hide (TM.out.below hbA)
      replace BM := hide (BM.out.below hbA BM.out.lt)
      have Hd25 := hide hd25
      clear hd25 hbA
      go_wp2_with fail
      rw [← Hd24.out]
      rw [← Hd25.out]
      clear Hd24 Hd25
      clear x0 x1 x2 x3 x4 x5
      refine (opapply_two 5 (by decide) (Mix.pair N1.out.2.1 N1.out.2.2 IX.out IY.out) _ 2 ah am ar ak _ RD.out.row TX.out TY.out (HE.out _ HB.out) (HK.out _ HB.out)).mono ?_
      rintro e d26 ⟨⟨td, rfl, htd, htdz, htdu, htdd, htdc⟩, hb⟩
      replace HB := hide (HB.out.trans (hb.mono HB.out.size))
      replace TA := hide (TA.out.below hb)
      replace BA := hide (BA.out.below hb BA.out.lt)
      replace TB := hide (TB.out.below hb)
      replace BB := hide (BB.out.below hb BB.out.lt)
      replace TP := hide (TP.out.below hb)
      replace BP := hide (BP.out.below hb BP.out.lt)
      replace TT := hide (TT.out.below hb)
      replace BT := hide (BT.out.below hb BT.out.lt)
      replace TX := hide (TX.out.below hb)
      replace BX := hide (BX.out.below hb BX.out.lt)
      replace TY := hide (TY.out.below hb)
      replace BY := hide (BY.out.below hb BY.out.lt)
      replace TZ := hide (TZ.out.below hb)
      replace BZ := hide (BZ.out.below hb BZ.out.lt)
      replace TS := hide (TS.out.below hb)
      replace BS := hide (BS.out.below hb BS.out.lt)
      replace TM := hide (TM.out.below hb)
      replace BM := hide (BM.out.below hb BM.out.lt)
      replace RD := hide (RD.out.below hb RD.out.lt)
      clear hb
      have TD := hide htd
      have ZD := hide htdz
      have UD := hide htdu
      have DD := hide htdd
      have CD := hide htdc
      clear htd htdz htdu htdd htdc
      clear RD
      have ⟨hi, hd⟩ := Mix.two 5 (by decide) IX.out IY.out ZD.out UD.out DD.out
      have ID := hide hi
      have ED := hide hd
      clear hi hd
      obtain ⟨d27, hd27⟩ : ∃ W, W = d26.alloc (.cells #[.slice td.P td.zs.length td.cap, .bool td.u, .slice td.D td.ds.length td.dcap] 26) := ⟨_, rfl⟩
      have hbA : Below d26.heap.size d26 d27 := by rw [hd27]; exact (Below.refl _ _).alloc (Nat.le_refl _) _
      have BD : Hid (Has d27 d26.heap.size 26 [.slice td.P td.zs.length td.cap, .bool td.u, .slice td.D td.ds.length td.dcap]) := hide (by rw [hd27]; exact Has.new _ _ _)
      replace HB := hide (HB.out.trans (hbA.mono HB.out.size))
      replace TA := hide (TA.out.below hbA)
      replace BA := hide (BA.out.below hbA BA.out.lt)
      replace TB := hide (TB.out.below hbA)
      replace BB := hide (BB.out.below hbA BB.out.lt)
      replace TP := hide (TP.out.below hbA)
      replace BP := hide (BP.out.below hbA BP.out.lt)
      replace TT := hide (TT.out.below hbA)
      replace BT := hide (BT.out.below hbA BT.out.lt)
      replace TX := hide (TX.out.below hbA)
      replace BX := hide (BX.out.below hbA BX.out.lt)
      replace TY := hide (TY.out.below hbA)
      replace BY := hide (BY.out.below hbA BY.out.lt)
      replace TZ := hide (TZ.out.below hbA)
      replace BZ := hide (BZ.out.below hbA BZ.out.lt)
      replace TS := hide (TS.out.below hbA)
      replace BS := hide (BS.out.below hbA BS.out.lt)
      replace TM := hide (TM.out.below hbA)
      replace BM := hide (BM.out.below hbA BM.out.lt)
      replace TD := hide (TD.out.below hbA)
      have Hd27 := hide hd27
      clear hd27 hbA
      obtain ⟨d28, hd28⟩ : ∃ W, W = d27.alloc (.cells #[.slice td.P td.zs.length td.cap, .bool td.u, .slice td.D td.ds.length td.dcap] 26) := ⟨_, rfl⟩
      have hbA : Below d27.heap.size d27 d28 := by rw [hd28]; exact (Below.refl _ _).alloc (Nat.le_refl _) _
      have RR : Hid (Has d28 (d26.heap.size + 1) 26 [.slice td.P td.zs.length td.cap, .bool td.u, .slice td.D td.ds.length td.dcap]) := hide (by rw [hd28]; exact box_at _ _ _ _ (by rw [Hd27.out]; simp))
      replace HB := hide (HB.out.trans (hbA.mono HB.out.size))
      replace TA := hide (TA.out.below hbA)
      replace BA := hide (BA.out.below hbA BA.out.lt)
      replace TB := hide (TB.out.below hbA)
      replace BB := hide (BB.out.below hbA BB.out.lt)
      replace TP := hide (TP.out.below hbA)
      replace BP := hide (BP.out.below hbA BP.out.lt)
      replace TT := hide (TT.out.below hbA)
      replace BT := hide (BT.out.below hbA BT.out.lt)
      replace TX := hide (TX.out.below hbA)
      replace BX := hide (BX.out.below hbA BX.out.lt)
      replace TY := hide (TY.out.below hbA)
      replace BY := hide (BY.out.below hbA BY.out.lt)
      replace TZ := hide (TZ.out.below hbA)
      replace BZ := hide (BZ.out.below hbA BZ.out.lt)
      replace TS := hide (TS.out.below hbA)
      replace BS := hide (BS.out.below hbA BS.out.lt)
      replace TM := hide (TM.out.below hbA)
      replace BM := hide (BM.out.below hbA BM.out.lt)
      replace TD := hide (TD.out.below hbA)
      replace BD := hide (BD.out.below hbA BD.out.lt)
      have Hd28 := hide hd28
      clear hd28 hbA
      go_wp2_with fail
      rw [← Hd27.out]
      rw [← Hd28.out]
      clear Hd27 Hd28
      refine (opapply_one 8 (by decide) [] (ID.out.fault (by decide) (by decide) N1.out.2.1 N1.out.2.2) 0 rfl rfl rfl (fun h => by cases h) (fun h => by cases h) none _ 0 1 ah am ar ak _ (Ri.nil _ _) RR.out.row TD.out (HE.out _ HB.out) (HK.out _ HB.out)).mono ?_
      rintro e d29 ⟨⟨tr, rfl, htr, htrz, htru, htrd, htrc⟩, hb⟩
      replace HB := hide (HB.out.trans (hb.mono HB.out.size))
      replace TA := hide (TA.out.below hb)
      replace BA := hide (BA.out.below hb BA.out.lt)
      replace TB := hide (TB.out.below hb)
      replace BB := hide (BB.out.below hb BB.out.lt)
      replace TP := hide (TP.out.below hb)
      replace BP := hide (BP.out.below hb BP.out.lt)
      replace TT := hide (TT.out.below hb)
      replace BT := hide (BT.out.below hb BT.out.lt)
      replace TX := hide (TX.out.below hb)
      replace BX := hide (BX.out.below hb BX.out.lt)
      replace TY := hide (TY.out.below hb)
      replace BY := hide (BY.out.below hb BY.out.lt)
      replace TZ := hide (TZ.out.below hb)
      replace BZ := hide (BZ.out.below hb BZ.out.lt)
      replace TS := hide (TS.out.below hb)
      replace BS := hide (BS.out.below hb BS.out.lt)
      replace TM := hide (TM.out.below hb)
      replace BM := hide (BM.out.below hb BM.out.lt)
      replace TD := hide (TD.out.below hb)
      replace BD := hide (BD.out.below hb BD.out.lt)
      replace RR := hide (RR.out.below hb RR.out.lt)
      clear hb
      have TR := hide htr
      have ZR := hide htrz
      have UR := hide htru
      have DR := hide htrd
      have CR := hide htrc
      clear htr htrz htru htrd htrc
      clear RR
      have ⟨hi, hd⟩ := Mix.relu ID.out ZR.out UR.out DR.out
      have IR := hide hi
      have ER := hide hd
      clear hi hd
      have x0 : (d29.alloc (.cells #[.slice tr.P tr.zs.length tr.cap, .bool tr.u, .slice tr.D tr.ds.length tr.dcap] 26)).cell? ⟨d14.heap.size, 0, none⟩ = some (.slice ty.P ty.zs.length ty.cap) := (BY.out.alloc _).cell 0
      have x1 : (d29.alloc (.cells #[.slice tr.P tr.zs.length tr.cap, .bool tr.u, .slice tr.D tr.ds.length tr.dcap] 26)).cell? ⟨d14.heap.size, 1, none⟩ = some (.bool ty.u) := (BY.out.alloc _).cell 1
      have x2 : (d29.alloc (.cells #[.slice tr.P tr.zs.length tr.cap, .bool tr.u, .slice tr.D tr.ds.length tr.dcap] 26)).cell? ⟨d14.heap.size, 2, none⟩ = some (.slice ty.D ty.ds.length ty.dcap) := (BY.out.alloc _).cell 2
      obtain ⟨d30, hd30⟩ : ∃ W, W = d29.alloc (.cells #[.slice tr.P tr.zs.length tr.cap, .bool tr.u, .slice tr.D tr.ds.length tr.dcap] 26) := ⟨_, rfl⟩
      have hbA : Below d29.heap.size d29 d30 := by rw [hd30]; exact (Below.refl _ _).alloc (Nat.le_refl _) _
      have BR : Hid (Has d30 d29.heap.size 26 [.slice tr.P tr.zs.length tr.cap, .bool tr.u, .slice tr.D tr.ds.length tr.dcap]) := hide (by rw [hd30]; exact Has.new _ _ _)
      replace HB := hide (HB.out.trans (hbA.mono HB.out.size))
      replace TA := hide (TA.out.below hbA)
      replace BA := hide (BA.out.below hbA BA.out.lt)
      replace TB := hide (TB.out.below hbA)
      replace BB := hide (BB.out.below hbA BB.out.lt)
      replace TP := hide (TP.out.below hbA)
      replace BP := hide (BP.out.below hbA BP.out.lt)
      replace TT := hide (TT.out.below hbA)
      replace BT := hide (BT.out.below hbA BT.out.lt)
      replace TX := hide (TX.out.below hbA)
      replace BX := hide (BX.out.below hbA BX.out.lt)
      replace TY := hide (TY.out.below hbA)
      replace BY := hide (BY.out.below hbA BY.out.lt)
      replace TZ := hide (TZ.out.below hbA)
      replace BZ := hide (BZ.out.below hbA BZ.out.lt)
      replace TS := hide (TS.out.below hbA)
      replace BS := hide (BS.out.below hbA BS.out.lt)
      replace TM := hide (TM.out.below hbA)
      replace BM := hide (BM.out.below hbA BM.out.lt)
      replace TD := hide (TD.out.below hbA)
      replace BD := hide (BD.out.below hbA BD.out.lt)
      replace TR := hide (TR.out.below hbA)
      have Hd30 := hide hd30
      clear hd30 hbA
      obtain ⟨d31, hd31⟩ : ∃ W, W = d30.alloc (.cells #[.slice tr.P tr.zs.length tr.cap, .bool tr.u, .slice tr.D tr.ds.length tr.dcap, .slice ty.P ty.zs.length ty.cap, .bool ty.u, .slice ty.D ty.ds.length ty.dcap] 26) := ⟨_, rfl⟩
      have hbA : Below d30.heap.size d30 d31 := by rw [hd31]; exact (Below.refl _ _).alloc (Nat.le_refl _) _
      have RV : Hid (Has d31 (d29.heap.size + 1) 26 [.slice tr.P tr.zs.length tr.cap, .bool tr.u, .slice tr.D tr.ds.length tr.dcap, .slice ty.P ty.zs.length ty.cap, .bool ty.u, .slice ty.D ty.ds.length ty.dcap]) := hide (by rw [hd31]; exact box_at _ _ _ _ (by rw [Hd30.out]; simp))
      replace HB := hide (HB.out.trans (hbA.mono HB.out.size))
      replace TA := hide (TA.out.below hbA)
      replace BA := hide (BA.out.below hbA BA.out.lt)
      replace TB := hide (TB.out.below hbA)
      replace BB := hide (BB.out.below hbA BB.out.lt)
      replace TP := hide (TP.out.below hbA)
      replace BP := hide (BP.out.below hbA BP.out.lt)
      replace TT := hide (TT.out.below hbA)
      replace BT := hide (BT.out.below hbA BT.out.lt)
      replace TX := hide (TX.out.below hbA)
      replace BX := hide (BX.out.below hbA BX.out.lt)
      replace TY := hide (TY.out.below hbA)
      replace BY := hide (BY.out.below hbA BY.out.lt)
      replace TZ := hide (TZ.out.below hbA)
      replace BZ := hide (BZ.out.below hbA BZ.out.lt)
      replace TS := hide (TS.out.below hbA)
      replace BS := hide (BS.out.below hbA BS.out.lt)
      replace TM := hide (TM.out.below hbA)
      replace BM := hide (BM.out.below hbA BM.out.lt)
      replace TD := hide (TD.out.below hbA)
      replace BD := hide (BD.out.below hbA BD.out.lt)
      replace TR := hide (TR.out.below hbA)
      replace BR := hide (BR.out.below hbA BR.out.lt)
      have Hd31 := hide hd31
      clear hd31 hbA
      go_wp2_with fail
      rw [← Hd30.out]
      rw [← Hd31.out]
      clear Hd30 Hd31
      clear x0 x1 x2
      refine (opapply_two 4 (by decide) (Mix.pair N1.out.2.1 N1.out.2.2 IR.out IY.out) _ 2 ah am ar ak _ RV.out.row TR.out TY.out (HE.out _ HB.out) (HK.out _ HB.out)).mono ?_
      rintro e d32 ⟨⟨tv, rfl, htv, htvz, htvu, htvd, htvc⟩, hb⟩
      replace HB := hide (HB.out.trans (hb.mono HB.out.size))
      replace TA := hide (TA.out.below hb)
      replace BA := hide (BA.out.below hb BA.out.lt)
      replace TB := hide (TB.out.below hb)
      replace BB := hide (BB.out.below hb BB.out.lt)
      replace TP := hide (TP.out.below hb)
      replace BP := hide (BP.out.below hb BP.out.lt)
      replace TT := hide (TT.out.below hb)
      replace BT := hide (BT.out.below hb BT.out.lt)
      replace TX := hide (TX.out.below hb)
      replace BX := hide (BX.out.below hb BX.out.lt)
      replace TY := hide (TY.out.below hb)
      replace BY := hide (BY.out.below hb BY.out.lt)
      replace TZ := hide (TZ.out.below hb)
      replace BZ := hide (BZ.out.below hb BZ.out.lt)
      replace TS := hide (TS.out.below hb)
      replace BS := hide (BS.out.below hb BS.out.lt)
      replace TM := hide (TM.out.below hb)
      replace BM := hide (BM.out.below hb BM.out.lt)
      replace TD := hide (TD.out.below hb)
      replace BD := hide (BD.out.below hb BD.out.lt)
      replace TR := hide (TR.out.below hb)
      replace BR := hide (BR.out.below hb BR.out.lt)
      replace RV := hide (RV.out.below hb RV.out.lt)
      clear hb
      have TV := hide htv
      have ZV := hide htvz
      have UV := hide htvu
      have DV := hide htvd
      have CV := hide htvc
      clear htv htvz htvu htvd htvc
      clear RV
      have ⟨hi, hd⟩ := Mix.two 4 (by decide) IR.out IY.out ZV.out UV.out DV.out
      have IV := hide hi
      have EV := hide hd
      clear hi hd
      have x0 : ((d32.alloc (.cells #[.slice tv.P tv.zs.length tv.cap, .bool tv.u, .slice tv.D tv.ds.length tv.dcap] 26)).alloc (.cells #[.int .i64 0] 3)).cell? ⟨d23.heap.size, 0, none⟩ = some (.slice tm.P tm.zs.length tm.cap) := ((BM.out.alloc _).alloc _).cell 0
      have x1 : ((d32.alloc (.cells #[.slice tv.P tv.zs.length tv.cap, .bool tv.u, .slice tv.D tv.ds.length tv.dcap] 26)).alloc (.cells #[.int .i64 0] 3)).cell? ⟨d23.heap.size, 1, none⟩ = some (.bool tm.u) := ((BM.out.alloc _).alloc _).cell 1
      have x2 : ((d32.alloc (.cells #[.slice tv.P tv.zs.length tv.cap, .bool tv.u, .slice tv.D tv.ds.length tv.dcap] 26)).alloc (.cells #[.int .i64 0] 3)).cell? ⟨d23.heap.size, 2, none⟩ = some (.slice tm.D tm.ds.length tm.dcap) := ((BM.out.alloc _).alloc _).cell 2
      obtain ⟨d33, hd33⟩ : ∃ W, W = d32.alloc (.cells #[.slice tv.P tv.zs.length tv.cap, .bool tv.u, .slice tv.D tv.ds.length tv.dcap] 26) := ⟨_, rfl⟩
      have hbA : Below d32.heap.size d32 d33 := by rw [hd33]; exact (Below.refl _ _).alloc (Nat.le_refl _) _
      have BV : Hid (Has d33 d32.heap.size 26 [.slice tv.P tv.zs.length tv.cap, .bool tv.u, .slice tv.D tv.ds.length tv.dcap]) := hide (by rw [hd33]; exact Has.new _ _ _)
      replace HB := hide (HB.out.trans (hbA.mono HB.out.size))
      replace TA := hide (TA.out.below hbA)
      replace BA := hide (BA.out.below hbA BA.out.lt)
      replace TB := hide (TB.out.below hbA)
      replace BB := hide (BB.out.below hbA BB.out.lt)
      replace TP := hide (TP.out.below hbA)
      replace BP := hide (BP.out.below hbA BP.out.lt)
      replace TT := hide (TT.out.below hbA)
      replace BT := hide (BT.out.below hbA BT.out.lt)
      replace TX := hide (TX.out.below hbA)
      replace BX := hide (BX.out.below hbA BX.out.lt)
      replace TY := hide (TY.out.below hbA)
      replace BY := hide (BY.out.below hbA BY.out.lt)
      replace TZ := hide (TZ.out.below hbA)
      replace BZ := hide (BZ.out.below hbA BZ.out.lt)
      replace TS := hide (TS.out.below hbA)
      replace BS := hide (BS.out.below hbA BS.out.lt)
      replace TM := hide (TM.out.below hbA)
      replace BM := hide (BM.out.below hbA BM.out.lt)
      replace TD := hide (TD.out.below hbA)
      replace BD := hide (BD.out.below hbA BD.out.lt)
      replace TR := hide (TR.out.below hbA)
      replace BR := hide (BR.out.below hbA BR.out.lt)
      replace TV := hide (TV.out.below hbA)
      have Hd33 := hide hd33
      clear hd33 hbA
      obtain ⟨d34, hd34⟩ : ∃ W, W = d33.alloc (.cells #[.int .i64 0] 3) := ⟨_, rfl⟩
      have hbA : Below d33.heap.size d33 d34 := by rw [hd34]; exact (Below.refl _ _).alloc (Nat.le_refl _) _
      have QO : Hid (Has d34 (d32.heap.size + 1) 3 [.int .i64 0]) := hide (by rw [hd34]; exact box_at _ _ _ _ (by rw [Hd33.out]; simp))
      replace HB := hide (HB.out.trans (hbA.mono HB.out.size))
      replace TA := hide (TA.out.below hbA)
      replace BA := hide (BA.out.below hbA BA.out.lt)
      replace TB := hide (TB.out.below hbA)
      replace BB := hide (BB.out.below hbA BB.out.lt)
      replace TP := hide (TP.out.below hbA)
      replace BP := hide (BP.out.below hbA BP.out.lt)
      replace TT := hide (TT.out.below hbA)
      replace BT := hide (BT.out.below hbA BT.out.lt)
      replace TX := hide (TX.out.below hbA)
      replace BX := hide (BX.out.below hbA BX.out.lt)
      replace TY := hide (TY.out.below hbA)
      replace BY := hide (BY.out.below hbA BY.out.lt)
      replace TZ := hide (TZ.out.below hbA)
      replace BZ := hide (BZ.out.below hbA BZ.out.lt)
      replace TS := hide (TS.out.below hbA)
      replace BS := hide (BS.out.below hbA BS.out.lt)
      replace TM := hide (TM.out.below hbA)
      replace BM := hide (BM.out.below hbA BM.out.lt)
      replace TD := hide (TD.out.below hbA)
      replace BD := hide (BD.out.below hbA BD.out.lt)
      replace TR := hide (TR.out.below hbA)
      replace BR := hide (BR.out.below hbA BR.out.lt)
      replace TV := hide (TV.out.below hbA)
      replace BV := hide (BV.out.below hbA BV.out.lt)
      have Hd34 := hide hd34
      clear hd34 hbA
      obtain ⟨d35, hd35⟩ : ∃ W, W = d34.alloc (.cells #[.slice tm.P tm.zs.length tm.cap, .bool tm.u, .slice tm.D tm.ds.length tm.dcap] 26) := ⟨_, rfl⟩
      have hbA : Below d34.heap.size d34 d35 := by rw [hd35]; exact (Below.refl _ _).alloc (Nat.le_refl _) _
      have RO : Hid (Has d35 (d32.heap.size + 2) 26 [.slice tm.P tm.zs.length tm.cap, .bool tm.u, .slice tm.D tm.ds.length tm.dcap]) := hide (by rw [hd35]; exact box_at _ _ _ _ (by rw [Hd34.out, Hd33.out]; simp))
      replace HB := hide (HB.out.trans (hbA.mono HB.out.size))
      replace TA := hide (TA.out.below hbA)
      replace BA := hide (BA.out.below hbA BA.out.lt)
      replace TB := hide (TB.out.below hbA)
      replace BB := hide (BB.out.below hbA BB.out.lt)
      replace TP := hide (TP.out.below hbA)
      replace BP := hide (BP.out.below hbA BP.out.lt)
      replace TT := hide (TT.out.below hbA)
      replace BT := hide (BT.out.below hbA BT.out.lt)
      replace TX := hide (TX.out.below hbA)
      replace BX := hide (BX.out.below hbA BX.out.lt)
      replace TY := hide (TY.out.below hbA)
      replace BY := hide (BY.out.below hbA BY.out.lt)
      replace TZ := hide (TZ.out.below hbA)
      replace BZ := hide (BZ.out.below hbA BZ.out.lt)
      replace TS := hide (TS.out.below hbA)
      replace BS := hide (BS.out.below hbA BS.out.lt)
      replace TM := hide (TM.out.below hbA)
      replace BM := hide (BM.out.below hbA BM.out.lt)
      replace TD := hide (TD.out.below hbA)
      replace BD := hide (BD.out.below hbA BD.out.lt)
      replace TR := hide (TR.out.below hbA)
      replace BR := hide (BR.out.below hbA BR.out.lt)
      replace TV := hide (TV.out.below hbA)
      replace BV := hide (BV.out.below hbA BV.out.lt)
      replace QO := hide (QO.out.below hbA QO.out.lt)
      have Hd35 := hide hd35
      clear hd35 hbA
      go_wp2_with fail
      rw [← Hd33.out]
      rw [← Hd34.out]
      rw [← Hd35.out]
      clear Hd33 Hd34 Hd35
      clear x0 x1 x2
      refine (opapply_one 11 (by decide) [0] (IM.out.fault (by decide) (by decide) N1.out.2.1 N1.out.2.2) 1 rfl rfl (by rw [IM.out.hu]; decide) (fun h => by cases h) (fun _ => IM.out.hu) _ _ 1 1 ah am ar ak _ (QO.out.ri (zs := [0]) (by intro q hq; rw [List.mem_singleton.1 hq]; exact wf_i64 _ (by decide))) RO.out.row TM.out (HE.out _ HB.out) (HK.out _ HB.out)).mono ?_
      rintro e d36 ⟨⟨to, rfl, hto, htoz, htou, htod, htoc⟩, hb⟩
      replace HB := hide (HB.out.trans (hb.mono HB.out.size))
      replace TA := hide (TA.out.below hb)
      replace BA := hide (BA.out.below hb BA.out.lt)
      replace TB := hide (TB.out.below hb)
      replace BB := hide (BB.out.below hb BB.out.lt)
      replace TP := hide (TP.out.below hb)
      replace BP := hide (BP.out.below hb BP.out.lt)
      replace TT := hide (TT.out.below hb)
      replace BT := hide (BT.out.below hb BT.out.lt)
      replace TX := hide (TX.out.below hb)
      replace BX := hide (BX.out.below hb BX.out.lt)
      replace TY := hide (TY.out.below hb)
      replace BY := hide (BY.out.below hb BY.out.lt)
      replace TZ := hide (TZ.out.below hb)
      replace BZ := hide (BZ.out.below hb BZ.out.lt)
      replace TS := hide (TS.out.below hb)
      replace BS := hide (BS.out.below hb BS.out.lt)
      replace TM := hide (TM.out.below hb)
      replace BM := hide (BM.out.below hb BM.out.lt)
      replace TD := hide (TD.out.below hb)
      replace BD := hide (BD.out.below hb BD.out.lt)
      replace TR := hide (TR.out.below hb)
      replace BR := hide (BR.out.below hb BR.out.lt)
      replace TV := hide (TV.out.below hb)
      replace BV := hide (BV.out.below hb BV.out.lt)
      replace QO := hide (QO.out.below hb QO.out.lt)
      replace RO := hide (RO.out.below hb RO.out.lt)
      clear hb
      have TO := hide hto
      have ZO := hide htoz
      have UO := hide htou
      have DO := hide htod
      have CO := hide htoc
      clear hto htoz htou htod htoc
      clear QO RO
      have ⟨hi, hd⟩ := Mix.widen IM.out ZO.out UO.out DO.out
      have IO := hide hi
      have EO := hide hd
      clear hi hd
      have E1 : Hid (tp.ds = ts.ds) := hide (by rw [DP.out, ES.out, EZ.out, EX.out, EY.out, ET.out]; exact Mix.sums a.ds b.ds n IA.out.small IB.out.small)
      have E2 : Hid (tv.ds = to.ds) := hide (by rw [EV.out, ER.out, ED.out, EO.out, EM.out, EX.out, EY.out, ET.out]; exact Mix.great a.ds b.ds n IA.out.small IB.out.small)
      have c_BP2 := BP.out.cell 2
      have l_BP := BP.out.lt
      have c_BS2 := BS.out.cell 2
      have l_BS := BS.out.lt
      obtain ⟨d37, hd37⟩ : ∃ W, W = d36.alloc (.cells #[.slice to.P to.zs.length to.cap, .bool to.u, .slice to.D to.ds.length to.dcap] 26) := ⟨_, rfl⟩
      have hbA : Below d36.heap.size d36 d37 := by rw [hd37]; exact (Below.refl _ _).alloc (Nat.le_refl _) _
      have BO : Hid (Has d37 d36.heap.size 26 [.slice to.P to.zs.length to.cap, .bool to.u, .slice to.D to.ds.length to.dcap]) := hide (by rw [hd37]; exact Has.new _ _ _)
      replace HB := hide (HB.out.trans (hbA.mono HB.out.size))
      replace TA := hide (TA.out.below hbA)
      replace BA := hide (BA.out.below hbA BA.out.lt)
      replace TB := hide (TB.out.below hbA)
      replace BB := hide (BB.out.below hbA BB.out.lt)
      replace TP := hide (TP.out.below hbA)
      replace BP := hide (BP.out.below hbA BP.out.lt)
      replace TT := hide (TT.out.below hbA)
      replace BT := hide (BT.out.below hbA BT.out.lt)
      replace TX := hide (TX.out.below hbA)
      replace BX := hide (BX.out.below hbA BX.out.lt)
      replace TY := hide (TY.out.below hbA)
      replace BY := hide (BY.out.below hbA BY.out.lt)
      replace TZ := hide (TZ.out.below hbA)
      replace BZ := hide (BZ.out.below hbA BZ.out.lt)
      replace TS := hide (TS.out.below hbA)
      replace BS := hide (BS.out.below hbA BS.out.lt)
      replace TM := hide (TM.out.below hbA)
      replace BM := hide (BM.out.below hbA BM.out.lt)
      replace TD := hide (TD.out.below hbA)
      replace BD := hide (BD.out.below hbA BD.out.lt)
      replace TR := hide (TR.out.below hbA)
      replace BR := hide (BR.out.below hbA BR.out.lt)
      replace TV := hide (TV.out.below hbA)
      replace BV := hide (BV.out.below hbA BV.out.lt)
      replace TO := hide (TO.out.below hbA)
      have Hd37 := hide hd37
      clear hd37 hbA
      go_wp2_with fail
      rw [← Hd37.out]
      clear Hd37 c_BP2 l_BP c_BS2 l_BS
      refine (rints_good tp.ds ts.ds _ _ _ _ _ _ _ TP.out.dat TS.out.dat TP.out.ld E1.out rfl rfl).mono ?_
      rintro e d38 ⟨rfl, hb⟩
      replace HB := hide (HB.out.trans (hb.mono HB.out.size))
      replace TA := hide (TA.out.below hb)
      replace BA := hide (BA.out.below hb BA.out.lt)
      replace TB := hide (TB.out.below hb)
      replace BB := hide (BB.out.below hb BB.out.lt)
      replace TP := hide (TP.out.below hb)
      replace BP := hide (BP.out.below hb BP.out.lt)
      replace TT := hide (TT.out.below hb)
      replace BT := hide (BT.out.below hb BT.out.lt)
      replace TX := hide (TX.out.below hb)
      replace BX := hide (BX.out.below hb BX.out.lt)
      replace TY := hide (TY.out.below hb)
      replace BY := hide (BY.out.below hb BY.out.lt)
      replace TZ := hide (TZ.out.below hb)
      replace BZ := hide (BZ.out.below hb BZ.out.lt)
      replace TS := hide (TS.out.below hb)
      replace BS := hide (BS.out.below hb BS.out.lt)
      replace TM := hide (TM.out.below hb)
      replace BM := hide (BM.out.below hb BM.out.lt)
      replace TD := hide (TD.out.below hb)
      replace BD := hide (BD.out.below hb BD.out.lt)
      replace TR := hide (TR.out.below hb)
      replace BR := hide (BR.out.below hb BR.out.lt)
      replace TV := hide (TV.out.below hb)
      replace BV := hide (BV.out.below hb BV.out.lt)
      replace TO := hide (TO.out.below hb)
      replace BO := hide (BO.out.below hb BO.out.lt)
      clear hb
      have c_BV2 := BV.out.cell 2
      have c_BO2 := BO.out.cell 2
      go_wp2_with fail
      clear c_BV2 c_BO2
      refine (rints_good tv.ds to.ds _ _ _ _ _ _ _ TV.out.dat TO.out.dat TV.out.ld E2.out rfl rfl).mono ?_
      rintro e d39 ⟨rfl, hb⟩
      replace HB := hide (HB.out.trans (hb.mono HB.out.size))
      replace TA := hide (TA.out.below hb)
      replace BA := hide (BA.out.below hb BA.out.lt)
      replace TB := hide (TB.out.below hb)
      replace BB := hide (BB.out.below hb BB.out.lt)
      replace TP := hide (TP.out.below hb)
      replace BP := hide (BP.out.below hb BP.out.lt)
      replace TT := hide (TT.out.below hb)
      replace BT := hide (BT.out.below hb BT.out.lt)
      replace TX := hide (TX.out.below hb)
      replace BX := hide (BX.out.below hb BX.out.lt)
      replace TY := hide (TY.out.below hb)
      replace BY := hide (BY.out.below hb BY.out.lt)
      replace TZ := hide (TZ.out.below hb)
      replace BZ := hide (BZ.out.below hb BZ.out.lt)
      replace TS := hide (TS.out.below hb)
      replace BS := hide (BS.out.below hb BS.out.lt)
      replace TM := hide (TM.out.below hb)
      replace BM := hide (BM.out.below hb BM.out.lt)
      replace TD := hide (TD.out.below hb)
      replace BD := hide (BD.out.below hb BD.out.lt)
      replace TR := hide (TR.out.below hb)
      replace BR := hide (BR.out.below hb BR.out.lt)
      replace TV := hide (TV.out.below hb)
      replace BV := hide (BV.out.below hb BV.out.lt)
      replace TO := hide (TO.out.below hb)
      replace BO := hide (BO.out.below hb BO.out.lt)
      clear hb
      go_wp2_with fail
      go_ret
      exact ⟨rfl, HB.out⟩
end Go.Proofs.YtgdcfjmpjhlndaaDoor
