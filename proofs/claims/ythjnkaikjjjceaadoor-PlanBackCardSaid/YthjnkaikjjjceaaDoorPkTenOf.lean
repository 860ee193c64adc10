/-
  Package tens's Of, walked. By an AI agent. No person has read it.
-/
import Derived.Test.YthjnkaikjjjceaaDoorPkTenW
import Derived.Test.YthjnkaikjjjceaaDoorPkErrD
import Derived.Test.YthjnkaikjjjceaaDoorPkElmV
import Derived.Test.YthjnkaikjjjceaaDoorPkTenF
import Derived.Test.YthjnkaikjjjceaaDoorPkBasA
import Derived.Test.YthjnkaikjjjceaaDoorPkShpC
import Derived.Test.YthjnkaikjjjceaaDoorPkTenA
import Derived.Test.YthjnkaikjjjceaaDoorPkTenRd
import Derived.Deep.RegionHeld3
import Derived.Laws.BitsAllLaws
namespace Go.Proofs.YthjnkaikjjjceaaDoor
open Go.RowKit
/-- The numbers of bytes. -/
def Tens.nums (u : Bool) (bs : List Nat) : List Int := if u = true then Tens.nums4 bs else Tens.nums1 bs
theorem numbers_c (bs : List Nat) (A : Option Addr) (cap : Nat) (u : Bool) (w : World) (hr : Rb w A bs) (hl : bs.length ≤ 1000000) (hc : bs.length ≤ cap) :
    Calls Tryd.prog 101 #[.slice A bs.length cap, .bool u] w fun e w' => (∃ g, e = .returned (.slice (some ⟨g, 0, none⟩) (Tens.nums u bs).length (Tens.nums u bs).length) ∧ w.heap.size ≤ g ∧ Has w' g 3 (i64s (Tens.nums u bs))) ∧ Below w.heap.size w w' := by
  unfold Tens.nums
  cases u
  · rw [if_neg (by decide), show (Tens.nums1 bs).length = bs.length by simp [Tens.nums1]]
    exact numbers_n bs A cap w hr hl
  · rw [if_pos rfl, show (Tens.nums4 bs).length = bs.length / 4 by simp [Tens.nums4]]
    exact numbers_w bs A cap w hr hl hc
set_option maxRecDepth 100000 in
set_option maxHeartbeats 4000000 in
theorem tof_c (zs : List Int) (bs : List Nat) (P A : Option Addr) (cap bcap : Nat) (u : Bool) (am ar ae : Addr) (w : World) (hr : Ri w P zs) (hb : Rb w A bs) (hl : zs.length ≤ 1000000) (hbl : bs.length ≤ 1000000) (hbc : bs.length ≤ bcap) (hE : E2 w am ar) (hEe : ErrIs w 3 ae) :
    Calls Tryd.prog 79 #[.agg (dcells P zs.length cap u), .slice A bs.length bcap] w fun e w' =>
      (Shp.code zs = 0 → (bs.length : Int) = Shp.size zs u → ∃ g c rest gd, e = .returned (.tuple #[.agg (tcells (some ⟨g, 0, none⟩) zs.length c u (some ⟨gd, 0, none⟩) (Tens.nums u bs).length (Tens.nums u bs).length), .nilIface]) ∧ Has w' g 3 (i64s zs ++ rest) ∧ Has w' gd 3 (i64s (Tens.nums u bs))) ∧
      (Shp.code zs = 0 → (bs.length : Int) < Shp.size zs u → e = .returned (.tuple #[.agg (tcells none 0 0 false none 0 0), errv ae])) ∧
      (Shp.code zs = 0 → Shp.size zs u < (bs.length : Int) → e = .returned (.tuple #[.agg (tcells none 0 0 false none 0 0), errv am])) ∧
      (Shp.code zs ≠ 0 → e = .returned (.tuple #[.agg (tcells none 0 0 false none 0 0), Shp.err am ar (Shp.code zs)])) ∧ Below w.heap.size w w' := by
  obtain ⟨hb1, hT, hZ⟩ : Below w.heap.size w ((w.alloc (Obj.cells (dcells P zs.length cap u) 59)).alloc (Obj.cells #[.slice none 0 0, .bool false, .slice none 0 0] 70)) ∧ Has ((w.alloc (Obj.cells (dcells P zs.length cap u) 59)).alloc (Obj.cells #[.slice none 0 0, .bool false, .slice none 0 0] 70)) w.heap.size 59 [.slice P zs.length cap, .bool u] ∧
      Has ((w.alloc (Obj.cells (dcells P zs.length cap u) 59)).alloc (Obj.cells #[.slice none 0 0, .bool false, .slice none 0 0] 70)) (w.heap.size + 1) 70 [.slice none 0 0, .bool false, .slice none 0 0] := by
    refine ⟨((Below.refl _ w).alloc (Nat.le_refl _) _).alloc (by simp) _, (desc_row w P zs.length cap u).alloc _, ?_⟩
    have h := Has.new (w.alloc (Obj.cells (dcells P zs.length cap u) 59)) 70 [.slice none 0 0, .bool false, .slice none 0 0]
    simpa using h
  have HV := hide (valid_c zs P cap u am ar _ (hr.below hb1) (by omega) (hE.below hb1))
  have HI := hide (fun W (hb : Below w.heap.size w W) => clone_own zs P cap u W (hr.below hb) hl)
  have HJ := hide (fun W (h : Below w.heap.size w W) => numbers_c bs A bcap u W (hb.below h) hbl hbc)
  have HBy := hide (fun W (hb : Below w.heap.size w W) => bytes_c zs P cap u am ar W (hr.below hb) (by omega) (hE.below hb))
  have HEe := hide hEe
  have HEm := hide hE.1
  obtain ⟨n, hn⟩ : ∃ n, Hid (zs.length = n) := ⟨_, hide rfl⟩
  obtain ⟨m, hm⟩ : ∃ m, Hid (bs.length = m) := ⟨_, hide rfl⟩
  obtain ⟨M, hM⟩ : ∃ M, Hid ((Tens.nums u bs).length = M) := ⟨_, hide rfl⟩
  have hk := Shp.code_is zs
  obtain ⟨k, hkk⟩ : ∃ k, Hid (Shp.code zs = k) := ⟨_, hide rfl⟩
  obtain ⟨S, hS⟩ : ∃ S, Hid (Shp.size zs u = S) := ⟨_, hide rfl⟩
  rw [hkk.out] at HV hk ⊢
  rw [hS.out] at HBy ⊢
  rw [hM.out] at HJ ⊢
  rw [hm.out] at HJ ⊢
  rw [hn.out] at HV HI HBy hb1 hT hZ ⊢
  clear hr hb hl hbl hbc hn hm hkk hE hEe hS hM
  have HB1 := hide hb1
  have HT1 := hide hT
  have HZ1 := hide hZ
  clear hb1 hT hZ
  go_enter Tryd.func79, Tryd.ntmps79
  go_wp2_with fail
  refine HV.out.mono ?_
  rintro e w1 ⟨rfl, hb⟩
  have hB1 := HB1.out.trans (hb.mono HB1.out.size)
  have hz := HZ1.out.below hb HZ1.out.lt
  have hT := HT1.out.below hb HT1.out.lt
  clear hb HB1 HZ1 HT1 HV
  by_cases hk0 : k = 0
  · subst hk0
    rw [show Shp.err am ar 0 = .nilIface from rfl]
    have c0 : w1.cell? ⟨w.heap.size, 0, none⟩ = some (.slice P n cap) := by rw [hT.cell]; rfl
    have c1 : w1.cell? ⟨w.heap.size, 1, none⟩ = some (.bool u) := by rw [hT.cell]; rfl
    have HBy1 := hide (HBy.out w1 hB1)
    have HB2 := hide hB1
    have HT2 := hide hT
    have HZ2 := hide hz
    clear hB1 hz hT hk
    go_wp2_with fail
    refine HBy1.out.mono ?_
    rintro e w2 ⟨rfl, hb⟩
    have hB2 := HB2.out.trans (hb.mono HB2.out.size)
    have hz := HZ2.out.below hb HZ2.out.lt
    have hT := HT2.out.below hb HT2.out.lt
    clear hb HB2 HZ2 HT2 HBy1 c0 c1
    by_cases hlt : (m : Int) < S
    · have hee := HEe.out.below hB2
      have hs5 : w2.drew.cell? ⟨3, 0, none⟩ = some (errv ae) := hee.1
      have hglt : 3 < w.heap.size := HEe.out.2.1
      have hzd : Has w2.drew (w.heap.size + 1) 70 [.slice none 0 0, .bool false, .slice none 0 0] := hz.drewN 1
      have d0 : w2.cell? ⟨w.heap.size + 1, 0, none⟩ = some (.slice none 0 0) := by rw [hz.cell]; rfl
      have d1 : w2.cell? ⟨w.heap.size + 1, 1, none⟩ = some (.bool false) := by rw [hz.cell]; rfl
      have d2 : w2.cell? ⟨w.heap.size + 1, 2, none⟩ = some (.slice none 0 0) := by rw [hz.cell]; rfl
      have f0 := hz.frozen 0
      have f1 := hz.frozen 1
      have f2 := hz.frozen 2
      have hz' := hide (((hzd.set_ 0 (.slice none 0 0)).set_ 1 (.bool false)).set_ 2 (.slice none 0 0))
      have hfin' := hide (((hB2.drew.setCell (p := ⟨w.heap.size + 1, 0, none⟩) (Nat.le_succ _) (.slice none 0 0)).setCell (p := ⟨w.heap.size + 1, 1, none⟩) (Nat.le_succ _) (.bool false)).setCell (p := ⟨w.heap.size + 1, 2, none⟩) (Nat.le_succ _) (.slice none 0 0))
      have hS9 := hide (HEe.out.below hfin'.out).1
      clear hee hzd hz hT hB2 HBy HI HJ HEe HEm
      go_wp2_with fail
      go_region_held3 (fun W => W.cell? ⟨3, 0, none⟩ = some (errv ae))
        (first | exact hs5 | assumption | exact hS9.out)
        (first | fail)
      go_wp2_with fail
      refine bodyPost_ret (results_tens rfl _ _ (w.heap.size + 1) _ _ _ rfl hz'.out) rfl ?_
      first | exact ⟨fun _ h => absurd h (by omega), fun _ _ => rfl, fun _ h => absurd h (by omega), fun h => absurd rfl h, hfin'.out⟩ | exact ⟨fun h => absurd h (by omega), rfl, fun h => absurd h (by omega), hfin'.out⟩
    · have c0 : w2.cell? ⟨w.heap.size, 0, none⟩ = some (.slice P n cap) := by rw [hT.cell]; rfl
      have c1 : w2.cell? ⟨w.heap.size, 1, none⟩ = some (.bool u) := by rw [hT.cell]; rfl
      have HBy1 := hide (HBy.out w2 hB2)
      have HB2 := hide hB2
      have HT2 := hide hT
      have HZ2 := hide hz
      clear hB2 hz hT HBy
      go_wp2_with fail
      refine HBy1.out.mono ?_
      rintro e w3 ⟨rfl, hb⟩
      have hB2 := HB2.out.trans (hb.mono HB2.out.size)
      have hz := HZ2.out.below hb HZ2.out.lt
      have hT := HT2.out.below hb HT2.out.lt
      clear hb HB2 HZ2 HT2 HBy1 c0 c1
      by_cases hgt : S < (m : Int)
      · have hee := HEm.out.below hB2
        have hs5 : w3.drew.cell? ⟨1, 0, none⟩ = some (errv am) := hee.1
        have hglt : 1 < w.heap.size := HEm.out.2.1
        have hzd : Has w3.drew (w.heap.size + 1) 70 [.slice none 0 0, .bool false, .slice none 0 0] := hz.drewN 1
        have d0 : w3.cell? ⟨w.heap.size + 1, 0, none⟩ = some (.slice none 0 0) := by rw [hz.cell]; rfl
        have d1 : w3.cell? ⟨w.heap.size + 1, 1, none⟩ = some (.bool false) := by rw [hz.cell]; rfl
        have d2 : w3.cell? ⟨w.heap.size + 1, 2, none⟩ = some (.slice none 0 0) := by rw [hz.cell]; rfl
        have f0 := hz.frozen 0
        have f1 := hz.frozen 1
        have f2 := hz.frozen 2
        have hz' := hide (((hzd.set_ 0 (.slice none 0 0)).set_ 1 (.bool false)).set_ 2 (.slice none 0 0))
        have hfin' := hide (((hB2.drew.setCell (p := ⟨w.heap.size + 1, 0, none⟩) (Nat.le_succ _) (.slice none 0 0)).setCell (p := ⟨w.heap.size + 1, 1, none⟩) (Nat.le_succ _) (.bool false)).setCell (p := ⟨w.heap.size + 1, 2, none⟩) (Nat.le_succ _) (.slice none 0 0))
        have hS9 := hide (HEm.out.below hfin'.out).1
        clear hee hzd hz hT hB2 HI HJ HEe HEm
        go_wp2_with fail
        go_region_held3 (fun W => W.cell? ⟨1, 0, none⟩ = some (errv am))
          (first | exact hs5 | assumption | exact hS9.out)
          (first | fail)
        go_wp2_with fail
        refine bodyPost_ret (results_tens rfl _ _ (w.heap.size + 1) _ _ _ rfl hz'.out) rfl ?_
        first | exact ⟨fun _ h => absurd h (by omega), fun _ h => absurd h (by omega), fun _ _ => rfl, fun h => absurd rfl h, hfin'.out⟩ | exact ⟨fun h => absurd h (by omega), fun h => absurd h (by omega), rfl, hfin'.out⟩
      · have hS0 := DesS.of (hT.drewN 1) hB2.drew
        have HB2 : Hid (Below w.heap.size w w3.drew) := hide hB2.drew
        have HT2 : Hid (Has w3.drew w.heap.size 59 [.slice P n cap, .bool u]) := hide (hT.drewN 1)
        have HZ2 : Hid (Has w3.drew (w.heap.size + 1) 70 [.slice none 0 0, .bool false, .slice none 0 0]) := hide (hz.drewN 1)
        clear hB2 hz hT
        go_wp2_with fail
        go_region_held3 (fun W => W.cell? ⟨w.heap.size, 0, none⟩ = some (.slice P n cap) ∧ W.cell? ⟨w.heap.size, 1, none⟩ = some (.bool u) ∧ Hid (Below w.heap.size w W))
          (first | exact hS0 | assumption | exact hS9.out | exact DesS.keep (by assumption) hb)
          (first
            | (go_at_call 63; refine (HI.out _ HB2.out).mono ?_; rintro e W2 ⟨⟨g, c, rest, rfl, hg, hc1, hc2, hC, hcl⟩, hb⟩; have hz2 := HZ2.out.below hb HZ2.out.lt; have ht2 := HT2.out.below hb HT2.out.lt; have hB2 := HB2.out.trans (hb.mono HB2.out.size); have hlt2 := HZ2.out.lt; have hgn : g ≠ w.heap.size + 1 := (by omega); have hsz := hb.size)
            | (go_at_call 101; refine (HJ.out _ hB2).mono ?_; rintro e W3 ⟨⟨gd, rfl, hgd, hD⟩, hb⟩; have hz := hz2.below hb hz2.lt; have ht := ht2.below hb ht2.lt; have hC3 := hC.below hb hC.lt; have hB := hB2.trans (hb.mono hB2.size); have d0 : W3.cell? ⟨w.heap.size + 1, 0, none⟩ = some (.slice none 0 0) := (by rw [hz.cell]; rfl); have d1 : W3.cell? ⟨w.heap.size + 1, 1, none⟩ = some (.bool false) := (by rw [hz.cell]; rfl); have d2 : W3.cell? ⟨w.heap.size + 1, 2, none⟩ = some (.slice none 0 0) := (by rw [hz.cell]; rfl); have f0 := hz.frozen 0; have f1 := hz.frozen 1; have f2 := hz.frozen 2; have HO := hide (tstore (.slice (some ⟨g, 0, none⟩) n c) (.bool u) (.slice (some ⟨gd, 0, none⟩) M M) hz ht hC3 hD hB hgn (by omega)); have hS9 := hide (DesS.of HO.out.2.1 HO.out.2.2.2.2)))
        go_wp2_with fail
        refine bodyPost_ret (results_tens rfl _ _ (w.heap.size + 1) _ _ _ rfl HO.out.1) rfl ?_
        first | exact ⟨fun _ _ => ⟨g, c, rest, gd, rfl, HO.out.2.2.1, HO.out.2.2.2.1⟩, fun _ h => absurd h (by omega), fun _ h => absurd h (by omega), fun h => absurd rfl h, HO.out.2.2.2.2⟩ | exact ⟨fun _ => ⟨g, c, rest, gd, rfl, HO.out.2.2.1, HO.out.2.2.2.1⟩, fun h => absurd h (by omega), fun h => absurd h (by omega), HO.out.2.2.2.2⟩
  · have d0 : w1.cell? ⟨w.heap.size + 1, 0, none⟩ = some (.slice none 0 0) := by rw [hz.cell]; rfl
    have d1 : w1.cell? ⟨w.heap.size + 1, 1, none⟩ = some (.bool false) := by rw [hz.cell]; rfl
    have d2 : w1.cell? ⟨w.heap.size + 1, 2, none⟩ = some (.slice none 0 0) := by rw [hz.cell]; rfl
    have f0 := hz.frozen 0
    have f1 := hz.frozen 1
    have f2 := hz.frozen 2
    have hz' := ((hz.set_ 0 (.slice none 0 0)).set_ 1 (.bool false)).set_ 2 (.slice none 0 0)
    have hfin' := ((hB1.setCell (p := ⟨w.heap.size + 1, 0, none⟩) (Nat.le_succ _) (.slice none 0 0)).setCell (p := ⟨w.heap.size + 1, 1, none⟩) (Nat.le_succ _) (.bool false)).setCell (p := ⟨w.heap.size + 1, 2, none⟩) (Nat.le_succ _) (.slice none 0 0)
    have HZ' := hide hz'
    have HF' := hide hfin'
    clear hz hT hB1 hz' hfin' HI HJ
    rcases hk with rfl | rfl | rfl
    · rw [show Shp.err am ar 104 = errv am from rfl]
      go_wp2_with fail
      refine bodyPost_ret (results_tens rfl _ _ (w.heap.size + 1) _ _ _ rfl HZ'.out) rfl ?_
      exact ⟨fun h => absurd h hk0, fun h => absurd h hk0, fun h => absurd h hk0, fun _ => rfl, HF'.out⟩
    · rw [show Shp.err am ar 102 = errv ar from rfl]
      go_wp2_with fail
      refine bodyPost_ret (results_tens rfl _ _ (w.heap.size + 1) _ _ _ rfl HZ'.out) rfl ?_
      exact ⟨fun h => absurd h hk0, fun h => absurd h hk0, fun h => absurd h hk0, fun _ => rfl, HF'.out⟩
    · exact absurd rfl hk0
end Go.Proofs.YthjnkaikjjjceaaDoor
namespace Go.Proofs.YthjnkaikjjjceaaDoor
open Go.RowKit
theorem results_tens3 {fn : Func} {p u x : Tmp} (h : fn.results = #[.cell p 70, .tmp u, .tmp x]) (tmps : Array Value) (w : World) (g : Nat) (a b c : Value)
    (hp : tmps.getD p undef = .pointer (some ⟨g, 0, none⟩)) (hg : Has w g 70 [a, b, c]) : (results fn tmps).run Tryd.prog w = .ok (.tuple #[.agg #[a, b, c], tmps.getD u undef, tmps.getD x undef]) w := by
  simp only [results, h]
  have h1 := run_loadVar_row (P := Tryd.prog) w g 70 70 #[a, b, c] (0, 0) _ hg Tryd.underlying70 rfl (by kernel_rfl)
  rw [Array.getD_eq_getD_getElem?] at hp
  simp [Result.andThen, hp, asAddr, h1]
/-- The call's own tensor, a Reader. -/
theorem tread_two (w : World) (r : Value) : Below w.heap.size w ((w.alloc (Obj.cells #[.slice none 0 0, .bool false, .slice none 0 0] 70)).alloc (Obj.cells #[r, .int .i64 0, .nilIface] 118)) ∧
    Has ((w.alloc (Obj.cells #[.slice none 0 0, .bool false, .slice none 0 0] 70)).alloc (Obj.cells #[r, .int .i64 0, .nilIface] 118)) w.heap.size 70 [.slice none 0 0, .bool false, .slice none 0 0] ∧
    Has ((w.alloc (Obj.cells #[.slice none 0 0, .bool false, .slice none 0 0] 70)).alloc (Obj.cells #[r, .int .i64 0, .nilIface] 118)) (w.heap.size + 1) 118 [r, .int .i64 0, .nilIface] := by
  refine ⟨((Below.refl _ w).alloc (Nat.le_refl _) _).alloc (by simp) _, (Has.new w _ [.slice none 0 0, .bool false, .slice none 0 0]).alloc _, ?_⟩
  have h := Has.new (w.alloc (Obj.cells #[.slice none 0 0, .bool false, .slice none 0 0] 70)) 118 [r, .int .i64 0, .nilIface]
  simpa using h
set_option maxRecDepth 100000 in
set_option maxHeartbeats 4000000 in
theorem tread_bad (A : Option Addr) (len cap : Nat) (a : Addr) (w : World)
    (HD : Hid (Calls Tryd.prog 37 #[.pointer (some ⟨w.heap.size + 1, 0, none⟩)] ((w.alloc (Obj.cells #[.slice none 0 0, .bool false, .slice none 0 0] 70)).alloc (Obj.cells #[.slice A len cap, .int .i64 0, .nilIface] 118)) fun e w' => (∃ B n c u, e = .returned (.agg (dcells B n c u))) ∧ (∃ x y v, Has w' (w.heap.size + 1) 118 [x, y, v] ∧ AloneV w' a v) ∧ ((w.alloc (Obj.cells #[.slice none 0 0, .bool false, .slice none 0 0] 70)).alloc (Obj.cells #[.slice A len cap, .int .i64 0, .nilIface] 118)).grownBy w' (some (w.heap.size + 1)))) :
    Calls Tryd.prog 38 #[.slice A len cap] w fun e w' => e = .returned (.tuple #[.agg (tcells none 0 0 false none 0 0), .int .i64 0, errv a]) ∧ Below w.heap.size w w' := by
  obtain ⟨hb1, hT, -⟩ := tread_two w (.slice A len cap)
  have HB := hide hb1
  have HT := hide hT
  clear hb1 hT
  go_enter Tryd.func38, Tryd.ntmps38
  go_wp2_with fail
  refine (read_c A len cap _).mono ?_
  rintro e w1 ⟨rfl, hw1⟩
  rw [← hw1] at HD HB HT
  have hs0 : (w.alloc (Obj.cells #[.slice none 0 0, .bool false, .slice none 0 0] 70)).heap.size = w.heap.size + 1 := by simp
  have hs1 : w1.heap.size = w.heap.size + 2 := by rw [hw1]; simp
  rw [hs0]
  clear hw1 hs0
  go_wp2_with fail
  refine HD.out.mono ?_
  rintro e w2 ⟨⟨B, n, c, u, rfl⟩, ⟨x, y, v, hR, hv⟩, hg⟩
  have hB2 := HB.out.grown hg (by omega) (fun k e => by cases e; omega)
  have hT2 := HT.out.grown hg (by intro h; injection h; omega)
  have hR3 := hR.alloc (Obj.cells #[.slice B n c, .bool u] 59)
  have hT3 := hT2.alloc (Obj.cells #[.slice B n c, .bool u] 59)
  have hB3 := hB2.alloc hB2.size (Obj.cells #[.slice B n c, .bool u] 59)
  have hv3 : AloneV (w2.alloc (Obj.cells #[.slice B n c, .bool u] 59)) a v := hv.imp id (fun ⟨g2, i, h1, h2⟩ => ⟨g2, i, h1, h2.alloc _⟩)
  have HR := hide hR3
  have HT3 := hide hT3
  have HB3 := hide hB3
  have HV := hide hv3
  clear HD HB HT hR hv hg hB2 hT2 hR3 hT3 hB3 hv3 hs1
  go_wp2_with fail
  generalize w2.alloc (Obj.cells #[.slice B n c, .bool u] 59) = W at *
  refine (rerr_c _ _ _ _ _ HR.out).mono ?_
  rintro e w3 ⟨rfl, rfl⟩
  go_wp2_with fail
  refine (alone_v HV.out).mono ?_
  rintro e w4 ⟨rfl, rfl⟩
  have hT := HT3.out
  have d0 : w4.cell? ⟨w.heap.size, 0, none⟩ = some (.slice none 0 0) := by rw [hT.cell]; rfl
  have d1 : w4.cell? ⟨w.heap.size, 1, none⟩ = some (.bool false) := by rw [hT.cell]; rfl
  have d2 : w4.cell? ⟨w.heap.size, 2, none⟩ = some (.slice none 0 0) := by rw [hT.cell]; rfl
  have f0 := hT.frozen 0
  have f1 := hT.frozen 1
  have f2 := hT.frozen 2
  have HZ' := hide (((hT.set_ 0 (.slice none 0 0)).set_ 1 (.bool false)).set_ 2 (.slice none 0 0))
  have HF' := hide (((HB3.out.setCell (p := ⟨w.heap.size, 0, none⟩) (Nat.le_refl _) (.slice none 0 0)).setCell (p := ⟨w.heap.size, 1, none⟩) (Nat.le_refl _) (.bool false)).setCell (p := ⟨w.heap.size, 2, none⟩) (Nat.le_refl _) (.slice none 0 0))
  clear hT HR HT3 HB3 HV
  go_wp2_with fail
  refine bodyPost_ret (results_tens3 rfl _ _ w.heap.size _ _ _ rfl HZ'.out) rfl ?_
  exact ⟨rfl, HF'.out⟩
end Go.Proofs.YthjnkaikjjjceaaDoor
