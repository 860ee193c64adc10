/-
  lodgeworld.Number by its value; lodgelaw8.matrix. By an AI agent. No person has read it.
-/
import Derived.Test.YtkehdgjdieemkaaDoorMatF
namespace Go.Proofs.YtkehdgjdieemkaaDoor
open Go.RowKit

theorem tmod_emod (n : Int) (m : Nat) : n.tmod (m : Int) % (m : Int) = n % (m : Int) := by
  have h := Int.mul_tdiv_add_tmod n (m : Int)
  have h2 : ((m : Int) * n.tdiv m + n.tmod m) % (m : Int) = n.tmod m % (m : Int) := by rw [Int.add_comm, Int.add_mul_emod_self_left]
  rw [h] at h2
  exact h2.symm
set_option maxRecDepth 100000 in
theorem number_e (n : Int) (m : Nat) (h0 : 0 < m) (hm : m ≤ 4611686018427387904) (M : Int) (hM : M = (m : Int)) (w : World) :
    Calls Tryd.prog 27 #[.int .i64 n, .int .i64 M] w fun e w' => e = .returned (.int .i64 (n % M)) ∧ w' = w := by
  subst hM
  have e1 : n.tmod (m : Int) < m := Int.tmod_lt_of_pos n (by omega)
  have e2 : -(m : Int) < n.tmod (m : Int) := by
    have := Int.tmod_lt_of_pos (-n) (b := (m : Int)) (by omega)
    rw [Int.neg_tmod] at this
    omega
  have e9 : n % (m : Int) = (n.tmod (m : Int) + m) % (m : Int) := by rw [Int.add_emod_right, tmod_emod]
  obtain ⟨a, ha⟩ : ∃ a, Hid (n.tmod (m : Int) + m = a) := ⟨_, hide rfl⟩
  have ha0 : 0 < a := by have := ha.out; omega
  have ha1 : a ≤ 9223372036854775807 := by have := ha.out; omega
  have e3 : a.tmod (m : Int) = a % m := Int.tmod_eq_emod_of_nonneg (by omega)
  have e4 : 0 ≤ a % (m : Int) := Int.emod_nonneg _ (by omega)
  have e5 : a % (m : Int) < m := Int.emod_lt_of_pos _ (by omega)
  rw [e9, ha.out]
  clear e9
  obtain ⟨k, hk⟩ : ∃ k : Int, a % (m : Int) = k := ⟨_, rfl⟩
  rw [hk] at e3 e4 e5 ⊢
  have hx := ha.out
  have h0' : (m : Int) ≠ 0 := by omega
  clear hk
  go_enter Tryd.func27, Tryd.ntmps27
  go_wp2_with fail
  go_ret
  exact ⟨rfl, rfl⟩
/-- What is held in matrix's round. -/
abbrev MxS (b : Nat) (p : Addr) (x y : Value) (W : World) : Prop := W.cell? ⟨b, 2, none⟩ = some x ∧ W.cell? p = some y
/-- Of no numbers there are nothings alone. -/
def MatZ (n : Nat) (ds : List Int) (k : Nat) : Prop := n = 0 → ds = List.replicate k 0
/-- A matrix of some numbers: narrow ones; of none nothings. -/
def MatrixE (M N n : Nat) (w : World) (e : Ending) (w' : World) : Prop :=
  (∃ (gs g : Nat) (ds : List Int), e = .returned (.agg (tcells (some ⟨gs, 0, none⟩) 2 2 false (some ⟨g, 0, none⟩) (M * N) (M * N))) ∧ w.heap.size < gs ∧ w.heap.size < g ∧ gs ≠ g ∧ Has w' gs 3 (i64s [(M : Int), (N : Int)]) ∧ Has w' g 3 (i64s ds) ∧ ds.length = M * N ∧ Mat.small ds ∧ MatZ n ds (M * N)) ∧ Below w.heap.size w w'
set_option maxRecDepth 100000 in
set_option maxHeartbeats 8000000 in
theorem matrix_c (M N : Nat) (l : List Int) (A : Option Addr) (cap : Nat) (w : World) (hM : M ≤ 20) (hN : N ≤ 20) (hr : Ri w A l) :
    Calls Tryd.prog 26 #[.int .i64 M, .int .i64 N, .slice A l.length cap] w (MatrixE M N l.length w) := by
  have HN := hide (fun x W => number_e x 256 (by decide) (by decide) 256 rfl W)
  have HL := hide (fun W (hb : Below w.heap.size w W) => hr.below hb)
  obtain ⟨n, hn⟩ : ∃ n, Hid (l.length = n) := ⟨_, hide rfl⟩
  obtain ⟨T, hT⟩ : ∃ T, Hid (M * N = T) := ⟨_, hide rfl⟩
  have hTb : T ≤ 400 := by rw [← hT.out]; exact Nat.mul_le_mul hM hN
  have hw0 : IntKind.i64.wrap ((M : Int) * (N : Int)) = (T : Int) := by
    rw [show (M : Int) * (N : Int) = (T : Int) by rw [← hT.out, Int.natCast_mul], IntKind.wrap_i64]
    omega
  have hw1 : wrap64 ((M : Int) * (N : Int)) = (T : Int) := by
    rw [show (M : Int) * (N : Int) = (T : Int) by rw [← hT.out, Int.natCast_mul]]
    unfold wrap64
    omega
  obtain ⟨Z, hZ, hmk⟩ := made_ints T (by omega)
  obtain ⟨W0, hW0⟩ : ∃ W, W = (((w.alloc (.cells #[.slice none 0 0, .bool false, .slice none 0 0] 26)).alloc (.cells #[.int .i64 M, .int .i64 N] 3)).alloc (.cells Z 3)).alloc (.cells #[.slice (some ⟨w.heap.size + 1, 0, none⟩) 2 2, .bool false, .slice (some ⟨w.heap.size + 2, 0, none⟩) T T] 26) := ⟨_, rfl⟩
  have HR : Hid (Has W0 w.heap.size 26 [.slice none 0 0, .bool false, .slice none 0 0]) := hide (by rw [hW0]; exact (((Has.new w 26 _).alloc _).alloc _).alloc _)
  have HI : Hid (Has W0 (w.heap.size + 1) 3 [.int .i64 M, .int .i64 N]) := hide (by rw [hW0]; exact ((box_at _ 3 [.int .i64 M, .int .i64 N] _ (by simp)).alloc _).alloc _)
  have HD : Hid (Has W0 (w.heap.size + 2) 3 (i64s (List.replicate T 0))) := hide (by rw [hW0, hZ.out]; exact (box_at _ 3 (i64s (List.replicate T 0)) _ (by simp)).alloc _)
  have HX : Hid (Has W0 (w.heap.size + 3) 26 [.slice (some ⟨w.heap.size + 1, 0, none⟩) 2 2, .bool false, .slice (some ⟨w.heap.size + 2, 0, none⟩) T T]) := hide (by rw [hW0]; exact box_at _ _ _ _ (by simp))
  have HB : Hid (Below w.heap.size w W0) := hide (by rw [hW0]; exact ((((Below.refl _ _).alloc (Nat.le_refl _) _).alloc (by simp) _).alloc (by simp; omega) _).alloc (by simp; omega) _)
  have HW := hide hW0
  rw [hn.out]
  clear hr hW0 hZ hM hN
  go_enter Tryd.func26, Tryd.ntmps26
  go_wp2_with fail
  rw [← HW.out]
  clear HW hmk
  go_loopw [8] (fun k wr => ∃ (i : Nat) (ds : List Int), i ≤ T ∧ k = .int .i64 i ∧ Hid (ds.length = T) ∧ Hid (Mat.small ds) ∧ Hid (MatZ n ds T) ∧ Hid (Has wr w.heap.size 26 [.slice none 0 0, .bool false, .slice none 0 0]) ∧ Hid (Has wr (w.heap.size + 1) 3 [.int .i64 M, .int .i64 N]) ∧ Hid (Has wr (w.heap.size + 2) 3 (i64s ds)) ∧ Hid (Has wr (w.heap.size + 3) 26 [.slice (some ⟨w.heap.size + 1, 0, none⟩) 2 2, .bool false, .slice (some ⟨w.heap.size + 2, 0, none⟩) T T]) ∧ Hid (Below w.heap.size w wr)) (fun k _ => T - (intOf k).toNat)
  case atStart => exact ⟨0, List.replicate T 0, by omega, rfl, hide (by simp), hide (fun z hz => by rw [(List.mem_replicate.1 hz).2]; decide), hide (fun _ => rfl), HR, HI, HD, HX, HB⟩
  case round =>
    clear HR HI HD HX HB
    obtain ⟨i, ds, hi, rfl, HLn, HS, HNl, HR, HI, HD, HX, HB⟩ := hrel
    by_cases hgo : i < T ∧ 0 < n
    case neg =>
      have hdd : decide ((i : Int) < (T : Int)) = decide (i < T) := by simp
      obtain ⟨z0, z1, z2, zf0, zf1, zf2, HZf, HFf⟩ := elm_three HR.out HB.out (Nat.le_refl _) (.slice (some ⟨w.heap.size + 1, 0, none⟩) 2 2) (.bool false) (.slice (some ⟨w.heap.size + 2, 0, none⟩) T T)
      have HDf := hide (((HD.out.far (p := ⟨w.heap.size, 0, none⟩) (by simp) (.slice (some ⟨w.heap.size + 1, 0, none⟩) 2 2)).far (p := ⟨w.heap.size, 1, none⟩) (by simp) (.bool false)).far (p := ⟨w.heap.size, 2, none⟩) (by simp) (.slice (some ⟨w.heap.size + 2, 0, none⟩) T T))
      have HIf := hide (((HI.out.far (p := ⟨w.heap.size, 0, none⟩) (by simp) (.slice (some ⟨w.heap.size + 1, 0, none⟩) 2 2)).far (p := ⟨w.heap.size, 1, none⟩) (by simp) (.bool false)).far (p := ⟨w.heap.size, 2, none⟩) (by simp) (.slice (some ⟨w.heap.size + 2, 0, none⟩) T T))
      have x0 := HX.out.cell 0
      have x1 := HX.out.cell 1
      have x2 := HX.out.cell 2
      have hP : Hid (∃ (gs g : Nat) (ds : List Int), Ending.returned (.agg (tcells (some ⟨w.heap.size + 1, 0, none⟩) 2 2 false (some ⟨w.heap.size + 2, 0, none⟩) T T)) = .returned (.agg (tcells (some ⟨gs, 0, none⟩) 2 2 false (some ⟨g, 0, none⟩) (M * N) (M * N))) ∧ w.heap.size < gs ∧ w.heap.size < g ∧ gs ≠ g ∧ Has (((wr.setCell ⟨w.heap.size, 0, none⟩ (.slice (some ⟨w.heap.size + 1, 0, none⟩) 2 2)).setCell ⟨w.heap.size, 1, none⟩ (.bool false)).setCell ⟨w.heap.size, 2, none⟩ (.slice (some ⟨w.heap.size + 2, 0, none⟩) T T)) gs 3 (i64s [(M : Int), (N : Int)]) ∧ Has (((wr.setCell ⟨w.heap.size, 0, none⟩ (.slice (some ⟨w.heap.size + 1, 0, none⟩) 2 2)).setCell ⟨w.heap.size, 1, none⟩ (.bool false)).setCell ⟨w.heap.size, 2, none⟩ (.slice (some ⟨w.heap.size + 2, 0, none⟩) T T)) g 3 (i64s ds) ∧ ds.length = M * N ∧ Mat.small ds ∧ MatZ n ds (M * N)) := hide
        ⟨w.heap.size + 1, w.heap.size + 2, ds, by rw [hT.out], by omega, by omega, by omega, HIf.out, HDf.out, by rw [hT.out]; exact HLn.out, HS.out, by rw [hT.out]; exact HNl.out⟩
      by_cases hin : i < T
      · have hn0 : n = 0 := by omega
        subst hn0
        have hii : (i : Int) < (T : Int) := by omega
        clear hgo HIf HDf HS HLn HNl HL HN hdd
        go_wp2_with fail
        refine bodyPost_ret (results_cell_row rfl _ _ w.heap.size 26 (tcells (some ⟨w.heap.size + 1, 0, none⟩) 2 2 false (some ⟨w.heap.size + 2, 0, none⟩) T T) (0, 0) _ rfl HZf.out Tryd.underlying26 rfl (by kernel_rfl)) rfl ?_
        exact ⟨hP.out, HFf.out⟩
      · have hii : ¬ (i : Int) < (T : Int) := by omega
        have hid : decide ((i : Int) < (T : Int)) = false := decide_eq_false hii
        clear hgo HIf HDf HS HLn HNl HL HN hdd
        go_wp2_with fail
        refine bodyPost_ret (results_cell_row rfl _ _ w.heap.size 26 (tcells (some ⟨w.heap.size + 1, 0, none⟩) 2 2 false (some ⟨w.heap.size + 2, 0, none⟩) T T) (0, 0) _ rfl HZf.out Tryd.underlying26 rfl (by kernel_rfl)) rfl ?_
        exact ⟨hP.out, HFf.out⟩
    case pos =>
      obtain ⟨hlt, hn0⟩ := hgo
      have hii : (i : Int) < (T : Int) := by omega
      have hi0 : (0 : Int) ≤ (i : Int) := by omega
      have hnn : (0 : Int) < (n : Int) := by omega
      obtain ⟨q, hq⟩ : ∃ q, Hid (i % n = q) := ⟨_, hide rfl⟩
      have hqn : q < n := by rw [← hq.out]; exact Nat.mod_lt _ hn0
      have Hq1 : Hid ((i : Int) % (n : Int) = (q : Int)) := hide (by rw [← hq.out]; exact (Int.natCast_emod i n).symm)
      have Hq2 : Hid ((i : Int).tmod (n : Int) = (q : Int)) := hide (by rw [Int.tmod_eq_emod_of_nonneg (by omega)]; exact Hq1.out)
      obtain ⟨ad, x, hAD, ex, cx⟩ := ri_at (HL.out wr HB.out) q (by rw [hn.out]; exact hqn)
      subst hAD
      have hq0 : (0 : Int) ≤ (q : Int) := by omega
      have hq3 : (q : Int) < (n : Int) := by omega
      have hnz : ¬ n = 0 := by omega
      obtain ⟨s, hs⟩ : ∃ s : Int, Hid ((i : Int) * (i : Int) = s) := ⟨_, hide rfl⟩
      have Hs : Hid (IntKind.i64.wrap ((i : Int) * (i : Int)) = s) := hide (by
        have h1 : i * i ≤ 400 * 400 := Nat.mul_le_mul (by omega) (by omega)
        have h2 : ((i * i : Nat) : Int) = s := by rw [Int.natCast_mul]; exact hs.out
        rw [hs.out, IntKind.wrap_i64]
        omega)
      obtain ⟨y, hy⟩ : ∃ y : Int, Hid (IntKind.i64.wrap (x + s) = y) := ⟨_, hide rfl⟩
      obtain ⟨k, hk⟩ : ∃ k : Int, Hid (y % 256 = k) := ⟨_, hide rfl⟩
      have hkb : 0 ≤ k ∧ k < 256 := by have := hk.out; omega
      obtain ⟨v, hv⟩ : ∃ v : Int, Hid (k - 128 = v) := ⟨_, hide rfl⟩
      have Hv : Hid (IntKind.i64.wrap (k - 128) = v) := hide (by rw [IntKind.wrap_i64, ← hv.out]; omega)
      have hvb : -128 ≤ v ∧ v ≤ 127 := by have := hv.out; omega
      have HC := hide (HN.out y)
      rw [hk.out] at HC
      have x2 : wr.cell? ⟨w.heap.size + 3, 2, none⟩ = some (.slice (some ⟨w.heap.size + 2, 0, none⟩) T T) := HX.out.cell 2
      have g1 : wr.cell? ⟨w.heap.size + 2, i, none⟩ = some (.int .i64 (ds[i]'(by rw [HLn.out]; exact hlt))) := by
        rw [HD.out.cell]
        unfold i64s
        rw [List.getElem?_map, List.getElem?_eq_getElem (by rw [HLn.out]; exact hlt)]
        rfl
      have gf := HD.out.frozen i
      have hadb : ad.block ≠ w.heap.size + 2 := by
        obtain ⟨ad', h1, h2, -⟩ := (HL.out w (Below.refl _ _)).2 (by intro h; rw [h] at ex; have h := ex.out; simp at h)
        have h1 := Option.some.inj h1
        subst h1
        omega
      have hS0 : MxS (w.heap.size + 3) (ad.add q) (.slice (some ⟨w.heap.size + 2, 0, none⟩) T T) (.int .i64 x) wr.drew := ⟨x2, cx⟩
      have hS1 : ∀ k, MxS (w.heap.size + 3) (ad.add q) (.slice (some ⟨w.heap.size + 2, 0, none⟩) T T) (.int .i64 x) ((wr.drewN k).setCell ⟨w.heap.size + 2, i, none⟩ (.int .i64 v)) := fun k =>
        ⟨(World.cell?_setCell_far (wr.drewN k) _ _ _ (by simp)).trans x2, (World.cell?_setCell_far (wr.drewN k) _ _ _ (by rw [elm_block]; exact Ne.symm hadb)).trans cx⟩
      have hS2 : MxS (w.heap.size + 3) (ad.add q) (.slice (some ⟨w.heap.size + 2, 0, none⟩) T T) (.int .i64 x) (wr.drew.setCell ⟨w.heap.size + 2, i, none⟩ (.int .i64 v)) := hS1 1
      have HVB := hide hvb
      have HRd := hide ((HR.out.drewN 1).far (p := ⟨w.heap.size + 2, i, none⟩) (by simp) (.int .i64 v))
      have HId := hide ((HI.out.drewN 1).far (p := ⟨w.heap.size + 2, i, none⟩) (by simp) (.int .i64 v))
      have HXd := hide ((HX.out.drewN 1).far (p := ⟨w.heap.size + 2, i, none⟩) (by simp) (.int .i64 v))
      have HDd := hide ((HD.out.drewN 1).set_ i (.int .i64 v))
      have HBd := hide (HB.out.drew.setCell (p := ⟨w.heap.size + 2, i, none⟩) (by simp) (.int .i64 v))
      clear x2 cx hadb hvb hkb
      go_wp2_with fail
      have hq1 := Hq1.out
      have hq2 := Hq2.out
      have hss := Hs.out
      have hyy := hy.out
      have hvv := Hv.out
      go_region_held3 (fun W => W.cell? ⟨w.heap.size + 3, 2, none⟩ = some (.slice (some ⟨w.heap.size + 2, 0, none⟩) T T) ∧ W.cell? (ad.add q) = some (.int .i64 x))
        (first | exact hS0 | exact hS2 | exact hS1 _ | assumption)
        (first
          | (go_at_call 27; refine (HC.out _).mono ?_; rintro e W2 ⟨rfl, hw⟩; have hw := hw.symm; subst hw))
      clear hq1 hq2 hss hyy hvv
      go_wp2_with fail
      go_roundw
      case rel =>
        refine ⟨i + 1, ds.set i v, by omega, by go_num, hide (by rw [List.length_set]; exact HLn.out), hide (fun z hz => ?_), hide (fun h => by omega), HRd, HId, ?_, HXd, HBd⟩
        · rcases List.mem_or_eq_of_mem_set hz with h | h
          · exact HS.out z h
          · rw [h]
            exact HVB.out
        · have h := HDd.out
          unfold i64s at h ⊢
          rw [List.map_set]
          exact hide h
      case measure => simp [intOf]; omega
end Go.Proofs.YtkehdgjdieemkaaDoor
