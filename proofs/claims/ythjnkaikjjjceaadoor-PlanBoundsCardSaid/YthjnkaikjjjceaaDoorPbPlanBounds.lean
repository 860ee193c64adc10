/-
  The law PlanBounds, walked. By an AI agent. No person has read it.
-/
import Derived.Test.YthjnkaikjjjceaaDoorPbPlnY
namespace Go.Proofs.YthjnkaikjjjceaaDoor
open Go.RowKit
set_option maxRecDepth 100000 in
set_option maxHeartbeats 16000000 in
theorem planbounds_c (f n0 : Int) (es : List Addr) (w : World) (hE : Ez w es) :
    Calls Tryd.prog 6 #[.int .i64 f, .int .i64 n0] w fun e w' => e = .returned (.bool true) ∧ Below w.heap.size w w' := by
  obtain ⟨ah, am, ar, ae, ak, hes⟩ := terrs_of hE
  have HF := hide (first14_c es ah am ar ae ak hes w (hes.e3y hE.ey))
  have HZ := hide hE
  have HES := hide hes
  have HNV := hide (fun W : World => number_v f 4 (by omega) (by omega) 4 rfl W)
  have hk8 : numv f 4 < 4 := numv_lt f 4 (by omega)
  obtain ⟨k, hk⟩ : ∃ k, Hid (numv f 4 = k) := ⟨_, hide rfl⟩
  rw [hk.out] at HNV hk8
  clear hE hes hk
  go_enter Tryd.func6, Tryd.ntmps6
  go_wp2_with fail
  refine HF.out.mono ?_
  rintro e w1 ⟨rfl, hb⟩
  obtain ⟨S, hS⟩ : ∃ S, Hid (w1.heap.size = S) := ⟨_, hide rfl⟩
  obtain ⟨X0, hX⟩ : ∃ X, Hid (w1.alloc (.cells #[.int .i64 0, .slice none 0 0, .slice none 0 0, .slice none 0 0, .slice none 0 0, .int .i64 0, .int .i64 0] 27) = X) := ⟨_, hide rfl⟩
  have HP : Hid (Has X0 S 27 [.int .i64 0, .slice none 0 0, .slice none 0 0, .slice none 0 0, .slice none 0 0, .int .i64 0, .int .i64 0]) := hide (by rw [← hX.out, ← hS.out]; exact Has.new w1 _ [.int .i64 0, .slice none 0 0, .slice none 0 0, .slice none 0 0, .slice none 0 0, .int .i64 0, .int .i64 0])
  have HB0 : Hid (Below w.heap.size w X0) := hide (by rw [← hX.out]; exact hb.alloc hb.size _)
  have HS : Hid (w.heap.size ≤ S) := hide (by rw [← hS.out]; exact hb.size)
  clear hb HF
  go_wp2_with fail
  rw [hS.out, hX.out]
  refine (HNV.out X0).mono ?_
  rintro e w2 ⟨rfl, hw2⟩
  obtain rfl : X0 = w2 := hw2.symm
  clear hX HNV hS
  have hcase : k = 0 ∨ k = 1 ∨ k = 2 ∨ k = 3 := by omega
  clear hk8
  rcases hcase with rfl | rfl | rfl | rfl
  · have HNN := hide (fun W : World => number_v n0 200 (by omega) (by omega) 200 rfl W)
    have hn := numv_lt n0 200 (by omega)
    obtain ⟨n, hk⟩ : ∃ n, Hid (numv n0 200 = n) := ⟨_, hide rfl⟩
    rw [hk.out] at HNN hn
    clear hk
    go_wp2_with fail
    refine (HNN.out X0).mono ?_
    rintro e w2 ⟨rfl, hw2⟩
    obtain rfl : X0 = w2 := hw2.symm
    clear HNN
    obtain ⟨Z, hZ, hmk0⟩ := made_views n (by omega)
    obtain ⟨X1, hX1⟩ : ∃ X1, Hid (X0.alloc (.cells Z 61) = X1) := ⟨_, hide rfl⟩
    have hmk : (Instr.makeSlice 22 (.int .i64 n) (.int .i64 n)).run Tryd.prog X0 = .ok (.slice (some ⟨X0.heap.size, 0, none⟩) n n) X1 := by rw [← hX1.out]; exact hmk0 X0
    have HB1 : Hid (Below w.heap.size w X1) := hide (by rw [← hX1.out]; exact HB0.out.alloc HB0.out.size _)
    have HP1 : Hid (Has X1 S 27 [.int .i64 0, .slice none 0 0, .slice none 0 0, .slice none 0 0, .slice none 0 0, .int .i64 0, .int .i64 0]) := hide (by rw [← hX1.out]; exact HP.out.alloc _)
    have HG1 : Hid (Has X1 X0.heap.size 61 ((List.replicate n Vw.zero).flatMap Vw.vals)) := hide (by rw [← hX1.out, hZ.out]; exact Has.new X0 _ _)
    have hs1 : X0.heap.size < X1.heap.size := HG1.out.lt
    have hs0 : S < X0.heap.size := HP.out.lt
    have HY : Hid (Has (World.setCell (X1) ⟨S, 1, none⟩ (.slice (some ⟨X0.heap.size, 0, none⟩) n n)) S 27 [.int .i64 0, .slice (some ⟨X0.heap.size, 0, none⟩) n n, .slice none 0 0, .slice none 0 0, .slice none 0 0, .int .i64 0, .int .i64 0]) := hide (HP1.out.set_ 1 _)
    have HIN : Hid ((Pn.nv n (some ⟨X0.heap.size, 0, none⟩)).In (World.setCell (X1) ⟨S, 1, none⟩ (.slice (some ⟨X0.heap.size, 0, none⟩) n n))) := hide (nv_in (by omega) (HG1.out.far (by simp; omega) _))
    have HBY : Hid (Below w.heap.size w (World.setCell (X1) ⟨S, 1, none⟩ (.slice (some ⟨X0.heap.size, 0, none⟩) n n))) := hide (HB1.out.setCell (by have := HS.out; simp; omega) _)
    have p1 := HP1.out.cell 1
    have q1 := HP1.out.frozen 1
    have l1 := HP1.out.lt
    have HR : Hid (Calls Tryd.prog 10 #[.agg #[.int .i64 0, .slice (some ⟨X0.heap.size, 0, none⟩) n n, .slice none 0 0, .slice none 0 0, .slice none 0 0, .int .i64 0, .int .i64 0]] (World.setCell (X1) ⟨S, 1, none⟩ (.slice (some ⟨X0.heap.size, 0, none⟩) n n)) fun e w' => ∃ (B : Option Addr) (cb m : Nat) (ev : Value), e = .returned (.tuple #[.slice B m cb, ev]) ∧ Hid (Below w.heap.size w w') ∧ Hid (Below (World.setCell (X1) ⟨S, 1, none⟩ (.slice (some ⟨X0.heap.size, 0, none⟩) n n)).heap.size (World.setCell (X1) ⟨S, 1, none⟩ (.slice (some ⟨X0.heap.size, 0, none⟩) n n)) w') ∧
      Hid (decide (128 < n) = false → ev = .nilIface ∧ Hid (Calls Tryd.prog 11 #[.slice B m cb] w' fun e2 w2 => ∃ q : Pn, e2 = .returned (.tuple #[.agg #[.int .i64 q.size, .slice q.V q.vs.length q.vc, .slice q.C q.cs.length q.cc, .slice q.L q.ls.length q.lc, .slice q.K q.is.length q.kc, .int .i64 q.inp, .int .i64 q.out], .nilIface]) ∧ Hid (Below w.heap.size w w2) ∧ Hid (Below (World.setCell (X1) ⟨S, 1, none⟩ (.slice (some ⟨X0.heap.size, 0, none⟩) n n)).heap.size (World.setCell (X1) ⟨S, 1, none⟩ (.slice (some ⟨X0.heap.size, 0, none⟩) n n)) w2) ∧
        Hid (∀ W, Below w2.heap.size w2 W → Calls Tryd.prog 14 #[.agg #[.int .i64 0, .slice (some ⟨X0.heap.size, 0, none⟩) n n, .slice none 0 0, .slice none 0 0, .slice none 0 0, .int .i64 0, .int .i64 0], .agg #[.int .i64 q.size, .slice q.V q.vs.length q.vc, .slice q.C q.cs.length q.cc, .slice q.L q.ls.length q.lc, .slice q.K q.is.length q.kc, .int .i64 q.inp, .int .i64 q.out]] W fun e3 w3 => e3 = .returned (.bool true) ∧ Below w.heap.size w w3))) ∧
      Hid (decide (128 < n) = true → m = 0 ∧ ∃ x, ev = errv x ∧ Hid (Calls Tryd.prog 17 #[errv x, .int .i64 104] w' fun e w'' => e = .returned (.bool true) ∧ Below w.heap.size w w''))) := hide (by
      have h := pl_rest es ah am ar ae ak HES.out HZ.out HBY.out HIN.out 3 (decide (128 < n)) (nv_fault n _) (nv_len n _ (by omega)) 104 rfl
      rw [show (Pn.nv n (some ⟨X0.heap.size, 0, none⟩)).vs.length = n from List.length_replicate] at h
      exact h)
    have y0 := HY.out.cell 0
    have y1 := HY.out.cell 1
    have y2 := HY.out.cell 2
    have y3 := HY.out.cell 3
    have y4 := HY.out.cell 4
    have y5 := HY.out.cell 5
    have y6 := HY.out.cell 6
    simp only [List.getElem?_cons_zero, List.getElem?_cons_succ] at p1 y0 y1 y2 y3 y4 y5 y6
    clear HIN HBY HP1 HG1 HB1 hX1 hmk0 hZ hs1 hs0
    go_wp2_with fail
    refine HR.out.mono ?_
    clear p1 q1 l1 y0 y1 y2 y3 y4 y5 y6 hmk HR
    rintro e w3 ⟨B, cb, m, ev, rfl, hb3, hb4, hyes, hno⟩
    rcases Nat.lt_or_ge 128 n with hr | hr
    · obtain ⟨rfl, x, rfl, HIS⟩ := hno.out (decide_eq_true hr)
      have hr2 : (128 : Int) < (n : Int) := by omega
      clear hyes hno HY hr
      go_wp2_with fail
      refine HIS.out.mono ?_
      rintro e w5 ⟨rfl, hb5⟩
      have HB5 := hide hb5
      clear hb5 HIS
      go_wp2_with fail
      go_ret
      exact ⟨rfl, HB5.out⟩
    · obtain ⟨rfl, HRD⟩ := hyes.out (decide_eq_false (by omega))
      have hr2 : ¬ (128 : Int) < (n : Int) := by omega
      clear hyes hno hr
      go_wp2_with fail
      refine HRD.out.mono ?_
      rintro e w4 ⟨q, rfl, hb5, hb6, HSM⟩
      have hb7 := (Below.refl w4.heap.size w4).alloc (Nat.le_refl _) (.cells #[.int .i64 q.size, .slice q.V q.vs.length q.vc, .slice q.C q.cs.length q.cc, .slice q.L q.ls.length q.lc, .slice q.K q.is.length q.kc, .int .i64 q.inp, .int .i64 q.out] 27)
      have HS4 := hide (HSM.out _ hb7)
      have h5 := (HY.out.below hb6.out HY.out.lt).alloc (.cells #[.int .i64 q.size, .slice q.V q.vs.length q.vc, .slice q.C q.cs.length q.cc, .slice q.L q.ls.length q.lc, .slice q.K q.is.length q.kc, .int .i64 q.inp, .int .i64 q.out] 27)
      have z0 := h5.cell 0
      have z1 := h5.cell 1
      have z2 := h5.cell 2
      have z3 := h5.cell 3
      have z4 := h5.cell 4
      have z5 := h5.cell 5
      have z6 := h5.cell 6
      simp only [List.getElem?_cons_zero, List.getElem?_cons_succ] at z0 z1 z2 z3 z4 z5 z6
      clear hb7 h5 hb6 HSM HRD HY
      go_wp2_with fail
      refine HS4.out.mono ?_
      rintro e w5 ⟨rfl, hb8⟩
      have HB5 := hide hb8
      clear hb8 HS4
      go_wp2_with fail
      go_ret
      exact ⟨rfl, HB5.out⟩
  · have HNN := hide (fun W : World => number_v n0 14 (by omega) (by omega) 14 rfl W)
    have hn := numv_lt n0 14 (by omega)
    obtain ⟨n, hk⟩ : ∃ n, Hid (numv n0 14 = n) := ⟨_, hide rfl⟩
    rw [hk.out] at HNN hn
    clear hk
    go_wp2_with fail
    refine (HNN.out X0).mono ?_
    rintro e w2 ⟨rfl, hw2⟩
    obtain rfl : X0 = w2 := hw2.symm
    clear HNN
    obtain ⟨Z, hZ, hmk0⟩ := made_ints n (by omega)
    obtain ⟨X1, hX1⟩ : ∃ X1, Hid (X0.alloc (.cells Z 3) = X1) := ⟨_, hide rfl⟩
    have hmk : (Instr.makeSlice 46 (.int .i64 n) (.int .i64 n)).run Tryd.prog X0 = .ok (.slice (some ⟨X0.heap.size, 0, none⟩) n n) X1 := by rw [← hX1.out]; exact hmk0 X0
    have HB1 : Hid (Below w.heap.size w X1) := hide (by rw [← hX1.out]; exact HB0.out.alloc HB0.out.size _)
    have HP1 : Hid (Has X1 S 27 [.int .i64 0, .slice none 0 0, .slice none 0 0, .slice none 0 0, .slice none 0 0, .int .i64 0, .int .i64 0]) := hide (by rw [← hX1.out]; exact HP.out.alloc _)
    have HG1 : Hid (Has X1 X0.heap.size 3 (i64s (List.replicate n 0))) := hide (by rw [← hX1.out, hZ.out]; exact Has.new X0 _ _)
    have hs1 : X0.heap.size < X1.heap.size := HG1.out.lt
    have hs0 : S < X0.heap.size := HP.out.lt
    have HP2 : Hid (Has (X1.alloc (.cells #[.int .i64 24, .int .i64 0, .slice (some ⟨X0.heap.size, 0, none⟩) n n, .slice none 0 0, .int .i64 0, .int .i64 0] 48)) S 27 [.int .i64 0, .slice none 0 0, .slice none 0 0, .slice none 0 0, .slice none 0 0, .int .i64 0, .int .i64 0]) := hide (HP1.out.alloc _)
    have HG2 : Hid (Has (X1.alloc (.cells #[.int .i64 24, .int .i64 0, .slice (some ⟨X0.heap.size, 0, none⟩) n n, .slice none 0 0, .int .i64 0, .int .i64 0] 48)) X0.heap.size 3 (i64s (List.replicate n 0))) := hide (HG1.out.alloc _)
    have HK2 : Hid (Has (X1.alloc (.cells #[.int .i64 24, .int .i64 0, .slice (some ⟨X0.heap.size, 0, none⟩) n n, .slice none 0 0, .int .i64 0, .int .i64 0] 48)) X1.heap.size 48 [.int .i64 24, .int .i64 0, .slice (some ⟨X0.heap.size, 0, none⟩) n n, .slice none 0 0, .int .i64 0, .int .i64 0]) := hide (Has.new X1 _ [.int .i64 24, .int .i64 0, .slice (some ⟨X0.heap.size, 0, none⟩) n n, .slice none 0 0, .int .i64 0, .int .i64 0])
    have HB2 : Hid (Below w.heap.size w (X1.alloc (.cells #[.int .i64 24, .int .i64 0, .slice (some ⟨X0.heap.size, 0, none⟩) n n, .slice none 0 0, .int .i64 0, .int .i64 0] 48))) := hide (HB1.out.alloc HB1.out.size _)
    have HY : Hid (Has (World.setCell (X1.alloc (.cells #[.int .i64 24, .int .i64 0, .slice (some ⟨X0.heap.size, 0, none⟩) n n, .slice none 0 0, .int .i64 0, .int .i64 0] 48)) ⟨S, 4, none⟩ (.slice (some ⟨X1.heap.size, 0, none⟩) 1 1)) S 27 [.int .i64 0, .slice none 0 0, .slice none 0 0, .slice none 0 0, .slice (some ⟨X1.heap.size, 0, none⟩) 1 1, .int .i64 0, .int .i64 0]) := hide (HP2.out.set_ 4 _)
    have HIN : Hid ((Pn.ni n (some ⟨X0.heap.size, 0, none⟩) (some ⟨X1.heap.size, 0, none⟩)).In (World.setCell (X1.alloc (.cells #[.int .i64 24, .int .i64 0, .slice (some ⟨X0.heap.size, 0, none⟩) n n, .slice none 0 0, .int .i64 0, .int .i64 0] 48)) ⟨S, 4, none⟩ (.slice (some ⟨X1.heap.size, 0, none⟩) 1 1))) := hide (ni_in (by omega) (HG2.out.far (by simp; omega) _) (HK2.out.far (by simp; omega) _))
    have HBY : Hid (Below w.heap.size w (World.setCell (X1.alloc (.cells #[.int .i64 24, .int .i64 0, .slice (some ⟨X0.heap.size, 0, none⟩) n n, .slice none 0 0, .int .i64 0, .int .i64 0] 48)) ⟨S, 4, none⟩ (.slice (some ⟨X1.heap.size, 0, none⟩) 1 1))) := hide (HB2.out.setCell (by have := HS.out; simp; omega) _)
    have p1 := HP2.out.cell 4
    have q1 := HP2.out.frozen 4
    have l1 := HP2.out.lt
    clear HG2 HK2 HB2 HP2
    have HR : Hid (Calls Tryd.prog 10 #[.agg #[.int .i64 0, .slice none 0 0, .slice none 0 0, .slice none 0 0, .slice (some ⟨X1.heap.size, 0, none⟩) 1 1, .int .i64 0, .int .i64 0]] (World.setCell (X1.alloc (.cells #[.int .i64 24, .int .i64 0, .slice (some ⟨X0.heap.size, 0, none⟩) n n, .slice none 0 0, .int .i64 0, .int .i64 0] 48)) ⟨S, 4, none⟩ (.slice (some ⟨X1.heap.size, 0, none⟩) 1 1)) fun e w' => ∃ (B : Option Addr) (cb m : Nat) (ev : Value), e = .returned (.tuple #[.slice B m cb, ev]) ∧ Hid (Below w.heap.size w w') ∧ Hid (Below (World.setCell (X1.alloc (.cells #[.int .i64 24, .int .i64 0, .slice (some ⟨X0.heap.size, 0, none⟩) n n, .slice none 0 0, .int .i64 0, .int .i64 0] 48)) ⟨S, 4, none⟩ (.slice (some ⟨X1.heap.size, 0, none⟩) 1 1)).heap.size (World.setCell (X1.alloc (.cells #[.int .i64 24, .int .i64 0, .slice (some ⟨X0.heap.size, 0, none⟩) n n, .slice none 0 0, .int .i64 0, .int .i64 0] 48)) ⟨S, 4, none⟩ (.slice (some ⟨X1.heap.size, 0, none⟩) 1 1)) w') ∧
      Hid (decide (8 < n) = false → ev = .nilIface ∧ Hid (Calls Tryd.prog 11 #[.slice B m cb] w' fun e2 w2 => ∃ q : Pn, e2 = .returned (.tuple #[.agg #[.int .i64 q.size, .slice q.V q.vs.length q.vc, .slice q.C q.cs.length q.cc, .slice q.L q.ls.length q.lc, .slice q.K q.is.length q.kc, .int .i64 q.inp, .int .i64 q.out], .nilIface]) ∧ Hid (Below w.heap.size w w2) ∧ Hid (Below (World.setCell (X1.alloc (.cells #[.int .i64 24, .int .i64 0, .slice (some ⟨X0.heap.size, 0, none⟩) n n, .slice none 0 0, .int .i64 0, .int .i64 0] 48)) ⟨S, 4, none⟩ (.slice (some ⟨X1.heap.size, 0, none⟩) 1 1)).heap.size (World.setCell (X1.alloc (.cells #[.int .i64 24, .int .i64 0, .slice (some ⟨X0.heap.size, 0, none⟩) n n, .slice none 0 0, .int .i64 0, .int .i64 0] 48)) ⟨S, 4, none⟩ (.slice (some ⟨X1.heap.size, 0, none⟩) 1 1)) w2) ∧
        Hid (∀ W, Below w2.heap.size w2 W → Calls Tryd.prog 14 #[.agg #[.int .i64 0, .slice none 0 0, .slice none 0 0, .slice none 0 0, .slice (some ⟨X1.heap.size, 0, none⟩) 1 1, .int .i64 0, .int .i64 0], .agg #[.int .i64 q.size, .slice q.V q.vs.length q.vc, .slice q.C q.cs.length q.cc, .slice q.L q.ls.length q.lc, .slice q.K q.is.length q.kc, .int .i64 q.inp, .int .i64 q.out]] W fun e3 w3 => e3 = .returned (.bool true) ∧ Below w.heap.size w w3))) ∧
      Hid (decide (8 < n) = true → m = 0 ∧ ∃ x, ev = errv x ∧ Hid (Calls Tryd.prog 17 #[errv x, .int .i64 104] w' fun e w'' => e = .returned (.bool true) ∧ Below w.heap.size w w''))) := hide (by
      have h := pl_rest es ah am ar ae ak HES.out HZ.out HBY.out HIN.out 3 (decide (8 < n)) (ni_fault n _ _) (ni_len n _ _ (by omega)) 104 rfl
      exact h)
    have y0 := HY.out.cell 0
    have y1 := HY.out.cell 1
    have y2 := HY.out.cell 2
    have y3 := HY.out.cell 3
    have y4 := HY.out.cell 4
    have y5 := HY.out.cell 5
    have y6 := HY.out.cell 6
    simp only [List.getElem?_cons_zero, List.getElem?_cons_succ] at p1 y0 y1 y2 y3 y4 y5 y6
    clear HIN HBY HP1 HG1 HB1 hX1 hmk0 hZ hs1 hs0
    go_wp2_with fail
    refine HR.out.mono ?_
    clear p1 q1 l1 y0 y1 y2 y3 y4 y5 y6 hmk HR
    rintro e w3 ⟨B, cb, m, ev, rfl, hb3, hb4, hyes, hno⟩
    rcases Nat.lt_or_ge 8 n with hr | hr
    · obtain ⟨rfl, x, rfl, HIS⟩ := hno.out (decide_eq_true hr)
      have hr2 : (8 : Int) < (n : Int) := by omega
      clear hyes hno HY hr
      go_wp2_with fail
      refine HIS.out.mono ?_
      rintro e w5 ⟨rfl, hb5⟩
      have HB5 := hide hb5
      clear hb5 HIS
      go_wp2_with fail
      go_ret
      exact ⟨rfl, HB5.out⟩
    · obtain ⟨rfl, HRD⟩ := hyes.out (decide_eq_false (by omega))
      have hr2 : ¬ (8 : Int) < (n : Int) := by omega
      clear hyes hno hr
      go_wp2_with fail
      refine HRD.out.mono ?_
      rintro e w4 ⟨q, rfl, hb5, hb6, HSM⟩
      have hb7 := (Below.refl w4.heap.size w4).alloc (Nat.le_refl _) (.cells #[.int .i64 q.size, .slice q.V q.vs.length q.vc, .slice q.C q.cs.length q.cc, .slice q.L q.ls.length q.lc, .slice q.K q.is.length q.kc, .int .i64 q.inp, .int .i64 q.out] 27)
      have HS4 := hide (HSM.out _ hb7)
      have h5 := (HY.out.below hb6.out HY.out.lt).alloc (.cells #[.int .i64 q.size, .slice q.V q.vs.length q.vc, .slice q.C q.cs.length q.cc, .slice q.L q.ls.length q.lc, .slice q.K q.is.length q.kc, .int .i64 q.inp, .int .i64 q.out] 27)
      have z0 := h5.cell 0
      have z1 := h5.cell 1
      have z2 := h5.cell 2
      have z3 := h5.cell 3
      have z4 := h5.cell 4
      have z5 := h5.cell 5
      have z6 := h5.cell 6
      simp only [List.getElem?_cons_zero, List.getElem?_cons_succ] at z0 z1 z2 z3 z4 z5 z6
      clear hb7 h5 hb6 HSM HRD HY
      go_wp2_with fail
      refine HS4.out.mono ?_
      rintro e w5 ⟨rfl, hb8⟩
      have HB5 := hide hb8
      clear hb8 HS4
      go_wp2_with fail
      go_ret
      exact ⟨rfl, HB5.out⟩
  · have HNN := hide (fun W : World => number_v n0 14 (by omega) (by omega) 14 rfl W)
    have hn := numv_lt n0 14 (by omega)
    obtain ⟨n, hk⟩ : ∃ n, Hid (numv n0 14 = n) := ⟨_, hide rfl⟩
    rw [hk.out] at HNN hn
    clear hk
    go_wp2_with fail
    refine (HNN.out X0).mono ?_
    rintro e w2 ⟨rfl, hw2⟩
    obtain rfl : X0 = w2 := hw2.symm
    clear HNN
    obtain ⟨Z, hZ, hmk0⟩ := made_ints n (by omega)
    obtain ⟨X1, hX1⟩ : ∃ X1, Hid (X0.alloc (.cells Z 3) = X1) := ⟨_, hide rfl⟩
    have hmk : (Instr.makeSlice 46 (.int .i64 n) (.int .i64 n)).run Tryd.prog X0 = .ok (.slice (some ⟨X0.heap.size, 0, none⟩) n n) X1 := by rw [← hX1.out]; exact hmk0 X0
    have HB1 : Hid (Below w.heap.size w X1) := hide (by rw [← hX1.out]; exact HB0.out.alloc HB0.out.size _)
    have HP1 : Hid (Has X1 S 27 [.int .i64 0, .slice none 0 0, .slice none 0 0, .slice none 0 0, .slice none 0 0, .int .i64 0, .int .i64 0]) := hide (by rw [← hX1.out]; exact HP.out.alloc _)
    have HG1 : Hid (Has X1 X0.heap.size 3 (i64s (List.replicate n 0))) := hide (by rw [← hX1.out, hZ.out]; exact Has.new X0 _ _)
    have hs1 : X0.heap.size < X1.heap.size := HG1.out.lt
    have hs0 : S < X0.heap.size := HP.out.lt
    have HP2 : Hid (Has (X1.alloc (.cells #[.int .i64 24, .int .i64 0, .slice none 0 0, .slice (some ⟨X0.heap.size, 0, none⟩) n n, .int .i64 0, .int .i64 0] 48)) S 27 [.int .i64 0, .slice none 0 0, .slice none 0 0, .slice none 0 0, .slice none 0 0, .int .i64 0, .int .i64 0]) := hide (HP1.out.alloc _)
    have HG2 : Hid (Has (X1.alloc (.cells #[.int .i64 24, .int .i64 0, .slice none 0 0, .slice (some ⟨X0.heap.size, 0, none⟩) n n, .int .i64 0, .int .i64 0] 48)) X0.heap.size 3 (i64s (List.replicate n 0))) := hide (HG1.out.alloc _)
    have HK2 : Hid (Has (X1.alloc (.cells #[.int .i64 24, .int .i64 0, .slice none 0 0, .slice (some ⟨X0.heap.size, 0, none⟩) n n, .int .i64 0, .int .i64 0] 48)) X1.heap.size 48 [.int .i64 24, .int .i64 0, .slice none 0 0, .slice (some ⟨X0.heap.size, 0, none⟩) n n, .int .i64 0, .int .i64 0]) := hide (Has.new X1 _ [.int .i64 24, .int .i64 0, .slice none 0 0, .slice (some ⟨X0.heap.size, 0, none⟩) n n, .int .i64 0, .int .i64 0])
    have HB2 : Hid (Below w.heap.size w (X1.alloc (.cells #[.int .i64 24, .int .i64 0, .slice none 0 0, .slice (some ⟨X0.heap.size, 0, none⟩) n n, .int .i64 0, .int .i64 0] 48))) := hide (HB1.out.alloc HB1.out.size _)
    have HY : Hid (Has (World.setCell (X1.alloc (.cells #[.int .i64 24, .int .i64 0, .slice none 0 0, .slice (some ⟨X0.heap.size, 0, none⟩) n n, .int .i64 0, .int .i64 0] 48)) ⟨S, 4, none⟩ (.slice (some ⟨X1.heap.size, 0, none⟩) 1 1)) S 27 [.int .i64 0, .slice none 0 0, .slice none 0 0, .slice none 0 0, .slice (some ⟨X1.heap.size, 0, none⟩) 1 1, .int .i64 0, .int .i64 0]) := hide (HP2.out.set_ 4 _)
    have HIN : Hid ((Pn.ng n (some ⟨X0.heap.size, 0, none⟩) (some ⟨X1.heap.size, 0, none⟩)).In (World.setCell (X1.alloc (.cells #[.int .i64 24, .int .i64 0, .slice none 0 0, .slice (some ⟨X0.heap.size, 0, none⟩) n n, .int .i64 0, .int .i64 0] 48)) ⟨S, 4, none⟩ (.slice (some ⟨X1.heap.size, 0, none⟩) 1 1))) := hide (ng_in (by omega) (HG2.out.far (by simp; omega) _) (HK2.out.far (by simp; omega) _))
    have HBY : Hid (Below w.heap.size w (World.setCell (X1.alloc (.cells #[.int .i64 24, .int .i64 0, .slice none 0 0, .slice (some ⟨X0.heap.size, 0, none⟩) n n, .int .i64 0, .int .i64 0] 48)) ⟨S, 4, none⟩ (.slice (some ⟨X1.heap.size, 0, none⟩) 1 1))) := hide (HB2.out.setCell (by have := HS.out; simp; omega) _)
    have p1 := HP2.out.cell 4
    have q1 := HP2.out.frozen 4
    have l1 := HP2.out.lt
    clear HG2 HK2 HB2 HP2
    have HR : Hid (Calls Tryd.prog 10 #[.agg #[.int .i64 0, .slice none 0 0, .slice none 0 0, .slice none 0 0, .slice (some ⟨X1.heap.size, 0, none⟩) 1 1, .int .i64 0, .int .i64 0]] (World.setCell (X1.alloc (.cells #[.int .i64 24, .int .i64 0, .slice none 0 0, .slice (some ⟨X0.heap.size, 0, none⟩) n n, .int .i64 0, .int .i64 0] 48)) ⟨S, 4, none⟩ (.slice (some ⟨X1.heap.size, 0, none⟩) 1 1)) fun e w' => ∃ (B : Option Addr) (cb m : Nat) (ev : Value), e = .returned (.tuple #[.slice B m cb, ev]) ∧ Hid (Below w.heap.size w w') ∧ Hid (Below (World.setCell (X1.alloc (.cells #[.int .i64 24, .int .i64 0, .slice none 0 0, .slice (some ⟨X0.heap.size, 0, none⟩) n n, .int .i64 0, .int .i64 0] 48)) ⟨S, 4, none⟩ (.slice (some ⟨X1.heap.size, 0, none⟩) 1 1)).heap.size (World.setCell (X1.alloc (.cells #[.int .i64 24, .int .i64 0, .slice none 0 0, .slice (some ⟨X0.heap.size, 0, none⟩) n n, .int .i64 0, .int .i64 0] 48)) ⟨S, 4, none⟩ (.slice (some ⟨X1.heap.size, 0, none⟩) 1 1)) w') ∧
      Hid (decide (8 < n) = false → ev = .nilIface ∧ Hid (Calls Tryd.prog 11 #[.slice B m cb] w' fun e2 w2 => ∃ q : Pn, e2 = .returned (.tuple #[.agg #[.int .i64 q.size, .slice q.V q.vs.length q.vc, .slice q.C q.cs.length q.cc, .slice q.L q.ls.length q.lc, .slice q.K q.is.length q.kc, .int .i64 q.inp, .int .i64 q.out], .nilIface]) ∧ Hid (Below w.heap.size w w2) ∧ Hid (Below (World.setCell (X1.alloc (.cells #[.int .i64 24, .int .i64 0, .slice none 0 0, .slice (some ⟨X0.heap.size, 0, none⟩) n n, .int .i64 0, .int .i64 0] 48)) ⟨S, 4, none⟩ (.slice (some ⟨X1.heap.size, 0, none⟩) 1 1)).heap.size (World.setCell (X1.alloc (.cells #[.int .i64 24, .int .i64 0, .slice none 0 0, .slice (some ⟨X0.heap.size, 0, none⟩) n n, .int .i64 0, .int .i64 0] 48)) ⟨S, 4, none⟩ (.slice (some ⟨X1.heap.size, 0, none⟩) 1 1)) w2) ∧
        Hid (∀ W, Below w2.heap.size w2 W → Calls Tryd.prog 14 #[.agg #[.int .i64 0, .slice none 0 0, .slice none 0 0, .slice none 0 0, .slice (some ⟨X1.heap.size, 0, none⟩) 1 1, .int .i64 0, .int .i64 0], .agg #[.int .i64 q.size, .slice q.V q.vs.length q.vc, .slice q.C q.cs.length q.cc, .slice q.L q.ls.length q.lc, .slice q.K q.is.length q.kc, .int .i64 q.inp, .int .i64 q.out]] W fun e3 w3 => e3 = .returned (.bool true) ∧ Below w.heap.size w w3))) ∧
      Hid (decide (8 < n) = true → m = 0 ∧ ∃ x, ev = errv x ∧ Hid (Calls Tryd.prog 17 #[errv x, .int .i64 104] w' fun e w'' => e = .returned (.bool true) ∧ Below w.heap.size w w''))) := hide (by
      have h := pl_rest es ah am ar ae ak HES.out HZ.out HBY.out HIN.out 3 (decide (8 < n)) (ng_fault n _ _) (ng_len n _ _ (by omega)) 104 rfl
      exact h)
    have y0 := HY.out.cell 0
    have y1 := HY.out.cell 1
    have y2 := HY.out.cell 2
    have y3 := HY.out.cell 3
    have y4 := HY.out.cell 4
    have y5 := HY.out.cell 5
    have y6 := HY.out.cell 6
    simp only [List.getElem?_cons_zero, List.getElem?_cons_succ] at p1 y0 y1 y2 y3 y4 y5 y6
    clear HIN HBY HP1 HG1 HB1 hX1 hmk0 hZ hs1 hs0
    go_wp2_with fail
    refine HR.out.mono ?_
    clear p1 q1 l1 y0 y1 y2 y3 y4 y5 y6 hmk HR
    rintro e w3 ⟨B, cb, m, ev, rfl, hb3, hb4, hyes, hno⟩
    rcases Nat.lt_or_ge 8 n with hr | hr
    · obtain ⟨rfl, x, rfl, HIS⟩ := hno.out (decide_eq_true hr)
      have hr2 : (8 : Int) < (n : Int) := by omega
      clear hyes hno HY hr
      go_wp2_with fail
      refine HIS.out.mono ?_
      rintro e w5 ⟨rfl, hb5⟩
      have HB5 := hide hb5
      clear hb5 HIS
      go_wp2_with fail
      go_ret
      exact ⟨rfl, HB5.out⟩
    · obtain ⟨rfl, HRD⟩ := hyes.out (decide_eq_false (by omega))
      have hr2 : ¬ (8 : Int) < (n : Int) := by omega
      clear hyes hno hr
      go_wp2_with fail
      refine HRD.out.mono ?_
      rintro e w4 ⟨q, rfl, hb5, hb6, HSM⟩
      have hb7 := (Below.refl w4.heap.size w4).alloc (Nat.le_refl _) (.cells #[.int .i64 q.size, .slice q.V q.vs.length q.vc, .slice q.C q.cs.length q.cc, .slice q.L q.ls.length q.lc, .slice q.K q.is.length q.kc, .int .i64 q.inp, .int .i64 q.out] 27)
      have HS4 := hide (HSM.out _ hb7)
      have h5 := (HY.out.below hb6.out HY.out.lt).alloc (.cells #[.int .i64 q.size, .slice q.V q.vs.length q.vc, .slice q.C q.cs.length q.cc, .slice q.L q.ls.length q.lc, .slice q.K q.is.length q.kc, .int .i64 q.inp, .int .i64 q.out] 27)
      have z0 := h5.cell 0
      have z1 := h5.cell 1
      have z2 := h5.cell 2
      have z3 := h5.cell 3
      have z4 := h5.cell 4
      have z5 := h5.cell 5
      have z6 := h5.cell 6
      simp only [List.getElem?_cons_zero, List.getElem?_cons_succ] at z0 z1 z2 z3 z4 z5 z6
      clear hb7 h5 hb6 HSM HRD HY
      go_wp2_with fail
      refine HS4.out.mono ?_
      rintro e w5 ⟨rfl, hb8⟩
      have HB5 := hide hb8
      clear hb8 HS4
      go_wp2_with fail
      go_ret
      exact ⟨rfl, HB5.out⟩
  · have HNN := hide (fun W : World => number_v n0 14 (by omega) (by omega) 14 rfl W)
    have hn := numv_lt n0 14 (by omega)
    obtain ⟨n, hk⟩ : ∃ n, Hid (numv n0 14 = n) := ⟨_, hide rfl⟩
    rw [hk.out] at HNN hn
    clear hk
    go_wp2_with fail
    refine (HNN.out X0).mono ?_
    rintro e w2 ⟨rfl, hw2⟩
    obtain rfl : X0 = w2 := hw2.symm
    clear HNN
    obtain ⟨Z, hZ, hmk0⟩ := made_descs n (by omega)
    obtain ⟨X1, hX1⟩ : ∃ X1, Hid (X0.alloc (.cells Z 59) = X1) := ⟨_, hide rfl⟩
    have hmk : (Instr.makeSlice 24 (.int .i64 n) (.int .i64 n)).run Tryd.prog X0 = .ok (.slice (some ⟨X0.heap.size, 0, none⟩) n n) X1 := by rw [← hX1.out]; exact hmk0 X0
    have HB1 : Hid (Below w.heap.size w X1) := hide (by rw [← hX1.out]; exact HB0.out.alloc HB0.out.size _)
    have HP1 : Hid (Has X1 S 27 [.int .i64 0, .slice none 0 0, .slice none 0 0, .slice none 0 0, .slice none 0 0, .int .i64 0, .int .i64 0]) := hide (by rw [← hX1.out]; exact HP.out.alloc _)
    have HG1 : Hid (Has X1 X0.heap.size 59 ((List.replicate n Dsc.zero).flatMap Dsc.vals)) := hide (by rw [← hX1.out, hZ.out]; exact Has.new X0 _ _)
    have hs1 : X0.heap.size < X1.heap.size := HG1.out.lt
    have hs0 : S < X0.heap.size := HP.out.lt
    have HY : Hid (Has (World.setCell (X1) ⟨S, 3, none⟩ (.slice (some ⟨X0.heap.size, 0, none⟩) n n)) S 27 [.int .i64 0, .slice none 0 0, .slice none 0 0, .slice (some ⟨X0.heap.size, 0, none⟩) n n, .slice none 0 0, .int .i64 0, .int .i64 0]) := hide (HP1.out.set_ 3 _)
    have HIN : Hid ((Pn.nl n (some ⟨X0.heap.size, 0, none⟩)).In (World.setCell (X1) ⟨S, 3, none⟩ (.slice (some ⟨X0.heap.size, 0, none⟩) n n))) := hide (nl_in (by omega) (HG1.out.far (by simp; omega) _))
    have HBY : Hid (Below w.heap.size w (World.setCell (X1) ⟨S, 3, none⟩ (.slice (some ⟨X0.heap.size, 0, none⟩) n n))) := hide (HB1.out.setCell (by have := HS.out; simp; omega) _)
    have p1 := HP1.out.cell 3
    have q1 := HP1.out.frozen 3
    have l1 := HP1.out.lt
    have HR : Hid (Calls Tryd.prog 10 #[.agg #[.int .i64 0, .slice none 0 0, .slice none 0 0, .slice (some ⟨X0.heap.size, 0, none⟩) n n, .slice none 0 0, .int .i64 0, .int .i64 0]] (World.setCell (X1) ⟨S, 3, none⟩ (.slice (some ⟨X0.heap.size, 0, none⟩) n n)) fun e w' => ∃ (B : Option Addr) (cb m : Nat) (ev : Value), e = .returned (.tuple #[.slice B m cb, ev]) ∧ Hid (Below w.heap.size w w') ∧ Hid (Below (World.setCell (X1) ⟨S, 3, none⟩ (.slice (some ⟨X0.heap.size, 0, none⟩) n n)).heap.size (World.setCell (X1) ⟨S, 3, none⟩ (.slice (some ⟨X0.heap.size, 0, none⟩) n n)) w') ∧
      Hid (decide (8 < n) = false → ev = .nilIface ∧ Hid (Calls Tryd.prog 11 #[.slice B m cb] w' fun e2 w2 => ∃ q : Pn, e2 = .returned (.tuple #[.agg #[.int .i64 q.size, .slice q.V q.vs.length q.vc, .slice q.C q.cs.length q.cc, .slice q.L q.ls.length q.lc, .slice q.K q.is.length q.kc, .int .i64 q.inp, .int .i64 q.out], .nilIface]) ∧ Hid (Below w.heap.size w w2) ∧ Hid (Below (World.setCell (X1) ⟨S, 3, none⟩ (.slice (some ⟨X0.heap.size, 0, none⟩) n n)).heap.size (World.setCell (X1) ⟨S, 3, none⟩ (.slice (some ⟨X0.heap.size, 0, none⟩) n n)) w2) ∧
        Hid (∀ W, Below w2.heap.size w2 W → Calls Tryd.prog 14 #[.agg #[.int .i64 0, .slice none 0 0, .slice none 0 0, .slice (some ⟨X0.heap.size, 0, none⟩) n n, .slice none 0 0, .int .i64 0, .int .i64 0], .agg #[.int .i64 q.size, .slice q.V q.vs.length q.vc, .slice q.C q.cs.length q.cc, .slice q.L q.ls.length q.lc, .slice q.K q.is.length q.kc, .int .i64 q.inp, .int .i64 q.out]] W fun e3 w3 => e3 = .returned (.bool true) ∧ Below w.heap.size w w3))) ∧
      Hid (decide (8 < n) = true → m = 0 ∧ ∃ x, ev = errv x ∧ Hid (Calls Tryd.prog 17 #[errv x, .int .i64 104] w' fun e w'' => e = .returned (.bool true) ∧ Below w.heap.size w w''))) := hide (by
      have h := pl_rest es ah am ar ae ak HES.out HZ.out HBY.out HIN.out 3 (decide (8 < n)) (nl_fault n _) (nl_len n _ (by omega)) 104 rfl
      rw [show (Pn.nl n (some ⟨X0.heap.size, 0, none⟩)).ls.length = n from List.length_replicate] at h
      exact h)
    have y0 := HY.out.cell 0
    have y1 := HY.out.cell 1
    have y2 := HY.out.cell 2
    have y3 := HY.out.cell 3
    have y4 := HY.out.cell 4
    have y5 := HY.out.cell 5
    have y6 := HY.out.cell 6
    simp only [List.getElem?_cons_zero, List.getElem?_cons_succ] at p1 y0 y1 y2 y3 y4 y5 y6
    clear HIN HBY HP1 HG1 HB1 hX1 hmk0 hZ hs1 hs0
    go_wp2_with fail
    refine HR.out.mono ?_
    clear p1 q1 l1 y0 y1 y2 y3 y4 y5 y6 hmk HR
    rintro e w3 ⟨B, cb, m, ev, rfl, hb3, hb4, hyes, hno⟩
    rcases Nat.lt_or_ge 8 n with hr | hr
    · obtain ⟨rfl, x, rfl, HIS⟩ := hno.out (decide_eq_true hr)
      have hr2 : (8 : Int) < (n : Int) := by omega
      clear hyes hno HY hr
      go_wp2_with fail
      refine HIS.out.mono ?_
      rintro e w5 ⟨rfl, hb5⟩
      have HB5 := hide hb5
      clear hb5 HIS
      go_wp2_with fail
      go_ret
      exact ⟨rfl, HB5.out⟩
    · obtain ⟨rfl, HRD⟩ := hyes.out (decide_eq_false (by omega))
      have hr2 : ¬ (8 : Int) < (n : Int) := by omega
      clear hyes hno hr
      go_wp2_with fail
      refine HRD.out.mono ?_
      rintro e w4 ⟨q, rfl, hb5, hb6, HSM⟩
      have hb7 := (Below.refl w4.heap.size w4).alloc (Nat.le_refl _) (.cells #[.int .i64 q.size, .slice q.V q.vs.length q.vc, .slice q.C q.cs.length q.cc, .slice q.L q.ls.length q.lc, .slice q.K q.is.length q.kc, .int .i64 q.inp, .int .i64 q.out] 27)
      have HS4 := hide (HSM.out _ hb7)
      have h5 := (HY.out.below hb6.out HY.out.lt).alloc (.cells #[.int .i64 q.size, .slice q.V q.vs.length q.vc, .slice q.C q.cs.length q.cc, .slice q.L q.ls.length q.lc, .slice q.K q.is.length q.kc, .int .i64 q.inp, .int .i64 q.out] 27)
      have z0 := h5.cell 0
      have z1 := h5.cell 1
      have z2 := h5.cell 2
      have z3 := h5.cell 3
      have z4 := h5.cell 4
      have z5 := h5.cell 5
      have z6 := h5.cell 6
      simp only [List.getElem?_cons_zero, List.getElem?_cons_succ] at z0 z1 z2 z3 z4 z5 z6
      clear hb7 h5 hb6 HSM HRD HY
      go_wp2_with fail
      refine HS4.out.mono ?_
      rintro e w5 ⟨rfl, hb8⟩
      have HB5 := hide hb8
      clear hb8 HS4
      go_wp2_with fail
      go_ret
      exact ⟨rfl, HB5.out⟩
end Go.Proofs.YthjnkaikjjjceaaDoor
