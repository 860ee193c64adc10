/-
  Convolutions that are lawful; the examples of package lodgelaw9; conv.Inside. By an AI agent. No person has read it.
-/
import Derived.Test.YtkehdgjdieemkaaDoorCnvE
import Derived.Test.YtkehdgjdieemkaaDoorCelI
namespace Go.Proofs.YtkehdgjdieemkaaDoor
open Go.RowKit

theorem cv_good (qs : List Int) (A : Option Addr) (qcap : Nat) (a b : Ten) (ah am ar : Addr) (w : World) (hf : Cel.fault [a, b] (Cv.code qs a.look b.look) = (0, none)) (hq : Ri w A qs) (hql : qs.length ≤ 1000000) (ha : a.In w) (hb : b.In w) (hE : E3 w ah am ar) :
    Calls Tryd.prog 32 #[.agg (tcells a.P a.zs.length a.cap a.u a.D a.ds.length a.dcap), .agg (tcells b.P b.zs.length b.cap b.u b.D b.ds.length b.dcap), .slice A qs.length qcap] w fun e w' =>
      (∃ t : Ten, e = .returned (.tuple #[.agg (tcells t.P t.zs.length t.cap t.u t.D t.ds.length t.dcap), .nilIface]) ∧ t.In w' ∧ t.zs = Cv.shape qs a.look b.look ∧ t.u = true ∧ t.ds = Cv.ds qs a b ∧ OwnData w' t) ∧ Below w.heap.size w w' := by
  obtain ⟨c, hc⟩ := Cv.fine hf
  refine (cvdo_c qs A qcap a b ah am ar w hq hql ha hb hE).mono ?_
  rintro e w' ⟨⟨t, x, rfl, hIn, -, hz, hu, hd, hx, ho⟩, hB⟩
  rw [if_pos hf] at hz
  rw [if_pos hf, hc.kd] at hu
  rw [if_pos hf] at hd
  rw [hf] at hx
  obtain rfl : x = .nilIface := hx
  exact ⟨⟨t, rfl, hIn, hz, hu, hd, ho hf⟩, hB⟩
theorem cv_first (P Q D E : Option Addr) : Cv.ds [1, 0, 0] ⟨P, [1, 3, 1], 3, false, D, [1, 2, 1], 3⟩ ⟨Q, [1, 1, 1, 1], 4, false, E, [3], 1⟩ = [3, 6, 3] := by kernel_rfl
set_option maxRecDepth 100000 in
set_option maxHeartbeats 4000000 in
theorem first9_c (ah am ar : Addr) (w : World) (hE : E3 w ah am ar) :
    Calls Tryd.prog 31 #[] w fun e w' => e = .returned (.bool true) ∧ Below w.heap.size w w' := by
  obtain ⟨W1, hW1⟩ : ∃ W, W = ((w.alloc (.cells #[.int .i64 1, .int .i64 3, .int .i64 1] 3)).alloc (.cells #[.int .i64 1, .int .i64 2, .int .i64 1] 3)).alloc (.cells #[.slice (some ⟨w.heap.size, 0, none⟩) 3 3, .bool false, .slice (some ⟨w.heap.size + 1, 0, none⟩) 3 3] 26) := ⟨_, rfl⟩
  have hB1 : Below w.heap.size w W1 := by rw [hW1]; exact (((Below.refl _ _).alloc (Nat.le_refl _) _).alloc (by simp) _).alloc (by simp; omega) _
  have s1 : Has W1 w.heap.size 3 (i64s [1, 3, 1]) := by rw [hW1]; exact ((Has.new w 3 [.int .i64 1, .int .i64 3, .int .i64 1]).alloc _).alloc _
  have d1 : Has W1 (w.heap.size + 1) 3 (i64s [1, 2, 1]) := by rw [hW1]; exact (box_at _ 3 [.int .i64 1, .int .i64 2, .int .i64 1] _ (by simp)).alloc _
  have x1 : Has W1 (w.heap.size + 1 + 1) 26 [.slice (some ⟨w.heap.size, 0, none⟩) 3 3, .bool false, .slice (some ⟨w.heap.size + 1, 0, none⟩) 3 3] := by rw [hW1]; exact box_at _ _ _ _ (by simp)
  have z1 : W1.heap.size = w.heap.size + 1 + 1 + 1 := by rw [hW1]; simp
  obtain ⟨W2, hW2⟩ : ∃ W, W = ((W1.alloc (.cells #[.int .i64 1, .int .i64 1, .int .i64 1, .int .i64 1] 3)).alloc (.cells #[.int .i64 3] 3)).alloc (.cells #[.slice (some ⟨w.heap.size + 1 + 1 + 1, 0, none⟩) 4 4, .bool false, .slice (some ⟨w.heap.size + 1 + 1 + 1 + 1, 0, none⟩) 1 1] 26) := ⟨_, rfl⟩
  have hb2 : Below W1.heap.size W1 W2 := by rw [hW2]; exact (((Below.refl _ _).alloc (Nat.le_refl _) _).alloc (by simp) _).alloc (by simp; omega) _
  have s2 : Has W2 (w.heap.size + 1 + 1 + 1) 3 (i64s [1, 1, 1, 1]) := by rw [hW2, ← z1]; exact ((Has.new W1 3 [.int .i64 1, .int .i64 1, .int .i64 1, .int .i64 1]).alloc _).alloc _
  have d2 : Has W2 (w.heap.size + 1 + 1 + 1 + 1) 3 (i64s [3]) := by rw [hW2]; exact (box_at _ 3 [.int .i64 3] _ (by simp [z1])).alloc _
  have x2 : Has W2 (w.heap.size + 1 + 1 + 1 + 1 + 1) 26 [.slice (some ⟨w.heap.size + 1 + 1 + 1, 0, none⟩) 4 4, .bool false, .slice (some ⟨w.heap.size + 1 + 1 + 1 + 1, 0, none⟩) 1 1] := by rw [hW2]; exact box_at _ _ _ _ (by simp [z1])
  have z2 : W2.heap.size = w.heap.size + 1 + 1 + 1 + 1 + 1 + 1 := by rw [hW2]; simp [z1]
  have x12 := x1.below hb2 x1.lt
  have hB2 := hB1.trans (hb2.mono hB1.size)
  obtain ⟨W3, hW3⟩ : ∃ W, W = W2.alloc (.cells #[.int .i64 1, .int .i64 0, .int .i64 0] 3) := ⟨_, rfl⟩
  have hb3 : Below W2.heap.size W2 W3 := by rw [hW3]; exact (Below.refl _ _).alloc (Nat.le_refl _) _
  have hB3 := hB2.trans (hb3.mono hB2.size)
  have q3 : Has W3 (w.heap.size + 1 + 1 + 1 + 1 + 1 + 1) 3 (i64s [1, 0, 0]) := by rw [hW3, ← z2]; exact Has.new W2 3 [.int .i64 1, .int .i64 0, .int .i64 0]
  have HM := hide (cv_good [1, 0, 0] (some ⟨w.heap.size + 1 + 1 + 1 + 1 + 1 + 1, 0, none⟩) 3 ⟨some ⟨w.heap.size, 0, none⟩, [1, 3, 1], 3, false, some ⟨w.heap.size + 1, 0, none⟩, [1, 2, 1], 3⟩ ⟨some ⟨w.heap.size + 1 + 1 + 1, 0, none⟩, [1, 1, 1, 1], 4, false, some ⟨w.heap.size + 1 + 1 + 1 + 1, 0, none⟩, [3], 1⟩ ah am ar W3 (by rfl) (q3.ri (by decide)) (by simp)
    ⟨((s1.ri (by decide)).below hb2).below hb3, ((d1.ri (by decide)).below hb2).below hb3, by simp, by simp⟩ ⟨(s2.ri (by decide)).below hb3, (d2.ri (by decide)).below hb3, by simp, by simp⟩ (hE.below hB3))
  have HB := hide hB3
  have HW1 := hide hW1
  have HW2 := hide hW2
  have HW3 := hide hW3
  have hz1 : W1.heap.size = w.heap.size + 1 + 1 + 1 := z1
  have hz2 : W2.heap.size = w.heap.size + 1 + 1 + 1 + 1 + 1 + 1 := z2
  have a0 := x12.cell 0
  have a1 := x12.cell 1
  have a2 := x12.cell 2
  have b0 := x2.cell 0
  have b1 := x2.cell 1
  have b2 := x2.cell 2
  clear hE hW1 hB1 s1 d1 x1 z1 hW2 hb2 s2 d2 x2 z2 x12 hB2 hW3 hb3 hB3 q3
  go_enter Tryd.func31, Tryd.ntmps31
  go_wp2_with fail
  rw [← HW1.out, ← HW2.out, ← HW3.out]
  refine HM.out.mono ?_
  rintro e w2 ⟨⟨t, rfl, hIn, -, -, hd, -⟩, hb⟩
  have hds : t.ds = [3, 6, 3] := by rw [hd]; exact cv_first _ _ _ _
  have hB3 := HB.out.trans (hb.mono HB.out.size)
  have hD := hIn.dat
  rw [hds] at hD
  have hB4 := hB3.alloc hB3.size (.cells #[.slice t.P t.zs.length t.cap, .bool t.u, .slice t.D 3 t.dcap] 26)
  have hB5 := hB4.alloc hB4.size (.cells #[.int .i64 3, .int .i64 6, .int .i64 3] 3)
  have hD5 := (hD.below ((Below.refl _ w2).alloc (Nat.le_refl _) (.cells #[.slice t.P t.zs.length t.cap, .bool t.u, .slice t.D 3 t.dcap] 26))).below ((Below.refl _ _).alloc (Nat.le_refl _) (.cells #[.int .i64 3, .int .i64 6, .int .i64 3] 3))
  have HS := hide (sameints_c [3, 6, 3] [3, 6, 3] t.D (some ⟨w2.heap.size + 1, 0, none⟩) t.dcap 3 _ hD5 (by
    have h := new_ri (w2.alloc (.cells #[.slice t.P t.zs.length t.cap, .bool t.u, .slice t.D 3 t.dcap] 26)) 3 [3, 6, 3] (by decide)
    simpa using h) (by decide) (by decide))
  rw [decide_eq_true (rfl : ([3, 6, 3] : List Int) = [3, 6, 3])] at HS
  have HB5 := hide hB5
  rw [hds]
  clear hIn hd hds hb hB3 hD hB4 hB5 hD5 HM HB HW1 HW2 HW3 a0 a1 a2 b0 b1 b2
  go_wp2_with fail
  refine HS.out.mono ?_
  rintro e w3 ⟨rfl, hb⟩
  have HF := hide (HB5.out.trans (hb.mono HB5.out.size))
  clear hb HS HB5
  go_wp2_with fail
  go_ret
  exact ⟨rfl, HF.out⟩
set_option maxRecDepth 100000 in
theorem cvinside_bad (n k s p o : Int) (w : World) (h : n < 1 ∨ k < 1 ∨ s < 1 ∨ p < 0 ∨ o < 0) :
    Calls Tryd.prog 38 #[.int .i64 n, .int .i64 k, .int .i64 s, .int .i64 p, .int .i64 o] w fun e w' => e = .returned (.tuple #[.int .i64 0, .int .i64 0]) ∧ w' = w := by
  have go : ∀ (G : Prop), G → G := fun _ h => h
  by_cases h1 : n < 1
  · clear h go
    go_enter Tryd.func38, Tryd.ntmps38
    go_wp2_with fail
    refine bodyPost_ret (results_two rfl _ _) rfl ?_
    exact ⟨rfl, rfl⟩
  by_cases h2 : k < 1
  · clear h go
    go_enter Tryd.func38, Tryd.ntmps38
    go_wp2_with fail
    refine bodyPost_ret (results_two rfl _ _) rfl ?_
    exact ⟨rfl, rfl⟩
  by_cases h3 : s < 1
  · clear h go
    go_enter Tryd.func38, Tryd.ntmps38
    go_wp2_with fail
    refine bodyPost_ret (results_two rfl _ _) rfl ?_
    exact ⟨rfl, rfl⟩
  by_cases h4 : p < 0
  · clear h go
    go_enter Tryd.func38, Tryd.ntmps38
    go_wp2_with fail
    refine bodyPost_ret (results_two rfl _ _) rfl ?_
    exact ⟨rfl, rfl⟩
  have h5 : o < 0 := by omega
  clear h go
  go_enter Tryd.func38, Tryd.ntmps38
  go_wp2_with fail
  refine bodyPost_ret (results_two rfl _ _) rfl ?_
  exact ⟨rfl, rfl⟩
theorem run_max_five (w : World) (ts : Array TypeId) (t : TypeId) (a b c d e : Int) : ∃ m, (Builtin.max_ ts t #[.int .i64 a, .int .i64 b, .int .i64 c, .int .i64 d, .int .i64 e]).run Tryd.prog w = .ok (.int .i64 m) w ∧ ∀ B, a ≤ B → b ≤ B → c ≤ B → d ≤ B → e ≤ B → m ≤ B := by
  have h : ∀ x y B : Int, x ≤ B → y ≤ B → (if y > x then y else x) ≤ B := fun x y B h1 h2 => by split <;> assumption
  refine ⟨if e > (if d > (if c > (if b > a then b else a) then c else (if b > a then b else a)) then d else (if c > (if b > a then b else a) then c else (if b > a then b else a))) then e else (if d > (if c > (if b > a then b else a) then c else (if b > a then b else a)) then d else (if c > (if b > a then b else a) then c else (if b > a then b else a))), by simp [Builtin.max_, Builtin.max2], fun B h1 h2 h3 h4 h5 => ?_⟩
  exact h _ _ B (h _ _ B (h _ _ B (h _ _ B h1 h2) h3) h4) h5
set_option maxRecDepth 100000 in
theorem cvinside_good (n k s p o : Int) (w : World) (h1 : 1 ≤ n ∧ n ≤ 40) (h2 : 1 ≤ k ∧ k ≤ 40) (h3 : 1 ≤ s ∧ s ≤ 40) (h4 : 0 ≤ p ∧ p ≤ 40) (h5 : 0 ≤ o ∧ o ≤ 40) :
    Calls Tryd.prog 38 #[.int .i64 n, .int .i64 k, .int .i64 s, .int .i64 p, .int .i64 o] w fun e w' => e = .returned (.tuple #[.int .i64 (Cv.ins n k s p o).1, .int .i64 (Cv.ins n k s p o).2]) ∧ w' = w := by
  have hos : 0 ≤ o * s ∧ o * s ≤ 1600 := by
    have e1 := Int.mul_nonneg h5.1 (show 0 ≤ s by omega)
    have e2 : o * s ≤ 40 * 40 := Int.mul_le_mul h5.2 h3.2 (by omega) (by omega)
    omega
  have HC := hide (fun W => inside_c n k s p o W (by omega) (by omega) (by omega))
  obtain ⟨m, hm, hmb⟩ := run_max_five w #[3, 3, 3, 3, 3] 3 n k s p o
  have hm40 := hmb 40 (by omega) (by omega) (by omega) (by omega) (by omega)
  clear hos hmb
  go_enter Tryd.func38, Tryd.ntmps38
  go_wp2_with fail
  refine (HC.out _).mono ?_
  rintro e w9 ⟨rfl, rfl⟩
  go_wp2_with fail
  refine bodyPost_ret (results_two rfl _ _) rfl ?_
  exact ⟨rfl, rfl⟩
end Go.Proofs.YtkehdgjdieemkaaDoor
