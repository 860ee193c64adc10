/-
  Products and turned ones that are lawful; the examples of package lodgelaw8. By an AI agent. No person has read it.
-/
import Derived.Test.YtkehdgjdieemkaaDoorMatG
import Derived.Test.YtkehdgjdieemkaaDoorCelI
namespace Go.Proofs.YtkehdgjdieemkaaDoor
open Go.RowKit

/-- A tensor of M rows and N columns. -/
structure Mat.Is (t : Ten) (M N : Nat) (u : Bool) : Prop where
  zs : t.zs = [(M : Int), (N : Int)]
  hu : t.u = u
  len : t.ds.length = M * N
  ft : ∀ z ∈ t.ds, Tens.fit u z = true
theorem Mat.Is.fault {t : Ten} {M N : Nat} {u : Bool} (h : Mat.Is t M N u) (h1 : 1 ≤ M) (h2 : M ≤ 100) (h3 : 1 ≤ N) (h4 : N ≤ 100) : t.fault = (0, none) := by
  have hmn : M * N ≤ 100 * 100 := Nat.mul_le_mul h2 h4
  obtain ⟨e1, e2⟩ := Mat.prod_two M N h1 (by omega) h3 (by omega) (by omega)
  show Tens.fault t.zs t.u t.ds = (0, none)
  rw [h.zs, h.hu]
  exact Tens.fault_none _ _ _ e1 (by rw [e2, h.len]) (fun j y hy => h.ft y (List.mem_of_getElem? hy))
theorem Mat.Is.small {t : Ten} {M N : Nat} (h : Mat.Is t M N false) : Mat.small t.ds := fun z hz => fit_narrow rfl (h.ft z hz)
theorem Mat.prod_ok {a b : Ten} {M K N : Nat} {za zb : Int} (ha : Mat.Is a M K false) (hb : Mat.Is b K N false) (h1 : 1 ≤ M ∧ M ≤ 100) (h2 : 1 ≤ K ∧ K ≤ 100) (h3 : 1 ≤ N ∧ N ≤ 100) (hza : -128 ≤ za ∧ za ≤ 127) (hzb : -128 ≤ zb ∧ zb ≤ 127) :
    Cel.fault [a, b] (Mat.code za zb a.look b.look) = (0, none) ∧ Mat.shape za zb a.look b.look = [(M : Int), (N : Int)] ∧ Mat.kind za zb a.look b.look = true ∧ Mat.ds za zb a b = Mat.part a.ds b.ds za zb K N 0 (M * N) := by
  have hmn : M * N ≤ 100 * 100 := Nat.mul_le_mul h1.2 h3.2
  have hmk : M * K ≤ 100 * 100 := Nat.mul_le_mul h1.2 h2.2
  have hkn : K * N ≤ 100 * 100 := Nat.mul_le_mul h2.2 h3.2
  have fa := ha.fault h1.1 h1.2 h2.1 h2.2
  have fb := hb.fault h2.1 h2.2 h3.1 h3.2
  have ca := (Mat.prod_two M K h1.1 (by omega) h2.1 (by omega) (by omega)).1
  have cb := (Mat.prod_two K N h2.1 (by omega) h3.1 (by omega) (by omega)).1
  have cc := (Mat.prod_two M N h1.1 (by omega) h3.1 (by omega) (by omega)).1
  have ea : a.look.zs = [(M : Int), (K : Int)] := ha.zs
  have eb : b.look.zs = [(K : Int), (N : Int)] := hb.zs
  have ua : a.look.u = false := ha.hu
  have ub : b.look.u = false := hb.hu
  have hfb : Shp.firstbad [a.look, b.look] = 0 := by
    unfold Shp.firstbad
    rw [if_pos (by rw [ea]; exact ca)]
    unfold Shp.firstbad
    rw [if_pos (by rw [eb]; exact cb)]
    rfl
  have n1 : Tens.narrow za = za := by unfold Tens.narrow; omega
  have n2 : Tens.narrow zb = zb := by unfold Tens.narrow; omega
  have hc : Mat.code za zb a.look b.look = 0 := by
    unfold Mat.code
    rw [if_neg (by rw [hfb]; simp), if_neg (by rw [ea, eb, ua, ub]; simp), if_neg (by rw [n1, n2]; simp), ea, eb]
    exact cc
  refine ⟨?_, ?_, ?_, ?_⟩
  · rw [Cel.fault_code (Tens.first_none _ (fun j t ht => by
      match j, ht with
      | 0, ht => cases ht; exact fa
      | 1, ht => cases ht; exact fb)), hc]
  · unfold Mat.shape
    rw [if_pos hc, ea, eb]
    rfl
  · unfold Mat.kind
    exact decide_eq_true hc
  · unfold Mat.ds
    rw [ha.zs, hb.zs]
    rfl
theorem Mat.part_is (t : Ten) {M N K : Nat} {xs ys : List Int} {za zb : Int} (h1 : t.zs = [(M : Int), (N : Int)]) (h2 : t.u = true) (h3 : t.ds = Mat.part xs ys za zb K N 0 (M * N)) : Mat.Is t M N true := by
  refine ⟨h1, h2, by rw [h3, Mat.part_length], fun z hz => ?_⟩
  rw [h3] at hz
  unfold Mat.part at hz
  obtain ⟨i, -, rfl⟩ := List.mem_map.1 hz
  unfold Tens.fit
  rw [if_pos rfl]
  exact decide_eq_true (by unfold Tens.wide; omega)
theorem Mat.turn_is (t : Ten) {M N : Nat} {a : Ten} {u : Bool} (ha : Mat.Is a M N u) (h1 : t.zs = [(N : Int), (M : Int)]) (h2 : t.u = u) (h3 : t.ds = Mat.turn a.ds M N 0 (N * M)) : Mat.Is t N M u := by
  refine ⟨h1, h2, by rw [h3, Mat.turn_length], fun z hz => ?_⟩
  rw [h3] at hz
  unfold Mat.turn at hz
  obtain ⟨i, -, rfl⟩ := List.mem_map.1 hz
  rw [List.getD_eq_getElem?_getD]
  cases e : a.ds[(0 + i) % M * N + (0 + i) / M]? with
  | none =>
    unfold Tens.fit
    cases u <;> decide
  | some q => exact ha.ft q (List.mem_of_getElem? e)
/-- mat.Mul of lawful ones. -/
theorem mul_good {a b : Ten} {M K N : Nat} {za zb : Int} (ha : Mat.Is a M K false) (hb : Mat.Is b K N false) (h1 : 1 ≤ M ∧ M ≤ 100) (h2 : 1 ≤ K ∧ K ≤ 100) (h3 : 1 ≤ N ∧ N ≤ 100) (hza : -128 ≤ za ∧ za ≤ 127) (hzb : -128 ≤ zb ∧ zb ≤ 127) (ah am ar : Addr) (w : World) (ia : a.In w) (ib : b.In w) (hE : E3 w ah am ar) :
    Calls Tryd.prog 15 #[.agg (tcells a.P a.zs.length a.cap a.u a.D a.ds.length a.dcap), .agg (tcells b.P b.zs.length b.cap b.u b.D b.ds.length b.dcap), .int .i64 za, .int .i64 zb] w fun e w' =>
      (∃ t : Ten, e = .returned (.tuple #[.agg (tcells t.P t.zs.length t.cap t.u t.D t.ds.length t.dcap), .nilIface]) ∧ t.In w' ∧ Mat.Is t M N true ∧ t.ds = Mat.part a.ds b.ds za zb K N 0 (M * N) ∧ OwnData w' t) ∧ Below w.heap.size w w' := by
  obtain ⟨e1, e2, e3, e4⟩ := Mat.prod_ok ha hb h1 h2 h3 hza hzb
  refine (mul_c a b za zb ah am ar w ia ib (fun q hq => by
    simp at hq
    rcases hq with rfl | rfl
    · exact wf_i64 _ (by omega)
    · exact wf_i64 _ (by omega)) hE).mono ?_
  rintro e w' ⟨⟨t, x, rfl, hIn, -, hz, hu, hd, hx, ho⟩, hB⟩
  rw [if_pos e1, e2] at hz
  rw [if_pos e1, e3] at hu
  rw [if_pos e1, e4] at hd
  rw [e1] at hx
  obtain rfl : x = .nilIface := hx
  exact ⟨⟨t, rfl, hIn, Mat.part_is t hz hu hd, hd, ho e1⟩, hB⟩
/-- mat.Turn of a lawful one. -/
theorem turn_good {a : Ten} {M N : Nat} {u : Bool} (ha : Mat.Is a M N u) (h1 : 1 ≤ M ∧ M ≤ 100) (h2 : 1 ≤ N ∧ N ≤ 100) (ah am ar : Addr) (w : World) (ia : a.In w) (hE : E3 w ah am ar) :
    Calls Tryd.prog 19 #[.agg (tcells a.P a.zs.length a.cap a.u a.D a.ds.length a.dcap)] w fun e w' =>
      (∃ t : Ten, e = .returned (.tuple #[.agg (tcells t.P t.zs.length t.cap t.u t.D t.ds.length t.dcap), .nilIface]) ∧ t.In w' ∧ Mat.Is t N M u ∧ t.ds = Mat.turn a.ds M N 0 (N * M)) ∧ Below w.heap.size w w' := by
  have fa := ha.fault h1.1 h1.2 h2.1 h2.2
  have hmn : M * N ≤ 100 * 100 := Nat.mul_le_mul h1.2 h2.2
  have hc := (Mat.prod_two M N h1.1 (by omega) h2.1 (by omega) (by omega)).1
  have hk : Mat.tcode a.look = 0 := by
    unfold Mat.tcode
    have e : a.look.zs = [(M : Int), (N : Int)] := ha.zs
    rw [e, if_neg (by rw [hc]; simp), if_neg (by simp)]
  have e1 : Cel.fault [a] (Mat.tcode a.look) = (0, none) := by rw [Cel.one_good (show Tens.fault a.zs a.u a.ds = (0, none) from fa), hk]
  refine (mturn_c a ah am ar w ia hE).mono ?_
  rintro e w' ⟨⟨t, x, rfl, hIn, -, hz, hu, hd, hx, -⟩, hB⟩
  rw [if_pos e1] at hz hu hd
  rw [e1] at hx
  obtain rfl : x = .nilIface := hx
  have hz' : t.zs = [(N : Int), (M : Int)] := by
    rw [hz]
    unfold Mat.tzs
    rw [ha.zs]
    rfl
  have hd' : t.ds = Mat.turn a.ds M N 0 (N * M) := by
    rw [hd]
    unfold Mat.tds
    rw [ha.zs]
    rfl
  exact ⟨⟨t, rfl, hIn, Mat.turn_is t ha hz' (hu.trans ha.hu) hd', hd'⟩, hB⟩
theorem same_good (s t : Ten) (w : World) (hs : s.In w) (ht : t.In w) (h1 : s.zs = t.zs) (h2 : s.u = t.u) (h3 : s.ds = t.ds) :
    Calls Tryd.prog 29 #[.agg (tcells s.P s.zs.length s.cap s.u s.D s.ds.length s.dcap), .agg (tcells t.P t.zs.length t.cap t.u t.D t.ds.length t.dcap)] w fun e w' => e = .returned (.bool true) ∧ Below w.heap.size w w' := by
  refine (tsame_c s.zs t.zs s.ds t.ds s.P t.P s.D t.D s.cap t.cap s.dcap t.dcap s.u t.u w hs.shp ht.shp hs.dat ht.dat hs.ls ht.ls hs.ld ht.ld).mono fun e w' h => ?_
  rw [decide_eq_true h1, decide_eq_true h3, h2] at h
  simpa using h
/-- What matrix gives, as a tensor. -/
theorem matrix_good (M N : Nat) (l : List Int) (A : Option Addr) (cap : Nat) (w : World) (hM : M ≤ 20) (hN : N ≤ 20) (hr : Ri w A l) :
    Calls Tryd.prog 26 #[.int .i64 M, .int .i64 N, .slice A l.length cap] w fun e w' =>
      (∃ t : Ten, e = .returned (.agg (tcells t.P t.zs.length t.cap t.u t.D t.ds.length t.dcap)) ∧ t.In w' ∧ Mat.Is t M N false) ∧ Below w.heap.size w w' := by
  refine (matrix_c M N l A cap w hM hN hr).mono ?_
  rintro e w' ⟨⟨gs, g, ds, rfl, -, -, -, hS, hD, hL, hs, -⟩, hB⟩
  have hmn : M * N ≤ 20 * 20 := Nat.mul_le_mul hM hN
  refine ⟨⟨⟨some ⟨gs, 0, none⟩, [(M : Int), (N : Int)], 2, false, some ⟨g, 0, none⟩, ds, M * N⟩, ?_, ⟨hS.ri ?_, hD.ri ?_, by show 2 ≤ 1000000; omega, by show ds.length ≤ 1000000; omega⟩, ⟨rfl, rfl, hL, fun z hz => ?_⟩⟩, hB⟩
  · rw [hL]
    rfl
  · intro q hq
    simp at hq
    rcases hq with rfl | rfl
    · exact wf_i64 _ (by omega)
    · exact wf_i64 _ (by omega)
  · intro q hq
    exact wf_i64 _ (by have := hs q hq; omega)
  · unfold Tens.fit
    rw [if_neg (by decide)]
    exact decide_eq_true (hs z hz)
set_option maxRecDepth 100000 in
set_option maxHeartbeats 4000000 in
theorem first8_c (ah am ar : Addr) (w : World) (hE : E3 w ah am ar) :
    Calls Tryd.prog 13 #[] w fun e w' => e = .returned (.bool true) ∧ Below w.heap.size w w' := by
  obtain ⟨W1, hW1⟩ : ∃ W, W = ((w.alloc (.cells #[.int .i64 1, .int .i64 2] 3)).alloc (.cells #[.int .i64 1, .int .i64 2] 3)).alloc (.cells #[.slice (some ⟨w.heap.size, 0, none⟩) 2 2, .bool false, .slice (some ⟨w.heap.size + 1, 0, none⟩) 2 2] 26) := ⟨_, rfl⟩
  have hB1 : Below w.heap.size w W1 := by rw [hW1]; exact (((Below.refl _ _).alloc (Nat.le_refl _) _).alloc (by simp) _).alloc (by simp; omega) _
  have s1 : Has W1 w.heap.size 3 (i64s [1, 2]) := by rw [hW1]; exact ((Has.new w 3 [.int .i64 1, .int .i64 2]).alloc _).alloc _
  have d1 : Has W1 (w.heap.size + 1) 3 (i64s [1, 2]) := by rw [hW1]; exact (box_at _ 3 [.int .i64 1, .int .i64 2] _ (by simp)).alloc _
  have x1 : Has W1 (w.heap.size + 1 + 1) 26 [.slice (some ⟨w.heap.size, 0, none⟩) 2 2, .bool false, .slice (some ⟨w.heap.size + 1, 0, none⟩) 2 2] := by rw [hW1]; exact box_at _ _ _ _ (by simp)
  have z1 : W1.heap.size = w.heap.size + 1 + 1 + 1 := by rw [hW1]; simp
  obtain ⟨W2, hW2⟩ : ∃ W, W = ((W1.alloc (.cells #[.int .i64 2, .int .i64 1] 3)).alloc (.cells #[.int .i64 3, .int .i64 4] 3)).alloc (.cells #[.slice (some ⟨w.heap.size + 1 + 1 + 1, 0, none⟩) 2 2, .bool false, .slice (some ⟨w.heap.size + 1 + 1 + 1 + 1, 0, none⟩) 2 2] 26) := ⟨_, rfl⟩
  have hb2 : Below W1.heap.size W1 W2 := by rw [hW2]; exact (((Below.refl _ _).alloc (Nat.le_refl _) _).alloc (by simp) _).alloc (by simp; omega) _
  have s2 : Has W2 (w.heap.size + 1 + 1 + 1) 3 (i64s [2, 1]) := by rw [hW2, ← z1]; exact ((Has.new W1 3 [.int .i64 2, .int .i64 1]).alloc _).alloc _
  have d2 : Has W2 (w.heap.size + 1 + 1 + 1 + 1) 3 (i64s [3, 4]) := by rw [hW2]; exact (box_at _ 3 [.int .i64 3, .int .i64 4] _ (by simp [z1])).alloc _
  have x2 : Has W2 (w.heap.size + 1 + 1 + 1 + 1 + 1) 26 [.slice (some ⟨w.heap.size + 1 + 1 + 1, 0, none⟩) 2 2, .bool false, .slice (some ⟨w.heap.size + 1 + 1 + 1 + 1, 0, none⟩) 2 2] := by rw [hW2]; exact box_at _ _ _ _ (by simp [z1])
  have x12 := x1.below hb2 x1.lt
  have hB2 := hB1.trans (hb2.mono hB1.size)
  have HM := hide (mul_good (a := ⟨some ⟨w.heap.size, 0, none⟩, [1, 2], 2, false, some ⟨w.heap.size + 1, 0, none⟩, [1, 2], 2⟩) (b := ⟨some ⟨w.heap.size + 1 + 1 + 1, 0, none⟩, [2, 1], 2, false, some ⟨w.heap.size + 1 + 1 + 1 + 1, 0, none⟩, [3, 4], 2⟩) (M := 1) (K := 2) (N := 1) (za := 0) (zb := 0)
    ⟨rfl, rfl, rfl, fun z hz => by simp at hz; rcases hz with rfl | rfl <;> decide⟩ ⟨rfl, rfl, rfl, fun z hz => by simp at hz; rcases hz with rfl | rfl <;> decide⟩ (by decide) (by decide) (by decide) (by decide) (by decide) ah am ar W2
    ⟨(s1.ri (by decide)).below hb2, (d1.ri (by decide)).below hb2, by simp, by simp⟩ ⟨s2.ri (by decide), d2.ri (by decide), by simp, by simp⟩ (hE.below hB2))
  have HB := hide hB2
  have HW1 := hide hW1
  have HW2 := hide hW2
  have hz1 : W1.heap.size = w.heap.size + 1 + 1 + 1 := z1
  have a0 := x12.cell 0
  have a1 := x12.cell 1
  have a2 := x12.cell 2
  have b0 := x2.cell 0
  have b1 := x2.cell 1
  have b2 := x2.cell 2
  clear hE hW1 hB1 s1 d1 x1 z1 hW2 hb2 s2 d2 x2 x12 hB2
  go_enter Tryd.func13, Tryd.ntmps13
  go_wp2_with fail
  rw [← HW1.out, ← HW2.out]
  refine HM.out.mono ?_
  rintro e w2 ⟨⟨t, rfl, hIn, hT, hd, -⟩, hb⟩
  have hds : t.ds = [11] := by rw [hd]; rfl
  have hB3 := HB.out.trans (hb.mono HB.out.size)
  have hD := hIn.dat
  rw [hds] at hD
  have hB4 := hB3.alloc hB3.size (.cells #[.slice t.P t.zs.length t.cap, .bool t.u, .slice t.D 1 t.dcap] 26)
  have hB5 := hB4.alloc hB4.size (.cells #[.int .i64 11] 3)
  have hD5 := (hD.below ((Below.refl _ w2).alloc (Nat.le_refl _) (.cells #[.slice t.P t.zs.length t.cap, .bool t.u, .slice t.D 1 t.dcap] 26))).below ((Below.refl _ _).alloc (Nat.le_refl _) (.cells #[.int .i64 11] 3))
  have HS := hide (sameints_c [11] [11] t.D (some ⟨w2.heap.size + 1, 0, none⟩) t.dcap 1 _ hD5 (by
    have h := new_ri (w2.alloc (.cells #[.slice t.P t.zs.length t.cap, .bool t.u, .slice t.D 1 t.dcap] 26)) 3 [11] (by decide)
    simpa using h) (by decide) (by decide))
  rw [decide_eq_true (rfl : ([11] : List Int) = [11])] at HS
  have HB5 := hide hB5
  rw [hds]
  clear hIn hT hd hds hb hB3 hD hB4 hB5 hD5 HM HB HW1 HW2 a0 a1 a2 b0 b1 b2
  go_wp2_with fail
  refine HS.out.mono ?_
  rintro e w3 ⟨rfl, hb⟩
  have HF := hide (HB5.out.trans (hb.mono HB5.out.size))
  clear hb HS HB5
  go_wp2_with fail
  go_ret
  exact ⟨rfl, HF.out⟩
end Go.Proofs.YtkehdgjdieemkaaDoor
