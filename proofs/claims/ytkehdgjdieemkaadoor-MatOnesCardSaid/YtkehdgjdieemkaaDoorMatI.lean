/-
  What laws about products use. By an AI agent. No person has read it.
-/
import Derived.Test.YtkehdgjdieemkaaDoorMatH
import Derived.Laws.CopyOwn
namespace Go.Proofs.YtkehdgjdieemkaaDoor
open Go.RowKit

theorem matrix_int (Mi Ni : Int) (M N : Nat) (h1 : Mi = M) (h2 : Ni = N) (l : List Int) (n : Nat) (hn : l.length = n) (A : Option Addr) (cap : Nat) (w : World) (hM : M ≤ 20) (hN : N ≤ 20) (hr : Ri w A l) :
    Calls Tryd.prog 26 #[.int .i64 Mi, .int .i64 Ni, .slice A n cap] w fun e w' =>
      (∃ t : Ten, e = .returned (.agg (tcells t.P t.zs.length t.cap t.u t.D t.ds.length t.dcap)) ∧ t.In w' ∧ Mat.Is t M N false) ∧ Below w.heap.size w w' := by
  subst h1
  subst h2
  subst hn
  exact matrix_good M N l A cap w hM hN hr
/-- Number's value, named. -/
theorem number_n (x : Int) (m : Nat) (h0 : 0 < m) (hm : m ≤ 4611686018427387904) (M : Int) (hM : M = (m : Int)) : ∃ k : Int, 0 ≤ k ∧ k < m ∧ Hid (∀ w, Calls Tryd.prog 27 #[.int .i64 x, .int .i64 M] w fun e w' => e = .returned (.int .i64 k) ∧ w' = w) :=
  ⟨x % M, by rw [hM]; exact Int.emod_nonneg _ (by omega), by rw [hM]; exact Int.emod_lt_of_pos _ (by omega), hide fun w => number_e x m h0 hm M hM w⟩
/-- matrix, with its blocks. -/
theorem matrix_own (Mi Ni : Int) (M N T : Nat) (h1 : Mi = M) (h2 : Ni = N) (hT : M * N = T) (l : List Int) (n : Nat) (hn : l.length = n) (A : Option Addr) (cap : Nat) (w : World) (hM : M ≤ 20) (hN : N ≤ 20) (hr : Ri w A l) :
    Calls Tryd.prog 26 #[.int .i64 Mi, .int .i64 Ni, .slice A n cap] w fun e w' =>
      (∃ (gs g : Nat) (ds : List Int), e = .returned (.agg (tcells (some ⟨gs, 0, none⟩) 2 2 false (some ⟨g, 0, none⟩) T T)) ∧ w.heap.size < gs ∧ w.heap.size < g ∧ gs ≠ g ∧ Has w' gs 3 (i64s [(M : Int), (N : Int)]) ∧ Has w' g 3 (i64s ds) ∧ ds.length = T ∧ Mat.small ds ∧ MatZ n ds T) ∧ Below w.heap.size w w' := by
  subst h1
  subst h2
  subst hT
  subst hn
  exact matrix_c M N l A cap w hM hN hr
theorem Mat.lit {w : World} {gs g T M N : Nat} {ds : List Int} (hS : Has w gs 3 (i64s [(M : Int), (N : Int)])) (hD : Has w g 3 (i64s ds)) (hL : ds.length = T) (hT : M * N = T) (hs : Mat.small ds) (h1 : M ≤ 100) (h2 : N ≤ 100) :
    Ten.In w ⟨some ⟨gs, 0, none⟩, [(M : Int), (N : Int)], 2, false, some ⟨g, 0, none⟩, ds, T⟩ ∧ Mat.Is ⟨some ⟨gs, 0, none⟩, [(M : Int), (N : Int)], 2, false, some ⟨g, 0, none⟩, ds, T⟩ M N false := by
  have hmn : M * N ≤ 100 * 100 := Nat.mul_le_mul h1 h2
  refine ⟨⟨hS.ri ?_, hD.ri ?_, by show 2 ≤ 1000000; omega, by show ds.length ≤ 1000000; omega⟩, ⟨rfl, rfl, by show ds.length = _; omega, fun z hz => ?_⟩⟩
  · intro q hq
    simp at hq
    rcases hq with rfl | rfl
    · exact wf_i64 _ (by omega)
    · exact wf_i64 _ (by omega)
  · intro q hq
    exact wf_i64 _ (by have := hs q hq; omega)
  · unfold Tens.fit
    rw [if_neg (by decide)]
    exact decide_eq_true (hs z hz)
/-- mat.Mul of one that lies in blocks known. -/
theorem mul_own (X : Nat) {gs g T M K N : Nat} {ds : List Int} {b : Ten} {za zb : Int} (ah am ar : Addr) (w : World) (hS : Has w gs 3 (i64s [(M : Int), (K : Int)])) (hD : Has w g 3 (i64s ds)) (hL : ds.length = T) (hT : M * K = T) (hs : Mat.small ds) (hb : Mat.Is b K N false) (h1 : 1 ≤ M ∧ M ≤ 100) (h2 : 1 ≤ K ∧ K ≤ 100) (h3 : 1 ≤ N ∧ N ≤ 100) (hza : -128 ≤ za ∧ za ≤ 127) (hzb : -128 ≤ zb ∧ zb ≤ 127) (ib : b.In w) (hE : E3 w ah am ar) (hX : M * N = X) :
    Calls Tryd.prog 15 #[.agg #[.slice (some ⟨gs, 0, none⟩) 2 2, .bool false, .slice (some ⟨g, 0, none⟩) T T], .agg #[.slice b.P b.zs.length b.cap, .bool b.u, .slice b.D b.ds.length b.dcap], .int .i64 za, .int .i64 zb] w fun e w' =>
      (∃ (t : Ten) (q : Nat), e = .returned (.tuple #[.agg (tcells t.P t.zs.length t.cap t.u (some ⟨q, 0, none⟩) X X), .nilIface]) ∧ t.In w' ∧ Has w' q 3 (i64s (Mat.part ds b.ds za zb K N 0 X))) ∧ Below w.heap.size w w' := by
  subst hX
  obtain ⟨i1, i2⟩ := Mat.lit hS hD hL hT hs h1.2 h2.2
  have h := mul_good i2 hb h1 h2 h3 hza hzb ah am ar w i1 ib hE
  have e : ([(M : Int), (K : Int)] : List Int).length = 2 := rfl
  rw [e, hL] at h
  refine h.mono ?_
  rintro e w' ⟨⟨t, rfl, hIn, hI, hd, q, hq, hc, hH⟩, hB⟩
  rw [hd] at hH
  refine ⟨⟨t, q, ?_, hIn, hH⟩, hB⟩
  rw [hq, hc, hd, Mat.part_length]
/-- A block's numbers from a place on; the first of them. -/
theorem Has.ri_from {w : World} {g : Nat} {t : TypeId} {zs : List Int} (h : Has w g t (i64s zs)) (k : Nat) (hb : ∀ z ∈ zs, (Lit.int .i64 z).wf = true) : Ri w (some ⟨g, k, none⟩) (zs.drop k) :=
  ⟨fun z hz => hb z (List.mem_of_mem_drop hz), fun _ => ⟨_, rfl, h.lt, fun i z hi => by
    rw [List.getElem?_drop] at hi
    rw [Addr.add_lit, h.cell]
    simp [hi]⟩⟩
theorem Has.ri_take {w : World} {g : Nat} {t : TypeId} {zs : List Int} (h : Has w g t (i64s zs)) (k : Nat) (hb : ∀ z ∈ zs, (Lit.int .i64 z).wf = true) : Ri w (some ⟨g, 0, none⟩) (zs.take k) :=
  ⟨fun z hz => hb z (List.mem_of_mem_take hz), fun _ => ⟨_, rfl, h.lt, fun i z hi => by
    rw [List.getElem?_take] at hi
    split at hi
    · rw [Addr.add_lit, h.cell, Nat.zero_add]
      simp [hi]
    · cases hi⟩⟩
/-- copy of ints into a block of the call's own. -/
theorem copy_run (w : World) (ty : TypeId) (g off dLen dCap : Nat) (ad : Addr) (sLen sCap : Nat) (cur cs : List Int) (hg : Has w g 3 (i64s cur)) (hn : cs.length = Nat.min sLen dLen) (hsrc : ∀ (j : Nat) (z : Int), cs[j]? = some z → w.cell? (ad.add j) = some (.int .i64 z)) (hfit : off + cs.length ≤ cur.length) :
    ∃ w', (Builtin.copy_ #[22, 22] ty #[.slice (some ⟨g, off, none⟩) dLen dCap, .slice (some ad) sLen sCap]).run Tryd.prog w = .ok (.int .i64 cs.length) w' ∧
      Has w' g 3 (i64s (cur.take off ++ (cs ++ cur.drop (off + cs.length)))) ∧ (∀ (b : Nat) (t : TypeId) (xs : List Value), b ≠ g → Has w b t xs → Has w' b t xs) ∧ (∀ (B : Nat) (w0 : World), B ≤ g → Below B w0 w → Below B w0 w') ∧ w'.heap.size = w.heap.size := by
  have hl : (i64s cs).length = cs.length := by simp
  have h := run_copy_row (P := Tryd.prog) w 22 22 ty 3 g off dLen dCap ad sLen sCap (i64s cur).toArray 3 (i64s cs) uis (by kernel_rfl) hg (by rw [hl]; exact hn) (fun j v hv => by
    unfold i64s at hv
    rw [List.getElem?_map, Option.map_eq_some_iff] at hv
    obtain ⟨z, hz, rfl⟩ := hv
    exact hsrc j z hz) (by simpa using hfit) (i64s_one cs)
  rw [hl] at h
  refine ⟨_, h, ?_, fun b t xs hb hx => ?_, fun B w0 hB hb => below_setRow hb hB _, by simp [World.setRow]⟩
  · have h2 := setRow_heap w g (i64s cur).toArray ((i64s cur).toArray.toList.take off ++ i64s cs ++ (i64s cur).toArray.toList.drop (off + cs.length)).toArray 3 (0, 0) hg
    unfold Has
    rw [h2]
    unfold i64s
    simp
  · unfold Has at hx ⊢
    rw [setRow_other _ _ _ _ hb]
    exact hx
end Go.Proofs.YtkehdgjdieemkaaDoor
