/-
  The law PlanAgain, walked. By an AI agent. No person has read it.
-/
import Derived.Test.YthjnkaikjjjceaaDoorPbPlnQ
import Derived.Test.YthjnkaikjjjceaaDoorPbPlnU
import Derived.Test.YthjnkaikjjjceaaDoorPbPlnS
import Derived.Test.YthjnkaikjjjceaaDoorPbErrC
namespace Go.Proofs.YthjnkaikjjjceaaDoor
open Go.RowKit
theorem ReadIs.open_ {W w' : World} {es : List Addr} {bs : List Nat} {e : Ending} (h : ReadIs W w' es bs e) : ∃ (y : RE) (p : Pn) (ev : Value), Hid ((Pl.p12 bs).e = y) ∧ e = .returned (.tuple #[.agg #[.int .i64 p.size, .slice p.V p.vs.length p.vc, .slice p.C p.cs.length p.cc, .slice p.L p.ls.length p.lc, .slice p.K p.is.length p.kc, .int .i64 p.inp, .int .i64 p.out], ev]) ∧ Hid (p.pl = Pl.read bs) ∧ Pw W.heap.size 0 w' p ∧ EV w'.heap.size w' es y ev := by
  unfold ReadIs at h
  obtain ⟨y, hy⟩ : ∃ y, Hid ((Pl.p12 bs).e = y) := ⟨_, hide rfl⟩
  rw [hy.out] at h
  obtain ⟨p, ev, h1, h2, h3, h4⟩ := h
  exact ⟨y, p, ev, hy, h1, hide h2, h3, h4⟩
end Go.Proofs.YthjnkaikjjjceaaDoor
namespace Go.Proofs.YthjnkaikjjjceaaDoor
open Go.RowKit
theorem flat_less {α : Type} (f : α → List Nat) (l : List α) (h : ∀ x ∈ l, ∀ b ∈ f x, b < 256) : ∀ b ∈ l.flatMap f, b < 256 := by
  intro b hb
  obtain ⟨x, hx, hb⟩ := List.mem_flatMap.1 hb
  exact h x hx b hb
theorem app_less {a b : List Nat} (ha : ∀ x ∈ a, x < 256) (hb : ∀ x ∈ b, x < 256) : ∀ x ∈ a ++ b, x < 256 := by
  intro x hx
  rcases List.mem_append.1 hx with h | h
  · exact ha x h
  · exact hb x h
theorem InP.bytes_less (n : InP) : ∀ x ∈ n.bytes, x < 256 := by
  unfold InP.bytes Pl.nb
  exact app_less (app_less (app_less (app_less (app_less (Pk.le_lt _ _) (Pk.le_lt _ _)) (app_less (Pk.le_lt _ _) (Pk.all_lt _ _))) (app_less (Pk.le_lt _ _) (Pk.all_lt _ _))) (Pk.le_lt _ _)) (Pk.le_lt _ _)
theorem Pl.bytes_less (p : PlP) : ∀ x ∈ Pl.bytes p, x < 256 := by
  unfold Pl.bytes Pl.body
  exact app_less (by decide) (app_less (app_less (app_less (app_less (app_less (app_less (app_less (app_less (app_less (app_less (Pk.le_lt _ _) (Pk.le_lt _ _)) (flat_less _ _ fun v _ => app_less (Pk.le_lt _ _) (Pk.desc_lt _ _))) (Pk.le_lt _ _)) (flat_less _ _ fun t _ => Tens.bytes_lt _ _ _)) (Pk.le_lt _ _)) (flat_less _ _ fun d _ => Pk.desc_lt _ _)) (Pk.le_lt _ _)) (flat_less _ _ fun n _ => InP.bytes_less n)) (Pk.le_lt _ _)) (Pk.le_lt _ _))
set_option maxHeartbeats 1000000 in
theorem pl_rest (es : List Addr) (ah am ar ae ak : Addr) (hes : TErrs es ah am ar ae ak) {w Y : World} (hZ : Ez w es) (hbl : Below w.heap.size w Y) {p : Pn} (hin : p.In Y) (j : Nat) (bad : Bool) (hfl : Pl.fault p = if bad = true then some (none, j) else none) (hlen : (Pl.bytes p.pl).length ≤ 1000000) (c : Int) (hc : 101 + (j : Int) = c) :
    Calls Tryd.prog 10 #[.agg #[.int .i64 p.size, .slice p.V p.vs.length p.vc, .slice p.C p.cs.length p.cc, .slice p.L p.ls.length p.lc, .slice p.K p.is.length p.kc, .int .i64 p.inp, .int .i64 p.out]] Y fun e w' => ∃ (B : Option Addr) (cb m : Nat) (ev : Value), e = .returned (.tuple #[.slice B m cb, ev]) ∧ Hid (Below w.heap.size w w') ∧ Hid (Below Y.heap.size Y w') ∧
      Hid (bad = false → ev = .nilIface ∧ Hid (Calls Tryd.prog 11 #[.slice B m cb] w' fun e2 w2 => ∃ q : Pn, e2 = .returned (.tuple #[.agg #[.int .i64 q.size, .slice q.V q.vs.length q.vc, .slice q.C q.cs.length q.cc, .slice q.L q.ls.length q.lc, .slice q.K q.is.length q.kc, .int .i64 q.inp, .int .i64 q.out], .nilIface]) ∧ Hid (Below w.heap.size w w2) ∧ Hid (Below Y.heap.size Y w2) ∧
        Hid (∀ W, Below w2.heap.size w2 W → Calls Tryd.prog 14 #[.agg #[.int .i64 p.size, .slice p.V p.vs.length p.vc, .slice p.C p.cs.length p.cc, .slice p.L p.ls.length p.lc, .slice p.K p.is.length p.kc, .int .i64 p.inp, .int .i64 p.out], .agg #[.int .i64 q.size, .slice q.V q.vs.length q.vc, .slice q.C q.cs.length q.cc, .slice q.L q.ls.length q.lc, .slice q.K q.is.length q.kc, .int .i64 q.inp, .int .i64 q.out]] W fun e3 w3 => e3 = .returned (.bool true) ∧ Below w.heap.size w w3))) ∧
      Hid (bad = true → m = 0 ∧ ∃ x, ev = errv x ∧ Hid (Calls Tryd.prog 17 #[errv x, .int .i64 c] w' fun e w'' => e = .returned (.bool true) ∧ Below w.heap.size w w'')) := by
  refine (pbytes_c es ah am ar ae ak hes p Y hin (hes.e3y (hZ.below hbl).ey)).mono ?_
  rintro e w' ⟨⟨bv, ev, rfl, hev, ho⟩, hlow⟩
  have hb1 : Below w.heap.size w w' := hbl.trans (hlow.mono hbl.size)
  cases bad with
  | false =>
    rw [if_neg (by decide)] at hfl
    rw [hfl] at hev
    obtain rfl : ev = .nilIface := hev
    have houts : Pl.outs p = Pl.bytes p.pl := by unfold Pl.outs; rw [if_pos hfl]
    rw [houts] at ho
    obtain ⟨bk1, bk2⟩ := Pl.back _ hfl
    obtain ⟨B, cb, rfl, -, hcc, -, hrb⟩ := own_rb ho (Pl.bytes_less _)
    refine ⟨B, cb, _, _, rfl, hide hb1, hide hlow, hide fun _ => ⟨rfl, hide ?_⟩, hide fun hno => by cases hno⟩
    have hey : Ey w' es := (hZ.below hb1).ey
    refine (read_m (W := w') (A := B) (bs := Pl.bytes p.pl) (cap := cb) (es := es) (ae := ae) (am := am) (ak := ak) ⟨hrb, hey, hcc, hlen, hes.2.2.2.1, hes.2.1, hes.2.2.2.2⟩ ah ar hes).mono ?_
    rintro e2 w2 ⟨hri, hb2⟩
    obtain ⟨y, q, ev, hy, rfl, HPL, hpw, hev⟩ := ReadIs.open_ hri
    have hyn : y = none := hy.out.symm.trans bk1
    subst hyn
    obtain rfl : ev = .nilIface := hev
    have hb3 : Below w.heap.size w w2 := hb1.trans (hb2.mono hb1.size)
    have hb4 : Below Y.heap.size Y w2 := hlow.trans (hb2.mono hlow.size)
    refine ⟨q, rfl, hide hb3, hide hb4, hide fun W hW => ?_⟩
    have hqin := (Pl.read_in hpw HPL.out).below hW
    have hpin := (hin.below hb4).below hW
    have hpl : p.pl = q.pl := by rw [HPL.out, bk2]
    have hb5 : Below w.heap.size w W := hb3.trans (hW.mono hb3.size)
    refine (psame_c p q W hpin hqin).mono ?_
    rintro e3 w3 ⟨rfl, hb6⟩
    rw [decide_eq_true hpl]
    exact ⟨rfl, hb5.trans (hb6.mono hb5.size)⟩
  | true =>
    rw [if_pos rfl] at hfl
    rw [hfl] at hev
    obtain ⟨x, hx, rfl⟩ : ∃ x, es[j]? = some x ∧ ev = errv x := hev
    have houts : Pl.outs p = [] := by unfold Pl.outs; rw [if_neg (by rw [hfl]; simp)]
    rw [houts] at ho
    obtain ⟨B, cb, rfl, -⟩ := own_row ho
    refine ⟨B, cb, _, _, rfl, hide hb1, hide hlow, hide (fun hyes => by cases hyes), hide fun _ => ⟨rfl, x, rfl, hide ?_⟩⟩
    refine (is_c es j x hx c w' (hZ.below hb1)).mono ?_
    rintro e w'' ⟨rfl, hb3⟩
    rw [decide_eq_true hc]
    exact ⟨rfl, hb1.trans (hb3.mono hb1.size)⟩
/-- Rows of zeros. -/
theorem flat_rep (x : List Value) (n : Nat) : ∀ i : Nat, i < n * x.length → ((List.replicate n x).flatten)[i]? = x[i % x.length]? := by
  induction n with
  | zero => intro i hi; rw [Nat.zero_mul] at hi; omega
  | succ n ih =>
    intro i hi
    rw [List.replicate_succ, List.flatten_cons]
    rcases Nat.lt_or_ge i x.length with h | h
    · rw [List.getElem?_append_left h, Nat.mod_eq_of_lt h]
    · rw [List.getElem?_append_right h, ih _ (by rw [Nat.succ_mul] at hi; omega), Nat.mod_eq_sub_mod h]
theorem made_flat (z : Array Value) (n : Nat) (hz : 0 < z.size) : (madeCells z (n * z.size)).toList = (List.replicate n z.toList).flatten := by
  apply List.ext_getElem?
  intro i
  rcases Nat.lt_or_ge i (n * z.size) with h | h
  · rw [flat_rep z.toList n i (by simpa using h)]
    have hm : i % z.size < z.size := Nat.mod_lt _ hz
    simp [madeCells, h, hm]
  · rw [List.getElem?_eq_none (by simpa [size_madeCells] using h), List.getElem?_eq_none (by simpa using h)]
theorem len_rep {α : Type} (f : α → List Nat) (x : α) (n : Nat) : ((List.replicate n x).flatMap f).length = n * (f x).length := by
  induction n with
  | zero => simp
  | succ n ih => rw [List.replicate_succ, List.flatMap_cons, List.length_append, ih, Nat.succ_mul, Nat.add_comm]
theorem view_info : ∃ i : TypeInfo, Tryd.prog.info? 61 = some i ∧ i.zero = some (.agg #[.int .i64 0, .slice none 0 0, .bool false]) ∧ i.size = 3 ∧ i.bytes = 40 := by
  obtain ⟨i, hi⟩ : ∃ i, Tryd.prog.info? 61 = some i := by
    refine Option.isSome_iff_exists.1 ?_
    kernel_rfl
  have h1 : (Tryd.prog.info? 61).bind (·.zero) = some (.agg #[.int .i64 0, .slice none 0 0, .bool false]) := by kernel_rfl
  have h2 : (Tryd.prog.info? 61).map (·.size) = some 3 := by kernel_rfl
  have h3 : (Tryd.prog.info? 61).map (·.bytes) = some 40 := by kernel_rfl
  rw [hi] at h1 h2 h3
  exact ⟨i, hi, by simpa using h1, by simpa using h2, by simpa using h3⟩
theorem desc_info : ∃ i : TypeInfo, Tryd.prog.info? 59 = some i ∧ i.zero = some (.agg #[.slice none 0 0, .bool false]) ∧ i.size = 2 ∧ i.bytes = 32 := by
  obtain ⟨i, hi⟩ : ∃ i, Tryd.prog.info? 59 = some i := by
    refine Option.isSome_iff_exists.1 ?_
    kernel_rfl
  have h1 : (Tryd.prog.info? 59).bind (·.zero) = some (.agg #[.slice none 0 0, .bool false]) := by kernel_rfl
  have h2 : (Tryd.prog.info? 59).map (·.size) = some 2 := by kernel_rfl
  have h3 : (Tryd.prog.info? 59).map (·.bytes) = some 32 := by kernel_rfl
  rw [hi] at h1 h2 h3
  exact ⟨i, hi, by simpa using h1, by simpa using h2, by simpa using h3⟩
theorem uds_view : Tryd.prog.underlying 22 = some (.slice 61) := by kernel_rfl
theorem uds_desc : Tryd.prog.underlying 24 = some (.slice 59) := by kernel_rfl
end Go.Proofs.YthjnkaikjjjceaaDoor
