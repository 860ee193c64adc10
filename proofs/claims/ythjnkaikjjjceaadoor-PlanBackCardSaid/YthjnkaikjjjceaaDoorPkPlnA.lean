/-
  What is read of bytes, by plain values: the Reader's state, and what each method makes of it. By an AI agent. No person has read it.
-/
import Derived.Test.YthjnkaikjjjceaaDoorPkTenBack0
namespace Go.Proofs.YthjnkaikjjjceaaDoor
open Go.RowKit
/-- An error: perhaps a place, and which of api's. -/
abbrev RE := Option (Option Nat × Nat)
structure Rs where
  at_ : Nat
  e : RE
def Rs.fail (s : Rs) (x : Option Nat × Nat) : Rs :=
  match s.e with
  | none => ⟨s.at_, some x⟩
  | some _ => s
def Rs.piece (bs : List Nat) (n : Nat) (s : Rs) : List Nat × Rs :=
  match s.e with
  | none => if s.at_ + n ≤ bs.length then ((bs.take (s.at_ + n)).drop s.at_, ⟨s.at_ + n, none⟩) else ([], ⟨s.at_, some (none, 4)⟩)
  | some _ => ([], s)
def Rs.number (bs : List Nat) (k : Nat) (s : Rs) : Nat × Rs := (Pk.val (s.piece bs k).1, (s.piece bs k).2)
def Rs.signed (bs : List Nat) (s : Rs) : Int × Rs := (Tens.wide ((s.number bs 4).1 : Nat), (s.number bs 4).2)
def Rs.count (bs : List Nat) (k most j : Nat) (s : Rs) : Nat × Rs := if most < (s.number bs k).1 then (0, (s.number bs k).2.fail (some s.at_, j)) else s.number bs k
/-- So many in a row. -/
def Rs.rep {α : Type} (f : Nat → Rs → α × Rs) : Nat → Rs → List α × Rs
  | 0, s => ([], s)
  | n + 1, s => ((Rs.rep f n s).1 ++ [(f n (Rs.rep f n s).2).1], (f n (Rs.rep f n s).2).2)
theorem Rs.rep_len {α : Type} (f : Nat → Rs → α × Rs) (n : Nat) (s : Rs) : (Rs.rep f n s).1.length = n := by
  induction n with
  | zero => rfl
  | succ n ih => show ((Rs.rep f n s).1 ++ [_]).length = n + 1; rw [List.length_append, ih]; rfl
theorem Rs.rep_succ1 {α : Type} (f : Nat → Rs → α × Rs) (n : Nat) (s : Rs) : (Rs.rep f (n + 1) s).1 = (Rs.rep f n s).1 ++ [(f n (Rs.rep f n s).2).1] := rfl
theorem Rs.rep_succ2 {α : Type} (f : Nat → Rs → α × Rs) (n : Nat) (s : Rs) : (Rs.rep f (n + 1) s).2 = (f n (Rs.rep f n s).2).2 := rfl
/-- A dimension. -/
def Rs.dim (bs : List Nat) (_ : Nat) (s : Rs) : Int × Rs := (((s.number bs 2).1 : Nat), (s.number bs 2).2)
def Rs.desc (bs : List Nat) (s : Rs) : (List Int × Bool) × Rs :=
  (((Rs.rep (Rs.dim bs) ((s.count bs 1 15 2).1 % 8) (s.count bs 1 15 2).2).1, decide (8 ≤ (s.count bs 1 15 2).1)), (Rs.rep (Rs.dim bs) ((s.count bs 1 15 2).1 % 8) (s.count bs 1 15 2).2).2)
def Rs.rest (bs : List Nat) (s : Rs) : List Nat :=
  match s.e with
  | none => bs.drop s.at_
  | some _ => []
def Rs.took (bs : List Nat) (n k p : Nat) (s : Rs) : Rs := if k = 105 then s.fail (none, 4) else if k ≠ 0 then s.fail (some p, k - 101) else (s.piece bs n).2
def Rs.end_ (bs : List Nat) (s : Rs) : Rs := if s.rest bs = [] then s else s.fail (some s.at_, 3)
theorem Pk.val_snoc (l : List Nat) (b : Nat) : Pk.val (l ++ [b]) = Pk.val l + b * 256 ^ l.length := by
  induction l with
  | nil => simp [Pk.val]
  | cons x l ih =>
    show x + 256 * Pk.val (l ++ [b]) = x + 256 * Pk.val l + b * 256 ^ (l.length + 1)
    rw [ih, Nat.mul_add, Nat.add_assoc, Nat.pow_succ, Nat.mul_comm (256 ^ l.length) 256, Nat.mul_left_comm]
theorem Pk.val_lt_pow (cs : List Nat) (h : ∀ b ∈ cs, b < 256) : Pk.val cs < 256 ^ cs.length := by
  induction cs with
  | nil => simp [Pk.val]
  | cons b l ih =>
    have h1 := ih fun x hx => h x (List.mem_cons_of_mem _ hx)
    have h2 := h b (List.mem_cons_self ..)
    show b + 256 * Pk.val l < 256 ^ (l.length + 1)
    rw [Nat.pow_succ]
    omega
theorem Pk.val_lt4 (cs : List Nat) (h : ∀ b ∈ cs, b < 256) (hl : cs.length ≤ 4) : Pk.val cs < 4294967296 := by
  have h1 := Pk.val_lt_pow cs h
  have h2 : 256 ^ cs.length ≤ 256 ^ 4 := Nat.pow_le_pow_right (by decide) hl
  omega
theorem Rs.piece_len (bs : List Nat) (n : Nat) (s : Rs) : (s.piece bs n).1.length ≤ n := by
  unfold Rs.piece
  split
  · split
    · rw [List.length_drop, List.length_take]; omega
    · simp
  · simp
theorem Rs.piece_lt (bs : List Nat) (n : Nat) (s : Rs) (hb : ∀ b ∈ bs, b < 256) : ∀ b ∈ (s.piece bs n).1, b < 256 := by
  unfold Rs.piece
  split
  · split
    · exact fun b h => hb b (List.mem_of_mem_take (List.mem_of_mem_drop h))
    · simp
  · simp
theorem Rs.piece_at (bs : List Nat) (n : Nat) (s : Rs) (h : s.at_ ≤ bs.length) : (s.piece bs n).2.at_ ≤ bs.length := by
  unfold Rs.piece
  split
  · split
    · assumption
    · exact h
  · exact h
theorem Rs.fail_at (s : Rs) (x : Option Nat × Nat) : (s.fail x).at_ = s.at_ := by unfold Rs.fail; split <;> rfl
theorem Rs.number_lt (bs : List Nat) (k : Nat) (s : Rs) (hb : ∀ b ∈ bs, b < 256) (hk : k ≤ 4) : (s.number bs k).1 < 4294967296 := Pk.val_lt4 _ (Rs.piece_lt bs k s hb) (Nat.le_trans (Rs.piece_len bs k s) hk)

/-- The error as it lies in memory; a place's box below B. -/
def EV (B : Nat) (W : World) (es : List Addr) (e : RE) (v : Value) : Prop :=
  match e with
  | none => v = .nilIface
  | some (none, j) => ∃ a, es[j]? = some a ∧ v = errv a
  | some (some p, j) => ∃ a g, es[j]? = some a ∧ v = .iface 119 (.pointer (some ⟨g, 0, none⟩)) ∧ g < B ∧ Has W g 122 [.int .i64 (p : Nat), errv a]
theorem EV.grown {B : Nat} {W W' : World} {es : List Addr} {e : RE} {v : Value} {row : Option Nat} (h : EV B W es e v) (hg : W.grownBy W' row) (hr : ∀ k, row = some k → B ≤ k ∨ ∀ cs, ¬ Has W k 122 cs) : EV B W' es e v := by
  match e, h with
  | none, h => exact h
  | some (none, j), h => exact h
  | some (some p, j), ⟨a, g, h1, h2, h3, h4⟩ =>
    refine ⟨a, g, h1, h2, h3, h4.grown hg fun e => ?_⟩
    rcases hr g e.symm with h | h
    · omega
    · exact h _ h4
theorem EV.below {B C : Nat} {W W' : World} {es : List Addr} {e : RE} {v : Value} (h : EV B W es e v) (hg : Below C W W') (hC : B ≤ C) : EV B W' es e v := by
  match e, h with
  | none, h => exact h
  | some (none, j), h => exact h
  | some (some p, j), ⟨a, g, h1, h2, h3, h4⟩ => exact ⟨a, g, h1, h2, h3, h4.below hg (by omega)⟩
theorem EV.mono {B C : Nat} {W : World} {es : List Addr} {e : RE} {v : Value} (h : EV B W es e v) (hC : B ≤ C) : EV C W es e v := by
  match e, h with
  | none, h => exact h
  | some (none, j), h => exact h
  | some (some p, j), ⟨a, g, h1, h2, h3, h4⟩ => exact ⟨a, g, h1, h2, by omega, h4⟩
theorem EV.tight {B : Nat} {W : World} {es : List Addr} {e : RE} {v : Value} (h : EV B W es e v) : EV W.heap.size W es e v := by
  match e, h with
  | none, h => exact h
  | some (none, j), h => exact h
  | some (some p, j), ⟨a, g, h1, h2, h3, h4⟩ => exact ⟨a, g, h1, h2, h4.lt, h4⟩
theorem EV.is {B : Nat} {W : World} {es : List Addr} {x : Option Nat × Nat} {v : Value} (h : EV B W es (some x) v) : IsErr v := by
  match x, h with
  | (none, j), ⟨a, _, h⟩ => exact .inl ⟨a, h⟩
  | (some p, j), ⟨a, g, _, h, _⟩ => exact .inr ⟨g, h⟩
/-- The Reader in memory. -/
def RdB (B : Nat) (W : World) (g : Nat) (A : Option Addr) (bs : List Nat) (cap : Nat) (es : List Addr) (s : Rs) : Prop :=
  s.at_ ≤ bs.length ∧ ∃ v, Has W g 118 [.slice A bs.length cap, .int .i64 (s.at_ : Nat), v] ∧ EV B W es s.e v
/-- The first of api's errors, as many as are listed. -/
def Ey (w : World) (es : List Addr) : Prop := es.length ≤ 21 ∧ es.Nodup ∧ ∀ (i g : Nat) (a : Addr), egs[i]? = some g → es[i]? = some a → ErrIs w g a
theorem Ey.below {w wr : World} {es : List Addr} (h : Ey w es) (hb : Below w.heap.size w wr) : Ey wr es := ⟨h.1, h.2.1, fun i g a h1 h2 => (h.2.2 i g a h1 h2).below hb⟩
theorem Ez.ey {w : World} {es : List Addr} (h : Ez w es) : Ey w es := ⟨Nat.le_of_eq h.1, h.2⟩
theorem TErrs.e3y {es : List Addr} {ah am ar ae ak : Addr} (h : TErrs es ah am ar ae ak) {W : World} (hz : Ey W es) : E3 W ah am ar := ⟨hz.2.2 0 _ ah rfl h.1, hz.2.2 3 _ am rfl h.2.1, hz.2.2 1 _ ar rfl h.2.2.1⟩
theorem TErrs.endy {es : List Addr} {ah am ar ae ak : Addr} (h : TErrs es ah am ar ae ak) {W : World} (hz : Ey W es) : ErrIs W 3 ae := hz.2.2 4 _ ae rfl h.2.2.2.1
theorem TErrs.kindy {es : List Addr} {ah am ar ae ak : Addr} (h : TErrs es ah am ar ae ak) {W : World} (hz : Ey W es) : ErrIs W 0 ak := hz.2.2 2 _ ak rfl h.2.2.2.2
/-- What is read: bytes and errors that lay there. -/
structure Rx (w0 : World) (A : Option Addr) (bs : List Nat) (cap : Nat) (es : List Addr) (ae am ak : Addr) : Prop where
  rb : Rb w0 A bs
  ez : Ey w0 es
  hc : bs.length ≤ cap
  hl : bs.length ≤ 1000000
  ie : es[4]? = some ae
  im : es[3]? = some am
  ik : es[2]? = some ak
theorem RdB.lt {B : Nat} {W : World} {g : Nat} {A : Option Addr} {bs : List Nat} {cap : Nat} {es : List Addr} {s : Rs} (h : RdB B W g A bs cap es s) : g < W.heap.size := let ⟨_, _, h, _⟩ := h; h.lt
theorem RdB.mono {B C : Nat} {W : World} {g : Nat} {A : Option Addr} {bs : List Nat} {cap : Nat} {es : List Addr} {s : Rs} (h : RdB B W g A bs cap es s) (hC : B ≤ C) : RdB C W g A bs cap es s := let ⟨a, v, h1, h2⟩ := h; ⟨a, v, h1, h2.mono hC⟩
theorem RdB.tight {B : Nat} {W : World} {g : Nat} {A : Option Addr} {bs : List Nat} {cap : Nat} {es : List Addr} {s : Rs} (h : RdB B W g A bs cap es s) : RdB W.heap.size W g A bs cap es s := let ⟨a, v, h1, h2⟩ := h; ⟨a, v, h1, h2.tight⟩
theorem RdB.grown {B : Nat} {W W' : World} {g : Nat} {A : Option Addr} {bs : List Nat} {cap : Nat} {es : List Addr} {s : Rs} {row : Option Nat} (h : RdB B W g A bs cap es s) (hg : W.grownBy W' row) (hr : ∀ k, row = some k → k ≠ g ∧ (B ≤ k ∨ ∀ cs, ¬ Has W k 122 cs)) : RdB B W' g A bs cap es s := by
  obtain ⟨a, v, h1, h2⟩ := h
  exact ⟨a, v, h1.grown hg (fun e => (hr g e.symm).1 rfl), h2.grown hg fun k hk => (hr k hk).2⟩
theorem RdB.below {B C : Nat} {W W' : World} {g : Nat} {A : Option Addr} {bs : List Nat} {cap : Nat} {es : List Addr} {s : Rs} (h : RdB B W g A bs cap es s) (hg : Below C W W') (hC : B ≤ C) (hgC : g < C) : RdB B W' g A bs cap es s := by
  obtain ⟨a, v, h1, h2⟩ := h
  exact ⟨a, v, h1.below hg hgC, h2.below hg hC⟩
theorem has_not {W : World} {g : Nat} {t t2 : TypeId} {cs : List Value} (h : Has W g t cs) (ht : t ≠ t2) : ∀ cs2, ¬ Has W g t2 cs2 := by
  intro cs2 h2
  have e : W.heap[g]? = _ := h
  have e2 : W.heap[g]? = _ := h2
  rw [e] at e2
  simp at e2
  exact ht e2.2
theorem Rx.at_ {w0 : World} {A : Option Addr} {bs : List Nat} {cap : Nat} {es : List Addr} {ae am ak : Addr} (h : Rx w0 A bs cap es ae am ak) {W : World} (hW : Below w0.heap.size w0 W) : Rb W A bs ∧ Ey W es := ⟨h.rb.below hW, h.ez.below hW⟩
set_option maxRecDepth 100000 in
/-- Piece. -/
theorem piece_m {w0 : World} {A : Option Addr} {bs : List Nat} {cap : Nat} {es : List Addr} {ae am ak : Addr} (hX : Rx w0 A bs cap es ae am ak) (B g n : Nat) (s : Rs) (W : World) (hn : 1 ≤ n) (hn2 : n ≤ 1000000000) (hg : w0.heap.size ≤ g) (hW : Below w0.heap.size w0 W) (h : RdB B W g A bs cap es s) :
    Calls Tryd.prog 32 #[.pointer (some ⟨g, 0, none⟩), .int .i64 (n : Int)] W fun e w' => (∃ A2 c2, e = .returned (.slice A2 (s.piece bs n).1.length c2) ∧ (s.piece bs n).1.length ≤ c2 ∧ Rb w' A2 (s.piece bs n).1) ∧ RdB B w' g A bs cap es (s.piece bs n).2 ∧ W.grownBy w' (some g) := by
  have hl := hX.hl
  have hc := hX.hc
  obtain ⟨hrb, hez⟩ := hX.at_ hW
  have hE : ErrIs W 3 ae := hez.2.2 4 _ ae rfl hX.ie
  obtain ⟨hat, v, hH, hV⟩ := h
  have hrow : ∀ W' cs, Has W' g 118 cs → ∀ cs2, ¬ Has W' g 122 cs2 := fun W' cs hh => has_not hh (by decide)
  obtain ⟨at_, e⟩ := s
  match e, hV with
  | none, hV =>
    obtain rfl : v = .nilIface := hV
    by_cases hmore : at_ + n ≤ bs.length
    · have e1 : Rs.piece bs n ⟨at_, none⟩ = ((bs.take (at_ + n)).drop at_, ⟨at_ + n, none⟩) := by simp [Rs.piece, hmore]
      rw [e1]
      refine (piece_c g at_ cap n A bs W hH hrb (fun ad e _ => ?_) hmore hc (by omega)).mono ?_
      · obtain ⟨ad2, e2, h2, -⟩ := hX.rb.2 (by rintro rfl; simp at hmore; omega)
        rw [e] at e2
        cases e2
        omega
      · rintro e w' ⟨⟨A2, c2, rfl, h1, h2⟩, h3, h4⟩
        have hcl : ((bs.take (at_ + n)).drop at_).length = n := by rw [List.length_drop, List.length_take]; omega
        refine ⟨⟨A2, c2, by rw [hcl], by rw [hcl]; exact h1, h2⟩, ⟨hmore, .nilIface, h3, rfl⟩, h4⟩
    · have e1 : Rs.piece bs n ⟨at_, none⟩ = ([], ⟨at_, some (none, 4)⟩) := by simp [Rs.piece, hmore]
      rw [e1]
      refine (piece_end g at_ bs.length cap n A ae W hH hE hat (by omega) (by omega) hn2).mono ?_
      rintro e w' ⟨rfl, h3, h4⟩
      exact ⟨⟨none, 0, rfl, Nat.le_refl _, fun b hb => by simp at hb, fun h => absurd rfl h⟩, ⟨hat, _, h3, ae, hX.ie, rfl⟩, h4⟩
  | some x, hV =>
    have e1 : Rs.piece bs n ⟨at_, some x⟩ = ([], ⟨at_, some x⟩) := by simp [Rs.piece]
    rw [e1]
    refine (piece_bad g at_ bs.length cap n A ae v hV.is W hH hE hat (by omega)).mono ?_
    rintro e w' ⟨rfl, h3, h4⟩
    exact ⟨⟨none, 0, rfl, Nat.le_refl _, fun b hb => by simp at hb, fun h => absurd rfl h⟩, ⟨hat, _, h3, hV.grown h4 fun k e => .inr (by cases e; exact hrow W _ hH)⟩, h4⟩
end Go.Proofs.YthjnkaikjjjceaaDoor
