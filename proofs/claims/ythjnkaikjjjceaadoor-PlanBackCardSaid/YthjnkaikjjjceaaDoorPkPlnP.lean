/-
  Bytes that are read as a plan are just its bytes. By an AI agent. No person has read it.
-/
import Derived.Test.YthjnkaikjjjceaaDoorPkPlnO
import Derived.Test.YthjnkaikjjjceaaDoorPkTenJ
namespace Go.Proofs.YthjnkaikjjjceaaDoor
open Go.RowKit
/-- Behind a step without an error: just these bytes were read. -/
def Rs.Ok (bs : List Nat) (s s' : Rs) (ys : List Nat) : Prop := s'.e = none → s.e = none ∧ bs.take s'.at_ = bs.take s.at_ ++ ys
theorem Rs.Ok.refl (bs : List Nat) (s : Rs) : Rs.Ok bs s s [] := fun h => ⟨h, by simp⟩
theorem Rs.Ok.then_ {bs : List Nat} {s t u : Rs} {ys zs : List Nat} (h : Rs.Ok bs s t ys) (k : Rs.Ok bs t u zs) : Rs.Ok bs s u (ys ++ zs) := fun hu => by
  obtain ⟨h1, h2⟩ := k hu
  obtain ⟨h3, h4⟩ := h h1
  exact ⟨h3, by rw [h2, h4, List.append_assoc]⟩
theorem Pk.le_cons (k N : Nat) : Pk.le (k + 1) N = N % 256 :: Pk.le k (N / 256) := by
  unfold Pk.le
  rw [List.range_succ_eq_map, List.map_cons, List.map_map]
  congr 1
  · simp
  · refine List.map_congr_left fun j _ => ?_
    show N / 256 ^ (j + 1) % 256 = N / 256 / 256 ^ j % 256
    rw [Nat.pow_succ, Nat.mul_comm, Nat.div_div_eq_div_mul]
theorem Pk.le_mod (k : Nat) : ∀ N : Nat, Pk.le k (N % 256 ^ k) = Pk.le k N := by
  induction k with
  | zero => intro N; rfl
  | succ k ih =>
    intro N
    have hp : 256 ^ (k + 1) = 256 * 256 ^ k := by rw [Nat.pow_succ, Nat.mul_comm]
    rw [Pk.le_cons, Pk.le_cons, hp, Nat.mod_mul_right_mod, Nat.mod_mul_right_div_self, ih]
theorem Pk.num_nat (n : Nat) (h : n < 18446744073709551616) : Pk.num ((n : Nat) : Int) = n := by unfold Pk.num; omega
end Go.Proofs.YthjnkaikjjjceaaDoor
namespace Go.Proofs.YthjnkaikjjjceaaDoor
open Go.RowKit
/-- Just these bytes come next. -/
def Rs.Fw {α : Type} (bs : List Nat) (f : Rs → α × Rs) (x : α) (ys : List Nat) : Prop := ∀ (n : Nat) (rest : List Nat), bs.drop n = ys ++ rest → n ≤ bs.length → f ⟨n, none⟩ = (x, ⟨n + ys.length, none⟩)
theorem fw_step {bs : List Nat} {n : Nat} {ys zs rest : List Nat} (h : bs.drop n = ys ++ zs ++ rest) (hn : n ≤ bs.length) : bs.drop n = ys ++ (zs ++ rest) ∧ bs.drop (n + ys.length) = zs ++ rest ∧ n + ys.length ≤ bs.length := by
  have h1 : bs.drop n = ys ++ (zs ++ rest) := by rw [h, List.append_assoc]
  refine ⟨h1, ?_, ?_⟩
  · rw [← List.drop_drop, h1, List.drop_left]
  · have h2 := congrArg List.length h1
    rw [List.length_drop, List.length_append] at h2
    omega
theorem Rs.piece_fw (bs ys : List Nat) : Rs.Fw bs (fun s => s.piece bs ys.length) ys ys := by
  intro n rest h hn
  have h2 := congrArg List.length h
  rw [List.length_drop, List.length_append] at h2
  show Rs.piece bs ys.length ⟨n, none⟩ = _
  unfold Rs.piece
  dsimp only
  rw [if_pos (by omega), List.drop_take, show n + ys.length - n = ys.length by omega, h, List.take_left]
theorem Pk.val_le (k : Nat) : ∀ N : Nat, N < 256 ^ k → Pk.val (Pk.le k N) = N := by
  induction k with
  | zero => intro N h; simp at h; subst h; rfl
  | succ k ih =>
    intro N h
    rw [Pk.le_cons]
    show N % 256 + 256 * Pk.val (Pk.le k (N / 256)) = N
    rw [ih (N / 256) (by rw [Nat.pow_succ] at h; exact Nat.div_lt_of_lt_mul (by rw [Nat.mul_comm]; exact h))]
    omega
theorem Rs.number_fw (bs : List Nat) (k N : Nat) (h : N < 256 ^ k) : Rs.Fw bs (fun s => s.number bs k) N (Pk.le k N) := by
  intro n rest hd hn
  have h1 := Rs.piece_fw bs (Pk.le k N) n rest hd hn
  rw [Pk.le_length] at h1
  have h1 : Rs.piece bs k ⟨n, none⟩ = (Pk.le k N, ⟨n + k, none⟩) := h1
  show Rs.number bs k ⟨n, none⟩ = _
  unfold Rs.number
  rw [h1, Pk.le_length, Pk.val_le k N h]
theorem Pk.wide_num (z : Int) (h : Tens.wide z = z) : ∃ v : Nat, v < 256 ^ 4 ∧ Pk.le 4 (Pk.num z) = Pk.le 4 v ∧ Tens.wide (v : Int) = z := by
  have hp : (256 : Nat) ^ 4 = 4294967296 := by decide
  have hb := Tens.wide_wf z
  rw [h] at hb
  rcases Int.lt_or_le z 0 with h0 | h0
  · refine ⟨(z + 4294967296).toNat, by rw [hp]; omega, ?_, by unfold Tens.wide; omega⟩
    have h1 : Pk.num z = (z + 4294967296).toNat + 18446744069414584320 := by unfold Pk.num; omega
    rw [← Pk.le_mod 4 (Pk.num z), hp]
    congr 1
    rw [h1]
    omega
  · refine ⟨z.toNat, by rw [hp]; omega, ?_, by unfold Tens.wide; omega⟩
    have h1 : Pk.num z = z.toNat := by unfold Pk.num; omega
    rw [h1]
theorem Rs.signed_fw (bs : List Nat) (z : Int) (h : Pl.far z = false) : Rs.Fw bs (fun s => s.signed bs) z (Pk.le 4 (Pk.num z)) := by
  unfold Pl.far at h
  rw [decide_eq_false_iff_not, Decidable.not_not] at h
  obtain ⟨v, h1, h2, h3⟩ := Pk.wide_num z h
  intro n rest hd hn
  rw [h2] at hd ⊢
  have h4 := Rs.number_fw bs 4 v h1 n rest hd hn
  have h4 : Rs.number bs 4 ⟨n, none⟩ = (v, ⟨n + (Pk.le 4 v).length, none⟩) := h4
  show Rs.signed bs ⟨n, none⟩ = _
  unfold Rs.signed
  rw [h4]
  show (Tens.wide (v : Int), _) = _
  rw [h3]
theorem Rs.count_fw (bs : List Nat) (k most j N : Nat) (h : N < 256 ^ k) (hm : N ≤ most) : Rs.Fw bs (fun s => s.count bs k most j) N (Pk.le k N) := by
  intro n rest hd hn
  have h4 := Rs.number_fw bs k N h n rest hd hn
  have h4 : Rs.number bs k ⟨n, none⟩ = (N, ⟨n + (Pk.le k N).length, none⟩) := h4
  show Rs.count bs k most j ⟨n, none⟩ = _
  unfold Rs.count
  rw [h4]
  dsimp only
  rw [if_neg (by omega)]
/-- So many in a row, each of its bytes. -/
theorem Rs.rep_fw {α : Type} (bs : List Nat) (f : Nat → Rs → α × Rs) (g : α → List Nat) (m : Nat) : ∀ (l : List α), l.length = m → (∀ (i : Nat) (x : α), l[i]? = some x → Rs.Fw bs (f i) x (g x)) → Rs.Fw bs (Rs.rep f m) l (l.flatMap g) := by
  induction m with
  | zero =>
    intro l hl _ n rest _ _
    obtain rfl := List.eq_nil_of_length_eq_zero hl
    rfl
  | succ m ih =>
    intro l hl hf n rest hd hn
    have hlt : m < l.length := by omega
    have hsp : l = l.take m ++ [l[m]] := by
      have h := List.take_add_one (l := l) (i := m)
      rw [List.getElem?_eq_getElem hlt, Option.toList_some, List.take_of_length_le (by omega)] at h
      exact h
    have e : l.flatMap g = (l.take m).flatMap g ++ g l[m] := by
      conv => lhs; rw [hsp]
      rw [List.flatMap_append, List.flatMap_cons, List.flatMap_nil, List.append_nil]
    rw [e] at hd ⊢
    obtain ⟨h1, h2, h3⟩ := fw_step hd hn
    have h4 := ih (l.take m) (by rw [List.length_take]; omega) (fun i x hx => by
      rw [List.getElem?_take] at hx
      split at hx
      · exact hf i x hx
      · cases hx) n _ h1 hn
    have h5 := hf m l[m] (List.getElem?_eq_getElem hlt) _ rest h2 h3
    show ((Rs.rep f m ⟨n, none⟩).1 ++ [(f m (Rs.rep f m ⟨n, none⟩).2).1], (f m (Rs.rep f m ⟨n, none⟩).2).2) = _
    rw [h4]
    dsimp only
    rw [h5]
    dsimp only
    rw [← hsp, List.length_append, Nat.add_assoc]
theorem Rs.dims_fw (bs : List Nat) (zs : List Int) (hz : ∀ z ∈ zs, Pl.dim z = false) : Rs.Fw bs (Rs.rep (Rs.dim bs) zs.length) zs (Pk.all 2 zs) := by
  have h := Rs.rep_fw bs (Rs.dim bs) (fun z => Pk.le 2 (Pk.num z)) zs.length zs rfl (fun i z hx n rest hd hn => by
    have hd0 := hz z (List.mem_of_getElem? hx)
    unfold Pl.dim at hd0
    rw [decide_eq_false_iff_not] at hd0
    have hnum : Pk.num z = z.toNat := by unfold Pk.num; omega
    rw [hnum] at hd ⊢
    have h4 : Rs.number bs 2 ⟨n, none⟩ = (z.toNat, ⟨n + (Pk.le 2 z.toNat).length, none⟩) := Rs.number_fw bs 2 z.toNat (by omega) n rest hd hn
    show (((Rs.number bs 2 ⟨n, none⟩).1 : Int), (Rs.number bs 2 ⟨n, none⟩).2) = _
    rw [h4]
    show ((z.toNat : Int), _) = _
    rw [Int.toNat_of_nonneg (by omega)])
  rw [List.flatMap_def] at h
  exact h
theorem Rs.desc_fw (bs : List Nat) (zs : List Int) (u : Bool) (hl : zs.length ≤ 7) (hz : ∀ z ∈ zs, Pl.dim z = false) : Rs.Fw bs (fun s => s.desc bs) (zs, u) (Pk.desc zs u) := by
  obtain ⟨h, hdc, h15, h8, hu⟩ := Pk.desc_cons zs u hl
  intro n rest hd hn
  have hle : Pk.le 1 h = [h] := by rw [Pk.le_cons, show h % 256 = h by omega]; rfl
  have e : Pk.desc zs u = Pk.le 1 h ++ Pk.all 2 zs := by rw [hdc, hle]; rfl
  rw [e] at hd ⊢
  obtain ⟨h1, h2, h3⟩ := fw_step hd hn
  have h4 : Rs.count bs 1 15 2 ⟨n, none⟩ = (h, ⟨n + (Pk.le 1 h).length, none⟩) := Rs.count_fw bs 1 15 2 h (by omega) h15 n _ h1 hn
  have h5 : Rs.rep (Rs.dim bs) zs.length ⟨n + (Pk.le 1 h).length, none⟩ = (zs, ⟨n + (Pk.le 1 h).length + (Pk.all 2 zs).length, none⟩) := Rs.dims_fw bs zs hz _ rest h2 h3
  show Rs.desc bs ⟨n, none⟩ = _
  unfold Rs.desc
  rw [h4]
  dsimp only
  rw [h8, h5, hu, List.length_append, Nat.add_assoc]
theorem Rs.numbers_fw (bs : List Nat) (l : List Int) (hl : l.length ≤ 8) (hf : ∀ z ∈ l, Pl.far z = false) : Rs.Fw bs (fun s => s.numbers bs) l (Pl.nb l) := by
  intro n rest hd hn
  unfold Pl.nb at hd ⊢
  rw [Pk.num_nat _ (by omega)] at hd ⊢
  obtain ⟨h1, h2, h3⟩ := fw_step hd hn
  have h4 : Rs.count bs 1 8 3 ⟨n, none⟩ = (l.length, ⟨n + (Pk.le 1 l.length).length, none⟩) := Rs.count_fw bs 1 8 3 l.length (by omega) hl n _ h1 hn
  have h := Rs.rep_fw bs (Rs.num bs) (fun z => Pk.le 4 (Pk.num z)) l.length l rfl (fun i z hx => Rs.signed_fw bs z (hf z (List.mem_of_getElem? hx)))
  rw [List.flatMap_def] at h
  have h5 : Rs.rep (Rs.num bs) l.length ⟨n + (Pk.le 1 l.length).length, none⟩ = (l, ⟨n + (Pk.le 1 l.length).length + (Pk.all 4 l).length, none⟩) := h _ rest h2 h3
  show Rs.numbers bs ⟨n, none⟩ = _
  unfold Rs.numbers
  rw [h4]
  dsimp only
  rw [h5, List.length_append, Nat.add_assoc]
/-- An instruction that can be written. -/
structure InP.Ok (x : InP) : Prop where
  op : 0 ≤ x.op ∧ x.op ≤ 255
  dst : Pl.far x.dst = false
  is : ∀ z ∈ x.is, Pl.far z = false
  gs : ∀ z ∈ x.gs, Pl.far z = false
  fr : Pl.far x.fr = false
  to : Pl.far x.to = false
  li : x.is.length ≤ 8
  lg : x.gs.length ≤ 8
theorem Rs.instr_fw (bs : List Nat) (x : InP) (hx : x.Ok) (i : Nat) : Rs.Fw bs (Rs.ins bs i) x x.bytes := by
  intro n rest hd hn
  have hop : Pk.num x.op = x.op.toNat := by have := hx.op; unfold Pk.num; omega
  unfold InP.bytes at hd ⊢
  rw [hop] at hd ⊢
  obtain ⟨d5, r6, b6⟩ := fw_step (ys := Pk.le 1 x.op.toNat ++ Pk.le 4 (Pk.num x.dst) ++ Pl.nb x.is ++ Pl.nb x.gs ++ Pk.le 4 (Pk.num x.fr)) hd hn
  rw [← List.append_assoc] at d5
  obtain ⟨d4, r5, b5⟩ := fw_step (ys := Pk.le 1 x.op.toNat ++ Pk.le 4 (Pk.num x.dst) ++ Pl.nb x.is ++ Pl.nb x.gs) (zs := Pk.le 4 (Pk.num x.fr)) (rest := Pk.le 4 (Pk.num x.to) ++ rest) (by rw [d5, List.append_assoc]) hn
  rw [← List.append_assoc] at d4
  obtain ⟨d3, r4, b4⟩ := fw_step (ys := Pk.le 1 x.op.toNat ++ Pk.le 4 (Pk.num x.dst) ++ Pl.nb x.is) (zs := Pl.nb x.gs) (rest := Pk.le 4 (Pk.num x.fr) ++ (Pk.le 4 (Pk.num x.to) ++ rest)) (by rw [d4, List.append_assoc]) hn
  rw [← List.append_assoc] at d3
  obtain ⟨d2, r3, b3⟩ := fw_step (ys := Pk.le 1 x.op.toNat ++ Pk.le 4 (Pk.num x.dst)) (zs := Pl.nb x.is) (rest := Pl.nb x.gs ++ (Pk.le 4 (Pk.num x.fr) ++ (Pk.le 4 (Pk.num x.to) ++ rest))) (by rw [d3, List.append_assoc]) hn
  rw [← List.append_assoc] at d2
  obtain ⟨d1, r2, b2⟩ := fw_step (ys := Pk.le 1 x.op.toNat) (zs := Pk.le 4 (Pk.num x.dst)) (rest := Pl.nb x.is ++ (Pl.nb x.gs ++ (Pk.le 4 (Pk.num x.fr) ++ (Pk.le 4 (Pk.num x.to) ++ rest)))) (by rw [d2, List.append_assoc]) hn
  have e1 : Rs.number bs 1 ⟨n, none⟩ = (x.op.toNat, ⟨n + (Pk.le 1 x.op.toNat).length, none⟩) := Rs.number_fw bs 1 x.op.toNat (by have := hx.op; omega) n _ d1 hn
  have e2 := Rs.signed_fw bs x.dst hx.dst _ _ r2 b2
  have e3 := Rs.numbers_fw bs x.is hx.li hx.is _ _ r3 b3
  have e4 := Rs.numbers_fw bs x.gs hx.lg hx.gs _ _ r4 b4
  have e5 := Rs.signed_fw bs x.fr hx.fr _ _ r5 b5
  have e6 := Rs.signed_fw bs x.to hx.to _ _ r6 b6
  simp only [List.length_append, ← Nat.add_assoc] at e1 e2 e3 e4 e5 e6 ⊢
  show Rs.instr bs ⟨n, none⟩ = _
  have s1 : Rs.i1 bs ⟨n, none⟩ = ⟨n + (Pk.le 1 x.op.toNat).length, none⟩ := by unfold Rs.i1; rw [e1]
  have s2 : Rs.i2 bs ⟨n, none⟩ = ⟨n + (Pk.le 1 x.op.toNat).length + (Pk.le 4 (Pk.num x.dst)).length, none⟩ := by unfold Rs.i2; rw [s1, e2]
  have s3 : Rs.i3 bs ⟨n, none⟩ = ⟨n + (Pk.le 1 x.op.toNat).length + (Pk.le 4 (Pk.num x.dst)).length + (Pl.nb x.is).length, none⟩ := by unfold Rs.i3; rw [s2, e3]
  have s4 : Rs.i4 bs ⟨n, none⟩ = ⟨n + (Pk.le 1 x.op.toNat).length + (Pk.le 4 (Pk.num x.dst)).length + (Pl.nb x.is).length + (Pl.nb x.gs).length, none⟩ := by unfold Rs.i4; rw [s3, e4]
  have s5 : Rs.i5 bs ⟨n, none⟩ = ⟨n + (Pk.le 1 x.op.toNat).length + (Pk.le 4 (Pk.num x.dst)).length + (Pl.nb x.is).length + (Pl.nb x.gs).length + (Pk.le 4 (Pk.num x.fr)).length, none⟩ := by unfold Rs.i5; rw [s4, e5]
  unfold Rs.instr Rs.i6
  rw [s1, s2, s3, s4, s5, e1, e2, e3, e4, e5, e6]
  dsimp only
  rw [Int.toNat_of_nonneg hx.op.1]
theorem Rs.view_fw (bs : List Nat) (v : VwP) (h1 : Pl.far v.1 = false) (h2 : v.2.1.length ≤ 7) (h3 : ∀ z ∈ v.2.1, Pl.dim z = false) (i : Nat) : Rs.Fw bs (Rs.view bs i) v (Pl.vbytes v) := by
  intro n rest hd hn
  unfold Pl.vbytes at hd ⊢
  obtain ⟨d1, r2, b2⟩ := fw_step hd hn
  have e1 := Rs.signed_fw bs v.1 h1 n _ d1 hn
  have e2 := Rs.desc_fw bs v.2.1 v.2.2 h2 h3 _ _ r2 b2
  dsimp only at e1 e2
  unfold Rs.view
  rw [e1]
  dsimp only
  rw [e2, List.length_append, Nat.add_assoc]
theorem Rs.tens_fw (bs : List Nat) (t : TnP) (h : Tens.fault t.1 t.2.1 t.2.2 = (0, none)) (i : Nat) : Rs.Fw bs (Rs.tens bs i) t (Pl.tbytes t) := by
  intro n rest hd hn
  unfold Pl.tbytes at hd ⊢
  have hr : Rs.rest bs ⟨n, none⟩ = Tens.bytes t.1 t.2.1 t.2.2 ++ rest := hd
  obtain ⟨b1, b2, b3, b4, b5, -⟩ := Tens.back h rest
  have g1 : Tens.rez (Rs.rest bs ⟨n, none⟩) = t.1 := by unfold Tens.rez; rw [hr, if_pos b1, b2]
  have g2 : Tens.reu (Rs.rest bs ⟨n, none⟩) = t.2.1 := by unfold Tens.reu; rw [hr, if_pos b1, b3]
  have g3 : Tens.red (Rs.rest bs ⟨n, none⟩) = t.2.2 := by unfold Tens.red; rw [hr, if_pos b1, b3, b5]
  have g4 : Tens.ren (Rs.rest bs ⟨n, none⟩) = (Tens.bytes t.1 t.2.1 t.2.2).length := by unfold Tens.ren; rw [hr, if_pos b1, b4]
  have g5 : Tens.rcode (Rs.rest bs ⟨n, none⟩) = 0 := by rw [hr]; exact b1
  have g6 : Rs.piece bs (Tens.bytes t.1 t.2.1 t.2.2).length ⟨n, none⟩ = (Tens.bytes t.1 t.2.1 t.2.2, ⟨n + (Tens.bytes t.1 t.2.1 t.2.2).length, none⟩) := Rs.piece_fw bs _ n rest hd hn
  unfold Rs.tens
  rw [g1, g2, g3, g4, g5]
  unfold Rs.took
  rw [if_neg (by decide), if_neg (by decide), g6]
end Go.Proofs.YthjnkaikjjjceaaDoor
