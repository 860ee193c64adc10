/-
  A plan of one view and one instruction, as the law PlanNumbers makes it. By an AI agent. No person has read it.
-/
import Derived.Test.YthjnkaikjjjceaaDoorPnPlnU
import Derived.Test.YthjnkaikjjjceaaDoorPnPlnQ
import Derived.Test.YthjnkaikjjjceaaDoorPnPlnS
import Derived.Test.YthjnkaikjjjceaaDoorPnBasA
namespace Go.Proofs.YthjnkaikjjjceaaDoor
open Go.RowKit
/-- The plan: one view, one Jump, one arg, one in. -/
def Pn.one (S : Nat) (z off dst a b to inp out : Int) : Pn :=
  ⟨z, some ⟨S, 0, none⟩, [⟨off, ⟨none, [], 0, false⟩⟩], 1, none, [], 0, none, [], 0, some ⟨S + 3, 0, none⟩, [⟨22, dst, some ⟨S + 2, 0, none⟩, [b], 1, some ⟨S + 1, 0, none⟩, [a], 1, 0, to⟩], 1, inp, out⟩
/-- It lies in five blocks. -/
structure PN (w W : World) (S : Nat) (z off dst a b to inp out : Int) : Prop where
  v : Has W S 61 [.int .i64 off, .slice none 0 0, .bool false]
  a : Has W (S + 1) 3 [.int .i64 a]
  b : Has W (S + 2) 3 [.int .i64 b]
  k : Has W (S + 3) 48 [.int .i64 22, .int .i64 dst, .slice (some ⟨S + 2, 0, none⟩) 1 1, .slice (some ⟨S + 1, 0, none⟩) 1 1, .int .i64 0, .int .i64 to]
  p : Has W (S + 4) 27 [.int .i64 z, .slice (some ⟨S, 0, none⟩) 1 1, .slice none 0 0, .slice none 0 0, .slice (some ⟨S + 3, 0, none⟩) 1 1, .int .i64 inp, .int .i64 out]
  bl : Below w.heap.size w W
  s : w.heap.size ≤ S
section
variable {w W : World} {S : Nat} {z off dst a b to inp out : Int}
theorem PN.in_ (h : PN w W S z off dst a b to inp out) (ha : (Lit.int .i64 a).wf = true) (hb : (Lit.int .i64 b).wf = true) : (Pn.one S z off dst a b to inp out).In W := by
  refine ⟨?_, ?_, Row.nil _ _, fun v hv => by simp [Pn.one] at hv, Row.nil _ _, fun v hv => by simp [Pn.one] at hv, ?_, ?_, by show 1 ≤ 1000000; omega, Nat.zero_le _, Nat.zero_le _, by show 1 ≤ 1000000; omega⟩
  · exact Has.row_app (ys := []) (by rw [List.append_nil]; exact h.v)
  · intro v hv
    have hv : v = ⟨off, ⟨none, [], 0, false⟩⟩ := List.mem_singleton.1 hv
    subst hv
    exact ⟨⟨Ri.nil _ _, Nat.zero_le _⟩⟩
  · exact Has.row_app (ys := []) (by rw [List.append_nil]; exact h.k)
  · intro v hv
    have hv : v = ⟨22, dst, some ⟨S + 2, 0, none⟩, [b], 1, some ⟨S + 1, 0, none⟩, [a], 1, 0, to⟩ := List.mem_singleton.1 hv
    subst hv
    refine ⟨?_, ?_, by show 1 ≤ 1000000; omega, by show 1 ≤ 1000000; omega⟩
    · exact Has.ri_app (rest := []) (by rw [List.append_nil]; exact h.b) (fun x hx => by rw [List.mem_singleton.1 hx]; exact hb)
    · exact Has.ri_app (rest := []) (by rw [List.append_nil]; exact h.a) (fun x hx => by rw [List.mem_singleton.1 hx]; exact ha)
theorem PN.low (h : PN w W S z off dst a b to inp out) {W2 : World} (hb : Below W.heap.size W W2) : PN w W2 S z off dst a b to inp out :=
  ⟨h.v.below hb h.v.lt, h.a.below hb h.a.lt, h.b.below hb h.b.lt, h.k.below hb h.k.lt, h.p.below hb h.p.lt, h.bl.trans (hb.mono h.bl.size), h.s⟩
theorem PN.setp (h : PN w W S z off dst a b to inp out) (j : Nat) (u : Value) (z2 inp2 out2 : Int) (hq : [Value.int .i64 z, .slice (some ⟨S, 0, none⟩) 1 1, .slice none 0 0, .slice none 0 0, .slice (some ⟨S + 3, 0, none⟩) 1 1, .int .i64 inp, .int .i64 out].set j u = [Value.int .i64 z2, .slice (some ⟨S, 0, none⟩) 1 1, .slice none 0 0, .slice none 0 0, .slice (some ⟨S + 3, 0, none⟩) 1 1, .int .i64 inp2, .int .i64 out2]) :
    PN w (W.setCell ⟨S + 4, j, none⟩ u) S z2 off dst a b to inp2 out2 :=
  ⟨h.v.far (by simp) u, h.a.far (by simp) u, h.b.far (by simp) u, h.k.far (by simp) u, hq ▸ h.p.set_ j u, h.bl.setCell (by have := h.s; simp; omega) u, h.s⟩
theorem PN.setv (h : PN w W S z off dst a b to inp out) (n : Int) : PN w (W.setCell ⟨S, 0, none⟩ (.int .i64 n)) S z n dst a b to inp out :=
  ⟨h.v.set_ 0 _, h.a.far (by simp) _, h.b.far (by simp) _, h.k.far (by simp) _, h.p.far (by simp) _, h.bl.setCell (by have := h.s; simp; omega) _, h.s⟩
theorem PN.seta (h : PN w W S z off dst a b to inp out) (n : Int) : PN w (W.setCell ⟨S + 1, 0, none⟩ (.int .i64 n)) S z off dst n b to inp out :=
  ⟨h.v.far (by simp) _, h.a.set_ 0 _, h.b.far (by simp) _, h.k.far (by simp) _, h.p.far (by simp) _, h.bl.setCell (by have := h.s; simp; omega) _, h.s⟩
theorem PN.setb (h : PN w W S z off dst a b to inp out) (n : Int) : PN w (W.setCell ⟨S + 2, 0, none⟩ (.int .i64 n)) S z off dst a n to inp out :=
  ⟨h.v.far (by simp) _, h.a.far (by simp) _, h.b.set_ 0 _, h.k.far (by simp) _, h.p.far (by simp) _, h.bl.setCell (by have := h.s; simp; omega) _, h.s⟩
theorem PN.setd (h : PN w W S z off dst a b to inp out) (n : Int) : PN w (W.setCell ⟨S + 3, 1, none⟩ (.int .i64 n)) S z off n a b to inp out :=
  ⟨h.v.far (by simp) _, h.a.far (by simp) _, h.b.far (by simp) _, h.k.set_ 1 _, h.p.far (by simp) _, h.bl.setCell (by have := h.s; simp; omega) _, h.s⟩
theorem PN.sett (h : PN w W S z off dst a b to inp out) (n : Int) : PN w (W.setCell ⟨S + 3, 5, none⟩ (.int .i64 n)) S z off dst a b n inp out :=
  ⟨h.v.far (by simp) _, h.a.far (by simp) _, h.b.far (by simp) _, h.k.set_ 5 _, h.p.far (by simp) _, h.bl.setCell (by have := h.s; simp; omega) _, h.s⟩
end
/-- Which numbers have room. -/
theorem Pl.far_iff (n : Int) : Pl.far n = !decide (-2147483648 ≤ n ∧ n ≤ 2147483647) := by
  unfold Pl.far
  rw [Bool.eq_iff_iff]
  simp only [decide_eq_true_eq, Bool.not_eq_true', decide_eq_false_iff_not]
  unfold Tens.wide
  omega
theorem Pl.one_fault (S : Nat) (z off dst a b to inp out : Int) : Pl.fault (Pn.one S z off dst a b to inp out) = if (Pl.far z || Pl.far off || Pl.far dst || Pl.far a || Pl.far b || Pl.far to || Pl.far inp || Pl.far out) = true then some (none, 1) else none := by
  have h1 : Pl.over (Pn.one S z off dst a b to inp out) = false := rfl
  have h0 : Pl.far 0 = false := by decide
  have h2 : Pl.broad (Pn.one S z off dst a b to inp out) = (Pl.far z || Pl.far off || Pl.far dst || Pl.far a || Pl.far b || Pl.far to || Pl.far inp || Pl.far out) := by
    show ((Pl.far z || (Pl.far inp || (Pl.far out || false))) || (((Pl.far off || false) || false) || ((false || false) || ((((false || false) || ((Pl.far dst || (Pl.far 0 || (Pl.far to || false))) || ((Pl.far b || false) || (Pl.far a || false))))) || false)))) = _
    rw [h0]
    cases Pl.far z <;> cases Pl.far off <;> cases Pl.far dst <;> cases Pl.far a <;> cases Pl.far b <;> cases Pl.far to <;> cases Pl.far inp <;> cases Pl.far out <;> rfl
  unfold Pl.fault
  rw [h1, h2]
  rfl
end Go.Proofs.YthjnkaikjjjceaaDoor
namespace Go.Proofs.YthjnkaikjjjceaaDoor
open Go.RowKit
theorem ReadIs.open_ {W w' : World} {es : List Addr} {bs : List Nat} {e : Ending} (h : ReadIs W w' es bs e) : ∃ (y : RE) (p : Pn) (ev : Value), Hid ((Pl.p12 bs).e = y) ∧ e = .returned (.tuple #[.agg #[.int .i64 p.size, .slice p.V p.vs.length p.vc, .slice p.C p.cs.length p.cc, .slice p.L p.ls.length p.lc, .slice p.K p.is.length p.kc, .int .i64 p.inp, .int .i64 p.out], ev]) ∧ Hid (p.pl = Pl.read bs) ∧ Pw W.heap.size 0 w' p ∧ EV w'.heap.size w' es y ev := by
  unfold ReadIs at h
  obtain ⟨y, hy⟩ : ∃ y, Hid ((Pl.p12 bs).e = y) := ⟨_, hide rfl⟩
  rw [hy.out] at h
  obtain ⟨p, ev, h1, h2, h3, h4⟩ := h
  exact ⟨y, p, ev, hy, h1, hide h2, h3, h4⟩
end Go.Proofs.YthjnkaikjjjceaaDoor
namespace Go.Proofs.YthjnkaikjjjceaaDoor
open Go.RowKit
theorem nv_tmod (n : Int) (m : Nat) : n.tmod (m : Int) % (m : Int) = n % (m : Int) := by
  have h := Int.mul_tdiv_add_tmod n (m : Int)
  have h2 : ((m : Int) * n.tdiv m + n.tmod m) % (m : Int) = n.tmod m % (m : Int) := by rw [Int.add_comm, Int.add_mul_emod_self_left]
  rw [h] at h2
  exact h2.symm
set_option maxRecDepth 100000 in
theorem number_v0 (n : Int) (m : Nat) (h0 : 0 < m) (hm : m ≤ 4611686018427387904) (M : Int) (hM : M = (m : Int)) (w : World) :
    Calls Tryd.prog 13 #[.int .i64 n, .int .i64 M] w fun e w' => e = .returned (.int .i64 (n % M)) ∧ w' = w := by
  subst hM
  have e1 : n.tmod (m : Int) < m := Int.tmod_lt_of_pos n (by omega)
  have e2 : -(m : Int) < n.tmod (m : Int) := by
    have := Int.tmod_lt_of_pos (-n) (b := (m : Int)) (by omega)
    rw [Int.neg_tmod] at this
    omega
  have e9 : n % (m : Int) = (n.tmod (m : Int) + m) % (m : Int) := by rw [Int.add_emod_right, nv_tmod]
  obtain ⟨a, ha⟩ : ∃ a, Hid (n.tmod (m : Int) + m = a) := ⟨_, hide rfl⟩
  have ha0 : 0 < a := by have := ha.out; omega
  have ha1 : a ≤ 9223372036854775807 := by have := ha.out; omega
  have e3 : a.tmod (m : Int) = a % m := Int.tmod_eq_emod_of_nonneg (by omega)
  have e4 : 0 ≤ a % (m : Int) := Int.emod_nonneg _ (by omega)
  have e5 : a % (m : Int) < m := Int.emod_lt_of_pos _ (by omega)
  rw [e9, ha.out]
  clear e9
  obtain ⟨k, hk⟩ : ∃ k : Int, a % (m : Int) = k := ⟨_, rfl⟩
  rw [hk] at e3 e4 e5 ⊢
  have hx := ha.out
  have h0' : (m : Int) ≠ 0 := by omega
  clear hk
  go_enter Tryd.func13, Tryd.ntmps13
  go_wp2_with fail
  go_ret
  exact ⟨rfl, rfl⟩
/-- The number below m that stands for z. -/
def numv (z : Int) (m : Nat) : Nat := (z % (m : Int)).toNat
theorem numv_lt (z : Int) (m : Nat) (h0 : 0 < m) : numv z m < m := by
  have e4 : 0 ≤ z % (m : Int) := Int.emod_nonneg _ (by omega)
  have e5 : z % (m : Int) < m := Int.emod_lt_of_pos _ (by omega)
  unfold numv
  omega
theorem number_v (n : Int) (m : Nat) (h0 : 0 < m) (hm : m ≤ 4611686018427387904) (M : Int) (hM : M = (m : Int)) (w : World) :
    Calls Tryd.prog 13 #[.int .i64 n, .int .i64 M] w fun e w' => e = .returned (.int .i64 (numv n m : Nat)) ∧ w' = w := by
  have h := number_v0 n m h0 hm M hM w
  rw [hM] at h ⊢
  have e : n % (m : Int) = ((numv n m : Nat) : Int) := by
    unfold numv
    rw [Int.toNat_of_nonneg (Int.emod_nonneg _ (by omega))]
  rw [e] at h
  exact h
end Go.Proofs.YthjnkaikjjjceaaDoor
