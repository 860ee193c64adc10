/-
  The plans that the law PlanBounds makes: rows of views, ins, args, looks that are nothing. By an AI agent. No person has read it.
-/
import Derived.Test.YthjnkaikjjjceaaDoorPbPlanAgain
import Derived.Test.YthjnkaikjjjceaaDoorPbBasA
namespace Go.Proofs.YthjnkaikjjjceaaDoor
open Go.RowKit
def Dsc.zero : Dsc := ⟨none, [], 0, false⟩
def Vw.zero : Vw := ⟨0, Dsc.zero⟩
theorem made_views (n : Nat) (hn : n ≤ 1000000) : ∃ Z : Array Value, Hid (Z = ((List.replicate n Vw.zero).flatMap Vw.vals).toArray) ∧ ∀ w : World, (Instr.makeSlice 22 (.int .i64 n) (.int .i64 n)).run Tryd.prog w = .ok (.slice (some ⟨w.heap.size, 0, none⟩) n n) (w.alloc (.cells Z 61)) := by
  obtain ⟨i0, hi0, hz0, hz1, hz2⟩ := view_info
  refine ⟨madeCells (Value.agg #[.int .i64 0, .slice none 0 0, .bool false]).cells (n * 3), hide ?_, fun w => ?_⟩
  · apply Array.ext'
    rw [List.flatMap_def, List.map_replicate]
    exact made_flat #[.int .i64 0, .slice none 0 0, .bool false] n (by decide)
  · have h := run_make (P := Tryd.prog) w 22 61 i0 (.agg #[.int .i64 0, .slice none 0 0, .bool false]) uds_view hi0 hz0 .i64 .i64 (n : Int) (n : Int) (by omega) (by omega) (by rw [hz2]; omega) (by omega)
    rw [hz1, Int.toNat_natCast] at h
    exact h
theorem made_descs (n : Nat) (hn : n ≤ 1000000) : ∃ Z : Array Value, Hid (Z = ((List.replicate n Dsc.zero).flatMap Dsc.vals).toArray) ∧ ∀ w : World, (Instr.makeSlice 24 (.int .i64 n) (.int .i64 n)).run Tryd.prog w = .ok (.slice (some ⟨w.heap.size, 0, none⟩) n n) (w.alloc (.cells Z 59)) := by
  obtain ⟨i0, hi0, hz0, hz1, hz2⟩ := desc_info
  refine ⟨madeCells (Value.agg #[.slice none 0 0, .bool false]).cells (n * 2), hide ?_, fun w => ?_⟩
  · apply Array.ext'
    rw [List.flatMap_def, List.map_replicate]
    exact made_flat #[.slice none 0 0, .bool false] n (by decide)
  · have h := run_make (P := Tryd.prog) w 24 59 i0 (.agg #[.slice none 0 0, .bool false]) uds_desc hi0 hz0 .i64 .i64 (n : Int) (n : Int) (by omega) (by omega) (by rw [hz2]; omega) (by omega)
    rw [hz1, Int.toNat_natCast] at h
    exact h
def Pn.nv (n : Nat) (V : Option Addr) : Pn := ⟨0, V, List.replicate n Vw.zero, n, none, [], 0, none, [], 0, none, [], 0, 0, 0⟩
def Pn.nl (n : Nat) (L : Option Addr) : Pn := ⟨0, none, [], 0, none, [], 0, L, List.replicate n Dsc.zero, n, none, [], 0, 0, 0⟩
def Pn.ni (n : Nat) (I K : Option Addr) : Pn := ⟨0, none, [], 0, none, [], 0, none, [], 0, K, [⟨24, 0, I, List.replicate n 0, n, none, [], 0, 0, 0⟩], 1, 0, 0⟩
def Pn.ng (n : Nat) (G K : Option Addr) : Pn := ⟨0, none, [], 0, none, [], 0, none, [], 0, K, [⟨24, 0, none, [], 0, G, List.replicate n 0, n, 0, 0⟩], 1, 0, 0⟩
theorem Ri.zeros {w : World} {g n : Nat} (h : Has w g 3 (i64s (List.replicate n 0))) : Ri w (some ⟨g, 0, none⟩) (List.replicate n 0) := Has.ri h fun z hz => by rw [List.eq_of_mem_replicate hz]; rfl
theorem nv_in {w : World} {g n : Nat} (hn : n ≤ 1000000) (h : Has w g 61 ((List.replicate n Vw.zero).flatMap Vw.vals)) : (Pn.nv n (some ⟨g, 0, none⟩)).In w := by
  refine ⟨h.row, ?_, Row.nil _ _, (fun v hv => by cases hv), Row.nil _ _, (fun v hv => by cases hv), Row.nil _ _, (fun v hv => by cases hv), ?_, Nat.zero_le _, Nat.zero_le _, Nat.zero_le _⟩
  · intro v hv
    obtain rfl := List.eq_of_mem_replicate hv
    exact ⟨⟨Ri.nil _ _, Nat.zero_le _⟩⟩
  · show (List.replicate n Vw.zero).length ≤ _
    rw [List.length_replicate]
    exact hn
theorem nl_in {w : World} {g n : Nat} (hn : n ≤ 1000000) (h : Has w g 59 ((List.replicate n Dsc.zero).flatMap Dsc.vals)) : (Pn.nl n (some ⟨g, 0, none⟩)).In w := by
  refine ⟨Row.nil _ _, (fun v hv => by cases hv), Row.nil _ _, (fun v hv => by cases hv), h.row, ?_, Row.nil _ _, (fun v hv => by cases hv), Nat.zero_le _, Nat.zero_le _, ?_, Nat.zero_le _⟩
  · intro v hv
    obtain rfl := List.eq_of_mem_replicate hv
    exact ⟨Ri.nil _ _, Nat.zero_le _⟩
  · show (List.replicate n Dsc.zero).length ≤ _
    rw [List.length_replicate]
    exact hn
theorem ni_in {w : World} {g k n : Nat} (hn : n ≤ 1000000) (h : Has w g 3 (i64s (List.replicate n 0))) (hk : Has w k 48 [.int .i64 24, .int .i64 0, .slice (some ⟨g, 0, none⟩) n n, .slice none 0 0, .int .i64 0, .int .i64 0]) : (Pn.ni n (some ⟨g, 0, none⟩) (some ⟨k, 0, none⟩)).In w := by
  refine ⟨Row.nil _ _, (fun v hv => by cases hv), Row.nil _ _, (fun v hv => by cases hv), Row.nil _ _, (fun v hv => by cases hv), ?_, ?_, Nat.zero_le _, Nat.zero_le _, Nat.zero_le _, by show 1 ≤ 1000000; omega⟩
  · have h2 := hk.row
    unfold Pn.ni
    rw [List.flatMap_singleton]
    unfold Ins.vals
    rw [List.length_replicate]
    exact h2
  · intro v hv
    obtain rfl := List.mem_singleton.1 hv
    refine ⟨Ri.zeros h, Ri.nil _ _, ?_, Nat.zero_le _⟩
    show (List.replicate n (0 : Int)).length ≤ _
    rw [List.length_replicate]
    exact hn
theorem ng_in {w : World} {g k n : Nat} (hn : n ≤ 1000000) (h : Has w g 3 (i64s (List.replicate n 0))) (hk : Has w k 48 [.int .i64 24, .int .i64 0, .slice none 0 0, .slice (some ⟨g, 0, none⟩) n n, .int .i64 0, .int .i64 0]) : (Pn.ng n (some ⟨g, 0, none⟩) (some ⟨k, 0, none⟩)).In w := by
  refine ⟨Row.nil _ _, (fun v hv => by cases hv), Row.nil _ _, (fun v hv => by cases hv), Row.nil _ _, (fun v hv => by cases hv), ?_, ?_, Nat.zero_le _, Nat.zero_le _, Nat.zero_le _, by show 1 ≤ 1000000; omega⟩
  · have h2 := hk.row
    unfold Pn.ng
    rw [List.flatMap_singleton]
    unfold Ins.vals
    rw [List.length_replicate]
    exact h2
  · intro v hv
    obtain rfl := List.mem_singleton.1 hv
    refine ⟨Ri.nil _ _, Ri.zeros h, Nat.zero_le _, ?_⟩
    show (List.replicate n (0 : Int)).length ≤ _
    rw [List.length_replicate]
    exact hn
theorem any_rep {α : Type} (f : α → Bool) (x : α) (n : Nat) (h : f x = false) : (List.replicate n x).any f = false := by
  rw [List.any_eq_false]
  intro y hy
  rw [List.eq_of_mem_replicate hy, h]
  decide
theorem nv_fault (n : Nat) (V : Option Addr) : Pl.fault (Pn.nv n V) = if decide (128 < n) = true then some (none, 3) else none := by
  have h1 : Pl.over (Pn.nv n V) = decide (128 < n) := by
    show ((decide (128 < (List.replicate n Vw.zero).length) || (false || (false || false))) || (false || ((List.replicate n Vw.zero).map Vw.d ++ []).any Pl.deep)) = _
    rw [List.append_nil, List.map_replicate, any_rep _ _ _ (by decide), List.length_replicate]
    simp only [Bool.or_false]
  have h2 : Pl.broad (Pn.nv n V) = false := by
    show ([0, 0, 0].any Pl.far || (((List.replicate n Vw.zero).any fun v => [v.off].any Pl.far) || ((((List.replicate n Vw.zero).map Vw.d ++ []).any fun d => d.zs.any Pl.dim) || false))) = _
    rw [List.append_nil, List.map_replicate, any_rep _ _ _ (by decide), any_rep _ _ _ (by decide)]
    decide
  unfold Pl.fault
  rw [h1, h2]
  rfl
theorem nl_fault (n : Nat) (L : Option Addr) : Pl.fault (Pn.nl n L) = if decide (8 < n) = true then some (none, 3) else none := by
  have h1 : Pl.over (Pn.nl n L) = decide (8 < n) := by
    show ((false || (false || (decide (8 < (List.replicate n Dsc.zero).length) || false))) || (false || ([] ++ List.replicate n Dsc.zero).any Pl.deep)) = _
    rw [List.nil_append, any_rep _ _ _ (by decide), List.length_replicate]
    simp only [Bool.or_false, Bool.false_or]
  have h2 : Pl.broad (Pn.nl n L) = false := by
    show ([0, 0, 0].any Pl.far || (false || ((([] ++ List.replicate n Dsc.zero).any fun d => d.zs.any Pl.dim) || false))) = _
    rw [List.nil_append, any_rep _ _ _ (by decide)]
    decide
  unfold Pl.fault
  rw [h1, h2]
  rfl
theorem ni_fault (n : Nat) (I K : Option Addr) : Pl.fault (Pn.ni n I K) = if decide (8 < n) = true then some (none, 3) else none := by
  have h1 : Pl.over (Pn.ni n I K) = decide (8 < n) := by
    show ((false || (false || (false || false))) || ((decide (8 < (List.replicate n (0 : Int)).length ∨ 8 < 0) || false) || false)) = _
    rw [List.length_replicate]
    simp
  have h2 : Pl.broad (Pn.ni n I K) = false := by
    show ([0, 0, 0].any Pl.far || (false || (false || (((decide ((24 : Int) < 0) || decide ((255 : Int) < 24)) || ([0, 0, 0].any Pl.far || ((List.replicate n 0).any Pl.far || false))) || false)))) = _
    rw [any_rep _ _ _ (by decide)]
    decide
  unfold Pl.fault
  rw [h1, h2]
  rfl
theorem ng_fault (n : Nat) (G K : Option Addr) : Pl.fault (Pn.ng n G K) = if decide (8 < n) = true then some (none, 3) else none := by
  have h1 : Pl.over (Pn.ng n G K) = decide (8 < n) := by
    show ((false || (false || (false || false))) || ((decide (8 < 0 ∨ 8 < (List.replicate n (0 : Int)).length) || false) || false)) = _
    rw [List.length_replicate]
    simp
  have h2 : Pl.broad (Pn.ng n G K) = false := by
    show ([0, 0, 0].any Pl.far || (false || (false || (((decide ((24 : Int) < 0) || decide ((255 : Int) < 24)) || ([0, 0, 0].any Pl.far || (false || (List.replicate n 0).any Pl.far))) || false)))) = _
    rw [any_rep _ _ _ (by decide)]
    decide
  unfold Pl.fault
  rw [h1, h2]
  rfl
theorem nv_len (n : Nat) (V : Option Addr) (hn : n ≤ 1000) : (Pl.bytes (Pn.nv n V).pl).length ≤ 1000000 := by
  have h : (Pl.bytes (Pn.nv n V).pl).length = 22 + n * 5 := by
    unfold Pl.bytes Pl.body Pn.pl Pn.nv
    dsimp only
    rw [List.map_replicate]
    simp only [List.length_append, Pk.le_length, len_rep, List.map_nil, List.flatMap_nil, List.length_nil, Pl.code]
    rw [show (Pl.vbytes Vw.zero.pl).length = 5 from rfl]
    simp only [List.length_cons, List.length_nil]
    omega
  omega
theorem nl_len (n : Nat) (L : Option Addr) (hn : n ≤ 1000) : (Pl.bytes (Pn.nl n L).pl).length ≤ 1000000 := by
  have h : (Pl.bytes (Pn.nl n L).pl).length = 22 + n := by
    unfold Pl.bytes Pl.body Pn.pl Pn.nl
    dsimp only
    rw [List.map_replicate]
    simp only [List.length_append, Pk.le_length, len_rep, List.map_nil, List.flatMap_nil, List.length_nil, Pl.code]
    rw [show (Pl.dbytes Dsc.zero.pl).length = 1 from rfl]
    simp only [List.length_cons, List.length_nil]
    omega
  omega
theorem ni_len (n : Nat) (I K : Option Addr) (hn : n ≤ 1000) : (Pl.bytes (Pn.ni n I K).pl).length ≤ 1000000 := by
  have h : (Pl.bytes (Pn.ni n I K).pl).length = 37 + n * 4 := by
    unfold Pl.bytes Pl.body Pn.pl Pn.ni Pl.code
    simp only [List.length_append, Pk.le_length, List.map_cons, List.map_nil, List.flatMap_nil, List.length_nil, List.flatMap_cons, InP.bytes_len, Ins.pl, List.length_replicate, List.length_cons]
    omega
  omega
theorem ng_len (n : Nat) (G K : Option Addr) (hn : n ≤ 1000) : (Pl.bytes (Pn.ng n G K).pl).length ≤ 1000000 := by
  have h : (Pl.bytes (Pn.ng n G K).pl).length = 37 + n * 4 := by
    unfold Pl.bytes Pl.body Pn.pl Pn.ng Pl.code
    simp only [List.length_append, Pk.le_length, List.map_cons, List.map_nil, List.flatMap_nil, List.length_nil, List.flatMap_cons, InP.bytes_len, Ins.pl, List.length_replicate, List.length_cons]
    omega
  omega
end Go.Proofs.YthjnkaikjjjceaaDoor
namespace Go.Proofs.YthjnkaikjjjceaaDoor
open Go.RowKit
theorem nv_tmod (n : Int) (m : Nat) : n.tmod (m : Int) % (m : Int) = n % (m : Int) := by
  have h := Int.mul_tdiv_add_tmod n (m : Int)
  have h2 : ((m : Int) * n.tdiv m + n.tmod m) % (m : Int) = n.tmod m % (m : Int) := by rw [Int.add_comm, Int.add_mul_emod_self_left]
  rw [h] at h2
  exact h2.symm
set_option maxRecDepth 100000 in
theorem number_v0 (n : Int) (m : Nat) (h0 : 0 < m) (hm : m ≤ 4611686018427387904) (M : Int) (hM : M = (m : Int)) (w : World) :
    Calls Tryd.prog 13 #[.int .i64 n, .int .i64 M] w fun e w' => e = .returned (.int .i64 (n % M)) ∧ w' = w := by
  subst hM
  have e1 : n.tmod (m : Int) < m := Int.tmod_lt_of_pos n (by omega)
  have e2 : -(m : Int) < n.tmod (m : Int) := by
    have := Int.tmod_lt_of_pos (-n) (b := (m : Int)) (by omega)
    rw [Int.neg_tmod] at this
    omega
  have e9 : n % (m : Int) = (n.tmod (m : Int) + m) % (m : Int) := by rw [Int.add_emod_right, nv_tmod]
  obtain ⟨a, ha⟩ : ∃ a, Hid (n.tmod (m : Int) + m = a) := ⟨_, hide rfl⟩
  have ha0 : 0 < a := by have := ha.out; omega
  have ha1 : a ≤ 9223372036854775807 := by have := ha.out; omega
  have e3 : a.tmod (m : Int) = a % m := Int.tmod_eq_emod_of_nonneg (by omega)
  have e4 : 0 ≤ a % (m : Int) := Int.emod_nonneg _ (by omega)
  have e5 : a % (m : Int) < m := Int.emod_lt_of_pos _ (by omega)
  rw [e9, ha.out]
  clear e9
  obtain ⟨k, hk⟩ : ∃ k : Int, a % (m : Int) = k := ⟨_, rfl⟩
  rw [hk] at e3 e4 e5 ⊢
  have hx := ha.out
  have h0' : (m : Int) ≠ 0 := by omega
  clear hk
  go_enter Tryd.func13, Tryd.ntmps13
  go_wp2_with fail
  go_ret
  exact ⟨rfl, rfl⟩
/-- The number below m that stands for z. -/
def numv (z : Int) (m : Nat) : Nat := (z % (m : Int)).toNat
theorem numv_lt (z : Int) (m : Nat) (h0 : 0 < m) : numv z m < m := by
  have e4 : 0 ≤ z % (m : Int) := Int.emod_nonneg _ (by omega)
  have e5 : z % (m : Int) < m := Int.emod_lt_of_pos _ (by omega)
  unfold numv
  omega
theorem number_v (n : Int) (m : Nat) (h0 : 0 < m) (hm : m ≤ 4611686018427387904) (M : Int) (hM : M = (m : Int)) (w : World) :
    Calls Tryd.prog 13 #[.int .i64 n, .int .i64 M] w fun e w' => e = .returned (.int .i64 (numv n m : Nat)) ∧ w' = w := by
  have h := number_v0 n m h0 hm M hM w
  rw [hM] at h ⊢
  have e : n % (m : Int) = ((numv n m : Nat) : Int) := by
    unfold numv
    rw [Int.toNat_of_nonneg (Int.emod_nonneg _ (by omega))]
  rw [e] at h
  exact h
end Go.Proofs.YthjnkaikjjjceaaDoor
