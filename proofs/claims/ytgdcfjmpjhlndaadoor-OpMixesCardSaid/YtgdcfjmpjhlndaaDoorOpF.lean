/-
  Operations over what looks as package lodgelaw12's OpUnits has it: they may be, and what they cost. By an AI agent. No person has read it.
-/
import Derived.Test.YtgdcfjmpjhlndaaDoorOpE
namespace Go.Proofs.YtgdcfjmpjhlndaaDoor
open Go.RowKit

theorem Shp.code_ok {zs : List Int} (h1 : zs.length ≤ 4) (h2 : ∀ z ∈ zs, 1 ≤ z ∧ z ≤ 256) (h3 : Shp.prod zs ≤ 16384) : Shp.code zs = 0 := by
  unfold Shp.code
  rw [if_neg (by omega), if_neg, if_neg (by omega)]
  intro h
  have : zs.all Shp.okDim = true := List.all_eq_true.2 fun z hz => decide_eq_true (h2 z hz)
  rw [this] at h
  cases h
theorem Shp.elems_ok {zs : List Int} (h1 : zs.length ≤ 4) (h2 : ∀ z ∈ zs, 1 ≤ z ∧ z ≤ 256) (h3 : Shp.prod zs ≤ 16384) : Shp.elems zs = Shp.prod zs := by
  have h := (Shp.whole (Shp.code_ok h1 h2 h3)).2.2.1
  exact h
theorem Op.ok1 (M : Nat) (h : 1 ≤ M ∧ M ≤ 256) : Shp.code [(M : Int)] = 0 := Shp.code_ok (by simp) (fun z hz => by simp at hz; omega) (by simp [Shp.prod]; omega)
theorem Op.ok2 (M K : Nat) (h : 1 ≤ M ∧ M ≤ 20) (h2 : 1 ≤ K ∧ K ≤ 20) : Shp.code [(M : Int), (K : Int)] = 0 := by
  refine Shp.code_ok (by simp) (fun z hz => by simp at hz; omega) ?_
  have := Nat.mul_le_mul h.2 h2.2
  simp only [Shp.prod, Int.mul_one]
  rw [← Int.natCast_mul]
  omega
theorem Op.ok3 (M K L : Nat) (h : 1 ≤ M ∧ M ≤ 20) (h2 : 1 ≤ K ∧ K ≤ 20) (h3 : 1 ≤ L ∧ L ≤ 20) : Shp.code [(M : Int), (K : Int), (L : Int)] = 0 := by
  refine Shp.code_ok (by simp) (fun z hz => by simp at hz; omega) ?_
  have := Nat.mul_le_mul h.2 (Nat.mul_le_mul h2.2 h3.2)
  simp only [Shp.prod, Int.mul_one]
  rw [← Int.natCast_mul, ← Int.natCast_mul]
  omega
theorem Op.ok4 (M K L : Nat) (h : 1 ≤ M ∧ M ≤ 20) (h2 : 1 ≤ K ∧ K ≤ 20) (h3 : 1 ≤ L ∧ L ≤ 20) : Shp.code [(M : Int), (K : Int), (L : Int), 1] = 0 := by
  refine Shp.code_ok (by simp) (fun z hz => by simp at hz; omega) ?_
  have := Nat.mul_le_mul h.2 (Nat.mul_le_mul h2.2 h3.2)
  simp only [Shp.prod, Int.mul_one]
  rw [← Int.natCast_mul, ← Int.natCast_mul]
  omega
theorem Shp.first_two {a b : Dsc} (ha : Shp.code a.zs = 0) (hb : Shp.code b.zs = 0) : Shp.firstbad [a, b] = 0 := by
  unfold Shp.firstbad
  rw [if_pos ha]
  unfold Shp.firstbad
  rw [if_pos hb]
  rfl
theorem Shp.first_one {a : Dsc} (ha : Shp.code a.zs = 0) : Shp.firstbad [a] = 0 := by
  unfold Shp.firstbad
  rw [if_pos ha]
  rfl
theorem Op.look_of {op : Int} {qs : List Int} {ds : List Dsc} (hk : Op.known op) (hf : Op.fits op qs ds) : Op.look op qs ds = Op.look2 op qs ds := by
  unfold Op.look
  rw [if_neg (fun h => h hk), if_neg (fun h => h hf)]
theorem Op.unit_of {op : Int} {qs : List Int} {ds : List Dsc} (h : (Op.look op qs ds).1 = 0) : Op.unit op qs ds = if op = 10 then 2 else if op = 12 then (ds.getD 0 Op.no).zs.getD 1 0 else if op = 13 then Shp.elems ((ds.getD 1 Op.no).zs.take 3) else if op = 14 ∨ op = 15 then qs.getD 0 0 * qs.getD 0 0
      else if op = 16 ∨ op = 19 ∨ op = 20 then (ds.getD 0 Op.no).zs.getD ((ds.getD 0 Op.no).zs.length - 1) 0 else 1 := if_neg (fun h2 => h2 h)
/-- A product of matrices. -/
theorem Op.mat_ok (p q : Option Addr) (M K N : Nat) (hM : 1 ≤ M ∧ M ≤ 20) (hK : 1 ≤ K ∧ K ≤ 20) (hN : 1 ≤ N ∧ N ≤ 20) :
    (Op.look 12 [0, 0] [⟨p, [(M : Int), (K : Int)], 2, false⟩, ⟨q, [(K : Int), (N : Int)], 2, false⟩]).1 = 0 ∧ Op.unit 12 [0, 0] [⟨p, [(M : Int), (K : Int)], 2, false⟩, ⟨q, [(K : Int), (N : Int)], 2, false⟩] = K := by
  have h : (Op.look 12 [0, 0] [⟨p, [(M : Int), (K : Int)], 2, false⟩, ⟨q, [(K : Int), (N : Int)], 2, false⟩]).1 = 0 := by
    rw [Op.look_of (by decide) ⟨rfl, fun _ => rfl⟩]
    show Mat.code 0 0 ⟨p, [(M : Int), (K : Int)], 2, false⟩ ⟨q, [(K : Int), (N : Int)], 2, false⟩ = 0
    unfold Mat.code
    rw [if_neg (by rw [Shp.first_two (Op.ok2 M K hM hK) (Op.ok2 K N hK hN)]; simp), if_neg (by simp), if_neg (by decide)]
    exact Op.ok2 M N hM hN
  refine ⟨h, ?_⟩
  rw [Op.unit_of h]
  rfl
/-- A convolution. -/
theorem Op.conv_ok (p q : Option Addr) (P Q N : Nat) (hP : 1 ≤ P ∧ P ≤ 9) (hQ : 1 ≤ Q ∧ Q ≤ 9) (hN : 1 ≤ N ∧ N ≤ 20) :
    (Op.look 13 [1, 0, 0] [⟨p, [20, 20, (N : Int)], 3, false⟩, ⟨q, [(P : Int), (Q : Int), (N : Int), 1], 4, false⟩]).1 = 0 ∧ Op.unit 13 [1, 0, 0] [⟨p, [20, 20, (N : Int)], 3, false⟩, ⟨q, [(P : Int), (Q : Int), (N : Int), 1], 4, false⟩] = ((P * Q * N : Nat) : Int) := by
  have h : (Op.look 13 [1, 0, 0] [⟨p, [20, 20, (N : Int)], 3, false⟩, ⟨q, [(P : Int), (Q : Int), (N : Int), 1], 4, false⟩]).1 = 0 := by
    rw [Op.look_of (by decide) ⟨rfl, fun _ => rfl⟩]
    show Cv.code [1, 0, 0] ⟨p, [20, 20, (N : Int)], 3, false⟩ ⟨q, [(P : Int), (Q : Int), (N : Int), 1], 4, false⟩ = 0
    unfold Cv.code
    rw [if_neg (by simp), if_neg (by rw [Shp.first_two (Op.ok3 20 20 N (by decide) (by decide) hN) (Op.ok4 P Q N (by omega) (by omega) hN)]; simp), if_neg (by simp), if_neg (by decide),
      if_neg (by show ¬ ((P : Int) > 20 + 2 * 0 ∨ (Q : Int) > 20 + 2 * 0); omega)]
    have e : Cv.dims [1, 0, 0] ⟨p, [20, 20, (N : Int)], 3, false⟩ ⟨q, [(P : Int), (Q : Int), (N : Int), 1], 4, false⟩ = [((21 - P : Nat) : Int), ((21 - Q : Nat) : Int), ((1 : Nat) : Int)] := by
      unfold Cv.dims Cv.reach
      simp
      omega
    rw [e]
    exact Op.ok3 _ _ 1 (by omega) (by omega) (by decide)
  refine ⟨h, ?_⟩
  rw [Op.unit_of h]
  show Shp.elems [(P : Int), (Q : Int), (N : Int)] = _
  have hp : Shp.prod [(P : Int), (Q : Int), (N : Int)] = ((P * Q * N : Nat) : Int) := by
    simp only [Shp.prod, Int.mul_one]
    rw [← Int.natCast_mul, ← Int.natCast_mul, Nat.mul_assoc]
  have := Nat.mul_le_mul (Nat.mul_le_mul hP.2 hQ.2) hN.2
  rw [Shp.elems_ok (by simp) (fun z hz => by simp at hz; omega) (by rw [hp]; omega), hp]
/-- A pool. -/
theorem Op.pool_ok (p : Option Addr) (S N : Nat) (hS : 1 ≤ S ∧ S ≤ 16) (hN : 1 ≤ N ∧ N ≤ 20) :
    (Op.look 14 [(S : Int), 1] [⟨p, [20, 20, (N : Int)], 3, false⟩]).1 = 0 ∧ Op.unit 14 [(S : Int), 1] [⟨p, [20, 20, (N : Int)], 3, false⟩] = ((S * S : Nat) : Int) := by
  have h : (Op.look 14 [(S : Int), 1] [⟨p, [20, 20, (N : Int)], 3, false⟩]).1 = 0 := by
    rw [Op.look_of (by decide) ⟨rfl, fun _ => rfl⟩]
    show Pl.code [(S : Int), 1] ⟨p, [20, 20, (N : Int)], 3, false⟩ = 0
    unfold Pl.code
    rw [if_neg (by simp), if_neg (fun h => h (Op.ok3 20 20 N (by decide) (by decide) hN)), if_neg (by simp), if_neg (by show ¬ ((S : Int) < 1 ∨ (S : Int) > 16 ∨ (1 : Int) < 1 ∨ (1 : Int) > 16); omega), if_neg (by show ¬ ((S : Int) > 20 ∨ (S : Int) > 20); omega)]
  refine ⟨h, ?_⟩
  rw [Op.unit_of h]
  show (S : Int) * (S : Int) = _
  rw [← Int.natCast_mul]
/-- Sums. -/
theorem Op.sum_ok (p : Option Addr) (M K : Nat) (hM : 1 ≤ M ∧ M ≤ 20) (hK : 1 ≤ K ∧ K ≤ 20) :
    (Op.look 20 [] [⟨p, [(M : Int), (K : Int)], 2, false⟩]).1 = 0 ∧ Op.unit 20 [] [⟨p, [(M : Int), (K : Int)], 2, false⟩] = K := by
  have h : (Op.look 20 [] [⟨p, [(M : Int), (K : Int)], 2, false⟩]).1 = 0 := by
    rw [Op.look_of (by decide) ⟨rfl, fun _ => rfl⟩]
    show Sf.code 20 [⟨p, [(M : Int), (K : Int)], 2, false⟩] = 0
    unfold Sf.code
    rw [if_neg (fun h => h rfl), if_neg (by rw [Shp.first_one (Op.ok2 M K hM hK)]; simp)]
    exact Op.ok1 M (by omega)
  refine ⟨h, ?_⟩
  rw [Op.unit_of h]
  rfl
/-- A sum of two, alike. -/
theorem Op.add_ok (p : Option Addr) (M K : Nat) (hM : 1 ≤ M ∧ M ≤ 20) (hK : 1 ≤ K ∧ K ≤ 20) :
    (Op.look 4 [] [⟨p, [(M : Int), (K : Int)], 2, false⟩, ⟨p, [(M : Int), (K : Int)], 2, false⟩]).1 = 0 ∧ Op.unit 4 [] [⟨p, [(M : Int), (K : Int)], 2, false⟩, ⟨p, [(M : Int), (K : Int)], 2, false⟩] = 1 := by
  have h : (Op.look 4 [] [⟨p, [(M : Int), (K : Int)], 2, false⟩, ⟨p, [(M : Int), (K : Int)], 2, false⟩]).1 = 0 := by
    rw [Op.look_of (by decide) ⟨rfl, fun _ => rfl⟩]
    show Elm.code 4 [] [⟨p, [(M : Int), (K : Int)], 2, false⟩, ⟨p, [(M : Int), (K : Int)], 2, false⟩] = 0
    unfold Elm.code
    rw [if_neg (by decide), if_neg (fun h => by rcases h with h | h <;> exact h rfl), if_neg (by rw [Shp.first_two (Op.ok2 M K hM hK) (Op.ok2 M K hM hK)]; simp), if_neg (by simp [Elm.alike])]
    rfl
  refine ⟨h, ?_⟩
  rw [Op.unit_of h]
  rfl
/-- Narrowed. -/
theorem Op.requant_ok (p : Option Addr) (M : Nat) (hM : 1 ≤ M ∧ M ≤ 20) :
    (Op.look 10 [1, 1, 1] [⟨p, [(M : Int)], 1, true⟩]).1 = 0 ∧ Op.unit 10 [1, 1, 1] [⟨p, [(M : Int)], 1, true⟩] = 2 := by
  have h : (Op.look 10 [1, 1, 1] [⟨p, [(M : Int)], 1, true⟩]).1 = 0 := by
    rw [Op.look_of (by decide) ⟨rfl, fun _ => rfl⟩]
    show Elm.code 10 [1, 1, 1] [⟨p, [(M : Int)], 1, true⟩] = 0
    unfold Elm.code
    rw [if_neg (by decide), if_neg (fun h => by rcases h with h | h <;> exact h rfl), if_neg (by rw [Shp.first_one (Op.ok1 M (by omega))]; simp), if_neg (by simp [Elm.alike])]
    rfl
  refine ⟨h, ?_⟩
  rw [Op.unit_of h]
  rfl
end Go.Proofs.YtgdcfjmpjhlndaaDoor
