/-
  Pools, over lists of numbers. cells.div, cells.mean, lodgeref3.div, cells.pool: windows, their greatest and their means. cells.pool: elements of a pool. pool.Result, walked. Pools that are lawful; pool.look, pool.do, pool.Max, pool.Avg, pool.Cell, walked. pool.do, pool.Max, pool.Avg, pool.Cell, walked; the examples of package lodgelaw10. By an AI agent. No person has read it.
-/
import Derived.Test.YtgdcfjmpjhlndaaGreatDoorZFCelC
import Derived.Test.YtgdcfjmpjhlndaaGreatDoorZFMatN
import Derived.Test.YtgdcfjmpjhlndaaGreatDoorZFElmN
import Derived.Test.YtgdcfjmpjhlndaaGreatDoorZFElmS
import Derived.Deep.LoopGhost
import Derived.Deep.RegionLaw
import Derived.RegionTactic
import Derived.ChangeAlike
import Derived.BigRegion
namespace Go.Proofs.YtgdcfjmpjhlndaaGreatDoor
open Go.RowKit
/-- The sum of the first k; the greatest of the first k, and of the first. -/
def Pl.add (f : Nat → Int) : Nat → Int
  | 0 => 0
  | k + 1 => Pl.add f k + f k
def Pl.top (f : Nat → Int) : Nat → Int
  | 0 => f 0
  | k + 1 => max (Pl.top f k) (f k)
theorem Pl.add_le (f : Nat → Int) (B : Int) (k : Nat) (h : ∀ i, i < k → -B ≤ f i ∧ f i ≤ B) : -(B * k) ≤ Pl.add f k ∧ Pl.add f k ≤ B * k := by
  induction k with
  | zero => exact ⟨by simp [Pl.add], by simp [Pl.add]⟩
  | succ k ih =>
    have h1 := h k (by omega)
    have h2 := ih (fun i hi => h i (by omega))
    show -(B * ((k + 1 : Nat) : Int)) ≤ Pl.add f k + f k ∧ Pl.add f k + f k ≤ B * ((k + 1 : Nat) : Int)
    rw [Int.natCast_add, Int.mul_add]
    omega
theorem Pl.top_le (f : Nat → Int) (A B : Int) (k : Nat) (h0 : A ≤ f 0 ∧ f 0 ≤ B) (h : ∀ i, i < k → A ≤ f i ∧ f i ≤ B) : A ≤ Pl.top f k ∧ Pl.top f k ≤ B := by
  induction k with
  | zero => exact h0
  | succ k ih =>
    have h1 := h k (by omega)
    have h2 := ih (fun i hi => h i (by omega))
    show A ≤ max (Pl.top f k) (f k) ∧ max (Pl.top f k) (f k) ≤ B
    omega
/-- The mean, the nearest whole number, of two the greater one. -/
def Pl.mean (s : Int) (n : Nat) : Int := (2 * s + n) / (2 * n)
/-- A pool's sizes: the image's, the window's, the stride. -/
structure Pl where
  H : Nat
  W : Nat
  C : Nat
  s : Nat
  t : Nat
def Pl.oh (c : Pl) : Nat := (c.H - c.s) / c.t + 1
def Pl.ow (c : Pl) : Nat := (c.W - c.s) / c.t + 1
/-- Where a window begins; the k-th number of it. -/
def Pl.first (c : Pl) (y x ch : Nat) : Nat := (y * c.W + x) * c.C + ch
def Pl.off (c : Pl) (k : Nat) : Nat := (k / c.s * c.W + k % c.s) * c.C
def Pl.v (c : Pl) (xs : List Int) (f k : Nat) : Int := xs.getD (f + c.off k) 0
def Pl.at (c : Pl) (p : Nat) : Nat := c.first (p / c.C / c.ow * c.t) (p / c.C % c.ow * c.t) (p % c.C)
def Pl.el (c : Pl) (avg : Bool) (xs : List Int) (f : Nat) : Int := if avg then Pl.mean (Pl.add (c.v xs f) (c.s * c.s)) (c.s * c.s) else Pl.top (c.v xs f) (c.s * c.s)
def Pl.part (c : Pl) (avg : Bool) (xs : List Int) (f m : Nat) : List Int := (List.range m).map fun i => c.el avg xs (c.at (f + i))
/-- What a pool's sizes keep. -/
structure Pl.Ok (c : Pl) : Prop where
  s1 : 1 ≤ c.s
  s2 : c.s ≤ 16
  t1 : 1 ≤ c.t
  t2 : c.t ≤ 16
  c1 : 1 ≤ c.C
  hs : c.s ≤ c.H
  ws : c.s ≤ c.W
  h2 : c.H ≤ 256
  w2 : c.W ≤ 256
  a2 : c.H * c.W * c.C ≤ 16384
theorem Pl.way (n s t o : Nat) (hs : s ≤ n) (ho : o < (n - s) / t + 1) : o * t + s ≤ n := by
  have h1 : o * t ≤ (n - s) / t * t := Nat.mul_le_mul_right t (by omega)
  have h2 : (n - s) / t * t ≤ n - s := Nat.div_mul_le_self _ _
  omega
/-- Where an element's window begins. -/
theorem Pl.at_eq (c : Pl) (h : c.Ok) (p : Nat) (hp : p < c.oh * c.ow * c.C) : p / c.C / c.ow * c.t + c.s ≤ c.H ∧ p / c.C % c.ow * c.t + c.s ≤ c.W ∧ p % c.C < c.C := by
  have hc := h.c1
  have h1 : p / c.C < c.oh * c.ow := Nat.div_lt_of_lt_mul (by rw [Nat.mul_comm]; exact hp)
  have h2 : p / c.C / c.ow < c.oh := Nat.div_lt_of_lt_mul (by rw [Nat.mul_comm]; exact h1)
  have hw : 0 < c.ow := Nat.succ_pos _
  exact ⟨Pl.way _ _ _ _ h.hs h2, Pl.way _ _ _ _ h.ws (Nat.mod_lt _ hw), Nat.mod_lt _ hc⟩
theorem Pl.in_lt (c : Pl) (y x ch dy dx : Nat) (h1 : y + dy < c.H) (h2 : x + dx < c.W) (h3 : ch < c.C) : ((y + dy) * c.W + (x + dx)) * c.C + ch < c.H * c.W * c.C := by
  have e1 : (y + dy) * c.W + (x + dx) < c.H * c.W := by
    have : (y + dy) * c.W + c.W ≤ c.H * c.W := by rw [← Nat.succ_mul]; exact Nat.mul_le_mul_right _ h1
    omega
  have : ((y + dy) * c.W + (x + dx)) * c.C + c.C ≤ c.H * c.W * c.C := by rw [← Nat.succ_mul]; exact Nat.mul_le_mul_right _ e1
  omega
theorem Pl.off_eq (c : Pl) (y x ch k : Nat) : c.first y x ch + c.off k = ((y + k / c.s) * c.W + (x + k % c.s)) * c.C + ch := by
  unfold Pl.first Pl.off
  rw [Nat.add_mul (y) (k / c.s), Nat.add_right_comm, ← Nat.add_mul]
  congr 2
  omega
/-- Each number of a window lies in the image. -/
theorem Pl.lt (c : Pl) (h : c.Ok) (p k : Nat) (hp : p < c.oh * c.ow * c.C) (hk : k < c.s * c.s) : c.at p + c.off k < c.H * c.W * c.C := by
  obtain ⟨h1, h2, h3⟩ := c.at_eq h p hp
  unfold Pl.at
  rw [Pl.off_eq]
  have hs := h.s1
  have k1 : k / c.s < c.s := Nat.div_lt_of_lt_mul hk
  have k2 : k % c.s < c.s := Nat.mod_lt _ hs
  exact c.in_lt _ _ _ _ _ (by omega) (by omega) h3
/-- What a pool looks like, if nothing is amiss. -/
def Pl.reach (n k s : Int) : Int := (n - k) / s + 1
def Pl.dims (qs : List Int) (a : Dsc) : List Int := [Pl.reach (a.zs.getD 0 0) (qs.getD 0 0) (qs.getD 1 0), Pl.reach (a.zs.getD 1 0) (qs.getD 0 0) (qs.getD 1 0), a.zs.getD 2 0]
/-- What is amiss with a pool: the error's number. -/
def Pl.code (qs : List Int) (a : Dsc) : Nat :=
  if qs.length ≠ 2 then 101 else if Shp.code a.zs ≠ 0 then Shp.code a.zs
  else if a.zs.length ≠ 3 then 101
  else if qs.getD 0 0 < 1 ∨ qs.getD 0 0 > 16 ∨ qs.getD 1 0 < 1 ∨ qs.getD 1 0 > 16 then 102
  else if qs.getD 0 0 > a.zs.getD 0 0 ∨ qs.getD 0 0 > a.zs.getD 1 0 then 101
  else 0
def Pl.shape (qs : List Int) (a : Dsc) : List Int := if Pl.code qs a = 0 then Pl.dims qs a else []
def Pl.kind (qs : List Int) (a : Dsc) : Bool := if Pl.code qs a = 0 then a.u else false
/-- The sizes, read off. -/
def Pl.of (qs : List Int) (a : Ten) : Pl := ⟨(a.zs.getD 0 0).toNat, (a.zs.getD 1 0).toNat, (a.zs.getD 2 0).toNat, (qs.getD 0 0).toNat, (qs.getD 1 0).toNat⟩
/-- The numbers of a pool. -/
def Pl.ds (avg : Bool) (qs : List Int) (a : Ten) : List Int := (Pl.of qs a).part avg a.ds 0 ((Pl.of qs a).oh * (Pl.of qs a).ow * (Pl.of qs a).C)
/-- An element of it; 0 of a place that is none. -/
def Pl.cell (avg : Bool) (qs : List Int) (a : Ten) (i : Int) : Int := if Cel.fault [a] (Pl.code qs a.look) = (0, none) then (if 0 ≤ i then (Pl.ds avg qs a).getD i.toNat 0 else 0) else 0
/-- What a function of tensors answers, laid once more into a result of one's own. -/
theorem TenE.wrap {w W W0 w' : World} {ah am ar : Addr} {F : Nat × Option Nat} {zs ds : List Int} {u : Bool} {t : Ten} {x : Value} {b : Nat} (hZ : Has W0 b 26 [.slice none 0 0, .bool false, .slice none 0 0]) (hB : Below w.heap.size w W0) (hb : w.heap.size ≤ b) (hb2 : b + 1 ≤ W0.heap.size)
    (ht : t.In w') (hf : t.Fresh (W0.heap.size + 1)) (h1 : t.zs = (if F = (0, none) then zs else [])) (h2 : t.u = (if F = (0, none) then u else false)) (h3 : t.ds = (if F = (0, none) then ds else [])) (hx : TErr w' ah am ar x F) (ho : F = (0, none) → OwnData w' t) (hBw : Below W0.heap.size W0 w')
    (hW : W = ((w'.setCell ⟨b, 0, none⟩ (.slice t.P t.zs.length t.cap)).setCell ⟨b, 1, none⟩ (.bool t.u)).setCell ⟨b, 2, none⟩ (.slice t.D t.ds.length t.dcap)) :
    TenE w ah am ar F zs u ds (.returned (.tuple #[.agg (tcells t.P t.zs.length t.cap t.u t.D t.ds.length t.dcap), x])) W := by
  have hZ' := hZ.below hBw hZ.lt
  have hB' := hB.trans (hBw.mono hB.size)
  obtain ⟨-, -, -, -, -, -, -, hBf⟩ := elm_three hZ' hB' hb (.slice t.P t.zs.length t.cap) (.bool t.u) (.slice t.D t.ds.length t.dcap)
  rw [hW]
  refine ⟨⟨t, x, rfl, ht.far3 (hf.le (by omega)) _ _ _, hf.le (by have := hB.size; omega), h1, h2, h3, hx.fart3 hZ' (by decide) _ _ _, fun h => ?_⟩, hBf⟩
  obtain ⟨g, hg, hc, hG⟩ := ho h
  have hgf := hf.2 _ hg
  have hgf : W0.heap.size + 1 ≤ g := hgf
  exact ⟨g, hg, hc, ((hG.far (p := ⟨b, 0, none⟩) (by simp; omega) _).far (p := ⟨b, 1, none⟩) (by simp; omega) _).far (p := ⟨b, 2, none⟩) (by simp; omega) _⟩
end Go.Proofs.YtgdcfjmpjhlndaaGreatDoor
