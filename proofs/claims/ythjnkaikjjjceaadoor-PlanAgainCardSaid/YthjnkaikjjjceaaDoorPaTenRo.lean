/-
  lodgeref3.ReadDesc, walked. By an AI agent. No person has read it.
-/
import Derived.Test.YthjnkaikjjjceaaDoorPaTenRi
import Derived.Test.YthjnkaikjjjceaaDoorPaTenRh
namespace Go.Proofs.YthjnkaikjjjceaaDoor
open Go.RowKit
theorem Pk.dims_wf (n : Nat) (bs : List Nat) (hb : ∀ b ∈ bs, b < 256) : ∀ z ∈ Pk.dims n bs, (Lit.int .i64 z).wf = true := by
  intro z hz
  obtain ⟨i, _, rfl⟩ := List.mem_map.1 hz
  have h := Pk.val_lt ((bs.take (1 + 2 * i + 2)).drop (1 + 2 * i)) (fun b hb' => hb b (List.mem_of_mem_take (List.mem_of_mem_drop hb'))) (by rw [List.length_drop, List.length_take]; omega)
  exact wf_i64 _ (by omega)
/-- The shape, while it is read. -/
structure RdI (w : World) (u : Bool) (i : Nat) (bs : List Nat) (W : World) (sv : Value) : Prop where
  low : Below w.heap.size w W
  des : Has W (w.heap.size + 1) 59 [sv, .bool u]
  res : Has W w.heap.size 59 [.slice none 0 0, .bool false]
  own : W.ownsRow (w.heap.size + 2) 3 1 sv i (i64s (Pk.dims i bs))
theorem RdI.next {w wr w' : World} {u : Bool} {i : Nat} {bs : List Nat} {sv v' : Value} {z : Int} {o : Obj} (h : RdI w u i bs wr sv) (h1 : w'.ownsRow (w.heap.size + 2) 3 1 v' (i + 1) (i64s (Pk.dims i bs) ++ i64s [z])) (h2 : ((wr.alloc o).drew).grownBy w' sv.ownBlock)
    (hz : Pk.dims (i + 1) bs = Pk.dims i bs ++ [z]) : ∃ A c, v' = .slice A (i + 1) c ∧ w'.cell? ⟨w.heap.size + 1, 0, none⟩ = some sv ∧ w'.frozen? ⟨w.heap.size + 1, 0, none⟩ = false ∧ RdI w u (i + 1) bs (w'.setCell ⟨w.heap.size + 1, 0, none⟩ v') v' := by
  have hl := h.own.lt
  have hs : ∀ k, sv.ownBlock = some k → w.heap.size + 2 ≤ k := fun k hk => (hl k hk).1
  have hd : Has w' (w.heap.size + 1) 59 [sv, .bool u] := ((h.des.alloc o).drewN 1).grown h2 (fun e => by have := hs _ e.symm; omega)
  have hr : Has w' w.heap.size 59 [.slice none 0 0, .bool false] := ((h.res.alloc o).drewN 1).grown h2 (fun e => by have := hs _ e.symm; omega)
  have hB : Below w.heap.size w w' := ((h.low.alloc h.low.size o).drew).grown h2 ((h.low.alloc h.low.size o).drew).size (fun k hk => by have := hs k hk; omega)
  have hl2 := h1.lt
  have e : i64s (Pk.dims (i + 1) bs) = i64s (Pk.dims i bs) ++ i64s [z] := by rw [hz]; simp [i64s]
  have hv : ∃ A c, v' = .slice A (i + 1) c := by
    rcases h1.2 with ⟨rfl, h⟩ | ⟨g, cap, cur, rfl, -⟩
    · omega
    · exact ⟨_, _, rfl⟩
  obtain ⟨A, c, rfl⟩ := hv
  refine ⟨A, c, rfl, by rw [hd.cell]; rfl, hd.frozen 0, hB.setCell (p := ⟨w.heap.size + 1, 0, none⟩) (Nat.le_succ _) _, hd.set_ 0 _, hr.far (p := ⟨w.heap.size + 1, 0, none⟩) (by simp) _, ?_⟩
  rw [e]
  refine h1.kept (grown_one w' ⟨w.heap.size + 1, 0, none⟩ _) (.inr fun hk => ?_)
  have h := (hl2 _ hk).1
  have h : w.heap.size + 2 ≤ w.heap.size + 1 := h
  omega
theorem RdI.done {w wr : World} {u : Bool} {i n c : Nat} {bs : List Nat} {A : Option Addr} {zs : List Int} (h : RdI w u i bs wr (.slice A n c)) (hr : Ri wr A zs) (hA : ∀ ad, A = some ad → w.heap.size + 2 ≤ ad.block) :
    Has ((wr.setCell ⟨w.heap.size, 0, none⟩ (.slice A n c)).setCell ⟨w.heap.size, 1, none⟩ (.bool u)) w.heap.size 59 [.slice A n c, .bool u] ∧ Ri ((wr.setCell ⟨w.heap.size, 0, none⟩ (.slice A n c)).setCell ⟨w.heap.size, 1, none⟩ (.bool u)) A zs ∧
    Below w.heap.size w ((wr.setCell ⟨w.heap.size, 0, none⟩ (.slice A n c)).setCell ⟨w.heap.size, 1, none⟩ (.bool u)) := by
  refine ⟨(h.res.set_ 0 _).set_ 1 _, ?_, (h.low.setCell (p := ⟨w.heap.size, 0, none⟩) (Nat.le_refl _) _).setCell (p := ⟨w.heap.size, 1, none⟩) (Nat.le_refl _) _⟩
  refine (hr.grown (grown_one wr ⟨w.heap.size, 0, none⟩ (.slice A n c)) ?_).grown (grown_one _ ⟨w.heap.size, 1, none⟩ (.bool u)) ?_
  all_goals
    intro ad e _ e2
    have e2 : ad.block = w.heap.size := Option.some.inj e2
    have := hA ad e
    omega
end Go.Proofs.YthjnkaikjjjceaaDoor
namespace Go.Proofs.YthjnkaikjjjceaaDoor
open Go.RowKit
/-- What is held while a tensor is read: the result's block, the desc's box, the shape. -/
structure RfS (w : World) (B : Nat) (dv : List Value) (P : Option Addr) (Z : List Int) (W : World) : Prop where
  low : Below w.heap.size w W
  res : Has W w.heap.size 70 [.slice none 0 0, .bool false, .slice none 0 0]
  des : Has W B 59 dv
  ri : Ri W P Z
theorem RfS.below {w W W' : World} {B : Nat} {dv : List Value} {P : Option Addr} {Z : List Int} (h : RfS w B dv P Z W) (hb : Below W.heap.size W W') : RfS w B dv P Z W' :=
  ⟨h.low.trans (hb.mono h.low.size), h.res.below hb h.res.lt, h.des.below hb h.des.lt, h.ri.below hb⟩
/-- What is read: the tensor's box, its two rows. -/
structure RfX (w : World) (b : Nat) (tv : List Value) (g gd : Nat) (xs ys : List Value) (W : World) : Prop where
  low : Below w.heap.size w W
  res : Has W w.heap.size 70 [.slice none 0 0, .bool false, .slice none 0 0]
  box : Has W b 70 tv
  shp : Has W g 3 xs
  dat : Has W gd 3 ys
theorem RfX.done {w W : World} {b g gd : Nat} {xs ys tv : List Value} (v1 v2 v3 : Value) (h : RfX w b tv g gd xs ys W) :
    Has (((W.setCell ⟨w.heap.size, 0, none⟩ v1).setCell ⟨w.heap.size, 1, none⟩ v2).setCell ⟨w.heap.size, 2, none⟩ v3) w.heap.size 70 [v1, v2, v3] ∧
    Has (((W.setCell ⟨w.heap.size, 0, none⟩ v1).setCell ⟨w.heap.size, 1, none⟩ v2).setCell ⟨w.heap.size, 2, none⟩ v3) g 3 xs ∧ Has (((W.setCell ⟨w.heap.size, 0, none⟩ v1).setCell ⟨w.heap.size, 1, none⟩ v2).setCell ⟨w.heap.size, 2, none⟩ v3) gd 3 ys ∧
    Below w.heap.size w (((W.setCell ⟨w.heap.size, 0, none⟩ v1).setCell ⟨w.heap.size, 1, none⟩ v2).setCell ⟨w.heap.size, 2, none⟩ v3) :=
  have h2 : g ≠ w.heap.size := h.shp.apart h.res (by decide)
  have h3 : gd ≠ w.heap.size := h.dat.apart h.res (by decide)
  ⟨((h.res.set_ 0 v1).set_ 1 v2).set_ 2 v3, ((h.shp.far (p := ⟨w.heap.size, 0, none⟩) h2 v1).far (p := ⟨w.heap.size, 1, none⟩) h2 v2).far (p := ⟨w.heap.size, 2, none⟩) h2 v3,
    ((h.dat.far (p := ⟨w.heap.size, 0, none⟩) h3 v1).far (p := ⟨w.heap.size, 1, none⟩) h3 v2).far (p := ⟨w.heap.size, 2, none⟩) h3 v3,
    ((h.low.setCell (p := ⟨w.heap.size, 0, none⟩) (Nat.le_refl _) v1).setCell (p := ⟨w.heap.size, 1, none⟩) (Nat.le_refl _) v2).setCell (p := ⟨w.heap.size, 2, none⟩) (Nat.le_refl _) v3⟩
end Go.Proofs.YthjnkaikjjjceaaDoor
