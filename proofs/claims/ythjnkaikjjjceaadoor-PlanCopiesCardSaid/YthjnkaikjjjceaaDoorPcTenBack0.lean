/-
  What the law TensBack's walk asks for. By an AI agent. No person has read it.
-/
import Derived.Test.YthjnkaikjjjceaaDoorPcTenW
import Derived.Test.YthjnkaikjjjceaaDoorPcTenH
import Derived.Test.YthjnkaikjjjceaaDoorPcElmOpen
import Derived.Test.YthjnkaikjjjceaaDoorPcTenC
import Derived.Test.YthjnkaikjjjceaaDoorPcShpC
import Derived.Test.YthjnkaikjjjceaaDoorPcShpA
import Derived.Test.YthjnkaikjjjceaaDoorPcTenF
import Derived.RegionTactic
import Derived.Deep.RegionLaw
import Derived.Deep.RegionHeld3
namespace Go.Proofs.YthjnkaikjjjceaaDoor
open Go.RowKit
/-- The five errors that tensors' bytes are told by. -/
def TErrs (es : List Addr) (ah am ar ae ak : Addr) : Prop := es[0]? = some ah ∧ es[3]? = some am ∧ es[1]? = some ar ∧ es[4]? = some ae ∧ es[2]? = some ak
theorem Ez.low {w : World} {es : List Addr} (h : Ez w es) (g : Nat) (a : Addr) (hi : ∃ i : Nat, egs[i]? = some g ∧ es[i]? = some a) : g < w.heap.size ∧ a.block < w.heap.size := by
  obtain ⟨i, h1, h2⟩ := hi
  have := h.2.2 i g a h1 h2
  exact ⟨this.2.1, this.2.2.1⟩
theorem Ez.grown {w w' : World} {es : List Addr} {row : Option Nat} (h : Ez w es) (hb : w.grownBy w' row) (hr : ∀ k, row = some k → ∀ g a, (∃ i : Nat, egs[i]? = some g ∧ es[i]? = some a) → True → k ≠ g ∧ k ≠ a.block) : Ez w' es :=
  ⟨h.1, h.2.1, fun i g a h1 h2 => (h.2.2 i g a h1 h2).grown hb fun k e => hr k e g a ⟨i, h1, h2⟩ trivial⟩
theorem Rb.take {w : World} {A : Option Addr} {bs : List Nat} (h : Rb w A bs) (k : Nat) : Rb w A (bs.take k) := by
  refine ⟨fun b hb => h.1 b (List.mem_of_mem_take hb), fun hn => ?_⟩
  obtain ⟨ad, e, h1, h2⟩ := h.2 (by rintro rfl; simp at hn)
  refine ⟨ad, e, h1, fun i b hi => h2 i b ?_⟩
  rw [List.getElem?_take] at hi
  split at hi
  · exact hi
  · cases hi
end Go.Proofs.YthjnkaikjjjceaaDoor
namespace Go.Proofs.YthjnkaikjjjceaaDoor
open Go.RowKit
theorem Pk.App.bytes {base : Nat} {w wr w' : World} {v b v' : Value} {n n1 m : Nat} {xs ys : List Value} {o : Obj} {bs : List Nat} (h : Pk.App base w v n1 xs wr b) (h1 : w'.ownsRow base 5 1 v' (n1 + m) (xs ++ u8s bs)) (h2 : (wr.alloc o).grownBy w' b.ownBlock)
    (h3 : v'.ownBlock = b.ownBlock ∨ v'.ownBlock = some (wr.heap.size + 1)) (hn : n1 + m = n) (hx : xs ++ u8s bs = ys) : Pk.App base w v n ys w' v' := by
  subst hn
  subst hx
  refine h.andThen ⟨h1, (World.grownBy_alloc wr o b.ownBlock).andThen h2 (fun j hj => .inr hj), ?_⟩
  rcases h3 with e | e
  · exact .inl e
  · exact .inr ⟨_, e, by omega⟩
theorem Pk.App.drew {base : Nat} {w w' : World} {v v' : Value} {n : Nat} {xs : List Value} (h : Pk.App base w v n xs w' v') : Pk.App base w v n xs w'.drew v' := ⟨h.own.drew, grown_drew h.grown, h.at_⟩
end Go.Proofs.YthjnkaikjjjceaaDoor
namespace Go.Proofs.YthjnkaikjjjceaaDoor
open Go.RowKit
/-- The shape, while it is read. -/
structure RdI (w : World) (u : Bool) (i : Nat) (bs : List Nat) (W : World) (sv : Value) : Prop where
  low : Below w.heap.size w W
  des : Has W (w.heap.size + 1) 59 [sv, .bool u]
  res : Has W w.heap.size 59 [.slice none 0 0, .bool false]
  own : W.ownsRow (w.heap.size + 2) 3 1 sv i (i64s (Pk.dims i bs))
theorem RdI.next {w wr w' : World} {u : Bool} {i : Nat} {bs : List Nat} {sv v' : Value} {z : Int} {o : Obj} (h : RdI w u i bs wr sv) (h1 : w'.ownsRow (w.heap.size + 2) 3 1 v' (i + 1) (i64s (Pk.dims i bs) ++ i64s [z])) (h2 : ((wr.alloc o).drew).grownBy w' sv.ownBlock)
    (hz : Pk.dims (i + 1) bs = Pk.dims i bs ++ [z]) : ∃ A c, v' = .slice A (i + 1) c ∧ w'.cell? ⟨w.heap.size + 1, 0, none⟩ = some sv ∧ w'.frozen? ⟨w.heap.size + 1, 0, none⟩ = false ∧ RdI w u (i + 1) bs (w'.setCell ⟨w.heap.size + 1, 0, none⟩ v') v' := by
  have hl := h.own.lt
  have hs : ∀ k, sv.ownBlock = some k → w.heap.size + 2 ≤ k := fun k hk => (hl k hk).1
  have hd : Has w' (w.heap.size + 1) 59 [sv, .bool u] := ((h.des.alloc o).drewN 1).grown h2 (fun e => by have := hs _ e.symm; omega)
  have hr : Has w' w.heap.size 59 [.slice none 0 0, .bool false] := ((h.res.alloc o).drewN 1).grown h2 (fun e => by have := hs _ e.symm; omega)
  have hB : Below w.heap.size w w' := ((h.low.alloc h.low.size o).drew).grown h2 ((h.low.alloc h.low.size o).drew).size (fun k hk => by have := hs k hk; omega)
  have hl2 := h1.lt
  have e : i64s (Pk.dims (i + 1) bs) = i64s (Pk.dims i bs) ++ i64s [z] := by rw [hz]; simp [i64s]
  have hv : ∃ A c, v' = .slice A (i + 1) c := by
    rcases h1.2 with ⟨rfl, h⟩ | ⟨g, cap, cur, rfl, -⟩
    · omega
    · exact ⟨_, _, rfl⟩
  obtain ⟨A, c, rfl⟩ := hv
  refine ⟨A, c, rfl, by rw [hd.cell]; rfl, hd.frozen 0, hB.setCell (p := ⟨w.heap.size + 1, 0, none⟩) (Nat.le_succ _) _, hd.set_ 0 _, hr.far (p := ⟨w.heap.size + 1, 0, none⟩) (by simp) _, ?_⟩
  rw [e]
  refine h1.kept (grown_one w' ⟨w.heap.size + 1, 0, none⟩ _) (.inr fun hk => ?_)
  have h := (hl2 _ hk).1
  have h : w.heap.size + 2 ≤ w.heap.size + 1 := h
  omega
end Go.Proofs.YthjnkaikjjjceaaDoor
namespace Go.Proofs.YthjnkaikjjjceaaDoor
open Go.RowKit
/-- What is held while a tensor is read: the result's block, the desc's box, the shape. -/
structure RfS (w : World) (B : Nat) (dv : List Value) (P : Option Addr) (Z : List Int) (W : World) : Prop where
  low : Below w.heap.size w W
  res : Has W w.heap.size 70 [.slice none 0 0, .bool false, .slice none 0 0]
  des : Has W B 59 dv
  ri : Ri W P Z
theorem RfS.below {w W W' : World} {B : Nat} {dv : List Value} {P : Option Addr} {Z : List Int} (h : RfS w B dv P Z W) (hb : Below W.heap.size W W') : RfS w B dv P Z W' :=
  ⟨h.low.trans (hb.mono h.low.size), h.res.below hb h.res.lt, h.des.below hb h.des.lt, h.ri.below hb⟩
end Go.Proofs.YthjnkaikjjjceaaDoor
namespace Go.Proofs.YthjnkaikjjjceaaDoor
open Go.RowKit
/-- A tensor that came back, and its row in memory. -/
structure TIs (W : World) (Q D : Option Addr) (a : List Int) (b : List Int) : Prop where
  shp : Ri W Q a
  dat : Ri W D b
  la : a.length ≤ 1000000
  lb : b.length ≤ 1000000
theorem TIs.below {w W : World} {Q D : Option Addr} {a b : List Int} (h : TIs w Q D a b) (hb : Below w.heap.size w W) : TIs W Q D a b := ⟨h.shp.below hb, h.dat.below hb, h.la, h.lb⟩
/-- Blocks, rows of ints, rows of bytes that are known. -/
structure Mem (W : World) (bl : List (Nat × TypeId × List Value)) (ris : List (Option Addr × List Int)) (rbs : List (Option Addr × List Nat)) : Prop where
  has : ∀ (i : Nat) x, bl[i]? = some x → Has W x.1 x.2.1 x.2.2
  ri : ∀ (i : Nat) x, ris[i]? = some x → Ri W x.1 x.2
  rb : ∀ (i : Nat) x, rbs[i]? = some x → Rb W x.1 x.2
theorem Mem.below {W W' : World} {bl : List (Nat × TypeId × List Value)} {ris : List (Option Addr × List Int)} {rbs : List (Option Addr × List Nat)} (h : Mem W bl ris rbs) (hb : Below W.heap.size W W') : Mem W' bl ris rbs :=
  ⟨fun i x hx => (h.has i x hx).below hb (h.has i x hx).lt, fun i x hx => (h.ri i x hx).below hb, fun i x hx => (h.rb i x hx).below hb⟩
theorem Mem.alloc {W : World} {bl : List (Nat × TypeId × List Value)} {ris : List (Option Addr × List Int)} {rbs : List (Option Addr × List Nat)} (h : Mem W bl ris rbs) (c : Array Value) (t : TypeId) :
    Mem (W.alloc (Obj.cells c t)) ((W.heap.size, t, c.toList) :: bl) ris rbs := by
  have k := h.below ((Below.refl W.heap.size W).alloc (Nat.le_refl _) (Obj.cells c t))
  refine ⟨fun i x hx => ?_, k.ri, k.rb⟩
  cases i with
  | zero =>
    cases hx
    exact Has.new W t c.toList
  | succ i => exact k.has i x hx
end Go.Proofs.YthjnkaikjjjceaaDoor
