/-
  What the law TensBack's walk asks for. By an AI agent. No person has read it.
-/
import Derived.Test.YthjnkaikjjjceaaDoorPkTenJ
import Derived.Test.YthjnkaikjjjceaaDoorPkTenRk
import Derived.Test.YthjnkaikjjjceaaDoorPkErrD
import Derived.Test.YthjnkaikjjjceaaDoorPkShpC
import Derived.Test.YthjnkaikjjjceaaDoorPkShpA
import Derived.Test.YthjnkaikjjjceaaDoorPkTenRh
import Derived.Deep.RegionLaw
import Derived.Deep.RegionHeld3
namespace Go.Proofs.YthjnkaikjjjceaaDoor
open Go.RowKit
/-- The five errors that tensors' bytes are told by. -/
def TErrs (es : List Addr) (ah am ar ae ak : Addr) : Prop := es[0]? = some ah ∧ es[3]? = some am ∧ es[1]? = some ar ∧ es[4]? = some ae ∧ es[2]? = some ak
theorem TErrs.end_ {es : List Addr} {ah am ar ae ak : Addr} (h : TErrs es ah am ar ae ak) {W : World} (hz : Ez W es) : ErrIs W 3 ae := hz.2.2 4 _ ae rfl h.2.2.2.1
theorem terrs_of {w : World} {es : List Addr} (h : Ez w es) : ∃ ah am ar ae ak, TErrs es ah am ar ae ak := by
  have g : ∀ i, i < 21 → ∃ a, es[i]? = some a := fun i hi => ⟨_, List.getElem?_eq_getElem (by rw [h.1]; exact hi)⟩
  obtain ⟨ah, h0⟩ := g 0 (by decide)
  obtain ⟨am, h3⟩ := g 3 (by decide)
  obtain ⟨ar, h1⟩ := g 1 (by decide)
  obtain ⟨ae, h4⟩ := g 4 (by decide)
  obtain ⟨ak, h2⟩ := g 2 (by decide)
  exact ⟨ah, am, ar, ae, ak, h0, h3, h1, h4, h2⟩
theorem Ez.low {w : World} {es : List Addr} (h : Ez w es) (g : Nat) (a : Addr) (hi : ∃ i : Nat, egs[i]? = some g ∧ es[i]? = some a) : g < w.heap.size ∧ a.block < w.heap.size := by
  obtain ⟨i, h1, h2⟩ := hi
  have := h.2.2 i g a h1 h2
  exact ⟨this.2.1, this.2.2.1⟩
theorem Ez.grown {w w' : World} {es : List Addr} {row : Option Nat} (h : Ez w es) (hb : w.grownBy w' row) (hr : ∀ k, row = some k → ∀ g a, (∃ i : Nat, egs[i]? = some g ∧ es[i]? = some a) → True → k ≠ g ∧ k ≠ a.block) : Ez w' es :=
  ⟨h.1, h.2.1, fun i g a h1 h2 => (h.2.2 i g a h1 h2).grown hb fun k e => hr k e g a ⟨i, h1, h2⟩ trivial⟩
theorem Rb.take {w : World} {A : Option Addr} {bs : List Nat} (h : Rb w A bs) (k : Nat) : Rb w A (bs.take k) := by
  refine ⟨fun b hb => h.1 b (List.mem_of_mem_take hb), fun hn => ?_⟩
  obtain ⟨ad, e, h1, h2⟩ := h.2 (by rintro rfl; simp at hn)
  refine ⟨ad, e, h1, fun i b hi => h2 i b ?_⟩
  rw [List.getElem?_take] at hi
  split at hi
  · exact hi
  · cases hi
/-- 'b[:k]'. -/
theorem head_run (A : Option Addr) (len cap k : Nat) (h : k ≤ cap) (W : World) : (Instr.slice 30 (.slice A len cap) none (some (.int .i64 (k : Int))) none).run Tryd.prog W = .ok (.slice A k cap) W := by
  have hu : Tryd.prog.underlying 30 = some (.slice (Tryd.prog.elem 30)) := by kernel_rfl
  have hz : ∀ W : World, (sizeOf (Tryd.prog.elem 30)).run Tryd.prog W = .ok 1 W := fun _ => by kernel_rfl
  rw [run_slice_h W _ _ _ _ hu _ _ (by omega) (by omega), hz]
  simp only [Result.andThen, sliced, Int.toNat_natCast]
  cases A <;> simp [Addr.add]
end Go.Proofs.YthjnkaikjjjceaaDoor
namespace Go.Proofs.YthjnkaikjjjceaaDoor
open Go.RowKit
theorem Pk.App.bytes {base : Nat} {w wr w' : World} {v b v' : Value} {n n1 m : Nat} {xs ys : List Value} {o : Obj} {bs : List Nat} (h : Pk.App base w v n1 xs wr b) (h1 : w'.ownsRow base 5 1 v' (n1 + m) (xs ++ u8s bs)) (h2 : (wr.alloc o).grownBy w' b.ownBlock)
    (h3 : v'.ownBlock = b.ownBlock ∨ v'.ownBlock = some (wr.heap.size + 1)) (hn : n1 + m = n) (hx : xs ++ u8s bs = ys) : Pk.App base w v n ys w' v' := by
  subst hn
  subst hx
  refine h.andThen ⟨h1, (World.grownBy_alloc wr o b.ownBlock).andThen h2 (fun j hj => .inr hj), ?_⟩
  rcases h3 with e | e
  · exact .inl e
  · exact .inr ⟨_, e, by omega⟩
theorem Pk.App.drew {base : Nat} {w w' : World} {v v' : Value} {n : Nat} {xs : List Value} (h : Pk.App base w v n xs w' v') : Pk.App base w v n xs w'.drew v' := ⟨h.own.drew, grown_drew h.grown, h.at_⟩
end Go.Proofs.YthjnkaikjjjceaaDoor
namespace Go.Proofs.YthjnkaikjjjceaaDoor
open Go.RowKit
theorem Pk.dims_wf (n : Nat) (bs : List Nat) (hb : ∀ b ∈ bs, b < 256) : ∀ z ∈ Pk.dims n bs, (Lit.int .i64 z).wf = true := by
  intro z hz
  obtain ⟨i, _, rfl⟩ := List.mem_map.1 hz
  have h := Pk.val_lt ((bs.take (1 + 2 * i + 2)).drop (1 + 2 * i)) (fun b hb' => hb b (List.mem_of_mem_take (List.mem_of_mem_drop hb'))) (by rw [List.length_drop, List.length_take]; omega)
  exact wf_i64 _ (by omega)
/-- The shape, while it is read. -/
structure RdI (w : World) (u : Bool) (i : Nat) (bs : List Nat) (W : World) (sv : Value) : Prop where
  low : Below w.heap.size w W
  des : Has W (w.heap.size + 1) 59 [sv, .bool u]
  res : Has W w.heap.size 59 [.slice none 0 0, .bool false]
  own : W.ownsRow (w.heap.size + 2) 3 1 sv i (i64s (Pk.dims i bs))
theorem RdI.next {w wr w' : World} {u : Bool} {i : Nat} {bs : List Nat} {sv v' : Value} {z : Int} {o : Obj} (h : RdI w u i bs wr sv) (h1 : w'.ownsRow (w.heap.size + 2) 3 1 v' (i + 1) (i64s (Pk.dims i bs) ++ i64s [z])) (h2 : ((wr.alloc o).drew).grownBy w' sv.ownBlock)
    (hz : Pk.dims (i + 1) bs = Pk.dims i bs ++ [z]) : ∃ A c, v' = .slice A (i + 1) c ∧ w'.cell? ⟨w.heap.size + 1, 0, none⟩ = some sv ∧ w'.frozen? ⟨w.heap.size + 1, 0, none⟩ = false ∧ RdI w u (i + 1) bs (w'.setCell ⟨w.heap.size + 1, 0, none⟩ v') v' := by
  have hl := h.own.lt
  have hs : ∀ k, sv.ownBlock = some k → w.heap.size + 2 ≤ k := fun k hk => (hl k hk).1
  have hd : Has w' (w.heap.size + 1) 59 [sv, .bool u] := ((h.des.alloc o).drewN 1).grown h2 (fun e => by have := hs _ e.symm; omega)
  have hr : Has w' w.heap.size 59 [.slice none 0 0, .bool false] := ((h.res.alloc o).drewN 1).grown h2 (fun e => by have := hs _ e.symm; omega)
  have hB : Below w.heap.size w w' := ((h.low.alloc h.low.size o).drew).grown h2 ((h.low.alloc h.low.size o).drew).size (fun k hk => by have := hs k hk; omega)
  have hl2 := h1.lt
  have e : i64s (Pk.dims (i + 1) bs) = i64s (Pk.dims i bs) ++ i64s [z] := by rw [hz]; simp [i64s]
  have hv : ∃ A c, v' = .slice A (i + 1) c := by
    rcases h1.2 with ⟨rfl, h⟩ | ⟨g, cap, cur, rfl, -⟩
    · omega
    · exact ⟨_, _, rfl⟩
  obtain ⟨A, c, rfl⟩ := hv
  refine ⟨A, c, rfl, by rw [hd.cell]; rfl, hd.frozen 0, hB.setCell (p := ⟨w.heap.size + 1, 0, none⟩) (Nat.le_succ _) _, hd.set_ 0 _, hr.far (p := ⟨w.heap.size + 1, 0, none⟩) (by simp) _, ?_⟩
  rw [e]
  refine h1.kept (grown_one w' ⟨w.heap.size + 1, 0, none⟩ _) (.inr fun hk => ?_)
  have h := (hl2 _ hk).1
  have h : w.heap.size + 2 ≤ w.heap.size + 1 := h
  omega
theorem RdI.done {w wr : World} {u : Bool} {i n c : Nat} {bs : List Nat} {A : Option Addr} {zs : List Int} (h : RdI w u i bs wr (.slice A n c)) (hr : Ri wr A zs) (hA : ∀ ad, A = some ad → w.heap.size + 2 ≤ ad.block) :
    Has ((wr.setCell ⟨w.heap.size, 0, none⟩ (.slice A n c)).setCell ⟨w.heap.size, 1, none⟩ (.bool u)) w.heap.size 59 [.slice A n c, .bool u] ∧ Ri ((wr.setCell ⟨w.heap.size, 0, none⟩ (.slice A n c)).setCell ⟨w.heap.size, 1, none⟩ (.bool u)) A zs ∧
    Below w.heap.size w ((wr.setCell ⟨w.heap.size, 0, none⟩ (.slice A n c)).setCell ⟨w.heap.size, 1, none⟩ (.bool u)) := by
  refine ⟨(h.res.set_ 0 _).set_ 1 _, ?_, (h.low.setCell (p := ⟨w.heap.size, 0, none⟩) (Nat.le_refl _) _).setCell (p := ⟨w.heap.size, 1, none⟩) (Nat.le_refl _) _⟩
  refine (hr.grown (grown_one wr ⟨w.heap.size, 0, none⟩ (.slice A n c)) ?_).grown (grown_one _ ⟨w.heap.size, 1, none⟩ (.bool u)) ?_
  all_goals
    intro ad e _ e2
    have e2 : ad.block = w.heap.size := Option.some.inj e2
    have := hA ad e
    omega
end Go.Proofs.YthjnkaikjjjceaaDoor
namespace Go.Proofs.YthjnkaikjjjceaaDoor
open Go.RowKit
/-- What is held while a tensor is read: the result's block, the desc's box, the shape. -/
structure RfS (w : World) (B : Nat) (dv : List Value) (P : Option Addr) (Z : List Int) (W : World) : Prop where
  low : Below w.heap.size w W
  res : Has W w.heap.size 70 [.slice none 0 0, .bool false, .slice none 0 0]
  des : Has W B 59 dv
  ri : Ri W P Z
theorem RfS.below {w W W' : World} {B : Nat} {dv : List Value} {P : Option Addr} {Z : List Int} (h : RfS w B dv P Z W) (hb : Below W.heap.size W W') : RfS w B dv P Z W' :=
  ⟨h.low.trans (hb.mono h.low.size), h.res.below hb h.res.lt, h.des.below hb h.des.lt, h.ri.below hb⟩
/-- What is read: the tensor's box, its two rows. -/
structure RfX (w : World) (b : Nat) (tv : List Value) (g gd : Nat) (xs ys : List Value) (W : World) : Prop where
  low : Below w.heap.size w W
  res : Has W w.heap.size 70 [.slice none 0 0, .bool false, .slice none 0 0]
  box : Has W b 70 tv
  shp : Has W g 3 xs
  dat : Has W gd 3 ys
theorem RfX.done {w W : World} {b g gd : Nat} {xs ys tv : List Value} (v1 v2 v3 : Value) (h : RfX w b tv g gd xs ys W) :
    Has (((W.setCell ⟨w.heap.size, 0, none⟩ v1).setCell ⟨w.heap.size, 1, none⟩ v2).setCell ⟨w.heap.size, 2, none⟩ v3) w.heap.size 70 [v1, v2, v3] ∧
    Has (((W.setCell ⟨w.heap.size, 0, none⟩ v1).setCell ⟨w.heap.size, 1, none⟩ v2).setCell ⟨w.heap.size, 2, none⟩ v3) g 3 xs ∧ Has (((W.setCell ⟨w.heap.size, 0, none⟩ v1).setCell ⟨w.heap.size, 1, none⟩ v2).setCell ⟨w.heap.size, 2, none⟩ v3) gd 3 ys ∧
    Below w.heap.size w (((W.setCell ⟨w.heap.size, 0, none⟩ v1).setCell ⟨w.heap.size, 1, none⟩ v2).setCell ⟨w.heap.size, 2, none⟩ v3) :=
  have h2 : g ≠ w.heap.size := h.shp.apart h.res (by decide)
  have h3 : gd ≠ w.heap.size := h.dat.apart h.res (by decide)
  ⟨((h.res.set_ 0 v1).set_ 1 v2).set_ 2 v3, ((h.shp.far (p := ⟨w.heap.size, 0, none⟩) h2 v1).far (p := ⟨w.heap.size, 1, none⟩) h2 v2).far (p := ⟨w.heap.size, 2, none⟩) h2 v3,
    ((h.dat.far (p := ⟨w.heap.size, 0, none⟩) h3 v1).far (p := ⟨w.heap.size, 1, none⟩) h3 v2).far (p := ⟨w.heap.size, 2, none⟩) h3 v3,
    ((h.low.setCell (p := ⟨w.heap.size, 0, none⟩) (Nat.le_refl _) v1).setCell (p := ⟨w.heap.size, 1, none⟩) (Nat.le_refl _) v2).setCell (p := ⟨w.heap.size, 2, none⟩) (Nat.le_refl _) v3⟩
end Go.Proofs.YthjnkaikjjjceaaDoor
namespace Go.Proofs.YthjnkaikjjjceaaDoor
open Go.RowKit
/-- An error that is told by a number: 0 is none. -/
def ErrK (es : List Addr) (k : Nat) (ev : Value) : Prop := (k = 0 ∧ ev = .nilIface) ∨ ∃ (j : Nat) (a : Addr), es[j]? = some a ∧ ev = errv a ∧ k = 101 + j
theorem Tens.nums_wf (u : Bool) (bs : List Nat) (hb : ∀ b ∈ bs, b < 256) : ∀ z ∈ Tens.nums u bs, (Lit.int .i64 z).wf = true := by
  intro z hz
  unfold Tens.nums at hz
  split at hz
  · obtain ⟨i, _, rfl⟩ := List.mem_map.1 hz
    exact wf_i64 _ (by unfold Tens.wide; omega)
  · obtain ⟨b, h, rfl⟩ := List.mem_map.1 hz
    have := num1_bounds b (hb b h)
    exact wf_i64 _ (by omega)
theorem Tens.nums_le (u : Bool) (bs : List Nat) : (Tens.nums u bs).length ≤ bs.length := by
  rw [Tens.nums_length]
  split <;> omega
/-- A tensor that came back, and its row in memory. -/
structure TIs (W : World) (Q D : Option Addr) (a : List Int) (b : List Int) : Prop where
  shp : Ri W Q a
  dat : Ri W D b
  la : a.length ≤ 1000000
  lb : b.length ≤ 1000000
theorem TIs.below {w W : World} {Q D : Option Addr} {a b : List Int} (h : TIs w Q D a b) (hb : Below w.heap.size w W) : TIs W Q D a b := ⟨h.shp.below hb, h.dat.below hb, h.la, h.lb⟩
/-- What Read says. -/
def Tens.rez (bs : List Nat) : List Int := if Tens.rcode bs = 0 then Tens.rdims bs else []
def Tens.reu (bs : List Nat) : Bool := if Tens.rcode bs = 0 then Tens.ru bs else false
def Tens.red (bs : List Nat) : List Int := if Tens.rcode bs = 0 then Tens.nums (Tens.ru bs) ((bs.take (Tens.rn bs + Tens.rs bs)).drop (Tens.rn bs)) else []
def Tens.ren (bs : List Nat) : Nat := if Tens.rcode bs = 0 then Tens.rn bs + Tens.rs bs else 0
theorem Tens.rdims_wf (bs : List Nat) (hb : ∀ b ∈ bs, b < 256) : (∀ z ∈ Tens.rdims bs, (Lit.int .i64 z).wf = true) ∧ (Tens.rdims bs).length ≤ 1000000 := by
  match bs, hb with
  | [], _ => exact ⟨fun z hz => by simp [Tens.rdims] at hz, by simp [Tens.rdims]⟩
  | h :: t, hb =>
    refine ⟨Pk.dims_wf (h % 8) (h :: t) hb, ?_⟩
    show (Pk.dims (h % 8) (h :: t)).length ≤ 1000000
    rw [Pk.dims_length]
    omega
theorem Tens.rcode_is (bs : List Nat) : Tens.rcode bs = 0 ∨ Tens.rcode bs = 102 ∨ Tens.rcode bs = 103 ∨ Tens.rcode bs = 104 ∨ Tens.rcode bs = 105 := by
  have hk := Shp.code_is (Tens.rdims bs)
  have hp : Pk.code bs = 0 ∨ Pk.code bs = 103 ∨ Pk.code bs = 105 := by
    match bs with
    | [] => exact .inr (.inr rfl)
    | h :: t =>
      have e : Pk.code (h :: t) = if 15 < h then 103 else if t.length < 2 * (h % 8) then 105 else 0 := rfl
      rw [e]
      by_cases a : 15 < h <;> by_cases b : t.length < 2 * (h % 8) <;> simp [a, b]
  unfold Tens.rcode
  split
  · omega
  · split
    · omega
    · split
      · exact .inr (.inr (.inr (.inr rfl)))
      · exact .inl rfl
/-- Blocks, rows of ints, rows of bytes that are known. -/
structure Mem (W : World) (bl : List (Nat × TypeId × List Value)) (ris : List (Option Addr × List Int)) (rbs : List (Option Addr × List Nat)) : Prop where
  has : ∀ (i : Nat) x, bl[i]? = some x → Has W x.1 x.2.1 x.2.2
  ri : ∀ (i : Nat) x, ris[i]? = some x → Ri W x.1 x.2
  rb : ∀ (i : Nat) x, rbs[i]? = some x → Rb W x.1 x.2
theorem Mem.below {W W' : World} {bl : List (Nat × TypeId × List Value)} {ris : List (Option Addr × List Int)} {rbs : List (Option Addr × List Nat)} (h : Mem W bl ris rbs) (hb : Below W.heap.size W W') : Mem W' bl ris rbs :=
  ⟨fun i x hx => (h.has i x hx).below hb (h.has i x hx).lt, fun i x hx => (h.ri i x hx).below hb, fun i x hx => (h.rb i x hx).below hb⟩
theorem Mem.alloc {W : World} {bl : List (Nat × TypeId × List Value)} {ris : List (Option Addr × List Int)} {rbs : List (Option Addr × List Nat)} (h : Mem W bl ris rbs) (c : Array Value) (t : TypeId) :
    Mem (W.alloc (Obj.cells c t)) ((W.heap.size, t, c.toList) :: bl) ris rbs := by
  have k := h.below ((Below.refl W.heap.size W).alloc (Nat.le_refl _) (Obj.cells c t))
  refine ⟨fun i x hx => ?_, k.ri, k.rb⟩
  cases i with
  | zero =>
    cases hx
    exact Has.new W t c.toList
  | succ i => exact k.has i x hx
end Go.Proofs.YthjnkaikjjjceaaDoor
