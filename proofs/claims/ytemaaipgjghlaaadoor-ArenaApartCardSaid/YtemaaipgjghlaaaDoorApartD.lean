/-
  The law ArenaApart, walked. By an AI agent. No person has read it.
-/
import Derived.Test.YtemaaipgjghlaaaDoorApartC
import Derived.Test.YtemaaipgjghlaaaDoorAreFc
import Derived.Test.YtemaaipgjghlaaaDoorBasN
namespace Go.Proofs.YtemaaipgjghlaaaDoor
open Go.RowKit

/-- What the law is told, one thing: four numbers (and bytes, that it does not read). -/
structure DoI where
  k : Int
  a : Int
  b : Int
  c : Int
def Dos (w : World) (A : Option Addr) (ds : List DoI) : Prop := ∀ (i : Nat) (d : DoI), ds[i]? = some d → ∃ ad, A = some ad ∧ ad.block < w.heap.size ∧ w.cell? (ad.add (i * 5)) = some (.int .i64 d.k) ∧ w.cell? ⟨(ad.add (i * 5)).block, (ad.add (i * 5)).off + 1, none⟩ = some (.int .i64 d.a) ∧ w.cell? ⟨(ad.add (i * 5)).block, (ad.add (i * 5)).off + 2, none⟩ = some (.int .i64 d.b) ∧ w.cell? ⟨(ad.add (i * 5)).block, (ad.add (i * 5)).off + 3, none⟩ = some (.int .i64 d.c)
theorem Dos.below {w w' : World} {A : Option Addr} {ds : List DoI} (h : Dos w A ds) (hb : Below w.heap.size w w') : Dos w' A ds := fun i d hi => by
  obtain ⟨ad, e, h1, h2, h3, h4, h5⟩ := h i d hi
  have hbk : (ad.add (i * 5)).block < w.heap.size := by rw [ad_block]; exact h1
  exact ⟨ad, e, Nat.lt_of_lt_of_le h1 hb.size, (hb.cell (p := ad.add (i * 5)) hbk).trans h2, (hb.cell (p := ⟨(ad.add (i * 5)).block, (ad.add (i * 5)).off + 1, none⟩) hbk).trans h3, (hb.cell (p := ⟨(ad.add (i * 5)).block, (ad.add (i * 5)).off + 2, none⟩) hbk).trans h4, (hb.cell (p := ⟨(ad.add (i * 5)).block, (ad.add (i * 5)).off + 3, none⟩) hbk).trans h5⟩
/-- What the law's filling loop has written: so many, then nothings. -/
theorem fill_next (k n t : Nat) (hk : k < n) : (u8s (List.replicate k t ++ List.replicate (n - k) 0)).set k (.int .u8 (t : Nat)) = u8s (List.replicate (k + 1) t ++ List.replicate (n - (k + 1)) 0) := by
  rw [show n - k = (n - (k + 1)) + 1 by omega, List.replicate_succ]
  unfold u8s
  rw [List.map_append, List.set_append_right _ _ (by simp), List.length_map, List.length_replicate, Nat.sub_self, List.map_cons, List.set_cons_zero, List.replicate_succ', List.append_assoc, List.map_append]
  rfl
theorem fill_zero (k n t : Nat) (hk : k < n) : (u8s (List.replicate k t ++ List.replicate (n - k) 0))[k]? = some (.int .u8 (0 : Nat)) := by
  unfold u8s
  rw [List.getElem?_map, List.getElem?_append_right (by simp), List.length_replicate, Nat.sub_self, List.getElem?_replicate, if_pos (by omega)]
  rfl
theorem has_lie {w : World} {g : Nat} {bs : List Nat} (h : Has w g 5 (u8s bs)) : Lie w (some ⟨g, 0, none⟩) (u8s bs) := fun _ => ⟨_, rfl, h.lt, fun j x hj => by rw [Addr.add_lit, h.cell, Nat.zero_add]; exact hj⟩
def En.o (e : En) : Int := (e.off : Int)
def En.w (e : En) : Int := (e.who : Int)
def En.q (e : En) : Int := ((1000 * e.n + e.t : Nat) : Int)
/-- What stands between two rounds. -/
def Ap.Round (w : World) (B a i : Nat) (vo vw vt : Value) (wr : World) : Prop :=
  ∃ (E : List En) (mem : List Nat) (b : Nat → List (Nat × Nat)) (T : Nat → Prop), E.length ≤ i ∧ Ap.Inv mem b E ∧ Ap.St B wr a mem (Ap.ps b) vo vw vt (E.map En.o) (E.map En.w) (E.map En.q) T ∧ Below w.heap.size w wr

set_option maxRecDepth 100000 in
set_option maxHeartbeats 4000000 in
theorem apart_long (ds : List DoI) (A : Option Addr) (cap : Nat) (w : World) (hl : 60 < ds.length) :
    Calls Tryd.prog 3 #[.slice A ds.length cap] w fun e w' => e = .returned (.bool true) ∧ Below w.heap.size w w' := by
  obtain ⟨L, hL⟩ : ∃ L, Hid (ds.length = L) := ⟨_, hide rfl⟩
  rw [hL.out] at hl ⊢
  have hli : (60 : Int) < (L : Int) := by omega
  go_enter Tryd.func3, Tryd.ntmps3
  go_wp2_with fail
  refine (first13_c w).mono ?_
  rintro e w1 ⟨rfl, hb⟩
  have HB1 := hide hb
  clear hb
  go_wp2_with fail
  go_ret
  exact ⟨rfl, HB1.out⟩
end Go.Proofs.YtemaaipgjghlaaaDoor
