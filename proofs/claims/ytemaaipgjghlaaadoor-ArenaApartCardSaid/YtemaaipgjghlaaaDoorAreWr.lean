/-
  Arena.Write, Read and Raw, walked. By an AI agent. No person has read it.
-/
import Derived.Test.YtemaaipgjghlaaaDoorAreY
import Derived.Test.YtemaaipgjghlaaaDoorAreZ
import Derived.Test.YtemaaipgjghlaaaDoorAreS
namespace Go.Proofs.YtemaaipgjghlaaaDoor
open Go.RowKit

/-- Bytes with others laid over. -/
def Ar.over (mem : List Nat) (x : Nat) (bs : List Nat) : List Nat := mem.take x ++ bs ++ mem.drop (x + bs.length)
theorem Ar.over_len (mem : List Nat) (x : Nat) (bs : List Nat) (h : x + bs.length ≤ mem.length) : (Ar.over mem x bs).length = mem.length := by
  unfold Ar.over
  rw [List.length_append, List.length_append, List.length_take, List.length_drop]
  omega
theorem u8size : (Tryd.prog.info? 5).map (·.size) = some 1 := by
  obtain ⟨i0, hi0, -, hz1, -⟩ := u8info
  rw [hi0, Option.map_some, hz1]
/-- Behind Write into a block. -/
def Ar.Wrote (base a m x : Nat) (v : Value) (mem bs : List Nat) (l : List Hd) (w : World) (e : Ending) (w' : World) : Prop :=
  e = .returned (.bool true) ∧ ArIn base w' a m v (Ar.over mem x bs) l ∧ Off (Ar.bl a m v l) w w'

/-- Some of a memory's bytes lie so. -/
theorem mem_lie {w : World} {m : Nat} {mem : List Nat} (h : Has w m 5 (u8s mem)) (x n : Nat) : Lie w (some ⟨m, x, none⟩) (u8s ((mem.drop x).take n)) := fun _ => by
  refine ⟨⟨m, x, none⟩, rfl, h.lt, fun j u hj => ?_⟩
  rw [Addr.add_lit, h.cell]
  unfold u8s at hj ⊢
  rw [List.getElem?_map, List.getElem?_take, List.getElem?_drop] at hj
  rw [List.getElem?_map]
  split at hj
  · exact hj
  · cases hj
theorem own_later {w : World} {base base' n s : Nat} {e : TypeId} {v : Value} {xs : List Value} (h : w.ownsRow base' e s v n xs) (hb : base ≤ base') : w.ownsRow base e s v n xs := by
  refine ⟨h.1, ?_⟩
  rcases h.2 with h1 | ⟨g, c, cur, h1, h2, h3⟩
  · exact .inl h1
  · exact .inr ⟨g, c, cur, h1, Nat.le_trans hb h2, h3⟩

theorem copy_mem (w : World) (m x n dc c : Nat) (mem bs : List Nat) (A : Option Addr) (ty : TypeId) (h : Has w m 5 (u8s mem)) (hl : bs.length = n) (hx : x + n ≤ mem.length) (hR : Lie w A (u8s bs)) (hA : A = none → n = 0) :
    ∃ w', (Builtin.copy_ #[35, 35] ty #[.slice (some ⟨m, x, none⟩) n dc, .slice A n c]).run Tryd.prog w = .ok (.int .i64 n) w' ∧ (w' = w ∧ bs = [] ∨ w' = w.setRow m (u8s (Ar.over mem x bs)).toArray) := by
  cases A with
  | none =>
    obtain rfl := hA rfl
    obtain ⟨i0, hi0, -, -, -⟩ := u8info
    refine ⟨w, ?_, .inl ⟨rfl, List.eq_nil_of_length_eq_zero hl⟩⟩
    simp [Builtin.copy_, run_underlying (P := Tryd.prog) ubs, Builtin.lenOf, Builtin.firstCells, sizeOf, typeInfo, hi0, goInt, storeCells]
  | some ad =>
    have hr := run_copy_rows (P := Tryd.prog) w 35 35 ty 5 m x n dc ad n c (u8s mem).toArray 5 (u8s bs) 1 ubs u8size h (by show (u8s bs).length = Nat.min n n * 1; rw [List.length_map, hl, Nat.mul_one]; exact (Nat.min_self n).symm)
      (fun j u hj => by
        have hne : u8s bs ≠ [] := fun e => by rw [e] at hj; cases hj
        obtain ⟨ad', e, -, h2⟩ := hR hne
        obtain rfl : ad = ad' := Option.some.inj e
        exact h2 j u hj) (by simp; omega) (fun u hu => by
        obtain ⟨y, -, rfl⟩ := List.mem_map.1 hu
        rfl)
    refine ⟨_, hr.trans ?_, .inr rfl⟩
    have e : (u8s mem).toArray.toList.take x ++ u8s bs ++ (u8s mem).toArray.toList.drop (x + (u8s bs).length) = u8s (Ar.over mem x bs) := by
      unfold Ar.over u8s
      rw [List.map_append, List.map_append, List.map_take, List.map_drop, List.length_map]
    rw [e, show Nat.min n n = n from Nat.min_self n]
    rfl

set_option maxRecDepth 100000 in
set_option maxHeartbeats 4000000 in
theorem write_ok (id : Int) (base a m off i c : Nat) (v : Value) (mem bs : List Nat) (A : Option Addr) (l : List Hd) (h : Hd) (w : World) (hA : ArIn base w a m v mem l) (hl : l.length ≤ 1000) (hmem : mem.length ≤ 1048576) (hi : l[i]? = some h) (hf : Ar.find id 0 l = (i : Int)) (hbl : h.bs.length ≤ 1000000) (hb : ∃ b ∈ h.bs, Bk.has off bs.length b) (hbs : ∀ b ∈ h.bs, b.1 + b.2 ≤ h.size) (hfit : h.off + h.size ≤ mem.length) (hlt : h.off + off < mem.length)
    (hR : Lie w A (u8s bs)) (hn : A = none → bs.length = 0) :
    Calls Tryd.prog 12 #[.pointer (some ⟨a, 0, none⟩), .int .i64 id, .int .i64 (off : Nat), .slice A bs.length c] w (Ar.Wrote base a m (h.off + off) v mem bs l w) := by
  have hbo : h.off + off + bs.length ≤ mem.length := by
    obtain ⟨b, hbm, h1, h2⟩ := hb
    have := hbs b hbm
    omega
  have VW := hide (within_ok id base a m off bs.length i v mem l h w hA hl hmem hi hf hbl hb hbs hfit hlt)
  have VC := hide (fun W (hb' : Below w.heap.size w W) ty => copy_mem W m (h.off + off) bs.length (mem.length - (h.off + off)) c mem bs A ty (hA.below hb').bytes rfl hbo (hR.below hb') hn)
  have FIN := hide (fun W W' (hb' : Below w.heap.size w W) (hw : W' = W ∧ bs = [] ∨ W' = W.setRow m (u8s (Ar.over mem (h.off + off) bs)).toArray) => show Ar.Wrote base a m (h.off + off) v mem bs l w (.returned (.bool true)) W' from by
    rcases hw with ⟨rfl, rfl⟩ | rfl
    · refine ⟨rfl, ?_, Off.of_below hb'⟩
      have e : Ar.over mem (h.off + off) [] = mem := by simp [Ar.over]
      rw [e]
      exact hA.below hb'
    · obtain ⟨h1, h2⟩ := (hA.below hb').wrote (Ar.over_len mem (h.off + off) bs hbo)
      exact ⟨rfl, h1, (Off.of_below hb').trans h2 fun k hk => .inl (by simp [Ar.bl] at hk ⊢; exact .inr (.inl hk))⟩)
  obtain ⟨n, hn'⟩ : ∃ n, Hid (bs.length = n) := ⟨_, hide rfl⟩
  rw [hn'.out] at VW VC ⊢
  clear hA hl hi hf hbl hb hbs hfit hlt hR hn hbo
  go_enter Tryd.func12, Tryd.ntmps12
  go_wp2_with fail
  refine VW.out.mono ?_
  rintro e w1 ⟨rfl, hb1⟩
  have HB := hide hb1
  obtain ⟨W2, hcp, hW2⟩ := VC.out w1 hb1 3
  have HF := hide (FIN.out w1 W2 hb1 hW2)
  have HC := hide hcp
  clear VC FIN hb1 hW2 VW hcp
  go_wp2_with fail
  rw [HC.out]
  go_wp2_with fail
  go_ret
  exact HF.out

set_option maxRecDepth 100000 in
set_option maxHeartbeats 4000000 in
theorem read_ok (id : Int) (base a m off n i : Nat) (v : Value) (mem : List Nat) (l : List Hd) (h : Hd) (w : World) (hA : ArIn base w a m v mem l) (hl : l.length ≤ 1000) (hmem : mem.length ≤ 1048576) (hi : l[i]? = some h) (hf : Ar.find id 0 l = (i : Int)) (hbl : h.bs.length ≤ 1000000) (hb : ∃ b ∈ h.bs, Bk.has off n b) (hbs : ∀ b ∈ h.bs, b.1 + b.2 ≤ h.size) (hfit : h.off + h.size ≤ mem.length) (hlt : h.off + off < mem.length) :
    Calls Tryd.prog 14 #[.pointer (some ⟨a, 0, none⟩), .int .i64 id, .int .i64 (off : Nat), .int .i64 (n : Nat)] w fun e w' => ∃ v', e = .returned (.tuple #[v', .bool true]) ∧ w'.ownsRow w.heap.size 5 1 v' n (u8s ((mem.drop (h.off + off)).take n)) ∧ Below w.heap.size w w' := by
  have hbo : h.off + off + n ≤ mem.length := by
    obtain ⟨b, hbm, h1, h2⟩ := hb
    have := hbs b hbm
    omega
  have VW := hide (within_ok id base a m off n i v mem l h w hA hl hmem hi hf hbl hb hbs hfit hlt)
  have VC := hide (fun W (hb' : Below w.heap.size w W) => cloneb_c ((mem.drop (h.off + off)).take n) ⟨m, h.off + off, none⟩ n (mem.length - (h.off + off)) W (mem_lie (hA.below hb').bytes _ _) (by rw [List.length_take, List.length_drop]; omega) (by omega))
  obtain ⟨X, hX⟩ : ∃ X, Hid (u8s ((mem.drop (h.off + off)).take n) = X) := ⟨_, hide rfl⟩
  rw [hX.out] at VC ⊢
  clear hA hl hi hf hbl hb hbs hfit hlt hbo
  go_enter Tryd.func14, Tryd.ntmps14
  go_wp2_with fail
  refine VW.out.mono ?_
  rintro e w1 ⟨rfl, hb1⟩
  have HB := hide hb1
  have HC := hide (VC.out w1 hb1)
  clear VC hb1 VW
  go_wp2_with fail
  refine HC.out.mono ?_
  rintro e w2 ⟨v', rfl, hrow, hb2⟩
  have HR := hide (own_later hrow HB.out.size)
  have HB2 := hide (HB.out.trans (hb2.mono HB.out.size))
  obtain ⟨A', c', rfl, -⟩ := own_lie hrow
  clear hrow hb2 HC
  go_wp2_with fail
  refine bodyPost_ret (results_two rfl _ _) rfl ?_
  exact ⟨_, rfl, HR.out, HB2.out⟩
end Go.Proofs.YtemaaipgjghlaaaDoor
