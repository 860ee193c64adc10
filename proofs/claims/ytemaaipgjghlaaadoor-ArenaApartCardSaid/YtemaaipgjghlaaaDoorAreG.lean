/-
  An arena in memory: what it has, and that all its rows lie in blocks of their own; arena.New, walked. By an AI agent. No person has read it.
-/
import Derived.Test.YtemaaipgjghlaaaDoorAreF
import Derived.Test.YtemaaipgjghlaaaDoorAreC
import Derived.Test.YtemaaipgjghlaaaDoorErrA
namespace Go.Proofs.YtemaaipgjghlaaaDoor
open Go.RowKit

/-- The blocks in which an arena lies. -/
def Ar.bl (a m : Nat) (v : Value) (l : List Hd) : List Nat := a :: m :: (v.ownBlock.toList ++ l.filterMap fun h => h.A.map (·.block))
/-- An arena: its box, its bytes, its parts by place, each part's blocks. -/
structure ArIn (base : Nat) (w : World) (a m : Nat) (v : Value) (mem : List Nat) (l : List Hd) : Prop where
  box : Has w a 59 [.slice (some ⟨m, 0, none⟩) mem.length mem.length, v]
  bytes : Has w m 5 (u8s mem)
  row : w.ownsRow base 62 4 v l.length (l.flatMap Hd.vals)
  bks : ∀ h ∈ l, w.ownsRow base 64 2 (.slice h.A h.bs.length h.c) h.bs.length (h.bs.flatMap Bk.vals)
  dis : (Ar.bl a m v l).Nodup
  low : base ≤ a ∧ base ≤ m
/-- Nothing is turned but these blocks. -/
structure Off (S : List Nat) (w w' : World) : Prop where
  os : w'.os = w.os
  tape : w'.tape = w.tape
  output : w'.output = w.output
  size : w.heap.size ≤ w'.heap.size
  block : ∀ k, k < w.heap.size → k ∉ S → w'.heap[k]? = w.heap[k]?
theorem Off.of_below {S : List Nat} {w w' : World} (h : Below w.heap.size w w') : Off S w w' := ⟨h.os, h.tape, h.output, h.size, fun k hk _ => h.block k hk⟩
theorem Off.grown {S : List Nat} {w w' : World} {row : Option Nat} (h : w.grownBy w' row) (hr : ∀ k, row = some k → k ∈ S) : Off S w w' :=
  ⟨h.os, h.tape, h.output, h.size, fun k hk hS => h.block k hk fun e => hS (hr k e.symm)⟩
theorem Off.trans {S S' : List Nat} {w w' w'' : World} (h : Off S w w') (h' : Off S' w' w'') (hS : ∀ k, k ∈ S' → k ∈ S ∨ w.heap.size ≤ k) : Off S w w'' :=
  ⟨h'.os.trans h.os, h'.tape.trans h.tape, h'.output.trans h.output, Nat.le_trans h.size h'.size, fun k hk hn =>
    (h'.block k (Nat.lt_of_lt_of_le hk h.size) fun hm => by
      rcases hS k hm with h1 | h1
      · exact hn h1
      · omega).trans (h.block k hk hn)⟩
theorem Off.set_ {S : List Nat} {w w' : World} (h : Off S w w') {p : Addr} (hp : p.block ∈ S) (u : Value) : Off S w (w'.setCell p u) :=
  ⟨h.os, h.tape, h.output, by rw [show (w'.setCell p u).heap.size = w'.heap.size by simp [World.setCell]]; exact h.size, fun k hk hn => (Below.heap_setCell w' p u k (fun e => hn (by rw [e]; exact hp))).trans (h.block k hk hn)⟩
theorem Off.below {S : List Nat} {w w' : World} {B : Nat} (h : Off S w w') (hB : B ≤ w.heap.size) (hS : ∀ k ∈ S, B ≤ k) : Below B w w' :=
  ⟨h.os, h.tape, h.output, h.size, fun k hk => h.block k (by omega) fun hm => by have := hS k hm; omega⟩
theorem Has.off {S : List Nat} {w w' : World} {g : Nat} {t : TypeId} {cs : List Value} (h : Has w g t cs) (ho : Off S w w') (hg : g ∉ S) : Has w' g t cs := (ho.block g h.lt hg).trans h
theorem own_off {S : List Nat} {w w' : World} {base n s : Nat} {e : TypeId} {v : Value} {xs : List Value} (h : w.ownsRow base e s v n xs) (ho : Off S w w') (hg : ∀ k, v.ownBlock = some k → k ∉ S) : w'.ownsRow base e s v n xs := by
  refine ⟨h.1, ?_⟩
  rcases h.2 with ⟨h1, h2⟩ | ⟨g, c, cur, h1, h2, h3, h4⟩
  · exact .inl ⟨h1, h2⟩
  · have hlt : g < w.heap.size := by
      rcases Nat.lt_or_ge g w.heap.size with hlt | hge
      · exact hlt
      · rw [Array.getElem?_eq_none hge] at h3; cases h3
    exact .inr ⟨g, c, cur, h1, h2, (ho.block g hlt (hg g (by rw [h1]; rfl))).trans h3, h4⟩
/-- A row of one's own lies so. -/
theorem own_lie {w : World} {base n s : Nat} {e : TypeId} {v : Value} {xs : List Value} (h : w.ownsRow base e s v n xs) : ∃ A c, v = .slice A n c ∧ n ≤ c ∧ Lie w A xs ∧ (∀ k, A.map (·.block) = some k → v.ownBlock = some k) ∧ v.ownBlock = A.map (·.block) := by
  rcases h.2 with ⟨rfl, rfl⟩ | ⟨g, c, cur, rfl, h2, h3, h4, -, h6, h7⟩
  · have hx : xs = [] := List.eq_nil_of_length_eq_zero (by simpa using h.1)
    exact ⟨none, 0, rfl, Nat.le_refl _, by rw [hx]; exact Lie.nil _ _, fun k hk => hk, rfl⟩
  · refine ⟨some ⟨g, 0, none⟩, c, rfl, h4, fun hx => ⟨⟨g, 0, none⟩, rfl, ?_, fun j x hj => ?_⟩, fun k hk => hk, rfl⟩
    · show g < w.heap.size
      rcases Nat.lt_or_ge g w.heap.size with hlt | hge
      · exact hlt
      · rw [Array.getElem?_eq_none hge] at h3; cases h3
    · rw [Addr.add_lit, Nat.zero_add, cell_of_row w g j cur e (0, 0) h3, ← Array.getElem?_toList]
      rw [← h7, List.getElem?_take] at hj
      split at hj
      · exact hj
      · cases hj
/-- What turns nothing of an arena leaves it. -/
theorem ArIn.off {base : Nat} {w w' : World} {a m : Nat} {v : Value} {mem : List Nat} {l : List Hd} {S : List Nat} (h : ArIn base w a m v mem l) (ho : Off S w w') (hS : ∀ k ∈ Ar.bl a m v l, k ∉ S) : ArIn base w' a m v mem l :=
  ⟨h.box.off ho (hS a (by simp [Ar.bl])), h.bytes.off ho (hS m (by simp [Ar.bl])), own_off h.row ho fun k hk => hS k (by simp [Ar.bl, hk]),
    fun x hx => own_off (h.bks x hx) ho fun k hk => hS k (by
      simp only [Ar.bl, List.mem_cons, List.mem_append, List.mem_filterMap]
      refine .inr (.inr (.inr ⟨x, hx, ?_⟩))
      cases hA : x.A with
      | none => rw [hA] at hk; cases hk
      | some ad => rw [hA] at hk; exact hk), h.dis, h.low⟩
theorem ArIn.below {base : Nat} {w w' : World} {a m : Nat} {v : Value} {mem : List Nat} {l : List Hd} (h : ArIn base w a m v mem l) (hb : Below w.heap.size w w') : ArIn base w' a m v mem l :=
  h.off (S := []) (Off.of_below hb) fun k _ hk => by cases hk

/-- A new arena: bytes of nothing, no part. -/
def Ar.New (n : Nat) (w : World) (e : Ending) (w' : World) : Prop :=
  ∃ a m, e = .returned (.tuple #[.pointer (some ⟨a, 0, none⟩), .nilIface]) ∧ ArIn w.heap.size w' a m (.slice none 0 0) (List.replicate n 0) [] ∧ Below w.heap.size w w'
theorem made_bytes (n : Nat) (hn : n ≤ 1048576) : ∃ Z : Array Value, Hid (Z = (u8s (List.replicate n 0)).toArray) ∧ ∀ w : World, (Instr.makeSlice 35 (.int .i64 n) (.int .i64 n)).run Tryd.prog w = .ok (.slice (some ⟨w.heap.size, 0, none⟩) n n) (w.alloc (.cells Z 5)) := by
  obtain ⟨i0, hi0, hz0, hz1, hz2⟩ := u8info
  refine ⟨madeCells (Value.int .u8 0).cells n, hide ?_, fun w => ?_⟩
  · apply Array.ext'
    rw [show (Value.int .u8 0).cells = #[Value.int .u8 0] from rfl, toList_madeCells_one]
    simp
  · have h := run_make (P := Tryd.prog) w 35 5 i0 (.int .u8 0) ubs hi0 hz0 .i64 .i64 (n : Int) (n : Int) (by omega) (by omega) (by rw [hz2]; omega) (by omega)
    rw [hz1, Int.toNat_natCast, Nat.mul_one] at h
    exact h
set_option maxRecDepth 100000 in
set_option maxHeartbeats 4000000 in
theorem new_c (n : Nat) (h1 : 1 ≤ n) (h2 : n ≤ 1048576) (w : World) :
    Calls Tryd.prog 8 #[.int .i64 (n : Nat)] w (Ar.New n w) := by
  have hn1 : ¬ ((n : Int) < 1) := by omega
  have hn2 : ¬ ((1048576 : Int) < (n : Int)) := by omega
  have hn3 : ¬ ((n : Int) < 0) := by omega
  obtain ⟨Z, hZ, hmk⟩ := made_bytes n h2
  have fin : Hid (ArIn w.heap.size ((w.alloc (.cells Z 5)).alloc (.cells #[.slice (some ⟨w.heap.size, 0, none⟩) n n, .slice none 0 0] 59)) (w.heap.size + 1) w.heap.size (.slice none 0 0) (List.replicate n 0) [] ∧ Below w.heap.size w ((w.alloc (.cells Z 5)).alloc (.cells #[.slice (some ⟨w.heap.size, 0, none⟩) n n, .slice none 0 0] 59))) := hide ⟨⟨by
      rw [List.length_replicate]
      have h := Has.new (w.alloc (.cells Z 5)) 59 [.slice (some ⟨w.heap.size, 0, none⟩) n n, .slice none 0 0]
      rw [show (w.alloc (.cells Z 5)).heap.size = w.heap.size + 1 by simp] at h
      exact h, by
      have h := (Has.new w 5 (u8s (List.replicate n 0))).alloc (.cells #[.slice (some ⟨w.heap.size, 0, none⟩) n n, .slice none 0 0] 59)
      rw [← hZ.out] at h
      exact h, ⟨rfl, .inl ⟨rfl, rfl⟩⟩, fun h hh => by simp at hh, by simp [Ar.bl, Value.ownBlock], by omega⟩,
    ((Below.refl w.heap.size w).alloc (Nat.le_refl _) _).alloc (by simp) _⟩
  clear hZ h1 h2
  go_enter Tryd.func8, Tryd.ntmps8
  go_wp2_with fail
  refine bodyPost_ret (results_two rfl _ _) rfl ?_
  exact ⟨w.heap.size + 1, w.heap.size, rfl, fin.out.1, fin.out.2⟩
end Go.Proofs.YtemaaipgjghlaaaDoor
