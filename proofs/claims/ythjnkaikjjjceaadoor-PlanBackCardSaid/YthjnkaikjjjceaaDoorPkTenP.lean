/-
  Errors alone and with a place; package pack's Reader: Read, Err, At, Fail, Piece, walked. By an AI agent. No person has read it.
-/
import Derived.Test.YthjnkaikjjjceaaDoorPkErrD
import Derived.Test.YthjnkaikjjjceaaDoorPkTenE
import Derived.Deep.RegionHeld3
namespace Go.Proofs.YthjnkaikjjjceaaDoor
open Go.RowKit
theorem run_nilat (w : World) : (Instr.typeAssert .nilIface 32 119 true).run Tryd.prog w = .ok (.tuple #[.pointer none, .bool false]) w := by kernel_rfl
set_option maxRecDepth 100000 in
theorem alone_nil (w : World) : Calls Tryd.prog 76 #[.nilIface] w fun e w' => e = .returned .nilIface ∧ w' = w := by
  have hr := run_nilat
  go_enter Tryd.func76, Tryd.ntmps76
  go_wp2_with fail
  go_loopw [0, 5] (fun v k wr => v = .nilIface ∧ k = .int .i64 0 ∧ wr = w) (fun _ _ _ => 0)
  case atStart => exact ⟨rfl, rfl, rfl⟩
  case round =>
    obtain ⟨rfl, rfl, rfl⟩ := hrel
    go_wp2_with fail
    go_ret
    exact ⟨rfl, rfl⟩
set_option maxRecDepth 100000 in
theorem alone_err (a : Addr) (w : World) : Calls Tryd.prog 76 #[errv a] w fun e w' => e = .returned (errv a) ∧ w' = w := by
  have hr := run_notat a
  go_enter Tryd.func76, Tryd.ntmps76
  go_wp2_with fail
  go_loopw [0, 5] (fun v k wr => v = errv a ∧ k = .int .i64 0 ∧ wr = w) (fun _ _ _ => 0)
  case atStart => exact ⟨rfl, rfl, rfl⟩
  case round =>
    obtain ⟨rfl, rfl, rfl⟩ := hrel
    go_wp2_with fail
    go_ret
    exact ⟨rfl, rfl⟩
set_option maxRecDepth 100000 in
theorem alone_at (a : Addr) (g : Nat) (i : Int) (w : World) (hA : Has w g 122 [.int .i64 i, errv a]) : Calls Tryd.prog 76 #[.iface 119 (.pointer (some ⟨g, 0, none⟩))] w fun e w' => e = .returned (errv a) ∧ w' = w := by
  have hr := run_notat a
  have hr2 := run_isat g
  have c1 : w.cell? ⟨g, 1, none⟩ = some (errv a) := by rw [hA.cell]; rfl
  clear hA
  go_enter Tryd.func76, Tryd.ntmps76
  go_wp2_with fail
  go_loopw [0, 5] (fun v k wr => ((v = .iface 119 (.pointer (some ⟨g, 0, none⟩)) ∧ k = .int .i64 0) ∨ (v = errv a ∧ k = .int .i64 1)) ∧ wr = w) (fun _ k _ => 1 - (intOf k).toNat)
  case atStart => exact ⟨.inl ⟨rfl, rfl⟩, rfl⟩
  case round =>
    obtain ⟨⟨rfl, rfl⟩ | ⟨rfl, rfl⟩, rfl⟩ := hrel
    · go_wp2_with fail
      go_roundw
      case rel => exact ⟨.inr ⟨rfl, rfl⟩, trivial⟩
      case measure => simp [intOf]
    · go_wp2_with fail
      go_ret
      exact ⟨rfl, rfl⟩
set_option maxRecDepth 100000 in
theorem at_of (a : Addr) (i : Int) (w : World) : Calls Tryd.prog 34 #[.int .i64 i, errv a] w fun e w' => e = .returned (.iface 119 (.pointer (some ⟨w.heap.size, 0, none⟩))) ∧ w' = w.alloc (Obj.cells #[.int .i64 i, errv a] 122) := by
  have HA := hide (fun W => alone_err a W)
  go_enter Tryd.func34, Tryd.ntmps34
  go_wp2_with fail
  refine (HA.out _).mono ?_
  rintro e w1 ⟨rfl, rfl⟩
  go_wp2_with fail
  go_ret
  exact ⟨rfl, rfl⟩
theorem read_c (A : Option Addr) (len cap : Nat) (w : World) : Calls Tryd.prog 31 #[.slice A len cap] w fun e w' => e = .returned (.pointer (some ⟨w.heap.size, 0, none⟩)) ∧ w' = w.alloc (Obj.cells #[.slice A len cap, .int .i64 0, .nilIface] 118) := by
  go_enter Tryd.func31, Tryd.ntmps31
  go_wp2_with fail
  go_ret
  exact ⟨rfl, rfl⟩
theorem rerr_c (g : Nat) (x y v : Value) (w : World) (h : Has w g 118 [x, y, v]) : Calls Tryd.prog 43 #[.pointer (some ⟨g, 0, none⟩)] w fun e w' => e = .returned v ∧ w' = w := by
  have c2 : w.cell? ⟨g, 2, none⟩ = some v := by rw [h.cell]; rfl
  clear h
  go_enter Tryd.func43, Tryd.ntmps43
  go_wp2_with fail
  go_ret
  exact ⟨rfl, rfl⟩
theorem rat_c (g : Nat) (x y v : Value) (w : World) (h : Has w g 118 [x, y, v]) : Calls Tryd.prog 56 #[.pointer (some ⟨g, 0, none⟩)] w fun e w' => e = .returned y ∧ w' = w := by
  have c2 : w.cell? ⟨g, 1, none⟩ = some y := by rw [h.cell]; rfl
  clear h
  go_enter Tryd.func56, Tryd.ntmps56
  go_wp2_with fail
  go_ret
  exact ⟨rfl, rfl⟩
/-- An error: one of api's, alone or with a place. -/
def IsErr (v : Value) : Prop := (∃ a, v = errv a) ∨ ∃ g, v = .iface 119 (.pointer (some ⟨g, 0, none⟩))
theorem fail_first (g : Nat) (x y v : Value) (hv : IsErr v) (w : World) (h : Has w g 118 [x, y, .nilIface]) : Calls Tryd.prog 33 #[.pointer (some ⟨g, 0, none⟩), v] w fun e w' => (∃ r, e = .returned r) ∧ w' = w.setCell ⟨g, 2, none⟩ v := by
  have c2 : w.cell? ⟨g, 2, none⟩ = some .nilIface := by rw [h.cell]; rfl
  have f2 := h.frozen 2
  clear h
  rcases hv with ⟨a, rfl⟩ | ⟨k, rfl⟩
  · go_enter Tryd.func33, Tryd.ntmps33
    go_wp2_with fail
    refine bodyPost_end (results_none rfl _ _ _) rfl ?_
    exact ⟨⟨_, rfl⟩, rfl⟩
  · go_enter Tryd.func33, Tryd.ntmps33
    go_wp2_with fail
    refine bodyPost_end (results_none rfl _ _ _) rfl ?_
    exact ⟨⟨_, rfl⟩, rfl⟩
theorem fail_more (g : Nat) (x y v v2 : Value) (hv : IsErr v) (w : World) (h : Has w g 118 [x, y, v]) : Calls Tryd.prog 33 #[.pointer (some ⟨g, 0, none⟩), v2] w fun e w' => (∃ r, e = .returned r) ∧ w' = w := by
  have c2 : w.cell? ⟨g, 2, none⟩ = some v := by rw [h.cell]; rfl
  clear h
  rcases hv with ⟨a, rfl⟩ | ⟨k, rfl⟩
  · go_enter Tryd.func33, Tryd.ntmps33
    go_wp2_with fail
    refine bodyPost_end (results_none rfl _ _ _) rfl ?_
    exact ⟨⟨_, rfl⟩, rfl⟩
  · go_enter Tryd.func33, Tryd.ntmps33
    go_wp2_with fail
    refine bodyPost_end (results_none rfl _ _ _) rfl ?_
    exact ⟨⟨_, rfl⟩, rfl⟩
theorem add_add' (a : Addr) (i j : Nat) : (a.add i).add j = a.add (i + j) := by
  by_cases hi : i = 0 <;> by_cases hj : j = 0 <;> simp [Addr.add, hi, hj, Nat.add_assoc]
theorem Rb.cut {w : World} {A A2 : Option Addr} {bs : List Nat} {cap lo hi : Nat} (h : Rb w A bs) (hA : Hid ((if cap = lo then A else A.map (·.add (lo * 1))) = A2)) (hhi : hi ≤ bs.length) (hc : bs.length ≤ cap) : Rb w A2 ((bs.take hi).drop lo) := by
  refine ⟨fun b hb => h.1 b (List.mem_of_mem_take (List.mem_of_mem_drop hb)), fun hn => ?_⟩
  have hl : lo < hi := by
    rcases Nat.lt_or_ge lo hi with h' | h'
    · exact h'
    · exact absurd (List.drop_eq_nil_of_le (by rw [List.length_take]; omega)) hn
  obtain ⟨ad, rfl, h1, h2⟩ := h.2 (by rintro rfl; simp at hhi; omega)
  have e := hA.out
  rw [if_neg (by omega)] at e
  refine ⟨ad.add (lo * 1), e.symm, by rw [ad_block]; exact h1, fun i b hi2 => ?_⟩
  rw [add_add']
  rw [List.getElem?_drop, List.getElem?_take] at hi2
  split at hi2
  · rw [Nat.mul_one]; exact h2 _ _ hi2
  · cases hi2
/-- 'b[lo:hi]'. -/
theorem cut_run (A A2 : Option Addr) (len cap lo hi : Nat) (hA : Hid ((if cap = lo then A else A.map (·.add (lo * 1))) = A2)) (h1 : lo ≤ hi) (h2 : hi ≤ cap) (W : World) :
    (Instr.slice 30 (.slice A len cap) (some (.int .i64 (lo : Int))) (some (.int .i64 (hi : Int))) none).run Tryd.prog W = .ok (.slice A2 (hi - lo) (cap - lo)) W := by
  rw [← hA.out]
  have hu : Tryd.prog.underlying 30 = some (.slice (Tryd.prog.elem 30)) := by kernel_rfl
  have hz : ∀ W : World, (sizeOf (Tryd.prog.elem 30)).run Tryd.prog W = .ok 1 W := fun _ => by kernel_rfl
  rw [run_slice_lh W _ _ _ _ hu _ _ _ _ (by omega) (by omega) (by omega), hz]
  simp only [Result.andThen, sliced, Int.toNat_natCast]
theorem Rb.grown {w w' : World} {A : Option Addr} {bs : List Nat} {row : Option Nat} (h : Rb w A bs) (hb : w.grownBy w' row) (hr : ∀ ad, A = some ad → ad.block < w.heap.size → some ad.block ≠ row) : Rb w' A bs := by
  refine ⟨h.1, fun hn => ?_⟩
  obtain ⟨ad, e, h1, h2⟩ := h.2 hn
  refine ⟨ad, e, Nat.lt_of_lt_of_le h1 hb.size, fun i b hi => ?_⟩
  rw [World.cell?_of_block (hb.block (ad.add i).block (by rw [ad_block]; exact h1) (by rw [ad_block]; exact hr ad e h1))]
  exact h2 i b hi
theorem grown_set {w w' : World} {g : Nat} (h : w.grownBy w' (some g)) (p : Addr) (hp : p.block = g) (v : Value) : w.grownBy (w'.setCell p v) (some g) :=
  ⟨h.os, h.tape, h.output, by have := h.size; simpa using this, fun k hk hne => (Below.heap_setCell w' p v k (by rintro rfl; exact hne (by rw [hp]))).trans (h.block k hk hne)⟩
theorem grown_drew {w w' : World} {row : Option Nat} (h : w.grownBy w' row) : w.grownBy w'.drew row := ⟨h.os, h.tape, h.output, h.size, h.block⟩
abbrev RdS (g : Nat) (x y v : Value) (W : World) : Prop := W.cell? ⟨g, 0, none⟩ = some x ∧ W.cell? ⟨g, 1, none⟩ = some y ∧ W.cell? ⟨g, 2, none⟩ = some v
theorem RdS.of {g : Nat} {x y v : Value} {W : World} {t : TypeId} (h : Has W g t [x, y, v]) : RdS g x y v W := ⟨by rw [h.cell]; rfl, by rw [h.cell]; rfl, by rw [h.cell]; rfl⟩
set_option maxRecDepth 100000 in
set_option maxHeartbeats 4000000 in
/-- A piece that is there. -/
theorem piece_c (g at_ cap n : Nat) (A : Option Addr) (bs : List Nat) (w : World) (h : Has w g 118 [.slice A bs.length cap, .int .i64 (at_ : Int), .nilIface]) (hb : Rb w A bs) (hAg : ∀ ad, A = some ad → ad.block < w.heap.size → ad.block ≠ g) (hn : at_ + n ≤ bs.length) (hc : bs.length ≤ cap) (hl : bs.length ≤ 1000000000) :
    Calls Tryd.prog 32 #[.pointer (some ⟨g, 0, none⟩), .int .i64 (n : Int)] w fun e w' => (∃ A2 c2, e = .returned (.slice A2 n c2) ∧ n ≤ c2 ∧ Rb w' A2 ((bs.take (at_ + n)).drop at_)) ∧ Has w' g 118 [.slice A bs.length cap, .int .i64 ((at_ + n : Nat) : Int), .nilIface] ∧ w.grownBy w' (some g) := by
  obtain ⟨A2, hA2⟩ : ∃ A2, Hid ((if cap = at_ then A else A.map (·.add (at_ * 1))) = A2) := ⟨_, hide rfl⟩
  have hcut0 := fun W => cut_run A A2 bs.length cap at_ (at_ + n) hA2 (by omega) (by omega) W
  rw [show at_ + n - at_ = n by omega] at hcut0
  have HRB := hide (fun W (hw : Rb W A bs) => hw.cut (lo := at_) (hi := at_ + n) hA2 hn hc)
  have HG := hide (grown_drew (grown_set (World.grownBy.refl w (some g)) ⟨g, 1, none⟩ rfl (.int .i64 ((at_ + n : Nat) : Int))))
  have HBS := hide (hb.grown (HG.out) (fun ad e hlt he => hAg ad e hlt (Option.some.inj he)))
  have HGd := hide hb
  have hH := (h.set_ 1 (.int .i64 ((at_ + n : Nat) : Int))).drewN 1
  obtain ⟨len, hlen⟩ : ∃ len, Hid (bs.length = len) := ⟨_, hide rfl⟩
  rw [hlen.out] at h hn hc hl hcut0 hH ⊢
  obtain ⟨q, hq⟩ : ∃ q, Hid (at_ + n = q) := ⟨_, hide rfl⟩
  have hq' := hq.out
  rw [hq.out] at hcut0 HRB HG HBS hH ⊢
  have c0 : w.cell? ⟨g, 0, none⟩ = some (.slice A len cap) := by rw [h.cell]; rfl
  have c1 : w.cell? ⟨g, 1, none⟩ = some (.int .i64 (at_ : Int)) := by rw [h.cell]; rfl
  have c2 : w.cell? ⟨g, 2, none⟩ = some .nilIface := by rw [h.cell]; rfl
  have f1 := h.frozen 1
  have hs1 : IntKind.i64.wrap ((len : Int) - (at_ : Int)) = (len : Int) - (at_ : Int) := by rw [IntKind.wrap_i64]; omega
  have hs2 : IntKind.i64.wrap ((at_ : Int) + (n : Int)) = (q : Int) := by rw [IntKind.wrap_i64]; omega
  have hs3 : IntKind.i64.wrap ((q : Int) - (n : Int)) = (at_ : Int) := by rw [IntKind.wrap_i64]; omega
  have hgt : ¬ ((len : Int) - (at_ : Int) < (n : Int)) := by omega
  have hncap : n ≤ cap - at_ := by omega
  have hS0 : RdS g (.slice A len cap) (.int .i64 (at_ : Int)) .nilIface w.drew := ⟨c0, c1, c2⟩
  clear h hb hAg hA2
  go_enter Tryd.func32, Tryd.ntmps32
  go_wp2_with fail
  go_region_held3 (fun W => W.cell? ⟨g, 0, none⟩ = some (.slice A len cap) ∧ W.cell? ⟨g, 1, none⟩ = some (.int .i64 (at_ : Int)) ∧ W.cell? ⟨g, 2, none⟩ = some .nilIface)
    (first | exact hS0 | assumption)
    (first | fail)
  have hcd : decide ((len : Int) - (at_ : Int) < (n : Int)) = false := decide_eq_false (by omega)
  rw [hcd]
  clear hcd hgt hs1
  have d0 : w.drew.cell? ⟨g, 0, none⟩ = some (.slice A len cap) := c0
  have d1 : w.drew.cell? ⟨g, 1, none⟩ = some (.int .i64 (at_ : Int)) := c1
  have d2 : w.drew.cell? ⟨g, 2, none⟩ = some .nilIface := c2
  have df : w.drew.frozen? ⟨g, 1, none⟩ = false := f1
  clear c0 c1 c2 f1 hS0
  have HG2 := hide (grown_drew HG.out)
  have HBS2 := hide (HRB.out _ (show Rb ((w.setCell ⟨g, 1, none⟩ (.int .i64 (q : Int))).drew).drew A bs from HBS.out))
  have HH : Hid (Has ((w.setCell ⟨g, 1, none⟩ (.int .i64 (q : Int))).drew).drew g 118 [.slice A len cap, .int .i64 (q : Int), .nilIface]) := hide hH
  have hS0 : RdS g (.slice A len cap) (.int .i64 (q : Int)) .nilIface ((w.setCell ⟨g, 1, none⟩ (.int .i64 (q : Int))).drew).drew := RdS.of HH.out
  clear hH HG HBS HRB HGd
  go_wp2_with fail
  go_region_held3 (fun W => W.cell? ⟨g, 0, none⟩ = some (.slice A len cap) ∧ W.cell? ⟨g, 1, none⟩ = some (.int .i64 (q : Int)) ∧ W.cell? ⟨g, 2, none⟩ = some .nilIface)
    (first | exact hS0 | assumption)
    (first | fail)
  clear hS0
  go_wp2_with fail
  go_ret
  exact ⟨⟨A2, _, rfl, hncap, HBS2.out⟩, HH.out, HG2.out⟩
end Go.Proofs.YthjnkaikjjjceaaDoor
