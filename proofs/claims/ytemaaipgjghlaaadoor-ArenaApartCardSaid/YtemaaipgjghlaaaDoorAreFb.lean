/-
  What an arena answers, told by plain values. By an AI agent. No person has read it.
-/
import Derived.Test.YtemaaipgjghlaaaDoorAreFa
namespace Go.Proofs.YtemaaipgjghlaaaDoor
open Go.RowKit

section
variable {base a : Nat} {mem : List Nat} {ps : List Pt} {T : Nat → Prop} {w : World}

theorem fnew (n : Nat) (h1 : 1 ≤ n) (h2 : n ≤ 1048576) (w : World) :
    Calls Tryd.prog 8 #[.int .i64 (n : Nat)] w fun e w' => ∃ a, e = .returned (.tuple #[.pointer (some ⟨a, 0, none⟩), .nilIface]) ∧ Ar.Is w.heap.size w' a (List.replicate n 0) [] (fun _ => False) ∧ Below w.heap.size w w' :=
  (new_c n h1 h2 w).mono fun e w' ⟨a, m, e1, hA, hb⟩ => ⟨a, e1, ⟨m, _, [], hA, rfl, fun _ h => h.elim, by simp, by simpa using h1, by simpa using h2, by simp [Bk.ok], by simp⟩, hb⟩

theorem fadd_ok (id : Int) (size off i : Nat) (hI : Ar.Is base w a mem ps T) (hl : ps.length < 1000) (hs : 1 ≤ size) (hf : Pt.find id 0 ps = -1) (hg : Ar.gap (size : Int) mem.length 0 0 (ps.map Pt.pr) = (off, i, true)) :
    Calls Tryd.prog 9 #[.pointer (some ⟨a, 0, none⟩), .int .i64 id, .int .i64 (size : Nat)] w fun e w' => e = .returned (.tuple #[.agg #[.int .i64 id, .int .i64 (off : Nat), .int .i64 (size : Nat)], .nilIface]) ∧ Ar.Is base w' a mem (ps.take i ++ ⟨id, off, size, []⟩ :: ps.drop i) T ∧ Ar.To base T w w' := by
  have hbase := hI.base
  obtain ⟨m, v, l, hA, rfl, hT, hW⟩ := hI
  obtain ⟨d, e1, e2, -, e4, e5⟩ := Ar.gap_ok size mem.length hs _ 0 0 off i hW.parts hg
  obtain rfl : i = d := by omega
  have hpr : l.map Hd.pr = (l.map Hd.pu).map Pt.pr := by rw [List.map_map]; rfl
  rw [List.length_map, List.length_map] at e2
  rw [List.length_map] at hl
  refine (add_ok id size base a m off i v mem l w hA (by omega) hW.high (fun h hh => (hW.part (List.mem_map_of_mem hh)).1) hs hbase e2 (by rw [find_pu]; exact hf) (by rw [hpr]; exact hg)).mono ?_
  rintro e w' ⟨v', rfl, h1, h2, h3⟩
  have hm : (l.take i ++ (⟨id, off, size, none, [], 0⟩ : Hd) :: l.drop i).map Hd.pu = (l.map Hd.pu).take i ++ ⟨id, off, size, []⟩ :: (l.map Hd.pu).drop i := by
    rw [List.map_append, List.map_cons, List.map_take, List.map_drop]
    rfl
  have := Ar.Is.next hA hT h1 h2 h3 (by
    rw [hm]
    refine ⟨by simp only [List.length_append, List.length_cons, List.length_take, List.length_drop, List.length_map]; omega, hW.low, hW.high, ?_, fun p hp => ?_⟩
    · rw [List.map_append, List.map_cons, List.map_take, List.map_drop]
      exact e5
    · rcases List.mem_append.1 hp with hp | hp
      · exact hW.bks p (List.mem_of_mem_take hp)
      · rcases List.mem_cons.1 hp with rfl | hp
        · exact Nat.zero_le _
        · exact hW.bks p (List.mem_of_mem_drop hp))
  rw [hm] at this
  exact ⟨rfl, this⟩

theorem fadd_full (id : Int) (size off i : Nat) (hI : Ar.Is base w a mem ps T) (hs : 1 ≤ size) (hf : Pt.find id 0 ps = -1) (hg : Ar.gap (size : Int) mem.length 0 0 (ps.map Pt.pr) = (off, i, false)) (ar : Addr) (hE : ErrIs w 1 ar) :
    Calls Tryd.prog 9 #[.pointer (some ⟨a, 0, none⟩), .int .i64 id, .int .i64 (size : Nat)] w fun e w' => e = .returned (.tuple #[.agg #[.int .i64 0, .int .i64 0, .int .i64 0], errv ar]) ∧ Ar.Is base w' a mem ps T ∧ Ar.To base T w w' := by
  obtain ⟨m, v, l, hA, rfl, hT, hW⟩ := _root_.id hI
  have hpr : l.map Hd.pr = (l.map Hd.pu).map Pt.pr := by rw [List.map_map]; rfl
  have hl := hW.len
  rw [List.length_map] at hl
  refine (add_full id size base a m off i v mem l w hA hl hW.high (fun h hh => (hW.part (List.mem_map_of_mem hh)).1) hs ar hE (by rw [find_pu]; exact hf) (by rw [hpr]; exact hg)).mono ?_
  rintro e w' ⟨rfl, hb⟩
  exact ⟨rfl, hI.below hb⟩

theorem fadd_there (id size : Int) (hI : Ar.Is base w a mem ps T) (hs : 1 ≤ size) (hf : 0 ≤ Pt.find id 0 ps) (ar : Addr) (hE : ErrIs w 0 ar) :
    Calls Tryd.prog 9 #[.pointer (some ⟨a, 0, none⟩), .int .i64 id, .int .i64 size] w fun e w' => e = .returned (.tuple #[.agg #[.int .i64 0, .int .i64 0, .int .i64 0], errv ar]) ∧ Ar.Is base w' a mem ps T ∧ Ar.To base T w w' := by
  obtain ⟨m, v, l, hA, rfl, hT, hW⟩ := _root_.id hI
  have hl := hW.len
  rw [List.length_map] at hl
  refine (add_there id size base a m v mem l ar w hA hl hs (by rw [find_pu]; exact hf) hE).mono ?_
  rintro e w' ⟨rfl, hb⟩
  exact ⟨rfl, hI.below hb⟩

theorem ftake_ok (id : Int) (n off at' i : Nat) (p : Pt) (hI : Ar.Is base w a mem ps T) (hi : ps[i]? = some p) (hf : Pt.find id 0 ps = (i : Int)) (hn : 1 ≤ n) (hp : p.size ≤ 1000000) (hg : Ar.gap (n : Int) p.size 0 0 p.bs = (off, at', true)) :
    Calls Tryd.prog 11 #[.pointer (some ⟨a, 0, none⟩), .int .i64 id, .int .i64 (n : Nat)] w fun e w' => e = .returned (.tuple #[.int .i64 (off : Nat), .nilIface]) ∧ Ar.Is base w' a mem (ps.set i (p.with_ (p.bs.take at' ++ (off, n) :: p.bs.drop at'))) T ∧ Ar.To base T w w' := by
  have hbase := hI.base
  obtain ⟨m, v, l, hA, hps, hT, hW⟩ := hI
  obtain ⟨h, hih, rfl⟩ := pu_at hps hi
  have hl := hW.len
  rw [← hps, List.length_map] at hl
  have hbk := hW.bks h.pu (List.mem_of_getElem? hi)
  obtain ⟨d, e1, e2, -, e4, e5⟩ := Ar.gap_ok n h.pu.size hn _ 0 0 off at' hbk hg
  obtain rfl : at' = d := by omega
  have hlen : 0 + h.bs.length ≤ h.size := Bk.ok_len hbk
  have hp2 : h.size ≤ 1000000 := hp
  refine (take_ok id n base a m off at' i v mem l h w hA hl hih (by rw [find_pu, hps]; exact hf) hn (by omega) (fun b hb => (Bk.ok_mem hbk b hb).2.1) (by omega) hbase hg e2).mono ?_
  rintro e w' ⟨A', c', rfl, h1, h2, h3⟩
  have hm : (l.set i (h.put A' (h.bs.take at' ++ (off, n) :: h.bs.drop at') c')).map Hd.pu = ps.set i (h.pu.with_ (h.pu.bs.take at' ++ (off, n) :: h.pu.bs.drop at')) := by
    rw [List.map_set, hps]
    rfl
  have := Ar.Is.next hA hT h1 h2 h3 (by
    rw [hm]
    exact set_ok hW rfl hi e5)
  rw [hm] at this
  exact ⟨rfl, this⟩

theorem ftake_full (id : Int) (n off at' i : Nat) (p : Pt) (hI : Ar.Is base w a mem ps T) (hi : ps[i]? = some p) (hf : Pt.find id 0 ps = (i : Int)) (hn : 1 ≤ n) (hp : p.size ≤ 1000000) (hg : Ar.gap (n : Int) p.size 0 0 p.bs = (off, at', false)) (ar : Addr) (hE : ErrIs w 1 ar) :
    Calls Tryd.prog 11 #[.pointer (some ⟨a, 0, none⟩), .int .i64 id, .int .i64 (n : Nat)] w fun e w' => e = .returned (.tuple #[.int .i64 0, errv ar]) ∧ Ar.Is base w' a mem ps T ∧ Ar.To base T w w' := by
  obtain ⟨m, v, l, hA, hps, hT, hW⟩ := _root_.id hI
  obtain ⟨h, hih, rfl⟩ := pu_at hps hi
  have hl := hW.len
  rw [← hps, List.length_map] at hl
  have hbk := hW.bks h.pu (List.mem_of_getElem? hi)
  have hlen : 0 + h.bs.length ≤ h.size := Bk.ok_len hbk
  have hp2 : h.size ≤ 1000000 := hp
  refine (take_full id n base a m off at' i v mem l h w hA hl hih (by rw [find_pu, hps]; exact hf) hn (by omega) (fun b hb => (Bk.ok_mem hbk b hb).2.1) (by omega) hg ar hE).mono ?_
  rintro e w' ⟨rfl, hb⟩
  exact ⟨rfl, hI.below hb⟩

theorem fdrop (id : Int) (off n at' i : Nat) (p : Pt) (hI : Ar.Is base w a mem ps T) (hi : ps[i]? = some p) (hf : Pt.find id 0 ps = (i : Int)) (hp : p.size ≤ 1000000) (hb : p.bs[at']? = some (off, n)) (hs : Ar.spot (off : Int) 0 p.bs = (at' : Int)) :
    Calls Tryd.prog 13 #[.pointer (some ⟨a, 0, none⟩), .int .i64 id, .int .i64 (off : Nat)] w fun e w' => e = .returned (.bool true) ∧ Ar.Is base w' a (Ar.wipe mem (p.off + off) n) (ps.set i (p.with_ (p.bs.take at' ++ p.bs.drop (at' + 1)))) T ∧ Ar.To base T w w' := by
  obtain ⟨m, v, l, hA, hps, hT, hW⟩ := hI
  obtain ⟨h, hih, rfl⟩ := pu_at hps hi
  have hl := hW.len
  rw [← hps, List.length_map] at hl
  have hbk := hW.bks h.pu (List.mem_of_getElem? hi)
  have hpt := hW.part (List.mem_of_getElem? hi)
  obtain ⟨-, hb1, hb2⟩ := Bk.ok_mem hbk _ (List.mem_of_getElem? hb)
  have hlen : 0 + h.bs.length ≤ h.size := Bk.ok_len hbk
  have hp2 : h.size ≤ 1000000 := hp
  have hfit : h.off + off + n ≤ mem.length := by
    have h1 : h.pu.off + h.pu.size ≤ mem.length := hpt.1
    have h2 : off + n ≤ h.pu.size := hb1
    show h.pu.off + off + n ≤ _
    omega
  refine (drop_ok id base a m off n at' i v mem l h w hA hl hW.high hih (by rw [find_pu, hps]; exact hf) hb hs hb2 hfit (by omega)).mono ?_
  rintro e w' ⟨A', c', rfl, h1, h2, h3⟩
  have hm : (l.set i (h.put A' (h.bs.take at' ++ h.bs.drop (at' + 1)) c')).map Hd.pu = ps.set i (h.pu.with_ (h.pu.bs.take at' ++ h.pu.bs.drop (at' + 1))) := by
    rw [List.map_set, hps]
    rfl
  have := Ar.Is.next hA hT h1 h2 h3 (by
    rw [hm]
    exact set_ok hW (Ar.wipe_len mem (h.off + off) n hfit) hi (Bk.ok_erase at' hbk))
  rw [hm] at this
  exact ⟨rfl, this⟩

theorem fwrite (id : Int) (off i c : Nat) (p : Pt) (bs : List Nat) (A : Option Addr) (hI : Ar.Is base w a mem ps T) (hi : ps[i]? = some p) (hf : Pt.find id 0 ps = (i : Int)) (hp : p.size ≤ 1000000) (hb : ∃ b ∈ p.bs, Bk.has off bs.length b) (hlt : p.off + off < mem.length) (hR : Lie w A (u8s bs)) (hn : A = none → bs.length = 0) :
    Calls Tryd.prog 12 #[.pointer (some ⟨a, 0, none⟩), .int .i64 id, .int .i64 (off : Nat), .slice A bs.length c] w fun e w' => e = .returned (.bool true) ∧ Ar.Is base w' a (Ar.over mem (p.off + off) bs) ps T ∧ Ar.To base T w w' := by
  obtain ⟨m, v, l, hA, hps, hT, hW⟩ := hI
  obtain ⟨h, hih, rfl⟩ := pu_at hps hi
  have hl := hW.len
  rw [← hps, List.length_map] at hl
  have hbk := hW.bks h.pu (List.mem_of_getElem? hi)
  have hpt := hW.part (List.mem_of_getElem? hi)
  have hlen : 0 + h.bs.length ≤ h.size := Bk.ok_len hbk
  have hp2 : h.size ≤ 1000000 := hp
  refine (write_ok id base a m off i c v mem bs A l h w hA hl hW.high hih (by rw [find_pu, hps]; exact hf) (by omega) hb (fun b hb => (Bk.ok_mem hbk b hb).2.1) hpt.1 hlt hR hn).mono ?_
  rintro e w' ⟨rfl, h1, h2⟩
  have hfit : h.off + off + bs.length ≤ mem.length := by
    obtain ⟨b, hbm, q1, q2⟩ := hb
    have h1 : h.pu.off + h.pu.size ≤ mem.length := hpt.1
    have h2 : b.1 + b.2 ≤ h.pu.size := (Bk.ok_mem hbk b hbm).2.1
    show h.pu.off + off + bs.length ≤ _
    omega
  have := Ar.Is.next hA hT h1 h2 (fun k hk => .inl hk) (by
    rw [hps]
    have e := Ar.over_len mem (h.off + off) bs hfit
    exact ⟨hW.len, by rw [e]; exact hW.low, by rw [e]; exact hW.high, by rw [e]; exact hW.parts, hW.bks⟩)
  rw [hps] at this
  exact ⟨rfl, this⟩

theorem fread (id : Int) (off n i : Nat) (p : Pt) (hI : Ar.Is base w a mem ps T) (hi : ps[i]? = some p) (hf : Pt.find id 0 ps = (i : Int)) (hp : p.size ≤ 1000000) (hb : ∃ b ∈ p.bs, Bk.has off n b) (hlt : p.off + off < mem.length) :
    Calls Tryd.prog 14 #[.pointer (some ⟨a, 0, none⟩), .int .i64 id, .int .i64 (off : Nat), .int .i64 (n : Nat)] w fun e w' => (∃ v', e = .returned (.tuple #[v', .bool true]) ∧ w'.ownsRow w.heap.size 5 1 v' n (u8s ((mem.drop (p.off + off)).take n))) ∧ Below w.heap.size w w' := by
  obtain ⟨m, v, l, hA, hps, hT, hW⟩ := hI
  obtain ⟨h, hih, rfl⟩ := pu_at hps hi
  have hl := hW.len
  rw [← hps, List.length_map] at hl
  have hbk := hW.bks h.pu (List.mem_of_getElem? hi)
  have hpt := hW.part (List.mem_of_getElem? hi)
  have hlen : 0 + h.bs.length ≤ h.size := Bk.ok_len hbk
  have hp2 : h.size ≤ 1000000 := hp
  refine (read_ok id base a m off n i v mem l h w hA hl hW.high hih (by rw [find_pu, hps]; exact hf) (by omega) hb (fun b hb => (Bk.ok_mem hbk b hb).2.1) hpt.1 hlt).mono ?_
  rintro e w' ⟨v', rfl, h1, h2⟩
  exact ⟨⟨v', rfl, h1⟩, h2⟩

theorem fremove (id : Int) (i : Nat) (p : Pt) (hI : Ar.Is base w a mem ps T) (hi : ps[i]? = some p) (hf : Pt.find id 0 ps = (i : Int)) :
    Calls Tryd.prog 17 #[.pointer (some ⟨a, 0, none⟩), .int .i64 id] w fun e w' => e = .returned (.bool true) ∧ Ar.Is base w' a (Ar.wipe mem p.off p.size) (ps.take i ++ ps.drop (i + 1)) T ∧ Ar.To base T w w' := by
  obtain ⟨m, v, l, hA, hps, hT, hW⟩ := hI
  obtain ⟨h, hih, rfl⟩ := pu_at hps hi
  have hl := hW.len
  have hpt := hW.part (List.mem_of_getElem? hi)
  have hm : (l.take i ++ l.drop (i + 1)).map Hd.pu = ps.take i ++ ps.drop (i + 1) := by
    rw [List.map_append, List.map_take, List.map_drop, hps]
  rw [← hps, List.length_map] at hl
  refine (remove_ok id base a m i v mem l h w hA hl hW.high hih (by rw [find_pu, hps]; exact hf) hpt.2 hpt.1).mono ?_
  rintro e w' ⟨v', rfl, h1, h2, h3⟩
  have := Ar.Is.next hA hT h1 h2 (fun k hk => .inl (h3 k hk)) (by
    rw [hm]
    have e := Ar.wipe_len mem h.off h.size hpt.1
    refine ⟨?_, by rw [e]; exact hW.low, by rw [e]; exact hW.high, ?_, fun q hq => ?_⟩
    · have := hW.len
      rw [List.length_append, List.length_take, List.length_drop]
      omega
    · rw [List.map_append, List.map_take, List.map_drop, e]
      exact Bk.ok_erase i hW.parts
    · rcases List.mem_append.1 hq with hq | hq
      · exact hW.bks q (List.mem_of_mem_take hq)
      · exact hW.bks q (List.mem_of_mem_drop hq))
  rw [hm] at this
  exact ⟨rfl, this⟩

theorem fremove_none (id : Int) (hI : Ar.Is base w a mem ps T) (hf : Pt.find id 0 ps = -1) :
    Calls Tryd.prog 17 #[.pointer (some ⟨a, 0, none⟩), .int .i64 id] w fun e w' => e = .returned (.bool false) ∧ Below w.heap.size w w' := by
  obtain ⟨m, v, l, hA, hps, hT, hW⟩ := hI
  have hl := hW.len
  rw [← hps, List.length_map] at hl
  exact remove_none id base a m v mem l w hA hl (by rw [find_pu, hps]; exact hf)

theorem fused (id : Int) (i : Nat) (p : Pt) (hI : Ar.Is base w a mem ps T) (hi : ps[i]? = some p) (hf : Pt.find id 0 ps = (i : Int)) (hp : p.size ≤ 1000000) :
    Calls Tryd.prog 16 #[.pointer (some ⟨a, 0, none⟩), .int .i64 id] w fun e w' => e = .returned (.int .i64 (Bk.sum p.bs : Nat)) ∧ Below w.heap.size w w' := by
  obtain ⟨m, v, l, hA, hps, hT, hW⟩ := hI
  obtain ⟨h, hih, rfl⟩ := pu_at hps hi
  have hl := hW.len
  rw [← hps, List.length_map] at hl
  have hbk := hW.bks h.pu (List.mem_of_getElem? hi)
  have hlen : 0 + h.bs.length ≤ h.size := Bk.ok_len hbk
  have hp2 : h.size ≤ 1000000 := hp
  have hsum := Bk.ok_sum hbk
  exact used_c id base a m i v mem l h w hA hl hih (by rw [find_pu, hps]; exact hf) (by omega) (by have q : 0 + Bk.sum h.bs ≤ h.size := hsum; omega)

theorem fblocks (id : Int) (i : Nat) (p : Pt) (hI : Ar.Is base w a mem ps T) (hi : ps[i]? = some p) (hf : Pt.find id 0 ps = (i : Int)) (hp : p.size ≤ 1000000) :
    Calls Tryd.prog 18 #[.pointer (some ⟨a, 0, none⟩), .int .i64 id] w (Ar.Seq p.bs w) := by
  obtain ⟨m, v, l, hA, hps, hT, hW⟩ := hI
  obtain ⟨h, hih, rfl⟩ := pu_at hps hi
  have hl := hW.len
  rw [← hps, List.length_map] at hl
  have hbk := hW.bks h.pu (List.mem_of_getElem? hi)
  have hlen : 0 + h.bs.length ≤ h.size := Bk.ok_len hbk
  have hp2 : h.size ≤ 1000000 := hp
  exact blocks_c id base a m i v mem l h w hA hl hih (by rw [find_pu, hps]; exact hf) (by omega)

theorem fraw (hI : Ar.Is base w a mem ps T) :
    Calls Tryd.prog 15 #[.pointer (some ⟨a, 0, none⟩), .int .i64 0, .int .i64 (mem.length : Nat)] w fun e w' => (∃ v', e = .returned v' ∧ w'.ownsRow w.heap.size 5 1 v' mem.length (u8s mem)) ∧ Below w.heap.size w w' := by
  obtain ⟨m, v, l, hA, hps, hT, hW⟩ := hI
  refine (raw_ok base a m v mem l w hA hW.low hW.high).mono ?_
  rintro e w' ⟨v', rfl, h1, h2⟩
  exact ⟨⟨v', rfl, h1⟩, h2⟩
end
end Go.Proofs.YtemaaipgjghlaaaDoor
