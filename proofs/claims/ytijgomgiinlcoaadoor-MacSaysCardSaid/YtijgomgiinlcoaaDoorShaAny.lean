/-
  Bytes appended to a row of the call's own, from any source that reads as a list (nil let in); lodgeref.Bytes makes a copy; lodgeworld.Bytes bounds a list of lists. By an AI agent. No person has read it.
-/
import Derived.Test.YtijgomgiinlcoaaDoorShaParts
import Derived.Maps.AppendAt
import Derived.Laws.MakeOwn
namespace Go.Proofs.YtijgomgiinlcoaaDoor
open Go.RowKit

theorem u8info : ∃ i : TypeInfo, Tryd.prog.info? 5 = some i ∧ i.zero = some (.int .u8 0) ∧ i.size = 1 ∧ i.bytes = 1 := by
  obtain ⟨i, hi⟩ : ∃ i, Tryd.prog.info? 5 = some i := by
    refine Option.isSome_iff_exists.1 ?_
    kernel_rfl
  have h1 : (Tryd.prog.info? 5).bind (·.zero) = some (.int .u8 0) := by kernel_rfl
  have h2 : (Tryd.prog.info? 5).map (·.size) = some 1 := by kernel_rfl
  have h3 : (Tryd.prog.info? 5).map (·.bytes) = some 1 := by kernel_rfl
  rw [hi] at h1 h2 h3
  exact ⟨i, hi, by simpa using h1, by simpa using h2, by simpa using h3⟩
theorem ubs : Tryd.prog.underlying 22 = some (.slice 5) := by kernel_rfl
theorem u8s_one (bs : List Nat) : ∀ u ∈ u8s bs, u.oneCell' = true := by
  intro u hu
  obtain ⟨x, _, rfl⟩ := List.mem_map.1 hu
  rfl
/-- The run of the append. -/
theorem run_append_bs (w : World) (ty : TypeId) (base : Nat) (v : Value) (n : Nat) (xs : List Value) (hown : w.ownsRow base 5 1 v n xs) (A : Option Addr) (cap : Nat) (bs : List Nat) (hr : Rb w A bs)
    (hs : n + bs.length ≤ 1000000000000) (hbase : base ≤ w.heap.size) :
    ∃ v' w', (Builtin.append_ #[22, 22] ty #[v, .slice A bs.length cap]).run Tryd.prog w = .ok v' w' ∧ w'.ownsRow base 5 1 v' (n + bs.length) (xs ++ u8s bs) ∧ w.grownBy w' v.ownBlock ∧
      (v'.ownBlock = v.ownBlock ∨ v'.ownBlock = some w.heap.size) := by
  obtain ⟨i, hi, hz0, hz1, hz2⟩ := u8info
  cases A with
  | none =>
    have hn : bs = [] := by
      rcases bs with _ | ⟨b, l⟩
      · rfl
      · obtain ⟨ad, e, _⟩ := hr.2 (by simp)
        cases e
    subst hn
    refine ⟨v, w, ?_, by simpa using hown, World.grownBy.refl w _, .inl rfl⟩
    rcases hown.2 with ⟨rfl, rfl⟩ | ⟨g, c, cur, rfl, _, _, hnc, _⟩
    · simp [Builtin.append_, run_underlying ubs, sizeOf, typeInfo, hi, Builtin.lenOf, Builtin.firstCells]
    · simp [Builtin.append_, run_underlying ubs, sizeOf, typeInfo, hi, Builtin.lenOf, Builtin.firstCells, hnc, storeCells]
  | some ad =>
    obtain ⟨v', w', h1, h2, h3, _, h5⟩ := run_append_own_at (P := Tryd.prog) w base 22 ty 5 i (.int .u8 0) 1 1 ubs hi hz0 hz1 hz2 rfl (by decide) v n xs hown ad bs.length cap (u8s bs) (by simp) (by
      intro j u hj
      rw [List.getElem?_map, Option.map_eq_some_iff] at hj
      obtain ⟨b, hb, rfl⟩ := hj
      obtain ⟨ad', e, _, hc⟩ := hr.2 (by rintro rfl; simp at hb)
      cases e
      exact hc j b hb) (u8s_one bs) (by unfold maxLen; omega) (by omega) hbase
    exact ⟨v', w', h1, h2, h3, h5⟩
/-- .. as an operation of the walk. -/
theorem wpList_append_bs {w : World} {ops : Array Oper} {rest : List Oper} {o : Oper} {a : Act} {Q : Exit → Act → World → Prop} (hgd : o.guard = none) (s x : Operand)
    (ho : o.op = .call { callee := .builtin .append, args := #[s, x], argTypes := #[22, 22] })
    (base : Nat) (v : Value) (n : Nat) (xs : List Value) (hs : a.eval s = v) (hown : w.ownsRow base 5 1 v n xs) (A : Option Addr) (m cap : Nat) (bs : List Nat) (hx : a.eval x = .slice A m cap) (hm : Hid (bs.length = m)) (hr : Rb w A bs)
    (hb : n + m ≤ 1000000000000) (hbase : base ≤ w.heap.size)
    (h : ∀ v' w', w'.ownsRow base 5 1 v' (n + m) (xs ++ u8s bs) → w.grownBy w' v.ownBlock → (v'.ownBlock = v.ownBlock ∨ v'.ownBlock = some w.heap.size) → wpList Tryd.prog ops Q rest (a.put o.dst v') w') :
    wpList Tryd.prog ops Q (o :: rest) a w := by
  obtain rfl := hm.out
  refine wpList_plain hgd fun K hK => ?_
  obtain ⟨v', w', hrun, h2, h3, h5⟩ := run_append_bs w o.type base v n xs hown A cap bs hr hb hbase
  unfold Oper.wp execOp
  simp only [ho, resolve, invoke, builtin, Sem.run_bind, Sem.run_pure, Result.andThen_ok, List.map_toArray, List.map_cons, List.map_nil, hs, hx, hrun]
  exact hK _ _ (h v' w' h2 h3 h5)
/-- A row of bytes of the call's own reads as its list. -/
theorem own_rb {w : World} {base n : Nat} {v : Value} {bs : List Nat} (h : w.ownsRow base 5 1 v n (u8s bs)) (hb : Sha.Bytes bs) :
    ∃ A cap, v = .slice A n cap ∧ bs.length = n ∧ n ≤ cap ∧ cap ≤ 9223372036854775807 ∧ Rb w A bs ∧ (∀ ad, A = some ad → some ad.block = v.ownBlock ∧ base ≤ ad.block ∧ ad.block < w.heap.size) := by
  have hl : bs.length = n := by simpa using h.1
  rcases h.2 with ⟨rfl, rfl⟩ | ⟨g, cap, cur, rfl, h2, h3, h4, h5, _⟩
  · have hn : bs = [] := List.eq_nil_of_length_eq_zero hl
    subst hn
    exact ⟨none, 0, rfl, rfl, by omega, by omega, Rb.nil w none, fun ad e => by cases e⟩
  · have hlt : g < w.heap.size := by
      rcases Nat.lt_or_ge g w.heap.size with hlt | hge
      · exact hlt
      · rw [Array.getElem?_eq_none hge] at h3; cases h3
    refine ⟨some ⟨g, 0, none⟩, cap, rfl, hl, h4, by unfold maxLen at h5; omega, ⟨hb, fun _ => ⟨_, rfl, hlt, fun i b hi => ?_⟩⟩, fun ad e => ?_⟩
    · exact h.cells (g := g) rfl i _ (by rw [List.getElem?_map, hi]; rfl)
    · cases e
      exact ⟨rfl, h2, hlt⟩

theorem Parts.below {w wr : World} {P : Option Addr} {ps : List (List Nat)} (h : Parts w P ps) (hb : Below w.heap.size w wr) : Parts wr P ps := by
  intro i p hp
  obtain ⟨ad, A, cap, e, h1, h2, h3, h4, h5⟩ := h i p hp
  exact ⟨ad, A, cap, e, Nat.lt_of_lt_of_le h1 hb.size, (hb.cell (p := ad.add i) (by rw [block_add]; exact h1)).trans h2, h3, h4, h5.below hb⟩
theorem Rb.grown {w w' : World} {A : Option Addr} {bs : List Nat} {row : Option Nat} (h : Rb w A bs) (hb : w.grownBy w' row) (hr : ∀ ad, A = some ad → some ad.block ≠ row) : Rb w' A bs := by
  refine ⟨h.1, fun hn => ?_⟩
  obtain ⟨ad, e, h1, h2⟩ := h.2 hn
  refine ⟨ad, e, Nat.lt_of_lt_of_le h1 hb.size, fun i b hi => ?_⟩
  have hne := hr ad e
  rw [World.cell?_of_block (hb.block (ad.add i).block (by rw [block_add]; exact h1) (by rw [block_add]; exact hne))]
  exact h2 i b hi
theorem parts_one {w : World} {A : Option Addr} {bs : List Nat} {cap : Nat} (hr : Rb w A bs) (h1 : bs.length ≤ cap) (h2 : cap ≤ 9223372036854775807) :
    Parts (w.alloc (.cells #[.slice A bs.length cap] 22)) (some ⟨w.heap.size, 0, none⟩) [bs] :=
  ((PV.nil w).add (p := bs) (A := A) (cap := cap) h1 h2 hr).parts ((Below.refl _ _).alloc (Nat.le_refl _) _) (by simp) (new_cells w 22 [.slice A bs.length cap])
theorem parts_two {w : World} {A A2 : Option Addr} {bs b2 : List Nat} {cap cap2 : Nat} (hr : Rb w A bs) (h1 : bs.length ≤ cap) (h2 : cap ≤ 9223372036854775807) (hr2 : Rb w A2 b2) (k1 : b2.length ≤ cap2) (k2 : cap2 ≤ 9223372036854775807) :
    Parts (w.alloc (.cells #[.slice A bs.length cap, .slice A2 b2.length cap2] 22)) (some ⟨w.heap.size, 0, none⟩) [bs, b2] :=
  (((PV.nil w).add (p := bs) (A := A) (cap := cap) h1 h2 hr).add (p := b2) (A := A2) (cap := cap2) k1 k2 hr2).parts ((Below.refl _ _).alloc (Nat.le_refl _) _) (by simp) (new_cells w 22 [.slice A bs.length cap, .slice A2 b2.length cap2])
set_option maxRecDepth 100000 in
set_option maxHeartbeats 4000000 in
theorem isbytes_c (P : Option Addr) (ps : List (List Nat)) (capp : Nat) (w : World) (hP : Parts w P ps) (hpl : ps.length ≤ 9223372036854775807) :
    Calls Tryd.prog 20 #[.slice P ps.length capp, .int .i64 20, .int .i64 200] w fun e w' => w' = w ∧ ∃ b, e = .returned (.bool b) ∧ (b = true → ps.length ≤ 20 ∧ ∀ (i : Nat) (p : List Nat), ps[i]? = some p → p.length ≤ 200) := by
  have HP := hide hP
  obtain ⟨m, hm⟩ : ∃ m, Hid (ps.length = m) := ⟨_, hide rfl⟩
  rw [hm.out] at hpl ⊢
  clear hP
  by_cases h20 : 20 < m
  · have h20' : (20 : Int) < m := by omega
    go_enter Tryd.func20, Tryd.ntmps20
    go_wp2_with fail
    go_ret
    exact ⟨rfl, false, rfl, by simp⟩
  have h20' : (m : Int) ≤ 20 := by omega
  go_enter Tryd.func20, Tryd.ntmps20
  go_wp2_with fail
  go_loopw [7] (fun k wr => ∃ i : Nat, i ≤ m ∧ k = .int .i64 i ∧ wr = w ∧ Hid (∀ (j : Nat) (p : List Nat), j < i → ps[j]? = some p → p.length ≤ 200)) (fun k _ => m - (intOf k).toNat)
  case atStart => exact ⟨0, by omega, rfl, by first | rfl | trivial, hide (fun j p hj => by omega)⟩
  case round =>
    obtain ⟨i, hi, rfl, rfl, hI⟩ := hrel
    by_cases hlt : i < m
    · obtain ⟨p, hp⟩ : ∃ p, Hid (ps[i]? = some p) := ⟨_, hide (List.getElem?_eq_getElem (by rw [hm.out]; exact hlt))⟩
      obtain ⟨ad, A, cp, rfl, ha, hc, hc1, hc2, hr⟩ := HP.out i p hp.out
      clear hr
      have him : (i : Int) < m := by omega
      by_cases hlong : 200 < p.length
      · have hl' : (200 : Int) < (p.length : Int) := by omega
        go_wp2_with fail
        go_ret
        exact ⟨rfl, false, rfl, by simp⟩
      · have hl' : (p.length : Int) ≤ 200 := by omega
        go_wp2_with fail
        go_roundw
        case rel =>
          refine ⟨i + 1, by omega, by go_num, by first | rfl | trivial, hide (fun j q hj hq => ?_)⟩
          rcases Nat.lt_or_ge j i with h | h
          · exact hI.out j q h hq
          · obtain rfl : j = i := by omega
            rw [hp.out] at hq
            cases hq
            omega
        case measure => simp [intOf]; omega
    · obtain rfl : i = m := by omega
      go_wp2_with fail
      go_ret
      refine ⟨rfl, true, rfl, fun _ => ⟨by omega, fun j p hp => hI.out j p ?_ hp⟩⟩
      have := (List.getElem?_eq_some_iff.1 hp).1
      rw [hm.out] at this
      exact this

/-- How far a copy has come. -/
def CInv (w : World) (bs : List Nat) (i : Nat) (v : Value) (wr : World) : Prop := wr.ownsRow w.heap.size 5 1 v i (u8s (bs.take i)) ∧ Below w.heap.size w wr ∧ v.ownBlock ≠ none

set_option maxRecDepth 100000 in
set_option maxHeartbeats 4000000 in
theorem refbytes_c (bs : List Nat) (A : Option Addr) (cap : Nat) (w : World) (hR : Rb w A bs) (hl : bs.length ≤ 1000000) :
    Calls Tryd.prog 24 #[.slice A bs.length cap] w fun e w' => Below w.heap.size w w' ∧ ∃ v, e = .returned v ∧ w'.ownsRow w.heap.size 5 1 v bs.length (u8s bs) ∧ v.ownBlock ≠ none := by
  obtain ⟨n, hn⟩ : ∃ n, Hid (bs.length = n) := ⟨_, hide rfl⟩
  rw [hn.out] at hl ⊢
  have HR := hide hR
  clear hR
  obtain ⟨i0, hi0, hz0, hz1, hz2⟩ := u8info
  obtain ⟨Z, hZ⟩ : ∃ Z, Hid (madeCells (Value.int .u8 0).cells n = Z) := ⟨_, hide rfl⟩
  have hZs : Hid (Z.size = n) := hide (by rw [← hZ.out, size_madeCells])
  have hmk : ∀ w : World, (Instr.makeSlice 22 (.int .i64 0) (.int .i64 (n : Int))).run Tryd.prog w = .ok (.slice (some ⟨w.heap.size, 0, none⟩) 0 n) (w.alloc (.cells Z 5)) := by
    intro w
    have h := run_make (P := Tryd.prog) w 22 5 i0 (.int .u8 0) ubs hi0 hz0 .i64 .i64 0 (n : Int) (by omega) (by omega) (by rw [hz2]; omega) (by omega)
    rw [hz1] at h
    simpa [hZ.out] using h
  have HI0 := hide hi0
  have HZ0 := hide hz0
  have HZ1 := hide hz1
  have HZ2 := hide hz2
  clear hi0 hz0 hz1 hz2
  have hI0 : CInv w bs 0 (.slice (some ⟨w.heap.size, 0, none⟩) 0 n) (w.alloc (.cells Z 5)) := by
    refine ⟨⟨by simp, .inr ⟨_, n, Z, rfl, Nat.le_refl _, heap_alloc_new w _, by omega, by unfold maxLen; omega, by rw [hZs.out]; omega, by simp⟩⟩, (Below.refl _ _).alloc (Nat.le_refl _) _, by simp [Value.ownBlock]⟩
  have H0 := hide hI0
  clear hI0
  go_enter Tryd.func24, Tryd.ntmps24
  go_wp2_with fail
  go_loopw [3, 4] (fun v k wr => ∃ (i : Nat) (u : Value), i ≤ n ∧ k = .int .i64 i ∧ u = v ∧ CInv w bs i u wr) (fun _ k _ => n - (intOf k).toNat)
  case atStart => exact ⟨0, _, by omega, rfl, rfl, H0.out⟩
  case round =>
    obtain ⟨i, v, hi, rfl, rfl, hI⟩ := hrel
    clear H0
    obtain ⟨hown, hB, hnn⟩ := hI
    by_cases hlt : i < n
    · obtain ⟨b, hb⟩ : ∃ b, Hid (bs[i]? = some b) := ⟨_, hide (List.getElem?_eq_getElem (by rw [hn.out]; exact hlt))⟩
      obtain ⟨ad, rfl, ha, hc⟩ := HR.out.2 (by rintro rfl; have := hb.out; simp at this)
      have hcell := (hB.cell (p := ad.add i) (by rw [block_add]; exact ha)).trans (hc i b hb.out)
      clear hc
      have him : (i : Int) < n := by omega
      have HOWN := hide hown
      have hown2 := hide (hown.alloc (.cells #[.int .u8 (b : Int)] 5))
      clear hown
      have HB := hide hB
      have hsz : Hid (w.heap.size ≤ (wr.alloc (.cells #[.int .u8 (b : Int)] 5)).heap.size) := hide (by have := hB.size; simp; omega)
      have hb1 : Hid (i + 1 ≤ maxLen) := hide (by unfold maxLen; omega)
      have hb2 : Hid ((i + 1) * 1 ≤ 140737488355328) := hide (by omega)
      have hnw := hide (new_cells wr 5 [.int .u8 (b : Int)])
      have h1w : Hid (∀ u ∈ [Value.int .u8 (b : Int)], u.oneCell' = true) := hide (by
        intro u hu
        simp at hu
        subst hu
        rfl)
      clear hB
      go_wp2_with (at_builtin; refine wpList_append_own_at _ rfl (.tmp 14) (.tmp 19) 22 rfl w.heap.size 5 i0 (.int .u8 0) 1 1 ubs HI0.out HZ0.out HZ1.out HZ2.out rfl (by decide) v i (u8s (bs.take i)) rfl hown2.out ⟨wr.heap.size, 0, none⟩ 1 1 [.int .u8 (b : Int)] rfl rfl hnw.out h1w.out hb1.out hb2.out hsz.out ?_)
      intro v' w' hown' hgrow _ hat
      have hB' : Below w.heap.size w w' := below_row HB.out HOWN.out hgrow
      have hnn' : v'.ownBlock ≠ none := by rcases hat with e | e <;> rw [e] <;> first | exact hnn | simp
      go_wp2_with fail
      go_roundw
      case rel =>
        refine ⟨i + 1, _, by omega, by go_num, rfl, ?_, hB', hnn'⟩
        have e : bs.take (i + 1) = bs.take i ++ [b] := by rw [List.take_add_one, hb.out]; rfl
        rw [e]
        simpa using hown'
      case measure => simp [intOf]; omega
    · obtain rfl : i = n := by omega
      go_wp2_with fail
      go_ret
      refine ⟨hB, _, rfl, ?_, hnn⟩
      rw [List.take_of_length_le (by rw [hn.out]; exact Nat.le_refl _)] at hown
      exact hown
end Go.Proofs.YtijgomgiinlcoaaDoor
