import Derived.Test.YtijgomgiinlcoaaDoorShaNew
import Derived.Test.YtijgomgiinlcoaaDoorShaPad
import Derived.Deep.LoopGhost
namespace Go.Proofs.YtijgomgiinlcoaaDoor
open Go.RowKit

theorem size60 (cs : Array Value) (h : cs.size = 73) : (Tryd.prog.info? 60).map (·.size) = some cs.size := by rw [h]; kernel_rfl
/-- A Hash's block, its cells under a name. -/
theorem HashIs.cells {w : World} {g : Nat} {m : List Nat} (h : HashIs w g m) : ∃ CS : Array Value, Hid (w.heap[g]? = some (.cells CS 60 (0, 0))) ∧ Hid (CS.size = 73) ∧ Hid (CS.all (·.oneCell') = true) ∧
    ∀ (w' : World) (g' : Nat), w'.heap[g']? = some (.cells CS 60 (0, 0)) → HashIs w' g' m := by
  obtain ⟨st, bs, ⟨h1, h2, h3⟩, h4⟩ := h
  refine ⟨_, h1, by simp [Hid, h2, h3], ?_, fun w' g' h' => ⟨st, bs, ⟨h', h2, h3⟩, h4⟩⟩
  simp only [Hid, List.all_toArray, List.all_append, List.all_map, List.all_cons, List.all_nil]
  simp [Function.comp_def, Value.oneCell']
theorem HashIs.count {w : World} {g : Nat} {m : List Nat} (h : HashIs w g m) : w.cell? ⟨g, 72, none⟩ = some (.int .i64 (m.length : Int)) := by
  obtain ⟨st, bs, h1, _⟩ := h
  exact h1.count

theorem new2 (w : World) (o1 o2 : Obj) : ((w.alloc o1).alloc o2).heap[w.heap.size + 1]? = some o2 := by
  have h := heap_alloc_new (w.alloc o1) o2
  rwa [World.size_alloc] at h
theorem wpList_store_hash {ops : Array Oper} {rest : List Oper} {o : Oper} {a : Act} {w : World} {Q : Exit → Act → World → Prop} (hgd : o.guard = none) (x y : Operand) (ho : o.op = .store 60 x y)
    (g : Nat) (CS : Array Value) (hx : a.eval x = .pointer (some ⟨g, 0, none⟩)) (hy : a.eval y = .agg CS) (old : Array Value) (hg : w.heap[g]? = some (.cells old 60 (0, 0)))
    (hs : (Tryd.prog.info? 60).map (·.size) = some CS.size) (hold : old.size = CS.size) (h1 : CS.all (·.oneCell') = true)
    (h : ∀ w4, w.grownBy w4 (some g) → Hid (w4.heap[g]? = some (.cells CS 60 (0, 0))) → wpList Tryd.prog ops Q rest (a.put o.dst undef) w4) : wpList Tryd.prog ops Q (o :: rest) a w :=
  wpList_store_row hgd _ x y ho g CS hx hy _ _ hg hs hold h1 (h _ (grown_setRow (World.grownBy.refl w _) _) (setRow_heap _ _ _ _ _ _ hg))
theorem begun {w w4 : World} {o1 o2 : Obj} (h : ((w.alloc o1).alloc o2).grownBy w4 (some (w.heap.size + 1))) : Below w.heap.size w w4 := by
  have h1 : Below w.heap.size w ((w.alloc o1).alloc o2) := ((Below.refl _ _).alloc (Nat.le_refl _) _).alloc (by simp) _
  exact h1.trans (below_of_grown h (by omega) (by simp; omega))
theorem zero60 : ∃ Z : Array Value, Hid (Z.size = 73) ∧ ∀ W : World, (zeroValue 60).run Tryd.prog W = .ok (.agg Z) W :=
  ⟨(u32s (List.replicate 8 0) ++ (u8s (List.replicate 64 0) ++ [Value.int .i64 ((0 : Nat) : Int)])).toArray, by simp [Hid], fun W => by kernel_rfl⟩

set_option maxRecDepth 100000 in
set_option maxHeartbeats 2000000 in
theorem len_c (g : Nat) (m : List Nat) (w : World) (h : HashIs w g m) :
    Calls Tryd.prog 26 #[.pointer (some ⟨g, 0, none⟩)] w fun e w' => e = .returned (.int .i64 m.length) ∧ w' = w := by
  have hc := h.count
  go_enter Tryd.func26, Tryd.ntmps26
  go_wp2
  go_ret
  exact ⟨rfl, rfl⟩

set_option maxRecDepth 100000 in
set_option maxHeartbeats 2000000 in
theorem clone_c (g : Nat) (m : List Nat) (w : World) (h : HashIs w g m) :
    Calls Tryd.prog 23 #[.pointer (some ⟨g, 0, none⟩)] w fun e w' => e = .returned (.pointer (some ⟨w.heap.size, 0, none⟩)) ∧ HashIs w' w.heap.size m ∧ Below w.heap.size w w' := by
  obtain ⟨CS, h1, h2, h3, h4⟩ := h.cells
  have H4 := hide h4
  clear h4
  have hs := hide (size60 CS h2.out)
  obtain ⟨Z, hz, hzero⟩ := zero60
  go_enter Tryd.func23, Tryd.ntmps23
  go_wp2_with (first
    | (refine wpList_load_row rfl 60 (.tmp 5) rfl g rfl 60 CS (0, 0) _ h1.out Tryd.underlying60 rfl hs.out ?_)
    | (refine wpList_store_row rfl 60 (.tmp 3) (.tmp 6) rfl w.heap.size CS rfl rfl _ _ (heap_alloc_new w (.cells Z 60)) hs.out (hz.out.trans h2.out.symm) h3.out ?_))
  go_ret
  exact ⟨rfl, H4.out _ _ (setRow_heap _ _ _ _ _ _ (heap_alloc_new w _)), below_setRow ((Below.refl _ _).alloc (Nat.le_refl _) _) (Nat.le_refl _) _⟩

/-- One byte more, out of a new block. -/
theorem write1_c (g x : Nat) (xi : Int) (m : List Nat) (w : World) (h : HashIs w g m) (hx : x < 256) (hxi : xi = (x : Int)) (hlen : m.length < 1099511627774) (hT : Table w) :
    Calls Tryd.prog 25 #[.pointer (some ⟨g, 0, none⟩), .slice (some ⟨w.heap.size, 0, none⟩) 1 1] (w.alloc (.cells #[.int .u8 xi] 5)) fun e w' =>
      e = .returned (.int .i64 1) ∧ HashIs w' g (m ++ [x]) ∧ w.grownBy w' (some g) := by
  subst hxi
  have hA : w.grownBy (w.alloc (.cells #[.int .u8 (x : Int)] 5)) (some g) := grown_alloc (World.grownBy.refl w _) _
  have hl := h.lt
  refine (write_c g m [x] (some ⟨w.heap.size, 0, none⟩) 1 _ (h.below ((Below.refl _ _).alloc (Nat.le_refl _) _)) ⟨fun b hb => by simp at hb; omega, fun _ => ⟨_, rfl, by simp; omega, by simp, fun i b hi => ?_⟩⟩ (by simp; omega) (by simp) (by omega)
    (hT.below ((Below.refl _ _).alloc (Nat.le_refl _) _))).mono fun e w' ⟨h1, h2, h3⟩ => ⟨h1, h2, grown_trans hA h3⟩
  match i, hi with
  | 0, hi =>
    obtain rfl : x = b := by simpa using hi
    have hn : Has (w.alloc (.cells #[.int .u8 (x : Int)] 5)) w.heap.size 5 [.int .u8 (x : Int)] := Has.new w _ _
    exact hn.cell 0
/-- How far a Sum has come: the copy holds x; the answer's block is as it was made. -/
def SInv (w : World) (x : List Nat) (wr : World) : Prop := HashIs wr (w.heap.size + 1) x ∧ Below w.heap.size w wr ∧ Has wr w.heap.size 24 (u8s (List.replicate 32 0))
theorem SInv.next {w wr w5 : World} {x y : List Nat} (h : SInv w x wr) (h1 : HashIs w5 (w.heap.size + 1) y) (h2 : wr.grownBy w5 (some (w.heap.size + 1))) : SInv w y w5 :=
  ⟨h1, h.2.1.trans (below_of_grown h2 (by omega) h.2.1.size), h.2.2.grown h2 (by simp)⟩

theorem und57 : Tryd.prog.underlying 57 = some (.array 8 28) := by kernel_rfl
theorem idx8 (CS : Array Value) (st : List Nat) (hCS : Hid ((u32s st).toArray = CS)) (hst : Sha.Words st) (k : Nat) (hk : k < 8) : ∃ x : Nat, Hid (st.getD k 0 = x) ∧ x < 4294967296 ∧
    ∀ W : World, (Instr.index 57 (.agg CS) (.int .i64 (k : Int))).run Tryd.prog W = .ok (.int .u32 (x : Int)) W := by
  refine ⟨_, rfl, Sha.getD_lt _ hst.2 (by decide) k, fun W => ?_⟩
  have hc : (u32s st).toArray[k]? = some (.int .u32 ((st.getD k 0 : Nat) : Int)) := by
    rw [List.getElem?_toArray]; exact u32s_at _ _ (by rw [hst.1]; exact hk)
  rw [hCS.out] at hc
  clear hCS
  simp [Instr.index, run_underlying und57, asIntOf, go_sem, hc]
  intro h; omega
theorem u8s_at (ws : List Nat) (i : Nat) (h : i < ws.length) : (u8s ws)[i]? = some (.int .u8 ((ws.getD i 0 : Nat) : Int)) := by
  simp [u8s, List.getD_eq_getElem?_getD, h]
theorem u8s_set (ws : List Nat) (i n : Nat) : (u8s ws).set i (.int .u8 (n : Nat)) = u8s (ws.set i n) := by
  simp [u8s, List.map_set]
/-- How far the answer is written. -/
def OInv (w w3 : World) (st : List Nat) (i : Nat) (wr : World) : Prop := Has wr w3.heap.size 24 (u8s (Sha.outTo st i)) ∧ Has wr w.heap.size 24 (u8s (List.replicate 32 0)) ∧ Below w.heap.size w wr ∧ w.heap.size < w3.heap.size
theorem OInv.next {w w3 wr : World} {st : List Nat} {i x : Nat} (h : OInv w w3 st i wr) (hst : Sha.Words st) (ex : Hid (st.getD i 0 = x)) (lx : x < 4294967296) (hi : i < 8) :
    OInv w w3 st (i + 1) ((((wr.setCell ⟨w3.heap.size, 4 * i, none⟩ (.int .u8 ((x : Int) / 16777216))).setCell ⟨w3.heap.size, 4 * i + 1, none⟩ (.int .u8 ((x : Int) / 65536 % 256))).setCell
      ⟨w3.heap.size, 4 * i + 2, none⟩ (.int .u8 ((x : Int) / 256 % 256))).setCell ⟨w3.heap.size, 4 * i + 3, none⟩ (.int .u8 ((x : Int) % 256))) := by
  obtain ⟨h1, h2, h3, h4⟩ := h
  have ne : w.heap.size ≠ w3.heap.size := Nat.ne_of_lt h4
  have le := Nat.le_of_lt h4
  have e0 : (x : Int) / 16777216 = ((x / 16777216 % 256 : Nat) : Int) := by omega
  rw [e0]
  have k1 := (((h1.set_ (4 * i) (.int .u8 ((x / 16777216 % 256 : Nat) : Int))).set_ (4 * i + 1) (.int .u8 ((x / 65536 % 256 : Nat) : Int))).set_ (4 * i + 2) (.int .u8 ((x / 256 % 256 : Nat) : Int))).set_ (4 * i + 3) (.int .u8 ((x % 256 : Nat) : Int))
  rw [u8s_set, u8s_set, u8s_set, u8s_set, Sha.outTo_set st hst.1 i x hi ex.out] at k1
  exact ⟨k1, (((h2.far (p := ⟨_, _, _⟩) ne _).far (p := ⟨_, _, _⟩) ne _).far (p := ⟨_, _, _⟩) ne _).far (p := ⟨_, _, _⟩) ne _,
    (((h3.setCell (p := ⟨_, _, _⟩) le _).setCell (p := ⟨_, _, _⟩) le _).setCell (p := ⟨_, _, _⟩) le _).setCell (p := ⟨_, _, _⟩) le _, h4⟩

set_option maxRecDepth 100000 in
set_option maxHeartbeats 8000000 in
theorem sum_c (g : Nat) (m : List Nat) (w : World) (h : HashIs w g m) (hlen : m.length < 1099511627000) (hT : Table w) :
    Calls Tryd.prog 27 #[.pointer (some ⟨g, 0, none⟩)] w fun e w' => e = .returned (.agg (u8s (Sha.digest m)).toArray) ∧ Below w.heap.size w w' := by
  obtain ⟨CS, h1, h2, h3, h4⟩ := h.cells
  have H4 := hide h4
  clear h4
  have hs := hide (size60 CS h2.out)
  have hc := h.count
  obtain ⟨Z, hz, hzero⟩ := zero60
  go_enter Tryd.func27, Tryd.ntmps27
  go_wp2_with (first
    | (refine wpList_load_row rfl 60 (.tmp 10) rfl g rfl 60 CS (0, 0) _ ((Below.heap_alloc _ _ _ h.lt).trans h1.out) Tryd.underlying60 rfl hs.out ?_)
    | (refine wpList_store_hash rfl (.tmp 3) (.tmp 11) rfl (w.heap.size + 1) CS rfl rfl _ (new2 _ _ (.cells Z 60)) hs.out (hz.out.trans h2.out.symm) h3.out ?_
       intro w4 hG4 hC4
       have hB4 := begun hG4
       have hr4 : Has w4 w.heap.size 24 (u8s (List.replicate 32 0)) := ((Has.new w 24 (u8s (List.replicate 32 0))).alloc _).grown hG4 (by simp)
       have hc4 : w4.cell? ⟨g, 72, none⟩ = some (.int .i64 (m.length : Int)) := (hB4.cell (p := ⟨g, 72, none⟩) h.lt).trans hc))
  refine (write1_c (w.heap.size + 1) 128 _ m w4 (H4.out _ _ hC4.out) (by decide) rfl (by omega) (hT.below hB4)).mono ?_
  rintro e w5 ⟨rfl, hH5, hG5⟩
  have hI5 : SInv w (Sha.pad0 m 0) w5 := by
    rw [Sha.pad0_zero]
    exact SInv.next (x := m) ⟨H4.out _ _ hC4.out, hB4, hr4⟩ hH5 hG5
  clear hc4
  go_wp2
  go_loopg [24] (Sha.zeros m.length) (fun k _ wr => ∃ j, j + k = Sha.zeros m.length ∧ SInv w (Sha.pad0 m j) wr)
  case atStart => exact ⟨0, by omega, hI5⟩
  case round =>
    obtain ⟨j, hj, hI⟩ := hrel
    have hcn := hI.1.count
    rw [Sha.pad0_length] at hcn
    obtain ⟨n, hn⟩ : ∃ n, Hid (m.length + 1 + j = n) := ⟨_, rfl⟩
    rw [hn.out] at hcn
    have hz := Sha.zeros_lt m.length
    have hnl : n < 1099511627776 := by rw [← hn.out]; omega
    have hrem : (n : Int).tmod 64 = (n : Int) % 64 := Int.tmod_eq_emod_of_nonneg (by omega)
    have hat := Sha.zeros_at m.length j (by omega)
    rw [hn.out] at hat
    by_cases hlt : j < Sha.zeros m.length
    ·
      --{
      have ht : ((n : Int) % 64 != 56) = true := by
        rw [bne_iff_ne]
        intro e
        have := hat.1 (by omega)
        omega
      have HJ := hide hj
      have HAT := hide hat
      clear hj hat
      go_wp2_with fail
      refine (write1_c (w.heap.size + 1) 0 _ (Sha.pad0 m j) wr hI.1 (by decide) rfl (by rw [Sha.pad0_length]; omega) (hT.below hI.2.1)).mono ?_
      rintro e w6 ⟨rfl, hH6, hG6⟩
      rw [Sha.pad0_succ] at hH6
      go_wp2
      go_roundg (gk - 1)
      case measure => have := HJ.out; omega
      case rel => exact ⟨j + 1, by have := HJ.out; omega, hI.next hH6 hG6⟩
      --}
    · obtain rfl : j = Sha.zeros m.length := by omega
      have ht : ((n : Int) % 64 != 56) = false := by
        have := hat.2 rfl
        simp
        omega
      have HJ := hide hj
      have HAT := hide hat
      clear hj hat
      rw [← Sha.pad1_zero] at hI
      go_wp2
      clear hcn hn hnl hrem ht HJ HAT
      go_loopg [5] 8 (fun k v wr => ∃ i, i + k = 8 ∧ v = .int .i64 (56 - 8 * (i : Int)) ∧ SInv w (Sha.pad1 m i) wr)
      case atStart => exact ⟨0, rfl, rfl, hI⟩
      case round =>
        obtain ⟨i, hi, rfl, hI⟩ := hrel
        have HI8 := hide hi
        clear hi
        by_cases hlt : i < 8
        ·
          --{
          have h0 : (0 : Int) ≤ 56 - 8 * (i : Int) := by omega
          have ht : (56 - 8 * (i : Int)).toNat = 56 - 8 * i := by omega
          go_wp2_with fail
          refine (write1_c (w.heap.size + 1) (m.length * 8 / 2 ^ (56 - 8 * i) % 256) _ (Sha.pad1 m i) wr hI.1 (Nat.mod_lt _ (by decide)) (by simp) (by rw [Sha.pad1_length _ _ (by omega)]; have := Sha.zeros_lt m.length; omega) (hT.below hI.2.1)).mono ?_
          rintro e w6 ⟨rfl, hH6, hG6⟩
          rw [Sha.pad1_succ _ _ hlt] at hH6
          go_wp2
          go_roundg (gk - 1)
          case measure => have := HI8.out; omega
          case rel => exact ⟨i + 1, by have := HI8.out; omega, by go_num, hI.next hH6 hG6⟩
          --}
        · rw [show 56 - 8 * (i : Int) = -8 by have := HI8.out; omega]
          obtain rfl : i = 8 := by have := HI8.out; omega
          clear HI8 hlt
          obtain ⟨⟨st, bs, hM, hS⟩, hB3, hr3⟩ := hI
          have hS' : Hid (st = Sha.chainN (Sha.pad m) ((Sha.pad m).length / 64)) := hS.1
          have hst := hS.words
          clear hS
          have z0 := hM.word 0 (by decide)
          have z1 := hM.word 1 (by decide)
          have z2 := hM.word 2 (by decide)
          have z3 := hM.word 3 (by decide)
          have z4 := hM.word 4 (by decide)
          have z5 := hM.word 5 (by decide)
          have z6 := hM.word 6 (by decide)
          have z7 := hM.word 7 (by decide)
          obtain ⟨t0, t1, t2, t3, t4, t5, t6, t7, rfl⟩ := Sha.eight st hst.1
          simp only [List.getD_cons_zero, List.getD_cons_succ] at z0 z1 z2 z3 z4 z5 z6 z7
          obtain ⟨w3, hw3⟩ : ∃ w3 : World, w3 = wr := ⟨_, rfl⟩
          subst hw3
          have hlt3 := hM.1.lt
          go_wp2
          clear z0 z1 z2 z3 z4 z5 z6 z7
          obtain ⟨C8, hC8⟩ : ∃ C, Hid ((u32s [t0, t1, t2, t3, t4, t5, t6, t7]).toArray = C) := ⟨_, rfl⟩
          have e8 := hC8.out
          simp only [u32s, List.map_cons, List.map_nil] at e8
          rw [e8]
          clear e8
          obtain ⟨sts, hsts⟩ : ∃ l, Hid ([t0, t1, t2, t3, t4, t5, t6, t7] = l) := ⟨_, rfl⟩
          rw [hsts.out] at hC8 hS' hst
          go_loopw [38] (fun v wr => ∃ i : Nat, i ≤ 8 ∧ v = .int .i64 i ∧ OInv w w3 sts i wr) (fun v _ => 8 - (intOf v).toNat)
          case atStart => exact ⟨0, by omega, rfl, by rw [Sha.outTo_zero]; exact Has.new _ _ _, hr3.alloc _, hB3.alloc hB3.size _, by omega⟩
          case round =>
            obtain ⟨i, hi, rfl, hO⟩ := hrel
            by_cases hlt : i < 8
            ·
              --{
              obtain ⟨x, ex, lx, hidx⟩ := idx8 C8 sts hC8 hst i hlt
              have o0 := hO.1.cell (4 * i)
              have o1 := hO.1.cell (4 * i + 1)
              have o2 := hO.1.cell (4 * i + 2)
              have o3 := hO.1.cell (4 * i + 3)
              rw [u8s_at _ _ (by rw [Sha.outTo_length _ hst.1 _ hi]; omega)] at o0 o1 o2 o3
              have f0 := hO.1.frozen (4 * i)
              have f1 := hO.1.frozen (4 * i + 1)
              have f2 := hO.1.frozen (4 * i + 2)
              have f3 := hO.1.frozen (4 * i + 3)
              have hi8 : (i : Int) < 8 := by omega
              go_wp2_with fail
              go_roundw
              case rel =>
                exact ⟨i + 1, by omega, by go_num, hO.next hst ex lx hlt⟩
              case measure => simp [intOf]; omega
              --}
            · obtain rfl : i = 8 := by omega
              obtain ⟨q1, q2, q3, q4⟩ := hO
              rw [Sha.outTo_all _ hst.1] at q1
              obtain ⟨D, hD⟩ : ∃ D : Array Value, Hid ((u8s (Sha.bytesOf sts)).toArray = D) := ⟨_, rfl⟩
              have hDs : Hid ((Tryd.prog.info? 24).map (·.size) = some D.size) := by
                rw [← hD.out]
                show _ = some ((u8s (Sha.bytesOf sts)).toArray).size
                rw [List.size_toArray, List.length_map, Sha.bytesOf_length, hst.1]
                kernel_rfl
              have hDl : Hid ((u8s (List.replicate 32 0)).toArray.size = D.size) := by
                rw [← hD.out]
                simp [Hid, Sha.bytesOf_length, hst.1]
              have hD1 : Hid (D.all (·.oneCell') = true) := by
                rw [← hD.out]
                simp [Hid, Function.comp_def, Value.oneCell']
              have q1' : Hid (wr.heap[w3.heap.size]? = some (.cells D 24 (0, 0))) := by rw [← hD.out]; exact q1
              have q2' : Hid (wr.heap[w.heap.size]? = some (.cells (u8s (List.replicate 32 0)).toArray 24 (0, 0))) := q2
              clear q1 q2
              go_wp2_with (first
                | (refine wpList_load_row rfl 24 (.tmp 6) rfl w3.heap.size rfl 24 D (0, 0) _ q1'.out Tryd.underlying24 rfl hDs.out ?_)
                | (refine wpList_store_row rfl 24 (.tmp 2) (.tmp 69) rfl w.heap.size D rfl rfl _ _ q2'.out hDs.out hDl.out hD1.out ?_))
              refine bodyPost_ret (results_cell_row rfl _ _ w.heap.size 24 D (0, 0) _ rfl (setRow_heap _ _ _ _ _ _ q2'.out) Tryd.underlying24 rfl hDs.out) rfl ?_
              refine ⟨?_, below_setRow q3 (Nat.le_refl _) _⟩
              rw [← hD.out, hS'.out]
              rfl
end Go.Proofs.YtijgomgiinlcoaaDoor
