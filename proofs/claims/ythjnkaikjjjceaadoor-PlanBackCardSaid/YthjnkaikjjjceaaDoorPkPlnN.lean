/-
  Bytes behind bytes; pack.AppendDesc of any desc; plan.appendCode, walked. By an AI agent. No person has read it.
-/
import Derived.Test.YthjnkaikjjjceaaDoorPkPlnK
import Derived.Test.YthjnkaikjjjceaaDoorPkTenF
namespace Go.Proofs.YthjnkaikjjjceaaDoor
open Go.RowKit
theorem Ri.grownW {w w' : World} {P : Option Addr} {zs : List Int} {row : Option Nat} (h : Ri w P zs) (hg : w.grownBy w' row) (hs : zs ≠ [] → ∀ ad, P = some ad → ad.block < w.heap.size → some ad.block ≠ row) : Ri w' P zs := by
  refine ⟨h.1, fun hn => ?_⟩
  obtain ⟨ad, e, h1, h2⟩ := h.2 hn
  refine ⟨ad, e, Nat.lt_of_lt_of_le h1 hg.size, fun i z hi => ?_⟩
  rw [World.cell?_of_block (hg.block (ad.add i).block (by rw [ad_block]; exact h1) (by rw [ad_block]; exact hs hn ad e h1))]
  exact h2 i z hi
set_option maxRecDepth 100000 in
set_option maxHeartbeats 4000000 in
theorem appenddesc_w (base : Nat) (v : Value) (n : Nat) (xs : List Value) (zs : List Int) (P : Option Addr) (cap : Nat) (u : Bool) (w : World) (hown : w.ownsRow base 5 1 v n xs) (hr : Ri w P zs) (hsep : zs ≠ [] → ∀ ad, P = some ad → ad.block < w.heap.size → some ad.block ≠ v.ownBlock) (hn : n + 4 * zs.length ≤ 100000000) (hbase : base ≤ w.heap.size) :
    Calls Tryd.prog 28 #[v, .agg (dcells P zs.length cap u)] w fun e w' => ∃ v', e = .returned v' ∧ Pk.App base w v (n + (1 + zs.length * 2)) (xs ++ u8s (Pk.desc zs u)) w' v' := by
  have hrow := desc_row w P zs.length cap u
  have hlt := hown.lt
  obtain ⟨w1, hw1⟩ : ∃ w1, Hid (w.alloc (Obj.cells (dcells P zs.length cap u) 59) = w1) := ⟨_, hide rfl⟩
  have hg0 : w.grownBy w1 v.ownBlock := by rw [← hw1.out]; exact World.grownBy_alloc w _ _
  have hown1 := hown.alloc (Obj.cells (dcells P zs.length cap u) 59)
  rw [hw1.out] at hrow hown1
  have HFirst := hide (Pk.App.mk hown1 hg0 (.inl rfl))
  have HR := hide hrow
  have HD := hide (hr.grownW hg0 hsep)
  have HSep : Hid (zs ≠ [] → ∀ ad, P = some ad → ad.block < w1.heap.size → some ad.block ≠ v.ownBlock) := hide (fun hne ad e _ h => by
    rcases Nat.lt_or_ge ad.block w.heap.size with h' | h'
    · exact hsep hne ad e h' h
    · have := (hlt _ h.symm).2; omega)
  have HNe : Hid (some w.heap.size ≠ v.ownBlock) := hide (fun h => by have := (hlt _ h.symm).2; omega)
  have hb1 : Hid (base ≤ w1.heap.size) := hide (Nat.le_trans hbase hg0.size)
  have HH := hide (append_c base v n xs 1 (Pk.head zs u) w1 hown1 (by omega) hb1.out)
  have hh : Hid (Pk.head zs u = (zs.length : Int) + (if u = true then 8 else 0)) := hide rfl
  have HDD : Hid (Pk.desc zs u = Pk.le 1 (Pk.num (Pk.head zs u)) ++ Pk.all 2 zs) := hide rfl
  obtain ⟨h, hhh⟩ : ∃ h, Hid (Pk.head zs u = h) := ⟨_, hide rfl⟩
  rw [hhh.out] at HH hh HDD
  rw [HDD.out]
  obtain ⟨bs, hbs⟩ : ∃ bs, Hid (Pk.le 1 (Pk.num h) = bs) := ⟨_, hide rfl⟩
  rw [hbs.out] at HH ⊢
  obtain ⟨m, hm⟩ : ∃ m, Hid (zs.length = m) := ⟨_, hide rfl⟩
  rw [hm.out] at hw1 hn HR hh ⊢
  have hwh : IntKind.i64.wrap ((m : Int) + 8) = (m : Int) + 8 := by rw [IntKind.wrap_i64]; omega
  have c0 : w1.cell? ⟨w.heap.size, 0, none⟩ = some (.slice P m cap) := by rw [HR.out.cell]; rfl
  have c1 : w1.cell? ⟨w.heap.size, 1, none⟩ = some (.bool u) := by rw [HR.out.cell]; rfl
  clear hrow hown hown1 hr hg0 hsep hlt HDD hbs hhh
  have main : ∀ (W : World) (b : Value), Pk.App base w1 v (n + 1) (xs ++ u8s bs) W b → ∀ (i : Nat) (z : Int) (wr : World) (b' : Value), zs[i]? = some z → i < m → Pk.App base W b (n + 1 + i * 2) (xs ++ u8s bs ++ u8s (Pk.all 2 (zs.take i))) wr b' → Calls Tryd.prog 27 #[b', .int .i64 2, .int .i64 z] wr fun e w' => ∃ v', e = .returned v' ∧ Pk.App base W b (n + 1 + (i + 1) * 2) (xs ++ u8s bs ++ u8s (Pk.all 2 (zs.take (i + 1)))) w' v' := by
    intro W b hA i z wr b' hz hi hI
    refine (append_c base b' (n + 1 + i * 2) _ 2 z wr hI.own (by omega) (Nat.le_trans (Nat.le_trans hb1.out hA.grown.size) hI.grown.size)).mono ?_
    rintro e w3 ⟨v', rfl, hA3⟩
    exact ⟨v', rfl, hI.next hz hA3⟩
  have tail : ∀ (W : World) (b : Value), Pk.App base w1 v (n + 1) (xs ++ u8s bs) W b → W.cell? ⟨w.heap.size, 0, none⟩ = some (.slice P m cap) ∧ Ri W P zs ∧ Pk.App base w v (n + 1) (xs ++ u8s bs) W b ∧ (∀ wr b' nn ys, Pk.App base W b nn ys wr b' → Ri wr P zs) := by
    intro W b hA
    have hRW := HD.out.grownW hA.grown HSep.out
    refine ⟨?_, hRW, HFirst.out.andThen hA, fun wr b' nn ys hB => HD.out.grownW (hA.andThen hB).grown HSep.out⟩
    rw [(HR.out.grown hA.grown HNe.out).cell]
    rfl
  have HM := hide main
  have HT := hide tail
  clear main tail HD HR HNe HSep HFirst
  cases u
  · rw [if_neg (by decide), Int.add_zero] at hh
    obtain rfl := hh.out
    go_enter Tryd.func28, Tryd.ntmps28
    go_wp2_with fail
    have hw1' := hw1.out
    rw [hw1']
    clear hw1 hw1'
    refine HH.out.mono ?_
    rintro e W ⟨b, rfl, hA⟩
    obtain ⟨c0', hRW, hFW, hS⟩ := HT.out W b hA
    have HMW := hide (HM.out W b hA)
    have HRW := hide hRW
    have HFW := hide hFW
    have HS := hide hS
    have H0 := hide (Pk.App.refl hA.own)
    clear HH HM HT hRW hFW hS c0 c1 hA
    go_wp2_with fail
    go_loopw [0, 21] (fun b' j wr => ∃ i : Nat, i ≤ m ∧ j = .int .i64 i ∧ Hid (Pk.App base W b (n + 1 + i * 2) (xs ++ u8s bs ++ u8s (Pk.all 2 (zs.take i))) wr b')) (fun _ j _ => m - (intOf j).toNat)
    case atStart => exact ⟨0, by omega, rfl, by simpa [Pk.all] using H0⟩
    case round =>
      obtain ⟨i, hi, rfl, hI⟩ := hrel
      by_cases hlt : i < m
      · have him : (i : Int) < m := by omega
        have hDw := HS.out _ _ _ _ hI.out
        obtain ⟨ad, z, rfl, ez, cz⟩ := ri_at hDw i (by rw [hm.out]; exact hlt)
        have hw1 : IntKind.i64.wrap ((i : Int) + 1) = (i : Int) + 1 := by rw [IntKind.wrap_i64]; omega
        have HA := hide (HMW.out i z wr _ ez.out hlt hI.out)
        clear hDw
        go_wp2_with fail
        refine HA.out.mono ?_
        rintro e w3 ⟨v', rfl, hA⟩
        have HI2 := hide hA
        clear hA HA hI
        go_wp2_with fail
        go_roundw
        case rel => exact ⟨i + 1, by omega, by go_num, HI2⟩
        case measure => simp [intOf]; omega
      · obtain rfl : i = m := by omega
        have hF := HFW.out.andThen hI.out
        rw [List.take_of_length_le (by rw [hm.out]; exact Nat.le_refl _)] at hF
        have HF := hide hF
        clear hF
        go_wp2_with fail
        go_ret
        exact ⟨_, rfl, by simpa [Nat.add_assoc, u8s] using HF.out⟩
  · rw [if_pos rfl] at hh
    obtain rfl := hh.out
    go_enter Tryd.func28, Tryd.ntmps28
    go_wp2_with fail
    have hw1' := hw1.out
    rw [hw1']
    clear hw1 hw1'
    refine HH.out.mono ?_
    rintro e W ⟨b, rfl, hA⟩
    obtain ⟨c0', hRW, hFW, hS⟩ := HT.out W b hA
    have HMW := hide (HM.out W b hA)
    have HRW := hide hRW
    have HFW := hide hFW
    have HS := hide hS
    have H0 := hide (Pk.App.refl hA.own)
    clear HH HM HT hRW hFW hS c0 c1 hA
    go_wp2_with fail
    go_loopw [0, 21] (fun b' j wr => ∃ i : Nat, i ≤ m ∧ j = .int .i64 i ∧ Hid (Pk.App base W b (n + 1 + i * 2) (xs ++ u8s bs ++ u8s (Pk.all 2 (zs.take i))) wr b')) (fun _ j _ => m - (intOf j).toNat)
    case atStart => exact ⟨0, by omega, rfl, by simpa [Pk.all] using H0⟩
    case round =>
      obtain ⟨i, hi, rfl, hI⟩ := hrel
      by_cases hlt : i < m
      · have him : (i : Int) < m := by omega
        have hDw := HS.out _ _ _ _ hI.out
        obtain ⟨ad, z, rfl, ez, cz⟩ := ri_at hDw i (by rw [hm.out]; exact hlt)
        have hw1 : IntKind.i64.wrap ((i : Int) + 1) = (i : Int) + 1 := by rw [IntKind.wrap_i64]; omega
        have HA := hide (HMW.out i z wr _ ez.out hlt hI.out)
        clear hDw
        go_wp2_with fail
        refine HA.out.mono ?_
        rintro e w3 ⟨v', rfl, hA⟩
        have HI2 := hide hA
        clear hA HA hI
        go_wp2_with fail
        go_roundw
        case rel => exact ⟨i + 1, by omega, by go_num, HI2⟩
        case measure => simp [intOf]; omega
      · obtain rfl : i = m := by omega
        have hF := HFW.out.andThen hI.out
        rw [List.take_of_length_le (by rw [hm.out]; exact Nat.le_refl _)] at hF
        have HF := hide hF
        clear hF
        go_wp2_with fail
        go_ret
        exact ⟨_, rfl, by simpa [Nat.add_assoc, u8s] using HF.out⟩
/-- These bytes behind the row. -/
def Pk.Ap (base : Nat) (w : World) (v : Value) (n : Nat) (xs : List Value) (ys : List Nat) (wr : World) (b : Value) : Prop := Pk.App base w v (n + ys.length) (xs ++ u8s ys) wr b
section
variable {base : Nat} {w : World} {v : Value} {n : Nat} {xs : List Value}
theorem Pk.Ap.nil (h : w.ownsRow base 5 1 v n xs) : Pk.Ap base w v n xs [] w v := by
  unfold Pk.Ap
  simpa using Pk.App.refl h
theorem Pk.Ap.same {ys : List Nat} {wr W : World} {b : Value} (h : Pk.Ap base w v n xs ys wr b) (hg : wr.grownBy W none) : Pk.Ap base w v n xs ys W b := by
  have h' : Pk.App base w v (n + ys.length) (xs ++ u8s ys) wr b := h
  exact ⟨own_not h'.own hg (NotT.none _ _), h'.grown.andThen hg (fun j hj => by cases hj), h'.at_⟩
theorem Pk.Ap.then_ {ys zs : List Nat} {m : Nat} {wr W : World} {b b' : Value} (h : Pk.Ap base w v n xs ys wr b) (k : Pk.App base wr b (n + ys.length + m) (xs ++ u8s ys ++ u8s zs) W b') (hm : zs.length = m) : Pk.Ap base w v n xs (ys ++ zs) W b' := by
  have e := Pk.App.andThen h k
  unfold Pk.Ap
  rw [List.length_append, hm, ← Nat.add_assoc, show u8s (ys ++ zs) = u8s ys ++ u8s zs from List.map_append, ← List.append_assoc]
  exact e
theorem Pk.Ap.num {ys : List Nat} {wr : World} {b : Value} (h : Pk.Ap base w v n xs ys wr b) (hbase : base ≤ w.heap.size) (k : Nat) (z : Int) (hn : n + ys.length + k ≤ 1000000000) :
    Calls Tryd.prog 27 #[b, .int .i64 (k : Int), .int .i64 z] wr fun e w' => ∃ v', e = .returned v' ∧ Pk.Ap base w v n xs (ys ++ Pk.le k (Pk.num z)) w' v' ∧ wr.grownBy w' b.ownBlock := by
  refine (append_c base b (n + ys.length) (xs ++ u8s ys) k z wr (show Pk.App base w v (n + ys.length) (xs ++ u8s ys) wr b from h).own hn (Nat.le_trans hbase (show Pk.App base w v (n + ys.length) (xs ++ u8s ys) wr b from h).grown.size)).mono ?_
  rintro e w' ⟨v', rfl, hA⟩
  exact ⟨v', rfl, h.then_ hA (Pk.le_length _ _), hA.grown⟩
theorem Pk.Ap.below {ys : List Nat} {wr w0 : World} {b : Value} (h : Pk.Ap base w v n xs ys wr b) (hown : w.ownsRow base 5 1 v n xs) (hb : Below w0.heap.size w0 w) (hbase : w0.heap.size ≤ base) : Below w0.heap.size w0 wr :=
  hb.grown (show Pk.App base w v (n + ys.length) (xs ++ u8s ys) wr b from h).grown hb.size fun k hk => Nat.le_trans hbase (own_low hown k hk)
theorem Pk.Ap.own {ys : List Nat} {wr : World} {b : Value} (h : Pk.Ap base w v n xs ys wr b) : wr.ownsRow base 5 1 b (n + ys.length) (xs ++ u8s ys) := (show Pk.App base w v (n + ys.length) (xs ++ u8s ys) wr b from h).own
/-- A box of another type stays. -/
theorem Pk.Ap.box {ys : List Nat} {wr W : World} {b : Value} {g : Nat} {t : TypeId} {cs : List Value} (h : Pk.Ap base w v n xs ys wr b) (hg : wr.grownBy W b.ownBlock) (hB : Has wr g t cs) (ht : t ≠ 5) : Has W g t cs := hB.grown hg fun e => NotT.own h.own ht _ e.symm _ hB
end
/-- An instruction's bytes. -/
def Pl.nb (l : List Int) : List Nat := Pk.le 1 (Pk.num (l.length : Nat)) ++ Pk.all 4 l
def InP.bytes (x : InP) : List Nat := Pk.le 1 (Pk.num x.op) ++ Pk.le 4 (Pk.num x.dst) ++ Pl.nb x.is ++ Pl.nb x.gs ++ Pk.le 4 (Pk.num x.fr) ++ Pk.le 4 (Pk.num x.to)
def Pl.code (l : List InP) : List Nat := l.flatMap InP.bytes
theorem Pl.nb_len (l : List Int) : (Pl.nb l).length = 1 + l.length * 4 := by unfold Pl.nb; rw [List.length_append, Pk.le_length, Pk.all_length]
theorem InP.bytes_len (x : InP) : x.bytes.length = 15 + x.is.length * 4 + x.gs.length * 4 := by
  unfold InP.bytes
  simp only [List.length_append, Pk.le_length, Pl.nb_len]
  omega
theorem Pl.code_len (l : List InP) (h : ∀ x ∈ l, x.is.length ≤ 8 ∧ x.gs.length ≤ 8) : (Pl.code l).length ≤ l.length * 79 := by
  induction l with
  | nil => simp [Pl.code]
  | cons x l ih =>
    have h1 := h x (List.mem_cons_self ..)
    have h2 := ih fun y hy => h y (List.mem_cons_of_mem _ hy)
    unfold Pl.code at h2 ⊢
    rw [List.flatMap_cons, List.length_append, InP.bytes_len, List.length_cons]
    omega
theorem Pl.code_snoc (l : List InP) (i : Nat) (x : InP) (h : l[i]? = some x) : Pl.code (l.take (i + 1)) = Pl.code (l.take i) ++ x.bytes := by
  unfold Pl.code
  rw [List.take_add_one, h, Option.toList_some, List.flatMap_append, List.flatMap_cons, List.flatMap_nil, List.append_nil]
/-- The numbers of an instruction, list by list. -/
def Pl.part (is gs : List Int) : Nat → List Nat
  | 0 => []
  | 1 => Pl.nb is
  | _ + 2 => Pl.nb is ++ Pl.nb gs
theorem Pl.part_len (is gs : List Int) (q : Nat) : (Pl.part is gs q).length ≤ 2 + is.length * 4 + gs.length * 4 := by
  match q with
  | 0 => simp [Pl.part]
  | 1 => show (Pl.nb is).length ≤ _; rw [Pl.nb_len]; omega
  | q + 2 => show (Pl.nb is ++ Pl.nb gs).length ≤ _; rw [List.length_append, Pl.nb_len, Pl.nb_len]; omega
set_option maxRecDepth 100000 in
set_option maxHeartbeats 8000000 in
theorem appendcode_c (base : Nat) (v : Value) (n : Nat) (xs : List Value) (is : List Ins) (K : Option Addr) (kc : Nat) (w0 w : World) (hb : Below w0.heap.size w0 w) (hbase0 : w0.heap.size ≤ base) (hbase : base ≤ w.heap.size) (hown : w.ownsRow base 5 1 v n xs) (hK : Row w0 K (is.flatMap Ins.vals)) (hI : ∀ x ∈ is, x.In w0)
    (h8 : ∀ x ∈ is, x.is.length ≤ 8 ∧ x.gs.length ≤ 8) (hl : is.length ≤ 2048) (hn : n ≤ 100000000) :
    Calls Tryd.prog 30 #[v, .slice K is.length kc] w fun e w' => ∃ v', e = .returned v' ∧ Pk.Ap base w v n xs (Pl.code (is.map Ins.pl)) w' v' ∧ w.grownBy w' v.ownBlock := by
  have H0 := hide (Pk.Ap.nil hown)
  have HBL := hide (fun (ys : List Nat) (wr : World) (b : Value) (h : Pk.Ap base w v n xs ys wr b) => h.below hown hb hbase0)
  have HK := hide hK
  have HI := hide hI
  have H8 := hide h8
  have HBA := hide hbase
  have HSZ := hide (fun i : Nat => show (Pl.code ((is.map Ins.pl).take i)).length ≤ 161792 from by
    have h1 := Pl.code_len ((is.map Ins.pl).take i) (by
      intro x hx
      obtain ⟨y, hy, rfl⟩ := List.mem_map.1 (List.mem_of_mem_take hx)
      exact h8 y hy)
    rw [List.length_take, List.length_map] at h1
    omega)
  obtain ⟨m, hm⟩ : ∃ y, Hid (is.length = y) := ⟨_, hide rfl⟩
  rw [hm.out] at hl ⊢
  clear hown hb hbase0 hbase hK hI h8
  go_enter Tryd.func30, Tryd.ntmps30
  go_wp2_with fail
  go_loopw [0, 13] (fun b k wr => ∃ (i : Nat) (u : Value), u = b ∧ i ≤ m ∧ k = .int .i64 i ∧ Hid (Pk.Ap base w v n xs (Pl.code ((is.map Ins.pl).take i)) wr u)) (fun _ k _ => m - (intOf k).toNat)
  case atStart => exact ⟨0, _, rfl, by omega, rfl, H0⟩
  case round =>
    clear H0
    obtain ⟨i, u, rfl, hi, rfl, HA⟩ := hrel
    by_cases hlt : i < m
    · have hii : (i : Int) < (m : Int) := by omega
      obtain ⟨ad, x, hBad, had, hd, c0, c1, c2, c3, c4, c5⟩ := row_ins (HK.out.below (HBL.out _ _ _ HA.out)) i (by rw [hm.out]; exact hlt)
      subst hBad
      have hx8 := H8.out x (List.mem_of_getElem? hd.out)
      have hxi := HI.out x (List.mem_of_getElem? hd.out)
      obtain ⟨ys, hys⟩ : ∃ y, Hid (Pl.code ((is.map Ins.pl).take i) = y) := ⟨_, hide rfl⟩
      have hyl : Hid (ys.length ≤ 161792) := hide (by rw [← hys.out]; exact HSZ.out i)
      have HNX : Hid (Pl.code ((is.map Ins.pl).take (i + 1)) = ys ++ x.pl.bytes) := hide (by rw [Pl.code_snoc _ i x.pl (by rw [List.getElem?_map, hd.out]; rfl), hys.out])
      rw [hys.out] at HA
      have hga := World.grownBy_alloc wr (.cells #[.int .i64 x.op, .int .i64 x.dst, .slice x.I x.is.length x.ic, .slice x.G x.gs.length x.gc, .int .i64 x.fr, .int .i64 x.to] 48) none
      have hA1 := HA.out.same hga
      have hA1d := hA1.same (grown_drew (World.grownBy.refl _ none))
      obtain ⟨li, hli⟩ : ∃ y, Hid (x.is.length = y) := ⟨_, hide rfl⟩
      obtain ⟨lg, hlg⟩ : ∃ y, Hid (x.gs.length = y) := ⟨_, hide rfl⟩
      have hB1 : Has (wr.alloc (.cells #[.int .i64 x.op, .int .i64 x.dst, .slice x.I x.is.length x.ic, .slice x.G x.gs.length x.gc, .int .i64 x.fr, .int .i64 x.to] 48)) wr.heap.size 48 [.int .i64 x.op, .int .i64 x.dst, .slice x.I x.is.length x.ic, .slice x.G x.gs.length x.gc, .int .i64 x.fr, .int .i64 x.to] := Has.new wr _ _
      rw [hli.out, hlg.out] at hga hA1 hA1d hB1 hx8
      rw [hli.out] at c2
      rw [hlg.out] at c3
      have HB1 := hide (hB1.drewN 1)
      have HC1 := hide (hA1d.num HBA.out 1 x.op (by have := hyl.out; omega))
      have HA1d := hide hA1d
      have q1 : (wr.alloc (.cells #[.int .i64 x.op, .int .i64 x.dst, .slice x.I li x.ic, .slice x.G lg x.gc, .int .i64 x.fr, .int .i64 x.to] 48)).drew.cell? ⟨wr.heap.size, 1, none⟩ = some (.int .i64 x.dst) := (hB1.drewN 1).cell 1
      have HX8 := hide hx8
      have HXI := hide hxi
      have hlb : Hid (li ≤ 8 ∧ lg ≤ 8) := hide hx8
      clear hga hA1 hA1d hB1 hx8 hxi had HA
      go_wp2_with fail
      clear c0 c1 c2 c3 c4 c5
      go_region_law (first
        | (go_simp; go_at_call 27; refine HC2.out.mono ?_; rintro e wb ⟨b2, rfl, ha2, hg2⟩; have HAb := hide ha2; have HBb := hide (HAa.out.box hg2 HBa.out (by decide)); clear ha2 hg2)
        | (go_simp; go_at_call 27; refine HC1.out.mono ?_; rintro e wa ⟨b1, rfl, ha1, hg1⟩; have HAa := hide ha1; have hBa := HA1d.out.box hg1 HB1.out (by decide); have q2 : wa.cell? ⟨wr.heap.size, 1, none⟩ = some (.int .i64 x.dst) := hBa.cell 1; have HBa := hide hBa; have HC2 := hide (ha1.num HBA.out 4 x.dst (by have := hyl.out; rw [List.length_append, Pk.le_length]; omega)); clear ha1 hg1 hBa))
      all_goals go_ways
      all_goals
        obtain ⟨wo, hwo⟩ : ∃ W, W = wr := ⟨_, rfl⟩
        subst hwo
        clear HC1 HC2 HA1d HAa HBa q1 q2 HB1
        obtain ⟨y1, hy1⟩ : ∃ y, Hid (ys ++ Pk.le 1 (Pk.num x.op) ++ Pk.le 4 (Pk.num x.dst) = y) := ⟨_, hide rfl⟩
        have hy1l : Hid (y1.length = ys.length + 5) := hide (by rw [← hy1.out]; simp only [List.length_append, Pk.le_length])
        rw [hy1.out] at HAb
        have d2 : wb.cell? ⟨wo.heap.size, 2, none⟩ = some (.slice x.I li x.ic) := HBb.out.cell 2
        have d3 : wb.cell? ⟨wo.heap.size, 3, none⟩ = some (.slice x.G lg x.gc) := HBb.out.cell 3
        obtain ⟨wc, hwc⟩ : ∃ W, Hid (wb.alloc (.cells #[.slice x.I li x.ic, .slice x.G lg x.gc] 46) = W) := ⟨_, hide rfl⟩
        have hgc : wb.grownBy wc none := by rw [← hwc.out]; exact World.grownBy_alloc _ _ _
        have HAc := hide (HAb.out.same hgc)
        have HBc := hide (HBb.out.grown hgc (by simp))
        have HSc : Hid (Has wc wb.heap.size 46 [.slice x.I li x.ic, .slice x.G lg x.gc]) := hide (by rw [← hwc.out]; exact Has.new _ _ _)
        have HPL := hide (Pl.part_len x.is x.gs)
        rw [hli.out, hlg.out] at HPL
        clear hgc HAb HBb
        go_wp2_with fail
        rw [hwc.out]
        clear hwc d2 d3
        go_loopw [0, 30] (fun b k wm => ∃ (q : Nat) (u2 : Value), u2 = b ∧ q ≤ 2 ∧ k = .int .i64 q ∧ Hid (Pk.Ap base w v n xs (y1 ++ Pl.part x.is x.gs q) wm u2) ∧ Hid (Has wm wo.heap.size 48 [.int .i64 x.op, .int .i64 x.dst, .slice x.I li x.ic, .slice x.G lg x.gc, .int .i64 x.fr, .int .i64 x.to]) ∧ Hid (Has wm wb.heap.size 46 [.slice x.I li x.ic, .slice x.G lg x.gc])) (fun _ k _ => 2 - (intOf k).toNat)
        case atStart => exact ⟨0, _, rfl, by omega, rfl, by show Hid (Pk.Ap base w v n xs (y1 ++ []) wc _); rw [List.append_nil]; exact HAc, HBc, HSc⟩
        case round =>
          obtain ⟨wm, hwm⟩ : ∃ W, W = wr := ⟨_, rfl⟩
          subst hwm
          clear HAc HBc HSc
          obtain ⟨q, u2, rfl, hq2, rfl, HAm, HBm, HSm⟩ := hrel
          by_cases hq : q < 2
          · obtain ⟨P', l', c', ll, hcell, hll, hri, hl8, hpart⟩ : ∃ (P' : Option Addr) (l' : List Int) (c' ll : Nat), wm.cell? ⟨wb.heap.size, q, none⟩ = some (.slice P' ll c') ∧ Hid (l'.length = ll) ∧ Hid (Ri w0 P' l') ∧ ll ≤ 8 ∧ Hid (Pl.part x.is x.gs (q + 1) = Pl.part x.is x.gs q ++ Pl.nb l') := by
              have h01 : q = 0 ∨ q = 1 := by omega
              rcases h01 with rfl | rfl
              · exact ⟨x.I, x.is, x.ic, li, HSm.out.cell 0, hli, hide HXI.out.is, hlb.out.1, hide rfl⟩
              · exact ⟨x.G, x.gs, x.gc, lg, HSm.out.cell 1, hlg, hide HXI.out.gs, hlb.out.2, hide rfl⟩
            have HLL := hide hl8
            have hqq : (q : Int) < 2 := by omega
            obtain ⟨y2, hy2⟩ : ∃ y, Hid (y1 ++ Pl.part x.is x.gs q = y) := ⟨_, hide rfl⟩
            have hy2l : Hid (y2.length ≤ 170000) := hide (by
              rw [← hy2.out, List.length_append]
              have h1 := HPL.out q
              have h2 := hy1l.out
              have h3 := hyl.out
              have h4 := hlb.out
              omega)
            have HNQ : Hid (y1 ++ Pl.part x.is x.gs (q + 1) = y2 ++ Pk.le 1 (Pk.num ((ll : Nat) : Int)) ++ Pk.all 4 l') := hide (by rw [hpart.out, ← hy2.out]; unfold Pl.nb; rw [hll.out]; simp only [List.append_assoc])
            rw [hy2.out] at HAm
            have HCN := hide (HAm.out.num HBA.out 1 (ll : Nat) (by have := hy2l.out; omega))
            have h01 : q = 0 ∨ q = 1 := by omega
            clear hpart
            rcases h01 with rfl | rfl
            all_goals
              go_wp2_with fail
              refine HCN.out.mono ?_
              rintro e wn ⟨b3, rfl, ha3, hg3⟩
              have HAn := hide ha3
              have HBn := hide (HAm.out.box hg3 HBm.out (by decide))
              have HSn := hide (HAm.out.box hg3 HSm.out (by decide))
              clear ha3 hg3 HCN hcell
              obtain ⟨y3, hy3⟩ : ∃ y, Hid (y2 ++ Pk.le 1 (Pk.num ((ll : Nat) : Int)) = y) := ⟨_, hide rfl⟩
              have hy3l : Hid (y3.length ≤ 170001) := hide (by
                rw [← hy3.out, List.length_append, Pk.le_length]
                have := hy2l.out
                omega)
              rw [hy3.out] at HAn HNQ
              go_wp2_with fail
              go_loopw [0, 40] (fun b k wj => ∃ (j : Nat) (u3 : Value), u3 = b ∧ j ≤ ll ∧ k = .int .i64 j ∧ Hid (Pk.Ap base w v n xs (y3 ++ Pk.all 4 (l'.take j)) wj u3) ∧ Hid (Has wj wo.heap.size 48 [.int .i64 x.op, .int .i64 x.dst, .slice x.I li x.ic, .slice x.G lg x.gc, .int .i64 x.fr, .int .i64 x.to]) ∧ Hid (Has wj wb.heap.size 46 [.slice x.I li x.ic, .slice x.G lg x.gc])) (fun _ k _ => ll - (intOf k).toNat)
              case atStart => exact ⟨0, _, rfl, by omega, rfl, by show Hid (Pk.Ap base w v n xs (y3 ++ []) wn _); rw [List.append_nil]; exact HAn, HBn, HSn⟩
              case round =>
                obtain ⟨wj, hwj⟩ : ∃ W, W = wr := ⟨_, rfl⟩
                subst hwj
                clear HAn HBn HSn
                obtain ⟨j, u3, rfl, hj, rfl, HAj, HBj, HSj⟩ := hrel
                by_cases hjl : j < ll
                · have hjj : (j : Int) < (ll : Int) := by omega
                  obtain ⟨ad2, z, hBad, ez, cz⟩ := ri_at (hri.out.below (HBL.out _ _ _ HAj.out)) j (by rw [hll.out]; exact hjl)
                  rw [hBad]
                  have HCZ := hide (HAj.out.num HBA.out 4 z (by
                    have h1 := hy3l.out
                    have h2 := HLL.out
                    rw [List.length_append, Pk.all_length, List.length_take]
                    omega))
                  go_wp2_with fail
                  refine HCZ.out.mono ?_
                  rintro e wk ⟨b4, rfl, ha4, hg4⟩
                  have HAk : Hid (Pk.Ap base w v n xs (y3 ++ Pk.all 4 (l'.take (j + 1))) wk b4) := hide (by rw [Pk.all_take 4 l' j z ez.out, ← List.append_assoc]; exact ha4)
                  have HBk := hide (HAj.out.box hg4 HBj.out (by decide))
                  have HSk := hide (HAj.out.box hg4 HSj.out (by decide))
                  clear ha4 hg4 HCZ HAj HBj HSj cz
                  go_wp2_with fail
                  go_roundw
                  case rel => exact ⟨j + 1, _, rfl, by omega, by go_num, HAk, HBk, HSk⟩
                  case measure => simp [intOf]; omega
                · obtain rfl : j = ll := by omega
                  have ha := HAj.out
                  rw [List.take_of_length_le (by rw [hll.out]; exact Nat.le_refl _), ← HNQ.out] at ha
                  have HAA := hide ha
                  clear ha HAj
                  go_wp2_with fail
                  go_roundw
                  case rel => exact ⟨_, _, rfl, by omega, by go_num, HAA, HBj, HSj⟩
                  case measure => simp [intOf]
          · obtain rfl : q = 2 := by omega
            obtain ⟨y4, hy4⟩ : ∃ y, Hid (y1 ++ Pl.part x.is x.gs 2 = y) := ⟨_, hide rfl⟩
            have hy4l : Hid (y4.length ≤ 170000) := hide (by
              rw [← hy4.out, List.length_append]
              have h1 := HPL.out 2
              have h2 := hy1l.out
              have h3 := hyl.out
              have h4 := hlb.out
              omega)
            rw [hy4.out] at HAm
            have HAd := hide (HAm.out.same (grown_drew (World.grownBy.refl _ none)))
            have HBd := hide (HBm.out.drewN 1)
            have s4 : wm.cell? ⟨wo.heap.size, 4, none⟩ = some (.int .i64 x.fr) := HBm.out.cell 4
            have s5 : wm.cell? ⟨wo.heap.size, 5, none⟩ = some (.int .i64 x.to) := HBm.out.cell 5
            have t4 : wm.drew.cell? ⟨wo.heap.size, 4, none⟩ = some (.int .i64 x.fr) := HBm.out.cell 4
            have t5 : wm.drew.cell? ⟨wo.heap.size, 5, none⟩ = some (.int .i64 x.to) := HBm.out.cell 5
            have HC1 := hide (HAd.out.num HBA.out 4 x.fr (by have := hy4l.out; omega))
            clear HAm HBm HSm
            go_wp2_with fail
            go_region_law (first
              | (go_simp; go_at_call 27; refine HC9.out.mono ?_; rintro e wq ⟨b9, rfl, ha9, hg9⟩; have HAq := hide ha9; clear ha9 hg9)
              | (go_simp; go_at_call 27; refine HC1.out.mono ?_; rintro e wp ⟨b8, rfl, ha8, hg8⟩; have hb8 := HAd.out.box hg8 HBd.out (by decide); have v5 : wp.cell? ⟨wo.heap.size, 5, none⟩ = some (.int .i64 x.to) := hb8.cell 5; have HC9 := hide (ha8.num HBA.out 4 x.to (by have := hy4l.out; rw [List.length_append, Pk.le_length]; omega)); clear ha8 hg8 hb8))
            all_goals go_ways
            all_goals
              have HLAST : Hid (Pk.Ap base w v n xs (Pl.code ((is.map Ins.pl).take (i + 1))) wq b9) := hide (by
                have h := HAq.out
                rw [HNX.out]
                rw [← hy4.out, ← hy1.out] at h
                have e : ys ++ x.pl.bytes = ys ++ Pk.le 1 (Pk.num x.op) ++ Pk.le 4 (Pk.num x.dst) ++ Pl.part x.is x.gs 2 ++ Pk.le 4 (Pk.num x.fr) ++ Pk.le 4 (Pk.num x.to) := by
                  unfold InP.bytes Ins.pl
                  show ys ++ (Pk.le 1 _ ++ Pk.le 4 _ ++ Pl.nb x.is ++ Pl.nb x.gs ++ Pk.le 4 _ ++ Pk.le 4 _) = ys ++ Pk.le 1 _ ++ Pk.le 4 _ ++ (Pl.nb x.is ++ Pl.nb x.gs) ++ Pk.le 4 _ ++ Pk.le 4 _
                  simp only [List.append_assoc]
                rw [e]
                exact h)
              clear HAq HC1 HC9 HAd HBd s4 s5 t4 t5 v5
              go_wp2_with fail
              go_roundw
              case rel => exact ⟨i + 1, _, rfl, by omega, by go_num, HLAST⟩
              case measure => simp [intOf]; omega
    · obtain rfl : i = m := by omega
      have ha := HA.out
      rw [List.take_of_length_le (by rw [List.length_map, hm.out]; exact Nat.le_refl _)] at ha
      have HAA := hide ha
      clear ha HA
      go_wp2_with fail
      go_ret
      exact ⟨_, rfl, HAA.out, (show Pk.App base w v (n + _) (xs ++ u8s _) _ _ from HAA.out).grown⟩
end Go.Proofs.YthjnkaikjjjceaaDoor
