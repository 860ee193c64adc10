/-
  plan.Bytes, walked. By an AI agent. No person has read it.
-/
import Derived.Test.YthjnkaikjjjceaaDoorPkPlnN
import Derived.Test.YthjnkaikjjjceaaDoorPkPlnM
import Derived.Lib.SlBytesConst
import Derived.ArgAppend
namespace Go.Proofs.YthjnkaikjjjceaaDoor
open Go.RowKit
def Pl.vbytes (v : VwP) : List Nat := Pk.le 4 (Pk.num v.1) ++ Pk.desc v.2.1 v.2.2
def Pl.tbytes (t : TnP) : List Nat := Tens.bytes t.1 t.2.1 t.2.2
def Pl.dbytes (d : DsP) : List Nat := Pk.desc d.1 d.2
/-- A plan's bytes, behind the two first. -/
def Pl.body (p : PlP) : List Nat :=
  Pk.le 4 (Pk.num p.size) ++ Pk.le 2 (Pk.num (p.vs.length : Nat)) ++ p.vs.flatMap Pl.vbytes ++ Pk.le 2 (Pk.num (p.cs.length : Nat)) ++ p.cs.flatMap Pl.tbytes ++ Pk.le 2 (Pk.num (p.ls.length : Nat)) ++ p.ls.flatMap Pl.dbytes ++
  Pk.le 2 (Pk.num (p.is.length : Nat)) ++ Pl.code p.is ++ Pk.le 4 (Pk.num p.inp) ++ Pk.le 4 (Pk.num p.out)
def Pl.bytes (p : PlP) : List Nat := [76, 80] ++ Pl.body p
def Pl.outs (p : Pn) : List Nat := if Pl.fault p = none then Pl.bytes p.pl else []
theorem Pl.re_none {R : Nat × Option Nat} (h : Pl.re R = none) : R = (0, none) := by
  match R, h with
  | (0, none), _ => rfl
  | (k + 1, none), h => exact absurd h (by simp [Pl.re])
  | (k, some i), h => exact absurd h (by simp [Pl.re])
theorem Tens.first_all {l : List Ten} (h : Tens.first l = (0, none)) : ∀ t ∈ l, t.fault = (0, none) := by
  induction l with
  | nil => intro t ht; simp at ht
  | cons x l ih =>
    unfold Tens.first at h
    by_cases hx : x.fault = (0, none)
    · rw [if_pos hx] at h
      intro t ht
      rcases List.mem_cons.1 ht with rfl | ht
      · exact hx
      · exact ih h t ht
    · rw [if_neg hx] at h
      exact absurd h hx
structure Pl.Fine (p : Pn) : Prop where
  vs : p.vs.length ≤ 128
  cs : p.cs.length ≤ 64
  ls : p.ls.length ≤ 8
  is : p.is.length ≤ 2048
  n8 : ∀ x ∈ p.is, x.is.length ≤ 8 ∧ x.gs.length ≤ 8
  d7 : ∀ d ∈ p.descs, d.zs.length ≤ 7
  ok : ∀ t ∈ p.cs, t.fault = (0, none)
  nb : Pl.broad p = false
theorem Pl.fine_of {p : Pn} (h : Pl.fault p = none) : Pl.Fine p := by
  unfold Pl.fault at h
  split at h
  · cases h
  · rename_i h1
    split at h
    · cases h
    · rename_i h2
      have h3 := Tens.first_all (Pl.re_none h)
      rw [Bool.not_eq_true] at h1 h2
      unfold Pl.over Pl.lots at h1
      simp only [Bool.or_eq_false_iff, decide_eq_false_iff_not, List.any_eq_false] at h1
      obtain ⟨⟨a1, a2, a3, a4⟩, a5, a6⟩ := h1
      refine ⟨by omega, by omega, by omega, by omega, fun x hx => ?_, fun d hd => ?_, h3, h2⟩
      · have := a5 x hx
        unfold Pl.many at this
        rw [decide_eq_true_eq] at this
        omega
      · have := a6 d hd
        unfold Pl.deep at this
        rw [decide_eq_true_eq] at this
        omega
theorem flat_bound {α : Type} (f : α → List Nat) (B : Nat) (l : List α) (h : ∀ x ∈ l, (f x).length ≤ B) : (l.flatMap f).length ≤ l.length * B := by
  induction l with
  | nil => simp
  | cons x l ih =>
    have h1 := h x (List.mem_cons_self ..)
    have h2 := ih fun y hy => h y (List.mem_cons_of_mem _ hy)
    rw [List.flatMap_cons, List.length_append, List.length_cons, Nat.add_mul]
    omega
theorem flat_snoc {α : Type} (f : α → List Nat) (l : List α) (i : Nat) (x : α) (h : l[i]? = some x) : (l.take (i + 1)).flatMap f = (l.take i).flatMap f ++ f x := by
  rw [List.take_add_one, h, Option.toList_some, List.flatMap_append, List.flatMap_cons, List.flatMap_nil, List.append_nil]
theorem Tens.bytes_le (zs : List Int) (u : Bool) (ds : List Int) (h : Tens.fault zs u ds = (0, none)) : (Tens.bytes zs u ds).length ≤ 65545 := by
  obtain ⟨h1, -, h3, -⟩ := Tens.fine h
  have h4 := (Shp.ok_iff zs).1 h1
  have h5 := Shp.elems_le zs
  unfold Tens.bytes
  rw [if_pos h, List.length_append, Pk.desc_length, Pk.all_length]
  have h6 : Tens.each u ≤ 4 := by unfold Tens.each; split <;> omega
  have h7 : ds.length * Tens.each u ≤ ds.length * 4 := Nat.mul_le_mul_left _ h6
  omega
section
variable {base : Nat} {w : World} {v : Value} {n : Nat} {xs : List Value}
theorem Pk.Ap.low {ys : List Nat} {wr W : World} {b : Value} (h : Pk.Ap base w v n xs ys wr b) (hb : Below wr.heap.size wr W) : Pk.Ap base w v n xs ys W b := h.same ⟨hb.os, hb.tape, hb.output, hb.size, fun k hk _ => hb.block k hk⟩
theorem Pk.Ap.desc {ys : List Nat} {wr w0 : World} {b : Value} (h : Pk.Ap base w v n xs ys wr b) (hbase : base ≤ w.heap.size) (hb : Below w0.heap.size w0 wr) (hbase0 : w0.heap.size ≤ base) {P : Option Addr} {zs : List Int} (cap : Nat) (u : Bool) (hr : Ri w0 P zs) (hl : zs.length ≤ 7) (hn : n + ys.length ≤ 90000000) :
    Calls Tryd.prog 28 #[b, .agg #[.slice P zs.length cap, .bool u]] wr fun e w' => ∃ v', e = .returned v' ∧ Pk.Ap base w v n xs (ys ++ Pk.desc zs u) w' v' ∧ wr.grownBy w' b.ownBlock := by
  have ha : Pk.App base w v (n + ys.length) (xs ++ u8s ys) wr b := h
  refine (appenddesc_w base b (n + ys.length) (xs ++ u8s ys) zs P cap u wr ha.own (hr.below hb) (fun hne ad e _ hk => ?_) (by omega) (Nat.le_trans hbase ha.grown.size)).mono ?_
  · obtain ⟨ad2, e2, h2, -⟩ := hr.2 hne
    rw [e] at e2
    cases e2
    have := own_low ha.own _ hk.symm
    omega
  · rintro e w' ⟨v', rfl, hA⟩
    exact ⟨v', rfl, h.then_ hA (Pk.desc_length _ _), hA.grown⟩
end
set_option maxRecDepth 100000 in
set_option maxHeartbeats 4000000 in
/-- An append behind a row that is full, and not of the call's own. -/
theorem appendbits_full (A : Addr) (cs : List Nat) (N : Nat) (w : World) (hc : Rb w (some A) cs) (hcl : cs.length = 2) (hN : N < 18446744073709551616) :
    Calls Tryd.prog 74 #[.slice (some A) 2 2, .int .i64 4, .int .u64 (N : Int)] w fun e w' => ∃ v', e = .returned v' ∧ w'.ownsRow w.heap.size 5 1 v' 6 (u8s cs ++ u8s (Pk.le 4 N)) ∧ w.grownBy w' none := by
  have HRB0 := hide hc
  obtain ⟨ib, hib, hib0, hib1, hib2⟩ := u8info
  have HIB := hide hib
  have HIB0 := hide hib0
  have HIB1 := hide hib1
  have HIB2 := hide hib2
  clear hc hib hib0 hib1 hib2
  go_enter Tryd.func74, Tryd.ntmps74
  go_wp2_with fail
  go_loopw [0, 2, 8] (fun b x j wr => ∃ i : Nat, i ≤ 4 ∧ j = .int .i64 i ∧ x = .int .u64 ((N / 256 ^ i : Nat) : Int) ∧ ((i = 0 ∧ b = .slice (some A) 2 2 ∧ wr = w) ∨ (1 ≤ i ∧ Hid (wr.ownsRow w.heap.size 5 1 b (2 + i) (u8s cs ++ u8s (Pk.le i N))) ∧ Hid (w.grownBy wr none)))) (fun _ _ j _ => 4 - (intOf j).toNat)
  case atStart => exact ⟨0, by omega, rfl, by simp, .inl ⟨rfl, rfl, rfl⟩⟩
  case round =>
    obtain ⟨i, hi, rfl, rfl, hI⟩ := hrel
    by_cases hlt : i < 4
    · have hik : (i : Int) < 4 := by omega
      have hq : N / 256 ^ i < 18446744073709551616 := Nat.lt_of_le_of_lt (Nat.div_le_self _ _) hN
      have hs := Pk.le_succ i N
      have hd : N / 256 ^ (i + 1) = N / 256 ^ i / 256 := by rw [Nat.pow_succ, Nat.div_div_eq_div_mul]
      obtain ⟨q, hqq⟩ : ∃ q, Hid (N / 256 ^ i = q) := ⟨_, hide rfl⟩
      rw [hqq.out] at hq hs hd ⊢
      have hw8 : IntKind.u8.wrap (q : Int) = ((q % 256 : Nat) : Int) := by
        rw [IntKind.wrap_u8]
        omega
      have hw1 : IntKind.i64.wrap ((i : Int) + 1) = (i : Int) + 1 := by rw [IntKind.wrap_i64]; omega
      obtain ⟨c, hc⟩ : ∃ c, Hid (q % 256 = c) := ⟨_, hide rfl⟩
      rw [hc.out] at hw8 hs
      have HS := hide hs
      have HD := hide hd
      clear hs hd
      rcases hI with ⟨rfl, rfl, rfl⟩ | ⟨hi1, HO, HG⟩
      · have HB2 := hide ((HRB0.out).below ((Below.refl _ wr).alloc (Nat.le_refl _) (.cells #[.int .u8 (c : Int)] 5)))
        have hol := hide (show ∀ b, some A = some b → ∀ j u, (u8s cs)[j]? = some u → (wr.alloc (.cells #[.int .u8 (c : Int)] 5)).cell? (b.add j) = some u from by
          intro b0 hb0 j u hj
          cases hb0
          rw [List.getElem?_map, Option.map_eq_some_iff] at hj
          obtain ⟨b, hb, rfl⟩ := hj
          obtain ⟨ad, e, -, h2⟩ := HB2.out.2 (by rintro rfl; simp at hcl)
          cases e
          exact h2 j b hb)
        have hnw := hide (new_cells wr 5 [.int .u8 (c : Int)])
        have hlo := hide (show (u8s cs).length = 2 * 1 by simp [hcl])
        clear hlt
        go_wp2_with (at_builtin; refine wpList_append_grows _ rfl (.tmp 10) (.tmp 13) 30 rfl 5 ib (.int .u8 0) 1 1 ubs HIB.out HIB0.out HIB1.out HIB2.out rfl (by decide) (some A) 2 2 (u8s cs) rfl (fun h => by cases h) hlo.out hol.out ⟨wr.heap.size, 0, none⟩ 1 1 [.int .u8 (c : Int)] rfl rfl hnw.out (by intro y hy; rw [List.mem_singleton.1 hy]; rfl) (by omega) (by unfold maxLen; omega) (by omega) ?_)
        intro v' w' h1 h2
        have HO : Hid (w'.ownsRow wr.heap.size 5 1 v' (2 + 1) (u8s cs ++ u8s (Pk.le (0 + 1) N))) := hide (by rw [HS.out]; exact own_le2 h1 (by simp))
        have HG := hide ((World.grownBy_alloc wr (.cells #[.int .u8 (c : Int)] 5) none).trans h2)
        clear h1 h2 HB2 hol hnw hlo
        go_wp2_with fail
        go_roundw
        case rel => exact ⟨0 + 1, by omega, by go_num, congrArg (Value.int .u64) (by rw [HD.out]; omega), .inr ⟨by omega, HO, HG⟩⟩
        case measure => simp [intOf]
      · have HOWN := hide (HO.out.alloc (.cells #[.int .u8 (c : Int)] 5))
        have HGA := hide (HG.out.trans (World.grownBy_alloc wr (.cells #[.int .u8 (c : Int)] 5) none))
        have hcl2 : c < 256 := by rw [← hc.out]; omega
        have HRB := hide ((Has.new wr 5 (u8s [c])).rb (fun b hb => by simp at hb; omega))
        have HB0 := hide (show 2 + i + 1 ≤ 1000000000000 by omega)
        have HSZ := hide (show w.heap.size ≤ (wr.alloc (.cells #[.int .u8 (c : Int)] 5)).heap.size from HGA.out.size)
        clear hcl2 HO HG
        go_wp2_with (at_builtin; refine wpList_append_bs rfl (.tmp 10) (.tmp 13) rfl w.heap.size _ (2 + i) (u8s cs ++ u8s (Pk.le i N)) rfl HOWN.out (some ⟨wr.heap.size, 0, none⟩) 1 1 [c] rfl (hide rfl) HRB.out HB0.out HSZ.out ?_)
        intro v' w' h1 h2 h3
        have HO : Hid (w'.ownsRow w.heap.size 5 1 v' (2 + (i + 1)) (u8s cs ++ u8s (Pk.le (i + 1) N))) := hide (by
          rw [HS.out, show u8s (Pk.le i N ++ [c]) = u8s (Pk.le i N) ++ u8s [c] from List.map_append, ← Nat.add_assoc]
          exact h1)
        have HG : Hid (w.grownBy w' none) := hide (HGA.out.andThen h2 (fun j hj => .inl (own_low HOWN.out j hj)))
        clear h1 h2 h3 HOWN HRB HGA
        go_wp2_with fail
        go_roundw
        case rel => exact ⟨i + 1, by omega, by go_num, congrArg (Value.int .u64) (by rw [HD.out]; omega), .inr ⟨by omega, HO, HG⟩⟩
        case measure => simp [intOf]; omega
    · obtain rfl : i = 4 := by omega
      rcases hI with ⟨h, -, -⟩ | ⟨-, HO, HG⟩
      · omega
      · go_wp2_with fail
        go_ret
        exact ⟨_, rfl, HO.out, HG.out⟩
set_option maxRecDepth 100000 in
theorem append_full (A : Addr) (cs : List Nat) (z : Int) (w : World) (hc : Rb w (some A) cs) (hcl : cs.length = 2) :
    Calls Tryd.prog 27 #[.slice (some A) 2 2, .int .i64 4, .int .i64 z] w fun e w' => ∃ v', e = .returned v' ∧ w'.ownsRow w.heap.size 5 1 v' 6 (u8s cs ++ u8s (Pk.le 4 (Pk.num z))) ∧ w.grownBy w' none := by
  have H := hide (appendbits_full A cs (Pk.num z) w hc hcl (Pk.num_lt z))
  have hw : IntKind.u64.wrap z = ((Pk.num z : Nat) : Int) := by
    rw [IntKind.wrap_u64]
    unfold Pk.num
    omega
  obtain ⟨N, hN⟩ : ∃ N, Hid (Pk.num z = N) := ⟨_, hide rfl⟩
  rw [hN.out] at H hw ⊢
  clear hc
  go_enter Tryd.func27, Tryd.ntmps27
  go_wp2_with fail
  refine H.out.mono ?_
  rintro e w' ⟨v', rfl, h1, h2⟩
  have H1 := hide h1
  have H2 := hide h2
  clear h1 h2 H
  go_wp2_with fail
  go_ret
  exact ⟨_, rfl, H1.out, H2.out⟩
set_option maxRecDepth 100000 in
set_option maxHeartbeats 16000000 in
theorem pbytes_c (es : List Addr) (ah am ar ae ak : Addr) (hes : TErrs es ah am ar ae ak) (p : Pn) (w : World) (hP : p.In w) (hZ : E3 w ah am ar) :
    Calls Tryd.prog 10 #[.agg #[.int .i64 p.size, .slice p.V p.vs.length p.vc, .slice p.C p.cs.length p.cc, .slice p.L p.ls.length p.lc, .slice p.K p.is.length p.kc, .int .i64 p.inp, .int .i64 p.out]] w fun e w' => (∃ (b ev : Value), e = .returned (.tuple #[b, ev]) ∧ EV w'.heap.size w' es (Pl.fault p) ev ∧ w'.ownsRow w.heap.size 5 1 b (Pl.outs p).length (u8s (Pl.outs p))) ∧ Below w.heap.size w w' := by
  have hb0 := (Below.refl w.heap.size w).alloc (Nat.le_refl _) (.cells #[.int .i64 p.size, .slice p.V p.vs.length p.vc, .slice p.C p.cs.length p.cc, .slice p.L p.ls.length p.lc, .slice p.K p.is.length p.kc, .int .i64 p.inp, .int .i64 p.out] 27)
  have hrow := plan_box p w
  have HW := hide (writable_c es ah am ar ae ak hes p _ (hP.below hb0) (hZ.below hb0))
  have HP := hide hP
  have HZ := hide hZ
  obtain ⟨nv, hnv⟩ : ∃ y, Hid (p.vs.length = y) := ⟨_, hide rfl⟩
  obtain ⟨nc, hnc⟩ : ∃ y, Hid (p.cs.length = y) := ⟨_, hide rfl⟩
  obtain ⟨nl, hnl⟩ : ∃ y, Hid (p.ls.length = y) := ⟨_, hide rfl⟩
  obtain ⟨ni, hni⟩ : ∃ y, Hid (p.is.length = y) := ⟨_, hide rfl⟩
  obtain ⟨F, hF⟩ : ∃ y, Hid (Pl.fault p = y) := ⟨_, hide rfl⟩
  obtain ⟨O, hO⟩ : ∃ y, Hid (Pl.outs p = y) := ⟨_, hide rfl⟩
  rw [hO.out]
  rw [hnv.out, hnc.out, hnl.out, hni.out] at hb0 hrow ⊢
  rw [hnv.out, hnc.out, hnl.out, hni.out, hF.out] at HW
  rw [hF.out]
  have HB0 := hide hb0
  have HRW := hide hrow
  clear hP hZ hb0 hrow
  go_enter Tryd.func10, Tryd.ntmps10
  go_wp2_with fail
  refine HW.out.mono ?_
  rintro e w2 ⟨⟨ev, rfl, hev⟩, hw2⟩
  have HB2 := hide (HB0.out.trans (hw2.mono HB0.out.size))
  have hr2 := HRW.out.below hw2 HRW.out.lt
  have HR2 := hide hr2
  have HEV := hide hev
  clear HW hw2 HB0 HRW hev
  cases F with
  | some x =>
    have hie : IsErr ev := EV.is HEV.out
    have HOE : Hid (O = []) := hide (by rw [← hO.out]; unfold Pl.outs; rw [if_neg (by rw [hF.out]; simp)])
    clear hr2 HR2
    rcases hie with ⟨a, rfl⟩ | ⟨k, rfl⟩
    all_goals
      go_wp2_with fail
      refine bodyPost_ret (results_two rfl _ _) rfl ?_
      refine ⟨⟨_, _, rfl, HEV.out, ?_⟩, HB2.out⟩
      rw [HOE.out]
      exact World.ownsRow_nil _ _ _ _
  | none =>
    obtain rfl : ev = .nilIface := HEV.out
    have hfine := Pl.fine_of hF.out
    have HFI := hide hfine
    have hv1 : nv ≤ 128 := by rw [← hnv.out]; exact hfine.vs
    have hv2 : nc ≤ 64 := by rw [← hnc.out]; exact hfine.cs
    have hv3 : nl ≤ 8 := by rw [← hnl.out]; exact hfine.ls
    have hv4 : ni ≤ 2048 := by rw [← hni.out]; exact hfine.is
    have HV4 := hide hv4
    have c0 : w2.cell? ⟨w.heap.size, 0, none⟩ = some (.int .i64 p.size) := hr2.cell 0
    have hconv : (convert 30 30 (.slice (some ⟨w2.heap.size, 0, none⟩) 2 2)).run Tryd.prog (w2.alloc (.cells #[.int .u8 76, .int .u8 80] 5)) = .ok (.slice (some ⟨w2.heap.size, 0, none⟩) 2 2) (w2.alloc (.cells #[.int .u8 76, .int .u8 80] 5 (2, 3))) := Lib.run_convert_bytes_const (P := Tryd.prog) w2 30 5 #[.int .u8 76, .int .u8 80] 2 2 (by kernel_rfl) (by kernel_rfl)
    have c0' : (w2.alloc (.cells #[.int .u8 76, .int .u8 80] 5 (2, 3))).cell? ⟨w.heap.size, 0, none⟩ = some (.int .i64 p.size) := (hr2.alloc _).cell 0
    obtain ⟨X, hX⟩ : ∃ W, Hid (w2.alloc (.cells #[.int .u8 76, .int .u8 80] 5 (2, 3)) = W) := ⟨_, hide rfl⟩
    have HRB : Hid (Rb X (some ⟨w2.heap.size, 0, none⟩) [76, 80]) := hide ⟨by decide, fun _ => ⟨_, rfl, by rw [← hX.out]; simp, fun i b hi => by
      have hh : X.heap[w2.heap.size]? = some (.cells #[.int .u8 76, .int .u8 80] 5 (2, 3)) := by rw [← hX.out]; exact heap_alloc_new w2 _
      rw [Addr.add_lit, cell_of_row X w2.heap.size _ _ _ _ hh]
      match i, hi with
      | 0, hi => cases hi; rfl
      | 1, hi => cases hi; rfl
      | i + 2, hi => simp at hi⟩⟩
    have HBX : Hid (Below w.heap.size w X) := hide (by rw [← hX.out]; exact HB2.out.alloc HB2.out.size _)
    have HRX : Hid (Has X w.heap.size 27 [.int .i64 p.size, .slice p.V nv p.vc, .slice p.C nc p.cc, .slice p.L nl p.lc, .slice p.K ni p.kc, .int .i64 p.inp, .int .i64 p.out]) := hide (by rw [← hX.out]; exact hr2.alloc _)
    have HC1 := hide (append_full ⟨w2.heap.size, 0, none⟩ [76, 80] p.size X HRB.out rfl)
    clear hfine hr2 HB2 HR2 HEV HRB
    go_wp2_with fail
    rw [hX.out]
    refine HC1.out.mono ?_
    rintro e w3 ⟨v0, rfl, hown3, hg3⟩
    obtain ⟨ld, hhd⟩ : ∃ y, Hid ([76, 80] ++ Pk.le 4 (Pk.num p.size) = y) := ⟨_, hide rfl⟩
    have hhl : Hid (ld.length = 6) := hide (by rw [← hhd.out, List.length_append, Pk.le_length]; rfl)
    have HOW : Hid (w3.ownsRow w.heap.size 5 1 v0 6 (u8s ld)) := hide (by
      rw [← hhd.out, show u8s ([76, 80] ++ Pk.le 4 (Pk.num p.size)) = u8s [76, 80] ++ u8s (Pk.le 4 (Pk.num p.size)) from List.map_append]
      exact own_le2 hown3 HBX.out.size)
    have HB3 : Hid (Below w.heap.size w w3) := hide (HBX.out.grown hg3 HBX.out.size (fun k e => by cases e))
    have HR3 : Hid (Has w3 w.heap.size 27 [.int .i64 p.size, .slice p.V nv p.vc, .slice p.C nc p.cc, .slice p.L nl p.lc, .slice p.K ni p.kc, .int .i64 p.inp, .int .i64 p.out]) := hide (HRX.out.grown hg3 (by simp))
    have HBL := hide (fun (ys : List Nat) (wr : World) (b : Value) (h : Pk.Ap w.heap.size w3 v0 6 (u8s ld) ys wr b) => h.below HOW.out HB3.out (Nat.le_refl _))
    have HP0 := hide HB3.out.size
    have c1 : w3.cell? ⟨w.heap.size, 1, none⟩ = some (.slice p.V nv p.vc) := HR3.out.cell 1
    have HA3 := hide (Pk.Ap.nil HOW.out)
    have HC2 := hide (HA3.out.num HP0.out 2 (nv : Nat) (by simp))
    clear HC1 hown3 hg3 HRX c0 c0' hX hconv HBX
    go_wp2_with fail
    refine HC2.out.mono ?_
    rintro e w4 ⟨b4, rfl, ha4, hg4⟩
    have HR4 := hide (HA3.out.box hg4 HR3.out (by decide))
    have c1 : w4.cell? ⟨w.heap.size, 1, none⟩ = some (.slice p.V nv p.vc) := HR4.out.cell 1
    obtain ⟨y4, hy4⟩ : ∃ y, Hid (Pk.le 2 (Pk.num ((nv : Nat) : Int)) = y) := ⟨_, hide rfl⟩
    have hl4 : Hid (y4.length = 2) := hide (by rw [← hy4.out, Pk.le_length])
    rw [List.nil_append, hy4.out] at ha4
    have HA4 : Hid (Pk.Ap w.heap.size w3 v0 6 (u8s ld) (y4 ++ ((p.vs.map Vw.pl).take 0).flatMap Pl.vbytes) w4 b4) := hide (by rw [List.take_zero, List.flatMap_nil, List.append_nil]; exact ha4)
    have HBV := hide (fun i : Nat => show (((p.vs.map Vw.pl).take i).flatMap Pl.vbytes).length ≤ 2432 from by
      have h1 := flat_bound Pl.vbytes 19 ((p.vs.map Vw.pl).take i) (by
        intro x hx
        obtain ⟨y, hy, rfl⟩ := List.mem_map.1 (List.mem_of_mem_take hx)
        have := HFI.out.d7 y.d (List.mem_append.2 (.inl (List.mem_map.2 ⟨y, hy, rfl⟩)))
        show (Pk.le 4 (Pk.num y.off) ++ Pk.desc y.d.zs y.d.u).length ≤ 19
        rw [List.length_append, Pk.le_length, Pk.desc_length]
        omega)
      have h2 := HFI.out.vs
      rw [List.length_take, List.length_map] at h1
      omega)
    clear HC2 ha4 hg4 HA3 HR3
    go_wp2_with fail
    go_loopw [5, 30] (fun b k wr => ∃ (i : Nat) (u : Value), u = b ∧ i ≤ nv ∧ k = .int .i64 i ∧ Hid (Pk.Ap w.heap.size w3 v0 6 (u8s ld) (y4 ++ ((p.vs.map Vw.pl).take i).flatMap Pl.vbytes) wr u) ∧ Hid (Has wr w.heap.size 27 [.int .i64 p.size, .slice p.V nv p.vc, .slice p.C nc p.cc, .slice p.L nl p.lc, .slice p.K ni p.kc, .int .i64 p.inp, .int .i64 p.out])) (fun _ k _ => nv - (intOf k).toNat)
    case atStart => exact ⟨0, _, rfl, by omega, rfl, HA4, HR4⟩
    case round =>
      clear HA4 HR4 c1
      obtain ⟨i, u, rfl, hi, rfl, HA, HR⟩ := hrel
      by_cases hlt : i < nv
      · have hii : (i : Int) < (nv : Int) := by omega
        obtain ⟨ad, x, hBad, had, hd, c0, c1, c2⟩ := row_vw (HP.out.V.below (HBL.out _ _ _ HA.out)) i (by rw [hnv.out]; exact hlt)
        rw [hBad]
        obtain ⟨ys, hys⟩ : ∃ y, Hid (y4 ++ ((p.vs.map Vw.pl).take i).flatMap Pl.vbytes = y) := ⟨_, hide rfl⟩
        have hyl : Hid (ys.length ≤ 2438) := hide (by
          have h1 := HBV.out i
          have h2 := hl4.out
          rw [← hys.out, List.length_append]
          omega)
        have HNX : Hid (y4 ++ ((p.vs.map Vw.pl).take (i + 1)).flatMap Pl.vbytes = ys ++ Pk.le 4 (Pk.num x.off) ++ Pk.desc x.d.zs x.d.u) := hide (by rw [flat_snoc Pl.vbytes _ i x.pl (by rw [List.getElem?_map, hd.out]; rfl), ← List.append_assoc, hys.out, List.append_assoc]; rfl)
        rw [hys.out] at HA
        have hxd := HFI.out.d7 x.d (List.mem_append.2 (.inl (List.mem_map.2 ⟨x, List.mem_of_getElem? hd.out, rfl⟩)))
        have hxr := (HP.out.vs x (List.mem_of_getElem? hd.out)).d.shp
        have hga := World.grownBy_alloc wr (.cells #[.int .i64 x.off, .slice x.d.P x.d.zs.length x.d.cap, .bool x.d.u] 61) none
        have hA1d := (HA.out.same hga).same (grown_drew (World.grownBy.refl _ none))
        have hB1 : Has (wr.alloc (.cells #[.int .i64 x.off, .slice x.d.P x.d.zs.length x.d.cap, .bool x.d.u] 61)) wr.heap.size 61 [.int .i64 x.off, .slice x.d.P x.d.zs.length x.d.cap, .bool x.d.u] := Has.new wr _ _
        have HR1 := hide ((HR.out.alloc (.cells #[.int .i64 x.off, .slice x.d.P x.d.zs.length x.d.cap, .bool x.d.u] 61)).drewN 1)
        have HB1 := hide (hB1.drewN 1)
        have HC1 := hide (hA1d.num HP0.out 4 x.off (by have := hyl.out; omega))
        have HA1d := hide hA1d
        have q1 : (wr.alloc (.cells #[.int .i64 x.off, .slice x.d.P x.d.zs.length x.d.cap, .bool x.d.u] 61)).drew.cell? ⟨wr.heap.size, 1, none⟩ = some (.slice x.d.P x.d.zs.length x.d.cap) := HB1.out.cell 1
        have q2 : (wr.alloc (.cells #[.int .i64 x.off, .slice x.d.P x.d.zs.length x.d.cap, .bool x.d.u] 61)).drew.cell? ⟨wr.heap.size, 2, none⟩ = some (.bool x.d.u) := HB1.out.cell 2
        have HXD := hide hxd
        have HXR := hide hxr
        clear hga hA1d hB1 had HA HR hxd hxr
        go_wp2_with fail
        clear c0 c1 c2
        go_region_law (first
          | (go_simp; go_at_call 28; refine HC9.out.mono ?_; rintro e wb ⟨b9, rfl, ha9, hg9⟩; have HAb := hide ha9; have HRb := hide (HAa.out.box hg9 HRa.out (by decide)); clear ha9 hg9)
          | (go_simp; go_at_call 27; refine HC1.out.mono ?_; rintro e wa ⟨b8, rfl, ha8, hg8⟩; have HAa := hide ha8; have hba := HA1d.out.box hg8 HB1.out (by decide); have HRa := hide (HA1d.out.box hg8 HR1.out (by decide)); have v1 : wa.cell? ⟨wr.heap.size, 1, none⟩ = some (.slice x.d.P x.d.zs.length x.d.cap) := hba.cell 1; have v2 : wa.cell? ⟨wr.heap.size, 2, none⟩ = some (.bool x.d.u) := hba.cell 2; have HC9 := hide (ha8.desc HP0.out (HBL.out _ _ _ ha8) (Nat.le_refl _) x.d.cap x.d.u HXR.out HXD.out (by have := hyl.out; rw [List.length_append, Pk.le_length]; omega)); clear ha8 hg8 hba))
        all_goals go_ways
        all_goals
          have HLAST : Hid (Pk.Ap w.heap.size w3 v0 6 (u8s ld) (y4 ++ ((p.vs.map Vw.pl).take (i + 1)).flatMap Pl.vbytes) wb b9) := hide (by rw [HNX.out]; exact HAb.out)
          clear HAb HC1 HC9 HA1d HB1 HR1 HAa HRa q1 q2 v1 v2
          go_wp2_with fail
          go_roundw
          case rel => exact ⟨i + 1, _, rfl, by omega, by go_num, HLAST, (by first | exact HRb | (have h := HRb.out; rw [hBad] at h; exact hide h))⟩
          case measure => simp [intOf]; omega
      · obtain rfl : nv = i := by omega
        have ha := HA.out
        rw [List.take_of_length_le (by rw [List.length_map, hnv.out]; exact Nat.le_refl _)] at ha
        obtain ⟨y5, hy5⟩ : ∃ y, Hid (y4 ++ (p.vs.map Vw.pl).flatMap Pl.vbytes = y) := ⟨_, hide rfl⟩
        have hl5 : Hid (y5.length ≤ 2438) := hide (by
          have h1 := HBV.out nv
          have h2 := hl4.out
          rw [List.take_of_length_le (by rw [List.length_map, hnv.out]; exact Nat.le_refl _)] at h1
          rw [← hy5.out, List.length_append]
          omega)
        rw [hy5.out] at ha
        have HA5 := hide ha
        have c2 : wr.cell? ⟨w.heap.size, 2, none⟩ = some (.slice p.C nc p.cc) := HR.out.cell 2
        have HC5 := hide (ha.num HP0.out 2 (nc : Nat) (by have := hl5.out; omega))
        clear ha HA HBV hl4
        go_wp2_with fail
        refine HC5.out.mono ?_
        rintro e w6 ⟨b6, rfl, ha6, hg6⟩
        have HR6 := hide (HA5.out.box hg6 HR.out (by decide))
        have c2 : w6.cell? ⟨w.heap.size, 2, none⟩ = some (.slice p.C nc p.cc) := HR6.out.cell 2
        obtain ⟨y6, hy6⟩ : ∃ y, Hid (y5 ++ Pk.le 2 (Pk.num ((nc : Nat) : Int)) = y) := ⟨_, hide rfl⟩
        have hl6 : Hid (y6.length ≤ 2440) := hide (by have := hl5.out; rw [← hy6.out, List.length_append, Pk.le_length]; omega)
        rw [hy6.out] at ha6
        have HA6 : Hid (Pk.Ap w.heap.size w3 v0 6 (u8s ld) (y6 ++ ((p.cs.map Ten.pl).take 0).flatMap Pl.tbytes) w6 b6) := hide (by rw [List.take_zero, List.flatMap_nil, List.append_nil]; exact ha6)
        have HBT := hide (fun j : Nat => show (((p.cs.map Ten.pl).take j).flatMap Pl.tbytes).length ≤ 4194880 from by
          have h1 := flat_bound Pl.tbytes 65545 ((p.cs.map Ten.pl).take j) (by
            intro x hx
            obtain ⟨y, hy, rfl⟩ := List.mem_map.1 (List.mem_of_mem_take hx)
            exact Tens.bytes_le y.zs y.u y.ds (HFI.out.ok y hy))
          have h2 := HFI.out.cs
          rw [List.length_take, List.length_map] at h1
          omega)
        clear HC5 ha6 hg6 HA5 HR
        go_wp2_with fail
        go_loopw [5, 50] (fun b k wr => ∃ (i : Nat) (u : Value), u = b ∧ i ≤ nc ∧ k = .int .i64 i ∧ Hid (Pk.Ap w.heap.size w3 v0 6 (u8s ld) (y6 ++ ((p.cs.map Ten.pl).take i).flatMap Pl.tbytes) wr u) ∧ Hid (Has wr w.heap.size 27 [.int .i64 p.size, .slice p.V nv p.vc, .slice p.C nc p.cc, .slice p.L nl p.lc, .slice p.K ni p.kc, .int .i64 p.inp, .int .i64 p.out])) (fun _ k _ => nc - (intOf k).toNat)
        case atStart => exact ⟨0, _, rfl, by omega, rfl, HA6, HR6⟩
        case round =>
          obtain ⟨wt, hwt⟩ : ∃ W, W = wr := ⟨_, rfl⟩
          subst hwt
          clear HA6 HR6 c2
          obtain ⟨j, u, rfl, hj, rfl, HA, HR⟩ := hrel
          by_cases hlt2 : j < nc
          · have hjj : (j : Int) < (nc : Int) := by omega
            obtain ⟨ad, x, hBad, had, hd, c0, c1, c2⟩ := row_ten (HP.out.C.below (HBL.out _ _ _ HA.out)) j (by rw [hnc.out]; exact hlt2)
            rw [hBad]
            obtain ⟨ys, hys⟩ : ∃ y, Hid (y6 ++ ((p.cs.map Ten.pl).take j).flatMap Pl.tbytes = y) := ⟨_, hide rfl⟩
            have hyl : Hid (ys.length ≤ 4197320) := hide (by
              have h1 := HBT.out j
              have h2 := hl6.out
              rw [← hys.out, List.length_append]
              omega)
            have HNX : Hid (y6 ++ ((p.cs.map Ten.pl).take (j + 1)).flatMap Pl.tbytes = ys ++ Tens.bytes x.zs x.u x.ds) := hide (by rw [flat_snoc Pl.tbytes _ j x.pl (by rw [List.getElem?_map, hd.out]; rfl), ← List.append_assoc, hys.out]; rfl)
            rw [hys.out] at HA
            have hxi := HP.out.cs x (List.mem_of_getElem? hd.out)
            have hga := World.grownBy_alloc wt (.cells #[.slice x.P x.zs.length x.cap, .bool x.u, .slice x.D x.ds.length x.dcap] 70) none
            have hA1 := HA.out.same hga
            have HA1 := hide hA1
            have HR1 := hide (HR.out.alloc (.cells #[.slice x.P x.zs.length x.cap, .bool x.u, .slice x.D x.ds.length x.dcap] 70))
            have hbl := HBL.out _ _ _ hA1
            have HTB := hide (tbytes_c x.zs x.ds x.P x.D x.cap x.dcap x.u ah am ar _ (hxi.shp.below hbl) (hxi.dat.below hbl) hxi.ls hxi.ld (HZ.out.below hbl))
            have HTL := hide (Tens.bytes_le x.zs x.u x.ds (HFI.out.ok x (List.mem_of_getElem? hd.out)))
            obtain ⟨tb, htb⟩ : ∃ y, Hid (Tens.bytes x.zs x.u x.ds = y) := ⟨_, hide rfl⟩
            have HTLT : Hid (∀ q ∈ tb, q < 256) := hide (by rw [← htb.out]; exact Tens.bytes_lt _ _ _)
            rw [htb.out] at HTB HTL HNX
            clear hga hA1 hbl hxi had HA HR
            go_wp2_with fail
            refine HTB.out.mono ?_
            rintro e wu ⟨⟨vt, rfl, hot⟩, hbt⟩
            have hAu := HA1.out.low hbt
            have HAu := hide hAu
            have HRu := hide (HR1.out.below hbt HR1.out.lt)
            obtain ⟨At, ct, rfl, htl, -, -, hrt⟩ := own_rb hot HTLT.out
            have HOu := hide hAu.own
            have HRT := hide hrt
            have hs3 := hide (Nat.le_trans HP0.out hAu.grown.size)
            have hn3 := hide (show (6 + ys.length) + tb.length ≤ 1000000000000 by have := hyl.out; have := HTL.out; omega)
            clear HTB HA1 HR1 hbt hot hrt c0 c1 c2 hAu
            go_wp2_with (at_builtin; refine wpList_append_bs rfl (.tmp 54) (.tmp 56) rfl w.heap.size _ (6 + ys.length) _ rfl HOu.out At tb.length ct tb rfl (hide rfl) HRT.out hn3.out hs3.out ?_)
            intro v' w' h1 h2 h3
            have HAx : Hid (Pk.Ap w.heap.size w3 v0 6 (u8s ld) (ys ++ tb) w' v') := hide (HAu.out.then_ (zs := tb) ⟨by rw [List.append_assoc]; exact h1, h2, h3.imp id (fun e => ⟨_, e, Nat.le_refl _⟩)⟩ rfl)
            have HRx := hide (HAu.out.box h2 HRu.out (by decide))
            have HLAST : Hid (Pk.Ap w.heap.size w3 v0 6 (u8s ld) (y6 ++ ((p.cs.map Ten.pl).take (j + 1)).flatMap Pl.tbytes) w' v') := hide (by rw [HNX.out]; exact HAx.out)
            clear h1 h2 h3 HAu HOu HRT hs3 hn3 HAx HRu
            go_wp2_with fail
            go_roundw
            case rel => exact ⟨j + 1, _, rfl, by omega, by go_num, HLAST, (by first | exact HRx | (have h := HRx.out; rw [hBad] at h; exact hide h))⟩
            case measure => simp [intOf]; omega
          · obtain rfl : nc = j := by omega
            have ha := HA.out
            rw [List.take_of_length_le (by rw [List.length_map, hnc.out]; exact Nat.le_refl _)] at ha
            obtain ⟨y7, hy7⟩ : ∃ y, Hid (y6 ++ (p.cs.map Ten.pl).flatMap Pl.tbytes = y) := ⟨_, hide rfl⟩
            have hl7 : Hid (y7.length ≤ 4197320) := hide (by
              have h1 := HBT.out nc
              have h2 := hl6.out
              rw [List.take_of_length_le (by rw [List.length_map, hnc.out]; exact Nat.le_refl _)] at h1
              rw [← hy7.out, List.length_append]
              omega)
            rw [hy7.out] at ha
            have HA7 := hide ha
            have c3 : wt.cell? ⟨w.heap.size, 3, none⟩ = some (.slice p.L nl p.lc) := HR.out.cell 3
            have HC7 := hide (ha.num HP0.out 2 (nl : Nat) (by have := hl7.out; omega))
            clear ha HA HBT
            go_wp2_with fail
            refine HC7.out.mono ?_
            rintro e w8 ⟨b8, rfl, ha8, hg8⟩
            have HR8 := hide (HA7.out.box hg8 HR.out (by decide))
            have c3 : w8.cell? ⟨w.heap.size, 3, none⟩ = some (.slice p.L nl p.lc) := HR8.out.cell 3
            obtain ⟨y8, hy8⟩ : ∃ y, Hid (y7 ++ Pk.le 2 (Pk.num ((nl : Nat) : Int)) = y) := ⟨_, hide rfl⟩
            have hl8 : Hid (y8.length ≤ 4197322) := hide (by have := hl7.out; rw [← hy8.out, List.length_append, Pk.le_length]; omega)
            rw [hy8.out] at ha8
            have HA8 : Hid (Pk.Ap w.heap.size w3 v0 6 (u8s ld) (y8 ++ ((p.ls.map Dsc.pl).take 0).flatMap Pl.dbytes) w8 b8) := hide (by rw [List.take_zero, List.flatMap_nil, List.append_nil]; exact ha8)
            have HBD := hide (fun j : Nat => show (((p.ls.map Dsc.pl).take j).flatMap Pl.dbytes).length ≤ 120 from by
              have h1 := flat_bound Pl.dbytes 15 ((p.ls.map Dsc.pl).take j) (by
                intro x hx
                obtain ⟨y, hy, rfl⟩ := List.mem_map.1 (List.mem_of_mem_take hx)
                have := HFI.out.d7 y (List.mem_append.2 (.inr hy))
                show (Pk.desc y.zs y.u).length ≤ 15
                rw [Pk.desc_length]
                omega)
              have h2 := HFI.out.ls
              rw [List.length_take, List.length_map] at h1
              omega)
            clear HC7 ha8 hg8 HA7 HR
            go_wp2_with fail
            go_loopw [5, 67] (fun b k wr => ∃ (i : Nat) (u : Value), u = b ∧ i ≤ nl ∧ k = .int .i64 i ∧ Hid (Pk.Ap w.heap.size w3 v0 6 (u8s ld) (y8 ++ ((p.ls.map Dsc.pl).take i).flatMap Pl.dbytes) wr u) ∧ Hid (Has wr w.heap.size 27 [.int .i64 p.size, .slice p.V nv p.vc, .slice p.C nc p.cc, .slice p.L nl p.lc, .slice p.K ni p.kc, .int .i64 p.inp, .int .i64 p.out])) (fun _ k _ => nl - (intOf k).toNat)
            case atStart => exact ⟨0, _, rfl, by omega, rfl, HA8, HR8⟩
            case round =>
              obtain ⟨wd, hwd⟩ : ∃ W, W = wr := ⟨_, rfl⟩
              subst hwd
              clear HA8 HR8 c3
              obtain ⟨k, u, rfl, hk, rfl, HA, HR⟩ := hrel
              by_cases hlt3 : k < nl
              · have hkk : (k : Int) < (nl : Int) := by omega
                obtain ⟨ad, x, hBad, had, hd, c0, c1⟩ := row_dsc (HP.out.L.below (HBL.out _ _ _ HA.out)) k (by rw [hnl.out]; exact hlt3)
                rw [hBad]
                obtain ⟨ys, hys⟩ : ∃ y, Hid (y8 ++ ((p.ls.map Dsc.pl).take k).flatMap Pl.dbytes = y) := ⟨_, hide rfl⟩
                have hyl : Hid (ys.length ≤ 4197442) := hide (by
                  have h1 := HBD.out k
                  have h2 := hl8.out
                  rw [← hys.out, List.length_append]
                  omega)
                have HNX : Hid (y8 ++ ((p.ls.map Dsc.pl).take (k + 1)).flatMap Pl.dbytes = ys ++ Pk.desc x.zs x.u) := hide (by rw [flat_snoc Pl.dbytes _ k x.pl (by rw [List.getElem?_map, hd.out]; rfl), ← List.append_assoc, hys.out]; rfl)
                rw [hys.out] at HA
                have hga := World.grownBy_alloc wd (.cells #[.slice x.P x.zs.length x.cap, .bool x.u] 59) none
                have hA1 := HA.out.same hga
                have HA1 := hide hA1
                have HR1 := hide (HR.out.alloc (.cells #[.slice x.P x.zs.length x.cap, .bool x.u] 59))
                have HCD := hide (hA1.desc HP0.out (HBL.out _ _ _ hA1) (Nat.le_refl _) x.cap x.u (HP.out.ls x (List.mem_of_getElem? hd.out)).shp (HFI.out.d7 x (List.mem_append.2 (.inr (List.mem_of_getElem? hd.out)))) (by have := hyl.out; omega))
                clear hga hA1 had HA HR
                go_wp2_with fail
                refine HCD.out.mono ?_
                rintro e we ⟨b9, rfl, ha9, hg9⟩
                have HLAST : Hid (Pk.Ap w.heap.size w3 v0 6 (u8s ld) (y8 ++ ((p.ls.map Dsc.pl).take (k + 1)).flatMap Pl.dbytes) we b9) := hide (by rw [HNX.out]; exact ha9)
                have HRe := hide (HA1.out.box hg9 HR1.out (by decide))
                clear ha9 hg9 HCD HA1 HR1 c0 c1
                go_wp2_with fail
                go_roundw
                case rel => exact ⟨k + 1, _, rfl, by omega, by go_num, HLAST, (by first | exact HRe | (have h := HRe.out; rw [hBad] at h; exact hide h))⟩
                case measure => simp [intOf]; omega
              · obtain rfl : nl = k := by omega
                have ha := HA.out
                rw [List.take_of_length_le (by rw [List.length_map, hnl.out]; exact Nat.le_refl _)] at ha
                obtain ⟨y9, hy9⟩ : ∃ y, Hid (y8 ++ (p.ls.map Dsc.pl).flatMap Pl.dbytes = y) := ⟨_, hide rfl⟩
                have hl9 : Hid (y9.length ≤ 4197442) := hide (by
                  have h1 := HBD.out nl
                  have h2 := hl8.out
                  rw [List.take_of_length_le (by rw [List.length_map, hnl.out]; exact Nat.le_refl _)] at h1
                  rw [← hy9.out, List.length_append]
                  omega)
                rw [hy9.out] at ha
                have HA9 := hide ha
                have c4 : wd.cell? ⟨w.heap.size, 4, none⟩ = some (.slice p.K ni p.kc) := HR.out.cell 4
                have HC9 := hide (ha.num HP0.out 2 (ni : Nat) (by have := hl9.out; omega))
                clear ha HA HBD
                go_wp2_with fail
                refine HC9.out.mono ?_
                rintro e wf ⟨bf, rfl, haf, hgf⟩
                have HRf := hide (HA9.out.box hgf HR.out (by decide))
                have c4 : wf.cell? ⟨w.heap.size, 4, none⟩ = some (.slice p.K ni p.kc) := HRf.out.cell 4
                obtain ⟨ya, hya⟩ : ∃ y, Hid (y9 ++ Pk.le 2 (Pk.num ((ni : Nat) : Int)) = y) := ⟨_, hide rfl⟩
                have hla : Hid (ya.length ≤ 4197444) := hide (by have := hl9.out; rw [← hya.out, List.length_append, Pk.le_length]; omega)
                rw [hya.out] at haf
                have HAf := hide haf
                have HCC := hide (appendcode_c w.heap.size bf (6 + ya.length) (u8s ld ++ u8s ya) p.is p.K p.kc w wf (HBL.out _ _ _ haf) (Nat.le_refl _) (HBL.out _ _ _ haf).size haf.own HP.out.K HP.out.is HFI.out.n8 HFI.out.is (by have := hla.out; omega))
                rw [hni.out] at HCC
                clear HC9 haf hgf HA9 HR
                go_wp2_with fail
                refine HCC.out.mono ?_
                rintro e wg ⟨bg, rfl, hag, hgg⟩
                obtain ⟨cd, hcd⟩ : ∃ y, Hid (Pl.code (p.is.map Ins.pl) = y) := ⟨_, hide rfl⟩
                have hcl : Hid (cd.length ≤ 161792) := hide (by
                  have h1 := Pl.code_len (p.is.map Ins.pl) (by
                    intro x hx
                    obtain ⟨y, hy, rfl⟩ := List.mem_map.1 hx
                    exact HFI.out.n8 y hy)
                  have h2 := HFI.out.is
                  rw [hcd.out, List.length_map] at h1
                  omega)
                rw [hcd.out] at hag
                have hag2 := HAf.out.then_ (show Pk.App _ _ _ (6 + ya.length + cd.length) _ _ _ from hag) rfl
                have HRg := hide (HAf.out.box hgg HRf.out (by decide))
                obtain ⟨yb, hyb⟩ : ∃ y, Hid (ya ++ cd = y) := ⟨_, hide rfl⟩
                have hlb : Hid (yb.length ≤ 4359236) := hide (by have := hla.out; have := hcl.out; rw [← hyb.out, List.length_append]; omega)
                rw [hyb.out] at hag2
                have HAd := hide (hag2.same (grown_drew (World.grownBy.refl _ none)))
                have HBd := hide (HRg.out.drewN 1)
                have s5 : wg.cell? ⟨w.heap.size, 5, none⟩ = some (.int .i64 p.inp) := HRg.out.cell 5
                have s6 : wg.cell? ⟨w.heap.size, 6, none⟩ = some (.int .i64 p.out) := HRg.out.cell 6
                have t5 : wg.drew.cell? ⟨w.heap.size, 5, none⟩ = some (.int .i64 p.inp) := HRg.out.cell 5
                have t6 : wg.drew.cell? ⟨w.heap.size, 6, none⟩ = some (.int .i64 p.out) := HRg.out.cell 6
                have HC1 := hide (HAd.out.num HP0.out 4 p.inp (by have := hlb.out; omega))
                clear HCC hag hgg hag2 HAf HRf HRg
                go_wp2_with fail
                go_region_law (first
                  | (go_simp; go_at_call 27; refine HC9.out.mono ?_; rintro e wq ⟨b9, rfl, ha9, hg9⟩; have HAq := hide ha9; clear ha9 hg9)
                  | (go_simp; go_at_call 27; refine HC1.out.mono ?_; rintro e wp ⟨b8, rfl, ha8, hg8⟩; have hb8 := HAd.out.box hg8 HBd.out (by decide); have v6 : wp.cell? ⟨w.heap.size, 6, none⟩ = some (.int .i64 p.out) := hb8.cell 6; have HC9 := hide (ha8.num HP0.out 4 p.out (by have := hlb.out; rw [List.length_append, Pk.le_length]; omega)); clear ha8 hg8 hb8))
                all_goals go_ways
                all_goals
                  have HEQ : Hid (O = ld ++ (yb ++ Pk.le 4 (Pk.num p.inp) ++ Pk.le 4 (Pk.num p.out))) := hide (by
                    rw [← hO.out]
                    unfold Pl.outs
                    rw [if_pos hF.out]
                    show [76, 80] ++ Pl.body p.pl = _
                    unfold Pl.body Pn.pl
                    dsimp only
                    rw [List.length_map, List.length_map, List.length_map, List.length_map, hnv.out, hnc.out, hnl.out, hni.out, ← hhd.out, ← hyb.out, ← hcd.out, ← hya.out, ← hy9.out, ← hy8.out, ← hy7.out, ← hy6.out, ← hy5.out, ← hy4.out]
                    simp only [List.append_assoc])
                  have HOWN : Hid (wq.ownsRow w.heap.size 5 1 b9 O.length (u8s O)) := hide (by
                    have h := HAq.out.own
                    rw [HEQ.out, List.length_append, hhl.out, show u8s (ld ++ (yb ++ Pk.le 4 (Pk.num p.inp) ++ Pk.le 4 (Pk.num p.out))) = u8s ld ++ u8s (yb ++ Pk.le 4 (Pk.num p.inp) ++ Pk.le 4 (Pk.num p.out)) from List.map_append]
                    exact h)
                  have HBQ := hide (HBL.out _ _ _ HAq.out)
                  clear HAq HC1 HC9 HAd HBd s5 s6 t5 t6 v6
                  go_wp2_with fail
                  refine bodyPost_ret (results_two rfl _ _) rfl ?_
                  exact ⟨⟨_, _, rfl, rfl, HOWN.out⟩, HBQ.out⟩
end Go.Proofs.YthjnkaikjjjceaaDoor
