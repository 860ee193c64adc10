/-
  plan.Read, walked. By an AI agent. No person has read it.
-/
import Derived.Test.YthjnkaikjjjceaaDoorPkPlnI
namespace Go.Proofs.YthjnkaikjjjceaaDoor
open Go.RowKit
section
variable {W : World} {A : Option Addr} {bs : List Nat} {cap : Nat} {es : List Addr} {ae am ak : Addr}
set_option maxRecDepth 100000 in
set_option maxHeartbeats 8000000 in
theorem read_m (hX : Rx W A bs cap es ae am ak) (ah ar : Addr) (hes : TErrs es ah am ar ae ak) :
    Calls Tryd.prog 11 #[.slice A bs.length cap] W fun e w' => ReadIs W w' es bs e ∧ Below W.heap.size W w' := by
  have HX := hide hX
  obtain ⟨X0, hX0⟩ : ∃ X0, Hid (W.alloc (Obj.cells PlP.zeros.toArray 27) = X0) := ⟨_, hide rfl⟩
  obtain ⟨X1, hX1⟩ : ∃ X1, Hid (X0.alloc (Obj.cells #[.slice A bs.length cap, .int .i64 0, .nilIface] 118) = X1) := ⟨_, hide rfl⟩
  have hs0 : Hid (X0.heap.size = W.heap.size + 1) := hide (by rw [← hX0.out]; simp)
  have HR1 : Hid (Has X1 W.heap.size 27 PlP.zeros) := hide (by rw [← hX1.out, ← hX0.out]; exact (Has.new W 27 PlP.zeros).alloc _)
  have HB1 : Hid (Below W.heap.size W X1) := hide (by rw [← hX1.out, ← hX0.out]; exact ((Below.refl _ W).alloc (Nat.le_refl _) _).alloc (by simp) _)
  have HD1 : Hid (RdB X1.heap.size X1 (W.heap.size + 1) A bs cap es ⟨0, none⟩) := hide (by
    rw [← hs0.out, ← hX1.out]
    exact ⟨Nat.zero_le _, .nilIface, Has.new X0 118 [.slice A bs.length cap, .int .i64 ((0 : Nat) : Int), .nilIface], rfl⟩)
  have HRD := hide (read_c A bs.length cap X0)
  rw [hs0.out, hX1.out] at HRD
  have HPC := hide (piece_m HX.out _ (W.heap.size + 1) 2 _ X1 (by omega) (by omega) (Nat.le_succ _) HB1.out HD1.out)
  obtain ⟨cs, hcs⟩ : ∃ cs, Hid ((Rs.piece bs 2 ⟨0, none⟩).1 = cs) := ⟨_, hide rfl⟩
  obtain ⟨s0, hs0'⟩ : ∃ s, Hid ((Rs.piece bs 2 ⟨0, none⟩).2 = s) := ⟨_, hide rfl⟩
  have hcb : Hid (∀ b ∈ cs, b < 256) := hide (by rw [← hcs.out]; exact Rs.piece_lt bs 2 _ hX.rb.1)
  have hhd : Hid (Pl.head bs = if cs = [76, 80] then s0 else s0.fail (some 0, 2)) := hide (by unfold Pl.head; rw [hcs.out, hs0'.out])
  rw [hcs.out, hs0'.out] at HPC
  have HDR : Hid (∀ w2 : World, RdB X1.heap.size w2 (W.heap.size + 1) A bs cap es s0 → X1.grownBy w2 (some (W.heap.size + 1)) → Has w2 W.heap.size 27 PlP.zeros ∧ RdB w2.heap.size w2 (W.heap.size + 1) A bs cap es s0 ∧ Below W.heap.size W w2) := hide (fun w2 hr hg =>
    ⟨HR1.out.grown hg (by intro e; injection e; omega), hr.tight, HB1.out.grown hg HB1.out.size (fun k e => by cases e; omega)⟩)
  -- behind the first two bytes
  have REST : Hid (∀ w2 : World, Has w2 W.heap.size 27 PlP.zeros → RdB w2.heap.size w2 (W.heap.size + 1) A bs cap es (Pl.head bs) → Below W.heap.size W w2 →
      Calls Tryd.prog 35 #[.pointer (some ⟨W.heap.size + 1, 0, none⟩)] w2 fun e w' => e = .returned (.int .i64 (Pl.p1 bs).1) ∧ Hid (PS W (w'.alloc (Obj.cells (Pn.of (Pl.p1 bs).1).vals.toArray 27)) w'.heap.size A bs cap es (Pn.of (Pl.p1 bs).1) (Pl.p1 bs).2)) := hide (by
    intro w2 h1 h2 h3
    refine (signed_m HX.out _ (W.heap.size + 1) _ w2 (Nat.le_succ _) h3 h2).mono ?_
    rintro e w' ⟨rfl, h4, h5⟩
    have hlt := h4.lt
    have h3' := h3.grown h5 h3.size (fun k e => by cases e; omega)
    refine ⟨rfl, hide ⟨(h1.grown h5 (by intro e; injection e; omega)).alloc _, Has.new _ _ _, (h4.grown (World.grownBy_alloc w' _ none) (fun k e => by cases e)).tight, Pw.of _ _ _ _, h3'.alloc h3'.size _, hlt⟩⟩)
  clear hX HR1 HD1 HB1 hs0'
  have hpz : (Pn.of (Pl.p1 bs).1).vals = [.int .i64 (Pl.p1 bs).1, .slice none 0 0, .slice none 0 0, .slice none 0 0, .slice none 0 0, .int .i64 0, .int .i64 0] := rfl
  rw [hpz] at REST
  clear hpz
  have hX0' : Hid (W.alloc (Obj.cells #[.int .i64 0, .slice none 0 0, .slice none 0 0, .slice none 0 0, .slice none 0 0, .int .i64 0, .int .i64 0] 27) = X0) := hX0
  clear hX0
  obtain ⟨z, hz⟩ : ∃ z, Hid ((Pl.p1 bs).1 = z) := ⟨_, hide rfl⟩
  rw [hz.out] at REST
  go_enter Tryd.func11, Tryd.ntmps11
  go_wp2_with fail
  rw [hX0'.out]
  refine HRD.out.mono ?_
  rintro e w1 ⟨rfl, rfl⟩
  clear HRD hX0' hX1 hs0
  go_wp2_with fail
  refine HPC.out.mono ?_
  rintro e w2 ⟨⟨A2, c2, rfl, hc2, hrb2⟩, hr2, hg2⟩
  obtain ⟨hR2, hD2, hB2⟩ := HDR.out w2 hr2 hg2
  have HR2 := hide hR2
  have HD2 := hide hD2
  have HB2 := hide hB2
  have hcv := text_of hrb2 c2
  clear hr2 hg2 hR2 hD2 hB2 HDR HPC hrb2 hc2
  have NEG : Hid (cs ≠ [76, 80] → w2.cell? ⟨0, 0, none⟩ = some (errv ak) ∧ Calls Tryd.prog 33 #[.pointer (some ⟨W.heap.size + 1, 0, none⟩), .iface 119 (.pointer (some ⟨w2.heap.size, 0, none⟩))] (w2.alloc (Obj.cells #[.int .i64 0, errv ak] 122)) fun e w' => (∃ r, e = .returned r) ∧ Has w' W.heap.size 27 PlP.zeros ∧ RdB w'.heap.size w' (W.heap.size + 1) A bs cap es (Pl.head bs) ∧ Below W.heap.size W w') := hide (by
    intro hne
    rw [if_neg hne] at hhd
    refine ⟨((HX.out.at_ HB2.out).2.2.2 2 _ ak rfl HX.out.ik).1, ?_⟩
    have hA2 : Has (w2.alloc (Obj.cells #[.int .i64 ((0 : Nat) : Int), errv ak] 122)) w2.heap.size 122 [.int .i64 ((0 : Nat) : Int), errv ak] := Has.new w2 _ _
    have hG := World.grownBy_alloc w2 (Obj.cells #[.int .i64 ((0 : Nat) : Int), errv ak] 122) none
    refine (fail_m (B := (w2.alloc (Obj.cells #[.int .i64 ((0 : Nat) : Int), errv ak] 122)).heap.size) (some 0, 2) _ ⟨ak, w2.heap.size, HX.out.ik, rfl, hA2.lt, hA2⟩ ((HD2.out.grown hG (fun k e => by cases e)).mono (by simp))).mono ?_
    rintro e w' ⟨hr, h1, h2⟩
    refine ⟨hr, (HR2.out.alloc _).grown h2 (by intro e; injection e; omega), by rw [hhd.out]; exact h1.tight, (HB2.out.alloc HB2.out.size _).grown h2 (by have := HB2.out.size; simp; omega) (fun k e => by cases e; omega)⟩)
  have HAT := hide (at_of ak 0 w2)
  have XNE : Hid (cs ≠ [76, 80] → ¬ (ByteArray.mk (cs.map UInt8.ofNat).toArray) = ⟨#[76, 80]⟩) := hide (by
    intro hne h
    refine hne (text_inj cs [76, 80] hcb.out (by decide) ?_)
    rw [h]
    rfl)
  by_cases hLP : cs = [76, 80]
  all_goals first
    | (subst hLP
       rw [if_pos rfl] at hhd
       rw [← hhd.out] at HD2
       have HS := hide (REST.out w2 HR2.out HD2.out HB2.out)
       have hcv : (convert 30 9 (.slice A2 2 c2)).run Tryd.prog w2 = .ok (.string ⟨#[76, 80]⟩) w2 := hcv
       clear HR2 HD2 HB2 REST hcs hcb NEG XNE HAT
       go_wp2_with fail
       refine HS.out.mono ?_
       rintro e w3 ⟨rfl, hp3⟩
       clear HS hcv hhd)
    | (obtain ⟨ck, HF⟩ := NEG.out hLP
       have HFF := hide HF
       have hxn := XNE.out hLP
       have hcmp := string_ne (ByteArray.mk (cs.map UInt8.ofNat).toArray) ⟨#[76, 80]⟩ hxn
       have hgu := string_guard (ByteArray.mk (cs.map UInt8.ofNat).toArray) ⟨#[76, 80]⟩
       obtain ⟨X, hX⟩ : ∃ X, Hid (Value.string (ByteArray.mk (cs.map UInt8.ofNat).toArray) = X) := ⟨_, hide rfl⟩
       rw [hX.out] at hcv hcmp hgu
       clear HR2 HD2 HB2 hcs hcb NEG XNE hLP HF hhd hX hxn
       go_wp2_with fail
       refine HAT.out.mono ?_
       rintro e w3 ⟨rfl, hw3⟩
       rw [← hw3] at HFF
       clear HAT hw3 ck
       go_wp2_with fail
       refine HFF.out.mono ?_
       rintro e w4 ⟨⟨r, rfl⟩, h1, h2, h3⟩
       have HS := hide (REST.out w4 h1 h2 h3)
       clear HFF h1 h2 h3 REST
       go_wp2_with fail
       refine HS.out.mono ?_
       rintro e w3 ⟨rfl, hp3⟩
       clear HS hcv hcmp hgu)
  all_goals
    obtain ⟨b, hb⟩ : ∃ b, Hid (w3.heap.size = b) := ⟨_, hide rfl⟩
    obtain ⟨X3, hX3⟩ : ∃ X, Hid (w3.alloc (Obj.cells #[.int .i64 z, .slice none 0 0, .slice none 0 0, .slice none 0 0, .slice none 0 0, .int .i64 0, .int .i64 0] 27) = X) := ⟨_, hide rfl⟩
    obtain ⟨s1, hs1⟩ : ∃ s, Hid ((Pl.p1 bs).2 = s) := ⟨_, hide rfl⟩
    have hp4 : PS W X3 b A bs cap es (Pn.of z) s1 := by
      have h := hp3.out
      rw [hs1.out, hb.out] at h
      rw [← hX3.out]
      exact h
    have e2 : (s1.count bs 2 128 3) = Pl.p2 bs := by rw [← hs1.out]; rfl
    obtain ⟨cm, HC⟩ := hp4.count HX.out 128
    rw [e2] at HC
    obtain ⟨n1, hn1⟩ : ∃ n, Hid ((Pl.p2 bs).1 = n) := ⟨_, hide rfl⟩
    obtain ⟨s2, hs2⟩ : ∃ s, Hid ((Pl.p2 bs).2 = s) := ⟨_, hide rfl⟩
    have hn1l : n1 ≤ 128 := by rw [← hn1.out, ← e2]; exact Rs.count_le _ _ _ _ _
    rw [hn1.out, hs2.out] at HC
    have HCC := hide HC
    rw [← hX3.out] at cm
    clear e2 HC hp3 hp4
    go_wp2_with fail
    rw [hb.out, hX3.out]
    refine HCC.out.mono ?_
    rintro e x4 ⟨rfl, hp4⟩
    have HP4 := hide (show PS W x4 b A bs cap es (Pn.p1 z none [] 0) s2 from hp4)
    clear HCC hX3 cm hp4 hb
    obtain ⟨iv, hiv, hiv0, hiv1, hiv2⟩ := viewinfo
    have HIV := hide hiv
    have HIV0 := hide hiv0
    have HIV1 := hide hiv1
    have HIV2 := hide hiv2
    have HUV := hide uvs
    clear hiv hiv0 hiv1 hiv2
    go_wp2_with fail
    go_loopw [29] (fun k wr => ∃ (i : Nat) (V : Option Addr) (vs : List Vw) (vc : Nat), i ≤ n1 ∧ k = .int .i64 i ∧ Hid (PS W wr b A bs cap es (Pn.p1 z V vs vc) (Rs.rep (Rs.view bs) i s2).2) ∧ Hid (vs.map Vw.pl = (Rs.rep (Rs.view bs) i s2).1) ∧ Hid (vs.length = i)) (fun k _ => n1 - (intOf k).toNat)
    case atStart => exact ⟨0, none, [], 0, by omega, rfl, HP4, hide rfl, hide rfl⟩
    case round =>
      clear HP4
      obtain ⟨i, V, vs, vc, hi, rfl, HP, HV, HL⟩ := hrel
      by_cases hin : i < n1
      · have hii : (i : Int) < (n1 : Int) := by omega
        obtain ⟨t0, ht0⟩ : ∃ s, Hid ((Rs.rep (Rs.view bs) i s2).2 = s) := ⟨_, hide rfl⟩
        rw [ht0.out] at HP
        have HPd := hide (HP.out.same (grown_drew (World.grownBy.refl wr none)))
        have HSG := hide (HPd.out.signed HX.out)
        have c0 : wr.cell? ⟨b, 1, none⟩ = some (.slice V vs.length vc) := HP.out.c 1
        have c0d : wr.drew.cell? ⟨b, 1, none⟩ = some (.slice V vs.length vc) := HPd.out.c 1
        rw [HL.out] at c0 c0d
        have HBI := hide (show i + 1 ≤ maxLen by unfold maxLen; omega)
        have HBY := hide (show (i + 1) * 40 ≤ 140737488355328 by omega)
        clear HP HPd
        go_wp2_with fail
        go_region_law (first
          | (go_simp; go_at_call 35; refine HSG.out.mono ?_; rintro e wa ⟨rfl, hpa⟩; have HPA := hide hpa; have ca : wa.cell? ⟨b, 1, none⟩ = some (.slice V vs.length vc) := hpa.c 1; rw [HL.out] at ca; have HDS := hide (hpa.desc HX.out); obtain ⟨za, hza⟩ : ∃ y, Hid ((t0.signed bs).1 = y) := ⟨_, hide rfl⟩; rw [hza.out]; clear hpa)
          | (go_simp; go_at_call 37; refine HDS.out.mono ?_; rintro e wd ⟨⟨d, rfl, hd1, hd2⟩, hpd⟩; have HPD := hide hpd; have cd : wd.cell? ⟨b, 1, none⟩ = some (.slice V vs.length vc) := hpd.c 1; rw [HL.out] at cd; rw [show d.vals.toArray = #[.slice d.P d.zs.length d.cap, .bool d.u] from rfl]; have hga := World.grownBy_alloc wd (Obj.cells #[.int .i64 za, .slice d.P d.zs.length d.cap, .bool d.u] 61) none; have hpe := hpd.same hga; have HPE := hide hpe; have ce : (wd.alloc (Obj.cells #[.int .i64 za, .slice d.P d.zs.length d.cap, .bool d.u] 61)).cell? ⟨b, 1, none⟩ = some (.slice V vs.length vc) := hpe.c 1; rw [HL.out] at ce; have HOW : Hid ((wd.alloc (Obj.cells #[.int .i64 za, .slice d.P d.zs.length d.cap, .bool d.u] 61)).ownsRow W.heap.size 61 3 (.slice V i vc) i (vs.flatMap Vw.vals)) := (hide (by have h := hpe.pw.V; rw [← HL.out]; exact h)); have HNW := hide (new_cells wd 61 (Vw.vals ⟨za, d⟩)); have HBS := hide hpe.bl.size; have HIO := hide (show Vw.Io 0 (wd.alloc (Obj.cells #[.int .i64 za, .slice d.P d.zs.length d.cap, .bool d.u] 61)) ⟨za, d⟩ from Vw.Io.grown (v := ⟨za, d⟩) hd2 hga (NotT.none _ _)); have HKY : Hid ((Rs.view bs i t0).1 = Vw.pl ⟨za, d⟩) := (hide (by unfold Rs.view Vw.pl; rw [hza.out, ← hd1]; rfl)); clear hpd hga hpe hd1 hd2)
          | (refine step_append_at rfl (.tmp 32) (.tmp 38) 22 rfl W.heap.size 61 iv (.agg #[.int .i64 0, .slice none 0 0, .bool false]) 3 40 HUV.out HIV.out HIV0.out HIV1.out HIV2.out rfl (by decide) (.slice V i vc) i (vs.flatMap Vw.vals) (by first | rfl | simp [Act.eval]) HOW.out ⟨wd.heap.size, 0, none⟩ 1 1 (Vw.vals ⟨za, d⟩) (by first | rfl | simp [Act.eval]) rfl HNW.out (Vw.one _) HBI.out HBY.out HBS.out (fun v' w' h1 h2 h3 => ?_); obtain ⟨P2, c9, hv', -⟩ := own_row h1; subst hv'; obtain ⟨q1, q2, q3, q4⟩ := PS.addV ⟨za, d⟩ HPE.out HIO.out HL.out h1 h2; clear h1 h2 h3))
        all_goals go_ways
        all_goals
          go_wp2_with fail
          go_roundw
          case measure => simp [intOf]; omega
          case rel => exact ⟨i + 1, P2, vs ++ [⟨za, d⟩], c9, by omega, by go_num, hide (by rw [Rs.rep_succ2, ht0.out]; exact q4.out), hide (by rw [List.map_append, HV.out, Rs.rep_succ1, ht0.out, HKY.out]; rfl), hide (by rw [List.length_append, HL.out]; rfl)⟩
      · obtain rfl : i = n1 := by omega
        obtain ⟨s3, hs3⟩ : ∃ s, Hid ((Pl.p3 bs).2 = s) := ⟨_, hide rfl⟩
        have e3 : Pl.p3 bs = Rs.rep (Rs.view bs) i s2 := by unfold Pl.p3; rw [hn1.out, hs2.out]
        rw [← e3] at HV
        rw [← e3, hs3.out] at HP
        have HV1 := HV
        clear HV e3 hi hin
        have e4 : (s3.count bs 2 64 3) = Pl.p4 bs := by rw [← hs3.out]; rfl
        obtain ⟨cm, HC⟩ := HP.out.count HX.out 64
        rw [e4] at HC
        obtain ⟨n2, hn2⟩ : ∃ n, Hid ((Pl.p4 bs).1 = n) := ⟨_, hide rfl⟩
        obtain ⟨s4, hs4⟩ : ∃ s, Hid ((Pl.p4 bs).2 = s) := ⟨_, hide rfl⟩
        have hn2l : n2 ≤ 64 := by rw [← hn2.out, ← e4]; exact Rs.count_le _ _ _ _ _
        rw [hn2.out, hs4.out] at HC
        have HCC := hide HC
        clear e4 HC HP
        go_wp2_with fail
        refine HCC.out.mono ?_
        rintro e x5 ⟨rfl, hp5⟩
        have HP5 := hide (show PS W x5 b A bs cap es (Pn.p2 z V vs vc none [] 0) s4 from hp5)
        clear HCC cm hp5
        obtain ⟨it, hit, hit0, hit1, hit2⟩ := tnsinfo
        have HIT := hide hit
        have HIT0 := hide hit0
        have HIT1 := hide hit1
        have HIT2 := hide hit2
        have HUT := hide utens
        clear hit hit0 hit1 hit2
        go_wp2_with fail
        go_loopw [45] (fun k wr => ∃ (i : Nat) (C : Option Addr) (cs : List Ten) (cc : Nat), i ≤ n2 ∧ k = .int .i64 i ∧ Hid (PS W wr b A bs cap es (Pn.p2 z V vs vc C cs cc) (Rs.rep (Rs.tens bs) i s4).2) ∧ Hid (cs.map Ten.pl = (Rs.rep (Rs.tens bs) i s4).1) ∧ Hid (cs.length = i)) (fun k _ => n2 - (intOf k).toNat)
        case atStart => exact ⟨0, none, [], 0, by omega, rfl, HP5, hide rfl, hide rfl⟩
        case round =>
          clear HP5
          obtain ⟨i, C, cs, cc, hi, rfl, HP, HV, HL⟩ := hrel
          by_cases hin : i < n2
          · have hii : (i : Int) < (n2 : Int) := by omega
            obtain ⟨t0, ht0⟩ : ∃ s, Hid ((Rs.rep (Rs.tens bs) i s4).2 = s) := ⟨_, hide rfl⟩
            rw [ht0.out] at HP
            have HRS := hide (HP.out.rest HX.out)
            have HBI := hide (show i + 1 ≤ maxLen by unfold maxLen; omega)
            have HBY := hide (show (i + 1) * 56 ≤ 140737488355328 by omega)
            clear HP
            go_wp2_with fail
            refine HRS.out.mono ?_
            rintro e wa ⟨⟨A3, c3, rfl, hc3, hrb3⟩, hpa⟩
            have HTR := hide (hpa.tread HX.out hes A3 c3 hrb3 hc3)
            clear hc3 hrb3 hpa HRS
            go_wp2_with fail
            refine HTR.out.mono ?_
            rintro e wb ⟨⟨t, ev, rfl, htp, hto, htk⟩, hpb⟩
            obtain ⟨r, hr⟩ : ∃ r, Hid (t0.rest bs = r) := ⟨_, hide rfl⟩
            rw [hr.out] at htp htk ⊢
            have hga := World.grownBy_alloc wb (Obj.cells #[.slice t.P t.zs.length t.cap, .bool t.u, .slice t.D t.ds.length t.dcap] 70) none
            have hpc := hpb.same hga
            have HTK := hide (hpc.took HX.out r i ev htk)
            have HTO := hide (hto.grown hga (NotT.none _ _))
            have HTB := hide (Has.new wb 70 [.slice t.P t.zs.length t.cap, .bool t.u, .slice t.D t.ds.length t.dcap])
            have HPC := hide hpc
            have HTP := hide htp
            have hbw : Hid (W.heap.size + 1 < wb.heap.size) := hide hpb.rd.lt
            obtain ⟨kk, hkk⟩ : ∃ k, Hid (Tens.rcode r = k) := ⟨_, hide rfl⟩
            obtain ⟨rn, hrn⟩ : ∃ k, Hid (Tens.ren r = k) := ⟨_, hide rfl⟩
            rw [hkk.out, hrn.out] at HTK
            rw [hrn.out]
            clear hga hpc htk hto htp hpb HTR
            go_wp2_with fail
            refine HTK.out.mono ?_
            rintro e wd ⟨⟨x, rfl⟩, hpd, hgd⟩
            have hT2 := HTB.out.grown hgd (by intro e; injection e; have := hbw.out; omega)
            have hto2 := HTO.out.grown hgd (by obtain ⟨cs, hc⟩ := HPC.out.rd.has; exact NotT.has hc (by decide))
            have c0 : wd.cell? ⟨b, 2, none⟩ = some (.slice C cs.length cc) := hpd.c 2
            rw [HL.out] at c0
            have d0 : wd.cell? ⟨wb.heap.size, 0, none⟩ = some (.slice t.P t.zs.length t.cap) := hT2.cell 0
            have d1 : wd.cell? ⟨wb.heap.size, 1, none⟩ = some (.bool t.u) := hT2.cell 1
            have d2 : wd.cell? ⟨wb.heap.size, 2, none⟩ = some (.slice t.D t.ds.length t.dcap) := hT2.cell 2
            have hga := World.grownBy_alloc wd (Obj.cells #[.slice t.P t.zs.length t.cap, .bool t.u, .slice t.D t.ds.length t.dcap] 70) none
            have hpe := hpd.same hga
            have HPE := hide hpe
            have HOW : Hid ((wd.alloc (Obj.cells #[.slice t.P t.zs.length t.cap, .bool t.u, .slice t.D t.ds.length t.dcap] 70)).ownsRow W.heap.size 70 3 (.slice C i cc) i (cs.flatMap Ten.vals)) := (hide (by have h := hpe.pw.C; rw [← HL.out]; exact h))
            have HNW := hide (new_cells wd 70 (Ten.vals t))
            have HBS := hide hpe.bl.size
            have HIO := hide (hto2.grown hga (NotT.none _ _))
            have HKY : Hid ((Rs.tens bs i t0).1 = Ten.pl t ∧ (Rs.tens bs i t0).2 = t0.took bs rn kk i) := (hide (by unfold Rs.tens; rw [hr.out, hkk.out, hrn.out, HTP.out]; exact ⟨rfl, rfl⟩))
            clear HTK HTO HTB HPC HTP hT2 hto2 hga hpd hgd hpe hbw hkk hrn hr
            go_wp2_with (at_builtin; refine wpList_append_own_at _ rfl _ _ 23 rfl W.heap.size 70 it (.agg #[.slice none 0 0, .bool false, .slice none 0 0]) 3 56 HUT.out HIT.out HIT0.out HIT1.out HIT2.out rfl (by decide) _ i _ rfl HOW.out ⟨wd.heap.size, 0, none⟩ 1 1 t.vals rfl rfl HNW.out (Ten.one t) HBI.out HBY.out HBS.out ?_)
            intro v' w' h1 h2 hn3 h3
            obtain ⟨P2, c9, hv', -⟩ := own_row h1
            subst hv'
            obtain ⟨q1, q2, q3, q4⟩ := PS.addC t HPE.out HIO.out HL.out h1 h2
            clear h1 h2 h3 hn3 HPE HOW HNW HBS HIO d0 d1 d2 c0
            go_wp2_with fail
            go_roundw
            case measure => simp [intOf]; omega
            case rel => exact ⟨i + 1, P2, cs ++ [t], c9, by omega, by go_num, hide (by rw [Rs.rep_succ2, ht0.out, HKY.out.2]; exact q4.out), hide (by rw [List.map_append, HV.out, Rs.rep_succ1, ht0.out, HKY.out.1]; rfl), hide (by rw [List.length_append, HL.out]; rfl)⟩
          · obtain rfl : i = n2 := by omega
            obtain ⟨s5, hs5⟩ : ∃ s, Hid ((Pl.p5 bs).2 = s) := ⟨_, hide rfl⟩
            have e5 : Pl.p5 bs = Rs.rep (Rs.tens bs) i s4 := by unfold Pl.p5; rw [hn2.out, hs4.out]
            rw [← e5] at HV
            rw [← e5, hs5.out] at HP
            have HV2 := HV
            clear HV e5 hi hin
            have e6 : (s5.count bs 2 8 3) = Pl.p6 bs := by rw [← hs5.out]; rfl
            obtain ⟨cm, HC⟩ := HP.out.count HX.out 8
            rw [e6] at HC
            obtain ⟨n3, hn3⟩ : ∃ n, Hid ((Pl.p6 bs).1 = n) := ⟨_, hide rfl⟩
            obtain ⟨s6, hs6⟩ : ∃ s, Hid ((Pl.p6 bs).2 = s) := ⟨_, hide rfl⟩
            have hn3l : n3 ≤ 8 := by rw [← hn3.out, ← e6]; exact Rs.count_le _ _ _ _ _
            rw [hn3.out, hs6.out] at HC
            have HCC := hide HC
            clear e6 HC HP
            go_wp2_with fail
            refine HCC.out.mono ?_
            rintro e y3 ⟨rfl, hpy⟩
            have HPY := hide (show PS W y3 b A bs cap es (Pn.p3 z V vs vc C cs cc none [] 0) s6 from hpy)
            clear HCC cm hpy
            obtain ⟨iz, hiz, hiz0, hiz1, hiz2⟩ := descinfo
            have HIZ := hide hiz
            have HIZ0 := hide hiz0
            have HIZ1 := hide hiz1
            have HIZ2 := hide hiz2
            have HUZ := hide uds
            clear hiz hiz0 hiz1 hiz2
            go_wp2_with fail
            go_loopw [70] (fun k wr => ∃ (i : Nat) (L : Option Addr) (ls : List Dsc) (lc : Nat), i ≤ n3 ∧ k = .int .i64 i ∧ Hid (PS W wr b A bs cap es (Pn.p3 z V vs vc C cs cc L ls lc) (Rs.rep (Rs.dsc bs) i s6).2) ∧ Hid (ls.map Dsc.pl = (Rs.rep (Rs.dsc bs) i s6).1) ∧ Hid (ls.length = i)) (fun k _ => n3 - (intOf k).toNat)
            case atStart => exact ⟨0, none, [], 0, by omega, rfl, HPY, hide rfl, hide rfl⟩
            case round =>
              clear HPY
              obtain ⟨i, L, ls, lc, hi, rfl, HP, HV, HL⟩ := hrel
              by_cases hin : i < n3
              · have hii : (i : Int) < (n3 : Int) := by omega
                obtain ⟨t0, ht0⟩ : ∃ s, Hid ((Rs.rep (Rs.dsc bs) i s6).2 = s) := ⟨_, hide rfl⟩
                rw [ht0.out] at HP
                have HPd := hide (HP.out.same (grown_drew (World.grownBy.refl wr none)))
                have HDS := hide (HPd.out.desc HX.out)
                have c0 : wr.cell? ⟨b, 3, none⟩ = some (.slice L ls.length lc) := HP.out.c 3
                have c0d : wr.drew.cell? ⟨b, 3, none⟩ = some (.slice L ls.length lc) := HPd.out.c 3
                rw [HL.out] at c0 c0d
                have HBI := hide (show i + 1 ≤ maxLen by unfold maxLen; omega)
                have HBY := hide (show (i + 1) * 32 ≤ 140737488355328 by omega)
                clear HP HPd
                go_wp2_with fail
                go_region_law (first
                  | (go_simp; go_at_call 37; refine HDS.out.mono ?_; rintro e wd ⟨⟨d, rfl, hd1, hd2⟩, hpd⟩; have cd : wd.cell? ⟨b, 3, none⟩ = some (.slice L ls.length lc) := hpd.c 3; rw [HL.out] at cd; rw [show d.vals.toArray = #[.slice d.P d.zs.length d.cap, .bool d.u] from rfl]; have hga := World.grownBy_alloc wd (Obj.cells #[.slice d.P d.zs.length d.cap, .bool d.u] 59) none; have hpe := hpd.same hga; have HPE := hide hpe; have ce : (wd.alloc (Obj.cells #[.slice d.P d.zs.length d.cap, .bool d.u] 59)).cell? ⟨b, 3, none⟩ = some (.slice L ls.length lc) := hpe.c 3; rw [HL.out] at ce; have HOW : Hid ((wd.alloc (Obj.cells #[.slice d.P d.zs.length d.cap, .bool d.u] 59)).ownsRow W.heap.size 59 2 (.slice L i lc) i (ls.flatMap Dsc.vals)) := (hide (by have h := hpe.pw.L; rw [← HL.out]; exact h)); have HNW := hide (new_cells wd 59 (Dsc.vals d)); have HBS := hide hpe.bl.size; have HIO := hide (show Dsc.Io 0 (wd.alloc (Obj.cells #[.slice d.P d.zs.length d.cap, .bool d.u] 59)) d from Dsc.Io.grown hd2 hga (NotT.none _ _)); have HKY := hide hd1; clear hpd hga hpe hd1 hd2)
                  | (refine step_append_at rfl (.tmp 73) (.tmp 76) 24 rfl W.heap.size 59 iz (.agg #[.slice none 0 0, .bool false]) 2 32 HUZ.out HIZ.out HIZ0.out HIZ1.out HIZ2.out rfl (by decide) (.slice L i lc) i (ls.flatMap Dsc.vals) (by first | rfl | simp [Act.eval]) HOW.out ⟨wd.heap.size, 0, none⟩ 1 1 (Dsc.vals d) (by first | rfl | simp [Act.eval]) rfl HNW.out (Dsc.one _) HBI.out HBY.out HBS.out (fun v' w' h1 h2 h3 => ?_); obtain ⟨P2, c9, hv', -⟩ := own_row h1; subst hv'; obtain ⟨q1, q2, q3, q4⟩ := PS.addL d HPE.out HIO.out HL.out h1 h2; clear h1 h2 h3))
                all_goals go_ways
                all_goals
                  go_wp2_with fail
                  go_roundw
                  case measure => simp [intOf]; omega
                  case rel => exact ⟨i + 1, P2, ls ++ [d], c9, by omega, by go_num, hide (by rw [Rs.rep_succ2, ht0.out]; exact q4.out), hide (by rw [List.map_append, HV.out, Rs.rep_succ1, ht0.out]; show _ ++ [Dsc.pl d] = _; rw [HKY.out]; rfl), hide (by rw [List.length_append, HL.out]; rfl)⟩
              · obtain rfl : i = n3 := by omega
                obtain ⟨s7, hs7⟩ : ∃ s, Hid ((Pl.p7 bs).2 = s) := ⟨_, hide rfl⟩
                have e7 : Pl.p7 bs = Rs.rep (Rs.dsc bs) i s6 := by unfold Pl.p7; rw [hn3.out, hs6.out]
                rw [← e7] at HV
                rw [← e7, hs7.out] at HP
                have HV3 := HV
                clear HV e7 hi hin
                have e8 : (s7.count bs 2 2048 3) = Pl.p8 bs := by rw [← hs7.out]; rfl
                obtain ⟨cm, HC⟩ := HP.out.count HX.out 2048
                rw [e8] at HC
                obtain ⟨n4, hn4⟩ : ∃ n, Hid ((Pl.p8 bs).1 = n) := ⟨_, hide rfl⟩
                obtain ⟨s8, hs8⟩ : ∃ s, Hid ((Pl.p8 bs).2 = s) := ⟨_, hide rfl⟩
                have hn4l : n4 ≤ 2048 := by rw [← hn4.out, ← e8]; exact Rs.count_le _ _ _ _ _
                rw [hn4.out, hs8.out] at HC
                have HCC := hide HC
                clear e8 HC HP
                go_wp2_with fail
                refine HCC.out.mono ?_
                rintro e y4 ⟨rfl, hpy⟩
                have HPY := hide (show PS W y4 b A bs cap es (Pn.p4 z V vs vc C cs cc L ls lc none [] 0) s8 from hpy)
                clear HCC cm hpy
                obtain ⟨iz, hiz, hiz0, hiz1, hiz2⟩ := insinfo
                have HIZ := hide hiz
                have HIZ0 := hide hiz0
                have HIZ1 := hide hiz1
                have HIZ2 := hide hiz2
                have HUZ := hide uins
                clear hiz hiz0 hiz1 hiz2
                go_wp2_with fail
                go_loopw [83] (fun k wr => ∃ (i : Nat) (K : Option Addr) (is : List Ins) (kc : Nat), i ≤ n4 ∧ k = .int .i64 i ∧ Hid (PS W wr b A bs cap es (Pn.p4 z V vs vc C cs cc L ls lc K is kc) (Rs.rep (Rs.ins bs) i s8).2) ∧ Hid (is.map Ins.pl = (Rs.rep (Rs.ins bs) i s8).1) ∧ Hid (is.length = i)) (fun k _ => n4 - (intOf k).toNat)
                case atStart => exact ⟨0, none, [], 0, by omega, rfl, HPY, hide rfl, hide rfl⟩
                case round =>
                  clear HPY
                  obtain ⟨i, K, is, kc, hi, rfl, HP, HV, HL⟩ := hrel
                  by_cases hin : i < n4
                  · have hii : (i : Int) < (n4 : Int) := by omega
                    obtain ⟨t0, ht0⟩ : ∃ s, Hid ((Rs.rep (Rs.ins bs) i s8).2 = s) := ⟨_, hide rfl⟩
                    rw [ht0.out] at HP
                    have HPd := hide (HP.out.same (grown_drew (World.grownBy.refl wr none)))
                    have HDS := hide (HPd.out.instr HX.out)
                    have c0 : wr.cell? ⟨b, 4, none⟩ = some (.slice K is.length kc) := HP.out.c 4
                    have c0d : wr.drew.cell? ⟨b, 4, none⟩ = some (.slice K is.length kc) := HPd.out.c 4
                    rw [HL.out] at c0 c0d
                    have HBI := hide (show i + 1 ≤ maxLen by unfold maxLen; omega)
                    have HBY := hide (show (i + 1) * 80 ≤ 140737488355328 by omega)
                    clear HP HPd
                    go_wp2_with fail
                    go_region_law (first
                      | (go_simp; go_at_call 41; refine HDS.out.mono ?_; rintro e wd ⟨⟨d, rfl, hd1, hd2⟩, hpd⟩; have cd : wd.cell? ⟨b, 4, none⟩ = some (.slice K is.length kc) := hpd.c 4; rw [HL.out] at cd; rw [show d.vals.toArray = #[.int .i64 d.op, .int .i64 d.dst, .slice d.I d.is.length d.ic, .slice d.G d.gs.length d.gc, .int .i64 d.fr, .int .i64 d.to] from rfl]; have hga := World.grownBy_alloc wd (Obj.cells #[.int .i64 d.op, .int .i64 d.dst, .slice d.I d.is.length d.ic, .slice d.G d.gs.length d.gc, .int .i64 d.fr, .int .i64 d.to] 48) none; have hpe := hpd.same hga; have HPE := hide hpe; have ce : (wd.alloc (Obj.cells #[.int .i64 d.op, .int .i64 d.dst, .slice d.I d.is.length d.ic, .slice d.G d.gs.length d.gc, .int .i64 d.fr, .int .i64 d.to] 48)).cell? ⟨b, 4, none⟩ = some (.slice K is.length kc) := hpe.c 4; rw [HL.out] at ce; have HOW : Hid ((wd.alloc (Obj.cells #[.int .i64 d.op, .int .i64 d.dst, .slice d.I d.is.length d.ic, .slice d.G d.gs.length d.gc, .int .i64 d.fr, .int .i64 d.to] 48)).ownsRow W.heap.size 48 6 (.slice K i kc) i (is.flatMap Ins.vals)) := (hide (by have h := hpe.pw.K; rw [← HL.out]; exact h)); have HNW := hide (new_cells wd 48 (Ins.vals d)); have HBS := hide hpe.bl.size; have HIO := hide (show Ins.Io 0 (wd.alloc (Obj.cells #[.int .i64 d.op, .int .i64 d.dst, .slice d.I d.is.length d.ic, .slice d.G d.gs.length d.gc, .int .i64 d.fr, .int .i64 d.to] 48)) d from Ins.Io.grown hd2 hga (NotT.none _ _)); have HKY := hide hd1; clear hpd hga hpe hd1 hd2)
                      | (refine step_append_at rfl (.tmp 86) (.tmp 89) 25 rfl W.heap.size 48 iz (.agg #[.int .i64 0, .int .i64 0, .slice none 0 0, .slice none 0 0, .int .i64 0, .int .i64 0]) 6 80 HUZ.out HIZ.out HIZ0.out HIZ1.out HIZ2.out rfl (by decide) (.slice K i kc) i (is.flatMap Ins.vals) (by first | rfl | simp [Act.eval]) HOW.out ⟨wd.heap.size, 0, none⟩ 1 1 (Ins.vals d) (by first | rfl | simp [Act.eval]) rfl HNW.out (Ins.one _) HBI.out HBY.out HBS.out (fun v' w' h1 h2 h3 => ?_); obtain ⟨P2, c9, hv', -⟩ := own_row h1; subst hv'; obtain ⟨q1, q2, q3, q4⟩ := PS.addK d HPE.out HIO.out HL.out h1 h2; clear h1 h2 h3))
                    all_goals go_ways
                    all_goals
                      go_wp2_with fail
                      go_roundw
                      case measure => simp [intOf]; omega
                      case rel => exact ⟨i + 1, P2, is ++ [d], c9, by omega, by go_num, hide (by rw [Rs.rep_succ2, ht0.out]; exact q4.out), hide (by rw [List.map_append, HV.out, Rs.rep_succ1, ht0.out]; show _ ++ [Ins.pl d] = _; rw [HKY.out]; rfl), hide (by rw [List.length_append, HL.out]; rfl)⟩
                  · obtain rfl : i = n4 := by omega
                    obtain ⟨s9, hs9⟩ : ∃ s, Hid ((Pl.p9 bs).2 = s) := ⟨_, hide rfl⟩
                    have e9 : Pl.p9 bs = Rs.rep (Rs.ins bs) i s8 := by unfold Pl.p9; rw [hn4.out, hs8.out]
                    rw [← e9] at HV
                    rw [← e9, hs9.out] at HP
                    have HV4 := HV
                    clear HV e9 hi hin
                    have HS10 := hide (HP.out.signed HX.out)
                    clear HP
                    go_wp2_with fail
                    refine HS10.out.mono ?_
                    rintro e u1 ⟨rfl, hq1⟩
                    obtain ⟨zi, hzi⟩ : ∃ y, Hid ((Pl.p10 bs).1 = y) := ⟨_, hide rfl⟩
                    obtain ⟨s10, hs10⟩ : ∃ y, Hid ((Pl.p10 bs).2 = y) := ⟨_, hide rfl⟩
                    have e10 : s9.signed bs = Pl.p10 bs := by rw [← hs9.out]; rfl
                    rw [e10, hs10.out] at hq1
                    rw [e10, hzi.out]
                    have b1 : u1.cell? ⟨b, 5, none⟩ = some (.int .i64 0) := hq1.c 5
                    have b2 := hq1.bx.frozen 5
                    have b3 := hq1.bx.lt
                    have HQ1 := hide (hq1.num (q := Pn.p5 z V vs vc C cs cc L ls lc K is kc zi 0) 5 (.int .i64 zi) rfl rfl)
                    have HS11 := hide (HQ1.out.signed HX.out)
                    clear HS10 e10 hq1 HQ1
                    go_wp2_with fail
                    refine HS11.out.mono ?_
                    rintro e u2 ⟨rfl, hq2⟩
                    obtain ⟨zo, hzo⟩ : ∃ y, Hid ((Pl.p11 bs).1 = y) := ⟨_, hide rfl⟩
                    obtain ⟨s11, hs11⟩ : ∃ y, Hid ((Pl.p11 bs).2 = y) := ⟨_, hide rfl⟩
                    have e11 : s10.signed bs = Pl.p11 bs := by rw [← hs10.out]; rfl
                    rw [e11, hs11.out] at hq2
                    rw [e11, hzo.out]
                    clear b1 b2 b3
                    have b1 : u2.cell? ⟨b, 6, none⟩ = some (.int .i64 0) := hq2.c 6
                    have b2 := hq2.bx.frozen 6
                    have b3 := hq2.bx.lt
                    have HQ2 := hide (hq2.num (q := Pn.p5 z V vs vc C cs cc L ls lc K is kc zi zo) 6 (.int .i64 zo) rfl rfl)
                    have HEN := hide (HQ2.out.ended HX.out)
                    clear HS11 e11 hq2 HQ2
                    go_wp2_with fail
                    refine HEN.out.mono ?_
                    rintro e u3 ⟨⟨x, rfl⟩, hq3⟩
                    have e12 : s11.end_ bs = Pl.p12 bs := by rw [← hs11.out]; rfl
                    obtain ⟨s12, hs12⟩ : ∃ y, Hid (Pl.p12 bs = y) := ⟨_, hide rfl⟩
                    rw [e12, hs12.out] at hq3
                    have HQ3 := hide hq3
                    obtain ⟨ev, hev, hce⟩ := hq3.err
                    have HER := hide hce
                    have HEV := hide hev
                    clear b1 b2 b3 HEN e12 hq3 hce hev
                    go_wp2_with fail
                    refine HER.out.mono ?_
                    rintro e u4 ⟨rfl, rfl⟩
                    clear HER
                    have r0 : u4.cell? ⟨W.heap.size, 0, none⟩ = some (.int .i64 0) := HQ3.out.r.cell 0
                    have r1 : u4.cell? ⟨W.heap.size, 1, none⟩ = some (.slice none 0 0) := HQ3.out.r.cell 1
                    have r2 : u4.cell? ⟨W.heap.size, 2, none⟩ = some (.slice none 0 0) := HQ3.out.r.cell 2
                    have r3 : u4.cell? ⟨W.heap.size, 3, none⟩ = some (.slice none 0 0) := HQ3.out.r.cell 3
                    have r4 : u4.cell? ⟨W.heap.size, 4, none⟩ = some (.slice none 0 0) := HQ3.out.r.cell 4
                    have r5 : u4.cell? ⟨W.heap.size, 5, none⟩ = some (.int .i64 0) := HQ3.out.r.cell 5
                    have r6 : u4.cell? ⟨W.heap.size, 6, none⟩ = some (.int .i64 0) := HQ3.out.r.cell 6
                    have f0 := HQ3.out.r.frozen 0
                    have f1 := HQ3.out.r.frozen 1
                    have f2 := HQ3.out.r.frozen 2
                    have f3 := HQ3.out.r.frozen 3
                    have f4 := HQ3.out.r.frozen 4
                    have f5 := HQ3.out.r.frozen 5
                    have f6 := HQ3.out.r.frozen 6
                    have k0 : u4.cell? ⟨b, 0, none⟩ = some (.int .i64 z) := HQ3.out.c 0
                    have k1 : u4.cell? ⟨b, 1, none⟩ = some (.slice V vs.length vc) := HQ3.out.c 1
                    have k2 : u4.cell? ⟨b, 2, none⟩ = some (.slice C cs.length cc) := HQ3.out.c 2
                    have k3 : u4.cell? ⟨b, 3, none⟩ = some (.slice L ls.length lc) := HQ3.out.c 3
                    have k4 : u4.cell? ⟨b, 4, none⟩ = some (.slice K is.length kc) := HQ3.out.c 4
                    have k5 : u4.cell? ⟨b, 5, none⟩ = some (.int .i64 zi) := HQ3.out.c 5
                    have k6 : u4.cell? ⟨b, 6, none⟩ = some (.int .i64 zo) := HQ3.out.c 6
                    cases he : s12.e with
                    | none =>
                      rw [he] at HEV
                      obtain rfl : ev = .nilIface := HEV.out
                      have FIN := hide (HQ3.out.done (v := .nilIface) (by rw [he]; rfl) HQ3.out.pw (q := Pn.p5 z V vs vc C cs cc L ls lc K is kc zi zo) rfl)
                      have HRD : Hid (Pl.read bs = (Pn.p5 z V vs vc C cs cc L ls lc K is kc zi zo).pl) := hide (by
                        unfold Pl.read
                        rw [hs12.out, if_pos he]
                        show PlP.mk _ _ _ _ _ _ _ = PlP.mk z (vs.map Vw.pl) (cs.map Ten.pl) (ls.map Dsc.pl) (is.map Ins.pl) zi zo
                        rw [hz.out, HV1.out, HV2.out, HV3.out, HV4.out, hzi.out, hzo.out])
                      clear HQ3 HEV HV1 HV2 HV3 HV4
                      go_wp2_with fail
                      refine bodyPost_ret (results_plan2 rfl _ _ W.heap.size _ _ _ _ _ _ _ rfl FIN.out.1) rfl ?_
                      exact ⟨⟨Pn.p5 z V vs vc C cs cc L ls lc K is kc zi zo, .nilIface, rfl, HRD.out.symm, FIN.out.2.1, by rw [hs12.out]; exact FIN.out.2.2.1⟩, FIN.out.2.2.2⟩
                    | some x =>
                      have FIN := hide (HQ3.out.done HEV.out (Pw.of W.heap.size 0 u4 0) rfl)
                      have HRD : Hid (Pl.read bs = PlP.zero) := hide (by unfold Pl.read; rw [hs12.out, if_neg (by rw [he]; simp)])
                      have h0 : EV u4.heap.size u4 es (some x) ev := (by rw [← he]; exact HEV.out)
                      have HIS : IsErr ev := h0.is
                      clear h0
                      clear HQ3 HEV HV1 HV2 HV3 HV4 he
                      rcases HIS with ⟨a, rfl⟩ | ⟨k, rfl⟩
                      all_goals
                        go_wp2_with fail
                        refine bodyPost_ret (results_plan2 rfl _ _ W.heap.size _ _ _ _ _ _ _ rfl FIN.out.1) rfl ?_
                        exact ⟨⟨Pn.of 0, _, rfl, HRD.out.symm, FIN.out.2.1, by rw [hs12.out]; exact FIN.out.2.2.1⟩, FIN.out.2.2.2⟩
end
end Go.Proofs.YthjnkaikjjjceaaDoor
