/-
  The law TensBytes, walked. By an AI agent. No person has read it.
-/
import Derived.Test.YtnbjcdmiehnceaaDoorTenRr
namespace Go.Proofs.YtnbjcdmiehnceaaDoor
open Go.RowKit

/-- The law's two boxes. -/
theorem bytes_boxes (w : World) (x y z d v : Value) : Below w.heap.size w ((w.alloc (Obj.cells #[x, y, z] 53)).alloc (Obj.cells #[d, v] 24)) ∧ Has ((w.alloc (Obj.cells #[x, y, z] 53)).alloc (Obj.cells #[d, v] 24)) w.heap.size 53 [x, y, z] ∧
    Has ((w.alloc (Obj.cells #[x, y, z] 53)).alloc (Obj.cells #[d, v] 24)) (w.heap.size + 1) 24 [d, v] := by
  refine ⟨((Below.refl _ w).alloc (Nat.le_refl _) _).alloc (by simp) _, (Has.new w 53 [x, y, z]).alloc _, ?_⟩
  have h := Has.new (w.alloc (Obj.cells #[x, y, z] 53)) 24 [d, v]
  simpa using h
theorem mem_cell {W : World} {bl : List (Nat × TypeId × List Value)} {ris : List (Option Addr × List Int)} {rbs : List (Option Addr × List Nat)} (h : Mem W bl ris rbs) (p i b : Nat) (c : Value) {t : TypeId} {cs : List Value} (hp : bl[p]? = some (b, t, cs)) (hc : cs[i]? = some c := by rfl) : W.cell? ⟨b, i, none⟩ = some c := by
  rw [(h.has p _ hp).cell]
  exact hc
set_option maxRecDepth 100000 in
set_option maxHeartbeats 4000000 in
theorem bytes_long (P D E A : Option Addr) (n cap m dcap k ecap l bcap : Nat) (u v : Bool) (ah am ar : Addr) (w : World) (hlong : ¬ (n ≤ 8 ∧ m ≤ 300 ∧ k ≤ 8 ∧ l ≤ 300)) (hE : E3 w ah am ar) :
    Calls Tryd.prog 9 #[.agg (tcells P n cap u D m dcap), .agg (dcells E k ecap v), .slice A l bcap] w fun e w' => e = .returned (.bool true) ∧ Below w.heap.size w w' := by
  obtain ⟨hb0, hT, hD⟩ := bytes_boxes w (.slice P n cap) (.bool u) (.slice D m dcap) (.slice E k ecap) (.bool v)
  have HF := hide (first6_c ah am ar _ (hE.below hb0))
  have HT0 := hide hT
  have HD0 := hide hD
  have HB0 := hide hb0
  have HWT := hide (fun W => worldtensor_c P D n cap m dcap u W)
  have HWD := hide (fun W => worlddesc_c E k ecap v W)
  clear hb0 hE hT hD
  go_enter Tryd.func9, Tryd.ntmps9
  go_wp2_with fail
  refine HF.out.mono ?_
  rintro e w1 ⟨rfl, hb⟩
  have hT := HT0.out.below hb HT0.out.lt
  have hD := HD0.out.below hb HD0.out.lt
  have c0 : w1.cell? ⟨w.heap.size, 0, none⟩ = some (.slice P n cap) := by rw [hT.cell]; rfl
  have c1 : w1.cell? ⟨w.heap.size, 1, none⟩ = some (.bool u) := by rw [hT.cell]; rfl
  have c2 : w1.cell? ⟨w.heap.size, 2, none⟩ = some (.slice D m dcap) := by rw [hT.cell]; rfl
  have HB := hide (HB0.out.trans (hb.mono HB0.out.size))
  have HD1 := hide hD
  clear hb hT hD HT0 HB0 HF HD0
  by_cases hnm : n ≤ 8 ∧ m ≤ 300
  · have e2 : (decide (n ≤ 8) && decide (m ≤ 300)) = true := by simp [hnm]
    rw [e2] at HWT
    clear e2
    go_wp2_with fail
    refine (HWT.out w1).mono ?_
    rintro e w2 ⟨rfl, hb⟩
    have hD := HD1.out.below hb HD1.out.lt
    have d0 : w2.cell? ⟨w.heap.size + 1, 0, none⟩ = some (.slice E k ecap) := by rw [hD.cell]; rfl
    have d1 : w2.cell? ⟨w.heap.size + 1, 1, none⟩ = some (.bool v) := by rw [hD.cell]; rfl
    have HB2 := hide (HB.out.trans (hb.mono HB.out.size))
    clear hb hD HD1 HB c0 c1 c2
    by_cases hk : k ≤ 8
    · have hl : (300 : Int) < l := by omega
      rw [decide_eq_true hk] at HWD
      clear hk hlong hnm
      go_wp2_with fail
      refine (HWD.out w2).mono ?_
      rintro e w3 ⟨rfl, hb⟩
      have HFin := hide (HB2.out.trans (hb.mono HB2.out.size))
      clear hb HB2
      go_wp2_with fail
      go_ret
      exact ⟨rfl, HFin.out⟩
    · rw [decide_eq_false hk] at HWD
      clear hk hlong hnm
      go_wp2_with fail
      refine (HWD.out w2).mono ?_
      rintro e w3 ⟨rfl, hb⟩
      have HFin := hide (HB2.out.trans (hb.mono HB2.out.size))
      clear hb HB2
      go_wp2_with fail
      go_ret
      exact ⟨rfl, HFin.out⟩
  · have e2 : (decide (n ≤ 8) && decide (m ≤ 300)) = false := by
      rw [← Bool.decide_and]
      exact decide_eq_false hnm
    rw [e2] at HWT
    clear e2 hlong hnm
    go_wp2_with fail
    refine (HWT.out w1).mono ?_
    rintro e w2 ⟨rfl, hb⟩
    have HFin := hide (HB.out.trans (hb.mono HB.out.size))
    clear hb HB
    go_wp2_with fail
    go_ret
    exact ⟨rfl, HFin.out⟩
set_option maxRecDepth 100000 in
set_option maxHeartbeats 8000000 in
theorem bytes_all (es : List Addr) (ah am ar ae ak : Addr) (hes : TErrs es ah am ar ae ak) (zs ds ws : List Int) (bs : List Nat) (P D E A : Option Addr) (cap dcap ecap bcap : Nat) (u v : Bool) (w : World) (hr : Ri w P zs) (hd : Ri w D ds) (he : Ri w E ws) (hb : Rb w A bs)
    (hm : zs.length ≤ 8) (hdm : ds.length ≤ 300) (hem : ws.length ≤ 8) (hbm : bs.length ≤ 300) (hbc : bs.length ≤ bcap) (hZ : Ez w es) :
    Calls Tryd.prog 9 #[.agg (tcells P zs.length cap u D ds.length dcap), .agg (dcells E ws.length ecap v), .slice A bs.length bcap] w fun e w' => e = .returned (.bool true) ∧ Below w.heap.size w w' := by
  obtain ⟨hb0, hT, hD⟩ := bytes_boxes w (.slice P zs.length cap) (.bool u) (.slice D ds.length dcap) (.slice E ws.length ecap) (.bool v)
  have HF := hide (first6_c ah am ar _ ((hes.e3 hZ).below hb0))
  have HWT := hide (fun W => worldtensor_c P D zs.length cap ds.length dcap u W)
  have e2 : (decide (zs.length ≤ 8) && decide (ds.length ≤ 300)) = true := by simp [hm, hdm]
  rw [e2] at HWT
  have HWD := hide (fun W => worlddesc_c E ws.length ecap v W)
  rw [decide_eq_true hem] at HWD
  have HG := hide (fun W (h : Below w.heap.size w W) => good_c zs ds P D cap dcap u W (hr.below h) (hd.below h) (by omega) (by omega))
  have h256 := Tens.raw_lt zs u ds
  have g256 := Tens.bytes_lt zs u ds
  have hEz : ∀ W, Below w.heap.size w W → Ez W es := fun W h => hZ.below h
  have HEz := hide hEz
  have HTr : Hid (∀ W, Below w.heap.size w W → Calls Tryd.prog 60 #[.agg (tcells P zs.length cap u D ds.length dcap)] W fun e w' => (∃ B c, e = .returned (.slice B (Tens.raw zs u ds).length c) ∧ Rb w' B (Tens.raw zs u ds)) ∧ Below W.heap.size W w') := hide fun W h => by
    refine (traw_c zs ds P D cap dcap u ah am ar W (hr.below h) (hd.below h) (by omega) (by omega) (hes.e3 (hEz W h))).mono ?_
    rintro e w' ⟨⟨x, rfl, ho⟩, hb2⟩
    obtain ⟨B, c, rfl, h1, -⟩ := own_rbs ho h256
    exact ⟨⟨B, c, rfl, h1⟩, hb2⟩
  have HTb : Hid (∀ W, Below w.heap.size w W → Calls Tryd.prog 61 #[.agg (tcells P zs.length cap u D ds.length dcap)] W fun e w' => (∃ B c, e = .returned (.slice B (Tens.bytes zs u ds).length c) ∧ Rb w' B (Tens.bytes zs u ds)) ∧ Below W.heap.size W w') := hide fun W h => by
    refine (tbytes_c zs ds P D cap dcap u ah am ar W (hr.below h) (hd.below h) (by omega) (by omega) (hes.e3 (hEz W h))).mono ?_
    rintro e w' ⟨⟨x, rfl, ho⟩, hb2⟩
    obtain ⟨B, c, rfl, h1, -⟩ := own_rbs ho g256
    exact ⟨⟨B, c, rfl, h1⟩, hb2⟩
  have HRr : Hid (Tens.fault zs u ds = (0, none) → ∀ W, Below w.heap.size w W → Calls Tryd.prog 53 #[.agg (tcells P zs.length cap u D ds.length dcap)] W fun e w' => (∃ B c, e = .returned (.slice B (Tens.raw zs u ds).length c) ∧ Rb w' B (Tens.raw zs u ds)) ∧ Below W.heap.size W w') := hide fun hA W h => by
    have hraw : Tens.raw zs u ds = Pk.all (Tens.each u) ds := by unfold Tens.raw; rw [if_pos hA]
    refine (rraw_c ds P D zs.length cap dcap u W (hd.below h) (by omega)).mono ?_
    rintro e w' ⟨⟨x, rfl, ho⟩, hb2⟩
    rw [← Pk.all_length, ← hraw] at ho
    obtain ⟨B, c, rfl, h1, -⟩ := own_rbs ho h256
    exact ⟨⟨B, c, rfl, h1⟩, hb2⟩
  have HRb : Hid (Tens.fault zs u ds = (0, none) → ∀ W, Below w.heap.size w W → Calls Tryd.prog 54 #[.agg (tcells P zs.length cap u D ds.length dcap)] W fun e w' => (∃ B c, e = .returned (.slice B (Tens.bytes zs u ds).length c) ∧ Rb w' B (Tens.bytes zs u ds)) ∧ Below W.heap.size W w') := hide fun hA W h => by
    have hby : Tens.bytes zs u ds = Pk.desc zs u ++ Pk.all (Tens.each u) ds := by unfold Tens.bytes; rw [if_pos hA]
    refine (rtbytes_c zs ds P D cap dcap u W (hr.below h) (hd.below h) (by omega) (by omega)).mono ?_
    rintro e w' ⟨⟨x, rfl, ho⟩, hb2⟩
    have hlen : 1 + zs.length * 2 + ds.length * Tens.each u = (Tens.bytes zs u ds).length := by rw [hby, List.length_append, Pk.desc_length, Pk.all_length]
    rw [hlen, ← hby] at ho
    obtain ⟨B, c, rfl, h1, -⟩ := own_rbs ho g256
    exact ⟨⟨B, c, rfl, h1⟩, hb2⟩
  have HNo : Hid (Tens.fault zs u ds ≠ (0, none) → (Tens.raw zs u ds).length = 0 ∧ (Tens.bytes zs u ds).length = 0) := hide fun hA => by
    unfold Tens.raw Tens.bytes
    rw [if_neg hA, if_neg hA]
    exact ⟨rfl, rfl⟩
  have hel : Tens.each u ≤ 4 := by unfold Tens.each; split <;> omega
  have hrl : (Tens.raw zs u ds).length ≤ 1000000 := by
    unfold Tens.raw
    split
    · rw [Pk.all_length]
      have := Nat.mul_le_mul hdm hel
      omega
    · simp
  have hbl : (Tens.bytes zs u ds).length ≤ 1000000 := by
    unfold Tens.bytes
    split
    · rw [List.length_append, Pk.desc_length, Pk.all_length]
      have := Nat.mul_le_mul hdm hel
      omega
    · simp
  have HSr : Hid (∀ W B c B2 c2, Rb W B (Tens.raw zs u ds) → Rb W B2 (Tens.raw zs u ds) → Calls Tryd.prog 59 #[.slice B (Tens.raw zs u ds).length c, .slice B2 (Tens.raw zs u ds).length c2] W fun e w' => e = .returned (.bool true) ∧ Below W.heap.size W w') := hide fun W B c B2 c2 h1 h2 => by
    have k := samebytes_c (Tens.raw zs u ds) (Tens.raw zs u ds) B B2 c c2 W h1 h2 hrl hrl
    rw [decide_eq_true rfl] at k
    exact k
  have HSb : Hid (∀ W B c B2 c2, Rb W B (Tens.bytes zs u ds) → Rb W B2 (Tens.bytes zs u ds) → Calls Tryd.prog 59 #[.slice B (Tens.bytes zs u ds).length c, .slice B2 (Tens.bytes zs u ds).length c2] W fun e w' => e = .returned (.bool true) ∧ Below W.heap.size W w') := hide fun W B c B2 c2 h1 h2 => by
    have k := samebytes_c (Tens.bytes zs u ds) (Tens.bytes zs u ds) B B2 c c2 W h1 h2 hbl hbl
    rw [decide_eq_true rfl] at k
    exact k
  have HOf := hide (fun W (h : Below w.heap.size w W) => tof_u es ah am ar ae ak hes ws bs E A ecap bcap v W (he.below h) (hb.below h) (by omega) (by omega) hbc (hEz W h))
  have HRo := hide (fun W (h : Below w.heap.size w W) => rof_u ws bs E A ecap bcap v W (he.below h) (hb.below h) (by omega) (by omega) hbc)
  have HRd := hide (fun W (h : Below w.heap.size w W) => tread_u es ah am ar ae ak hes bs A bcap W (hb.below h) hbc (by omega) (hEz W h))
  have HRe := hide (fun W (h : Below w.heap.size w W) => rread_u bs A bcap W (hb.below h) hbc (by omega))
  have HSt : ∀ (x y : List Int) (t : Bool), Hid (∀ W Q F Q2 F2 k l k2 l2, TIs W Q F x y → TIs W Q2 F2 x y → Calls Tryd.prog 45 #[.agg (tcells Q x.length k t F y.length l), .agg (tcells Q2 x.length k2 t F2 y.length l2)] W fun e w' => e = .returned (.bool true) ∧ Below W.heap.size W w') := fun x y t => hide fun W Q F Q2 F2 k l k2 l2 h1 h2 => by
    have q := sametensor_c x x y y Q Q2 F F2 k k2 l l2 t t W h1.shp h2.shp h1.dat h2.dat h1.la h1.la h1.lb h1.lb
    rw [decide_eq_true rfl, decide_eq_true rfl, beq_self_eq_true] at q
    exact q
  have HS1 := HSt (Tens.ofz ws v bs) (Tens.ofd ws v bs) (Tens.ofu ws v bs)
  have HS2 := HSt (Tens.rez bs) (Tens.red bs) (Tens.reu bs)
  have HIs : Hid (∀ W k ev, Below w.heap.size w W → ErrK es k ev → Calls Tryd.prog 17 #[ev, .int .i64 (k : Int)] W fun e w' => e = .returned (.bool true) ∧ Below W.heap.size W w') := hide fun W k ev h h2 => is_k es k ev W h2 (hEz W h)
  have HK1 : Hid (∀ W Q F (x y : List Int) W2, TIs W Q F x y → Below W.heap.size W W2 → TIs W2 Q F x y) := hide fun W Q F x y W2 h1 h2 => h1.below h2
  have HKb : Hid (∀ W B (x : List Nat) W2, Rb W B x → Below W.heap.size W W2 → Rb W2 B x) := hide fun W B x W2 h1 h2 => h1.below h2
  have hbi : ((300 : Int) < (bs.length : Int)) = False := by simp; omega
  have hNil : Hid (Tens.fault zs u ds ≠ (0, none) → ∀ W, Rb W none (Tens.raw zs u ds) ∧ Rb W none (Tens.bytes zs u ds)) := hide fun hA W => by
    unfold Tens.raw Tens.bytes
    rw [if_neg hA, if_neg hA]
    exact ⟨Rb.nil _ _, Rb.nil _ _⟩
  obtain ⟨n, h_n⟩ : ∃ n, Hid (zs.length = n) := ⟨_, hide rfl⟩
  obtain ⟨m, h_m⟩ : ∃ m, Hid (ds.length = m) := ⟨_, hide rfl⟩
  obtain ⟨kk, h_kk⟩ : ∃ kk, Hid (ws.length = kk) := ⟨_, hide rfl⟩
  obtain ⟨l, h_l⟩ : ∃ l, Hid (bs.length = l) := ⟨_, hide rfl⟩
  obtain ⟨raw, h_raw⟩ : ∃ raw, Hid (Tens.raw zs u ds = raw) := ⟨_, hide rfl⟩
  obtain ⟨byt, h_byt⟩ : ∃ byt, Hid (Tens.bytes zs u ds = byt) := ⟨_, hide rfl⟩
  obtain ⟨z1, h_z1⟩ : ∃ z1, Hid (Tens.ofz ws v bs = z1) := ⟨_, hide rfl⟩
  obtain ⟨d1, h_d1⟩ : ∃ d1, Hid (Tens.ofd ws v bs = d1) := ⟨_, hide rfl⟩
  obtain ⟨u1, h_u1⟩ : ∃ u1, Hid (Tens.ofu ws v bs = u1) := ⟨_, hide rfl⟩
  obtain ⟨k1, h_k1⟩ : ∃ k1, Hid (Tens.ofcode ws v bs = k1) := ⟨_, hide rfl⟩
  obtain ⟨z2, h_z2⟩ : ∃ z2, Hid (Tens.rez bs = z2) := ⟨_, hide rfl⟩
  obtain ⟨d2, h_d2⟩ : ∃ d2, Hid (Tens.red bs = d2) := ⟨_, hide rfl⟩
  obtain ⟨u2, h_u2⟩ : ∃ u2, Hid (Tens.reu bs = u2) := ⟨_, hide rfl⟩
  obtain ⟨k2, h_k2⟩ : ∃ k2, Hid (Tens.rcode bs = k2) := ⟨_, hide rfl⟩
  obtain ⟨n2, h_n2⟩ : ∃ n2, Hid (Tens.ren bs = n2) := ⟨_, hide rfl⟩
  rw [h_n.out, h_m.out] at HWT HG HTr HTb HRr HRb hT hD hb0 HF
  rw [h_kk.out] at HWD HOf HRo hT hD hb0 HF
  rw [h_l.out] at HOf HRo HRd HRe hbi
  rw [h_raw.out] at HTr HRr HSr HNo hNil
  rw [h_byt.out] at HTb HRb HSb HNo hNil
  rw [h_z1.out, h_d1.out, h_u1.out] at HOf HRo HS1
  rw [h_k1.out] at HOf HRo
  rw [h_z2.out, h_d2.out, h_u2.out] at HRd HRe HS2
  rw [h_k2.out, h_n2.out] at HRd HRe
  rw [h_n.out, h_m.out, h_kk.out, h_l.out]
  obtain ⟨R, h_R⟩ : ∃ R, Hid (raw.length = R) := ⟨_, hide rfl⟩
  obtain ⟨L, h_L⟩ : ∃ L, Hid (byt.length = L) := ⟨_, hide rfl⟩
  obtain ⟨zn1, h_zn1⟩ : ∃ zn1, Hid (z1.length = zn1) := ⟨_, hide rfl⟩
  obtain ⟨dn1, h_dn1⟩ : ∃ dn1, Hid (d1.length = dn1) := ⟨_, hide rfl⟩
  obtain ⟨zn2, h_zn2⟩ : ∃ zn2, Hid (z2.length = zn2) := ⟨_, hide rfl⟩
  obtain ⟨dn2, h_dn2⟩ : ∃ dn2, Hid (d2.length = dn2) := ⟨_, hide rfl⟩
  rw [h_R.out] at HTr HRr HSr HNo
  rw [h_L.out] at HTb HRb HSb HNo
  rw [h_zn1.out, h_dn1.out] at HOf HRo HS1
  rw [h_zn2.out, h_dn2.out] at HRd HRe HS2
  have HM := hide (Mem.mk (W := ((w.alloc (Obj.cells (tcells P n cap u D m dcap) 53)).alloc (Obj.cells (dcells E kk ecap v) 24))) (bl := [(w.heap.size, 53, [.slice P n cap, .bool u, .slice D m dcap]), (w.heap.size + 1, 24, [.slice E kk ecap, .bool v])]) (ris := []) (rbs := [])
    (fun i x hx => by
      match i, hx with
      | 0, hx => cases hx; exact hT
      | 1, hx => cases hx; exact hD
      | i + 2, hx => simp at hx) (fun i x hx => by simp at hx) (fun i x hx => by simp at hx))
  have HB := hide hb0
  clear hT hD hb0 hr hd he hb hm hdm hem hbm hbc hZ hEz e2 h256 g256 hel hrl hbl HSt h_n h_m h_kk h_l h_raw h_byt h_z1 h_d1 h_u1 h_k1 h_z2 h_d2 h_u2 h_k2 h_n2 h_R h_L h_zn1 h_dn1 h_zn2 h_dn2 hes
  go_enter Tryd.func9, Tryd.ntmps9
  go_wp2_with fail
  refine (HF.out).mono ?_
  rintro e w1 ⟨rfl, hb⟩
  replace HM := hide (HM.out.below hb)
  replace HB := hide (HB.out.trans (hb.mono HB.out.size))
  clear hb HF
  have c0_0 : w1.cell? ⟨w.heap.size, 0, none⟩ = some (.slice P n cap) := by rw [(HM.out.has 0 _ rfl).cell]; rfl
  have c0_1 : w1.cell? ⟨w.heap.size, 1, none⟩ = some (.bool u) := by rw [(HM.out.has 0 _ rfl).cell]; rfl
  have c0_2 : w1.cell? ⟨w.heap.size, 2, none⟩ = some (.slice D m dcap) := by rw [(HM.out.has 0 _ rfl).cell]; rfl
  go_wp2_with fail
  refine (HWT.out _).mono ?_
  rintro e w2 ⟨rfl, hb⟩
  replace HM := hide (HM.out.below hb)
  replace HB := hide (HB.out.trans (hb.mono HB.out.size))
  clear hb c0_0 c0_1 c0_2 HWT
  have c1_0 : w2.cell? ⟨w.heap.size + 1, 0, none⟩ = some (.slice E kk ecap) := by rw [(HM.out.has 1 _ rfl).cell]; rfl
  have c1_1 : w2.cell? ⟨w.heap.size + 1, 1, none⟩ = some (.bool v) := by rw [(HM.out.has 1 _ rfl).cell]; rfl
  go_wp2_with fail
  refine (HWD.out _).mono ?_
  rintro e w3 ⟨rfl, hb⟩
  replace HM := hide (HM.out.below hb)
  replace HB := hide (HB.out.trans (hb.mono HB.out.size))
  clear hb c1_0 c1_1 HWD
  have c0_0 : w3.cell? ⟨w.heap.size, 0, none⟩ = some (.slice P n cap) := by rw [(HM.out.has 0 _ rfl).cell]; rfl
  have c0_1 : w3.cell? ⟨w.heap.size, 1, none⟩ = some (.bool u) := by rw [(HM.out.has 0 _ rfl).cell]; rfl
  have c0_2 : w3.cell? ⟨w.heap.size, 2, none⟩ = some (.slice D m dcap) := by rw [(HM.out.has 0 _ rfl).cell]; rfl
  by_cases hA : Tens.fault zs u ds = (0, none)
  case' pos =>
    rw [decide_eq_true hA] at HG
    go_wp2_with fail
    refine (HG.out _ HB.out).mono ?_
    rintro e w4 ⟨rfl, hb⟩
    replace HM := hide (HM.out.below hb)
    replace HB := hide (HB.out.trans (hb.mono HB.out.size))
    clear hb c0_0 c0_1 c0_2 HG
    have c0_0 : w4.cell? ⟨w.heap.size, 0, none⟩ = some (.slice P n cap) := by rw [(HM.out.has 0 _ rfl).cell]; rfl
    have c0_1 : w4.cell? ⟨w.heap.size, 1, none⟩ = some (.bool u) := by rw [(HM.out.has 0 _ rfl).cell]; rfl
    have c0_2 : w4.cell? ⟨w.heap.size, 2, none⟩ = some (.slice D m dcap) := by rw [(HM.out.has 0 _ rfl).cell]; rfl
    go_wp2_with fail
    refine (HRr.out hA _ HB.out).mono ?_
    rintro e w5 ⟨⟨B1, c1, rfl, RB1⟩, hb⟩
    replace HM := hide (HM.out.below hb)
    replace HB := hide (HB.out.trans (hb.mono HB.out.size))
    replace RB1 := hide RB1
    clear hb c0_0 c0_1 c0_2
    have c0_0 : w5.cell? ⟨w.heap.size, 0, none⟩ = some (.slice P n cap) := by rw [(HM.out.has 0 _ rfl).cell]; rfl
    have c0_1 : w5.cell? ⟨w.heap.size, 1, none⟩ = some (.bool u) := by rw [(HM.out.has 0 _ rfl).cell]; rfl
    have c0_2 : w5.cell? ⟨w.heap.size, 2, none⟩ = some (.slice D m dcap) := by rw [(HM.out.has 0 _ rfl).cell]; rfl
    go_wp2_with fail
    refine (HRb.out hA _ HB.out).mono ?_
    rintro e w6 ⟨⟨B2, c2, rfl, RB2⟩, hb⟩
    replace HM := hide (HM.out.below hb)
    replace HB := hide (HB.out.trans (hb.mono HB.out.size))
    replace RB1 := hide (HKb.out _ _ _ _ RB1.out hb)
    replace RB2 := hide RB2
    clear hb c0_0 c0_1 c0_2
    obtain ⟨WW, hWW⟩ : ∃ WW, WW = w6 := ⟨_, rfl⟩
    obtain rfl := hWW
  case' neg =>
    rw [decide_eq_false hA] at HG
    go_wp2_with fail
    refine (HG.out _ HB.out).mono ?_
    rintro e w4 ⟨rfl, hb⟩
    replace HM := hide (HM.out.below hb)
    replace HB := hide (HB.out.trans (hb.mono HB.out.size))
    clear hb c0_0 c0_1 c0_2 HG
    obtain ⟨rfl, rfl⟩ := HNo.out hA
    obtain ⟨B1, c1, hB1⟩ : ∃ (B1 : Option Addr) (c1 : Nat), B1 = none ∧ c1 = 0 := ⟨_, _, rfl, rfl⟩
    obtain ⟨B2, c2, hB2⟩ : ∃ (B2 : Option Addr) (c2 : Nat), B2 = none ∧ c2 = 0 := ⟨_, _, rfl, rfl⟩
    obtain ⟨rfl, rfl⟩ := hB1
    obtain ⟨rfl, rfl⟩ := hB2
    have RB1 := hide (hNil.out hA w4).1
    have RB2 := hide (hNil.out hA w4).2
  all_goals
    clear HRr HRb HNo hNil
    skip
    have qd0 := mem_cell HM.out 1 0 (w.heap.size + 1) (.slice E kk ecap) rfl
    have qd1 := mem_cell HM.out 1 1 (w.heap.size + 1) (.bool v) rfl
    go_wp2_with fail
    refine (HOf.out _ HB.out).mono ?_
    rintro e w51 ⟨⟨Q1, k3, F1, l3, e1, rfl, TI1, EK1⟩, hb⟩
    replace HM := hide (HM.out.below hb)
    replace HB := hide (HB.out.trans (hb.mono HB.out.size))
    replace RB1 := hide (HKb.out _ _ _ _ RB1.out hb)
    replace RB2 := hide (HKb.out _ _ _ _ RB2.out hb)
    replace TI1 := hide TI1
    clear hb qd0 qd1
    replace HM := hide (HM.out.alloc #[.slice Q1 zn1 k3, .bool u1, .slice F1 dn1 l3] 53)
    replace HB := hide (HB.out.alloc HB.out.size (Obj.cells #[.slice Q1 zn1 k3, .bool u1, .slice F1 dn1 l3] 53))
    have hbn := (Below.refl w51.heap.size w51).alloc (Nat.le_refl _) (Obj.cells #[.slice Q1 zn1 k3, .bool u1, .slice F1 dn1 l3] 53)
    replace RB1 := hide (HKb.out _ _ _ _ RB1.out hbn)
    replace RB2 := hide (HKb.out _ _ _ _ RB2.out hbn)
    replace TI1 := hide (HK1.out _ _ _ _ _ _ TI1.out hbn)
    clear hbn
    have qd0 := mem_cell HM.out 2 0 (w.heap.size + 1) (.slice E kk ecap) rfl
    have qd1 := mem_cell HM.out 2 1 (w.heap.size + 1) (.bool v) rfl
    go_wp2_with fail
    refine (HRo.out _ HB.out).mono ?_
    rintro e w52 ⟨⟨Q2, k4, F2, l4, rfl, TI2⟩, hb⟩
    replace HM := hide (HM.out.below hb)
    replace HB := hide (HB.out.trans (hb.mono HB.out.size))
    replace RB1 := hide (HKb.out _ _ _ _ RB1.out hb)
    replace RB2 := hide (HKb.out _ _ _ _ RB2.out hb)
    replace TI1 := hide (HK1.out _ _ _ _ _ _ TI1.out hb)
    replace TI2 := hide TI2
    clear hb qd0 qd1
    replace HM := hide (HM.out.alloc #[.slice Q2 zn1 k4, .bool u1, .slice F2 dn1 l4] 53)
    replace HB := hide (HB.out.alloc HB.out.size (Obj.cells #[.slice Q2 zn1 k4, .bool u1, .slice F2 dn1 l4] 53))
    have hbn := (Below.refl w52.heap.size w52).alloc (Nat.le_refl _) (Obj.cells #[.slice Q2 zn1 k4, .bool u1, .slice F2 dn1 l4] 53)
    replace RB1 := hide (HKb.out _ _ _ _ RB1.out hbn)
    replace RB2 := hide (HKb.out _ _ _ _ RB2.out hbn)
    replace TI1 := hide (HK1.out _ _ _ _ _ _ TI1.out hbn)
    replace TI2 := hide (HK1.out _ _ _ _ _ _ TI2.out hbn)
    clear hbn
    go_wp2_with fail
    refine (HRd.out _ HB.out).mono ?_
    rintro e w53 ⟨⟨Q3, k5, F3, l5, e3, rfl, TI3, EK3⟩, hb⟩
    replace HM := hide (HM.out.below hb)
    replace HB := hide (HB.out.trans (hb.mono HB.out.size))
    replace RB1 := hide (HKb.out _ _ _ _ RB1.out hb)
    replace RB2 := hide (HKb.out _ _ _ _ RB2.out hb)
    replace TI1 := hide (HK1.out _ _ _ _ _ _ TI1.out hb)
    replace TI2 := hide (HK1.out _ _ _ _ _ _ TI2.out hb)
    replace TI3 := hide TI3
    clear hb 
    replace HM := hide (HM.out.alloc #[.slice Q3 zn2 k5, .bool u2, .slice F3 dn2 l5] 53)
    replace HB := hide (HB.out.alloc HB.out.size (Obj.cells #[.slice Q3 zn2 k5, .bool u2, .slice F3 dn2 l5] 53))
    have hbn := (Below.refl w53.heap.size w53).alloc (Nat.le_refl _) (Obj.cells #[.slice Q3 zn2 k5, .bool u2, .slice F3 dn2 l5] 53)
    replace RB1 := hide (HKb.out _ _ _ _ RB1.out hbn)
    replace RB2 := hide (HKb.out _ _ _ _ RB2.out hbn)
    replace TI1 := hide (HK1.out _ _ _ _ _ _ TI1.out hbn)
    replace TI2 := hide (HK1.out _ _ _ _ _ _ TI2.out hbn)
    replace TI3 := hide (HK1.out _ _ _ _ _ _ TI3.out hbn)
    clear hbn
    go_wp2_with fail
    refine (HRe.out _ HB.out).mono ?_
    rintro e w54 ⟨⟨Q4, k6, F4, l6, rfl, TI4⟩, hb⟩
    replace HM := hide (HM.out.below hb)
    replace HB := hide (HB.out.trans (hb.mono HB.out.size))
    replace RB1 := hide (HKb.out _ _ _ _ RB1.out hb)
    replace RB2 := hide (HKb.out _ _ _ _ RB2.out hb)
    replace TI1 := hide (HK1.out _ _ _ _ _ _ TI1.out hb)
    replace TI2 := hide (HK1.out _ _ _ _ _ _ TI2.out hb)
    replace TI3 := hide (HK1.out _ _ _ _ _ _ TI3.out hb)
    replace TI4 := hide TI4
    clear hb 
    replace HM := hide (HM.out.alloc #[.slice Q4 zn2 k6, .bool u2, .slice F4 dn2 l6] 53)
    replace HB := hide (HB.out.alloc HB.out.size (Obj.cells #[.slice Q4 zn2 k6, .bool u2, .slice F4 dn2 l6] 53))
    have hbn := (Below.refl w54.heap.size w54).alloc (Nat.le_refl _) (Obj.cells #[.slice Q4 zn2 k6, .bool u2, .slice F4 dn2 l6] 53)
    replace RB1 := hide (HKb.out _ _ _ _ RB1.out hbn)
    replace RB2 := hide (HKb.out _ _ _ _ RB2.out hbn)
    replace TI1 := hide (HK1.out _ _ _ _ _ _ TI1.out hbn)
    replace TI2 := hide (HK1.out _ _ _ _ _ _ TI2.out hbn)
    replace TI3 := hide (HK1.out _ _ _ _ _ _ TI3.out hbn)
    replace TI4 := hide (HK1.out _ _ _ _ _ _ TI4.out hbn)
    clear hbn
    have HE1 := hide EK1
    have HE3 := hide EK3
    clear EK1 EK3 HOf HRo HRd HRe
    have qt0 := mem_cell HM.out 4 0 (w.heap.size) (.slice P n cap) rfl
    have qt1 := mem_cell HM.out 4 1 (w.heap.size) (.bool u) rfl
    have qt2 := mem_cell HM.out 4 2 (w.heap.size) (.slice D m dcap) rfl
    go_wp2_with fail
    refine (HTr.out _ HB.out).mono ?_
    rintro e w55 ⟨⟨B3, c3, rfl, RB3⟩, hb⟩
    replace HM := hide (HM.out.below hb)
    replace HB := hide (HB.out.trans (hb.mono HB.out.size))
    replace RB1 := hide (HKb.out _ _ _ _ RB1.out hb)
    replace RB2 := hide (HKb.out _ _ _ _ RB2.out hb)
    replace TI1 := hide (HK1.out _ _ _ _ _ _ TI1.out hb)
    replace TI2 := hide (HK1.out _ _ _ _ _ _ TI2.out hb)
    replace TI3 := hide (HK1.out _ _ _ _ _ _ TI3.out hb)
    replace TI4 := hide (HK1.out _ _ _ _ _ _ TI4.out hb)
    replace RB3 := hide RB3
    clear hb qt0 qt1 qt2
    go_wp2_with fail
    refine (HSr.out _ _ _ _ _ RB3.out RB1.out).mono ?_
    rintro e w56 ⟨rfl, hb⟩
    replace HM := hide (HM.out.below hb)
    replace HB := hide (HB.out.trans (hb.mono HB.out.size))
    replace RB1 := hide (HKb.out _ _ _ _ RB1.out hb)
    replace RB2 := hide (HKb.out _ _ _ _ RB2.out hb)
    replace TI1 := hide (HK1.out _ _ _ _ _ _ TI1.out hb)
    replace TI2 := hide (HK1.out _ _ _ _ _ _ TI2.out hb)
    replace TI3 := hide (HK1.out _ _ _ _ _ _ TI3.out hb)
    replace TI4 := hide (HK1.out _ _ _ _ _ _ TI4.out hb)
    replace RB3 := hide (HKb.out _ _ _ _ RB3.out hb)
    clear hb 
    have qt0 := mem_cell HM.out 4 0 (w.heap.size) (.slice P n cap) rfl
    have qt1 := mem_cell HM.out 4 1 (w.heap.size) (.bool u) rfl
    have qt2 := mem_cell HM.out 4 2 (w.heap.size) (.slice D m dcap) rfl
    go_wp2_with fail
    refine (HTb.out _ HB.out).mono ?_
    rintro e w57 ⟨⟨B4, c4, rfl, RB4⟩, hb⟩
    replace HM := hide (HM.out.below hb)
    replace HB := hide (HB.out.trans (hb.mono HB.out.size))
    replace RB1 := hide (HKb.out _ _ _ _ RB1.out hb)
    replace RB2 := hide (HKb.out _ _ _ _ RB2.out hb)
    replace TI1 := hide (HK1.out _ _ _ _ _ _ TI1.out hb)
    replace TI2 := hide (HK1.out _ _ _ _ _ _ TI2.out hb)
    replace TI3 := hide (HK1.out _ _ _ _ _ _ TI3.out hb)
    replace TI4 := hide (HK1.out _ _ _ _ _ _ TI4.out hb)
    replace RB3 := hide (HKb.out _ _ _ _ RB3.out hb)
    replace RB4 := hide RB4
    clear hb qt0 qt1 qt2
    go_wp2_with fail
    refine (HSb.out _ _ _ _ _ RB4.out RB2.out).mono ?_
    rintro e w58 ⟨rfl, hb⟩
    replace HM := hide (HM.out.below hb)
    replace HB := hide (HB.out.trans (hb.mono HB.out.size))
    replace RB1 := hide (HKb.out _ _ _ _ RB1.out hb)
    replace RB2 := hide (HKb.out _ _ _ _ RB2.out hb)
    replace TI1 := hide (HK1.out _ _ _ _ _ _ TI1.out hb)
    replace TI2 := hide (HK1.out _ _ _ _ _ _ TI2.out hb)
    replace TI3 := hide (HK1.out _ _ _ _ _ _ TI3.out hb)
    replace TI4 := hide (HK1.out _ _ _ _ _ _ TI4.out hb)
    replace RB3 := hide (HKb.out _ _ _ _ RB3.out hb)
    replace RB4 := hide (HKb.out _ _ _ _ RB4.out hb)
    clear hb 
    have qu0 := mem_cell HM.out 3 0 (w51.heap.size) (.slice Q1 zn1 k3) rfl
    have qu1 := mem_cell HM.out 3 1 (w51.heap.size) (.bool u1) rfl
    have qu2 := mem_cell HM.out 3 2 (w51.heap.size) (.slice F1 dn1 l3) rfl
    have qv0 := mem_cell HM.out 2 0 (w52.heap.size) (.slice Q2 zn1 k4) rfl
    have qv1 := mem_cell HM.out 2 1 (w52.heap.size) (.bool u1) rfl
    have qv2 := mem_cell HM.out 2 2 (w52.heap.size) (.slice F2 dn1 l4) rfl
    go_wp2_with fail
    refine (HS1.out _ _ _ _ _ _ _ _ _ TI1.out TI2.out).mono ?_
    rintro e w59 ⟨rfl, hb⟩
    replace HM := hide (HM.out.below hb)
    replace HB := hide (HB.out.trans (hb.mono HB.out.size))
    replace RB1 := hide (HKb.out _ _ _ _ RB1.out hb)
    replace RB2 := hide (HKb.out _ _ _ _ RB2.out hb)
    replace TI1 := hide (HK1.out _ _ _ _ _ _ TI1.out hb)
    replace TI2 := hide (HK1.out _ _ _ _ _ _ TI2.out hb)
    replace TI3 := hide (HK1.out _ _ _ _ _ _ TI3.out hb)
    replace TI4 := hide (HK1.out _ _ _ _ _ _ TI4.out hb)
    replace RB3 := hide (HKb.out _ _ _ _ RB3.out hb)
    replace RB4 := hide (HKb.out _ _ _ _ RB4.out hb)
    clear hb qu0 qu1 qu2 qv0 qv1 qv2
    go_wp2_with fail
    refine (HIs.out _ k1 e1 HB.out HE1.out).mono ?_
    rintro e w60 ⟨rfl, hb⟩
    replace HM := hide (HM.out.below hb)
    replace HB := hide (HB.out.trans (hb.mono HB.out.size))
    replace RB1 := hide (HKb.out _ _ _ _ RB1.out hb)
    replace RB2 := hide (HKb.out _ _ _ _ RB2.out hb)
    replace TI1 := hide (HK1.out _ _ _ _ _ _ TI1.out hb)
    replace TI2 := hide (HK1.out _ _ _ _ _ _ TI2.out hb)
    replace TI3 := hide (HK1.out _ _ _ _ _ _ TI3.out hb)
    replace TI4 := hide (HK1.out _ _ _ _ _ _ TI4.out hb)
    replace RB3 := hide (HKb.out _ _ _ _ RB3.out hb)
    replace RB4 := hide (HKb.out _ _ _ _ RB4.out hb)
    clear hb 
    have qx0 := mem_cell HM.out 1 0 (w53.heap.size) (.slice Q3 zn2 k5) rfl
    have qx1 := mem_cell HM.out 1 1 (w53.heap.size) (.bool u2) rfl
    have qx2 := mem_cell HM.out 1 2 (w53.heap.size) (.slice F3 dn2 l5) rfl
    have qy0 := mem_cell HM.out 0 0 (w54.heap.size) (.slice Q4 zn2 k6) rfl
    have qy1 := mem_cell HM.out 0 1 (w54.heap.size) (.bool u2) rfl
    have qy2 := mem_cell HM.out 0 2 (w54.heap.size) (.slice F4 dn2 l6) rfl
    go_wp2_with fail
    refine (HS2.out _ _ _ _ _ _ _ _ _ TI3.out TI4.out).mono ?_
    rintro e w61 ⟨rfl, hb⟩
    replace HM := hide (HM.out.below hb)
    replace HB := hide (HB.out.trans (hb.mono HB.out.size))
    replace RB1 := hide (HKb.out _ _ _ _ RB1.out hb)
    replace RB2 := hide (HKb.out _ _ _ _ RB2.out hb)
    replace TI1 := hide (HK1.out _ _ _ _ _ _ TI1.out hb)
    replace TI2 := hide (HK1.out _ _ _ _ _ _ TI2.out hb)
    replace TI3 := hide (HK1.out _ _ _ _ _ _ TI3.out hb)
    replace TI4 := hide (HK1.out _ _ _ _ _ _ TI4.out hb)
    replace RB3 := hide (HKb.out _ _ _ _ RB3.out hb)
    replace RB4 := hide (HKb.out _ _ _ _ RB4.out hb)
    clear hb qx0 qx1 qx2 qy0 qy1 qy2
    go_wp2_with fail
    refine (HIs.out _ k2 e3 HB.out HE3.out).mono ?_
    rintro e w62 ⟨rfl, hb⟩
    replace HM := hide (HM.out.below hb)
    replace HB := hide (HB.out.trans (hb.mono HB.out.size))
    replace RB1 := hide (HKb.out _ _ _ _ RB1.out hb)
    replace RB2 := hide (HKb.out _ _ _ _ RB2.out hb)
    replace TI1 := hide (HK1.out _ _ _ _ _ _ TI1.out hb)
    replace TI2 := hide (HK1.out _ _ _ _ _ _ TI2.out hb)
    replace TI3 := hide (HK1.out _ _ _ _ _ _ TI3.out hb)
    replace TI4 := hide (HK1.out _ _ _ _ _ _ TI4.out hb)
    replace RB3 := hide (HKb.out _ _ _ _ RB3.out hb)
    replace RB4 := hide (HKb.out _ _ _ _ RB4.out hb)
    clear hb 
    go_wp2_with fail
    go_ret
    exact ⟨rfl, HB.out⟩
theorem bytes_any (es : List Addr) (zs ds ws : List Int) (bs : List Nat) (P D E A : Option Addr) (cap dcap ecap bcap : Nat) (u v : Bool) (w : World) (hr : Ri w P zs) (hd : Ri w D ds) (he : Ri w E ws) (hb : Rb w A bs) (hbc : bs.length ≤ bcap) (hZ : Ez w es) :
    Calls Tryd.prog 9 #[.agg (tcells P zs.length cap u D ds.length dcap), .agg (dcells E ws.length ecap v), .slice A bs.length bcap] w fun e w' => e = .returned (.bool true) ∧ Below w.heap.size w w' := by
  obtain ⟨ah, am, ar, ae, ak, hes⟩ := terrs_of hZ
  by_cases h : zs.length ≤ 8 ∧ ds.length ≤ 300 ∧ ws.length ≤ 8 ∧ bs.length ≤ 300
  · exact bytes_all es ah am ar ae ak hes zs ds ws bs P D E A cap dcap ecap bcap u v w hr hd he hb h.1 h.2.1 h.2.2.1 h.2.2.2 hbc hZ
  · exact bytes_long P D E A _ cap _ dcap _ ecap _ bcap u v ah am ar w h (hes.e3 hZ)
end Go.Proofs.YtnbjcdmiehnceaaDoor
