/-
  The law TensBack over a tensor without fault. By an AI agent. No person has read it.
-/
import Derived.Test.YtnbjcdmiehnceaaDoorTenBack0
namespace Go.Proofs.YtnbjcdmiehnceaaDoor
open Go.RowKit

set_option maxRecDepth 100000 in
set_option maxHeartbeats 8000000 in
theorem tback_A (es : List Addr) (ah am ar ae ak : Addr) (hes : TErrs es ah am ar ae ak) (zs ds : List Int) (beh : List Nat) (P D Q : Option Addr) (cap dcap capq : Nat) (u : Bool) (q : Int) (w : World) (hr : Ri w P zs) (hd : Ri w D ds) (hq : Rb w Q beh) (hm : zs.length ≤ 8) (hdm : ds.length ≤ 300) (hym : beh.length ≤ 50) (hZ : Ez w es) (hA : Tens.fault zs u ds = (0, none)) :
    Calls Tryd.prog 10 #[.agg (tcells P zs.length cap u D ds.length dcap), .slice Q beh.length capq, .int .i64 q] w fun e w' => e = .returned (.bool true) ∧ Below w.heap.size w w' := by
  have hb0 := (Below.refl _ w).alloc (Nat.le_refl _) (Obj.cells (tcells P zs.length cap u D ds.length dcap) 53)
  have hE := hes.e3 hZ
  have HF := hide (first6_c ah am ar _ (hE.below hb0))
  have hT := tens_row w P zs.length cap u D ds.length dcap
  have hB := hb0
  have HLow := hide (fun g a (h1 : ∃ i : Nat, egs[i]? = some g ∧ es[i]? = some a) => hZ.low g a h1)
  replace hZ := hZ.below hb0
  have HWT := hide (fun W => worldtensor_c P D zs.length cap ds.length dcap u W)
  have e2 : (decide (zs.length ≤ 8) && decide (ds.length ≤ 300)) = true := by simp [hm, hdm]
  rw [e2] at HWT
  obtain ⟨bk0, bk1, bk2, bk3, bk4, bk5, bk6, bk7⟩ := Tens.back hA beh
  obtain ⟨bs, hbs⟩ : ∃ bs, Tens.bytes zs u ds = bs := ⟨_, rfl⟩
  obtain ⟨raw, hraw⟩ : ∃ raw, Tens.raw zs u ds = raw := ⟨_, rfl⟩
  have h256 : ∀ b ∈ bs, b < 256 := by rw [← hbs]; exact Tens.bytes_lt zs u ds
  have hraw256 : ∀ b ∈ raw, b < 256 := by rw [← hraw]; exact Tens.raw_lt zs u ds
  have hszl := Shp.size_le zs u
  have hrn : Tens.rn (Tens.bytes zs u ds ++ beh) ≤ 15 := Tens.rn_le _
  obtain ⟨nb, hnb⟩ : ∃ nb, bs.length = nb := ⟨_, rfl⟩
  obtain ⟨S, hS⟩ : ∃ S, raw.length = S := ⟨_, rfl⟩
  rw [hbs] at bk0 bk1 bk2 bk3 bk4 bk5 bk7 hrn
  rw [hraw] at bk5 bk6
  rw [hnb] at bk3 bk7
  rw [hS] at bk5 bk6
  have hnb0 : 0 < nb := by rw [← hnb, ← hbs]; exact Tens.bytes_pos hA
  have hnbl : nb ≤ 100000 := by omega
  have hSl : S ≤ 100000 := by omega
  have HB256 := hide h256
  have HBt : Hid (∀ W, Below w.heap.size w W → Ez W es → Calls Tryd.prog 61 #[.agg (tcells P zs.length cap u D ds.length dcap)] W fun e w' => (∃ A c, e = .returned (.slice A nb c) ∧ Rb w' A bs ∧ nb ≤ c ∧ ∀ ad, A = some ad → ad.block < w'.heap.size) ∧ Below W.heap.size W w') := hide fun W hb hz => by
    refine (tbytes_c zs ds P D cap dcap u ah am ar W (hr.below hb) (hd.below hb) (by omega) (by omega) (hes.e3 hz)).mono ?_
    rintro e w' ⟨⟨v, rfl, ho⟩, hb2⟩
    rw [hbs, hnb] at ho
    obtain ⟨A, c, rfl, h1, h2⟩ := own_rbs ho h256
    refine ⟨⟨A, c, rfl, h1, h2, fun ad e => ?_⟩, hb2⟩
    obtain ⟨ad2, e2, h3, -⟩ := h1.2 (by rintro rfl; simp at hnb; omega)
    rw [e2] at e
    cases e
    exact h3
  have HVal : Hid (∀ W, Below w.heap.size w W → Ez W es → Calls Tryd.prog 44 #[.agg (tcells P zs.length cap u D ds.length dcap)] W fun e w' => e = .returned .nilIface ∧ Below W.heap.size W w') := hide fun W hb hz => by
    refine (tvalid_c zs ds P D cap dcap u ah am ar W (hr.below hb) (hd.below hb) (by omega) (by omega) (hes.e3 hz)).mono ?_
    rintro e w' ⟨⟨v, rfl, hv⟩, hb2⟩
    rw [hA] at hv
    exact ⟨congrArg Ending.returned hv, hb2⟩
  have HRB : Hid (∀ W A c, Rb W A bs → Calls Tryd.prog 62 #[.slice A nb c] W fun e w' => (∃ v, e = .returned v ∧ w'.ownsRow W.heap.size 5 1 v nb (u8s bs)) ∧ Below W.heap.size W w') := hide fun W A c h => by
    have := rbytes_c bs A c W h (by omega)
    rw [hnb] at this
    refine this.mono ?_
    rintro e w' ⟨⟨v, rfl, h1, -⟩, hb⟩
    exact ⟨⟨v, rfl, h1⟩, hb⟩
  have HBe := hide (fun W (hb : Below w.heap.size w W) => hq.below hb)
  have HRd : Hid (∀ W A c, Ez W es → Rb W A (bs ++ beh) → nb + beh.length ≤ c → Calls Tryd.prog 57 #[.slice A (nb + beh.length) c] W fun e w' => (∃ g c1 rest gd, e = .returned (.tuple #[.agg (tcells (some ⟨g, 0, none⟩) zs.length c1 u (some ⟨gd, 0, none⟩) ds.length ds.length), .int .i64 ((nb : Nat) : Int), .nilIface]) ∧ Has w' g 3 (i64s zs ++ rest) ∧ Has w' gd 3 (i64s ds)) ∧ Below W.heap.size W w') := hide fun W A c hz hR hc => by
    have := tread_c (bs ++ beh) A c am ar ae ak W hR (by rw [List.length_append, hnb]; omega) (by rw [List.length_append, hnb]; omega) (hes.e3 hz).2 (hes.end_ hz) (hes.kind hz)
    rw [List.length_append, hnb] at this
    refine this.mono ?_
    rintro e w' ⟨h1, -, hb⟩
    obtain ⟨g, c1, rest, gd, ns, hns, rfl, h3, h4⟩ := h1 bk0
    rw [bk2, bk4] at hns
    subst hns
    rw [bk1] at h3
    exact ⟨⟨g, c1, rest, gd, by rw [bk1, bk2, bk3], h3, h4⟩, hb⟩
  have HRaw : Hid (∀ W, Below w.heap.size w W → Ez W es → Calls Tryd.prog 60 #[.agg (tcells P zs.length cap u D ds.length dcap)] W fun e w' => (∃ A c, e = .returned (.slice A S c) ∧ Rb w' A raw ∧ S ≤ c) ∧ Below W.heap.size W w') := hide fun W hb hz => by
    refine (traw_c zs ds P D cap dcap u ah am ar W (hr.below hb) (hd.below hb) (by omega) (by omega) (hes.e3 hz)).mono ?_
    rintro e w' ⟨⟨v, rfl, ho⟩, hb2⟩
    rw [hraw, hS] at ho
    obtain ⟨A, c, rfl, h1, h2⟩ := own_rbs ho hraw256
    exact ⟨⟨A, c, rfl, h1, h2⟩, hb2⟩
  have hcode := Tens.fault_zero0 hA
  have hnums : Tens.nums u raw = ds := by rw [← hraw]; exact Tens.nums_raw hA
  have HOf : Hid (∀ W A c, Below w.heap.size w W → Ez W es → Rb W A raw → S ≤ c → Calls Tryd.prog 55 #[.agg (dcells P zs.length cap u), .slice A S c] W fun e w' => (∃ g c1 rest gd, e = .returned (.tuple #[.agg (tcells (some ⟨g, 0, none⟩) zs.length c1 u (some ⟨gd, 0, none⟩) ds.length ds.length), .nilIface]) ∧ Has w' g 3 (i64s zs ++ rest) ∧ Has w' gd 3 (i64s ds)) ∧ Below W.heap.size W w') := hide fun W A c hb hz hR hc => by
    have := tof_c zs raw P A cap c u am ar ae W (hr.below hb) hR (by omega) (by omega) (by omega) (hes.e3 hz).2 (hes.end_ hz)
    rw [hS, hnums] at this
    refine this.mono ?_
    rintro e w' ⟨h1, -, -, -, hb2⟩
    exact ⟨h1 hcode (by omega), hb2⟩
  have HNum := hide (fun W => number_c q nb hnb0 (by omega) (nb : Int) rfl W)
  have HRk : Hid (∀ W A c k, k < nb → Ez W es → Rb W A (bs.take k) → k ≤ c → Calls Tryd.prog 57 #[.slice A k c] W fun e w' => e = .returned (.tuple #[.agg (tcells none 0 0 false none 0 0), .int .i64 0, errv ae]) ∧ Below W.heap.size W w') := hide fun W A c k hk hz hR hc => by
    have hlk : (bs.take k).length = k := by rw [List.length_take, hnb]; omega
    have := tread_c (bs.take k) A c am ar ae ak W hR (by omega) (by omega) (hes.e3 hz).2 (hes.end_ hz) (hes.kind hz)
    rw [hlk] at this
    refine this.mono ?_
    rintro e w' ⟨-, h1, hb⟩
    have h2 := bk7 k hk
    exact ⟨(h1 (by rw [h2]; decide)).trans (by rw [h2]; rfl), hb⟩
  have HSt : Hid (∀ W g c1 rest gd, Below w.heap.size w W → Has W g 3 (i64s zs ++ rest) → Has W gd 3 (i64s ds) → Calls Tryd.prog 63 #[.agg (tcells P zs.length cap u D ds.length dcap), .agg (tcells (some ⟨g, 0, none⟩) zs.length c1 u (some ⟨gd, 0, none⟩) ds.length ds.length)] W fun e w' => e = .returned (.bool true) ∧ Below W.heap.size W w') := hide fun W g c1 rest gd hb h1 h2 => by
    have := tsame_c zs zs ds ds P (some ⟨g, 0, none⟩) D (some ⟨gd, 0, none⟩) cap c1 dcap ds.length u u W (hr.below hb) (h1.ri_app hr.1) (hd.below hb) (h2.ri hd.1) (by omega) (by omega) (by omega) (by omega)
    have e1 : ((decide (zs = zs) && (u == u)) && decide (ds = ds)) = true := by simp
    rw [e1] at this
    exact this
  have HIs : Hid (∀ W, Ez W es → Calls Tryd.prog 17 #[errv ae, .int .i64 105] W fun e w' => e = .returned (.bool true) ∧ Below W.heap.size W w') := hide fun W hz => is_c es 4 ae hes.2.2.2.1 105 W hz
  clear hes hE hr hd hq e2 bk0 bk1 bk2 bk3 bk4 bk5 bk6 bk7 hrn hszl hraw256 h256 hcode hnums hA hbs hraw hnb hS hb0
  obtain ⟨n, hn⟩ : ∃ n, Hid (zs.length = n) := ⟨_, hide rfl⟩
  obtain ⟨m, hm'⟩ : ∃ m, Hid (ds.length = m) := ⟨_, hide rfl⟩
  obtain ⟨l, hl'⟩ : ∃ l, Hid (beh.length = l) := ⟨_, hide rfl⟩
  rw [hn.out] at HWT HBt HVal HRd HRaw HOf HSt hm
  rw [hm'.out] at HWT HBt HVal HRd HRaw HOf HSt hdm
  rw [hl'.out] at HRd hym
  rw [hn.out, hm'.out] at hB
  rw [hn.out, hm'.out] at hT
  rw [hn.out, hm'.out] at HF
  rw [hn.out, hm'.out] at hZ
  rw [hn.out, hm'.out, hl'.out]
  have hl8 : (l : Int) ≤ 50 := by omega
  obtain ⟨w0, hw0⟩ : ∃ w0, Hid (w.alloc (Obj.cells (tcells P n cap u D m dcap) 53) = w0) := ⟨_, hide rfl⟩
  rw [hw0.out] at hB hT HF hZ
  go_enter Tryd.func10, Tryd.ntmps10
  go_wp2_with fail
  have hw0' := hw0.out
  rw [hw0']
  clear hw0 hw0'
  refine HF.out.mono ?_
  rintro e w1 ⟨rfl, hb⟩
  replace hT := hT.below hb hT.lt
  replace hB := hB.trans (hb.mono hB.size)
  replace hZ := hZ.below hb
  clear hb HF
  have c0 : (w1).cell? ⟨w.heap.size, 0, none⟩ = some (.slice P n cap) := by rw [hT.cell]; rfl
  have c1 : (w1).cell? ⟨w.heap.size, 1, none⟩ = some (.bool u) := by rw [hT.cell]; rfl
  have c2 : (w1).cell? ⟨w.heap.size, 2, none⟩ = some (.slice D m dcap) := by rw [hT.cell]; rfl
  go_wp2_with fail
  refine (HWT.out w1).mono ?_
  rintro e w2 ⟨rfl, hb⟩
  clear c0 c1 c2
  replace hT := hT.below hb hT.lt
  replace hB := hB.trans (hb.mono hB.size)
  replace hZ := hZ.below hb
  clear hb HWT
  have c0 : (w2).cell? ⟨w.heap.size, 0, none⟩ = some (.slice P n cap) := by rw [hT.cell]; rfl
  have c1 : (w2).cell? ⟨w.heap.size, 1, none⟩ = some (.bool u) := by rw [hT.cell]; rfl
  have c2 : (w2).cell? ⟨w.heap.size, 2, none⟩ = some (.slice D m dcap) := by rw [hT.cell]; rfl
  go_wp2_with fail
  refine (HBt.out w2 hB hZ).mono ?_
  rintro e w3 ⟨⟨A, cb, rfl, hRb, hcb, hAb⟩, hb⟩
  clear c0 c1 c2
  have hsz := hB.size
  have hBl : ∀ ad, A = some ad → ad.block < w3.heap.size := hAb
  replace hT := hT.below hb hT.lt
  replace hB := hB.trans (hb.mono hB.size)
  replace hZ := hZ.below hb
  clear hb HBt hAb
  generalize hs3 : w3.heap.size = s3 at hBl
  have hs3' : s3 ≤ w3.heap.size := by omega
  clear hs3
  have c0 : (w3).cell? ⟨w.heap.size, 0, none⟩ = some (.slice P n cap) := by rw [hT.cell]; rfl
  have c1 : (w3).cell? ⟨w.heap.size, 1, none⟩ = some (.bool u) := by rw [hT.cell]; rfl
  have c2 : (w3).cell? ⟨w.heap.size, 2, none⟩ = some (.slice D m dcap) := by rw [hT.cell]; rfl
  go_wp2_with fail
  refine (HVal.out w3 hB hZ).mono ?_
  rintro e w4 ⟨rfl, hb⟩
  clear c0 c1 c2
  have hs4 := hb.size
  replace hT := hT.below hb hT.lt
  replace hRb := hRb.below hb
  replace hB := hB.trans (hb.mono hB.size)
  replace hZ := hZ.below hb
  clear hb HVal
  have c0 : (w4).cell? ⟨w.heap.size, 0, none⟩ = some (.slice P n cap) := by rw [hT.cell]; rfl
  have c1 : (w4).cell? ⟨w.heap.size, 1, none⟩ = some (.bool u) := by rw [hT.cell]; rfl
  have c2 : (w4).cell? ⟨w.heap.size, 2, none⟩ = some (.slice D m dcap) := by rw [hT.cell]; rfl
  go_wp2_with fail
  refine (HRB.out w4 _ _ hRb).mono ?_
  rintro e w5 ⟨⟨v5, rfl, hown⟩, hb5⟩
  clear c0 c1 c2
  have hbe := (HBe.out w4 hB).below hb5
  have hs5 := hb5.size
  go_wp2_with (at_builtin; refine wpList_append_bs rfl _ _ rfl w4.heap.size v5 nb _ rfl hown Q l capq beh rfl hl' hbe (by omega) hb5.size ?_)
  intro v6 w6 hown6 hg6 hat6
  have hb : Below w4.heap.size w4 w6 := hb5.grown hg6 hb5.size (fun k hk => (hown.lt k hk).1)
  obtain ⟨A6, c6, rfl, hR6, hc6⟩ := own_rbs (bs := bs ++ beh) (by simpa [u8s] using hown6) (fun b hb => (List.mem_append.1 hb).elim (HB256.out b) (hbe.1 b))
  have hs6 := hb.size
  replace hT := hT.below hb hT.lt
  replace hRb := hRb.below hb
  replace hB := hB.trans (hb.mono hB.size)
  replace hZ := hZ.below hb
  clear hown6 hg6 hat6 hown hb5 hbe hb HRB HBe
  go_wp2_with fail
  refine (HRd.out _ _ _ hZ hR6 hc6).mono ?_
  rintro e w7 ⟨⟨g5, c5, rest5, gd5, rfl, hg5, hd5⟩, hb⟩
  have hs7 := hb.size
  replace hT := hT.below hb hT.lt
  replace hRb := hRb.below hb
  replace hB := hB.trans (hb.mono hB.size)
  replace hZ := hZ.below hb
  clear hb hR6 hc6 HRd
  have hu : Has (w7.alloc (Obj.cells #[.slice (some ⟨g5, 0, none⟩) n c5, .bool u, .slice (some ⟨gd5, 0, none⟩) m m] 53)) w7.heap.size 53 [.slice (some ⟨g5, 0, none⟩) n c5, .bool u, .slice (some ⟨gd5, 0, none⟩) m m] := Has.new w7 _ _
  have hal := (Below.refl w7.heap.size w7).alloc (Nat.le_refl _) (Obj.cells #[.slice (some ⟨g5, 0, none⟩) n c5, .bool u, .slice (some ⟨gd5, 0, none⟩) m m] 53)
  replace hT := hT.below hal hT.lt
  replace hg5 := hg5.below hal hg5.lt
  replace hd5 := hd5.below hal hd5.lt
  replace hRb := hRb.below hal
  replace hB := hB.trans (hal.mono hB.size)
  replace hZ := hZ.below hal
  clear hal
  go_wp2_with fail
  generalize w7.alloc (Obj.cells #[.slice (some ⟨g5, 0, none⟩) n c5, .bool u, .slice (some ⟨gd5, 0, none⟩) m m] 53) = W7 at *
  generalize w7.heap.size = B7 at *
  have hsT := hT.lt
  have hsu := hu.lt
  replace hT := hT.drewN 1
  replace hu := hu.drewN 1
  replace hg5 := hg5.drewN 1
  replace hd5 := hd5.drewN 1
  have hdr : Below W7.heap.size W7 W7.drew := (Below.refl _ _).drew
  replace hRb := hRb.below hdr
  replace hB := hB.drew
  replace hZ := hZ.below hdr
  clear hdr
  refine wp_region_held_drew (S := TeS w.heap.size (.slice P n cap) (.bool u) (.slice D m dcap)) (by kernel_rfl) (TeS.of hT) (fun hH0 => ?_)
  obtain ⟨Wd, hWd⟩ : ∃ Wd, Wd = W7.drew := ⟨_, rfl⟩
  have hsd : W7.heap.size = W7.drew.heap.size := rfl
  change Has W7.drew _ _ _ at hT hu hg5 hd5
  simp only [← hWd] at hT hu hg5 hd5 hRb hB hZ hH0 hsd ⊢
  clear hWd
  refine wpAnyH_take (i := 0) (oi := { dst := some 58, op := Op.fieldAddr 53 (Operand.tmp 3) 0, type := 0, pos := "law.go:86", after := #[], guard := none }) (v := ?v0) rfl (by kernel_rfl) (by kernel_rfl) (by kernel_rfl) (fun _ _ _ h => h) (Or.inl ⟨by rfl, ?hy0⟩) (by assumption) ?r0
  case hy0 =>
    intro w hSw
    (try dsimp only at hSw)
    go_simp
    all_goals with_reducible rfl
  (try simp only [Act.put, List.setIfInBounds_toArray, List.set_cons_zero, List.set_cons_succ])
  refine wpAnyH_take (i := 1) (oi := { dst := some 59, op := Op.load 24 (Operand.tmp 58), type := 24, pos := "law.go:86", after := #[{ on := 0, ground := Ground.data }], guard := none }) (v := ?v1) rfl (by kernel_rfl) (by kernel_rfl) (by kernel_rfl) (fun _ _ _ h => h) (Or.inl ⟨by rfl, ?hy1⟩) (by assumption) ?r1
  case hy1 =>
    intro w hSw
    (try dsimp only at hSw)
    go_simp
    all_goals with_reducible rfl
  (try simp only [Act.put, List.setIfInBounds_toArray, List.set_cons_zero, List.set_cons_succ])
  refine wpAnyH_take (i := 2) (oi := { dst := some 60, op := Op.load 53 (Operand.tmp 3), type := 53, pos := "law.go:86", after := #[], guard := none }) (v := ?v2) rfl (by kernel_rfl) (by kernel_rfl) (by kernel_rfl) (fun _ _ _ h => h) (Or.inl ⟨by rfl, ?hy2⟩) (by assumption) ?r2
  case hy2 =>
    intro w hSw
    (try dsimp only at hSw)
    go_simp
    all_goals with_reducible rfl
  (try simp only [Act.put, List.setIfInBounds_toArray, List.set_cons_zero, List.set_cons_succ])
  refine wpAnyH_ready (rs := [3, 8]) (by kernel_rfl) (by simp) ?_
  refine AllReadyH.cons (o := { dst := some 61, op := Op.call { callee := Callee.value (Operand.func 60), args := #[Operand.tmp 60], argTypes := #[53] }, type := 69, pos := "law.go:86", after := #[{ on := 2, ground := Ground.data }], guard := none }) rfl (fun K hK => ?_) (AllReadyH.cons (o := { dst := some 12, op := Op.alloc 53, type := 0, pos := "law.go:86", after := #[], guard := none }) rfl (fun K hK => ?_) AllReadyH.nil)
  focus
    go_simp
    refine (HRaw.out _ hB hZ).mono ?_
    rintro e W8 ⟨⟨Ar, cr, rfl, hRr, hcr⟩, hb⟩
    go_wp2_with fail
    replace hT := hT.below hb hT.lt
    replace hg5 := hg5.below hb hg5.lt
    replace hd5 := hd5.below hb hd5.lt
    replace hu := hu.below hb hu.lt
    replace hRb := hRb.below hb
    replace hB := hB.trans (hb.mono hB.size)
    replace hZ := hZ.below hb
    clear hb
    refine hK.out _ _ ?_ (fun hH1 => ?_)
    · exact TeS.of hT
    clear hK K
    (try simp only [Act.put, List.setIfInBounds_toArray, List.set_cons_zero, List.set_cons_succ])
    refine wpAnyH_ready (rs := [4, 8]) (by kernel_rfl) (by simp) ?_
    refine AllReadyH.cons (o := { dst := some 62, op := Op.call { callee := Callee.value (Operand.func 55), args := #[Operand.tmp 59, Operand.tmp 61], argTypes := #[24, 69] }, type := 59, pos := "law.go:86", after := #[{ on := 1, ground := Ground.data }, { on := 3, ground := Ground.data }, { on := 3, ground := Ground.chain }], guard := none }) rfl (fun K hK => ?_) (AllReadyH.cons (o := { dst := some 12, op := Op.alloc 53, type := 0, pos := "law.go:86", after := #[], guard := none }) rfl (fun K hK => ?_) AllReadyH.nil)
    focus
      go_simp
      refine (HOf.out _ _ _ hB hZ hRr hcr).mono ?_
      rintro e W9 ⟨⟨g6, c6, rest6, gd6, rfl, hg6, hd6⟩, hb⟩
      go_wp2_with fail
      replace hT := hT.below hb hT.lt
      replace hg5 := hg5.below hb hg5.lt
      replace hd5 := hd5.below hb hd5.lt
      replace hu := hu.below hb hu.lt
      replace hRb := hRb.below hb
      replace hRr := hRr.below hb
      replace hB := hB.trans (hb.mono hB.size)
      replace hZ := hZ.below hb
      clear hb hRr hcr
      refine hK.out _ _ ?_ (fun hH2 => ?_)
      · exact TeS.of hT
      clear hK K
      (try simp only [Act.put, List.setIfInBounds_toArray, List.set_cons_zero, List.set_cons_succ])
      refine wpAnyH_take (i := 5) (oi := { dst := some 57, op := Op.move (Operand.tmp 62), type := 59, pos := "law.go:86", after := #[{ on := 4, ground := Ground.data }], guard := none }) (v := ?v5x3) rfl (by kernel_rfl) (by kernel_rfl) (by kernel_rfl) (fun _ _ _ h => h) (Or.inl ⟨by rfl, ?hy5x3⟩) (by assumption) ?r5x3
      case hy5x3 =>
        intro w hSw
        (try dsimp only at hSw)
        go_simp
        all_goals with_reducible rfl
      (try simp only [Act.put, List.setIfInBounds_toArray, List.set_cons_zero, List.set_cons_succ])
      refine wpAnyH_take (i := 6) (oi := { dst := some 63, op := Op.extract (Operand.tmp 57) 0, type := 53, pos := "law.go:86", after := #[{ on := 5, ground := Ground.data }], guard := none }) (v := ?v6x3) rfl (by kernel_rfl) (by kernel_rfl) (by kernel_rfl) (fun _ _ _ h => h) (Or.inl ⟨by rfl, ?hy6x3⟩) (by assumption) ?r6x3
      case hy6x3 =>
        intro w hSw
        (try dsimp only at hSw)
        go_simp
        all_goals with_reducible rfl
      (try simp only [Act.put, List.setIfInBounds_toArray, List.set_cons_zero, List.set_cons_succ])
      refine wpAnyH_take (i := 7) (oi := { dst := some 64, op := Op.extract (Operand.tmp 57) 1, type := 30, pos := "law.go:86", after := #[{ on := 5, ground := Ground.data }, { on := 9, ground := Ground.gcOnly Departure.lateStores }], guard := none }) (v := ?v7x3) rfl (by kernel_rfl) (by kernel_rfl) (by kernel_rfl) (fun _ _ _ h => h) (Or.inl ⟨by rfl, ?hy7x3⟩) (by assumption) ?r7x3
      case hy7x3 =>
        intro w hSw
        (try dsimp only at hSw)
        go_simp
        all_goals with_reducible rfl
      (try simp only [Act.put, List.setIfInBounds_toArray, List.set_cons_zero, List.set_cons_succ])
      refine wpAnyH_ready (rs := [8]) (by kernel_rfl) (by simp) ?_
      refine AllReadyH.cons (o := { dst := some 12, op := Op.alloc 53, type := 0, pos := "law.go:86", after := #[], guard := none }) rfl (fun K hK => ?_) AllReadyH.nil
      go_simp
      have hv8 : Has (W9.alloc (Obj.cells #[.slice none 0 0, .bool false, .slice none 0 0] 53)) W9.heap.size 53 [.slice none 0 0, .bool false, .slice none 0 0] := Has.new W9 _ _
      have hb9 : Below W9.heap.size W9 (W9.alloc (Obj.cells #[.slice none 0 0, .bool false, .slice none 0 0] 53)) := (Below.refl _ _).alloc (Nat.le_refl _) _
      have lt_hT := hT.lt
      have lt_hg5 := hg5.lt
      have lt_hd5 := hd5.lt
      have lt_hu := hu.lt
      have lt_hg6 := hg6.lt
      have lt_hd6 := hd6.lt
      replace hT := hT.below hb9 hT.lt
      replace hg5 := hg5.below hb9 hg5.lt
      replace hd5 := hd5.below hb9 hd5.lt
      replace hu := hu.below hb9 hu.lt
      replace hg6 := hg6.below hb9 hg6.lt
      replace hd6 := hd6.below hb9 hd6.lt
      replace hRb := hRb.below hb9
      replace hB := hB.trans (hb9.mono hB.size)
      replace hZ := hZ.below hb9
      clear hb9
      refine hK.out _ _ ?_ (fun hH4 => ?_)
      · exact TeS.of hT
      clear hK K
      (try simp only [Act.put, List.setIfInBounds_toArray, List.set_cons_zero, List.set_cons_succ])
      obtain ⟨Wn, hWn⟩ : ∃ Wn, Wn = (W9.alloc (Obj.cells #[.slice none 0 0, .bool false, .slice none 0 0] 53)) := ⟨_, rfl⟩
      simp only [← hWn] at hT hg5 hd5 hu hg6 hd6 hv8 hRb hB hZ hH4 ⊢
      clear hWn
      have d0 : Wn.cell? ⟨W9.heap.size, 0, none⟩ = some (.slice none 0 0) := by rw [hv8.cell]; rfl
      have f0 := hv8.frozen 0
      have d1 : Wn.cell? ⟨W9.heap.size, 1, none⟩ = some (.bool false) := by rw [hv8.cell]; rfl
      have f1 := hv8.frozen 1
      have d2 : Wn.cell? ⟨W9.heap.size, 2, none⟩ = some (.slice none 0 0) := by rw [hv8.cell]; rfl
      have f2 := hv8.frozen 2
      have hTz := ((hT.far (p := ⟨W9.heap.size, 0, none⟩) (by simp; omega) (.slice (some ⟨g6, 0, none⟩) n c6)).far (p := ⟨W9.heap.size, 1, none⟩) (by simp; omega) (.bool u)).far (p := ⟨W9.heap.size, 2, none⟩) (by simp; omega) (.slice (some ⟨gd6, 0, none⟩) m m)
      have ne_hg5 := hg5.apart hv8 (by decide)
      have hg5z := ((hg5.far (p := ⟨W9.heap.size, 0, none⟩) (ne_hg5) (.slice (some ⟨g6, 0, none⟩) n c6)).far (p := ⟨W9.heap.size, 1, none⟩) (ne_hg5) (.bool u)).far (p := ⟨W9.heap.size, 2, none⟩) (ne_hg5) (.slice (some ⟨gd6, 0, none⟩) m m)
      have ne_hd5 := hd5.apart hv8 (by decide)
      have hd5z := ((hd5.far (p := ⟨W9.heap.size, 0, none⟩) (ne_hd5) (.slice (some ⟨g6, 0, none⟩) n c6)).far (p := ⟨W9.heap.size, 1, none⟩) (ne_hd5) (.bool u)).far (p := ⟨W9.heap.size, 2, none⟩) (ne_hd5) (.slice (some ⟨gd6, 0, none⟩) m m)
      have huz := ((hu.far (p := ⟨W9.heap.size, 0, none⟩) (by simp; omega) (.slice (some ⟨g6, 0, none⟩) n c6)).far (p := ⟨W9.heap.size, 1, none⟩) (by simp; omega) (.bool u)).far (p := ⟨W9.heap.size, 2, none⟩) (by simp; omega) (.slice (some ⟨gd6, 0, none⟩) m m)
      have ne_hg6 := hg6.apart hv8 (by decide)
      have hg6z := ((hg6.far (p := ⟨W9.heap.size, 0, none⟩) (ne_hg6) (.slice (some ⟨g6, 0, none⟩) n c6)).far (p := ⟨W9.heap.size, 1, none⟩) (ne_hg6) (.bool u)).far (p := ⟨W9.heap.size, 2, none⟩) (ne_hg6) (.slice (some ⟨gd6, 0, none⟩) m m)
      have ne_hd6 := hd6.apart hv8 (by decide)
      have hd6z := ((hd6.far (p := ⟨W9.heap.size, 0, none⟩) (ne_hd6) (.slice (some ⟨g6, 0, none⟩) n c6)).far (p := ⟨W9.heap.size, 1, none⟩) (ne_hd6) (.bool u)).far (p := ⟨W9.heap.size, 2, none⟩) (ne_hd6) (.slice (some ⟨gd6, 0, none⟩) m m)
      have hv8z := ((hv8.set_ 0 (.slice (some ⟨g6, 0, none⟩) n c6)).set_ 1 (.bool u)).set_ 2 (.slice (some ⟨gd6, 0, none⟩) m m)
      have hlz : W9.heap.size < Wn.heap.size := hv8.lt
      have hbz : Below W9.heap.size Wn (((Wn.setCell ⟨W9.heap.size, 0, none⟩ (.slice (some ⟨g6, 0, none⟩) n c6)).setCell ⟨W9.heap.size, 1, none⟩ (.bool u)).setCell ⟨W9.heap.size, 2, none⟩ (.slice (some ⟨gd6, 0, none⟩) m m)) := (((Below.refl W9.heap.size Wn).setCell (p := ⟨W9.heap.size, 0, none⟩) (Nat.le_refl _) (.slice (some ⟨g6, 0, none⟩) n c6)).setCell (p := ⟨W9.heap.size, 1, none⟩) (Nat.le_refl _) (.bool u)).setCell (p := ⟨W9.heap.size, 2, none⟩) (Nat.le_refl _) (.slice (some ⟨gd6, 0, none⟩) m m)
      have hBz := hB.trans (hbz.mono (by omega))
      have hgz : Wn.grownBy (((Wn.setCell ⟨W9.heap.size, 0, none⟩ (.slice (some ⟨g6, 0, none⟩) n c6)).setCell ⟨W9.heap.size, 1, none⟩ (.bool u)).setCell ⟨W9.heap.size, 2, none⟩ (.slice (some ⟨gd6, 0, none⟩) m m)) (some W9.heap.size) := grown_set (grown_set (grown_set (World.grownBy.refl _ _) ⟨W9.heap.size, 0, none⟩ rfl (.slice (some ⟨g6, 0, none⟩) n c6)) ⟨W9.heap.size, 1, none⟩ rfl (.bool u)) ⟨W9.heap.size, 2, none⟩ rfl (.slice (some ⟨gd6, 0, none⟩) m m)
      have hZz : Ez (((Wn.setCell ⟨W9.heap.size, 0, none⟩ (.slice (some ⟨g6, 0, none⟩) n c6)).setCell ⟨W9.heap.size, 1, none⟩ (.bool u)).setCell ⟨W9.heap.size, 2, none⟩ (.slice (some ⟨gd6, 0, none⟩) m m)) es := hZ.grown hgz (fun k e g a h1 h2 => by cases e; have := HLow.out g a h1; omega)
      have hRbz := hRb.grown hgz (fun ad e _ e2 => by have := hBl ad e; injection e2; omega)
      refine wpAnyH_ready (rs := [9]) (by kernel_rfl) (by simp) ?_
      refine AllReadyH.cons (o := { dst := none, op := Op.store 53 (Operand.tmp 12) (Operand.tmp 63), type := 0, pos := "law.go:86", after := #[{ on := 8, ground := Ground.data }, { on := 6, ground := Ground.data }, { on := 4, ground := Ground.chain }, { on := 0, ground := Ground.phase }, { on := 1, ground := Ground.phase }, { on := 2, ground := Ground.phase }, { on := 3, ground := Ground.phase }, { on := 4, ground := Ground.phase }, { on := 5, ground := Ground.phase }, { on := 6, ground := Ground.phase }, { on := 7, ground := Ground.textOnly Departure.lateStores }, { on := 8, ground := Ground.phase }], guard := none }) rfl (fun K hK => ?_) AllReadyH.nil
      go_simp
      replace hT := hTz
      refine hK.out _ _ ?_ (fun hH5 => ?_)
      · exact TeS.of hT
      clear hK K
      (try simp only [Act.put, List.setIfInBounds_toArray, List.set_cons_zero, List.set_cons_succ])
      clear hgz hbz hlz d0 d1 d2 f0 f1 f2 hZ hB hRb hT hg5 hd5 hu hg6 hd6 hv8
      obtain ⟨Wz, hWz⟩ : ∃ Wz, Wz = ((Wn.setCell ⟨W9.heap.size, 0, none⟩ (.slice (some ⟨g6, 0, none⟩) n c6)).setCell ⟨W9.heap.size, 1, none⟩ (.bool u)).setCell ⟨W9.heap.size, 2, none⟩ (.slice (some ⟨gd6, 0, none⟩) m m) := ⟨_, rfl⟩
      simp only [← hWz] at hTz hg5z hd5z huz hg6z hd6z hv8z hZz hBz hRbz hH5 ⊢
      clear hWz
      have hT := hTz
      have hg5 := hg5z
      have hd5 := hd5z
      have hu := huz
      have hg6 := hg6z
      have hd6 := hd6z
      have hv8 := hv8z
      have hZ := hZz
      have hB := hBz
      have hRb := hRbz
      clear hTz hg5z hd5z huz hg6z hd6z hv8z hZz hBz hRbz
      refine wpAnyH_take (i := 10) (oi := { dst := some 13, op := Op.assign (Operand.tmp 64), type := 30, pos := "law.go:86", after := #[{ on := 7, ground := Ground.data }, { on := 9, ground := Ground.chain }, { on := 0, ground := Ground.phase }, { on := 1, ground := Ground.phase }, { on := 2, ground := Ground.phase }, { on := 3, ground := Ground.phase }, { on := 4, ground := Ground.phase }, { on := 5, ground := Ground.phase }, { on := 6, ground := Ground.phase }, { on := 7, ground := Ground.phase }, { on := 8, ground := Ground.phase }, { on := 9, ground := Ground.phase }], guard := none }) (v := ?v10x3) rfl (by kernel_rfl) (by kernel_rfl) (by kernel_rfl) (fun _ _ _ h => h) (Or.inl ⟨by rfl, ?hy10x3⟩) (by assumption) ?r10x3
      case hy10x3 =>
        intro w hSw
        (try dsimp only at hSw)
        go_simp
        all_goals with_reducible rfl
      (try simp only [Act.put, List.setIfInBounds_toArray, List.set_cons_zero, List.set_cons_succ])
      refine wpAnyH_done (by kernel_rfl) ?_ _
      clear hH5
      go_wp2_with fail
      refine (HNum.out _).mono ?_
      rintro e W10 ⟨⟨k, hk, rfl⟩, rfl⟩
      have hcut := head_run A nb cb k (by omega)
      have hRk := (hRb.take k)
      go_wp2_with fail
      refine (HRk.out _ _ _ _ hk hZ hRk (by omega)).mono ?_
      rintro e W11 ⟨rfl, hb⟩
      clear hcut hRk
      replace hT := hT.below hb hT.lt
      replace hg5 := hg5.below hb hg5.lt
      replace hd5 := hd5.below hb hd5.lt
      replace hu := hu.below hb hu.lt
      replace hg6 := hg6.below hb hg6.lt
      replace hd6 := hd6.below hb hd6.lt
      replace hv8 := hv8.below hb hv8.lt
      replace hRb := hRb.below hb
      replace hB := hB.trans (hb.mono hB.size)
      replace hZ := hZ.below hb
      clear hb hRb
      have hx : Has (W11.alloc (Obj.cells #[.slice none 0 0, .bool false, .slice none 0 0] 53)) W11.heap.size 53 [.slice none 0 0, .bool false, .slice none 0 0] := Has.new W11 _ _
      have hal := (Below.refl W11.heap.size W11).alloc (Nat.le_refl _) (Obj.cells #[.slice none 0 0, .bool false, .slice none 0 0] 53)
      replace hT := hT.below hal hT.lt
      replace hg5 := hg5.below hal hg5.lt
      replace hd5 := hd5.below hal hd5.lt
      replace hu := hu.below hal hu.lt
      replace hg6 := hg6.below hal hg6.lt
      replace hd6 := hd6.below hal hd6.lt
      replace hv8 := hv8.below hal hv8.lt
      replace hB := hB.trans (hal.mono hB.size)
      replace hZ := hZ.below hal
      clear hal
      have c0 : (W11.alloc (Obj.cells #[.slice none 0 0, .bool false, .slice none 0 0] 53)).cell? ⟨w.heap.size, 0, none⟩ = some (.slice P n cap) := by rw [hT.cell]; rfl
      have c1 : (W11.alloc (Obj.cells #[.slice none 0 0, .bool false, .slice none 0 0] 53)).cell? ⟨w.heap.size, 1, none⟩ = some (.bool u) := by rw [hT.cell]; rfl
      have c2 : (W11.alloc (Obj.cells #[.slice none 0 0, .bool false, .slice none 0 0] 53)).cell? ⟨w.heap.size, 2, none⟩ = some (.slice D m dcap) := by rw [hT.cell]; rfl
      have p0 : (W11.alloc (Obj.cells #[.slice none 0 0, .bool false, .slice none 0 0] 53)).cell? ⟨B7, 0, none⟩ = some (.slice (some ⟨g5, 0, none⟩) n c5) := by rw [hu.cell]; rfl
      have p1 : (W11.alloc (Obj.cells #[.slice none 0 0, .bool false, .slice none 0 0] 53)).cell? ⟨B7, 1, none⟩ = some (.bool u) := by rw [hu.cell]; rfl
      have p2 : (W11.alloc (Obj.cells #[.slice none 0 0, .bool false, .slice none 0 0] 53)).cell? ⟨B7, 2, none⟩ = some (.slice (some ⟨gd5, 0, none⟩) m m) := by rw [hu.cell]; rfl
      have q0 : (W11.alloc (Obj.cells #[.slice none 0 0, .bool false, .slice none 0 0] 53)).cell? ⟨W9.heap.size, 0, none⟩ = some (.slice (some ⟨g6, 0, none⟩) n c6) := by rw [hv8.cell]; rfl
      have q1 : (W11.alloc (Obj.cells #[.slice none 0 0, .bool false, .slice none 0 0] 53)).cell? ⟨W9.heap.size, 1, none⟩ = some (.bool u) := by rw [hv8.cell]; rfl
      have q2 : (W11.alloc (Obj.cells #[.slice none 0 0, .bool false, .slice none 0 0] 53)).cell? ⟨W9.heap.size, 2, none⟩ = some (.slice (some ⟨gd6, 0, none⟩) m m) := by rw [hv8.cell]; rfl
      go_wp2_with fail
      generalize W11.alloc (Obj.cells #[.slice none 0 0, .bool false, .slice none 0 0] 53) = W12 at *
      generalize W11.heap.size = B12 at *
      refine (HSt.out _ _ _ _ _ hB hg5 hd5).mono ?_
      rintro e W13 ⟨rfl, hb⟩
      clear c0 c1 c2 p0 p1 p2 q0 q1 q2
      replace hT := hT.below hb hT.lt
      replace hg5 := hg5.below hb hg5.lt
      replace hd5 := hd5.below hb hd5.lt
      replace hu := hu.below hb hu.lt
      replace hg6 := hg6.below hb hg6.lt
      replace hd6 := hd6.below hb hd6.lt
      replace hv8 := hv8.below hb hv8.lt
      replace hx := hx.below hb hx.lt
      replace hB := hB.trans (hb.mono hB.size)
      replace hZ := hZ.below hb
      clear hb
      have c0 : (W13).cell? ⟨w.heap.size, 0, none⟩ = some (.slice P n cap) := by rw [hT.cell]; rfl
      have c1 : (W13).cell? ⟨w.heap.size, 1, none⟩ = some (.bool u) := by rw [hT.cell]; rfl
      have c2 : (W13).cell? ⟨w.heap.size, 2, none⟩ = some (.slice D m dcap) := by rw [hT.cell]; rfl
      have q0 : (W13).cell? ⟨W9.heap.size, 0, none⟩ = some (.slice (some ⟨g6, 0, none⟩) n c6) := by rw [hv8.cell]; rfl
      have q1 : (W13).cell? ⟨W9.heap.size, 1, none⟩ = some (.bool u) := by rw [hv8.cell]; rfl
      have q2 : (W13).cell? ⟨W9.heap.size, 2, none⟩ = some (.slice (some ⟨gd6, 0, none⟩) m m) := by rw [hv8.cell]; rfl
      go_wp2_with fail
      refine (HSt.out _ _ _ _ _ hB hg6 hd6).mono ?_
      rintro e W14 ⟨rfl, hb⟩
      clear c0 c1 c2 q0 q1 q2
      replace hT := hT.below hb hT.lt
      replace hg5 := hg5.below hb hg5.lt
      replace hd5 := hd5.below hb hd5.lt
      replace hu := hu.below hb hu.lt
      replace hg6 := hg6.below hb hg6.lt
      replace hd6 := hd6.below hb hd6.lt
      replace hv8 := hv8.below hb hv8.lt
      replace hx := hx.below hb hx.lt
      replace hB := hB.trans (hb.mono hB.size)
      replace hZ := hZ.below hb
      clear hb
      go_wp2_with fail
      refine (HIs.out _ hZ).mono ?_
      rintro e W15 ⟨rfl, hb⟩
      replace hB := hB.trans (hb.mono hB.size)
      have HFin := hide hB
      clear hb hZ hB hT hg5 hd5 hu hg6 hd6 hv8 hx
      go_wp2_with fail
      go_ret
      exact ⟨rfl, HFin.out⟩
    focus
      go_simp
      have hv8 : Has (W8.alloc (Obj.cells #[.slice none 0 0, .bool false, .slice none 0 0] 53)) W8.heap.size 53 [.slice none 0 0, .bool false, .slice none 0 0] := Has.new W8 _ _
      have hb9 : Below W8.heap.size W8 (W8.alloc (Obj.cells #[.slice none 0 0, .bool false, .slice none 0 0] 53)) := (Below.refl _ _).alloc (Nat.le_refl _) _
      have lt_hT := hT.lt
      have lt_hg5 := hg5.lt
      have lt_hd5 := hd5.lt
      have lt_hu := hu.lt
      replace hT := hT.below hb9 hT.lt
      replace hg5 := hg5.below hb9 hg5.lt
      replace hd5 := hd5.below hb9 hd5.lt
      replace hu := hu.below hb9 hu.lt
      replace hRb := hRb.below hb9
      replace hRr := hRr.below hb9
      replace hB := hB.trans (hb9.mono hB.size)
      replace hZ := hZ.below hb9
      clear hb9
      refine hK.out _ _ ?_ (fun hH6 => ?_)
      · exact TeS.of hT
      clear hK K
      (try simp only [Act.put, List.setIfInBounds_toArray, List.set_cons_zero, List.set_cons_succ])
      obtain ⟨Wn, hWn⟩ : ∃ Wn, Wn = (W8.alloc (Obj.cells #[.slice none 0 0, .bool false, .slice none 0 0] 53)) := ⟨_, rfl⟩
      simp only [← hWn] at hT hg5 hd5 hu hv8 hRb hRr hB hZ hH6 ⊢
      clear hWn
      refine wpAnyH_ready (rs := [4]) (by kernel_rfl) (by simp) ?_
      refine AllReadyH.cons (o := { dst := some 62, op := Op.call { callee := Callee.value (Operand.func 55), args := #[Operand.tmp 59, Operand.tmp 61], argTypes := #[24, 69] }, type := 59, pos := "law.go:86", after := #[{ on := 1, ground := Ground.data }, { on := 3, ground := Ground.data }, { on := 3, ground := Ground.chain }], guard := none }) rfl (fun K hK => ?_) AllReadyH.nil
      go_simp
      refine (HOf.out _ _ _ hB hZ hRr hcr).mono ?_
      rintro e W9 ⟨⟨g6, c6, rest6, gd6, rfl, hg6, hd6⟩, hb⟩
      go_wp2_with fail
      replace hT := hT.below hb hT.lt
      replace hg5 := hg5.below hb hg5.lt
      replace hd5 := hd5.below hb hd5.lt
      replace hu := hu.below hb hu.lt
      replace hv8 := hv8.below hb hv8.lt
      replace hRb := hRb.below hb
      replace hRr := hRr.below hb
      replace hB := hB.trans (hb.mono hB.size)
      replace hZ := hZ.below hb
      clear hb hRr hcr
      refine hK.out _ _ ?_ (fun hH7 => ?_)
      · exact TeS.of hT
      clear hK K
      (try simp only [Act.put, List.setIfInBounds_toArray, List.set_cons_zero, List.set_cons_succ])
      refine wpAnyH_take (i := 5) (oi := { dst := some 57, op := Op.move (Operand.tmp 62), type := 59, pos := "law.go:86", after := #[{ on := 4, ground := Ground.data }], guard := none }) (v := ?v5x8) rfl (by kernel_rfl) (by kernel_rfl) (by kernel_rfl) (fun _ _ _ h => h) (Or.inl ⟨by rfl, ?hy5x8⟩) (by assumption) ?r5x8
      case hy5x8 =>
        intro w hSw
        (try dsimp only at hSw)
        go_simp
        all_goals with_reducible rfl
      (try simp only [Act.put, List.setIfInBounds_toArray, List.set_cons_zero, List.set_cons_succ])
      refine wpAnyH_take (i := 6) (oi := { dst := some 63, op := Op.extract (Operand.tmp 57) 0, type := 53, pos := "law.go:86", after := #[{ on := 5, ground := Ground.data }], guard := none }) (v := ?v6x8) rfl (by kernel_rfl) (by kernel_rfl) (by kernel_rfl) (fun _ _ _ h => h) (Or.inl ⟨by rfl, ?hy6x8⟩) (by assumption) ?r6x8
      case hy6x8 =>
        intro w hSw
        (try dsimp only at hSw)
        go_simp
        all_goals with_reducible rfl
      (try simp only [Act.put, List.setIfInBounds_toArray, List.set_cons_zero, List.set_cons_succ])
      refine wpAnyH_take (i := 7) (oi := { dst := some 64, op := Op.extract (Operand.tmp 57) 1, type := 30, pos := "law.go:86", after := #[{ on := 5, ground := Ground.data }, { on := 9, ground := Ground.gcOnly Departure.lateStores }], guard := none }) (v := ?v7x8) rfl (by kernel_rfl) (by kernel_rfl) (by kernel_rfl) (fun _ _ _ h => h) (Or.inl ⟨by rfl, ?hy7x8⟩) (by assumption) ?r7x8
      case hy7x8 =>
        intro w hSw
        (try dsimp only at hSw)
        go_simp
        all_goals with_reducible rfl
      (try simp only [Act.put, List.setIfInBounds_toArray, List.set_cons_zero, List.set_cons_succ])
      have d0 : W9.cell? ⟨W8.heap.size, 0, none⟩ = some (.slice none 0 0) := by rw [hv8.cell]; rfl
      have f0 := hv8.frozen 0
      have d1 : W9.cell? ⟨W8.heap.size, 1, none⟩ = some (.bool false) := by rw [hv8.cell]; rfl
      have f1 := hv8.frozen 1
      have d2 : W9.cell? ⟨W8.heap.size, 2, none⟩ = some (.slice none 0 0) := by rw [hv8.cell]; rfl
      have f2 := hv8.frozen 2
      have hTz := ((hT.far (p := ⟨W8.heap.size, 0, none⟩) (by simp; omega) (.slice (some ⟨g6, 0, none⟩) n c6)).far (p := ⟨W8.heap.size, 1, none⟩) (by simp; omega) (.bool u)).far (p := ⟨W8.heap.size, 2, none⟩) (by simp; omega) (.slice (some ⟨gd6, 0, none⟩) m m)
      have ne_hg5 := hg5.apart hv8 (by decide)
      have hg5z := ((hg5.far (p := ⟨W8.heap.size, 0, none⟩) (ne_hg5) (.slice (some ⟨g6, 0, none⟩) n c6)).far (p := ⟨W8.heap.size, 1, none⟩) (ne_hg5) (.bool u)).far (p := ⟨W8.heap.size, 2, none⟩) (ne_hg5) (.slice (some ⟨gd6, 0, none⟩) m m)
      have ne_hd5 := hd5.apart hv8 (by decide)
      have hd5z := ((hd5.far (p := ⟨W8.heap.size, 0, none⟩) (ne_hd5) (.slice (some ⟨g6, 0, none⟩) n c6)).far (p := ⟨W8.heap.size, 1, none⟩) (ne_hd5) (.bool u)).far (p := ⟨W8.heap.size, 2, none⟩) (ne_hd5) (.slice (some ⟨gd6, 0, none⟩) m m)
      have huz := ((hu.far (p := ⟨W8.heap.size, 0, none⟩) (by simp; omega) (.slice (some ⟨g6, 0, none⟩) n c6)).far (p := ⟨W8.heap.size, 1, none⟩) (by simp; omega) (.bool u)).far (p := ⟨W8.heap.size, 2, none⟩) (by simp; omega) (.slice (some ⟨gd6, 0, none⟩) m m)
      have ne_hg6 := hg6.apart hv8 (by decide)
      have hg6z := ((hg6.far (p := ⟨W8.heap.size, 0, none⟩) (ne_hg6) (.slice (some ⟨g6, 0, none⟩) n c6)).far (p := ⟨W8.heap.size, 1, none⟩) (ne_hg6) (.bool u)).far (p := ⟨W8.heap.size, 2, none⟩) (ne_hg6) (.slice (some ⟨gd6, 0, none⟩) m m)
      have ne_hd6 := hd6.apart hv8 (by decide)
      have hd6z := ((hd6.far (p := ⟨W8.heap.size, 0, none⟩) (ne_hd6) (.slice (some ⟨g6, 0, none⟩) n c6)).far (p := ⟨W8.heap.size, 1, none⟩) (ne_hd6) (.bool u)).far (p := ⟨W8.heap.size, 2, none⟩) (ne_hd6) (.slice (some ⟨gd6, 0, none⟩) m m)
      have hv8z := ((hv8.set_ 0 (.slice (some ⟨g6, 0, none⟩) n c6)).set_ 1 (.bool u)).set_ 2 (.slice (some ⟨gd6, 0, none⟩) m m)
      have hlz : W8.heap.size < W9.heap.size := hv8.lt
      have hbz : Below W8.heap.size W9 (((W9.setCell ⟨W8.heap.size, 0, none⟩ (.slice (some ⟨g6, 0, none⟩) n c6)).setCell ⟨W8.heap.size, 1, none⟩ (.bool u)).setCell ⟨W8.heap.size, 2, none⟩ (.slice (some ⟨gd6, 0, none⟩) m m)) := (((Below.refl W8.heap.size W9).setCell (p := ⟨W8.heap.size, 0, none⟩) (Nat.le_refl _) (.slice (some ⟨g6, 0, none⟩) n c6)).setCell (p := ⟨W8.heap.size, 1, none⟩) (Nat.le_refl _) (.bool u)).setCell (p := ⟨W8.heap.size, 2, none⟩) (Nat.le_refl _) (.slice (some ⟨gd6, 0, none⟩) m m)
      have hBz := hB.trans (hbz.mono (by omega))
      have hgz : W9.grownBy (((W9.setCell ⟨W8.heap.size, 0, none⟩ (.slice (some ⟨g6, 0, none⟩) n c6)).setCell ⟨W8.heap.size, 1, none⟩ (.bool u)).setCell ⟨W8.heap.size, 2, none⟩ (.slice (some ⟨gd6, 0, none⟩) m m)) (some W8.heap.size) := grown_set (grown_set (grown_set (World.grownBy.refl _ _) ⟨W8.heap.size, 0, none⟩ rfl (.slice (some ⟨g6, 0, none⟩) n c6)) ⟨W8.heap.size, 1, none⟩ rfl (.bool u)) ⟨W8.heap.size, 2, none⟩ rfl (.slice (some ⟨gd6, 0, none⟩) m m)
      have hZz : Ez (((W9.setCell ⟨W8.heap.size, 0, none⟩ (.slice (some ⟨g6, 0, none⟩) n c6)).setCell ⟨W8.heap.size, 1, none⟩ (.bool u)).setCell ⟨W8.heap.size, 2, none⟩ (.slice (some ⟨gd6, 0, none⟩) m m)) es := hZ.grown hgz (fun k e g a h1 h2 => by cases e; have := HLow.out g a h1; omega)
      have hRbz := hRb.grown hgz (fun ad e _ e2 => by have := hBl ad e; injection e2; omega)
      refine wpAnyH_ready (rs := [9]) (by kernel_rfl) (by simp) ?_
      refine AllReadyH.cons (o := { dst := none, op := Op.store 53 (Operand.tmp 12) (Operand.tmp 63), type := 0, pos := "law.go:86", after := #[{ on := 8, ground := Ground.data }, { on := 6, ground := Ground.data }, { on := 4, ground := Ground.chain }, { on := 0, ground := Ground.phase }, { on := 1, ground := Ground.phase }, { on := 2, ground := Ground.phase }, { on := 3, ground := Ground.phase }, { on := 4, ground := Ground.phase }, { on := 5, ground := Ground.phase }, { on := 6, ground := Ground.phase }, { on := 7, ground := Ground.textOnly Departure.lateStores }, { on := 8, ground := Ground.phase }], guard := none }) rfl (fun K hK => ?_) AllReadyH.nil
      go_simp
      replace hT := hTz
      refine hK.out _ _ ?_ (fun hH9 => ?_)
      · exact TeS.of hT
      clear hK K
      (try simp only [Act.put, List.setIfInBounds_toArray, List.set_cons_zero, List.set_cons_succ])
      clear hgz hbz hlz d0 d1 d2 f0 f1 f2 hZ hB hRb hT hg5 hd5 hu hv8 hg6 hd6
      obtain ⟨Wz, hWz⟩ : ∃ Wz, Wz = ((W9.setCell ⟨W8.heap.size, 0, none⟩ (.slice (some ⟨g6, 0, none⟩) n c6)).setCell ⟨W8.heap.size, 1, none⟩ (.bool u)).setCell ⟨W8.heap.size, 2, none⟩ (.slice (some ⟨gd6, 0, none⟩) m m) := ⟨_, rfl⟩
      simp only [← hWz] at hTz hg5z hd5z huz hv8z hg6z hd6z hZz hBz hRbz hH9 ⊢
      clear hWz
      have hT := hTz
      have hg5 := hg5z
      have hd5 := hd5z
      have hu := huz
      have hv8 := hv8z
      have hg6 := hg6z
      have hd6 := hd6z
      have hZ := hZz
      have hB := hBz
      have hRb := hRbz
      clear hTz hg5z hd5z huz hv8z hg6z hd6z hZz hBz hRbz
      refine wpAnyH_take (i := 10) (oi := { dst := some 13, op := Op.assign (Operand.tmp 64), type := 30, pos := "law.go:86", after := #[{ on := 7, ground := Ground.data }, { on := 9, ground := Ground.chain }, { on := 0, ground := Ground.phase }, { on := 1, ground := Ground.phase }, { on := 2, ground := Ground.phase }, { on := 3, ground := Ground.phase }, { on := 4, ground := Ground.phase }, { on := 5, ground := Ground.phase }, { on := 6, ground := Ground.phase }, { on := 7, ground := Ground.phase }, { on := 8, ground := Ground.phase }, { on := 9, ground := Ground.phase }], guard := none }) (v := ?v10x8) rfl (by kernel_rfl) (by kernel_rfl) (by kernel_rfl) (fun _ _ _ h => h) (Or.inl ⟨by rfl, ?hy10x8⟩) (by assumption) ?r10x8
      case hy10x8 =>
        intro w hSw
        (try dsimp only at hSw)
        go_simp
        all_goals with_reducible rfl
      (try simp only [Act.put, List.setIfInBounds_toArray, List.set_cons_zero, List.set_cons_succ])
      refine wpAnyH_done (by kernel_rfl) ?_ _
      clear hH9
      go_wp2_with fail
      refine (HNum.out _).mono ?_
      rintro e W10 ⟨⟨k, hk, rfl⟩, rfl⟩
      have hcut := head_run A nb cb k (by omega)
      have hRk := (hRb.take k)
      go_wp2_with fail
      refine (HRk.out _ _ _ _ hk hZ hRk (by omega)).mono ?_
      rintro e W11 ⟨rfl, hb⟩
      clear hcut hRk
      replace hT := hT.below hb hT.lt
      replace hg5 := hg5.below hb hg5.lt
      replace hd5 := hd5.below hb hd5.lt
      replace hu := hu.below hb hu.lt
      replace hv8 := hv8.below hb hv8.lt
      replace hg6 := hg6.below hb hg6.lt
      replace hd6 := hd6.below hb hd6.lt
      replace hRb := hRb.below hb
      replace hB := hB.trans (hb.mono hB.size)
      replace hZ := hZ.below hb
      clear hb hRb
      have hx : Has (W11.alloc (Obj.cells #[.slice none 0 0, .bool false, .slice none 0 0] 53)) W11.heap.size 53 [.slice none 0 0, .bool false, .slice none 0 0] := Has.new W11 _ _
      have hal := (Below.refl W11.heap.size W11).alloc (Nat.le_refl _) (Obj.cells #[.slice none 0 0, .bool false, .slice none 0 0] 53)
      replace hT := hT.below hal hT.lt
      replace hg5 := hg5.below hal hg5.lt
      replace hd5 := hd5.below hal hd5.lt
      replace hu := hu.below hal hu.lt
      replace hv8 := hv8.below hal hv8.lt
      replace hg6 := hg6.below hal hg6.lt
      replace hd6 := hd6.below hal hd6.lt
      replace hB := hB.trans (hal.mono hB.size)
      replace hZ := hZ.below hal
      clear hal
      have c0 : (W11.alloc (Obj.cells #[.slice none 0 0, .bool false, .slice none 0 0] 53)).cell? ⟨w.heap.size, 0, none⟩ = some (.slice P n cap) := by rw [hT.cell]; rfl
      have c1 : (W11.alloc (Obj.cells #[.slice none 0 0, .bool false, .slice none 0 0] 53)).cell? ⟨w.heap.size, 1, none⟩ = some (.bool u) := by rw [hT.cell]; rfl
      have c2 : (W11.alloc (Obj.cells #[.slice none 0 0, .bool false, .slice none 0 0] 53)).cell? ⟨w.heap.size, 2, none⟩ = some (.slice D m dcap) := by rw [hT.cell]; rfl
      have p0 : (W11.alloc (Obj.cells #[.slice none 0 0, .bool false, .slice none 0 0] 53)).cell? ⟨B7, 0, none⟩ = some (.slice (some ⟨g5, 0, none⟩) n c5) := by rw [hu.cell]; rfl
      have p1 : (W11.alloc (Obj.cells #[.slice none 0 0, .bool false, .slice none 0 0] 53)).cell? ⟨B7, 1, none⟩ = some (.bool u) := by rw [hu.cell]; rfl
      have p2 : (W11.alloc (Obj.cells #[.slice none 0 0, .bool false, .slice none 0 0] 53)).cell? ⟨B7, 2, none⟩ = some (.slice (some ⟨gd5, 0, none⟩) m m) := by rw [hu.cell]; rfl
      have q0 : (W11.alloc (Obj.cells #[.slice none 0 0, .bool false, .slice none 0 0] 53)).cell? ⟨W8.heap.size, 0, none⟩ = some (.slice (some ⟨g6, 0, none⟩) n c6) := by rw [hv8.cell]; rfl
      have q1 : (W11.alloc (Obj.cells #[.slice none 0 0, .bool false, .slice none 0 0] 53)).cell? ⟨W8.heap.size, 1, none⟩ = some (.bool u) := by rw [hv8.cell]; rfl
      have q2 : (W11.alloc (Obj.cells #[.slice none 0 0, .bool false, .slice none 0 0] 53)).cell? ⟨W8.heap.size, 2, none⟩ = some (.slice (some ⟨gd6, 0, none⟩) m m) := by rw [hv8.cell]; rfl
      go_wp2_with fail
      generalize W11.alloc (Obj.cells #[.slice none 0 0, .bool false, .slice none 0 0] 53) = W12 at *
      generalize W11.heap.size = B12 at *
      refine (HSt.out _ _ _ _ _ hB hg5 hd5).mono ?_
      rintro e W13 ⟨rfl, hb⟩
      clear c0 c1 c2 p0 p1 p2 q0 q1 q2
      replace hT := hT.below hb hT.lt
      replace hg5 := hg5.below hb hg5.lt
      replace hd5 := hd5.below hb hd5.lt
      replace hu := hu.below hb hu.lt
      replace hv8 := hv8.below hb hv8.lt
      replace hg6 := hg6.below hb hg6.lt
      replace hd6 := hd6.below hb hd6.lt
      replace hx := hx.below hb hx.lt
      replace hB := hB.trans (hb.mono hB.size)
      replace hZ := hZ.below hb
      clear hb
      have c0 : (W13).cell? ⟨w.heap.size, 0, none⟩ = some (.slice P n cap) := by rw [hT.cell]; rfl
      have c1 : (W13).cell? ⟨w.heap.size, 1, none⟩ = some (.bool u) := by rw [hT.cell]; rfl
      have c2 : (W13).cell? ⟨w.heap.size, 2, none⟩ = some (.slice D m dcap) := by rw [hT.cell]; rfl
      have q0 : (W13).cell? ⟨W8.heap.size, 0, none⟩ = some (.slice (some ⟨g6, 0, none⟩) n c6) := by rw [hv8.cell]; rfl
      have q1 : (W13).cell? ⟨W8.heap.size, 1, none⟩ = some (.bool u) := by rw [hv8.cell]; rfl
      have q2 : (W13).cell? ⟨W8.heap.size, 2, none⟩ = some (.slice (some ⟨gd6, 0, none⟩) m m) := by rw [hv8.cell]; rfl
      go_wp2_with fail
      refine (HSt.out _ _ _ _ _ hB hg6 hd6).mono ?_
      rintro e W14 ⟨rfl, hb⟩
      clear c0 c1 c2 q0 q1 q2
      replace hT := hT.below hb hT.lt
      replace hg5 := hg5.below hb hg5.lt
      replace hd5 := hd5.below hb hd5.lt
      replace hu := hu.below hb hu.lt
      replace hv8 := hv8.below hb hv8.lt
      replace hg6 := hg6.below hb hg6.lt
      replace hd6 := hd6.below hb hd6.lt
      replace hx := hx.below hb hx.lt
      replace hB := hB.trans (hb.mono hB.size)
      replace hZ := hZ.below hb
      clear hb
      go_wp2_with fail
      refine (HIs.out _ hZ).mono ?_
      rintro e W15 ⟨rfl, hb⟩
      replace hB := hB.trans (hb.mono hB.size)
      have HFin := hide hB
      clear hb hZ hB hT hg5 hd5 hu hv8 hg6 hd6 hx
      go_wp2_with fail
      go_ret
      exact ⟨rfl, HFin.out⟩
  focus
    go_simp
    have hv8 : Has (Wd.alloc (Obj.cells #[.slice none 0 0, .bool false, .slice none 0 0] 53)) Wd.heap.size 53 [.slice none 0 0, .bool false, .slice none 0 0] := Has.new Wd _ _
    have hb9 : Below Wd.heap.size Wd (Wd.alloc (Obj.cells #[.slice none 0 0, .bool false, .slice none 0 0] 53)) := (Below.refl _ _).alloc (Nat.le_refl _) _
    have lt_hT := hT.lt
    have lt_hg5 := hg5.lt
    have lt_hd5 := hd5.lt
    have lt_hu := hu.lt
    replace hT := hT.below hb9 hT.lt
    replace hg5 := hg5.below hb9 hg5.lt
    replace hd5 := hd5.below hb9 hd5.lt
    replace hu := hu.below hb9 hu.lt
    replace hRb := hRb.below hb9
    replace hB := hB.trans (hb9.mono hB.size)
    replace hZ := hZ.below hb9
    clear hb9
    refine hK.out _ _ ?_ (fun hH10 => ?_)
    · exact TeS.of hT
    clear hK K
    (try simp only [Act.put, List.setIfInBounds_toArray, List.set_cons_zero, List.set_cons_succ])
    obtain ⟨Wn, hWn⟩ : ∃ Wn, Wn = (Wd.alloc (Obj.cells #[.slice none 0 0, .bool false, .slice none 0 0] 53)) := ⟨_, rfl⟩
    simp only [← hWn] at hT hg5 hd5 hu hv8 hRb hB hZ hH10 ⊢
    clear hWn
    refine wpAnyH_ready (rs := [3]) (by kernel_rfl) (by simp) ?_
    refine AllReadyH.cons (o := { dst := some 61, op := Op.call { callee := Callee.value (Operand.func 60), args := #[Operand.tmp 60], argTypes := #[53] }, type := 69, pos := "law.go:86", after := #[{ on := 2, ground := Ground.data }], guard := none }) rfl (fun K hK => ?_) AllReadyH.nil
    go_simp
    refine (HRaw.out _ hB hZ).mono ?_
    rintro e W8 ⟨⟨Ar, cr, rfl, hRr, hcr⟩, hb⟩
    go_wp2_with fail
    replace hT := hT.below hb hT.lt
    replace hg5 := hg5.below hb hg5.lt
    replace hd5 := hd5.below hb hd5.lt
    replace hu := hu.below hb hu.lt
    replace hv8 := hv8.below hb hv8.lt
    replace hRb := hRb.below hb
    replace hB := hB.trans (hb.mono hB.size)
    replace hZ := hZ.below hb
    clear hb
    refine hK.out _ _ ?_ (fun hH11 => ?_)
    · exact TeS.of hT
    clear hK K
    (try simp only [Act.put, List.setIfInBounds_toArray, List.set_cons_zero, List.set_cons_succ])
    refine wpAnyH_ready (rs := [4]) (by kernel_rfl) (by simp) ?_
    refine AllReadyH.cons (o := { dst := some 62, op := Op.call { callee := Callee.value (Operand.func 55), args := #[Operand.tmp 59, Operand.tmp 61], argTypes := #[24, 69] }, type := 59, pos := "law.go:86", after := #[{ on := 1, ground := Ground.data }, { on := 3, ground := Ground.data }, { on := 3, ground := Ground.chain }], guard := none }) rfl (fun K hK => ?_) AllReadyH.nil
    go_simp
    refine (HOf.out _ _ _ hB hZ hRr hcr).mono ?_
    rintro e W9 ⟨⟨g6, c6, rest6, gd6, rfl, hg6, hd6⟩, hb⟩
    go_wp2_with fail
    replace hT := hT.below hb hT.lt
    replace hg5 := hg5.below hb hg5.lt
    replace hd5 := hd5.below hb hd5.lt
    replace hu := hu.below hb hu.lt
    replace hv8 := hv8.below hb hv8.lt
    replace hRb := hRb.below hb
    replace hRr := hRr.below hb
    replace hB := hB.trans (hb.mono hB.size)
    replace hZ := hZ.below hb
    clear hb hRr hcr
    refine hK.out _ _ ?_ (fun hH12 => ?_)
    · exact TeS.of hT
    clear hK K
    (try simp only [Act.put, List.setIfInBounds_toArray, List.set_cons_zero, List.set_cons_succ])
    refine wpAnyH_take (i := 5) (oi := { dst := some 57, op := Op.move (Operand.tmp 62), type := 59, pos := "law.go:86", after := #[{ on := 4, ground := Ground.data }], guard := none }) (v := ?v5x13) rfl (by kernel_rfl) (by kernel_rfl) (by kernel_rfl) (fun _ _ _ h => h) (Or.inl ⟨by rfl, ?hy5x13⟩) (by assumption) ?r5x13
    case hy5x13 =>
      intro w hSw
      (try dsimp only at hSw)
      go_simp
      all_goals with_reducible rfl
    (try simp only [Act.put, List.setIfInBounds_toArray, List.set_cons_zero, List.set_cons_succ])
    refine wpAnyH_take (i := 6) (oi := { dst := some 63, op := Op.extract (Operand.tmp 57) 0, type := 53, pos := "law.go:86", after := #[{ on := 5, ground := Ground.data }], guard := none }) (v := ?v6x13) rfl (by kernel_rfl) (by kernel_rfl) (by kernel_rfl) (fun _ _ _ h => h) (Or.inl ⟨by rfl, ?hy6x13⟩) (by assumption) ?r6x13
    case hy6x13 =>
      intro w hSw
      (try dsimp only at hSw)
      go_simp
      all_goals with_reducible rfl
    (try simp only [Act.put, List.setIfInBounds_toArray, List.set_cons_zero, List.set_cons_succ])
    refine wpAnyH_take (i := 7) (oi := { dst := some 64, op := Op.extract (Operand.tmp 57) 1, type := 30, pos := "law.go:86", after := #[{ on := 5, ground := Ground.data }, { on := 9, ground := Ground.gcOnly Departure.lateStores }], guard := none }) (v := ?v7x13) rfl (by kernel_rfl) (by kernel_rfl) (by kernel_rfl) (fun _ _ _ h => h) (Or.inl ⟨by rfl, ?hy7x13⟩) (by assumption) ?r7x13
    case hy7x13 =>
      intro w hSw
      (try dsimp only at hSw)
      go_simp
      all_goals with_reducible rfl
    (try simp only [Act.put, List.setIfInBounds_toArray, List.set_cons_zero, List.set_cons_succ])
    have d0 : W9.cell? ⟨Wd.heap.size, 0, none⟩ = some (.slice none 0 0) := by rw [hv8.cell]; rfl
    have f0 := hv8.frozen 0
    have d1 : W9.cell? ⟨Wd.heap.size, 1, none⟩ = some (.bool false) := by rw [hv8.cell]; rfl
    have f1 := hv8.frozen 1
    have d2 : W9.cell? ⟨Wd.heap.size, 2, none⟩ = some (.slice none 0 0) := by rw [hv8.cell]; rfl
    have f2 := hv8.frozen 2
    have hTz := ((hT.far (p := ⟨Wd.heap.size, 0, none⟩) (by simp; omega) (.slice (some ⟨g6, 0, none⟩) n c6)).far (p := ⟨Wd.heap.size, 1, none⟩) (by simp; omega) (.bool u)).far (p := ⟨Wd.heap.size, 2, none⟩) (by simp; omega) (.slice (some ⟨gd6, 0, none⟩) m m)
    have ne_hg5 := hg5.apart hv8 (by decide)
    have hg5z := ((hg5.far (p := ⟨Wd.heap.size, 0, none⟩) (ne_hg5) (.slice (some ⟨g6, 0, none⟩) n c6)).far (p := ⟨Wd.heap.size, 1, none⟩) (ne_hg5) (.bool u)).far (p := ⟨Wd.heap.size, 2, none⟩) (ne_hg5) (.slice (some ⟨gd6, 0, none⟩) m m)
    have ne_hd5 := hd5.apart hv8 (by decide)
    have hd5z := ((hd5.far (p := ⟨Wd.heap.size, 0, none⟩) (ne_hd5) (.slice (some ⟨g6, 0, none⟩) n c6)).far (p := ⟨Wd.heap.size, 1, none⟩) (ne_hd5) (.bool u)).far (p := ⟨Wd.heap.size, 2, none⟩) (ne_hd5) (.slice (some ⟨gd6, 0, none⟩) m m)
    have huz := ((hu.far (p := ⟨Wd.heap.size, 0, none⟩) (by simp; omega) (.slice (some ⟨g6, 0, none⟩) n c6)).far (p := ⟨Wd.heap.size, 1, none⟩) (by simp; omega) (.bool u)).far (p := ⟨Wd.heap.size, 2, none⟩) (by simp; omega) (.slice (some ⟨gd6, 0, none⟩) m m)
    have ne_hg6 := hg6.apart hv8 (by decide)
    have hg6z := ((hg6.far (p := ⟨Wd.heap.size, 0, none⟩) (ne_hg6) (.slice (some ⟨g6, 0, none⟩) n c6)).far (p := ⟨Wd.heap.size, 1, none⟩) (ne_hg6) (.bool u)).far (p := ⟨Wd.heap.size, 2, none⟩) (ne_hg6) (.slice (some ⟨gd6, 0, none⟩) m m)
    have ne_hd6 := hd6.apart hv8 (by decide)
    have hd6z := ((hd6.far (p := ⟨Wd.heap.size, 0, none⟩) (ne_hd6) (.slice (some ⟨g6, 0, none⟩) n c6)).far (p := ⟨Wd.heap.size, 1, none⟩) (ne_hd6) (.bool u)).far (p := ⟨Wd.heap.size, 2, none⟩) (ne_hd6) (.slice (some ⟨gd6, 0, none⟩) m m)
    have hv8z := ((hv8.set_ 0 (.slice (some ⟨g6, 0, none⟩) n c6)).set_ 1 (.bool u)).set_ 2 (.slice (some ⟨gd6, 0, none⟩) m m)
    have hlz : Wd.heap.size < W9.heap.size := hv8.lt
    have hbz : Below Wd.heap.size W9 (((W9.setCell ⟨Wd.heap.size, 0, none⟩ (.slice (some ⟨g6, 0, none⟩) n c6)).setCell ⟨Wd.heap.size, 1, none⟩ (.bool u)).setCell ⟨Wd.heap.size, 2, none⟩ (.slice (some ⟨gd6, 0, none⟩) m m)) := (((Below.refl Wd.heap.size W9).setCell (p := ⟨Wd.heap.size, 0, none⟩) (Nat.le_refl _) (.slice (some ⟨g6, 0, none⟩) n c6)).setCell (p := ⟨Wd.heap.size, 1, none⟩) (Nat.le_refl _) (.bool u)).setCell (p := ⟨Wd.heap.size, 2, none⟩) (Nat.le_refl _) (.slice (some ⟨gd6, 0, none⟩) m m)
    have hBz := hB.trans (hbz.mono (by omega))
    have hgz : W9.grownBy (((W9.setCell ⟨Wd.heap.size, 0, none⟩ (.slice (some ⟨g6, 0, none⟩) n c6)).setCell ⟨Wd.heap.size, 1, none⟩ (.bool u)).setCell ⟨Wd.heap.size, 2, none⟩ (.slice (some ⟨gd6, 0, none⟩) m m)) (some Wd.heap.size) := grown_set (grown_set (grown_set (World.grownBy.refl _ _) ⟨Wd.heap.size, 0, none⟩ rfl (.slice (some ⟨g6, 0, none⟩) n c6)) ⟨Wd.heap.size, 1, none⟩ rfl (.bool u)) ⟨Wd.heap.size, 2, none⟩ rfl (.slice (some ⟨gd6, 0, none⟩) m m)
    have hZz : Ez (((W9.setCell ⟨Wd.heap.size, 0, none⟩ (.slice (some ⟨g6, 0, none⟩) n c6)).setCell ⟨Wd.heap.size, 1, none⟩ (.bool u)).setCell ⟨Wd.heap.size, 2, none⟩ (.slice (some ⟨gd6, 0, none⟩) m m)) es := hZ.grown hgz (fun k e g a h1 h2 => by cases e; have := HLow.out g a h1; omega)
    have hRbz := hRb.grown hgz (fun ad e _ e2 => by have := hBl ad e; injection e2; omega)
    refine wpAnyH_ready (rs := [9]) (by kernel_rfl) (by simp) ?_
    refine AllReadyH.cons (o := { dst := none, op := Op.store 53 (Operand.tmp 12) (Operand.tmp 63), type := 0, pos := "law.go:86", after := #[{ on := 8, ground := Ground.data }, { on := 6, ground := Ground.data }, { on := 4, ground := Ground.chain }, { on := 0, ground := Ground.phase }, { on := 1, ground := Ground.phase }, { on := 2, ground := Ground.phase }, { on := 3, ground := Ground.phase }, { on := 4, ground := Ground.phase }, { on := 5, ground := Ground.phase }, { on := 6, ground := Ground.phase }, { on := 7, ground := Ground.textOnly Departure.lateStores }, { on := 8, ground := Ground.phase }], guard := none }) rfl (fun K hK => ?_) AllReadyH.nil
    go_simp
    replace hT := hTz
    refine hK.out _ _ ?_ (fun hH14 => ?_)
    · exact TeS.of hT
    clear hK K
    (try simp only [Act.put, List.setIfInBounds_toArray, List.set_cons_zero, List.set_cons_succ])
    clear hgz hbz hlz d0 d1 d2 f0 f1 f2 hZ hB hRb hT hg5 hd5 hu hv8 hg6 hd6
    obtain ⟨Wz, hWz⟩ : ∃ Wz, Wz = ((W9.setCell ⟨Wd.heap.size, 0, none⟩ (.slice (some ⟨g6, 0, none⟩) n c6)).setCell ⟨Wd.heap.size, 1, none⟩ (.bool u)).setCell ⟨Wd.heap.size, 2, none⟩ (.slice (some ⟨gd6, 0, none⟩) m m) := ⟨_, rfl⟩
    simp only [← hWz] at hTz hg5z hd5z huz hv8z hg6z hd6z hZz hBz hRbz hH14 ⊢
    clear hWz
    have hT := hTz
    have hg5 := hg5z
    have hd5 := hd5z
    have hu := huz
    have hv8 := hv8z
    have hg6 := hg6z
    have hd6 := hd6z
    have hZ := hZz
    have hB := hBz
    have hRb := hRbz
    clear hTz hg5z hd5z huz hv8z hg6z hd6z hZz hBz hRbz
    refine wpAnyH_take (i := 10) (oi := { dst := some 13, op := Op.assign (Operand.tmp 64), type := 30, pos := "law.go:86", after := #[{ on := 7, ground := Ground.data }, { on := 9, ground := Ground.chain }, { on := 0, ground := Ground.phase }, { on := 1, ground := Ground.phase }, { on := 2, ground := Ground.phase }, { on := 3, ground := Ground.phase }, { on := 4, ground := Ground.phase }, { on := 5, ground := Ground.phase }, { on := 6, ground := Ground.phase }, { on := 7, ground := Ground.phase }, { on := 8, ground := Ground.phase }, { on := 9, ground := Ground.phase }], guard := none }) (v := ?v10x13) rfl (by kernel_rfl) (by kernel_rfl) (by kernel_rfl) (fun _ _ _ h => h) (Or.inl ⟨by rfl, ?hy10x13⟩) (by assumption) ?r10x13
    case hy10x13 =>
      intro w hSw
      (try dsimp only at hSw)
      go_simp
      all_goals with_reducible rfl
    (try simp only [Act.put, List.setIfInBounds_toArray, List.set_cons_zero, List.set_cons_succ])
    refine wpAnyH_done (by kernel_rfl) ?_ _
    clear hH14
    go_wp2_with fail
    refine (HNum.out _).mono ?_
    rintro e W10 ⟨⟨k, hk, rfl⟩, rfl⟩
    have hcut := head_run A nb cb k (by omega)
    have hRk := (hRb.take k)
    go_wp2_with fail
    refine (HRk.out _ _ _ _ hk hZ hRk (by omega)).mono ?_
    rintro e W11 ⟨rfl, hb⟩
    clear hcut hRk
    replace hT := hT.below hb hT.lt
    replace hg5 := hg5.below hb hg5.lt
    replace hd5 := hd5.below hb hd5.lt
    replace hu := hu.below hb hu.lt
    replace hv8 := hv8.below hb hv8.lt
    replace hg6 := hg6.below hb hg6.lt
    replace hd6 := hd6.below hb hd6.lt
    replace hRb := hRb.below hb
    replace hB := hB.trans (hb.mono hB.size)
    replace hZ := hZ.below hb
    clear hb hRb
    have hx : Has (W11.alloc (Obj.cells #[.slice none 0 0, .bool false, .slice none 0 0] 53)) W11.heap.size 53 [.slice none 0 0, .bool false, .slice none 0 0] := Has.new W11 _ _
    have hal := (Below.refl W11.heap.size W11).alloc (Nat.le_refl _) (Obj.cells #[.slice none 0 0, .bool false, .slice none 0 0] 53)
    replace hT := hT.below hal hT.lt
    replace hg5 := hg5.below hal hg5.lt
    replace hd5 := hd5.below hal hd5.lt
    replace hu := hu.below hal hu.lt
    replace hv8 := hv8.below hal hv8.lt
    replace hg6 := hg6.below hal hg6.lt
    replace hd6 := hd6.below hal hd6.lt
    replace hB := hB.trans (hal.mono hB.size)
    replace hZ := hZ.below hal
    clear hal
    have c0 : (W11.alloc (Obj.cells #[.slice none 0 0, .bool false, .slice none 0 0] 53)).cell? ⟨w.heap.size, 0, none⟩ = some (.slice P n cap) := by rw [hT.cell]; rfl
    have c1 : (W11.alloc (Obj.cells #[.slice none 0 0, .bool false, .slice none 0 0] 53)).cell? ⟨w.heap.size, 1, none⟩ = some (.bool u) := by rw [hT.cell]; rfl
    have c2 : (W11.alloc (Obj.cells #[.slice none 0 0, .bool false, .slice none 0 0] 53)).cell? ⟨w.heap.size, 2, none⟩ = some (.slice D m dcap) := by rw [hT.cell]; rfl
    have p0 : (W11.alloc (Obj.cells #[.slice none 0 0, .bool false, .slice none 0 0] 53)).cell? ⟨B7, 0, none⟩ = some (.slice (some ⟨g5, 0, none⟩) n c5) := by rw [hu.cell]; rfl
    have p1 : (W11.alloc (Obj.cells #[.slice none 0 0, .bool false, .slice none 0 0] 53)).cell? ⟨B7, 1, none⟩ = some (.bool u) := by rw [hu.cell]; rfl
    have p2 : (W11.alloc (Obj.cells #[.slice none 0 0, .bool false, .slice none 0 0] 53)).cell? ⟨B7, 2, none⟩ = some (.slice (some ⟨gd5, 0, none⟩) m m) := by rw [hu.cell]; rfl
    have q0 : (W11.alloc (Obj.cells #[.slice none 0 0, .bool false, .slice none 0 0] 53)).cell? ⟨Wd.heap.size, 0, none⟩ = some (.slice (some ⟨g6, 0, none⟩) n c6) := by rw [hv8.cell]; rfl
    have q1 : (W11.alloc (Obj.cells #[.slice none 0 0, .bool false, .slice none 0 0] 53)).cell? ⟨Wd.heap.size, 1, none⟩ = some (.bool u) := by rw [hv8.cell]; rfl
    have q2 : (W11.alloc (Obj.cells #[.slice none 0 0, .bool false, .slice none 0 0] 53)).cell? ⟨Wd.heap.size, 2, none⟩ = some (.slice (some ⟨gd6, 0, none⟩) m m) := by rw [hv8.cell]; rfl
    go_wp2_with fail
    generalize W11.alloc (Obj.cells #[.slice none 0 0, .bool false, .slice none 0 0] 53) = W12 at *
    generalize W11.heap.size = B12 at *
    refine (HSt.out _ _ _ _ _ hB hg5 hd5).mono ?_
    rintro e W13 ⟨rfl, hb⟩
    clear c0 c1 c2 p0 p1 p2 q0 q1 q2
    replace hT := hT.below hb hT.lt
    replace hg5 := hg5.below hb hg5.lt
    replace hd5 := hd5.below hb hd5.lt
    replace hu := hu.below hb hu.lt
    replace hv8 := hv8.below hb hv8.lt
    replace hg6 := hg6.below hb hg6.lt
    replace hd6 := hd6.below hb hd6.lt
    replace hx := hx.below hb hx.lt
    replace hB := hB.trans (hb.mono hB.size)
    replace hZ := hZ.below hb
    clear hb
    have c0 : (W13).cell? ⟨w.heap.size, 0, none⟩ = some (.slice P n cap) := by rw [hT.cell]; rfl
    have c1 : (W13).cell? ⟨w.heap.size, 1, none⟩ = some (.bool u) := by rw [hT.cell]; rfl
    have c2 : (W13).cell? ⟨w.heap.size, 2, none⟩ = some (.slice D m dcap) := by rw [hT.cell]; rfl
    have q0 : (W13).cell? ⟨Wd.heap.size, 0, none⟩ = some (.slice (some ⟨g6, 0, none⟩) n c6) := by rw [hv8.cell]; rfl
    have q1 : (W13).cell? ⟨Wd.heap.size, 1, none⟩ = some (.bool u) := by rw [hv8.cell]; rfl
    have q2 : (W13).cell? ⟨Wd.heap.size, 2, none⟩ = some (.slice (some ⟨gd6, 0, none⟩) m m) := by rw [hv8.cell]; rfl
    go_wp2_with fail
    refine (HSt.out _ _ _ _ _ hB hg6 hd6).mono ?_
    rintro e W14 ⟨rfl, hb⟩
    clear c0 c1 c2 q0 q1 q2
    replace hT := hT.below hb hT.lt
    replace hg5 := hg5.below hb hg5.lt
    replace hd5 := hd5.below hb hd5.lt
    replace hu := hu.below hb hu.lt
    replace hv8 := hv8.below hb hv8.lt
    replace hg6 := hg6.below hb hg6.lt
    replace hd6 := hd6.below hb hd6.lt
    replace hx := hx.below hb hx.lt
    replace hB := hB.trans (hb.mono hB.size)
    replace hZ := hZ.below hb
    clear hb
    go_wp2_with fail
    refine (HIs.out _ hZ).mono ?_
    rintro e W15 ⟨rfl, hb⟩
    replace hB := hB.trans (hb.mono hB.size)
    have HFin := hide hB
    clear hb hZ hB hT hg5 hd5 hu hv8 hg6 hd6 hx
    go_wp2_with fail
    go_ret
    exact ⟨rfl, HFin.out⟩
end Go.Proofs.YtnbjcdmiehnceaaDoor
