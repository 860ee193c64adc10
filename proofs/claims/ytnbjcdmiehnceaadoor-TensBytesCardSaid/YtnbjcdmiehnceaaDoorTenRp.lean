/-
  lodgeref3.Read, walked. By an AI agent. No person has read it.
-/
import Derived.Test.YtnbjcdmiehnceaaDoorTenRo
namespace Go.Proofs.YtnbjcdmiehnceaaDoor
open Go.RowKit

theorem rreaddesc_c (bs : List Nat) (A : Option Addr) (cap : Nat) (w : World) (hr : Rb w A bs) (hl : bs.length ≤ 1000000) :
    Calls Tryd.prog 89 #[.slice A bs.length cap] w fun e w' =>
      (Pk.code bs = 0 → ∃ P c, e = .returned (.tuple #[.agg (dcells P (Tens.rdims bs).length c (Tens.ru bs)), .int .i64 (Tens.rn bs : Nat), .int .i64 0]) ∧ Ri w' P (Tens.rdims bs)) ∧
      (Pk.code bs ≠ 0 → e = .returned (.tuple #[.agg (dcells none 0 0 false), .int .i64 0, .int .i64 (Pk.code bs : Nat)])) ∧ Below w.heap.size w w' := by
  match bs, hr, hl with
  | [], _, _ =>
    refine (rreaddesc_nil A cap w).mono ?_
    rintro e w' ⟨rfl, hb⟩
    exact ⟨fun h => absurd h (by decide), fun _ => rfl, hb⟩
  | h :: t, hr, hl => exact rreaddesc_cons h t A cap w hr hl
/-- What is held while a tensor is read: the result's block, the desc's box, the shape. -/
structure RfS (w : World) (B : Nat) (dv : List Value) (P : Option Addr) (Z : List Int) (W : World) : Prop where
  low : Below w.heap.size w W
  res : Has W w.heap.size 53 [.slice none 0 0, .bool false, .slice none 0 0]
  des : Has W B 24 dv
  ri : Ri W P Z
theorem RfS.below {w W W' : World} {B : Nat} {dv : List Value} {P : Option Addr} {Z : List Int} (h : RfS w B dv P Z W) (hb : Below W.heap.size W W') : RfS w B dv P Z W' :=
  ⟨h.low.trans (hb.mono h.low.size), h.res.below hb h.res.lt, h.des.below hb h.des.lt, h.ri.below hb⟩
/-- What is read: the tensor's box, its two rows. -/
structure RfX (w : World) (b : Nat) (tv : List Value) (g gd : Nat) (xs ys : List Value) (W : World) : Prop where
  low : Below w.heap.size w W
  res : Has W w.heap.size 53 [.slice none 0 0, .bool false, .slice none 0 0]
  box : Has W b 53 tv
  shp : Has W g 3 xs
  dat : Has W gd 3 ys
theorem rfx_set {w W : World} {B b g gd : Nat} {dv xs ys : List Value} {P : Option Addr} {Z : List Int} {x y z : Value} (v1 v2 v3 : Value) (h : RfS w B dv P Z W) (hb : Has W b 53 [x, y, z]) (hl : w.heap.size < b) (hg : Has W g 3 xs) (hgd : Has W gd 3 ys) :
    RfX w b [v1, v2, v3] g gd xs ys (((W.setCell ⟨b, 0, none⟩ v1).setCell ⟨b, 1, none⟩ v2).setCell ⟨b, 2, none⟩ v3) :=
  have h1 : w.heap.size ≠ b := by omega
  have h2 : g ≠ b := hg.apart hb (by decide)
  have h3 : gd ≠ b := hgd.apart hb (by decide)
  ⟨((h.low.setCell (p := ⟨b, 0, none⟩) (Nat.le_of_lt hl) v1).setCell (p := ⟨b, 1, none⟩) (Nat.le_of_lt hl) v2).setCell (p := ⟨b, 2, none⟩) (Nat.le_of_lt hl) v3,
    ((h.res.far (p := ⟨b, 0, none⟩) h1 v1).far (p := ⟨b, 1, none⟩) h1 v2).far (p := ⟨b, 2, none⟩) h1 v3, ((hb.set_ 0 v1).set_ 1 v2).set_ 2 v3,
    ((hg.far (p := ⟨b, 0, none⟩) h2 v1).far (p := ⟨b, 1, none⟩) h2 v2).far (p := ⟨b, 2, none⟩) h2 v3, ((hgd.far (p := ⟨b, 0, none⟩) h3 v1).far (p := ⟨b, 1, none⟩) h3 v2).far (p := ⟨b, 2, none⟩) h3 v3⟩
theorem rfx_new {w W : World} {B g gd : Nat} {dv xs ys : List Value} {P : Option Addr} {Z : List Int} (v1 v2 v3 : Value) (h : RfS w B dv P Z W) (hg : Has W g 3 xs) (hgd : Has W gd 3 ys) :
    RfX w W.heap.size [v1, v2, v3] g gd xs ys (W.alloc (Obj.cells #[v1, v2, v3] 53)) :=
  ⟨h.low.alloc h.low.size _, h.res.alloc _, Has.new W _ _, hg.alloc _, hgd.alloc _⟩
theorem RfX.done {w W : World} {b g gd : Nat} {xs ys tv : List Value} (v1 v2 v3 : Value) (h : RfX w b tv g gd xs ys W) :
    Has (((W.setCell ⟨w.heap.size, 0, none⟩ v1).setCell ⟨w.heap.size, 1, none⟩ v2).setCell ⟨w.heap.size, 2, none⟩ v3) w.heap.size 53 [v1, v2, v3] ∧
    Has (((W.setCell ⟨w.heap.size, 0, none⟩ v1).setCell ⟨w.heap.size, 1, none⟩ v2).setCell ⟨w.heap.size, 2, none⟩ v3) g 3 xs ∧ Has (((W.setCell ⟨w.heap.size, 0, none⟩ v1).setCell ⟨w.heap.size, 1, none⟩ v2).setCell ⟨w.heap.size, 2, none⟩ v3) gd 3 ys ∧
    Below w.heap.size w (((W.setCell ⟨w.heap.size, 0, none⟩ v1).setCell ⟨w.heap.size, 1, none⟩ v2).setCell ⟨w.heap.size, 2, none⟩ v3) :=
  have h2 : g ≠ w.heap.size := h.shp.apart h.res (by decide)
  have h3 : gd ≠ w.heap.size := h.dat.apart h.res (by decide)
  ⟨((h.res.set_ 0 v1).set_ 1 v2).set_ 2 v3, ((h.shp.far (p := ⟨w.heap.size, 0, none⟩) h2 v1).far (p := ⟨w.heap.size, 1, none⟩) h2 v2).far (p := ⟨w.heap.size, 2, none⟩) h2 v3,
    ((h.dat.far (p := ⟨w.heap.size, 0, none⟩) h3 v1).far (p := ⟨w.heap.size, 1, none⟩) h3 v2).far (p := ⟨w.heap.size, 2, none⟩) h3 v3,
    ((h.low.setCell (p := ⟨w.heap.size, 0, none⟩) (Nat.le_refl _) v1).setCell (p := ⟨w.heap.size, 1, none⟩) (Nat.le_refl _) v2).setCell (p := ⟨w.heap.size, 2, none⟩) (Nat.le_refl _) v3⟩
/-- The result's block at the beginning, and once its zeros are stored again. -/
theorem res_zero {w W : World} (hz : Has W w.heap.size 53 [.slice none 0 0, .bool false, .slice none 0 0]) (hB : Below w.heap.size w W) :
    Has (((W.setCell ⟨w.heap.size, 0, none⟩ (.slice none 0 0)).setCell ⟨w.heap.size, 1, none⟩ (.bool false)).setCell ⟨w.heap.size, 2, none⟩ (.slice none 0 0)) w.heap.size 53 [.slice none 0 0, .bool false, .slice none 0 0] ∧
    Below w.heap.size w (((W.setCell ⟨w.heap.size, 0, none⟩ (.slice none 0 0)).setCell ⟨w.heap.size, 1, none⟩ (.bool false)).setCell ⟨w.heap.size, 2, none⟩ (.slice none 0 0)) :=
  ⟨((hz.set_ 0 _).set_ 1 _).set_ 2 _, ((hB.setCell (p := ⟨w.heap.size, 0, none⟩) (Nat.le_refl _) _).setCell (p := ⟨w.heap.size, 1, none⟩) (Nat.le_refl _) _).setCell (p := ⟨w.heap.size, 2, none⟩) (Nat.le_refl _) _⟩
set_option maxRecDepth 100000 in
set_option maxHeartbeats 4000000 in
theorem rread_c (bs : List Nat) (A : Option Addr) (cap : Nat) (w : World) (hr : Rb w A bs) (hl : bs.length ≤ 1000000) (hc : bs.length ≤ cap) :
    Calls Tryd.prog 58 #[.slice A bs.length cap] w fun e w' =>
      (Tens.rcode bs = 0 → ∃ g c rest gd ns, ns = Tens.nums (Tens.ru bs) ((bs.take (Tens.rn bs + Tens.rs bs)).drop (Tens.rn bs)) ∧ e = .returned (.tuple #[.agg (tcells (some ⟨g, 0, none⟩) (Tens.rdims bs).length c (Tens.ru bs) (some ⟨gd, 0, none⟩) ns.length ns.length), .int .i64 ((Tens.rn bs + Tens.rs bs : Nat) : Int), .int .i64 0]) ∧
        Has w' g 3 (i64s (Tens.rdims bs) ++ rest) ∧ Has w' gd 3 (i64s ns)) ∧
      (Tens.rcode bs ≠ 0 → e = .returned (.tuple #[.agg (tcells none 0 0 false none 0 0), .int .i64 0, .int .i64 (Tens.rcode bs : Nat)])) ∧ Below w.heap.size w w' := by
  have hz : Has (w.alloc (Obj.cells #[.slice none 0 0, .bool false, .slice none 0 0] 53)) w.heap.size 53 [.slice none 0 0, .bool false, .slice none 0 0] := Has.new w _ _
  have hB := (Below.refl _ w).alloc (Nat.le_refl _) (Obj.cells #[.slice none 0 0, .bool false, .slice none 0 0] 53)
  have HD := hide (rreaddesc_c bs A cap _ (hr.below hB) hl)
  have hsl := Shp.size_le (Tens.rdims bs) (Tens.ru bs)
  have hrs : (Tens.rs bs : Int) = Shp.size (Tens.rdims bs) (Tens.ru bs) := by unfold Tens.rs; omega
  have hzl : (Tens.rdims bs).length < 8 := by
    match bs with
    | [] => simp [Tens.rdims]
    | h :: t => show (Pk.dims (h % 8) (h :: t)).length < 8; rw [Pk.dims_length]; omega
  have hrn : Tens.rn bs < 16 := by
    match bs with
    | [] => simp [Tens.rn]
    | h :: t => show 1 + 2 * (h % 8) < 16; omega
  have hcode : Tens.rcode bs = if Pk.code bs ≠ 0 then Pk.code bs else if Shp.code (Tens.rdims bs) ≠ 0 then Shp.code (Tens.rdims bs) else if bs.length < Tens.rn bs + Tens.rs bs then 105 else 0 := rfl
  have HR := hide hr
  obtain ⟨Z, hZ⟩ : ∃ Z, Hid (Tens.rdims bs = Z) := ⟨_, hide rfl⟩
  obtain ⟨u, hu⟩ : ∃ u, Hid (Tens.ru bs = u) := ⟨_, hide rfl⟩
  obtain ⟨N, hN⟩ : ∃ N, Hid (Tens.rn bs = N) := ⟨_, hide rfl⟩
  obtain ⟨s, hs⟩ : ∃ s, Hid (Tens.rs bs = s) := ⟨_, hide rfl⟩
  obtain ⟨p, hp⟩ : ∃ p, Hid (Pk.code bs = p) := ⟨_, hide rfl⟩
  obtain ⟨K, hK⟩ : ∃ K, Hid (Tens.rcode bs = K) := ⟨_, hide rfl⟩
  rw [hZ.out, hu.out] at hrs hsl
  rw [hZ.out] at hzl hcode
  rw [hZ.out, hu.out, hN.out, hp.out] at HD
  rw [hN.out] at hrn hcode
  rw [hs.out] at hrs hcode
  rw [hp.out, hK.out] at hcode
  rw [hZ.out, hu.out, hN.out, hs.out, hK.out]
  clear hZ hu hN hs hp hK hr
  have HSV := hide (fun W P c (h : Ri W P Z) => refvalid_c Z P c u W h (by omega))
  have HSS := hide (fun W P c (h : Ri W P Z) => size_c Z P c u W h (by omega))
  rw [← hrs] at HSS
  obtain ⟨q, hq⟩ : ∃ q, Hid (Shp.code Z = q) := ⟨_, hide rfl⟩
  rw [hq.out] at HSV hcode
  obtain ⟨n, hn⟩ : ∃ n, Hid (Z.length = n) := ⟨_, hide rfl⟩
  rw [hn.out] at HD HSV HSS ⊢
  have HRS := hide hrs
  have hs6 : s ≤ 65536 := by omega
  clear hrs hsl
  have HZ := hide hz
  have HB := hide hB
  obtain ⟨m, hm⟩ : ∃ m, Hid (bs.length = m) := ⟨_, hide rfl⟩
  rw [hm.out] at hl hc HD hcode ⊢
  obtain ⟨Q, hQ⟩ : ∃ Q, Hid (N + s = Q) := ⟨_, hide rfl⟩
  rw [hQ.out] at hcode ⊢
  clear hz hB
  go_enter Tryd.func58, Tryd.ntmps58
  go_wp2_with fail
  refine HD.out.mono ?_
  rintro e w1 ⟨hOK, hBad, hb⟩
  have hz1 := HZ.out.below hb HZ.out.lt
  have hB1 := HB.out.trans (hb.mono HB.out.size)
  clear hb HZ HB HD
  by_cases hp0 : p = 0
  · rw [if_neg (by omega)] at hcode
    obtain ⟨P, c, rfl, hRi⟩ := hOK hp0
    clear hOK hBad
    subst hp0
    have HX := hide (RfS.mk (hB1.alloc hB1.size (Obj.cells (dcells P n c u) 24)) (hz1.alloc (Obj.cells (dcells P n c u) 24)) (desc_row w1 P n c u) (hRi.below ((Below.refl w1.heap.size w1).alloc (Nat.le_refl _) (Obj.cells (dcells P n c u) 24))))
    clear hz1 hB1 hRi
    have c0 : (w1.alloc (Obj.cells (dcells P n c u) 24)).cell? ⟨w1.heap.size, 0, none⟩ = some (.slice P n c) := by rw [HX.out.des.cell]; rfl
    have c1 : (w1.alloc (Obj.cells (dcells P n c u) 24)).cell? ⟨w1.heap.size, 1, none⟩ = some (.bool u) := by rw [HX.out.des.cell]; rfl
    go_wp2_with fail
    refine (HSV.out _ P c HX.out.ri).mono ?_
    rintro e w2 ⟨rfl, hb⟩
    have HX2 := hide (HX.out.below hb)
    clear hb HX c0 c1
    by_cases hq0 : q = 0
    · subst hq0
      rw [if_neg (by simp)] at hcode
      have c0 : w2.cell? ⟨w1.heap.size, 0, none⟩ = some (.slice P n c) := by rw [HX2.out.des.cell]; rfl
      have c1 : w2.cell? ⟨w1.heap.size, 1, none⟩ = some (.bool u) := by rw [HX2.out.des.cell]; rfl
      go_wp2_with fail
      refine (HSS.out _ P c HX2.out.ri).mono ?_
      rintro e w3 ⟨rfl, hb⟩
      have HX3 := hide (HX2.out.below hb)
      clear hb HX2 c0 c1
      have hsub : IntKind.i64.wrap ((m : Int) - (N : Int)) = (m : Int) - (N : Int) := by rw [IntKind.wrap_i64]; omega
      by_cases hsh : m < Q
      · rw [if_pos hsh] at hcode
        subst hcode
        have hlt : (m : Int) - (N : Int) < (s : Int) := by have := hQ.out; omega
        have d0 : w3.cell? ⟨w.heap.size, 0, none⟩ = some (.slice none 0 0) := by rw [HX3.out.res.cell]; rfl
        have d1 : w3.cell? ⟨w.heap.size, 1, none⟩ = some (.bool false) := by rw [HX3.out.res.cell]; rfl
        have d2 : w3.cell? ⟨w.heap.size, 2, none⟩ = some (.slice none 0 0) := by rw [HX3.out.res.cell]; rfl
        have f0 := HX3.out.res.frozen 0
        have f1 := HX3.out.res.frozen 1
        have f2 := HX3.out.res.frozen 2
        have HO := hide (res_zero HX3.out.res HX3.out.low)
        clear HX3
        go_wp2_with fail
        refine bodyPost_ret (results_tens3 rfl _ _ w.heap.size _ _ _ rfl HO.out.1) rfl ?_
        first | exact ⟨fun h => absurd h (by decide), fun _ => rfl, HO.out.2⟩ | exact ⟨rfl, HO.out.2⟩
      · rw [if_neg hsh] at hcode
        subst hcode
        have hge : ¬ (m : Int) - (N : Int) < (s : Int) := by have := hQ.out; omega
        obtain ⟨A2, hA2⟩ : ∃ A2, Hid ((if cap = N then A else A.map (·.add (N * 1))) = A2) := ⟨_, hide rfl⟩
        have hcut0 := fun W => cut_run A A2 m cap N Q hA2 (by have := hQ.out; omega) (by omega) W
        rw [show Q - N = s by have := hQ.out; omega] at hcut0
        obtain ⟨cs, hcs⟩ : ∃ cs, Hid ((bs.take Q).drop N = cs) := ⟨_, hide rfl⟩
        have hcl : cs.length = s := by rw [← hcs.out, List.length_drop, List.length_take, hm.out]; have := hQ.out; omega
        obtain ⟨L, hL⟩ : ∃ L, Hid (Tens.nums u cs = L) := ⟨_, hide rfl⟩
        obtain ⟨M, hM⟩ : ∃ M, Hid (L.length = M) := ⟨_, hide rfl⟩
        have HOf : Hid (∀ W, RfS w w1.heap.size [.slice P n c, .bool u] P Z W → Calls Tryd.prog 56 #[.agg (dcells P n c u), .slice A2 s (cap - N)] W fun e w' => (∃ g c5 rest gd, e = .returned (.tuple #[.agg (tcells (some ⟨g, 0, none⟩) n c5 u (some ⟨gd, 0, none⟩) M M), .int .i64 0]) ∧ Has w' g 3 (i64s Z ++ rest) ∧ Has w' gd 3 (i64s L)) ∧ Below W.heap.size W w') := hide (by
          intro W h
          have hb2 := (HR.out.below h.low).cut (lo := N) (hi := Q) hA2 (by rw [hm.out]; omega) (by rw [hm.out]; exact hc)
          rw [hcs.out] at hb2
          have k := rof_c Z cs P A2 c (cap - N) u W h.ri hb2 (by omega) (by have := hQ.out; omega) (by have := hQ.out; omega)
          have h0 : Tens.ofcode Z u cs = 0 := by
            unfold Tens.ofcode
            rw [if_neg (by rw [hq.out]; simp), if_neg (by rw [hcl, HRS.out]; omega), if_neg (by rw [hcl, HRS.out]; omega)]
          rw [hn.out, hL.out, hM.out, h0, hcl] at k
          refine k.mono ?_
          rintro e w' ⟨h1, -, h3⟩
          exact ⟨h1 rfl, h3⟩)
        have hsum : IntKind.i64.wrap ((N : Int) + (s : Int)) = (Q : Int) := by rw [IntKind.wrap_i64, ← hQ.out]; omega
        have hns : Hid (∃ ns, ns = Tens.nums u ((bs.take Q).drop N) ∧ ns = L ∧ ns.length = M) := hide ⟨L, by rw [hcs.out, hL.out], rfl, hM.out⟩
        have HA1 := hide (RfS.mk (HX3.out.low.alloc HX3.out.low.size (Obj.cells #[.slice none 0 0, .bool false, .slice none 0 0] 53)).drew ((HX3.out.res.alloc (Obj.cells #[.slice none 0 0, .bool false, .slice none 0 0] 53)).drewN 1) ((HX3.out.des.alloc (Obj.cells #[.slice none 0 0, .bool false, .slice none 0 0] 53)).drewN 1) (HX3.out.ri.below ((Below.refl w3.heap.size w3).alloc (Nat.le_refl _) (Obj.cells #[.slice none 0 0, .bool false, .slice none 0 0] 53)).drew))
        have HA0 := hide (RfS.mk HX3.out.low.drew (HX3.out.res.drewN 1) (HX3.out.des.drewN 1) (HX3.out.ri.below (Below.refl w3.heap.size w3).drew))
        have HAb : Hid (Has ((w3.alloc (Obj.cells #[.slice none 0 0, .bool false, .slice none 0 0] 53)).drew) w3.heap.size 53 [.slice none 0 0, .bool false, .slice none 0 0]) := hide ((Has.new w3 53 [.slice none 0 0, .bool false, .slice none 0 0]).drewN 1)
        have hlw : Hid (w.heap.size < w3.heap.size) := hide HX3.out.res.lt
        have c0 : w3.cell? ⟨w1.heap.size, 0, none⟩ = some (.slice P n c) := by rw [HX3.out.des.cell]; rfl
        have c1 : w3.cell? ⟨w1.heap.size, 1, none⟩ = some (.bool u) := by rw [HX3.out.des.cell]; rfl
        have a0 : (w3.alloc (Obj.cells #[.slice none 0 0, .bool false, .slice none 0 0] 53)).cell? ⟨w1.heap.size, 0, none⟩ = some (.slice P n c) := by rw [(HX3.out.des.alloc _).cell]; rfl
        have a1 : (w3.alloc (Obj.cells #[.slice none 0 0, .bool false, .slice none 0 0] 53)).cell? ⟨w1.heap.size, 1, none⟩ = some (.bool u) := by rw [(HX3.out.des.alloc _).cell]; rfl
        clear HX3 HR hcs hL hM hcl hQ hA2
        go_wp2_with fail
        go_region_law (first
          | (go_simp; go_at_call 56; refine (HOf.out _ HA1.out).mono ?_; rintro e w5 ⟨⟨g, c5, rest, gd, rfl, hg, hgd⟩, hb⟩; have hbx := HAb.out.below hb HAb.out.lt; have k0 : w5.cell? ⟨w3.heap.size, 0, none⟩ = some (.slice none 0 0) := (by rw [hbx.cell]; rfl); have k1 : w5.cell? ⟨w3.heap.size, 1, none⟩ = some (.bool false) := (by rw [hbx.cell]; rfl); have k2 : w5.cell? ⟨w3.heap.size, 2, none⟩ = some (.slice none 0 0) := (by rw [hbx.cell]; rfl); have f0 := hbx.frozen 0; have f1 := hbx.frozen 1; have f2 := hbx.frozen 2; have HF := hide (rfx_set (.slice (some ⟨g, 0, none⟩) n c5) (.bool u) (.slice (some ⟨gd, 0, none⟩) M M) (HA1.out.below hb) hbx hlw.out hg hgd); obtain ⟨F, hFe⟩ : ∃ F, Hid (((w5.setCell ⟨w3.heap.size, 0, none⟩ (.slice (some ⟨g, 0, none⟩) n c5)).setCell ⟨w3.heap.size, 1, none⟩ (.bool u)).setCell ⟨w3.heap.size, 2, none⟩ (.slice (some ⟨gd, 0, none⟩) M M) = F) := ⟨_, hide rfl⟩; rw [hFe.out] at HF; have b0 : F.cell? ⟨w3.heap.size, 0, none⟩ = some (.slice (some ⟨g, 0, none⟩) n c5) := (by rw [HF.out.box.cell]; rfl); have b1 : F.cell? ⟨w3.heap.size, 1, none⟩ = some (.bool u) := (by rw [HF.out.box.cell]; rfl); have b2 : F.cell? ⟨w3.heap.size, 2, none⟩ = some (.slice (some ⟨gd, 0, none⟩) M M) := (by rw [HF.out.box.cell]; rfl); have d0 : F.cell? ⟨w.heap.size, 0, none⟩ = some (.slice none 0 0) := (by rw [HF.out.res.cell]; rfl); have d1 : F.cell? ⟨w.heap.size, 1, none⟩ = some (.bool false) := (by rw [HF.out.res.cell]; rfl); have d2 : F.cell? ⟨w.heap.size, 2, none⟩ = some (.slice none 0 0) := (by rw [HF.out.res.cell]; rfl); have e0 := HF.out.res.frozen 0; have e1 := HF.out.res.frozen 1; have e2 := HF.out.res.frozen 2; have HO := hide (HF.out.done (.slice (some ⟨g, 0, none⟩) n c5) (.bool u) (.slice (some ⟨gd, 0, none⟩) M M)); clear HF; clear hbx hb hg hgd)
          | (go_simp; go_at_call 56; refine (HOf.out _ HA0.out).mono ?_; rintro e w5 ⟨⟨g, c5, rest, gd, rfl, hg, hgd⟩, hb⟩; have HF := hide (rfx_new (.slice (some ⟨g, 0, none⟩) n c5) (.bool u) (.slice (some ⟨gd, 0, none⟩) M M) (HA0.out.below hb) hg hgd); obtain ⟨F, hFe⟩ : ∃ F, Hid (w5.alloc (Obj.cells #[.slice (some ⟨g, 0, none⟩) n c5, .bool u, .slice (some ⟨gd, 0, none⟩) M M] 53) = F) := ⟨_, hide rfl⟩; rw [hFe.out] at HF; have b0 : F.cell? ⟨w5.heap.size, 0, none⟩ = some (.slice (some ⟨g, 0, none⟩) n c5) := (by rw [HF.out.box.cell]; rfl); have b1 : F.cell? ⟨w5.heap.size, 1, none⟩ = some (.bool u) := (by rw [HF.out.box.cell]; rfl); have b2 : F.cell? ⟨w5.heap.size, 2, none⟩ = some (.slice (some ⟨gd, 0, none⟩) M M) := (by rw [HF.out.box.cell]; rfl); have d0 : F.cell? ⟨w.heap.size, 0, none⟩ = some (.slice none 0 0) := (by rw [HF.out.res.cell]; rfl); have d1 : F.cell? ⟨w.heap.size, 1, none⟩ = some (.bool false) := (by rw [HF.out.res.cell]; rfl); have d2 : F.cell? ⟨w.heap.size, 2, none⟩ = some (.slice none 0 0) := (by rw [HF.out.res.cell]; rfl); have e0 := HF.out.res.frozen 0; have e1 := HF.out.res.frozen 1; have e2 := HF.out.res.frozen 2; have HO := hide (HF.out.done (.slice (some ⟨g, 0, none⟩) n c5) (.bool u) (.slice (some ⟨gd, 0, none⟩) M M)); clear HF; clear hb hg hgd))
        all_goals
          have hFe' := hFe.out
          rw [hFe']
          clear hFe hFe'
          go_wp2_with fail
          refine bodyPost_ret (results_tens3 rfl _ _ w.heap.size _ _ _ rfl HO.out.1) rfl ?_
          obtain ⟨ns, rfl, h2, h3⟩ := hns.out
          exact ⟨⟨g, c5, rest, gd, by rw [h3]; rfl, HO.out.2.1, by rw [h2]; exact HO.out.2.2.1⟩, HO.out.2.2.2⟩
    · rw [if_pos hq0] at hcode
      obtain rfl : q = K := hcode.symm
      have hqn : ((q : Int) == 0) = false := by simp; omega
      have d0 : w2.cell? ⟨w.heap.size, 0, none⟩ = some (.slice none 0 0) := by rw [HX2.out.res.cell]; rfl
      have d1 : w2.cell? ⟨w.heap.size, 1, none⟩ = some (.bool false) := by rw [HX2.out.res.cell]; rfl
      have d2 : w2.cell? ⟨w.heap.size, 2, none⟩ = some (.slice none 0 0) := by rw [HX2.out.res.cell]; rfl
      have f0 := HX2.out.res.frozen 0
      have f1 := HX2.out.res.frozen 1
      have f2 := HX2.out.res.frozen 2
      have HO := hide (res_zero HX2.out.res HX2.out.low)
      clear HX2
      go_wp2_with fail
      refine bodyPost_ret (results_tens3 rfl _ _ w.heap.size _ _ _ rfl HO.out.1) rfl ?_
      first | exact ⟨fun h => absurd h hq0, fun _ => rfl, HO.out.2⟩ | exact ⟨rfl, HO.out.2⟩
  · rw [if_pos hp0] at hcode
    obtain rfl := hBad hp0
    clear hOK hBad
    obtain rfl : p = K := hcode.symm
    have hqn : ((p : Int) == 0) = false := by simp; omega
    have hz2 := hz1.alloc (Obj.cells (dcells none 0 0 false) 24)
    have hB2 := hB1.alloc hB1.size (Obj.cells (dcells none 0 0 false) 24)
    have d0 : (w1.alloc (Obj.cells (dcells none 0 0 false) 24)).cell? ⟨w.heap.size, 0, none⟩ = some (.slice none 0 0) := by rw [hz2.cell]; rfl
    have d1 : (w1.alloc (Obj.cells (dcells none 0 0 false) 24)).cell? ⟨w.heap.size, 1, none⟩ = some (.bool false) := by rw [hz2.cell]; rfl
    have d2 : (w1.alloc (Obj.cells (dcells none 0 0 false) 24)).cell? ⟨w.heap.size, 2, none⟩ = some (.slice none 0 0) := by rw [hz2.cell]; rfl
    have f0 := hz2.frozen 0
    have f1 := hz2.frozen 1
    have f2 := hz2.frozen 2
    have HO := hide (res_zero hz2 hB2)
    clear hz1 hB1 hz2 hB2
    go_wp2_with fail
    refine bodyPost_ret (results_tens3 rfl _ _ w.heap.size _ _ _ rfl HO.out.1) rfl ?_
    first | exact ⟨fun h => absurd h hp0, fun _ => rfl, HO.out.2⟩ | exact ⟨rfl, HO.out.2⟩
end Go.Proofs.YtnbjcdmiehnceaaDoor
