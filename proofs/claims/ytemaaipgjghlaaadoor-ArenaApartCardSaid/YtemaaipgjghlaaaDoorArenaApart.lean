/-
  The law ArenaApart, its long walk. By an AI agent. No person has read it.
-/
import Derived.Test.YtemaaipgjghlaaaDoorApartT1
import Derived.Test.YtemaaipgjghlaaaDoorApartT2
namespace Go.Proofs.YtemaaipgjghlaaaDoor
open Go.RowKit

set_option maxRecDepth 100000 in
set_option maxHeartbeats 8000000 in
theorem apart_short (ds : List DoI) (A : Option Addr) (cap : Nat) (w : World) (ar : Addr) (hD : Dos w A ds) (hE : ErrIs w 1 ar) (hl : ds.length ≤ 60) :
    Calls Tryd.prog 3 #[.slice A ds.length cap] w fun e w' => e = .returned (.bool true) ∧ Below w.heap.size w w' := by
  have HD := hide hD
  have HE := hide hE
  obtain ⟨L, hL⟩ : ∃ L, Hid (ds.length = L) := ⟨_, hide rfl⟩
  rw [hL.out] at hl ⊢
  have hli : ¬ ((60 : Int) < (L : Int)) := by omega
  clear hD hE
  go_enter Tryd.func3, Tryd.ntmps3
  go_wp2_with fail
  refine (first13_c w).mono ?_
  rintro e w1 ⟨rfl, hb⟩
  have HB1 := hide hb
  clear hb
  go_wp2_with fail
  refine (fnew 400 (by decide) (by decide) w1).mono ?_
  rintro e w2 ⟨a, rfl, hI, hb⟩
  obtain ⟨B, hB⟩ : ∃ B, Hid (w1.heap.size = B) := ⟨_, hide rfl⟩
  have hBw : w.heap.size ≤ B := by rw [← hB.out]; exact HB1.out.size
  rw [hB.out] at hI
  have HB2 := hide (HB1.out.trans (hb.mono HB1.out.size))
  have VA := hide (fadd_ok 0 150 0 0 hI (by decide) (by decide) rfl (by rw [List.length_replicate]; rfl))
  clear hI hb HB1
  go_wp2_with fail
  refine VA.out.mono ?_
  rintro e w3 ⟨rfl, hI, hT⟩
  have HB3 := hide (HB2.out.trans (hT.below.mono hBw))
  have VA2 := hide (fadd_ok 1 100 150 1 hI (by decide) (by decide) rfl (by rw [List.length_replicate]; rfl))
  clear hI hT HB2 VA
  go_wp2_with fail
  refine VA2.out.mono ?_
  rintro e w4 ⟨rfl, hI, hT⟩
  have HB4 := hide (HB3.out.trans (hT.below.mono hBw))
  have VA3 := hide (fadd_ok 2 150 250 2 hI (by decide) (by decide) rfl (by rw [List.length_replicate]; rfl))
  clear hI hT HB3 VA2
  go_wp2_with fail
  refine VA3.out.mono ?_
  rintro e w5 ⟨rfl, hI, hT⟩
  have HB5 := hide (HB4.out.trans (hT.below.mono hBw))
  have hI5 : Ar.Is B w5 a (List.replicate 400 0) (Ap.ps fun _ => []) fun _ => False := hI
  have HRD : Hid (Ap.Round w B a 0 (.slice none 0 0) (.slice none 0 0) (.slice none 0 0) w5) := hide ⟨[], _, _, _, Nat.le_refl _, Ap.Inv.nil, ⟨hI5, ⟨rfl, .inl ⟨rfl, rfl⟩⟩, ⟨rfl, .inl ⟨rfl, rfl⟩⟩, ⟨rfl, .inl ⟨rfl, rfl⟩⟩, fun k hk => (by cases hk), fun k hk => (by cases hk), fun k hk => (by cases hk), fun k hk => (by cases hk), fun k hk => (by cases hk), fun k hk => (by cases hk)⟩, HB5.out⟩
  clear hI hI5 hT HB4 HB5 VA3
  go_wp2_with fail
  go_loopw [9, 6, 7, 8] (fun v vo vw vt wr => ∃ (i : Nat), i ≤ L ∧ v = .int .i64 i ∧ Hid (Ap.Round w B a i vo vw vt wr)) (fun v _ _ _ _ => L - (intOf v).toNat)
  case atStart => exact ⟨0, by omega, rfl, HRD⟩
  case round =>
    obtain ⟨i, hi, rfl, HR⟩ := hrel
    by_cases hlt : i < L
    · obtain ⟨E, mem, b, T, hEi, hInv, hSt, hBel⟩ := HR.out
      have HINV := hide hInv
      have HST := hide hSt
      have HB := hide hBel
      obtain ⟨d, hd⟩ : ∃ d, ds[i]? = some d := ⟨_, List.getElem?_eq_getElem (by rw [hL.out]; exact hlt)⟩
      obtain ⟨ad, hA, -, c0, c1, c2, c3⟩ := (HD.out.below hBel) i d hd
      subst hA
      have hli : (i : Int) < (L : Int) := by omega
      by_cases hk : d.k.tmod 2 = 1
      · clear HR hd
        refine aprt1_c B a i L cap ad ar u6 u7 u8 d E mem b T w wr HE hl hlt hBw hEi hInv hSt hBel hk c0 c1 c2 ?_
        intro u2 u10 u11 u12 u13 u14 u15 u16 u17 u18 u19 u20 u21 u22 u23 u24 u25 u26 u54 u55 u56 u57 u58 u59 u60 u61 u62 u63 u64 u65 u66 u67 u68 u69 u70 u71 u72 u73 u74 u75 u76 u77 u78 u79 u80 u81 u82 u83 u84 u85 u86 u87 u88 u89 u90 u91 u92 u93 u94 u95 u96 u97 u98 u99 u100 u101 u102 u103 u104 u105 u106 u107 u108 u109 u110 u111 u112 u113 u114 u115 u116 u117 u118 u119 u120 u121 u122 u123 u124 u125 u126 u127 u128 u129 u130 u131 u132 u133 u134 u135 u136 u137 u138 u139 u140 u141 u142 u143 u144 u145 u146 u147 u148 u149 u150 u151 u152 u153 u154 u155 u156 u157 u158 u159 u160 u161 u162 u163 u164 u165 u166 u167 u168 u169 u170 u171 u172 u173 u174 u175 u176 u177 u178 u179 u180 u181 u182 u183 u184 u185 u186 u187 u188 u189 u190 u191 u192 u193 u194 u195 u196 u197 u198 u199 u200 u201 u202 u203 u204 u205 u206 u207 u208 u209 u210 u211 u212 u213 u214 u215 u216 u217 u218 u219 u220 u221 u222 u223 u224 u225 u226 u227 u228 u229 u230 u231 u232 u233 u234 u235 u236 u237 u238 u239 u240 u241 u242 u243 u244 u245 u246 u247 u248 u249 u250 u251 u252 u253 u254 u255 u256 u257 u258 u259 u260 u261 u262 vo' vw' vt' w' hR'
        have HRN := hide hR'
        clear hR' HINV HST HB
        go_wp2_with fail
        go_roundw
        case rel => exact ⟨i + 1, by omega, by go_num, HRN⟩
        case measure => simp [intOf]; omega
      by_cases he0 : E.length = 0
      · clear HR hd
        refine aprt2_c B a i L cap ad ar u6 u7 u8 d E mem b T w wr HE hl hlt hBw hEi hInv hSt hBel hk he0 c0 c1 c2 ?_
        intro u2 u10 u11 u12 u13 u14 u15 u16 u17 u18 u19 u20 u21 u22 u23 u24 u25 u26 u54 u55 u56 u57 u58 u59 u60 u61 u62 u63 u64 u65 u66 u67 u68 u69 u70 u71 u72 u73 u74 u75 u76 u77 u78 u79 u80 u81 u82 u83 u84 u85 u86 u87 u88 u89 u90 u91 u92 u93 u94 u95 u96 u97 u98 u99 u100 u101 u102 u103 u104 u105 u106 u107 u108 u109 u110 u111 u112 u113 u114 u115 u116 u117 u118 u119 u120 u121 u122 u123 u124 u125 u126 u127 u128 u129 u130 u131 u132 u133 u134 u135 u136 u137 u138 u139 u140 u141 u142 u143 u144 u145 u146 u147 u148 u149 u150 u151 u152 u153 u154 u155 u156 u157 u158 u159 u160 u161 u162 u163 u164 u165 u166 u167 u168 u169 u170 u171 u172 u173 u174 u175 u176 u177 u178 u179 u180 u181 u182 u183 u184 u185 u186 u187 u188 u189 u190 u191 u192 u193 u194 u195 u196 u197 u198 u199 u200 u201 u202 u203 u204 u205 u206 u207 u208 u209 u210 u211 u212 u213 u214 u215 u216 u217 u218 u219 u220 u221 u222 u223 u224 u225 u226 u227 u228 u229 u230 u231 u232 u233 u234 u235 u236 u237 u238 u239 u240 u241 u242 u243 u244 u245 u246 u247 u248 u249 u250 u251 u252 u253 u254 u255 u256 u257 u258 u259 u260 u261 u262 vo' vw' vt' w' hR'
        have HRN := hide hR'
        clear hR' HINV HST HB
        go_wp2_with fail
        go_roundw
        case rel => exact ⟨i + 1, by omega, by go_num, HRN⟩
        case measure => simp [intOf]; omega
      clear hInv hSt hBel HR hd
      have hj := numv_lt d.a 3 (by decide)
      have hm := numv_lt d.b 30 (by decide)
      have VJ := hide (fun W => number_v d.a 3 (by decide) (by decide) 3 rfl W)
      have VM := hide (fun W => number_v d.b 30 (by decide) (by decide) 30 rfl W)
      obtain ⟨j, hjj⟩ : ∃ j, Hid (numv d.a 3 = j) := ⟨_, hide rfl⟩
      obtain ⟨m, hmm⟩ : ∃ m, Hid (numv d.b 30 = m) := ⟨_, hide rfl⟩
      rw [hjj.out] at hj VJ
      rw [hmm.out] at hm VM
      obtain ⟨n, hn⟩ : ∃ n, Hid (m + 1 = n) := ⟨_, hide rfl⟩
      have hnb : 1 ≤ n ∧ n ≤ 30 := by have := hn.out; omega
      have fn : IntKind.i64.wrap ((m : Int) + 1) = (n : Int) := by rw [IntKind.wrap_i64]; have := hn.out; omega
      obtain ⟨ne, hne⟩ : ∃ ne, Hid (E.length = ne) := ⟨_, hide rfl⟩
      have hne6 : ne ≤ 60 := by have := hne.out; omega
      have hz0 : ((ne : Int) == 0) = false := by have := hne.out; simp; omega
      have hz1 : (d.k.tmod 2 == 1) = false := by simpa using hk
      obtain ⟨Ao, co, rfl⟩ : ∃ Ao co, u6 = .slice Ao ne co := by
        obtain ⟨Ao, co, e, -⟩ := own_lie HST.out.u_
        rw [List.length_map, hne.out] at e
        exact ⟨Ao, co, e⟩
      obtain ⟨Aw, cw, rfl⟩ : ∃ Ao co, u7 = .slice Ao ne co := by
        obtain ⟨Ao, co, e, -⟩ := own_lie HST.out.v_
        rw [List.length_map, hne.out] at e
        exact ⟨Ao, co, e⟩
      obtain ⟨At, ct, rfl⟩ : ∃ Ao co, u8 = .slice Ao ne co := by
        obtain ⟨Ao, co, e, -⟩ := own_lie HST.out.x_
        rw [List.length_map, hne.out] at e
        exact ⟨Ao, co, e⟩
      go_wp2_with fail
      refine (VJ.out _).mono ?_
      rintro e w6 ⟨rfl, rfl⟩
      go_wp2_with fail
      refine (VM.out _).mono ?_
      rintro e w7 ⟨rfl, rfl⟩
      go_wp2_with fail
      have hn0 : 0 < ne := by have := hne.out; omega
      have hkl0 := numv_lt d.c ne hn0
      have VK := hide (fun W => number_v d.c ne hn0 (by omega) ne rfl W)
      obtain ⟨k, hkk⟩ : ∃ k, Hid (numv d.c ne = k) := ⟨_, hide rfl⟩
      rw [hkk.out] at hkl0 VK
      obtain ⟨ek, hek⟩ : ∃ e, E[k]? = some e := ⟨_, List.getElem?_eq_getElem (by rw [hne.out]; exact hkl0)⟩
      obtain ⟨el, hel⟩ : ∃ e, E[ne - 1]? = some e := ⟨_, List.getElem?_eq_getElem (by rw [hne.out]; omega)⟩
      obtain ⟨g1, c1', e1, hc1, ho1, hr1⟩ := own_ints HST.out.u_ (by rw [List.length_map, hne.out]; exact hn0)
      obtain ⟨g2, c2', e2, hc2, ho2, hr2⟩ := own_ints HST.out.v_ (by rw [List.length_map, hne.out]; exact hn0)
      obtain ⟨g3, c3', e3, hc3, ho3, hr3⟩ := own_ints HST.out.x_ (by rw [List.length_map, hne.out]; exact hn0)
      rw [List.length_map, hne.out] at e1 e2 e3 hc1 hc2 hc3
      injection e1 with e1a e1b e1c
      injection e2 with e2a e2b e2c
      injection e3 with e3a e3b e3c
      subst e1a e1c e2a e2c e3a e3c
      have hmo : ∀ (f : En → Int) (q : Nat) (e : En), E[q]? = some e → (E.map f)[q]? = some (f e) := fun f q e h => by rw [List.getElem?_map, h]; rfl
      have HR1 := hide hr1
      have HR2 := hide hr2
      have HR3 := hide hr3
      have HO1 := hide ho1
      have HO2 := hide ho2
      have HO3 := hide ho3
      have HEK := hide hek
      have HEL := hide hel
      have HMO := hide hmo
      have hg12 : g1 ≠ g2 := fun e => HST.out.uv g1 HO1.out (by rw [e]; exact HO2.out)
      have hg23 : g2 ≠ g3 := fun e => HST.out.vx g2 HO2.out (by rw [e]; exact HO3.out)
      have hg31 : g3 ≠ g1 := fun e => HST.out.xu g3 HO3.out (by rw [e]; exact HO1.out)
      -- what is left, and the one that goes
      have HP : Hid (E.Perm (ek :: (E.set k el).take (ne - 1))) := hide (swap_perm E k ne ek el hne.out hkl0 hek hel)
      have hinv2 := HINV.out.perm HP.out
      have hwk := hinv2.who ek (List.mem_cons_self ..)
      obtain ⟨at', hat'⟩ := List.getElem?_of_mem (hinv2.mem_blk ek (List.mem_cons_self ..))
      have hspot := spot_ok 0 at' ek.off ek.n (hinv2.ok ek.who hwk) hat'
      rw [Nat.zero_add] at hspot
      have hpa := Ap.ps_at b ek.who hwk
      have hsz : Ap.size ek.who ≤ 150 := by unfold Ap.size; split <;> omega
      have VD : Hid (∀ W, Below w7.heap.size w7 W → Calls Tryd.prog 13 #[.pointer (some ⟨a, 0, none⟩), .int .i64 (ek.w), .int .i64 (ek.o)] W fun e w' => e = .returned (.bool true) ∧ ∃ mem' b', Ap.Inv mem' b' ((E.set k el).take (ne - 1)) ∧ Ap.St B w' a mem' (Ap.ps b') (.slice (some ⟨g1, 0, none⟩) ne co) (.slice (some ⟨g2, 0, none⟩) ne cw) (.slice (some ⟨g3, 0, none⟩) ne ct) (E.map En.o) (E.map En.w) (E.map En.q) T ∧ Below w.heap.size w w') := hide fun W hbW => by
        have hs := HST.out.below hbW
        refine (fdrop (ek.who : Int) ek.off ek.n at' ek.who ⟨(ek.who : Int), Ap.base ek.who, Ap.size ek.who, b ek.who⟩ hs.is_ hpa.1 hpa.2 (by show Ap.size ek.who ≤ _; omega) hat' hspot).mono ?_
        rintro e w' ⟨rfl, hI, hT⟩
        rw [Ap.ps_set b ek.who hwk] at hI
        refine ⟨rfl, _, _, hinv2.drop at' hat', hs.told hI hT, (HB.out.trans (hbW.mono HB.out.size)).trans (hT.below.mono hBw)⟩
      have x1 : w7.cell? ⟨g1, k, none⟩ = some (.int .i64 ek.o) := (HR1.out k _ (HMO.out En.o k ek HEK.out)).1
      have x2 : w7.cell? ⟨g2, k, none⟩ = some (.int .i64 ek.w) := (HR2.out k _ (HMO.out En.w k ek HEK.out)).1
      have hkl : (k : Int) < (ne : Int) := by omega
      clear hr1 hr2 hr3 ho1 ho2 ho3 hek hel hmo hinv2 hwk hat' hspot hpa hsz e1b e2b e3b HST HINV fn VJ VM c0 c1 c2 c3
      go_wp2_with fail
      refine (VK.out _).mono ?_
      rintro e w8 ⟨rfl, rfl⟩
      clear VK
      go_wp2_with fail
      refine meetW (A := fun w9 => ∃ mem' b', Ap.Inv mem' b' ((E.set k el).take (ne - 1)) ∧ Ap.St B w9 a mem' (Ap.ps b') (.slice (some ⟨g1, 0, none⟩) ne co) (.slice (some ⟨g2, 0, none⟩) ne cw) (.slice (some ⟨g3, 0, none⟩) ne ct) (E.map En.o) (E.map En.w) (E.map En.q) T ∧ Below w.heap.size w w9) ?_
      apply Exists.intro
      refine ⟨fun tail => ?_, fun w9 hA9 => ?_⟩
      · go_region_law (go_simp; go_at_call 13; refine (VD.out _ (by first | exact Below.refl _ _ | exact (Below.refl _ _).drew)).mono ?_; rintro e w9 ⟨rfl, hA9⟩)
        all_goals exact tail _ hA9
      obtain ⟨mem', b', hInv9, hSt9, hBel9⟩ := hA9
      have HINV9 := hide hInv9
      have HST9 := hide hSt9
      have HB9 := hide hBel9
      have hlast : ne - 1 < ne := by omega
      have fl : IntKind.i64.wrap ((ne : Int) - 1) = ((ne - 1 : Nat) : Int) := by rw [IntKind.wrap_i64]; omega
      obtain ⟨la, hla⟩ : ∃ la, Hid (ne - 1 = la) := ⟨_, hide rfl⟩
      have k1 := (own_cell hSt9.u_ k _ (HMO.out En.o k ek HEK.out)).1
      have k2 := (own_cell hSt9.v_ k _ (HMO.out En.w k ek HEK.out)).1
      have k3 := (own_cell hSt9.x_ k _ (HMO.out En.q k ek HEK.out)).1
      have f1 := (own_cell hSt9.u_ k _ (HMO.out En.o k ek HEK.out)).2
      have f2 := (own_cell hSt9.v_ k _ (HMO.out En.w k ek HEK.out)).2
      have f3 := (own_cell hSt9.x_ k _ (HMO.out En.q k ek HEK.out)).2
      have l1 := (own_cell hSt9.u_ (ne - 1) _ (HMO.out En.o (ne - 1) el HEL.out)).1
      have l2 := (own_cell hSt9.v_ (ne - 1) _ (HMO.out En.w (ne - 1) el HEL.out)).1
      have l3 := (own_cell hSt9.x_ (ne - 1) _ (HMO.out En.q (ne - 1) el HEL.out)).1
      rw [hla.out] at l1 l2 l3 fl hlast
      have hlai : (la : Int) < (ne : Int) := by omega
      clear hInv9 hSt9 hBel9 VD x1 x2 HR1 HR2 HR3
      go_wp2_with fail
      refine meetW (A := fun W => W = (((w9.setCell ⟨g1, k, none⟩ (.int .i64 el.o)).setCell ⟨g2, k, none⟩ (.int .i64 el.w)).setCell ⟨g3, k, none⟩ (.int .i64 el.q)).drew) ?_
      apply Exists.intro
      refine ⟨fun tail => ?_, fun w10 hA10 => ?_⟩
      · go_region_law fail
        all_goals exact tail _ rfl
      have hB1 := own_ge HST9.out.u_ g1 HO1.out
      have hB2 := own_ge HST9.out.v_ g2 HO2.out
      have hB3 := own_ge HST9.out.x_ g3 HO3.out
      have HB10 : Hid (Below w.heap.size w w10) := hide (by
        rw [hA10]
        exact (((HB9.out.setCell (p := ⟨g1, k, none⟩) (Nat.le_trans hBw hB1) _).setCell (p := ⟨g2, k, none⟩) (Nat.le_trans hBw hB2) _).setCell (p := ⟨g3, k, none⟩) (Nat.le_trans hBw hB3) _).drew)
      have hs10 := ((((HST9.out.set_ HO1.out k el.o).turn.set_ HO2.out k el.w).turn.set_ HO3.out k el.q).turn).below ((Below.refl _ _).drew)
      rw [← hA10, ← List.map_set, ← List.map_set, ← List.map_set] at hs10
      have hll : la ≤ (E.set k el).length := by rw [List.length_set, hne.out]; omega
      have hs11 := ((((hs10.cut la (by rw [List.length_map]; exact hll)).turn.cut la (by rw [List.length_map]; exact hll)).turn.cut la (by rw [List.length_map]; exact hll)).turn)
      rw [← List.map_take, ← List.map_take, ← List.map_take] at hs11
      have hINV9' := HINV9.out
      rw [hla.out] at hINV9'
      obtain ⟨E1, hE1⟩ : ∃ E1, Hid ((E.set k el).take la = E1) := ⟨_, hide rfl⟩
      rw [hE1.out] at hs11 hINV9'
      have HINVP := hide hINV9'
      have HST11 := hide (hs11.below ((Below.refl w10.heap.size w10).drew))
      have HNE : Hid (E1.length = la) := hide (by rw [← hE1.out, List.length_take]; omega)
      have hNi : la ≤ i + 1 := by have := hne.out; omega
      have hN60 : la ≤ 60 := by omega
      have q1 : la ≤ co := by omega
      have q2 : la ≤ cw := by omega
      have q3 : la ≤ ct := by omega
      have q1i : (la : Int) ≤ (co : Int) := by omega
      have q2i : (la : Int) ≤ (cw : Int) := by omega
      have q3i : (la : Int) ≤ (ct : Int) := by omega
      clear hs10 hs11 hINV9' hA10 hll k1 k2 k3 f1 f2 f3 l1 l2 l3 fl hB1 hB2 hB3 HST9 HB9 HINV9 HP
      go_wp2_with fail
      refine meetW (A := fun W => W = w10.drew) ?_
      apply Exists.intro
      refine ⟨fun tail => ?_, fun w11 hA11 => ?_⟩
      · go_region_law fail
        all_goals exact tail _ rfl
      have HSTn : Hid (Ap.St B w11 a mem' (Ap.ps b') (.slice (some ⟨g1, 0, none⟩) la co) (.slice (some ⟨g2, 0, none⟩) la cw) (.slice (some ⟨g3, 0, none⟩) la ct) (E1.map En.o) (E1.map En.w) (E1.map En.q) T) := hide (by rw [hA11]; exact HST11.out)
      have HBn : Hid (Below w.heap.size w w11) := hide (by rw [hA11]; exact HB10.out.drew)
      clear hA11 HST11 HB10 q1i q2i q3i
      have HINVX := HINVP
      go_wp2_with fail
      refine apl4_c B a la _ _ _ _ _ _ E1 mem' b' _ w11 HINVX.out HSTn.out HNE.out hN60 ?_
      intro u2 u19 u20 u21 u22 u23 u181 u182 u183 u184 u185 u186 u187 u188 u189 u190 u191 u192 u193 u194 u195 u196 u197 u198 u199 u200 u201 u202 u203 u204 u205 u206 u207 u208 u209 u210 u211 u212 u213 u214 u215 u216 u217 u218 u219 u220 u221 u222 u223 u224 u225 u226 u227 u228 u229 u230 u231 u232 w4r hb4
      have HST4 := hide (HSTn.out.below hb4)
      have HB4 := hide (HBn.out.trans (hb4.mono HBn.out.size))
      have VRW := hide (fraw HST4.out.is_)
      rw [HINVX.out.len] at VRW
      obtain ⟨tot, htot⟩ : ∃ tot, Hid ((E1.map (·.n)).sum = tot) := ⟨_, hide rfl⟩
      rw [htot.out]
      clear hb4 HSTn HBn
      go_wp2_with fail
      refine VRW.out.mono ?_
      rintro e w5r ⟨⟨v', rfl, hrow⟩, hb5⟩
      obtain ⟨Arr, crr, rfl, -, hlr, -, -⟩ := own_lie hrow
      have HST5 := hide (HST4.out.below hb5)
      have HB5 := hide (HB4.out.trans (hb5.mono HB4.out.size))
      have HLR := hide hlr
      clear hrow hb5 hlr VRW HST4 HB4
      go_wp2_with fail
      refine apl8_c Arr crr mem' w5r HINVX.out.len HLR.out ?_
      intro u26 u235 u236 u237 u238 u239 u240 u241 u242 u243 u244 u245 u246 u247
      rw [HINVX.out.cnt, htot.out]
      have o0 := Bk.ok_sum (HINVX.out.ok 0 (by decide))
      have o1 := Bk.ok_sum (HINVX.out.ok 1 (by decide))
      have o2 := Bk.ok_sum (HINVX.out.ok 2 (by decide))
      have hus := HINVX.out.used
      rw [htot.out] at hus
      have z0 : Ap.size 0 = 150 := rfl
      have z1 : Ap.size 1 = 100 := rfl
      have z2 : Ap.size 2 = 150 := rfl
      have VU0 := hide (fun W (hb : Below w5r.heap.size w5r W) => fused 0 0 ⟨0, 0, 150, b' 0⟩ (HST5.out.below hb).is_ rfl rfl (by show (150 : Nat) ≤ 1000000; decide))
      have VU1 := hide (fun W (hb : Below w5r.heap.size w5r W) => fused 1 1 ⟨1, 150, 100, b' 1⟩ (HST5.out.below hb).is_ rfl rfl (by show (100 : Nat) ≤ 1000000; decide))
      have VU2 := hide (fun W (hb : Below w5r.heap.size w5r W) => fused 2 2 ⟨2, 250, 150, b' 2⟩ (HST5.out.below hb).is_ rfl rfl (by show (150 : Nat) ≤ 1000000; decide))
      dsimp only at VU0 VU1 VU2
      obtain ⟨y0, hy0⟩ : ∃ y, Hid (Bk.sum (b' 0) = y) := ⟨_, hide rfl⟩
      obtain ⟨y1, hy1⟩ : ∃ y, Hid (Bk.sum (b' 1) = y) := ⟨_, hide rfl⟩
      obtain ⟨y2, hy2⟩ : ∃ y, Hid (Bk.sum (b' 2) = y) := ⟨_, hide rfl⟩
      rw [hy0.out] at VU0 hus o0
      rw [hy1.out] at VU1 hus o1
      rw [hy2.out] at VU2 hus o2
      have fy1 : IntKind.i64.wrap ((y0 : Int) + (y1 : Int)) = (y0 : Int) + (y1 : Int) := by rw [IntKind.wrap_i64]; omega
      have fy2 : IntKind.i64.wrap ((y0 : Int) + (y1 : Int) + (y2 : Int)) = (tot : Int) := by rw [IntKind.wrap_i64]; omega
      have FY1 := hide fy1
      have FY2 := hide fy2
      clear HLR o0 o1 o2 z0 z1 z2 hus fy1 fy2
      go_wp2_with fail
      refine (VU0.out _ (Below.refl _ _)).mono ?_
      rintro e w6r ⟨rfl, hb6⟩
      have HC6 := hide hb6
      clear hb6 VU0
      go_wp2_with fail
      refine (VU1.out _ HC6.out).mono ?_
      rintro e w7r ⟨rfl, hb7⟩
      have HC7 := hide (HC6.out.trans (hb7.mono HC6.out.size))
      clear hb7 VU1 HC6
      have fy1 := FY1.out
      have fy2 := FY2.out
      go_wp2_with fail
      refine (VU2.out _ HC7.out).mono ?_
      rintro e w8r ⟨rfl, hb8⟩
      have HC8 := hide (HC7.out.trans (hb8.mono HC7.out.size))
      have HRDN : Hid (Ap.Round w B a (i + 1) _ _ _ w8r) := hide ⟨E1, mem', b', _, by rw [HNE.out]; exact hNi, HINVX.out, HST5.out.below HC8.out, HB5.out.trans (HC8.out.mono HB5.out.size)⟩
      clear hb8 VU2 HC7 HST5 HB5 HC8
      go_wp2_with fail
      go_roundw
      case rel => exact ⟨i + 1, by omega, by go_num, HRDN⟩
      case measure => simp [intOf]; omega
    · obtain rfl : i = L := by omega
      obtain ⟨E, mem, b, T, -, -, -, hBel⟩ := HR.out
      have HB := hide hBel
      clear hBel HR
      go_wp2_with fail
      go_ret
      exact ⟨rfl, HB.out⟩

theorem arenaapart_c (ds : List DoI) (A : Option Addr) (cap : Nat) (w : World) (ar : Addr) (hD : Dos w A ds) (hE : ErrIs w 1 ar) :
    Calls Tryd.prog 3 #[.slice A ds.length cap] w fun e w' => e = .returned (.bool true) ∧ Below w.heap.size w w' := by
  by_cases hl : ds.length ≤ 60
  · exact apart_short ds A cap w ar hD hE hl
  · exact apart_long ds A cap w (by omega)
end Go.Proofs.YtemaaipgjghlaaaDoor
