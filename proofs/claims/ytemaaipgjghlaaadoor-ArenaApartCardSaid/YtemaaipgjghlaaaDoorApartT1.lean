/-
  The law ArenaApart: a round that takes a block, by itself. By an AI agent. No person has read it.
-/
import Derived.Test.YtemaaipgjghlaaaDoorApartL4
namespace Go.Proofs.YtemaaipgjghlaaaDoor
open Go.RowKit

set_option maxRecDepth 1000000 in
set_option maxHeartbeats 16000000 in
theorem aprt1_c {z1 z2 z5 z10 z11 z12 z13 z14 z15 z16 z17 z18 z19 z20 z21 z22 z23 z24 z25 z26 z27 z28 z29 z30 z31 z32 z33 z34 z35 z36 z37 z38 z39 z40 z41 z42 z43 z44 z45 z46 z47 z48 z49 z50 z51 z52 z53 z54 z55 z56 z57 z58 z59 z60 z61 z62 z63 z64 z65 z66 z67 z68 z69 z70 z71 z72 z73 z74 z75 z76 z77 z78 z79 z80 z81 z82 z83 z84 z85 z86 z87 z88 z89 z90 z91 z92 z93 z94 z95 z96 z97 z98 z99 z100 z101 z102 z103 z104 z105 z106 z107 z108 z109 z110 z111 z112 z113 z114 z115 z116 z117 z118 z119 z120 z121 z122 z123 z124 z125 z126 z127 z128 z129 z130 z131 z132 z133 z134 z135 z136 z137 z138 z139 z140 z141 z142 z143 z144 z145 z146 z147 z148 z149 z150 z151 z152 z153 z154 z155 z156 z157 z158 z159 z160 z161 z162 z163 z164 z165 z166 z167 z168 z169 z170 z171 z172 z173 z174 z175 z176 z177 z178 z179 z180 z181 z182 z183 z184 z185 z186 z187 z188 z189 z190 z191 z192 z193 z194 z195 z196 z197 z198 z199 z200 z201 z202 z203 z204 z205 z206 z207 z208 z209 z210 z211 z212 z213 z214 z215 z216 z217 z218 z219 z220 z221 z222 z223 z224 z225 z226 z227 z228 z229 z230 z231 z232 z233 z234 z235 z236 z237 z238 z239 z240 z241 z242 z243 z244 z245 z246 z247 z248 z249 z250 z251 z252 z253 z254 z255 z256 z257 z258 z259 z260 z261 z262 : Value} {Q0 : Exit → Act → World → Prop} (B a i L cap : Nat) (ad : Addr) (ar : Addr) (v6 v7 v8 : Value) (d : DoI) (E : List En) (mem : List Nat) (b : Nat → List (Nat × Nat)) (T : Nat → Prop) (w wr : World)
    (HE : Hid (ErrIs w 1 ar)) (hl : L ≤ 60) (hlt : i < L) (hBw : w.heap.size ≤ B) (hEi : E.length ≤ i) (hInv : Ap.Inv mem b E) (hSt : Ap.St B wr a mem (Ap.ps b) v6 v7 v8 (E.map En.o) (E.map En.w) (E.map En.q) T) (hBel : Below w.heap.size w wr) (hk : d.k.tmod 2 = 1)
    (c0 : wr.cell? (ad.add (i * 5)) = some (.int .i64 d.k)) (c1 : wr.cell? ⟨(ad.add (i * 5)).block, (ad.add (i * 5)).off + 1, none⟩ = some (.int .i64 d.a)) (c2 : wr.cell? ⟨(ad.add (i * 5)).block, (ad.add (i * 5)).off + 2, none⟩ = some (.int .i64 d.b))
    (hend : ∀ (u2 u10 u11 u12 u13 u14 u15 u16 u17 u18 u19 u20 u21 u22 u23 u24 u25 u26 u54 u55 u56 u57 u58 u59 u60 u61 u62 u63 u64 u65 u66 u67 u68 u69 u70 u71 u72 u73 u74 u75 u76 u77 u78 u79 u80 u81 u82 u83 u84 u85 u86 u87 u88 u89 u90 u91 u92 u93 u94 u95 u96 u97 u98 u99 u100 u101 u102 u103 u104 u105 u106 u107 u108 u109 u110 u111 u112 u113 u114 u115 u116 u117 u118 u119 u120 u121 u122 u123 u124 u125 u126 u127 u128 u129 u130 u131 u132 u133 u134 u135 u136 u137 u138 u139 u140 u141 u142 u143 u144 u145 u146 u147 u148 u149 u150 u151 u152 u153 u154 u155 u156 u157 u158 u159 u160 u161 u162 u163 u164 u165 u166 u167 u168 u169 u170 u171 u172 u173 u174 u175 u176 u177 u178 u179 u180 u181 u182 u183 u184 u185 u186 u187 u188 u189 u190 u191 u192 u193 u194 u195 u196 u197 u198 u199 u200 u201 u202 u203 u204 u205 u206 u207 u208 u209 u210 u211 u212 u213 u214 u215 u216 u217 u218 u219 u220 u221 u222 u223 u224 u225 u226 u227 u228 u229 u230 u231 u232 u233 u234 u235 u236 u237 u238 u239 u240 u241 u242 u243 u244 u245 u246 u247 u248 u249 u250 u251 u252 u253 u254 u255 u256 u257 u258 u259 u260 u261 u262 vo' vw' vt' : Value) (w' : World), Ap.Round w B a (i + 1) vo' vw' vt' w' → Q0 .normal ⟨List.toArray (.slice (some ad) L cap :: z1 :: u2 :: .bool true :: .pointer (some ⟨a, 0, none⟩) :: z5 :: vo' :: vw' :: vt' :: .int .i64 ((i : Int) + 1) :: u10 :: u11 :: u12 :: u13 :: u14 :: u15 :: u16 :: u17 :: u18 :: u19 :: u20 :: u21 :: u22 :: u23 :: u24 :: u25 :: u26 :: z27 :: z28 :: z29 :: z30 :: z31 :: z32 :: z33 :: z34 :: z35 :: z36 :: z37 :: z38 :: z39 :: z40 :: z41 :: z42 :: z43 :: z44 :: z45 :: z46 :: z47 :: z48 :: z49 :: z50 :: z51 :: z52 :: z53 :: u54 :: u55 :: u56 :: u57 :: u58 :: u59 :: u60 :: u61 :: u62 :: u63 :: u64 :: u65 :: u66 :: u67 :: u68 :: u69 :: u70 :: u71 :: u72 :: u73 :: u74 :: u75 :: u76 :: u77 :: u78 :: u79 :: u80 :: u81 :: u82 :: u83 :: u84 :: u85 :: u86 :: u87 :: u88 :: u89 :: u90 :: u91 :: u92 :: u93 :: u94 :: u95 :: u96 :: u97 :: u98 :: u99 :: u100 :: u101 :: u102 :: u103 :: u104 :: u105 :: u106 :: u107 :: u108 :: u109 :: u110 :: u111 :: u112 :: u113 :: u114 :: u115 :: u116 :: u117 :: u118 :: u119 :: u120 :: u121 :: u122 :: u123 :: u124 :: u125 :: u126 :: u127 :: u128 :: u129 :: u130 :: u131 :: u132 :: u133 :: u134 :: u135 :: u136 :: u137 :: u138 :: u139 :: u140 :: u141 :: u142 :: u143 :: u144 :: u145 :: u146 :: u147 :: u148 :: u149 :: u150 :: u151 :: u152 :: u153 :: u154 :: u155 :: u156 :: u157 :: u158 :: u159 :: u160 :: u161 :: u162 :: u163 :: u164 :: u165 :: u166 :: u167 :: u168 :: u169 :: u170 :: u171 :: u172 :: u173 :: u174 :: u175 :: u176 :: u177 :: u178 :: u179 :: u180 :: u181 :: u182 :: u183 :: u184 :: u185 :: u186 :: u187 :: u188 :: u189 :: u190 :: u191 :: u192 :: u193 :: u194 :: u195 :: u196 :: u197 :: u198 :: u199 :: u200 :: u201 :: u202 :: u203 :: u204 :: u205 :: u206 :: u207 :: u208 :: u209 :: u210 :: u211 :: u212 :: u213 :: u214 :: u215 :: u216 :: u217 :: u218 :: u219 :: u220 :: u221 :: u222 :: u223 :: u224 :: u225 :: u226 :: u227 :: u228 :: u229 :: u230 :: u231 :: u232 :: u233 :: u234 :: u235 :: u236 :: u237 :: u238 :: u239 :: u240 :: u241 :: u242 :: u243 :: u244 :: u245 :: u246 :: u247 :: u248 :: u249 :: u250 :: u251 :: u252 :: u253 :: u254 :: u255 :: u256 :: u257 :: u258 :: u259 :: u260 :: u261 :: u262 :: []), []⟩ w') :
    Code.wp Tryd.prog (apLoop 0) Q0 ⟨List.toArray (.slice (some ad) L cap :: z1 :: z2 :: .bool true :: .pointer (some ⟨a, 0, none⟩) :: z5 :: v6 :: v7 :: v8 :: .int .i64 (i : Nat) :: z10 :: z11 :: z12 :: z13 :: z14 :: z15 :: z16 :: z17 :: z18 :: z19 :: z20 :: z21 :: z22 :: z23 :: z24 :: z25 :: z26 :: z27 :: z28 :: z29 :: z30 :: z31 :: z32 :: z33 :: z34 :: z35 :: z36 :: z37 :: z38 :: z39 :: z40 :: z41 :: z42 :: z43 :: z44 :: z45 :: z46 :: z47 :: z48 :: z49 :: z50 :: z51 :: z52 :: z53 :: z54 :: z55 :: z56 :: z57 :: z58 :: z59 :: z60 :: z61 :: z62 :: z63 :: z64 :: z65 :: z66 :: z67 :: z68 :: z69 :: z70 :: z71 :: z72 :: z73 :: z74 :: z75 :: z76 :: z77 :: z78 :: z79 :: z80 :: z81 :: z82 :: z83 :: z84 :: z85 :: z86 :: z87 :: z88 :: z89 :: z90 :: z91 :: z92 :: z93 :: z94 :: z95 :: z96 :: z97 :: z98 :: z99 :: z100 :: z101 :: z102 :: z103 :: z104 :: z105 :: z106 :: z107 :: z108 :: z109 :: z110 :: z111 :: z112 :: z113 :: z114 :: z115 :: z116 :: z117 :: z118 :: z119 :: z120 :: z121 :: z122 :: z123 :: z124 :: z125 :: z126 :: z127 :: z128 :: z129 :: z130 :: z131 :: z132 :: z133 :: z134 :: z135 :: z136 :: z137 :: z138 :: z139 :: z140 :: z141 :: z142 :: z143 :: z144 :: z145 :: z146 :: z147 :: z148 :: z149 :: z150 :: z151 :: z152 :: z153 :: z154 :: z155 :: z156 :: z157 :: z158 :: z159 :: z160 :: z161 :: z162 :: z163 :: z164 :: z165 :: z166 :: z167 :: z168 :: z169 :: z170 :: z171 :: z172 :: z173 :: z174 :: z175 :: z176 :: z177 :: z178 :: z179 :: z180 :: z181 :: z182 :: z183 :: z184 :: z185 :: z186 :: z187 :: z188 :: z189 :: z190 :: z191 :: z192 :: z193 :: z194 :: z195 :: z196 :: z197 :: z198 :: z199 :: z200 :: z201 :: z202 :: z203 :: z204 :: z205 :: z206 :: z207 :: z208 :: z209 :: z210 :: z211 :: z212 :: z213 :: z214 :: z215 :: z216 :: z217 :: z218 :: z219 :: z220 :: z221 :: z222 :: z223 :: z224 :: z225 :: z226 :: z227 :: z228 :: z229 :: z230 :: z231 :: z232 :: z233 :: z234 :: z235 :: z236 :: z237 :: z238 :: z239 :: z240 :: z241 :: z242 :: z243 :: z244 :: z245 :: z246 :: z247 :: z248 :: z249 :: z250 :: z251 :: z252 :: z253 :: z254 :: z255 :: z256 :: z257 :: z258 :: z259 :: z260 :: z261 :: z262 :: []), []⟩ wr := by
  have HINV := hide hInv
  have HST := hide hSt
  have HB := hide hBel
  conv => arg 2; whnf
  have hli : (i : Int) < (L : Int) := by omega
  clear hInv hSt hBel
  have hj := numv_lt d.a 3 (by decide)
  have hm := numv_lt d.b 30 (by decide)
  have VJ := hide (fun W => number_v d.a 3 (by decide) (by decide) 3 rfl W)
  have VM := hide (fun W => number_v d.b 30 (by decide) (by decide) 30 rfl W)
  obtain ⟨j, hjj⟩ : ∃ j, Hid (numv d.a 3 = j) := ⟨_, hide rfl⟩
  obtain ⟨m, hmm⟩ : ∃ m, Hid (numv d.b 30 = m) := ⟨_, hide rfl⟩
  rw [hjj.out] at hj VJ
  rw [hmm.out] at hm VM
  obtain ⟨n, hn⟩ : ∃ n, Hid (m + 1 = n) := ⟨_, hide rfl⟩
  have hnb : 1 ≤ n ∧ n ≤ 30 := by have := hn.out; omega
  have fn : IntKind.i64.wrap ((m : Int) + 1) = (n : Int) := by rw [IntKind.wrap_i64]; have := hn.out; omega
  obtain ⟨ne, hne⟩ : ∃ ne, Hid (E.length = ne) := ⟨_, hide rfl⟩
  have hne6 : ne ≤ 60 := by have := hne.out; omega
  obtain ⟨Ao, co, rfl⟩ : ∃ Ao co, v6 = .slice Ao ne co := by
    obtain ⟨Ao, co, e, -⟩ := own_lie HST.out.u_
    rw [List.length_map, hne.out] at e
    exact ⟨Ao, co, e⟩
  obtain ⟨Aw, cw, rfl⟩ : ∃ Ao co, v7 = .slice Ao ne co := by
    obtain ⟨Ao, co, e, -⟩ := own_lie HST.out.v_
    rw [List.length_map, hne.out] at e
    exact ⟨Ao, co, e⟩
  obtain ⟨At, ct, rfl⟩ : ∃ Ao co, v8 = .slice Ao ne co := by
    obtain ⟨Ao, co, e, -⟩ := own_lie HST.out.x_
    rw [List.length_map, hne.out] at e
    exact ⟨Ao, co, e⟩
  go_wp2_with fail
  refine (VJ.out _).mono ?_
  rintro e w6 ⟨rfl, rfl⟩
  go_wp2_with fail
  refine (VM.out _).mono ?_
  rintro e w7 ⟨rfl, rfl⟩
  go_wp2_with fail
  obtain ⟨⟨off, d', ok⟩, hg⟩ : ∃ t, Ar.gap (n : Int) (Ap.size j) 0 0 (b j) = t := ⟨_, rfl⟩
  have hat := Ap.ps_at b j hj
  have hsz : Ap.size j ≤ 150 := by unfold Ap.size; split <;> omega
  cases ok
  · have VT := hide (ftake_full (j : Int) n off d' j ⟨(j : Int), Ap.base j, Ap.size j, b j⟩ HST.out.is_ hat.1 hat.2 hnb.1 (by show Ap.size j ≤ _; omega) hg ar (HE.out.below HB.out))
    clear hg hat c0 c1 c2 fn VJ VM
    go_wp2_with fail
    refine VT.out.mono ?_
    rintro e w8 ⟨rfl, hI, hT⟩
    have HR8 : Hid (Ap.Round w B a (i + 1) (.slice Ao ne co) (.slice Aw ne cw) (.slice At ne ct) w8) := hide ⟨E, mem, b, T, by omega, HINV.out, HST.out.told hI hT, HB.out.trans (hT.below.mono hBw)⟩
    clear hI hT VT HST HB HINV
    go_wp2_with fail
    exact HR8.out
  · have VT := hide (ftake_ok (j : Int) n off d' j ⟨(j : Int), Ap.base j, Ap.size j, b j⟩ HST.out.is_ hat.1 hat.2 hnb.1 (by show Ap.size j ≤ _; omega) hg)
    rw [Ap.ps_set b j hj] at VT
    have HG := hide hg
    obtain ⟨Z, hZ, hmk⟩ := made_bytes n (by omega)
    clear hg hat c0 c1 c2 fn VJ VM
    go_wp2_with fail
    refine VT.out.mono ?_
    rintro e w8 ⟨rfl, hI, hT⟩
    have HST8 := hide (HST.out.told hI hT)
    have HB8 := hide (HB.out.trans (hT.below.mono hBw))
    obtain ⟨b1, hb1⟩ : ∃ b1, Hid (Ap.upd b j ((b j).take d' ++ (off, n) :: (b j).drop d') = b1) := ⟨_, hide rfl⟩
    rw [hb1.out] at HST8
    have HZ8 : Hid (Has (w8.alloc (.cells Z 5)) w8.heap.size 5 (u8s (List.replicate 0 (i + 1) ++ List.replicate (n - 0) 0))) := hide (by
      have h := Has.new w8 5 (u8s (List.replicate n 0))
      rw [← hZ.out] at h
      exact h)
    have HBZ := hide ((Below.refl w8.heap.size w8).alloc (Nat.le_refl _) (.cells Z 5))
    clear hI hT VT HST HB
    go_wp2_with fail
    go_loopw [15] (fun v wr2 => ∃ k : Nat, k ≤ n ∧ v = .int .i64 k ∧ Hid (Below w8.heap.size w8 wr2) ∧ Hid (Has wr2 w8.heap.size 5 (u8s (List.replicate k (i + 1) ++ List.replicate (n - k) 0)))) (fun v _ => n - (intOf v).toNat)
    case atStart => exact ⟨0, by omega, rfl, HBZ, HZ8⟩
    case round =>
      obtain ⟨k, hk, rfl, HBk, HZk⟩ := hrel
      by_cases hkn : k < n
      · have hki : (k : Int) < (n : Int) := by omega
        have f1 : IntKind.i64.wrap ((i : Int) + 1) = ((i + 1 : Nat) : Int) := by rw [IntKind.wrap_i64]; omega
        have f2 : IntKind.u8.wrap ((i + 1 : Nat) : Int) = ((i + 1 : Nat) : Int) := by rw [IntKind.wrap_u8]; omega
        have z0 := (HZk.out.cell k).trans (fill_zero k n (i + 1) hkn)
        have z1 := HZk.out.frozen k
        have HZn := hide (HZk.out.set_ k (.int .u8 ((i + 1 : Nat) : Int)))
        rw [fill_next k n (i + 1) hkn] at HZn
        have HBn := hide (HBk.out.setCell (p := ⟨w8.heap.size, k, none⟩) (Nat.le_refl _) (.int .u8 ((i + 1 : Nat) : Int)))
        obtain ⟨t1, ht1⟩ : ∃ t1, Hid (i + 1 = t1) := ⟨_, hide rfl⟩
        rw [ht1.out] at f1 f2 HZn HBn
        clear HZk HBk
        go_wp2_with fail
        go_roundw
        case rel => exact ⟨k + 1, by omega, by go_num, HBn, by rw [ht1.out]; exact HZn⟩
        case measure => simp [intOf]; omega
      · obtain rfl : k = n := by omega
        have hrep : List.replicate k (i + 1) ++ List.replicate (k - k) 0 = List.replicate k (i + 1) := by rw [Nat.sub_self, List.replicate_zero, List.append_nil]
        rw [hrep] at HZk
        have HSTk := hide (HST8.out.below HBk.out)
        have HB9 := hide (HB8.out.trans (HBk.out.mono HB8.out.size))
        have HINV1 := hide (HINV.out.take j k (i + 1) off d' hj hnb.1 ⟨by omega, by omega⟩ HG.out)
        rw [hb1.out] at HINV1
        have hpa := Ap.ps_at b1 j hj
        have hsz2 : Ap.size j ≤ 150 := by unfold Ap.size; split <;> omega
        have hmemb := HINV1.out.mem_blk ⟨j, off, k, i + 1⟩ (List.mem_cons_self ..)
        have hfits := HINV1.out.fits ⟨j, off, k, i + 1⟩ (List.mem_cons_self ..)
        have hbse := (Ap.base_le j hj).1
        have hlr : (List.replicate k (i + 1)).length = k := List.length_replicate
        have VW := hide (fwrite (j : Int) off j k ⟨(j : Int), Ap.base j, Ap.size j, b1 j⟩ (List.replicate k (i + 1)) (some ⟨w8.heap.size, 0, none⟩) HSTk.out.is_ hpa.1 hpa.2 (by show Ap.size j ≤ _; omega) ⟨(off, k), hmemb, by show off ≤ off; omega, by show off + (List.replicate k (i + 1)).length ≤ off + k; omega⟩ (by show Ap.base j + off < mem.length; rw [HINV.out.len]; have h1 : off + k ≤ Ap.size j := hfits.1; have h2 : 1 ≤ k := hfits.2; omega) (has_lie HZk.out) (fun e => by cases e))
        rw [hlr] at VW
        obtain ⟨en, hen⟩ : ∃ en : En, Hid (en = ⟨j, off, k, i + 1⟩) := ⟨_, hide rfl⟩
        have ew : en.w = (j : Int) := by rw [hen.out]; rfl
        have eo : en.o = (off : Int) := by rw [hen.out]; rfl
        have eq' : en.q = 1000 * (k : Int) + (i : Int) + 1 := by
          rw [hen.out]
          show ((1000 * k + (i + 1) : Nat) : Int) = _
          omega
        rw [← hen.out] at HINV1
        have HINVP := hide (HINV1.out.perm (List.perm_append_singleton en E).symm)
        obtain ⟨mem1, hmem1⟩ : ∃ mem1, Hid (Ar.over mem (Ap.base j + off) (List.replicate k (i + 1)) = mem1) := ⟨_, hide rfl⟩
        rw [hmem1.out] at HINVP
        rw [show Ar.over mem ((Pt.mk (j : Int) (Ap.base j) (Ap.size j) (b1 j)).off + off) (List.replicate k (i + 1)) = mem1 from hmem1.out] at VW
        obtain ⟨i1, hi1, hz1, hs1, hby1⟩ := i64info
        have HI1 := hide hi1
        have HZ1 := hide hz1
        have HS1 := hide hs1
        have HY1 := hide hby1
        have hu1 := hide uis
        clear hi1 hz1 hs1 hby1 hrep HZk HBk hpa hmemb hfits hlr HST8 HB8 HINV1 HG
        have fq1 : IntKind.i64.wrap (1000 * (k : Int)) = 1000 * (k : Int) := by rw [IntKind.wrap_i64]; omega
        have fq2 : IntKind.i64.wrap (1000 * (k : Int) + (i : Int)) = 1000 * (k : Int) + (i : Int) := by rw [IntKind.wrap_i64]; omega
        have fq3 : IntKind.i64.wrap (1000 * (k : Int) + (i : Int) + 1) = 1000 * (k : Int) + (i : Int) + 1 := by rw [IntKind.wrap_i64]; omega
        have HF1 := hide fq1
        have HF2 := hide fq2
        have HF3 := hide fq3
        clear fq1 fq2 fq3
        go_wp2_with fail
        refine VW.out.mono ?_
        rintro e w10 ⟨rfl, hI, hT⟩
        have HSTa := hide (HSTk.out.told hI hT)
        have HBa := hide (HB9.out.trans (hT.below.mono hBw))
        have HSTb1 := hide (HSTa.out.below ((Below.refl w10.heap.size w10).alloc (Nat.le_refl _) (.cells #[.int .i64 (off : Int)] 3)))
        have HBb1 := hide (HBa.out.alloc HBa.out.size (.cells #[.int .i64 (off : Int)] 3))
        have HOWN1 : Hid ((w10.alloc (.cells #[.int .i64 (off : Int)] 3)).ownsRow B 3 1 (.slice Ao ne co) ne ((E.map En.o).map fun z => Value.int .i64 z)) := hide (by
          have h := HSTb1.out.u_
          unfold OwnI at h
          rw [List.length_map, hne.out] at h
          exact h)
        have HNW1 : Hid (∀ (q : Nat) (u : Value), [Value.int .i64 (off : Int)][q]? = some u → (w10.alloc (.cells #[.int .i64 (off : Int)] 3)).cell? ((⟨w10.heap.size, 0, none⟩ : Addr).add q) = some u) := hide (new_cells w10 3 [.int .i64 (off : Int)])
        have HBS1 := hide HSTb1.out.is_.base
        clear HSTa HBa
        go_wp2_with (at_builtin; refine wpList_append_own_at _ rfl _ _ 33 rfl B 3 i1 (.int .i64 0) 1 8 hu1.out HI1.out HZ1.out HS1.out HY1.out rfl (by decide) _ ne _ rfl HOWN1.out ⟨w10.heap.size, 0, none⟩ 1 1 [.int .i64 (off : Int)] rfl rfl HNW1.out (by intro y hy; simp at hy; subst hy; rfl) (by unfold maxLen; omega) (by omega) HBS1.out ?_)
        intro v1 W1 hown1 hgrow1 hnil1 hat1
        have HST1' := hide (Ap.St.turn (HSTb1.out.app (z := en.o) (by rw [List.length_map, hne.out, eo, List.map_map]; exact hown1) hgrow1 (by rw [World.size_alloc]; exact hat1)))
        have HB1' := hide (HBb1.out.grown hgrow1 HBb1.out.size fun k hk => Nat.le_trans hBw (own_ge HOWN1.out k hk))
        obtain ⟨An1, cn1, rfl, -⟩ := own_lie hown1
        clear hown1 hgrow1 hnil1 hat1 HSTb1 HBb1 HOWN1 HNW1 HBS1
        have HSTb2 := hide (HST1'.out.below ((Below.refl W1.heap.size W1).alloc (Nat.le_refl _) (.cells #[.int .i64 (j : Int)] 3)))
        have HBb2 := hide (HB1'.out.alloc HB1'.out.size (.cells #[.int .i64 (j : Int)] 3))
        have HOWN2 : Hid ((W1.alloc (.cells #[.int .i64 (j : Int)] 3)).ownsRow B 3 1 (.slice Aw ne cw) ne ((E.map En.w).map fun z => Value.int .i64 z)) := hide (by
          have h := HSTb2.out.u_
          unfold OwnI at h
          rw [List.length_map, hne.out] at h
          exact h)
        have HNW2 : Hid (∀ (q : Nat) (u : Value), [Value.int .i64 (j : Int)][q]? = some u → (W1.alloc (.cells #[.int .i64 (j : Int)] 3)).cell? ((⟨W1.heap.size, 0, none⟩ : Addr).add q) = some u) := hide (new_cells W1 3 [.int .i64 (j : Int)])
        have HBS2 := hide HSTb2.out.is_.base
        clear HST1' HB1'
        go_wp2_with (at_builtin; refine wpList_append_own_at _ rfl _ _ 33 rfl B 3 i1 (.int .i64 0) 1 8 hu1.out HI1.out HZ1.out HS1.out HY1.out rfl (by decide) _ ne _ rfl HOWN2.out ⟨W1.heap.size, 0, none⟩ 1 1 [.int .i64 (j : Int)] rfl rfl HNW2.out (by intro y hy; simp at hy; subst hy; rfl) (by unfold maxLen; omega) (by omega) HBS2.out ?_)
        intro v2 W2 hown2 hgrow2 hnil2 hat2
        have HST2' := hide (Ap.St.turn (HSTb2.out.app (z := en.w) (by rw [List.length_map, hne.out, ew, List.map_map]; exact hown2) hgrow2 (by rw [World.size_alloc]; exact hat2)))
        have HB2' := hide (HBb2.out.grown hgrow2 HBb2.out.size fun k hk => Nat.le_trans hBw (own_ge HOWN2.out k hk))
        obtain ⟨An2, cn2, rfl, -⟩ := own_lie hown2
        clear hown2 hgrow2 hnil2 hat2 HSTb2 HBb2 HOWN2 HNW2 HBS2
        have HSTb3 := hide (HST2'.out.below ((Below.refl W2.heap.size W2).alloc (Nat.le_refl _) (.cells #[.int .i64 (1000 * (k : Int) + (i : Int) + 1 : Int)] 3)))
        have HBb3 := hide (HB2'.out.alloc HB2'.out.size (.cells #[.int .i64 (1000 * (k : Int) + (i : Int) + 1 : Int)] 3))
        have HOWN3 : Hid ((W2.alloc (.cells #[.int .i64 (1000 * (k : Int) + (i : Int) + 1 : Int)] 3)).ownsRow B 3 1 (.slice At ne ct) ne ((E.map En.q).map fun z => Value.int .i64 z)) := hide (by
          have h := HSTb3.out.u_
          unfold OwnI at h
          rw [List.length_map, hne.out] at h
          exact h)
        have HNW3 : Hid (∀ (q : Nat) (u : Value), [Value.int .i64 (1000 * (k : Int) + (i : Int) + 1 : Int)][q]? = some u → (W2.alloc (.cells #[.int .i64 (1000 * (k : Int) + (i : Int) + 1 : Int)] 3)).cell? ((⟨W2.heap.size, 0, none⟩ : Addr).add q) = some u) := hide (new_cells W2 3 [.int .i64 (1000 * (k : Int) + (i : Int) + 1 : Int)])
        have HBS3 := hide HSTb3.out.is_.base
        clear HST2' HB2'
        have fq1 := HF1.out
        have fq2 := HF2.out
        have fq3 := HF3.out
        go_wp2_with (at_builtin; refine wpList_append_own_at _ rfl _ _ 33 rfl B 3 i1 (.int .i64 0) 1 8 hu1.out HI1.out HZ1.out HS1.out HY1.out rfl (by decide) _ ne _ rfl HOWN3.out ⟨W2.heap.size, 0, none⟩ 1 1 [.int .i64 (1000 * (k : Int) + (i : Int) + 1 : Int)] rfl rfl HNW3.out (by intro y hy; simp at hy; subst hy; rfl) (by unfold maxLen; omega) (by omega) HBS3.out ?_)
        intro v3 W3 hown3 hgrow3 hnil3 hat3
        have HST3' := hide (Ap.St.turn (HSTb3.out.app (z := en.q) (by rw [List.length_map, hne.out, eq', List.map_map]; exact hown3) hgrow3 (by rw [World.size_alloc]; exact hat3)))
        have HB3' := hide (HBb3.out.grown hgrow3 HBb3.out.size fun k hk => Nat.le_trans hBw (own_ge HOWN3.out k hk))
        obtain ⟨An3, cn3, rfl, -⟩ := own_lie hown3
        clear hown3 hgrow3 hnil3 hat3 HSTb3 HBb3 HOWN3 HNW3 HBS3
        have hmaps : ∀ f : En → Int, E.map f ++ [f en] = (E ++ [en]).map f := fun f => by rw [List.map_append, List.map_cons, List.map_nil]
        have HSTn := HST3'
        rw [hmaps, hmaps, hmaps] at HSTn
        have HNE : Hid ((E ++ [en]).length = ne + 1) := hide (by rw [List.length_append, hne.out]; rfl)
        clear fq1 fq2 fq3 HST3' hmaps HF1 HF2 HF3
        have hNi : ne + 1 ≤ i + 1 := by have := hne.out; omega
        have hN60 : ne + 1 ≤ 60 := by omega
        have HINVX := HINVP
        go_wp2_with fail
        refine apl4_c B a (ne + 1) _ _ _ _ _ _ (E ++ [en]) mem1 b1 _ W3 HINVX.out HSTn.out HNE.out hN60 ?_
        intro u2 u19 u20 u21 u22 u23 u181 u182 u183 u184 u185 u186 u187 u188 u189 u190 u191 u192 u193 u194 u195 u196 u197 u198 u199 u200 u201 u202 u203 u204 u205 u206 u207 u208 u209 u210 u211 u212 u213 u214 u215 u216 u217 u218 u219 u220 u221 u222 u223 u224 u225 u226 u227 u228 u229 u230 u231 u232 w4r hb4
        have HST4 := hide (HSTn.out.below hb4)
        have HB4 := hide (HB3'.out.trans (hb4.mono HB3'.out.size))
        have VRW := hide (fraw HST4.out.is_)
        rw [HINVX.out.len] at VRW
        obtain ⟨tot, htot⟩ : ∃ tot, Hid (((E ++ [en]).map (·.n)).sum = tot) := ⟨_, hide rfl⟩
        rw [htot.out]
        clear hb4 HSTn HB3'
        go_wp2_with fail
        refine VRW.out.mono ?_
        rintro e w5r ⟨⟨v', rfl, hrow⟩, hb5⟩
        obtain ⟨Arr, crr, rfl, -, hlr, -, -⟩ := own_lie hrow
        have HST5 := hide (HST4.out.below hb5)
        have HB5 := hide (HB4.out.trans (hb5.mono HB4.out.size))
        have HLR := hide hlr
        clear hrow hb5 hlr VRW HST4 HB4
        go_wp2_with fail
        refine apl8_c Arr crr mem1 w5r HINVX.out.len HLR.out ?_
        intro u26 u235 u236 u237 u238 u239 u240 u241 u242 u243 u244 u245 u246 u247
        rw [HINVX.out.cnt, htot.out]
        have o0 := Bk.ok_sum (HINVX.out.ok 0 (by decide))
        have o1 := Bk.ok_sum (HINVX.out.ok 1 (by decide))
        have o2 := Bk.ok_sum (HINVX.out.ok 2 (by decide))
        have hus := HINVX.out.used
        rw [htot.out] at hus
        have z0 : Ap.size 0 = 150 := rfl
        have z1 : Ap.size 1 = 100 := rfl
        have z2 : Ap.size 2 = 150 := rfl
        have VU0 := hide (fun W (hb : Below w5r.heap.size w5r W) => fused 0 0 ⟨0, 0, 150, b1 0⟩ (HST5.out.below hb).is_ rfl rfl (by show (150 : Nat) ≤ 1000000; decide))
        have VU1 := hide (fun W (hb : Below w5r.heap.size w5r W) => fused 1 1 ⟨1, 150, 100, b1 1⟩ (HST5.out.below hb).is_ rfl rfl (by show (100 : Nat) ≤ 1000000; decide))
        have VU2 := hide (fun W (hb : Below w5r.heap.size w5r W) => fused 2 2 ⟨2, 250, 150, b1 2⟩ (HST5.out.below hb).is_ rfl rfl (by show (150 : Nat) ≤ 1000000; decide))
        dsimp only at VU0 VU1 VU2
        obtain ⟨y0, hy0⟩ : ∃ y, Hid (Bk.sum (b1 0) = y) := ⟨_, hide rfl⟩
        obtain ⟨y1, hy1⟩ : ∃ y, Hid (Bk.sum (b1 1) = y) := ⟨_, hide rfl⟩
        obtain ⟨y2, hy2⟩ : ∃ y, Hid (Bk.sum (b1 2) = y) := ⟨_, hide rfl⟩
        rw [hy0.out] at VU0 hus o0
        rw [hy1.out] at VU1 hus o1
        rw [hy2.out] at VU2 hus o2
        have fy1 : IntKind.i64.wrap ((y0 : Int) + (y1 : Int)) = (y0 : Int) + (y1 : Int) := by rw [IntKind.wrap_i64]; omega
        have fy2 : IntKind.i64.wrap ((y0 : Int) + (y1 : Int) + (y2 : Int)) = (tot : Int) := by rw [IntKind.wrap_i64]; omega
        have FY1 := hide fy1
        have FY2 := hide fy2
        clear HLR o0 o1 o2 z0 z1 z2 hus fy1 fy2
        go_wp2_with fail
        refine (VU0.out _ (Below.refl _ _)).mono ?_
        rintro e w6r ⟨rfl, hb6⟩
        have HC6 := hide hb6
        clear hb6 VU0
        go_wp2_with fail
        refine (VU1.out _ HC6.out).mono ?_
        rintro e w7r ⟨rfl, hb7⟩
        have HC7 := hide (HC6.out.trans (hb7.mono HC6.out.size))
        clear hb7 VU1 HC6
        have fy1 := FY1.out
        have fy2 := FY2.out
        go_wp2_with fail
        refine (VU2.out _ HC7.out).mono ?_
        rintro e w8r ⟨rfl, hb8⟩
        have HC8 := hide (HC7.out.trans (hb8.mono HC7.out.size))
        have HRDN : Hid (Ap.Round w B a (i + 1) _ _ _ w8r) := hide ⟨(E ++ [en]), mem1, b1, _, by rw [HNE.out]; exact hNi, HINVX.out, HST5.out.below HC8.out, HB5.out.trans (HC8.out.mono HB5.out.size)⟩
        clear hb8 VU2 HC7 HST5 HB5 HC8
        go_wp2_with fail
        exact HRDN.out
end Go.Proofs.YtemaaipgjghlaaaDoor
