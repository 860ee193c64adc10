/-
  The law ArenaApart's loop over the blocks, by itself. By an AI agent. No person has read it.
-/
import Derived.Test.YtemaaipgjghlaaaDoorApartL6
namespace Go.Proofs.YtemaaipgjghlaaaDoor
open Go.RowKit

set_option maxRecDepth 1000000 in
set_option maxHeartbeats 16000000 in
theorem apl4_c {c0 c1 c2 c3 c5 c9 c10 c11 c12 c13 c14 c15 c16 c17 c20 c21 c22 c23 c24 c25 c26 c27 c28 c29 c30 c31 c32 c33 c34 c35 c36 c37 c38 c39 c40 c41 c42 c43 c44 c45 c46 c47 c48 c49 c50 c51 c52 c53 c54 c55 c56 c57 c58 c59 c60 c61 c62 c63 c64 c65 c66 c67 c68 c69 c70 c71 c72 c73 c74 c75 c76 c77 c78 c79 c80 c81 c82 c83 c84 c85 c86 c87 c88 c89 c90 c91 c92 c93 c94 c95 c96 c97 c98 c99 c100 c101 c102 c103 c104 c105 c106 c107 c108 c109 c110 c111 c112 c113 c114 c115 c116 c117 c118 c119 c120 c121 c122 c123 c124 c125 c126 c127 c128 c129 c130 c131 c132 c133 c134 c135 c136 c137 c138 c139 c140 c141 c142 c143 c144 c145 c146 c147 c148 c149 c150 c151 c152 c153 c154 c155 c156 c157 c158 c159 c160 c161 c162 c163 c164 c165 c166 c167 c168 c169 c170 c171 c172 c173 c174 c175 c176 c177 c178 c179 c180 c181 c182 c183 c184 c185 c186 c187 c188 c189 c190 c191 c192 c193 c194 c195 c196 c197 c198 c199 c200 c201 c202 c203 c204 c205 c206 c207 c208 c209 c210 c211 c212 c213 c214 c215 c216 c217 c218 c219 c220 c221 c222 c223 c224 c225 c226 c227 c228 c229 c230 c231 c232 c233 c234 c235 c236 c237 c238 c239 c240 c241 c242 c243 c244 c245 c246 c247 c248 c249 c250 c251 c252 c253 c254 c255 c256 c257 c258 c259 c260 c261 c262 : Value} {Q0 : Exit → Act → World → Prop} (B a ne co cw ct : Nat) (Ao Aw At : Option Addr) (E : List En) (mem : List Nat) (b : Nat → List (Nat × Nat)) (T : Nat → Prop) (w0 : World)
    (hInv : Ap.Inv mem b E) (hSt : Ap.St B w0 a mem (Ap.ps b) (.slice Ao ne co) (.slice Aw ne cw) (.slice At ne ct) (E.map En.o) (E.map En.w) (E.map En.q) T) (hne : E.length = ne) (hne60 : ne ≤ 60)
    (hexit : ∀ (u2 u19 u20 u21 u22 u23 u181 u182 u183 u184 u185 u186 u187 u188 u189 u190 u191 u192 u193 u194 u195 u196 u197 u198 u199 u200 u201 u202 u203 u204 u205 u206 u207 u208 u209 u210 u211 u212 u213 u214 u215 u216 u217 u218 u219 u220 u221 u222 u223 u224 u225 u226 u227 u228 u229 u230 u231 u232 : Value) (w' : World), Below w0.heap.size w0 w' → Q0 (.exit 4) ⟨List.toArray (c0 :: c1 :: u2 :: c3 :: .pointer (some ⟨a, 0, none⟩) :: c5 :: .slice Ao ne co :: .slice Aw ne cw :: .slice At ne ct :: c9 :: c10 :: c11 :: c12 :: c13 :: c14 :: c15 :: c16 :: c17 :: .int .i64 ((E.map (·.n)).sum : Nat) :: u19 :: u20 :: u21 :: u22 :: u23 :: c24 :: c25 :: c26 :: c27 :: c28 :: c29 :: c30 :: c31 :: c32 :: c33 :: c34 :: c35 :: c36 :: c37 :: c38 :: c39 :: c40 :: c41 :: c42 :: c43 :: c44 :: c45 :: c46 :: c47 :: c48 :: c49 :: c50 :: c51 :: c52 :: c53 :: c54 :: c55 :: c56 :: c57 :: c58 :: c59 :: c60 :: c61 :: c62 :: c63 :: c64 :: c65 :: c66 :: c67 :: c68 :: c69 :: c70 :: c71 :: c72 :: c73 :: c74 :: c75 :: c76 :: c77 :: c78 :: c79 :: c80 :: c81 :: c82 :: c83 :: c84 :: c85 :: c86 :: c87 :: c88 :: c89 :: c90 :: c91 :: c92 :: c93 :: c94 :: c95 :: c96 :: c97 :: c98 :: c99 :: c100 :: c101 :: c102 :: c103 :: c104 :: c105 :: c106 :: c107 :: c108 :: c109 :: c110 :: c111 :: c112 :: c113 :: c114 :: c115 :: c116 :: c117 :: c118 :: c119 :: c120 :: c121 :: c122 :: c123 :: c124 :: c125 :: c126 :: c127 :: c128 :: c129 :: c130 :: c131 :: c132 :: c133 :: c134 :: c135 :: c136 :: c137 :: c138 :: c139 :: c140 :: c141 :: c142 :: c143 :: c144 :: c145 :: c146 :: c147 :: c148 :: c149 :: c150 :: c151 :: c152 :: c153 :: c154 :: c155 :: c156 :: c157 :: c158 :: c159 :: c160 :: c161 :: c162 :: c163 :: c164 :: c165 :: c166 :: c167 :: c168 :: c169 :: c170 :: c171 :: c172 :: c173 :: c174 :: c175 :: c176 :: c177 :: c178 :: c179 :: c180 :: u181 :: u182 :: u183 :: u184 :: u185 :: u186 :: u187 :: u188 :: u189 :: u190 :: u191 :: u192 :: u193 :: u194 :: u195 :: u196 :: u197 :: u198 :: u199 :: u200 :: u201 :: u202 :: u203 :: u204 :: u205 :: u206 :: u207 :: u208 :: u209 :: u210 :: u211 :: u212 :: u213 :: u214 :: u215 :: u216 :: u217 :: u218 :: u219 :: u220 :: u221 :: u222 :: u223 :: u224 :: u225 :: u226 :: u227 :: u228 :: u229 :: u230 :: u231 :: u232 :: c233 :: c234 :: c235 :: c236 :: c237 :: c238 :: c239 :: c240 :: c241 :: c242 :: c243 :: c244 :: c245 :: c246 :: c247 :: c248 :: c249 :: c250 :: c251 :: c252 :: c253 :: c254 :: c255 :: c256 :: c257 :: c258 :: c259 :: c260 :: c261 :: c262 :: []), []⟩ w') :
    Code.wp Tryd.prog (Code.loop (apLoop 2)) Q0 ⟨List.toArray (c0 :: c1 :: c2 :: c3 :: .pointer (some ⟨a, 0, none⟩) :: c5 :: .slice Ao ne co :: .slice Aw ne cw :: .slice At ne ct :: c9 :: c10 :: c11 :: c12 :: c13 :: c14 :: c15 :: c16 :: c17 :: .int .i64 0 :: .int .i64 0 :: c20 :: c21 :: c22 :: c23 :: c24 :: c25 :: c26 :: c27 :: c28 :: c29 :: c30 :: c31 :: c32 :: c33 :: c34 :: c35 :: c36 :: c37 :: c38 :: c39 :: c40 :: c41 :: c42 :: c43 :: c44 :: c45 :: c46 :: c47 :: c48 :: c49 :: c50 :: c51 :: c52 :: c53 :: c54 :: c55 :: c56 :: c57 :: c58 :: c59 :: c60 :: c61 :: c62 :: c63 :: c64 :: c65 :: c66 :: c67 :: c68 :: c69 :: c70 :: c71 :: c72 :: c73 :: c74 :: c75 :: c76 :: c77 :: c78 :: c79 :: c80 :: c81 :: c82 :: c83 :: c84 :: c85 :: c86 :: c87 :: c88 :: c89 :: c90 :: c91 :: c92 :: c93 :: c94 :: c95 :: c96 :: c97 :: c98 :: c99 :: c100 :: c101 :: c102 :: c103 :: c104 :: c105 :: c106 :: c107 :: c108 :: c109 :: c110 :: c111 :: c112 :: c113 :: c114 :: c115 :: c116 :: c117 :: c118 :: c119 :: c120 :: c121 :: c122 :: c123 :: c124 :: c125 :: c126 :: c127 :: c128 :: c129 :: c130 :: c131 :: c132 :: c133 :: c134 :: c135 :: c136 :: c137 :: c138 :: c139 :: c140 :: c141 :: c142 :: c143 :: c144 :: c145 :: c146 :: c147 :: c148 :: c149 :: c150 :: c151 :: c152 :: c153 :: c154 :: c155 :: c156 :: c157 :: c158 :: c159 :: c160 :: c161 :: c162 :: c163 :: c164 :: c165 :: c166 :: c167 :: c168 :: c169 :: c170 :: c171 :: c172 :: c173 :: c174 :: c175 :: c176 :: c177 :: c178 :: c179 :: c180 :: c181 :: c182 :: c183 :: c184 :: c185 :: c186 :: c187 :: c188 :: c189 :: c190 :: c191 :: c192 :: c193 :: c194 :: c195 :: c196 :: c197 :: c198 :: c199 :: c200 :: c201 :: c202 :: c203 :: c204 :: c205 :: c206 :: c207 :: c208 :: c209 :: c210 :: c211 :: c212 :: c213 :: c214 :: c215 :: c216 :: c217 :: c218 :: c219 :: c220 :: c221 :: c222 :: c223 :: c224 :: c225 :: c226 :: c227 :: c228 :: c229 :: c230 :: c231 :: c232 :: c233 :: c234 :: c235 :: c236 :: c237 :: c238 :: c239 :: c240 :: c241 :: c242 :: c243 :: c244 :: c245 :: c246 :: c247 :: c248 :: c249 :: c250 :: c251 :: c252 :: c253 :: c254 :: c255 :: c256 :: c257 :: c258 :: c259 :: c260 :: c261 :: c262 :: []), []⟩ w0 := by
  have HINX := hide hInv
  have HSTN := hide hSt
  have HNE := hide hne
  clear hInv hSt hne
  conv => arg 2; arg 1; whnf
  go_loopw [19, 18] (fun v tt wr3 => ∃ (q s : Nat), q ≤ ne ∧ s ≤ 150 * q ∧ v = .int .i64 q ∧ tt = .int .i64 s ∧ Hid (((E.take q).map (·.n)).sum = s) ∧ Hid (Below w0.heap.size w0 wr3)) (fun v _ _ => ne - (intOf v).toNat)
  case atStart => exact ⟨0, 0, by omega, by omega, rfl, rfl, hide rfl, hide (Below.refl _ _)⟩
  case round =>
    obtain ⟨q, s, hq, hs30, rfl, rfl, HS, HBr⟩ := hrel
    obtain ⟨wr3, hwr3⟩ : ∃ W, W = wr := ⟨_, rfl⟩
    subst hwr3
    have HSTr := hide (HSTN.out.below HBr.out)
    by_cases hqn : q < ne
    · obtain ⟨e, he⟩ : ∃ e, E[q]? = some e := ⟨_, List.getElem?_eq_getElem (by rw [HNE.out]; exact hqn)⟩
      have hem := List.mem_of_getElem? he
      have hmo : ∀ (f : En → Int), (E.map f)[q]? = some (f e) := fun f => by rw [List.getElem?_map, he]; rfl
      obtain ⟨r1, s1, e1, -, -, hr1⟩ := own_ints HSTr.out.u_ (by rw [List.length_map, HNE.out]; omega)
      obtain ⟨r2, s2, e2, -, -, hr2⟩ := own_ints HSTr.out.v_ (by rw [List.length_map, HNE.out]; omega)
      obtain ⟨r3, s3, e3, -, -, hr3⟩ := own_ints HSTr.out.x_ (by rw [List.length_map, HNE.out]; omega)
      injection e1 with e1a e1b e1c
      injection e2 with e2a e2b e2c
      injection e3 with e3a e3b e3c
      subst e1a e1c e2a e2c e3a e3c
      have x1 := (hr1 q _ (hmo En.o)).1
      have x2 := (hr2 q _ (hmo En.w)).1
      have x3 := (hr3 q _ (hmo En.q)).1
      have hwho := HINX.out.who e hem
      have htag := HINX.out.tag e hem
      have hfit := HINX.out.fits e hem
      have hrd := HINX.out.read e hem
      have hpa := Ap.ps_at b e.who hwho
      have hsz3 : Ap.size e.who ≤ 150 := by unfold Ap.size; split <;> omega
      have hbse := (Ap.base_le e.who hwho).1
      have hmb := HINX.out.mem_blk e hem
      obtain ⟨nn, hnn⟩ : ∃ nn, Hid (e.n = nn) := ⟨_, hide rfl⟩
      obtain ⟨tg, htg⟩ : ∃ tg, Hid (e.t = tg) := ⟨_, hide rfl⟩
      obtain ⟨X, hX⟩ : ∃ X : Nat, Hid (1000 * e.n + e.t = X) := ⟨_, hide rfl⟩
      have VRd : Hid (∀ W, Below wr3.heap.size wr3 W → Calls Tryd.prog 14 #[.pointer (some ⟨a, 0, none⟩), .int .i64 e.w, .int .i64 e.o, .int .i64 (nn : Nat)] W fun e' w' => (∃ v', e' = .returned (.tuple #[v', .bool true]) ∧ w'.ownsRow W.heap.size 5 1 v' nn (u8s (List.replicate nn tg))) ∧ Below W.heap.size W w') := hide fun W hbW => by
        have h := fread (e.who : Int) e.off e.n e.who ⟨(e.who : Int), Ap.base e.who, Ap.size e.who, b e.who⟩ (HSTr.out.below hbW).is_ hpa.1 hpa.2 (by show Ap.size e.who ≤ _; omega) ⟨e.bk, hmb, Nat.le_refl _, Nat.le_refl _⟩ (by show Ap.base e.who + e.off < mem.length; rw [HINX.out.len]; omega)
        rw [show (mem.drop ((Pt.mk (e.who : Int) (Ap.base e.who) (Ap.size e.who) (b e.who)).off + e.off)).take e.n = List.replicate e.n e.t from hrd, hnn.out, htg.out] at h
        exact h
      have hqX : En.q e = (X : Int) := congrArg Nat.cast hX.out
      rw [hqX] at x3
      have hX2 : X = 1000 * nn + tg := by rw [← hX.out, hnn.out, htg.out]
      have htb : 1 ≤ tg ∧ tg ≤ 60 := by rw [← htg.out]; exact htag
      have hnb' : nn ≤ 150 := by rw [← hnn.out]; omega
      have hdd : (X : Int) / 1000 = (nn : Int) ∧ (X : Int) % 1000 = (tg : Int) := by omega
      have HD1 := hide hdd.1
      have HD3 : Hid (wrap64 (nn : Int) = (nn : Int)) := hide (by unfold wrap64; omega)
      have HM1 := hide hdd.2
      have HM2 : Hid ((X : Int).tmod 1000 = (tg : Int)) := hide (by rw [Int.tmod_eq_emod_of_nonneg (by omega)]; exact hdd.2)
      have hqi : (q : Int) < (ne : Int) := by omega
      have HSN : Hid ((((E.take (q + 1)).map (·.n)).sum) = s + nn) := hide (by
        rw [List.take_add_one, he, Option.toList_some, List.map_append, List.sum_append, HS.out, ← hnn.out]
        simp)
      have HX3 : Hid (∀ W, Below wr3.heap.size wr3 W → W.cell? ⟨r3, q, none⟩ = some (.int .i64 (X : Nat))) := hide fun W hbW => by
        have h := (own_cell (HSTr.out.below hbW).x_ q _ (hmo En.q)).1
        rw [hqX] at h
        exact h
      have HX12 : Hid (∀ W, Below wr3.heap.size wr3 W → W.cell? ⟨r1, q, none⟩ = some (.int .i64 e.o) ∧ W.cell? ⟨r2, q, none⟩ = some (.int .i64 e.w)) := hide fun W hbW => ⟨(own_cell (HSTr.out.below hbW).u_ q _ (hmo En.o)).1, (own_cell (HSTr.out.below hbW).v_ q _ (hmo En.w)).1⟩
      have hS : wr3.cell? ⟨r1, q, none⟩ = some (.int .i64 e.o) ∧ wr3.cell? ⟨r2, q, none⟩ = some (.int .i64 e.w) := ⟨x1, x2⟩
      clear hr1 hr2 hr3 hmo hem he hwho htag hfit hrd hpa hsz3 hbse hmb hdd hX2 HS e1b e2b e3b hqX
      go_wp2_with fail
      rw [HD1.out, HD3.out]
      clear x3
      have VR9 := hide (VRd.out wr3.drew ((Below.refl wr3.heap.size wr3).drew))
      go_region_held3 (fun W => W.cell? ⟨r1, q, none⟩ = some (.int .i64 e.o) ∧ W.cell? ⟨r2, q, none⟩ = some (.int .i64 e.w))
        (first | exact hS | exact hS2 | assumption)
        (first | (go_at_call 14; refine VR9.out.mono ?_; rintro e' w9 ⟨⟨v', rfl, hrow⟩, hb9'⟩; obtain ⟨Ax, cx, rfl, -, -, -, hrb⟩ := own_rb hrow (fun b hb => by rw [List.eq_of_mem_replicate hb]; omega); have hb9 : Below wr3.heap.size wr3 w9 := (Below.refl wr3.heap.size wr3).drew.trans hb9'; have hS2 := HX12.out w9 hb9; have HRB := hide hrb; have HB9 := hide hb9; clear hrow hb9' hrb hb9))
      clear VR9
      clear VRd x1 x2 hS hS2
      go_wp2_with fail
      refine apl6_c r3 ne ct q nn cx tg X Ax w9 hqn (by omega) htb.2 HM1.out HM2.out HRB.out (fun W hbW => HX3.out W (HB9.out.trans (hbW.mono HB9.out.size))) ?_
      intro u2 u23 u214 u215 u216 u217 u218 u219 u220 u221 u222 u223 u224 u225 u226 u227 u228 u229 w10 hb10
      have HBz := hide (HBr.out.trans ((HB9.out.trans (hb10.mono HB9.out.size)).mono HBr.out.size))
      have hsw : IntKind.i64.wrap ((s : Int) + (nn : Int)) = ((s + nn : Nat) : Int) := by rw [IntKind.wrap_i64]; omega
      obtain ⟨s', hs'⟩ : ∃ s', Hid (s + nn = s') := ⟨_, hide rfl⟩
      have hs9 : s' ≤ 150 * (q + 1) := by have := hs'.out; omega
      rw [hs'.out] at hsw HSN
      clear HM1 HM2 HD1 HD3 hb10 HB9 HRB HX3
      go_wp2_with fail
      go_roundw
      case rel => exact ⟨q + 1, s', by omega, by omega, by go_num, by go_num, HSN, HBz⟩
      case measure => simp [intOf]; omega
    · have hge : ¬ ((q : Int) < (ne : Int)) := by omega
      have hqe : q = ne := by omega
      have hsum : (E.map (·.n)).sum = s := by rw [← HS.out, List.take_of_length_le (by rw [HNE.out]; omega)]
      rw [hsum] at hexit
      have HBx := HBr
      clear HBr HS hsum HSTr
      go_wp2_with fail
      first | exact HBx.out | exact hexit _ _ _ _ _ _ _ _ _ _ _ _ _ _ _ _ _ _ _ _ _ _ _ _ _ _ _ _ _ _ _ _ _ _ _ _ _ _ _ _ _ _ _ _ _ _ _ _ _ _ _ _ _ _ _ _ _ _ wr3 HBx.out
end Go.Proofs.YtemaaipgjghlaaaDoor
