/-
  lodgeref1.Sum: the loop of the sixty-four rounds, by itself. By an AI agent. No person has read it.
-/
import Derived.Test.YtijgomgiinlcoaaDoorShaRefP
namespace Go.Proofs.YtijgomgiinlcoaaDoor
open Go.RowKit

set_option maxRecDepth 1000000 in
set_option maxHeartbeats 16000000 in
theorem loop5_c {c0 c1 c2 c3 c4 c5 c7 c8 c10 c11 c12 c13 c16 c17 c18 c19 c20 c21 c22 c23 c24 c25 c26 c27 c28 c29 c30 c31 c32 c33 c34 c35 c36 c37 c38 c39 c40 c41 c42 c43 c44 c45 c46 c47 c48 c49 c50 c51 c52 c53 c54 c55 c56 c57 c58 c59 c60 c61 c62 c63 c64 c65 c66 c67 c68 c69 c70 c71 c72 c73 c74 c75 c76 c77 c78 c79 c80 c81 c82 c83 c84 c85 c86 c87 c88 c89 c90 c91 c92 c93 c94 c95 c96 c97 c98 c99 c100 c101 c102 c103 c104 c105 c106 c107 c108 c109 c110 c111 c112 c113 c114 c115 c116 c117 c118 c119 c120 c121 c122 c123 c124 c125 c126 c127 c128 c129 c130 c131 c132 c133 c134 c135 c136 c137 c138 c139 c140 c141 c142 c143 c144 c145 c146 c147 c148 c149 c150 c151 c152 c153 c154 c155 c156 c157 c158 c159 c160 c161 c162 c163 c164 c165 c166 c167 c168 c169 c170 c171 c172 c173 c174 c175 c176 c177 c178 c179 c180 c181 c182 c183 c184 c185 c186 c187 c188 c189 c190 c191 c192 c193 c194 c195 c196 c197 c198 c199 c200 c201 c202 c203 c204 c205 c206 c207 c208 c209 c210 c211 c212 c213 c214 c215 c216 c217 c218 c219 c220 c221 c222 c223 c224 c225 c226 c227 c228 c229 c230 c231 c232 c233 c234 c235 c236 c237 c238 c239 c240 c241 c242 c243 c244 c245 c246 c247 c248 c249 c250 c251 c252 c253 c254 c255 c256 c257 c258 c259 c260 c261 c262 c263 c264 c265 c266 c267 c268 c269 c270 c271 c272 c273 c274 c275 c276 c277 c278 c279 c280 c281 c282 c283 c284 c285 c286 c287 c288 c289 c290 c291 c292 c293 c294 c295 c296 c297 c298 c299 c300 c301 c302 c303 c304 c305 c306 c307 c308 : Value} (Q0 : Exit → Act → World → Prop) (gk gw : Nat) (st ws : List Nat) (v0 : Value) (wo w0 : World)
    (hK : Has wo gk 28 (u32s Sha.K)) (hgw : wo.heap.size = gw) (hwsl : Hid (ws.length = 64)) (hwsB : Hid (∀ x ∈ ws, x < 4294967296)) (hstw : Hid (Sha.Words st)) (hV0 : V8 wo.heap.size w0 v0 st) (hW0 : Has w0 gw 55 (u32s ws)) (hB0 : Below wo.heap.size wo w0)
    (hexit : ∀ (u14 u15 u16 u17 u18 u19 u20 u158 u159 u160 u161 u162 u163 u164 u165 u166 u167 u168 u169 u170 u171 u172 u173 u174 u175 u176 u177 u178 u179 u180 u181 u182 u183 u184 u185 u186 u187 u188 u189 u190 u191 u192 u193 u194 u195 u196 u197 u198 u199 u200 u201 u202 u203 u204 u205 u206 u207 u208 u209 u210 u211 u212 u213 u214 u215 u216 u217 u218 u219 u220 u221 u222 u223 u224 u225 u226 u227 u228 u229 u230 u231 u232 u233 u234 u235 u236 u237 u238 u239 u240 u241 u242 u243 u244 u245 u246 u247 u248 u249 u250 u251 u252 u253 u254 u255 u256 u257 u258 u259 u260 u261 u262 u263 u264 u265 u266 u267 u268 u269 u270 u271 u272 u273 : Value) (w' : World), V8 wo.heap.size w' u14 (Sha.rounds st ws 64) → Has w' gw 55 (u32s ws) → Below wo.heap.size wo w' → Q0 (.exit 8) ⟨List.toArray (c0 :: c1 :: c2 :: c3 :: c4 :: c5 :: .slice (some ⟨gk, 0, none⟩) 64 64 :: c7 :: c8 :: .pointer (some ⟨gw, 0, none⟩) :: c10 :: c11 :: c12 :: c13 :: u14 :: u15 :: u16 :: u17 :: u18 :: u19 :: u20 :: c21 :: c22 :: c23 :: c24 :: c25 :: c26 :: c27 :: c28 :: c29 :: c30 :: c31 :: c32 :: c33 :: c34 :: c35 :: c36 :: c37 :: c38 :: c39 :: c40 :: c41 :: c42 :: c43 :: c44 :: c45 :: c46 :: c47 :: c48 :: c49 :: c50 :: c51 :: c52 :: c53 :: c54 :: c55 :: c56 :: c57 :: c58 :: c59 :: c60 :: c61 :: c62 :: c63 :: c64 :: c65 :: c66 :: c67 :: c68 :: c69 :: c70 :: c71 :: c72 :: c73 :: c74 :: c75 :: c76 :: c77 :: c78 :: c79 :: c80 :: c81 :: c82 :: c83 :: c84 :: c85 :: c86 :: c87 :: c88 :: c89 :: c90 :: c91 :: c92 :: c93 :: c94 :: c95 :: c96 :: c97 :: c98 :: c99 :: c100 :: c101 :: c102 :: c103 :: c104 :: c105 :: c106 :: c107 :: c108 :: c109 :: c110 :: c111 :: c112 :: c113 :: c114 :: c115 :: c116 :: c117 :: c118 :: c119 :: c120 :: c121 :: c122 :: c123 :: c124 :: c125 :: c126 :: c127 :: c128 :: c129 :: c130 :: c131 :: c132 :: c133 :: c134 :: c135 :: c136 :: c137 :: c138 :: c139 :: c140 :: c141 :: c142 :: c143 :: c144 :: c145 :: c146 :: c147 :: c148 :: c149 :: c150 :: c151 :: c152 :: c153 :: c154 :: c155 :: c156 :: c157 :: u158 :: u159 :: u160 :: u161 :: u162 :: u163 :: u164 :: u165 :: u166 :: u167 :: u168 :: u169 :: u170 :: u171 :: u172 :: u173 :: u174 :: u175 :: u176 :: u177 :: u178 :: u179 :: u180 :: u181 :: u182 :: u183 :: u184 :: u185 :: u186 :: u187 :: u188 :: u189 :: u190 :: u191 :: u192 :: u193 :: u194 :: u195 :: u196 :: u197 :: u198 :: u199 :: u200 :: u201 :: u202 :: u203 :: u204 :: u205 :: u206 :: u207 :: u208 :: u209 :: u210 :: u211 :: u212 :: u213 :: u214 :: u215 :: u216 :: u217 :: u218 :: u219 :: u220 :: u221 :: u222 :: u223 :: u224 :: u225 :: u226 :: u227 :: u228 :: u229 :: u230 :: u231 :: u232 :: u233 :: u234 :: u235 :: u236 :: u237 :: u238 :: u239 :: u240 :: u241 :: u242 :: u243 :: u244 :: u245 :: u246 :: u247 :: u248 :: u249 :: u250 :: u251 :: u252 :: u253 :: u254 :: u255 :: u256 :: u257 :: u258 :: u259 :: u260 :: u261 :: u262 :: u263 :: u264 :: u265 :: u266 :: u267 :: u268 :: u269 :: u270 :: u271 :: u272 :: u273 :: c274 :: c275 :: c276 :: c277 :: c278 :: c279 :: c280 :: c281 :: c282 :: c283 :: c284 :: c285 :: c286 :: c287 :: c288 :: c289 :: c290 :: c291 :: c292 :: c293 :: c294 :: c295 :: c296 :: c297 :: c298 :: c299 :: c300 :: c301 :: c302 :: c303 :: c304 :: c305 :: c306 :: c307 :: c308 :: []), []⟩ w') :
    Code.wp Tryd.prog (Code.loop body5) Q0 ⟨List.toArray (c0 :: c1 :: c2 :: c3 :: c4 :: c5 :: .slice (some ⟨gk, 0, none⟩) 64 64 :: c7 :: c8 :: .pointer (some ⟨gw, 0, none⟩) :: c10 :: c11 :: c12 :: c13 :: v0 :: .int .i64 0 :: c16 :: c17 :: c18 :: c19 :: c20 :: c21 :: c22 :: c23 :: c24 :: c25 :: c26 :: c27 :: c28 :: c29 :: c30 :: c31 :: c32 :: c33 :: c34 :: c35 :: c36 :: c37 :: c38 :: c39 :: c40 :: c41 :: c42 :: c43 :: c44 :: c45 :: c46 :: c47 :: c48 :: c49 :: c50 :: c51 :: c52 :: c53 :: c54 :: c55 :: c56 :: c57 :: c58 :: c59 :: c60 :: c61 :: c62 :: c63 :: c64 :: c65 :: c66 :: c67 :: c68 :: c69 :: c70 :: c71 :: c72 :: c73 :: c74 :: c75 :: c76 :: c77 :: c78 :: c79 :: c80 :: c81 :: c82 :: c83 :: c84 :: c85 :: c86 :: c87 :: c88 :: c89 :: c90 :: c91 :: c92 :: c93 :: c94 :: c95 :: c96 :: c97 :: c98 :: c99 :: c100 :: c101 :: c102 :: c103 :: c104 :: c105 :: c106 :: c107 :: c108 :: c109 :: c110 :: c111 :: c112 :: c113 :: c114 :: c115 :: c116 :: c117 :: c118 :: c119 :: c120 :: c121 :: c122 :: c123 :: c124 :: c125 :: c126 :: c127 :: c128 :: c129 :: c130 :: c131 :: c132 :: c133 :: c134 :: c135 :: c136 :: c137 :: c138 :: c139 :: c140 :: c141 :: c142 :: c143 :: c144 :: c145 :: c146 :: c147 :: c148 :: c149 :: c150 :: c151 :: c152 :: c153 :: c154 :: c155 :: c156 :: c157 :: c158 :: c159 :: c160 :: c161 :: c162 :: c163 :: c164 :: c165 :: c166 :: c167 :: c168 :: c169 :: c170 :: c171 :: c172 :: c173 :: c174 :: c175 :: c176 :: c177 :: c178 :: c179 :: c180 :: c181 :: c182 :: c183 :: c184 :: c185 :: c186 :: c187 :: c188 :: c189 :: c190 :: c191 :: c192 :: c193 :: c194 :: c195 :: c196 :: c197 :: c198 :: c199 :: c200 :: c201 :: c202 :: c203 :: c204 :: c205 :: c206 :: c207 :: c208 :: c209 :: c210 :: c211 :: c212 :: c213 :: c214 :: c215 :: c216 :: c217 :: c218 :: c219 :: c220 :: c221 :: c222 :: c223 :: c224 :: c225 :: c226 :: c227 :: c228 :: c229 :: c230 :: c231 :: c232 :: c233 :: c234 :: c235 :: c236 :: c237 :: c238 :: c239 :: c240 :: c241 :: c242 :: c243 :: c244 :: c245 :: c246 :: c247 :: c248 :: c249 :: c250 :: c251 :: c252 :: c253 :: c254 :: c255 :: c256 :: c257 :: c258 :: c259 :: c260 :: c261 :: c262 :: c263 :: c264 :: c265 :: c266 :: c267 :: c268 :: c269 :: c270 :: c271 :: c272 :: c273 :: c274 :: c275 :: c276 :: c277 :: c278 :: c279 :: c280 :: c281 :: c282 :: c283 :: c284 :: c285 :: c286 :: c287 :: c288 :: c289 :: c290 :: c291 :: c292 :: c293 :: c294 :: c295 :: c296 :: c297 :: c298 :: c299 :: c300 :: c301 :: c302 :: c303 :: c304 :: c305 :: c306 :: c307 :: c308 :: []), []⟩ w0 := by
  subst hgw
  have HK := hide hK
  have HV0 := hide hV0
  have HW0 := hide hW0
  have HB0 := hide hB0
  clear hK hV0 hW0 hB0
  conv => arg 2; arg 1; whnf
  go_loopw [14, 15] (fun v k wr => ∃ (m : Nat) (u : Value), m ≤ 64 ∧ k = .int .i64 m ∧ u = v ∧ V8 wo.heap.size wr u (Sha.rounds st ws m) ∧ Has wr wo.heap.size 55 (u32s ws) ∧ Below wo.heap.size wo wr) (fun _ k _ => 64 - (intOf k).toNat)
  case atStart => exact ⟨0, _, by omega, rfl, rfl, HV0.out, HW0.out, HB0.out⟩
  case round =>
    obtain ⟨m, u, hm, rfl, rfl, hV, hW, hB⟩ := hrel
    clear HV0 HW0 HB0
    by_cases hlt : m < 64
    · obtain ⟨gv, capv, rfl, hcv, hgv, hgvl, hcells⟩ := hV
      have hkc := HK.out.below hB HK.out.lt
      obtain ⟨kk, ek, lk, ck⟩ := word_at hkc Sha.K_lt m (by rw [Sha.K_length]; exact hlt)
      obtain ⟨ww, ew, lw, cw⟩ := word_at hW hwsB.out m (by rw [hwsl.out]; exact hlt)
      obtain ⟨s0, s1, s2, s3, s4, s5, s6, s7, es, l0, l1, l2, l3, l4, l5, l6, l7, c0, c1, c2, c3, c4, c5, c6, c7⟩ := v8_words hcells (Sha.rounds_words hstw.out _ _)
      have hi64 : (m : Int) < 64 := by omega
      have hm' : (if IntKind.u32.signed = true then (-1 : Int) else IntKind.u32.max) = 4294967295 := rfl
      have hch := Sha.choice_eq s4 s5 s6 l4 l5 l6
      have hmo := Sha.most_eq s0 s1 s2 l0 l1 l2
      have hs1 := Sha.stir_eq s4 6 11 25 l4
      have hs2 := Sha.stir_eq s0 2 13 22 l0
      have HW := hide hW
      have HB := hide hB
      clear hkc hcells hW hB
      go_wp2_with fail
      go_quiet ((go_at_call 37; (first | with_reducible exact Calls.quiet_of_same (turn6_c s4 _ l4) | with_reducible exact Calls.quiet_of_same (turn11_c s4 _ l4) | with_reducible exact Calls.quiet_of_same (turn25_c s4 _ l4))))
      go_wp2_with fail
      go_quiet (fail)
      go_wp2_with fail
      go_quiet (fail)
      go_wp2_with fail
      go_quiet ((go_at_call 37; (first | with_reducible exact quiet_base (turn2_c s0 _ l0) | with_reducible exact quiet_base (turn13_c s0 _ l0) | with_reducible exact quiet_base (turn22_c s0 _ l0))))
      go_wp2_with fail
      go_quiet (fail)
      go_wp2_with fail
      generalize hw5 : World.drewN (World.drewN (World.drewN (World.drewN (World.drewN wr _) _) _) _) _ = w5
      have d0 : w5.cell? ⟨gv, 0, none⟩ = some (.int .u32 s0) := by rw [← hw5]; exact c0
      have d1 : w5.cell? ⟨gv, 1, none⟩ = some (.int .u32 s1) := by rw [← hw5]; exact c1
      have d2 : w5.cell? ⟨gv, 2, none⟩ = some (.int .u32 s2) := by rw [← hw5]; exact c2
      have d3 : w5.cell? ⟨gv, 3, none⟩ = some (.int .u32 s3) := by rw [← hw5]; exact c3
      have d4 : w5.cell? ⟨gv, 4, none⟩ = some (.int .u32 s4) := by rw [← hw5]; exact c4
      have d5 : w5.cell? ⟨gv, 5, none⟩ = some (.int .u32 s5) := by rw [← hw5]; exact c5
      have d6 : w5.cell? ⟨gv, 6, none⟩ = some (.int .u32 s6) := by rw [← hw5]; exact c6
      have HW5 : Hid (Has w5 wo.heap.size 55 (u32s ws)) := by rw [← hw5]; exact HW
      have HB5 : Hid (Below wo.heap.size wo w5) := by rw [← hw5]; exact hide ⟨HB.out.os, HB.out.tape, HB.out.output, HB.out.size, HB.out.block⟩
      clear hw5 c0 c1 c2 c3 c4 c5 c6 c7 HW HB hch hmo hs1 hs2 ck cw
      go_still_tail 28, (by kernel_rfl)
      change wpList _ _ _ _ _ w5.drew
      go_wp2_with fail
      go_roundw
      case rel => exact ⟨m + 1, _, by omega, by go_num, rfl, rnd_next HB5.out HB5.out.size ek ew es, HW5.out.alloc _, (HB5.out.alloc HB5.out.size _).drew⟩
      case measure => simp [intOf]; omega
    · rw [show (m : Int) = 64 by omega]
      obtain rfl : m = 64 := by omega
      have HV := hide hV
      have HW := hide hW
      have HB := hide hB
      clear hV hW hB
      go_wp2_with fail
      exact hexit _ _ _ _ _ _ _ _ _ _ _ _ _ _ _ _ _ _ _ _ _ _ _ _ _ _ _ _ _ _ _ _ _ _ _ _ _ _ _ _ _ _ _ _ _ _ _ _ _ _ _ _ _ _ _ _ _ _ _ _ _ _ _ _ _ _ _ _ _ _ _ _ _ _ _ _ _ _ _ _ _ _ _ _ _ _ _ _ _ _ _ _ _ _ _ _ _ _ _ _ _ _ _ _ _ _ _ _ _ _ _ _ _ _ _ _ _ _ _ _ _ _ _ _ HV.out HW.out HB.out
end Go.Proofs.YtijgomgiinlcoaaDoor
