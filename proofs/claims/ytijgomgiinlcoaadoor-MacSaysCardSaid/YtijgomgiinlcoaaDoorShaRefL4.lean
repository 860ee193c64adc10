/-
  lodgeref1.Sum: the loop that lays the message's words, by itself. By an AI agent. No person has read it.
-/
import Derived.Test.YtijgomgiinlcoaaDoorShaRefP
namespace Go.Proofs.YtijgomgiinlcoaaDoor
open Go.RowKit

set_option maxRecDepth 1000000 in
set_option maxHeartbeats 16000000 in
theorem loop4_c {c0 c1 c2 c4 c5 c6 c7 c11 c12 c13 c14 c15 c16 c17 c18 c19 c20 c21 c22 c23 c24 c25 c26 c27 c28 c29 c30 c31 c32 c33 c34 c35 c36 c37 c38 c39 c40 c41 c42 c43 c44 c45 c46 c47 c48 c49 c50 c51 c52 c53 c54 c55 c56 c57 c58 c59 c60 c61 c62 c63 c64 c65 c66 c67 c68 c69 c70 c71 c72 c73 c74 c75 c76 c77 c78 c79 c80 c81 c82 c83 c84 c85 c86 c87 c88 c89 c90 c91 c92 c93 c94 c95 c96 c97 c98 c99 c100 c101 c102 c103 c104 c105 c106 c107 c108 c109 c110 c111 c112 c113 c114 c115 c116 c117 c118 c119 c120 c121 c122 c123 c124 c125 c126 c127 c128 c129 c130 c131 c132 c133 c134 c135 c136 c137 c138 c139 c140 c141 c142 c143 c144 c145 c146 c147 c148 c149 c150 c151 c152 c153 c154 c155 c156 c157 c158 c159 c160 c161 c162 c163 c164 c165 c166 c167 c168 c169 c170 c171 c172 c173 c174 c175 c176 c177 c178 c179 c180 c181 c182 c183 c184 c185 c186 c187 c188 c189 c190 c191 c192 c193 c194 c195 c196 c197 c198 c199 c200 c201 c202 c203 c204 c205 c206 c207 c208 c209 c210 c211 c212 c213 c214 c215 c216 c217 c218 c219 c220 c221 c222 c223 c224 c225 c226 c227 c228 c229 c230 c231 c232 c233 c234 c235 c236 c237 c238 c239 c240 c241 c242 c243 c244 c245 c246 c247 c248 c249 c250 c251 c252 c253 c254 c255 c256 c257 c258 c259 c260 c261 c262 c263 c264 c265 c266 c267 c268 c269 c270 c271 c272 c273 c274 c275 c276 c277 c278 c279 c280 c281 c282 c283 c284 c285 c286 c287 c288 c289 c290 c291 c292 c293 c294 c295 c296 c297 c298 c299 c300 c301 c302 c303 c304 c305 c306 c307 c308 : Value} (Q0 : Exit → Act → World → Prop) (gm L capm a k gw : Nat) (M b : List Nat) (wo w0 : World)
    (hrb : Rb wo (some ⟨gm, 0, none⟩) M) (hL : Hid (M.length = L)) (ha : Hid (64 * k = a)) (haL : a + 64 ≤ L) (hLl : L ≤ 1000100) (hLc : L ≤ capm) (hb : Hid (Sha.blk M k = b)) (hbB : Hid (Sha.Bytes b)) (hgw : wo.heap.size = gw) (hS0 : Sched wo b gw 0 w0)
    (hexit : ∀ (u10 u11 u12 u13 u65 u66 u67 u68 u69 u70 u71 u72 u73 u74 u75 u76 u77 u78 u79 u80 u81 u82 u83 u84 u85 u86 u87 u88 u89 u90 u91 u92 u93 u94 u95 u96 u97 u98 u99 u100 u101 u102 u103 u104 u105 u106 u107 u108 u109 u110 u111 u112 u113 u114 u115 u116 u117 u118 u119 u120 u121 u122 u123 u124 u125 u126 u127 u128 u129 u130 u131 u132 u133 u134 u135 u136 u137 u138 u139 u140 u141 u142 u143 u144 u145 u146 u147 u148 u149 u150 u151 u152 u153 u154 : Value) (w' : World), Sched wo b gw 64 w' → Q0 (.exit 6) ⟨List.toArray (c0 :: c1 :: c2 :: .slice (some ⟨gm, 0, none⟩) L capm :: c4 :: c5 :: c6 :: c7 :: .int .i64 (a : Int) :: .pointer (some ⟨gw, 0, none⟩) :: u10 :: u11 :: u12 :: u13 :: c14 :: c15 :: c16 :: c17 :: c18 :: c19 :: c20 :: c21 :: c22 :: c23 :: c24 :: c25 :: c26 :: c27 :: c28 :: c29 :: c30 :: c31 :: c32 :: c33 :: c34 :: c35 :: c36 :: c37 :: c38 :: c39 :: c40 :: c41 :: c42 :: c43 :: c44 :: c45 :: c46 :: c47 :: c48 :: c49 :: c50 :: c51 :: c52 :: c53 :: c54 :: c55 :: c56 :: c57 :: c58 :: c59 :: c60 :: c61 :: c62 :: c63 :: c64 :: u65 :: u66 :: u67 :: u68 :: u69 :: u70 :: u71 :: u72 :: u73 :: u74 :: u75 :: u76 :: u77 :: u78 :: u79 :: u80 :: u81 :: u82 :: u83 :: u84 :: u85 :: u86 :: u87 :: u88 :: u89 :: u90 :: u91 :: u92 :: u93 :: u94 :: u95 :: u96 :: u97 :: u98 :: u99 :: u100 :: u101 :: u102 :: u103 :: u104 :: u105 :: u106 :: u107 :: u108 :: u109 :: u110 :: u111 :: u112 :: u113 :: u114 :: u115 :: u116 :: u117 :: u118 :: u119 :: u120 :: u121 :: u122 :: u123 :: u124 :: u125 :: u126 :: u127 :: u128 :: u129 :: u130 :: u131 :: u132 :: u133 :: u134 :: u135 :: u136 :: u137 :: u138 :: u139 :: u140 :: u141 :: u142 :: u143 :: u144 :: u145 :: u146 :: u147 :: u148 :: u149 :: u150 :: u151 :: u152 :: u153 :: u154 :: c155 :: c156 :: c157 :: c158 :: c159 :: c160 :: c161 :: c162 :: c163 :: c164 :: c165 :: c166 :: c167 :: c168 :: c169 :: c170 :: c171 :: c172 :: c173 :: c174 :: c175 :: c176 :: c177 :: c178 :: c179 :: c180 :: c181 :: c182 :: c183 :: c184 :: c185 :: c186 :: c187 :: c188 :: c189 :: c190 :: c191 :: c192 :: c193 :: c194 :: c195 :: c196 :: c197 :: c198 :: c199 :: c200 :: c201 :: c202 :: c203 :: c204 :: c205 :: c206 :: c207 :: c208 :: c209 :: c210 :: c211 :: c212 :: c213 :: c214 :: c215 :: c216 :: c217 :: c218 :: c219 :: c220 :: c221 :: c222 :: c223 :: c224 :: c225 :: c226 :: c227 :: c228 :: c229 :: c230 :: c231 :: c232 :: c233 :: c234 :: c235 :: c236 :: c237 :: c238 :: c239 :: c240 :: c241 :: c242 :: c243 :: c244 :: c245 :: c246 :: c247 :: c248 :: c249 :: c250 :: c251 :: c252 :: c253 :: c254 :: c255 :: c256 :: c257 :: c258 :: c259 :: c260 :: c261 :: c262 :: c263 :: c264 :: c265 :: c266 :: c267 :: c268 :: c269 :: c270 :: c271 :: c272 :: c273 :: c274 :: c275 :: c276 :: c277 :: c278 :: c279 :: c280 :: c281 :: c282 :: c283 :: c284 :: c285 :: c286 :: c287 :: c288 :: c289 :: c290 :: c291 :: c292 :: c293 :: c294 :: c295 :: c296 :: c297 :: c298 :: c299 :: c300 :: c301 :: c302 :: c303 :: c304 :: c305 :: c306 :: c307 :: c308 :: []), []⟩ w') :
    Code.wp Tryd.prog (Code.loop body4) Q0 ⟨List.toArray (c0 :: c1 :: c2 :: .slice (some ⟨gm, 0, none⟩) L capm :: c4 :: c5 :: c6 :: c7 :: .int .i64 (a : Int) :: .pointer (some ⟨gw, 0, none⟩) :: .int .i64 0 :: c11 :: c12 :: c13 :: c14 :: c15 :: c16 :: c17 :: c18 :: c19 :: c20 :: c21 :: c22 :: c23 :: c24 :: c25 :: c26 :: c27 :: c28 :: c29 :: c30 :: c31 :: c32 :: c33 :: c34 :: c35 :: c36 :: c37 :: c38 :: c39 :: c40 :: c41 :: c42 :: c43 :: c44 :: c45 :: c46 :: c47 :: c48 :: c49 :: c50 :: c51 :: c52 :: c53 :: c54 :: c55 :: c56 :: c57 :: c58 :: c59 :: c60 :: c61 :: c62 :: c63 :: c64 :: c65 :: c66 :: c67 :: c68 :: c69 :: c70 :: c71 :: c72 :: c73 :: c74 :: c75 :: c76 :: c77 :: c78 :: c79 :: c80 :: c81 :: c82 :: c83 :: c84 :: c85 :: c86 :: c87 :: c88 :: c89 :: c90 :: c91 :: c92 :: c93 :: c94 :: c95 :: c96 :: c97 :: c98 :: c99 :: c100 :: c101 :: c102 :: c103 :: c104 :: c105 :: c106 :: c107 :: c108 :: c109 :: c110 :: c111 :: c112 :: c113 :: c114 :: c115 :: c116 :: c117 :: c118 :: c119 :: c120 :: c121 :: c122 :: c123 :: c124 :: c125 :: c126 :: c127 :: c128 :: c129 :: c130 :: c131 :: c132 :: c133 :: c134 :: c135 :: c136 :: c137 :: c138 :: c139 :: c140 :: c141 :: c142 :: c143 :: c144 :: c145 :: c146 :: c147 :: c148 :: c149 :: c150 :: c151 :: c152 :: c153 :: c154 :: c155 :: c156 :: c157 :: c158 :: c159 :: c160 :: c161 :: c162 :: c163 :: c164 :: c165 :: c166 :: c167 :: c168 :: c169 :: c170 :: c171 :: c172 :: c173 :: c174 :: c175 :: c176 :: c177 :: c178 :: c179 :: c180 :: c181 :: c182 :: c183 :: c184 :: c185 :: c186 :: c187 :: c188 :: c189 :: c190 :: c191 :: c192 :: c193 :: c194 :: c195 :: c196 :: c197 :: c198 :: c199 :: c200 :: c201 :: c202 :: c203 :: c204 :: c205 :: c206 :: c207 :: c208 :: c209 :: c210 :: c211 :: c212 :: c213 :: c214 :: c215 :: c216 :: c217 :: c218 :: c219 :: c220 :: c221 :: c222 :: c223 :: c224 :: c225 :: c226 :: c227 :: c228 :: c229 :: c230 :: c231 :: c232 :: c233 :: c234 :: c235 :: c236 :: c237 :: c238 :: c239 :: c240 :: c241 :: c242 :: c243 :: c244 :: c245 :: c246 :: c247 :: c248 :: c249 :: c250 :: c251 :: c252 :: c253 :: c254 :: c255 :: c256 :: c257 :: c258 :: c259 :: c260 :: c261 :: c262 :: c263 :: c264 :: c265 :: c266 :: c267 :: c268 :: c269 :: c270 :: c271 :: c272 :: c273 :: c274 :: c275 :: c276 :: c277 :: c278 :: c279 :: c280 :: c281 :: c282 :: c283 :: c284 :: c285 :: c286 :: c287 :: c288 :: c289 :: c290 :: c291 :: c292 :: c293 :: c294 :: c295 :: c296 :: c297 :: c298 :: c299 :: c300 :: c301 :: c302 :: c303 :: c304 :: c305 :: c306 :: c307 :: c308 :: []), []⟩ w0 := by
  subst hgw
  have HS0 := hide hS0
  have HRB := hide hrb
  clear hS0 hrb
  conv => arg 2; arg 1; whnf
  go_loopw [10] (fun v wr => ∃ i : Nat, i ≤ 64 ∧ v = .int .i64 i ∧ Sched wo b wo.heap.size i wr) (fun v _ => 64 - (intOf v).toNat)
  case atStart => exact ⟨0, by omega, rfl, HS0.out⟩
  case round =>
    obtain ⟨i, hi, rfl, hS⟩ := hrel
    clear HS0
    by_cases h16 : i < 16
    ·
      have hrb := HRB.out
      have HS := hide hS
      obtain ⟨c0, e0, l0, b0⟩ := rb_at hrb hS.2.1 (a + 4 * i) (a + 4 * i) (by rw [hL.out]; omega) rfl
      obtain ⟨c1, e1, l1, b1⟩ := rb_at hrb hS.2.1 (a + 4 * i + 1) (a + 4 * i + 1) (by rw [hL.out]; omega) rfl
      obtain ⟨c2, e2, l2, b2⟩ := rb_at hrb hS.2.1 (a + 4 * i + 2) (a + 4 * i + 2) (by rw [hL.out]; omega) rfl
      obtain ⟨c3, e3, l3, b3⟩ := rb_at hrb hS.2.1 (a + 4 * i + 3) (a + 4 * i + 3) (by rw [hL.out]; omega) rfl
      have f0 : Hid (b.getD (4 * i) 0 = c0) := hide (by rw [← hb.out, blk_getD _ _ _ (by omega), ha.out]; exact e0.out)
      have f1 : Hid (b.getD (4 * i + 1) 0 = c1) := hide (by rw [← hb.out, blk_getD _ _ _ (by omega), ha.out, ← Nat.add_assoc]; exact e1.out)
      have f2 : Hid (b.getD (4 * i + 2) 0 = c2) := hide (by rw [← hb.out, blk_getD _ _ _ (by omega), ha.out, ← Nat.add_assoc]; exact e2.out)
      have f3 : Hid (b.getD (4 * i + 3) 0 = c3) := hide (by rw [← hb.out, blk_getD _ _ _ (by omega), ha.out, ← Nat.add_assoc]; exact e3.out)
      have hsl := cut4 gm L capm a i (by omega)
      have hWk : wr.cell? ⟨wo.heap.size, i, none⟩ = some _ := (hS.1.cell i).trans (u32s_at _ i (by rw [Sha.row_length _ _ (by omega)]; omega))
      have hWf := hS.1.frozen i
      have hi64 : (i : Int) < 64 := by omega
      have hi16 : (i : Int) < 16 := by omega
      clear hS hrb
      go_wp2_with fail
      go_still_tail 24, (by kernel_rfl)
      change wpList _ _ _ _ _ wr.drew
      go_wp2_with fail
      go_roundw
      case rel => exact ⟨i + 1, by omega, by go_num, HS.out.first h16 f0 f1 f2 f3 l0 l1 l2 l3⟩
      case measure => simp [intOf]; omega
    · by_cases h64 : i < 64
      ·
        obtain ⟨j, rfl⟩ : ∃ j, i = j + 16 := ⟨i - 16, by omega⟩
        have hlt : j < 48 := by omega
        obtain ⟨a1, ea, la, ca⟩ := row_at hS.1 hbB.out (by omega) j (by omega)
        obtain ⟨b1, eb, lb, cb⟩ := row_at hS.1 hbB.out (by omega) (j + 1) (by omega)
        obtain ⟨c1, ec, lc, cc⟩ := row_at hS.1 hbB.out (by omega) (j + 9) (by omega)
        obtain ⟨d1, ed, ld, cd⟩ := row_at hS.1 hbB.out (by omega) (j + 14) (by omega)
        have hWk : wr.cell? ⟨wo.heap.size, j + 16, none⟩ = some _ := (hS.1.cell (j + 16)).trans (u32s_at _ (j + 16) (by rw [Sha.row_length _ _ (by omega)]; omega))
        have hWf := hS.1.frozen (j + 16)
        have HS := hide hS
        clear hS
        rw [show ((j + 16 : Nat) : Int) = (j : Int) + 16 by omega]
        have hi16 : ¬ ((j : Int) + 16 < 16) := by omega
        have hi0 : (0 : Int) ≤ (j : Int) := by omega
        have hi64 : (j : Int) + 16 < 64 := by omega
        have hi1 : (j : Int) < 64 := by omega
        have hi2 : (j : Int) + 1 < 64 := by omega
        have hi3 : (j : Int) + 9 < 64 := by omega
        have hi4 : (j : Int) + 14 < 64 := by omega
        have w0 : IntKind.i64.wrap (j : Int) = (j : Int) := by rw [IntKind.wrap_i64]; omega
        have w4 : IntKind.i64.wrap ((j : Int) + 16 - 15) = (j : Int) + 1 := by rw [IntKind.wrap_i64]; omega
        have w5 : IntKind.i64.wrap ((j : Int) + 16 - 7) = (j : Int) + 9 := by rw [IntKind.wrap_i64]; omega
        have w6 : IntKind.i64.wrap ((j : Int) + 16 - 2) = (j : Int) + 14 := by rw [IntKind.wrap_i64]; omega
        have w7 : IntKind.i64.wrap ((j : Int) + 16 - 16) = (j : Int) := by rw [IntKind.wrap_i64]; omega
        have p1 : (0 : Int) ≤ (j : Int) + 1 := by omega
        have p2 : (0 : Int) ≤ (j : Int) + 9 := by omega
        have p3 : (0 : Int) ≤ (j : Int) + 14 := by omega
        have t1 : ((j : Int) + 1).toNat = j + 1 := by omega
        have t2 : ((j : Int) + 9).toNat = j + 9 := by omega
        have t3 : ((j : Int) + 14).toNat = j + 14 := by omega
        have t4 : ((j : Int) + 16).toNat = j + 16 := by omega
        have p4 : (0 : Int) ≤ (j : Int) + 16 := by omega
        have hx1 := Sha.thin_eq b1 7 18 3 lb
        have hx2 := Sha.thin_eq d1 17 19 10 ld
        rw [show (2 : Int) ^ 3 = 8 from rfl] at hx1
        rw [show (2 : Int) ^ 10 = 1024 from rfl] at hx2
        go_wp2_with fail
        go_quiet ((go_at_call 37; (first | with_reducible exact Calls.quiet_of_same (turn7_c b1 _ lb) | with_reducible exact Calls.quiet_of_same (turn18_c b1 _ lb))))
        go_wp2_with fail
        go_quiet ((go_at_call 37; (first | with_reducible exact quiet_base (turn17_c d1 _ ld) | with_reducible exact quiet_base (turn19_c d1 _ ld))))
        go_wp2_with fail
        generalize hw5 : World.drewN (World.drewN wr _) _ = w5
        have ca5 : w5.cell? ⟨wo.heap.size, j, none⟩ = some (.int .u32 a1) := by rw [← hw5]; exact ca
        have cc5 : w5.cell? ⟨wo.heap.size, j + 9, none⟩ = some (.int .u32 c1) := by rw [← hw5]; exact cc
        have hWk5 : ∃ old, w5.cell? ⟨wo.heap.size, j + 16, none⟩ = some old := ⟨_, by rw [← hw5]; exact hWk⟩
        obtain ⟨old, hWk5⟩ := hWk5
        have hWf5 : w5.frozen? ⟨wo.heap.size, j + 16, none⟩ = false := by rw [← hw5]; exact hWf
        have HS5 : Hid (Sched wo b wo.heap.size (j + 16) w5) := by rw [← hw5]; exact hide ((HS.out.drewN _).drewN _)
        clear hw5 ca cb cc cd hWk hWf HS hx1 hx2
        go_still_tail 15, (by kernel_rfl)
        change wpList _ _ _ _ _ w5.drew
        go_wp2_with fail
        go_roundw
        case rel => exact ⟨j + 1 + 16, by omega, by go_num, HS5.out.second2 hlt ea eb ec ed⟩
        case measure => simp [intOf]; omega
      · rw [show (i : Int) = 64 by omega]
        obtain rfl : i = 64 := by omega
        have HS := hide hS
        clear hS
        go_wp2_with fail
        first
          | exact HS.out
          | exact hexit _ _ _ _ _ _ _ _ _ _ _ _ _ _ _ _ _ _ _ _ _ _ _ _ _ _ _ _ _ _ _ _ _ _ _ _ _ _ _ _ _ _ _ _ _ _ _ _ _ _ _ _ _ _ _ _ _ _ _ _ _ _ _ _ _ _ _ _ _ _ _ _ _ _ _ _ _ _ _ _ _ _ _ _ _ _ _ _ _ _ _ _ _ _ _ HS.out
end Go.Proofs.YtijgomgiinlcoaaDoor
