/- The reference's Sum, loop 5. Conditions: as it states. -/
import Derived.Test.YtffmldplchlnpaaDoorRefLoops
namespace Go.Proofs.YtffmldplchlnpaaDoor
open Go.RowKit

set_option maxRecDepth 1000000 in
set_option maxHeartbeats 6400000 in
theorem loop5 (c0 c1 c2 c3 c4 c5 c6 c7 c8 c10 c12 c13 c14 c15 c16 c17 c18 c19 c20 c21 c22 c23 c24 c25 c26 c27 c28 c29 c30 c31 c32 c33 c34 c35 c36 c37 c38 c39 c40 c41 c42 c43 c44 c45 c46 c47 c48 c49 c50 c51 c52 c53 c54 c55 c56 c57 c58 c59 c60 c61 c62 c63 c64 c65 c66 c67 c68 c69 c70 c71 c72 c73 c74 c75 c76 c77 c78 c79 c80 c81 c82 c83 c84 c85 c86 c87 c88 c89 c90 c91 c92 c93 c94 c95 c96 c97 c98 c99 c100 c101 c102 c103 c104 c105 c106 c107 c108 c109 c110 c111 c112 c113 c114 c115 c116 c117 c118 c119 c120 c121 c122 c123 c124 c125 c126 c127 c128 c129 c130 c131 c132 c133 c134 c135 c136 c137 c138 c139 c140 c141 c142 c143 c144 c145 c146 c147 c148 c149 c150 c151 c152 c153 c154 c155 c156 c157 c158 c159 c160 c161 c162 c163 c164 c165 c166 c167 c168 c169 c170 c171 c172 c173 c174 c175 c176 c177 c178 c179 c180 c181 c182 c183 c184 c185 c186 c187 c188 c189 c190 c191 c192 c193 c194 c195 c196 c197 c198 c199 c200 c201 c202 c203 c204 c205 c206 c207 c208 c209 c210 c211 c212 c213 c214 c215 c216 c217 c218 c219 c220 c221 c222 c223 c224 c225 c226 c227 c228 c229 c230 c231 c232 c233 c234 c235 c236 c237 c238 c239 c240 c241 c242 c243 c244 c245 c246 c247 c248 c249 c250 c251 c252 c253 c254 c255 c256 c257 c258 c259 c260 c261 c262 c263 c264 c265 c266 c267 c268 c269 c270 c271 c272 c273 c274 c275 c276 c277 c278 c279 c280 c281 c282 c283 c284 c285 c286 c287 c288 c289 c290 c291 c292 c293 c294 c295 c296 c297 c298 c299 c300 c301 c302 c303 c304 c305 c306 c307 c308 c309 c310 c311 c312 c313 c314 c315 c316 c317 c318 c319 c320 c321 c322 c323 c324 c325 c326 c327 c328 c329 c330 c331 c332 c333 c334 c335 c336 : Value) (wb B : Nat) (bs : List UInt8) (w : World) (hBw : B ≤ wb) (hW : Hid (w.heap[wb]? = some (.cells (wcells (wsB bs (16 - 16))) 53 (0, 0)))) :
    Code.wp Tryd.prog (theLoop 4) (exQ 8 fun A' w' => ∃ (u12 u13 u115 u116 u117 u118 u119 u120 u121 u122 u123 u124 u125 u126 u127 u128 u129 u130 u131 u132 u133 u134 u135 u136 u137 u138 u139 u140 u141 u142 u143 u144 u145 u146 u147 u148 u149 u150 u151 u152 u153 u154 u155 u156 u157 u158 u159 u160 u161 u162 u163 u164 u165 u166 u167 u168 u169 u170 u171 u172 u173 u174 u175 u176 : Value), Below B w w' ∧ w'.heap[wb]? = some (.cells (wcells (wsB bs 48)) 53 (0, 0)) ∧ A' = ⟨List.toArray (c0 :: c1 :: c2 :: c3 :: c4 :: c5 :: c6 :: c7 :: c8 :: .slice (some ⟨wb, 0, none⟩) 64 64 :: c10 :: .int .i64 64 :: u12 :: u13 :: c14 :: c15 :: c16 :: c17 :: c18 :: c19 :: c20 :: c21 :: c22 :: c23 :: c24 :: c25 :: c26 :: c27 :: c28 :: c29 :: c30 :: c31 :: c32 :: c33 :: c34 :: c35 :: c36 :: c37 :: c38 :: c39 :: c40 :: c41 :: c42 :: c43 :: c44 :: c45 :: c46 :: c47 :: c48 :: c49 :: c50 :: c51 :: c52 :: c53 :: c54 :: c55 :: c56 :: c57 :: c58 :: c59 :: c60 :: c61 :: c62 :: c63 :: c64 :: c65 :: c66 :: c67 :: c68 :: c69 :: c70 :: c71 :: c72 :: c73 :: c74 :: c75 :: c76 :: c77 :: c78 :: c79 :: c80 :: c81 :: c82 :: c83 :: c84 :: c85 :: c86 :: c87 :: c88 :: c89 :: c90 :: c91 :: c92 :: c93 :: c94 :: c95 :: c96 :: c97 :: c98 :: c99 :: c100 :: c101 :: c102 :: c103 :: c104 :: c105 :: c106 :: c107 :: c108 :: c109 :: c110 :: c111 :: c112 :: c113 :: c114 :: u115 :: u116 :: u117 :: u118 :: u119 :: u120 :: u121 :: u122 :: u123 :: u124 :: u125 :: u126 :: u127 :: u128 :: u129 :: u130 :: u131 :: u132 :: u133 :: u134 :: u135 :: u136 :: u137 :: u138 :: u139 :: u140 :: u141 :: u142 :: u143 :: u144 :: u145 :: u146 :: u147 :: u148 :: u149 :: u150 :: u151 :: u152 :: u153 :: u154 :: u155 :: u156 :: u157 :: u158 :: u159 :: u160 :: u161 :: u162 :: u163 :: u164 :: u165 :: u166 :: u167 :: u168 :: u169 :: u170 :: u171 :: u172 :: u173 :: u174 :: u175 :: u176 :: c177 :: c178 :: c179 :: c180 :: c181 :: c182 :: c183 :: c184 :: c185 :: c186 :: c187 :: c188 :: c189 :: c190 :: c191 :: c192 :: c193 :: c194 :: c195 :: c196 :: c197 :: c198 :: c199 :: c200 :: c201 :: c202 :: c203 :: c204 :: c205 :: c206 :: c207 :: c208 :: c209 :: c210 :: c211 :: c212 :: c213 :: c214 :: c215 :: c216 :: c217 :: c218 :: c219 :: c220 :: c221 :: c222 :: c223 :: c224 :: c225 :: c226 :: c227 :: c228 :: c229 :: c230 :: c231 :: c232 :: c233 :: c234 :: c235 :: c236 :: c237 :: c238 :: c239 :: c240 :: c241 :: c242 :: c243 :: c244 :: c245 :: c246 :: c247 :: c248 :: c249 :: c250 :: c251 :: c252 :: c253 :: c254 :: c255 :: c256 :: c257 :: c258 :: c259 :: c260 :: c261 :: c262 :: c263 :: c264 :: c265 :: c266 :: c267 :: c268 :: c269 :: c270 :: c271 :: c272 :: c273 :: c274 :: c275 :: c276 :: c277 :: c278 :: c279 :: c280 :: c281 :: c282 :: c283 :: c284 :: c285 :: c286 :: c287 :: c288 :: c289 :: c290 :: c291 :: c292 :: c293 :: c294 :: c295 :: c296 :: c297 :: c298 :: c299 :: c300 :: c301 :: c302 :: c303 :: c304 :: c305 :: c306 :: c307 :: c308 :: c309 :: c310 :: c311 :: c312 :: c313 :: c314 :: c315 :: c316 :: c317 :: c318 :: c319 :: c320 :: c321 :: c322 :: c323 :: c324 :: c325 :: c326 :: c327 :: c328 :: c329 :: c330 :: c331 :: c332 :: c333 :: c334 :: c335 :: c336 :: []), []⟩) ⟨List.toArray (c0 :: c1 :: c2 :: c3 :: c4 :: c5 :: c6 :: c7 :: c8 :: .slice (some ⟨wb, 0, none⟩) 64 64 :: c10 :: .int .i64 16 :: c12 :: c13 :: c14 :: c15 :: c16 :: c17 :: c18 :: c19 :: c20 :: c21 :: c22 :: c23 :: c24 :: c25 :: c26 :: c27 :: c28 :: c29 :: c30 :: c31 :: c32 :: c33 :: c34 :: c35 :: c36 :: c37 :: c38 :: c39 :: c40 :: c41 :: c42 :: c43 :: c44 :: c45 :: c46 :: c47 :: c48 :: c49 :: c50 :: c51 :: c52 :: c53 :: c54 :: c55 :: c56 :: c57 :: c58 :: c59 :: c60 :: c61 :: c62 :: c63 :: c64 :: c65 :: c66 :: c67 :: c68 :: c69 :: c70 :: c71 :: c72 :: c73 :: c74 :: c75 :: c76 :: c77 :: c78 :: c79 :: c80 :: c81 :: c82 :: c83 :: c84 :: c85 :: c86 :: c87 :: c88 :: c89 :: c90 :: c91 :: c92 :: c93 :: c94 :: c95 :: c96 :: c97 :: c98 :: c99 :: c100 :: c101 :: c102 :: c103 :: c104 :: c105 :: c106 :: c107 :: c108 :: c109 :: c110 :: c111 :: c112 :: c113 :: c114 :: c115 :: c116 :: c117 :: c118 :: c119 :: c120 :: c121 :: c122 :: c123 :: c124 :: c125 :: c126 :: c127 :: c128 :: c129 :: c130 :: c131 :: c132 :: c133 :: c134 :: c135 :: c136 :: c137 :: c138 :: c139 :: c140 :: c141 :: c142 :: c143 :: c144 :: c145 :: c146 :: c147 :: c148 :: c149 :: c150 :: c151 :: c152 :: c153 :: c154 :: c155 :: c156 :: c157 :: c158 :: c159 :: c160 :: c161 :: c162 :: c163 :: c164 :: c165 :: c166 :: c167 :: c168 :: c169 :: c170 :: c171 :: c172 :: c173 :: c174 :: c175 :: c176 :: c177 :: c178 :: c179 :: c180 :: c181 :: c182 :: c183 :: c184 :: c185 :: c186 :: c187 :: c188 :: c189 :: c190 :: c191 :: c192 :: c193 :: c194 :: c195 :: c196 :: c197 :: c198 :: c199 :: c200 :: c201 :: c202 :: c203 :: c204 :: c205 :: c206 :: c207 :: c208 :: c209 :: c210 :: c211 :: c212 :: c213 :: c214 :: c215 :: c216 :: c217 :: c218 :: c219 :: c220 :: c221 :: c222 :: c223 :: c224 :: c225 :: c226 :: c227 :: c228 :: c229 :: c230 :: c231 :: c232 :: c233 :: c234 :: c235 :: c236 :: c237 :: c238 :: c239 :: c240 :: c241 :: c242 :: c243 :: c244 :: c245 :: c246 :: c247 :: c248 :: c249 :: c250 :: c251 :: c252 :: c253 :: c254 :: c255 :: c256 :: c257 :: c258 :: c259 :: c260 :: c261 :: c262 :: c263 :: c264 :: c265 :: c266 :: c267 :: c268 :: c269 :: c270 :: c271 :: c272 :: c273 :: c274 :: c275 :: c276 :: c277 :: c278 :: c279 :: c280 :: c281 :: c282 :: c283 :: c284 :: c285 :: c286 :: c287 :: c288 :: c289 :: c290 :: c291 :: c292 :: c293 :: c294 :: c295 :: c296 :: c297 :: c298 :: c299 :: c300 :: c301 :: c302 :: c303 :: c304 :: c305 :: c306 :: c307 :: c308 :: c309 :: c310 :: c311 :: c312 :: c313 :: c314 :: c315 :: c316 :: c317 :: c318 :: c319 :: c320 :: c321 :: c322 :: c323 :: c324 :: c325 :: c326 :: c327 :: c328 :: c329 :: c330 :: c331 :: c332 :: c333 :: c334 :: c335 :: c336 :: []), []⟩ w := by
  conv => arg 2; whnf
  go_loopw [11] (fun i wr => ∃ k : Nat, 16 ≤ k ∧ k ≤ 64 ∧ i = .int .i64 k ∧ Hid (Below B w wr) ∧ Hid (wr.heap[wb]? = some (.cells (wcells (wsB bs (k - 16))) 53 (0, 0)))) (fun i _ => 64 - (intOf i).toNat)
  case atStart => exact ⟨16, by omega, by omega, rfl, Below.refl _ _, hW⟩
  case round =>
    clear hW
    obtain ⟨k, hk0, hk, rfl, hb9, hg9⟩ := hrel
    by_cases hk64 : k < 64
    · have hl := wsB_len bs (k - 16)
      have hgl : wb < wr.heap.size := (Array.getElem?_eq_some_iff.1 hg9.out).1
      obtain ⟨ws, hws⟩ : ∃ ws, wsB bs (k - 16) = ws := ⟨_, rfl⟩
      rw [hws] at hg9 hl
      have HWS := hidden hws
      clear hws
      have hall : ∀ W : World, Below wr.heap.size wr W → ∀ i, i < 64 → W.cell? ⟨wb, i, none⟩ = some (.int .u32 (wv (ws.getD i 0))) := fun W hW i hi => (cell_of_row W _ i _ _ _ ((hW.block _ hgl).trans hg9.out)).trans (wcells_get _ _ (by omega))
      have HALL := hidden hall
      clear hall
      have c15 := HALL.out wr (Below.refl _ _) (k - 15) (by omega)
      have hnx := nextW_ref ws k
      generalize ws.getD (k - 15) 0 = w15 at c15 hnx HALL
      have s0 : bits .xor .u32 (bits .xor .u32 (wv (rotr w15 7)) (wv (rotr w15 18))) (wv w15 / 8) = wv (sig0 w15) := by rw [w_shr' w15 3 8 rfl, w_xor, w_xor]; rfl
      have HNW := hidden hnx
      clear hnx
      go_wp2
      have hT7 := hidden (fun W => turn_at w15 7 7 rfl (by omega) (by omega) W)
      have hT18 := hidden (fun W => turn_at w15 18 18 rfl (by omega) (by omega) W)
      go_quiet (first | (go_at_call 23; with_reducible exact Calls.quiet_of_same (hT7.out _)) | (go_at_call 23; with_reducible exact Calls.quiet_of_same (hT18.out _)))
      clear hT7 hT18
      have hbA := below_drewN (Below.refl wr.heap.size wr) nq
      generalize wr.drewN nq = wA at hbA ⊢
      have c2 := HALL.out wA hbA (k - 2) (by omega)
      generalize e2 : ws.getD (k - 2) 0 = w2 at c2
      have E2 := hidden e2
      have s1 : bits .xor .u32 (bits .xor .u32 (wv (rotr w2 17)) (wv (rotr w2 19))) (wv w2 / 1024) = wv (sig1 w2) := by rw [w_shr' w2 10 1024 rfl, w_xor, w_xor]; rfl
      clear c15 s0 e2
      go_wp2
      have hT17 := hidden (fun W => turn_at w2 17 17 rfl (by omega) (by omega) W)
      have hT19 := hidden (fun W => turn_at w2 19 19 rfl (by omega) (by omega) W)
      go_quiet (first | (go_at_call 23; with_reducible exact Calls.quiet_of_same (hT17.out _)) | (go_at_call 23; with_reducible exact Calls.quiet_of_same (hT19.out _)))
      clear hT17 hT19
      have hbB := below_drewN hbA nq
      generalize wA.drewN nq = wB at hbB ⊢
      have c16 := HALL.out wB hbB (k - 16) (by omega)
      have c7 := HALL.out wB hbB (k - 7) (by omega)
      have cc := HALL.out wB hbB k (by omega)
      have hgB := (hbB.block _ hgl).trans hg9.out
      have hfr := frozen_of_row wB wb k _ _ hgB
      generalize e16 : ws.getD (k - 16) 0 = w16 at c16
      generalize e7 : ws.getD (k - 7) 0 = w7' at c7
      generalize ws.getD k 0 = old at cc
      have HGB := hidden hgB
      have HBB := hidden hbB
      have E16 := hidden e16
      have E7 := hidden e7
      clear c2 s1 hbA hbB hgB e16 e7
      go_wp2
      go_region
      rw [w_add4 w16 (sig0 w15) w7' (sig1 w2)]
      go_wp2
      go_roundw
      case rel =>
        refine ⟨k + 1, by omega, by omega, by go_num, hidden (((hb9.out.trans (HBB.out.mono (by omega))).setCell hBw _).drew), ?_⟩
        refine hidden ((heap_setCell_same wB wb k _ _ _ HGB.out).trans ?_)
        have hn := HNW.out
        rw [E16.out, E7.out, E2.out] at hn
        rw [hn, wcells_set, show k + 1 - 16 = (k - 16) + 1 by omega, ← HWS.out]
        simp only [wsB, show k - 16 + 16 = k by omega]
      case measure => simp [intOf]; omega
    · have h64 : k = 64 := by omega
      subst h64
      go_wp2
      exact ⟨rfl, _, _, _, _, _, _, _, _, _, _, _, _, _, _, _, _, _, _, _, _, _, _, _, _, _, _, _, _, _, _, _, _, _, _, _, _, _, _, _, _, _, _, _, _, _, _, _, _, _, _, _, _, _, _, _, _, _, _, _, _, _, _, _, _, hb9.out, hg9.out, rfl⟩
end Go.Proofs.YtffmldplchlnpaaDoor
