/- The reference's Sum, loop 6. Conditions: as it states. -/
import Derived.Test.YtffmldplchlnpaaDoorRefLoops
namespace Go.Proofs.YtffmldplchlnpaaDoor
open Go.RowKit

set_option maxRecDepth 1000000 in
set_option maxHeartbeats 6400000 in
theorem loop6 (c0 c1 c2 c4 c5 c6 c7 c8 c10 c11 c12 c13 c16 c17 c18 c19 c20 c21 c22 c23 c24 c25 c26 c27 c28 c29 c30 c31 c32 c33 c34 c35 c36 c37 c38 c39 c40 c41 c42 c43 c44 c45 c46 c47 c48 c49 c50 c51 c52 c53 c54 c55 c56 c57 c58 c59 c60 c61 c62 c63 c64 c65 c66 c67 c68 c69 c70 c71 c72 c73 c74 c75 c76 c77 c78 c79 c80 c81 c82 c83 c84 c85 c86 c87 c88 c89 c90 c91 c92 c93 c94 c95 c96 c97 c98 c99 c100 c101 c102 c103 c104 c105 c106 c107 c108 c109 c110 c111 c112 c113 c114 c115 c116 c117 c118 c119 c120 c121 c122 c123 c124 c125 c126 c127 c128 c129 c130 c131 c132 c133 c134 c135 c136 c137 c138 c139 c140 c141 c142 c143 c144 c145 c146 c147 c148 c149 c150 c151 c152 c153 c154 c155 c156 c157 c158 c159 c160 c161 c162 c163 c164 c165 c166 c167 c168 c169 c170 c171 c172 c173 c174 c175 c176 c177 c178 c179 c180 c181 c182 c183 c184 c185 c186 c187 c188 c189 c190 c191 c192 c193 c194 c195 c196 c197 c198 c199 c200 c201 c202 c203 c204 c205 c206 c207 c208 c209 c210 c211 c212 c213 c214 c215 c216 c217 c218 c219 c220 c221 c222 c223 c224 c225 c226 c227 c228 c229 c230 c231 c232 c233 c234 c235 c236 c237 c238 c239 c240 c241 c242 c243 c244 c245 c246 c247 c248 c249 c250 c251 c252 c253 c254 c255 c256 c257 c258 c259 c260 c261 c262 c263 c264 c265 c266 c267 c268 c269 c270 c271 c272 c273 c274 c275 c276 c277 c278 c279 c280 c281 c282 c283 c284 c285 c286 c287 c288 c289 c290 c291 c292 c293 c294 c295 c296 c297 c298 c299 c300 c301 c302 c303 c304 c305 c306 c307 c308 c309 c310 c311 c312 c313 c314 c315 c316 c317 c318 c319 c320 c321 c322 c323 c324 c325 c326 c327 c328 c329 c330 c331 c332 c333 c334 c335 c336 : Value) (kb wb g0 cap0 B : Nat) (ws : List W32) (V0 : V8) (w : World) (hwl : ws.length = 64) (hc0 : 8 ≤ cap0) (hg0 : B ≤ g0) (_hBs : B ≤ w.heap.size) (hkb : kb < w.heap.size) (hwb : wb < w.heap.size) (HK : Hid (w.heap[kb]? = some (.cells (wcells kTab) 53 (0, 0)))) (HW : Hid (w.heap[wb]? = some (.cells (wcells ws) 53 (0, 0)))) (HV0 : Hid (VAt w g0 V0)) :
    Code.wp Tryd.prog (theLoop 5) (exQ 10 fun A' w' => ∃ (u16 u17 u18 u19 u20 u180 u181 u182 u183 u184 u185 u186 u187 u188 u189 u190 u191 u192 u193 u194 u195 u196 u197 u198 u199 u200 u201 u202 u203 u204 u205 u206 u207 u208 u209 u210 u211 u212 u213 u214 u215 u216 u217 u218 u219 u220 u221 u222 u223 u224 u225 u226 u227 u228 u229 u230 u231 u232 u233 u234 u235 u236 u237 u238 u239 u240 u241 u242 u243 u244 u245 u246 u247 u248 u249 u250 u251 u252 u253 u254 u255 u256 u257 u258 u259 u260 u261 u262 u263 u264 u265 u266 u267 u268 u269 u270 u271 u272 u273 u274 u275 u276 u277 u278 u279 u280 u281 u282 u283 u284 u285 u286 u287 u288 u289 u290 u291 u292 u293 u294 u295 u296 : Value) (g cap : Nat) (V : V8), B ≤ g ∧ 8 ≤ cap ∧ V = rnds ws V0 64 ∧ VAt w' g V ∧ Below w.heap.size w w' ∧ A' = ⟨List.toArray (c0 :: c1 :: c2 :: .slice (some ⟨kb, 0, none⟩) 64 64 :: c4 :: c5 :: c6 :: c7 :: c8 :: .slice (some ⟨wb, 0, none⟩) 64 64 :: c10 :: c11 :: c12 :: c13 :: .slice (some ⟨g, 0, none⟩) 8 cap :: .int .i64 64 :: u16 :: u17 :: u18 :: u19 :: u20 :: c21 :: c22 :: c23 :: c24 :: c25 :: c26 :: c27 :: c28 :: c29 :: c30 :: c31 :: c32 :: c33 :: c34 :: c35 :: c36 :: c37 :: c38 :: c39 :: c40 :: c41 :: c42 :: c43 :: c44 :: c45 :: c46 :: c47 :: c48 :: c49 :: c50 :: c51 :: c52 :: c53 :: c54 :: c55 :: c56 :: c57 :: c58 :: c59 :: c60 :: c61 :: c62 :: c63 :: c64 :: c65 :: c66 :: c67 :: c68 :: c69 :: c70 :: c71 :: c72 :: c73 :: c74 :: c75 :: c76 :: c77 :: c78 :: c79 :: c80 :: c81 :: c82 :: c83 :: c84 :: c85 :: c86 :: c87 :: c88 :: c89 :: c90 :: c91 :: c92 :: c93 :: c94 :: c95 :: c96 :: c97 :: c98 :: c99 :: c100 :: c101 :: c102 :: c103 :: c104 :: c105 :: c106 :: c107 :: c108 :: c109 :: c110 :: c111 :: c112 :: c113 :: c114 :: c115 :: c116 :: c117 :: c118 :: c119 :: c120 :: c121 :: c122 :: c123 :: c124 :: c125 :: c126 :: c127 :: c128 :: c129 :: c130 :: c131 :: c132 :: c133 :: c134 :: c135 :: c136 :: c137 :: c138 :: c139 :: c140 :: c141 :: c142 :: c143 :: c144 :: c145 :: c146 :: c147 :: c148 :: c149 :: c150 :: c151 :: c152 :: c153 :: c154 :: c155 :: c156 :: c157 :: c158 :: c159 :: c160 :: c161 :: c162 :: c163 :: c164 :: c165 :: c166 :: c167 :: c168 :: c169 :: c170 :: c171 :: c172 :: c173 :: c174 :: c175 :: c176 :: c177 :: c178 :: c179 :: u180 :: u181 :: u182 :: u183 :: u184 :: u185 :: u186 :: u187 :: u188 :: u189 :: u190 :: u191 :: u192 :: u193 :: u194 :: u195 :: u196 :: u197 :: u198 :: u199 :: u200 :: u201 :: u202 :: u203 :: u204 :: u205 :: u206 :: u207 :: u208 :: u209 :: u210 :: u211 :: u212 :: u213 :: u214 :: u215 :: u216 :: u217 :: u218 :: u219 :: u220 :: u221 :: u222 :: u223 :: u224 :: u225 :: u226 :: u227 :: u228 :: u229 :: u230 :: u231 :: u232 :: u233 :: u234 :: u235 :: u236 :: u237 :: u238 :: u239 :: u240 :: u241 :: u242 :: u243 :: u244 :: u245 :: u246 :: u247 :: u248 :: u249 :: u250 :: u251 :: u252 :: u253 :: u254 :: u255 :: u256 :: u257 :: u258 :: u259 :: u260 :: u261 :: u262 :: u263 :: u264 :: u265 :: u266 :: u267 :: u268 :: u269 :: u270 :: u271 :: u272 :: u273 :: u274 :: u275 :: u276 :: u277 :: u278 :: u279 :: u280 :: u281 :: u282 :: u283 :: u284 :: u285 :: u286 :: u287 :: u288 :: u289 :: u290 :: u291 :: u292 :: u293 :: u294 :: u295 :: u296 :: c297 :: c298 :: c299 :: c300 :: c301 :: c302 :: c303 :: c304 :: c305 :: c306 :: c307 :: c308 :: c309 :: c310 :: c311 :: c312 :: c313 :: c314 :: c315 :: c316 :: c317 :: c318 :: c319 :: c320 :: c321 :: c322 :: c323 :: c324 :: c325 :: c326 :: c327 :: c328 :: c329 :: c330 :: c331 :: c332 :: c333 :: c334 :: c335 :: c336 :: []), []⟩) ⟨List.toArray (c0 :: c1 :: c2 :: .slice (some ⟨kb, 0, none⟩) 64 64 :: c4 :: c5 :: c6 :: c7 :: c8 :: .slice (some ⟨wb, 0, none⟩) 64 64 :: c10 :: c11 :: c12 :: c13 :: .slice (some ⟨g0, 0, none⟩) 8 cap0 :: .int .i64 0 :: c16 :: c17 :: c18 :: c19 :: c20 :: c21 :: c22 :: c23 :: c24 :: c25 :: c26 :: c27 :: c28 :: c29 :: c30 :: c31 :: c32 :: c33 :: c34 :: c35 :: c36 :: c37 :: c38 :: c39 :: c40 :: c41 :: c42 :: c43 :: c44 :: c45 :: c46 :: c47 :: c48 :: c49 :: c50 :: c51 :: c52 :: c53 :: c54 :: c55 :: c56 :: c57 :: c58 :: c59 :: c60 :: c61 :: c62 :: c63 :: c64 :: c65 :: c66 :: c67 :: c68 :: c69 :: c70 :: c71 :: c72 :: c73 :: c74 :: c75 :: c76 :: c77 :: c78 :: c79 :: c80 :: c81 :: c82 :: c83 :: c84 :: c85 :: c86 :: c87 :: c88 :: c89 :: c90 :: c91 :: c92 :: c93 :: c94 :: c95 :: c96 :: c97 :: c98 :: c99 :: c100 :: c101 :: c102 :: c103 :: c104 :: c105 :: c106 :: c107 :: c108 :: c109 :: c110 :: c111 :: c112 :: c113 :: c114 :: c115 :: c116 :: c117 :: c118 :: c119 :: c120 :: c121 :: c122 :: c123 :: c124 :: c125 :: c126 :: c127 :: c128 :: c129 :: c130 :: c131 :: c132 :: c133 :: c134 :: c135 :: c136 :: c137 :: c138 :: c139 :: c140 :: c141 :: c142 :: c143 :: c144 :: c145 :: c146 :: c147 :: c148 :: c149 :: c150 :: c151 :: c152 :: c153 :: c154 :: c155 :: c156 :: c157 :: c158 :: c159 :: c160 :: c161 :: c162 :: c163 :: c164 :: c165 :: c166 :: c167 :: c168 :: c169 :: c170 :: c171 :: c172 :: c173 :: c174 :: c175 :: c176 :: c177 :: c178 :: c179 :: c180 :: c181 :: c182 :: c183 :: c184 :: c185 :: c186 :: c187 :: c188 :: c189 :: c190 :: c191 :: c192 :: c193 :: c194 :: c195 :: c196 :: c197 :: c198 :: c199 :: c200 :: c201 :: c202 :: c203 :: c204 :: c205 :: c206 :: c207 :: c208 :: c209 :: c210 :: c211 :: c212 :: c213 :: c214 :: c215 :: c216 :: c217 :: c218 :: c219 :: c220 :: c221 :: c222 :: c223 :: c224 :: c225 :: c226 :: c227 :: c228 :: c229 :: c230 :: c231 :: c232 :: c233 :: c234 :: c235 :: c236 :: c237 :: c238 :: c239 :: c240 :: c241 :: c242 :: c243 :: c244 :: c245 :: c246 :: c247 :: c248 :: c249 :: c250 :: c251 :: c252 :: c253 :: c254 :: c255 :: c256 :: c257 :: c258 :: c259 :: c260 :: c261 :: c262 :: c263 :: c264 :: c265 :: c266 :: c267 :: c268 :: c269 :: c270 :: c271 :: c272 :: c273 :: c274 :: c275 :: c276 :: c277 :: c278 :: c279 :: c280 :: c281 :: c282 :: c283 :: c284 :: c285 :: c286 :: c287 :: c288 :: c289 :: c290 :: c291 :: c292 :: c293 :: c294 :: c295 :: c296 :: c297 :: c298 :: c299 :: c300 :: c301 :: c302 :: c303 :: c304 :: c305 :: c306 :: c307 :: c308 :: c309 :: c310 :: c311 :: c312 :: c313 :: c314 :: c315 :: c316 :: c317 :: c318 :: c319 :: c320 :: c321 :: c322 :: c323 :: c324 :: c325 :: c326 :: c327 :: c328 :: c329 :: c330 :: c331 :: c332 :: c333 :: c334 :: c335 :: c336 :: []), []⟩ w := by
  conv => arg 2; whnf
  go_loopw [14, 15] (fun v i wr => ∃ (j g cap : Nat) (V : V8), j ≤ 64 ∧ i = .int .i64 j ∧ v = .slice (some ⟨g, 0, none⟩) 8 cap ∧ 8 ≤ cap ∧ B ≤ g ∧ Hid (V = rnds ws V0 j) ∧ Hid (VAt wr g V) ∧ Hid (Below w.heap.size w wr)) (fun _ i _ => 64 - (intOf i).toNat)
  case atStart => exact ⟨0, g0, cap0, V0, Nat.zero_le _, rfl, rfl, hc0, hg0, rfl, HV0, Below.refl _ _⟩
  case round =>
    clear HV0 hg0 hc0
    obtain ⟨j, g, cap, V, hj, rfl, rfl, hcap, hg8, hVe, hV, hb9⟩ := hrel
    by_cases hj64 : j < 64
    · obtain ⟨c0, c1, c2, c3, c4, c5, c6, c7, hlt⟩ := hV.out
      have hkt : ∀ W, Below wr.heap.size wr W → W.cell? ⟨kb, j, none⟩ = some (.int .u32 (wv (kTab.getD j 0))) := fun W hW => (cell_of_row W _ j _ _ (0, 0) ((hW.block _ (by have := hb9.out.size; omega)).trans ((hb9.out.block _ hkb).trans HK.out))).trans (wcells_get _ _ (by rw [show kTab.length = 64 from rfl]; omega))
      have hwt : ∀ W, Below wr.heap.size wr W → W.cell? ⟨wb, j, none⟩ = some (.int .u32 (wv (ws.getD j 0))) := fun W hW => (cell_of_row W _ j _ _ (0, 0) ((hW.block _ (by have := hb9.out.size; omega)).trans ((hb9.out.block _ hwb).trans HW.out))).trans (wcells_get _ _ (by omega))
      generalize eK : kTab.getD j 0 = kt at hkt
      generalize eW : ws.getD j 0 = wt at hwt
      have HKT := hidden hkt
      have HWT := hidden hwt
      have EK := hidden eK
      have EW := hidden eW
      have hV' := hV
      clear hkt hwt eK eW c0 c1 c2 c3 c5 c6 c7
      have l1 : bits .xor .u32 (bits .xor .u32 (wv (rotr V.e 6)) (wv (rotr V.e 11))) (wv (rotr V.e 25)) = wv (sum1 V.e) := by rw [w_xor, w_xor]; rfl
      go_wp2
      have hT6 := hidden (fun W => turn_at V.e 6 6 rfl (by omega) (by omega) W)
      have hT11 := hidden (fun W => turn_at V.e 11 11 rfl (by omega) (by omega) W)
      have hT25 := hidden (fun W => turn_at V.e 25 25 rfl (by omega) (by omega) W)
      go_quiet (first | (go_at_call 23; with_reducible exact Calls.quiet_of_same (hT6.out _)) | (go_at_call 23; with_reducible exact Calls.quiet_of_same (hT11.out _)) | (go_at_call 23; with_reducible exact Calls.quiet_of_same (hT25.out _)))
      clear hT6 hT11 hT25
      have hbA := below_drewN (Below.refl wr.heap.size wr) nq
      generalize wr.drewN nq = wA at hbA ⊢
      clear c4 l1
      obtain ⟨c0, c1, c2, c3, c4, c5, c6, c7, _⟩ := hV.out.below hbA
      have lc : bits .xor .u32 (bits .and .u32 (wv V.e) (wv V.f)) (bits .and .u32 (bits .xor .u32 IntKind.u32.max (wv V.e)) (wv V.g)) = wv (cho V.e V.f V.g) := by rw [w_not, w_and, w_and, w_xor]; rfl
      clear c0 c1 c2 c3 c7
      go_wp2
      go_quiet (fail)
      have hbB := below_drewN hbA nq
      generalize wA.drewN nq = wB at hbB ⊢
      rw [if_neg (show ¬ (IntKind.u32.signed = true) by decide), lc]
      clear c4 c5 c6 lc hbA
      obtain ⟨c0, c1, c2, c3, c4, c5, c6, c7, _⟩ := hV.out.below hbB
      have ck := HKT.out wB hbB
      have cw := HWT.out wB hbB
      have l2 := w_add5 V.h (sum1 V.e) (cho V.e V.f V.g) kt wt
      rw [show V.h + sum1 V.e + cho V.e V.f V.g + kt + wt = tee kt wt V from rfl] at l2
      generalize eT : tee kt wt V = T1 at l2
      have ET := hidden eT
      clear c0 c1 c2 c3 c4 c5 c6 eT
      go_wp2
      go_quiet (fail)
      have hbC := below_drewN hbB nq
      generalize wB.drewN nq = wC at hbC ⊢
      rw [show ((wv V.h + wv (sum1 V.e) + wv (cho V.e V.f V.g) + wv kt) % 4294967296 + wv wt) % 4294967296 = wv T1 from by have := l2; omega]
      clear c7 ck cw l2 hbB
      obtain ⟨c0, c1, c2, c3, c4, c5, c6, c7, _⟩ := hV.out.below hbC
      have l0 : bits .xor .u32 (bits .xor .u32 (wv (rotr V.a 2)) (wv (rotr V.a 13))) (wv (rotr V.a 22)) = wv (sum0 V.a) := by rw [w_xor, w_xor]; rfl
      clear c1 c2 c3 c4 c5 c6 c7
      go_wp2
      have hT2 := hidden (fun W => turn_at V.a 2 2 rfl (by omega) (by omega) W)
      have hT13 := hidden (fun W => turn_at V.a 13 13 rfl (by omega) (by omega) W)
      have hT22 := hidden (fun W => turn_at V.a 22 22 rfl (by omega) (by omega) W)
      go_quiet (first | (go_at_call 23; with_reducible exact Calls.quiet_of_same (hT2.out _)) | (go_at_call 23; with_reducible exact Calls.quiet_of_same (hT13.out _)) | (go_at_call 23; with_reducible exact Calls.quiet_of_same (hT22.out _)))
      clear hT2 hT13 hT22
      have hbD := below_drewN hbC nq
      generalize wC.drewN nq = wD at hbD ⊢
      clear c0 l0 hbC
      obtain ⟨c0, c1, c2, c3, c4, c5, c6, c7, _⟩ := hV.out.below hbD
      have lm' : bits .xor .u32 (bits .xor .u32 (bits .and .u32 (wv V.a) (wv V.b)) (bits .and .u32 (wv V.a) (wv V.c))) (bits .and .u32 (wv V.b) (wv V.c)) = wv (maj V.a V.b V.c) := by rw [w_and, w_and, w_and, w_xor, w_xor]; rfl
      clear c3 c4 c5 c6 c7
      go_wp2
      go_quiet (fail)
      have hbE := below_drewN hbD nq
      generalize wD.drewN nq = wE at hbE ⊢
      clear c0 c1 c2 lm' hbD
      obtain ⟨c0, c1, c2, c3, c4, c5, c6, c7, _⟩ := hV.out.below hbE
      generalize eU : sum0 V.a = U1 at *
      generalize eM : maj V.a V.b V.c = U2 at *
      have l3 := w_add3 T1 U1 U2
      have l5 := w_add' V.d T1
      have EU := hidden eU
      have EM := hidden eM
      have HBE := hidden hbE
      have hsE := hbE.size
      clear c7 eU eM hbE
      go_wp2
      go_still_tail 28, (by kernel_rfl)
      change wpList _ _ _ _ _ wE.drew
      have hF := HBE.out.drew
      generalize wE.drew = wF at hF ⊢
      have HF := hidden hF
      clear hF hsE c0 c1 c2 c3 c4 c5 c6
      go_wp2
      have hA := hidden (VAt_made wF 53 (T1 + U1 + U2) V.a V.b V.c (V.d + T1) V.e V.f V.g)
      have hB := hidden ((hb9.out.trans (HF.out.mono hb9.out.size)).alloc (by have := hb9.out.size; have := HF.out.size; omega) (.cells #[.int .u32 (wv (T1 + U1 + U2)), .int .u32 (wv V.a), .int .u32 (wv V.b), .int .u32 (wv V.c), .int .u32 (wv (V.d + T1)), .int .u32 (wv V.e), .int .u32 (wv V.f), .int .u32 (wv V.g)] 53))
      have hR : Hid ((⟨T1 + U1 + U2, V.a, V.b, V.c, V.d + T1, V.e, V.f, V.g⟩ : V8) = rnds ws V0 (j + 1)) := hidden (by rw [rnds, ← hVe.out, EK.out, EW.out, rnd, ET.out, EU.out, EM.out, BitVec.add_assoc])
      have hsF : B ≤ wF.heap.size := by have := hb9.out.size; have := HF.out.size; omega
      go_roundw
      case rel => exact ⟨j + 1, wF.heap.size, 8, _, by omega, by go_num, rfl, by omega, hsF, hR, hA, hB⟩
      case measure => simp [intOf]; omega
    · have h64 : j = 64 := by omega
      subst h64
      go_wp2
      exact ⟨rfl, _, _, _, _, _, _, _, _, _, _, _, _, _, _, _, _, _, _, _, _, _, _, _, _, _, _, _, _, _, _, _, _, _, _, _, _, _, _, _, _, _, _, _, _, _, _, _, _, _, _, _, _, _, _, _, _, _, _, _, _, _, _, _, _, _, _, _, _, _, _, _, _, _, _, _, _, _, _, _, _, _, _, _, _, _, _, _, _, _, _, _, _, _, _, _, _, _, _, _, _, _, _, _, _, _, _, _, _, _, _, _, _, _, _, _, _, _, _, _, _, _, _, g, cap, V, hg8, hcap, hVe.out, hV.out, hb9.out, rfl⟩
end Go.Proofs.YtffmldplchlnpaaDoor
