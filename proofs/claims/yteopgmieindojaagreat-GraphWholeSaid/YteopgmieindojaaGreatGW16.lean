/-
  Parts of a proof.
-/
import Derived.Test.YteopgmieindojaaGreatGW14
import Derived.OwnWalk
import Derived.Test.YteopgmieindojaaGreatGW01
import Derived.Test.YteopgmieindojaaGreatGW15
import Derived.Test.YteopgmieindojaaGreatGW11
import Derived.Test.YteopgmieindojaaGreatGW06
import Derived.Deep.QuietTactic
import Derived.BigQuiet
import Derived.Deep.DeepCutAuto
import Derived.Deep.RegionHeld
import Derived.Laws.OwnMore
import Derived.Test.YteopgmieindojaaGreatMem
import Derived.Lib.BytesEntry
import Derived.Laws.Externs
namespace Go.Proofs.YteopgmieindojaaGreat
open Go.RowKit
def onlyN (K : Act → World → Prop) : Exit → Act → World → Prop
 | .normal, a, w => K a w
 | _, _, _ => False
theorem wp_onlyN {P : Program} {c : Code} {Q : Exit → Act → World → Prop} {a : Act} {w : World} (h : c.wp P (onlyN (Q .normal)) a w) : c.wp P Q a w :=
 wp_mono h fun e a w h => by cases e <;> first | exact h | exact h.elim
set_option maxRecDepth 1000000 in
set_option maxHeartbeats 4000000 in
theorem rg10 (g3 i nn c0 b off cd ce : Nat) (pd pe : Option Addr) (y : NodeD) (w : World) (Q : Exit → Act → World → Prop) (v0 v1 v2 v3 v4 v5 v7 v9 v10 v11 v12 v13 v14 v15 v16 v17 : Value) (R : List Value) (hR : R.length = 442)
  (y0 : w.cell? ⟨g3, 0, none⟩ = some (.slice (some ⟨b, off, none⟩) nn c0)) (hi : (i : Int) < (nn : Int)) (E0 : w.cell? ⟨b, off + i * 14, none⟩ = some (.int .i64 y.obj)) (E1 : w.cell? ⟨b, off + i * 14 + 1, none⟩ = some (.int .i64 y.sec)) (E2 : w.cell? ⟨b, off + i * 14 + 2, none⟩ = some (.int .i64 y.pos)) (E3 : w.cell? ⟨b, off + i * 14 + 3, none⟩ = some (.string y.name)) (E4 : w.cell? ⟨b, off + i * 14 + 4, none⟩ = some (.int .i64 y.type)) (E5 : w.cell? ⟨b, off + i * 14 + 5, none⟩ = some (.int .i64 y.flags)) (E6 : w.cell? ⟨b, off + i * 14 + 6, none⟩ = some (.int .i64 y.align)) (E7 : w.cell? ⟨b, off + i * 14 + 7, none⟩ = some (.int .i64 y.ent)) (E8 : w.cell? ⟨b, off + i * 14 + 8, none⟩ = some (.int .i64 y.size)) (E9 : w.cell? ⟨b, off + i * 14 + 9, none⟩ = some (.slice pd y.data.length cd)) (E10 : w.cell? ⟨b, off + i * 14 + 10, none⟩ = some (.slice pe y.edges.length ce)) (E11 : w.cell? ⟨b, off + i * 14 + 11, none⟩ = some (.bool y.unique)) (E12 : w.cell? ⟨b, off + i * 14 + 12, none⟩ = some (.int .i64 y.group)) (E13 : w.cell? ⟨b, off + i * 14 + 13, none⟩ = some (.int .i64 y.link))
  (hQ : ∀ R' : List Value, R'.length = 442 → Q .normal ⟨(List.toArray (v0 :: v1 :: v2 :: v3 :: v4 :: v5 :: .pointer (some ⟨g3, 0, none⟩) :: v7 :: .int .i64 (i : Int) :: .pointer (some ⟨w.heap.size, 0, none⟩) :: v10 :: v11 :: v12 :: v13 :: v14 :: v15 :: v16 :: v17 :: R')), []⟩ (w.alloc (.cells (nodeA y pd cd pe ce) 86))) :
  Code.wp Tryz.prog (wReg 10) Q ⟨(List.toArray (v0 :: v1 :: v2 :: v3 :: v4 :: v5 :: .pointer (some ⟨g3, 0, none⟩) :: v7 :: .int .i64 (i : Int) :: v9 :: v10 :: v11 :: v12 :: v13 :: v14 :: v15 :: v16 :: v17 :: R)), []⟩ w := by
 rw [open442 R hR]
 have HQ := Lib.hid hQ
 clear hQ
 conv => arg 2; whnf
 have hj0 : (0 : Int) ≤ (i : Int) := by omega
 go_wp2_with fail
 exact HQ.out _ rfl
set_option maxRecDepth 1000000 in
set_option maxHeartbeats 4000000 in
theorem rg11 (gx ln c a k : Nat) (p : Option Addr) (w : World) (Q : Exit → Act → World → Prop) (v1 v2 v3 v4 v5 v6 v7 v8 v10 v11 v12 v13 v14 v15 v16 v17 : Value) (R : List Value) (hR : R.length = 442)
  (d0 : w.cell? ⟨gx, 0, none⟩ = some (.int .i64 (a : Int))) (d1 : w.cell? ⟨gx, 1, none⟩ = some (.int .i64 ((k : Int) + 1))) (ja : (a : Int) < (ln : Int))
  (hQ : ∀ R' : List Value, R'.length = 442 → restAt R' 46 = .bool false → Q .normal ⟨(List.toArray (.slice p ln c :: v1 :: v2 :: v3 :: v4 :: v5 :: v6 :: v7 :: v8 :: .pointer (some ⟨gx, 0, none⟩) :: v10 :: v11 :: v12 :: v13 :: v14 :: v15 :: v16 :: v17 :: R')), []⟩ w) :
  Code.wp Tryz.prog (wReg 11) Q ⟨(List.toArray (.slice p ln c :: v1 :: v2 :: v3 :: v4 :: v5 :: v6 :: v7 :: v8 :: .pointer (some ⟨gx, 0, none⟩) :: v10 :: v11 :: v12 :: v13 :: v14 :: v15 :: v16 :: v17 :: R)), []⟩ w := by
 rw [open442 R hR]
 have HQ := Lib.hid hQ
 clear hQ
 conv => arg 2; whnf
 have ja0 : (0 : Int) ≤ (a : Int) := by omega
 have ja1 : ¬ (a : Int) < 0 := by omega
 have ja2 : ¬ (ln : Int) ≤ (a : Int) := by omega
 have jk : ¬ (k : Int) + 1 < 1 := by omega
 go_wp2_with fail
 exact HQ.out _ rfl rfl
set_option maxRecDepth 1000000 in
set_option maxHeartbeats 4000000 in
theorem rg15 (gx bo oo ln c a k bs os sn cs cq cr : Nat) (qd qr : Option Addr) (s : SecD) (w : World) (Q : Exit → Act → World → Prop) (v1 v2 v3 v4 v5 v6 v7 v8 v10 v11 v12 v13 v14 v15 v16 v17 : Value) (R : List Value) (hR : R.length = 442)
  (t0 : w.cell? ⟨gx, 0, none⟩ = some (.int .i64 (a : Int))) (t1 : w.cell? ⟨gx, 1, none⟩ = some (.int .i64 ((k : Int) + 1))) (tO : w.cell? ⟨bo, oo + a * 5, none⟩ = some (.slice (some ⟨bs, os, none⟩) sn cs)) (S0 : w.cell? ⟨bs, os + k * 9, none⟩ = some (.string s.name)) (S1 : w.cell? ⟨bs, os + k * 9 + 1, none⟩ = some (.int .i64 s.type)) (S2 : w.cell? ⟨bs, os + k * 9 + 2, none⟩ = some (.int .i64 s.flags)) (S3 : w.cell? ⟨bs, os + k * 9 + 3, none⟩ = some (.int .i64 s.align)) (S4 : w.cell? ⟨bs, os + k * 9 + 4, none⟩ = some (.int .i64 s.ent)) (S5 : w.cell? ⟨bs, os + k * 9 + 5, none⟩ = some (.int .i64 s.link)) (S6 : w.cell? ⟨bs, os + k * 9 + 6, none⟩ = some (.int .i64 s.size)) (S7 : w.cell? ⟨bs, os + k * 9 + 7, none⟩ = some (.slice qd s.data.length cq)) (S8 : w.cell? ⟨bs, os + k * 9 + 8, none⟩ = some (.slice qr s.rels.length cr))
  (ja : (a : Int) < (ln : Int)) (jk : (k : Int) < (sn : Int)) (hk : k ≤ maxLen)
  (hQ : ∀ (R' : List Value) (g10 : Nat) (w' : World), R'.length = 442 → w'.heap[g10]? = some (.cells (secA s qd cq qr cr) 89 (0, 0)) → Below w.heap.size w w' → Q .normal ⟨(List.toArray (.slice (some ⟨bo, oo, none⟩) ln c :: v1 :: v2 :: v3 :: v4 :: v5 :: v6 :: v7 :: v8 :: .pointer (some ⟨gx, 0, none⟩) :: .pointer (some ⟨g10, 0, none⟩) :: v11 :: v12 :: v13 :: v14 :: v15 :: v16 :: v17 :: R')), []⟩ w') :
  Code.wp Tryz.prog (wReg 15) Q ⟨(List.toArray (.slice (some ⟨bo, oo, none⟩) ln c :: v1 :: v2 :: v3 :: v4 :: v5 :: v6 :: v7 :: v8 :: .pointer (some ⟨gx, 0, none⟩) :: v10 :: v11 :: v12 :: v13 :: v14 :: v15 :: v16 :: v17 :: R)), []⟩ w := by
 rw [open442 R hR]
 have HQ := Lib.hid hQ
 clear hQ
 conv => arg 2; whnf
 have ja0 : (0 : Int) ≤ (a : Int) := by omega
 have ja1 : ¬ (a : Int) < 0 := by omega
 have jk0 : (0 : Int) ≤ (k : Int) := by omega
 have kwk : IntKind.i64.wrap ((k : Int) + 1 - 1) = (k : Int) := by rw [show (k : Int) + 1 - 1 = (k : Int) by omega]; exact IntWalk.i64_in _ (by unfold maxLen at hk; omega)
 have kwk2 : IntKind.i64.wrap (k : Int) = (k : Int) := IntWalk.i64_in _ (by unfold maxLen at hk; omega)
 clear hk
 refine wp_onlyN ?_
 go_region_held (fun W => W.cell? ⟨gx, 0, none⟩ = some (.int .i64 (a : Int)) ∧ W.cell? ⟨gx, 1, none⟩ = some (.int .i64 ((k : Int) + 1)) ∧ W.cell? ⟨bo, oo + a * 5, none⟩ = some (.slice (some ⟨bs, os, none⟩) sn cs) ∧ W.cell? ⟨bs, os + k * 9, none⟩ = some (.string s.name) ∧ W.cell? ⟨bs, os + k * 9 + 1, none⟩ = some (.int .i64 s.type) ∧ W.cell? ⟨bs, os + k * 9 + 2, none⟩ = some (.int .i64 s.flags) ∧ W.cell? ⟨bs, os + k * 9 + 3, none⟩ = some (.int .i64 s.align) ∧ W.cell? ⟨bs, os + k * 9 + 4, none⟩ = some (.int .i64 s.ent) ∧ W.cell? ⟨bs, os + k * 9 + 5, none⟩ = some (.int .i64 s.link) ∧ W.cell? ⟨bs, os + k * 9 + 6, none⟩ = some (.int .i64 s.size) ∧ W.cell? ⟨bs, os + k * 9 + 7, none⟩ = some (.slice qd s.data.length cq) ∧ W.cell? ⟨bs, os + k * 9 + 8, none⟩ = some (.slice qr s.rels.length cr)) (first | exact ⟨t0, t1, tO, S0, S1, S2, S3, S4, S5, S6, S7, S8⟩ | go_keep | fail) (fail)
 all_goals exact HQ.out _ _ _ rfl (heap_alloc_new w _) ((Below.refl _ w).alloc (Nat.le_refl _) _).drew
set_option maxRecDepth 1000000 in
set_option maxHeartbeats 4000000 in
theorem rg16 (g10 cq cr : Nat) (qd qr : Option Addr) (s : SecD) (w : World) (Q : Exit → Act → World → Prop) (v0 v1 v2 v3 v4 v5 v6 v7 v8 v9 v11 v12 v13 v14 v15 v16 v17 : Value) (R : List Value) (hR : R.length = 442)
  (hS : w.heap[g10]? = some (.cells (secA s qd cq qr cr) 89 (0, 0))) (hfb : -9223372036854775808 ≤ s.flags ∧ s.flags ≤ 9223372036854775807)
  (hQ : ∀ (R' : List Value) (w' : World), R'.length = 442 → Below w.heap.size w w' → Q .normal ⟨(List.toArray (v0 :: v1 :: v2 :: v3 :: v4 :: v5 :: v6 :: v7 :: v8 :: v9 :: .pointer (some ⟨g10, 0, none⟩) :: .bool (hasF s.flags 16) :: v12 :: v13 :: v14 :: v15 :: v16 :: v17 :: R')), []⟩ w') :
  Code.wp Tryz.prog (wReg 16) Q ⟨(List.toArray (v0 :: v1 :: v2 :: v3 :: v4 :: v5 :: v6 :: v7 :: v8 :: v9 :: .pointer (some ⟨g10, 0, none⟩) :: v11 :: v12 :: v13 :: v14 :: v15 :: v16 :: v17 :: R)), []⟩ w := by
 rw [open442 R hR]
 have HQ := Lib.hid hQ
 clear hQ
 conv => arg 2; whnf
 have z0 := node_cell hS 0 _ rfl
 have z1 := node_cell hS 1 _ rfl
 have z2 := node_cell hS 2 _ rfl
 have z3 := node_cell hS 3 _ rfl
 have z4 := node_cell hS 4 _ rfl
 have z5 := node_cell hS 5 _ rfl
 have z6 := node_cell hS 6 _ rfl
 have z7 := node_cell hS 7 _ rfl
 have z8 := node_cell hS 8 _ rfl
 have HHS := Lib.hid (has_any s.name s.type s.flags s.align s.ent s.link s.size (.slice qd s.data.length cq) (.slice qr s.rels.length cr) 16 w (by omega) (by omega) hfb)
 clear hS hfb
 go_wp2_with fail
 refine HHS.out.mono ?_
 rintro e w12 ⟨rfl, hb12⟩
 go_wp2_with fail
 exact HQ.out _ _ rfl hb12
end Go.Proofs.YteopgmieindojaaGreat

namespace Go.Proofs.YteopgmieindojaaGreat
open Go.RowKit
set_option maxRecDepth 1000000 in
set_option maxHeartbeats 8000000 in
theorem reg13 (gx bo oo ln c a k sn cs : Nat) (ps : Option Addr) (w : World) (Q : Exit → Act → World → Prop) (v1 v2 v3 v4 v5 v6 v7 v8 v10 v11 v12 v13 v14 v15 v16 v17 v18 v19 v20 v21 v22 v23 v24 v25 v26 v27 v28 v29 v30 v31 v32 v33 v34 v35 v36 v37 v38 v39 v40 v41 v42 v43 v44 v45 v46 v47 v48 v49 v50 v51 v52 v53 v54 v55 v56 v57 v58 v59 v60 v61 v62 v63 v64 v65 v66 v67 v68 v69 v70 v71 v72 v73 v74 v75 v76 v77 v78 v79 v80 v81 v82 v83 v84 v85 v86 v87 v88 v89 v90 v91 v92 v93 v94 v95 v96 v97 v98 v99 v100 v101 v102 v103 v104 v105 v106 v107 v108 v109 v110 v111 v112 v113 v114 v115 v116 v117 v118 v119 v120 v121 v122 v123 v124 v125 v126 v127 v128 v129 v130 v131 v132 v133 v134 v135 v136 v137 v138 v139 v140 v141 v142 v143 v144 v145 v146 v147 v148 v149 v150 v151 v152 v153 v154 v155 v156 v157 v158 v159 v160 v161 v162 v163 v164 v165 v166 v167 v168 v169 v170 v171 v172 v173 v174 v175 v176 v177 v178 v179 v180 v181 v182 v183 v184 v185 v186 v187 v188 v189 v190 v191 v192 v193 v194 v195 v196 v197 v198 v199 v200 v201 v202 v203 v204 v205 v206 v207 v208 v209 v210 v211 v212 v213 v214 v215 v216 v217 v218 v219 v220 v221 v222 v223 v224 v225 v226 v227 v228 v229 v230 v231 v232 v233 v234 v235 v236 v237 v238 v239 v240 v241 v242 v243 v244 v245 v246 v247 v248 v249 v250 v251 v252 v253 v254 v255 v256 v257 v258 v259 v260 v261 v262 v263 v264 v265 v266 v267 v268 v269 v270 v271 v272 v273 v274 v275 v276 v277 v278 v279 v280 v281 v282 v283 v284 v285 v286 v287 v288 v289 v290 v291 v292 v293 v294 v295 v296 v297 v298 v299 v300 v301 v302 v303 v304 v305 v306 v307 v308 v309 v310 v311 v312 v313 v314 v315 v316 v317 v318 v319 v320 v321 v322 v323 v324 v325 v326 v327 v328 v329 v330 v331 v332 v333 v334 v335 v336 v337 v338 v339 v340 v341 v342 v343 v344 v345 v346 v347 v348 v349 v350 v351 v352 v353 v354 v355 v356 v357 v358 v359 v360 v361 v362 v363 v364 v365 v366 v367 v368 v369 v370 v371 v372 v373 v374 v375 v376 v377 v378 v379 v380 v381 v382 v383 v384 v385 v386 v387 v388 v389 v390 v391 v392 v393 v394 v395 v396 v397 v398 v399 v400 v401 v402 v403 v404 v405 v406 v407 v408 v409 v410 v411 v412 v413 v414 v415 v416 v417 v418 v419 v420 v421 v422 v423 v424 v425 v426 v427 v428 v429 v430 v431 v432 v433 v434 v435 v436 v437 v438 v439 v440 v441 v442 v443 v444 v445 v446 v447 v448 v449 v450 v451 v452 v453 v454 v455 v456 v457 v458 v459 : Value)
  (d0 : w.cell? ⟨gx, 0, none⟩ = some (.int .i64 (a : Int))) (d1 : w.cell? ⟨gx, 1, none⟩ = some (.int .i64 ((k : Int) + 1))) (o0 : w.cell? ⟨bo, oo + a * 5, none⟩ = some (.slice ps sn cs)) (ja : (a : Int) < (ln : Int)) (jk : (k : Int) < (sn : Int))
  (hQ : ∀ (x65 x66 x67 x68 x69 x70 x71 x72 x73 : Value) (n : Nat), Q .normal ⟨(List.toArray (.slice (some ⟨bo, oo, none⟩) ln c :: v1 :: v2 :: v3 :: v4 :: v5 :: v6 :: v7 :: v8 :: .pointer (some ⟨gx, 0, none⟩) :: v10 :: v11 :: v12 :: v13 :: v14 :: v15 :: v16 :: v17 :: v18 :: v19 :: v20 :: v21 :: v22 :: v23 :: v24 :: v25 :: v26 :: v27 :: v28 :: v29 :: v30 :: v31 :: v32 :: v33 :: v34 :: v35 :: v36 :: v37 :: v38 :: v39 :: v40 :: v41 :: v42 :: v43 :: v44 :: v45 :: v46 :: v47 :: v48 :: v49 :: v50 :: v51 :: v52 :: v53 :: v54 :: v55 :: v56 :: v57 :: v58 :: v59 :: v60 :: v61 :: v62 :: v63 :: v64 :: x65 :: x66 :: x67 :: x68 :: x69 :: x70 :: x71 :: x72 :: x73 :: .bool false :: v75 :: v76 :: v77 :: v78 :: v79 :: v80 :: v81 :: v82 :: v83 :: v84 :: v85 :: v86 :: v87 :: v88 :: v89 :: v90 :: v91 :: v92 :: v93 :: v94 :: v95 :: v96 :: v97 :: v98 :: v99 :: v100 :: v101 :: v102 :: v103 :: v104 :: v105 :: v106 :: v107 :: v108 :: v109 :: v110 :: v111 :: v112 :: v113 :: v114 :: v115 :: v116 :: v117 :: v118 :: v119 :: v120 :: v121 :: v122 :: v123 :: v124 :: v125 :: v126 :: v127 :: v128 :: v129 :: v130 :: v131 :: v132 :: v133 :: v134 :: v135 :: v136 :: v137 :: v138 :: v139 :: v140 :: v141 :: v142 :: v143 :: v144 :: v145 :: v146 :: v147 :: v148 :: v149 :: v150 :: v151 :: v152 :: v153 :: v154 :: v155 :: v156 :: v157 :: v158 :: v159 :: v160 :: v161 :: v162 :: v163 :: v164 :: v165 :: v166 :: v167 :: v168 :: v169 :: v170 :: v171 :: v172 :: v173 :: v174 :: v175 :: v176 :: v177 :: v178 :: v179 :: v180 :: v181 :: v182 :: v183 :: v184 :: v185 :: v186 :: v187 :: v188 :: v189 :: v190 :: v191 :: v192 :: v193 :: v194 :: v195 :: v196 :: v197 :: v198 :: v199 :: v200 :: v201 :: v202 :: v203 :: v204 :: v205 :: v206 :: v207 :: v208 :: v209 :: v210 :: v211 :: v212 :: v213 :: v214 :: v215 :: v216 :: v217 :: v218 :: v219 :: v220 :: v221 :: v222 :: v223 :: v224 :: v225 :: v226 :: v227 :: v228 :: v229 :: v230 :: v231 :: v232 :: v233 :: v234 :: v235 :: v236 :: v237 :: v238 :: v239 :: v240 :: v241 :: v242 :: v243 :: v244 :: v245 :: v246 :: v247 :: v248 :: v249 :: v250 :: v251 :: v252 :: v253 :: v254 :: v255 :: v256 :: v257 :: v258 :: v259 :: v260 :: v261 :: v262 :: v263 :: v264 :: v265 :: v266 :: v267 :: v268 :: v269 :: v270 :: v271 :: v272 :: v273 :: v274 :: v275 :: v276 :: v277 :: v278 :: v279 :: v280 :: v281 :: v282 :: v283 :: v284 :: v285 :: v286 :: v287 :: v288 :: v289 :: v290 :: v291 :: v292 :: v293 :: v294 :: v295 :: v296 :: v297 :: v298 :: v299 :: v300 :: v301 :: v302 :: v303 :: v304 :: v305 :: v306 :: v307 :: v308 :: v309 :: v310 :: v311 :: v312 :: v313 :: v314 :: v315 :: v316 :: v317 :: v318 :: v319 :: v320 :: v321 :: v322 :: v323 :: v324 :: v325 :: v326 :: v327 :: v328 :: v329 :: v330 :: v331 :: v332 :: v333 :: v334 :: v335 :: v336 :: v337 :: v338 :: v339 :: v340 :: v341 :: v342 :: v343 :: v344 :: v345 :: v346 :: v347 :: v348 :: v349 :: v350 :: v351 :: v352 :: v353 :: v354 :: v355 :: v356 :: v357 :: v358 :: v359 :: v360 :: v361 :: v362 :: v363 :: v364 :: v365 :: v366 :: v367 :: v368 :: v369 :: v370 :: v371 :: v372 :: v373 :: v374 :: v375 :: v376 :: v377 :: v378 :: v379 :: v380 :: v381 :: v382 :: v383 :: v384 :: v385 :: v386 :: v387 :: v388 :: v389 :: v390 :: v391 :: v392 :: v393 :: v394 :: v395 :: v396 :: v397 :: v398 :: v399 :: v400 :: v401 :: v402 :: v403 :: v404 :: v405 :: v406 :: v407 :: v408 :: v409 :: v410 :: v411 :: v412 :: v413 :: v414 :: v415 :: v416 :: v417 :: v418 :: v419 :: v420 :: v421 :: v422 :: v423 :: v424 :: v425 :: v426 :: v427 :: v428 :: v429 :: v430 :: v431 :: v432 :: v433 :: v434 :: v435 :: v436 :: v437 :: v438 :: v439 :: v440 :: v441 :: v442 :: v443 :: v444 :: v445 :: v446 :: v447 :: v448 :: v449 :: v450 :: v451 :: v452 :: v453 :: v454 :: v455 :: v456 :: v457 :: v458 :: v459 :: [])), []⟩ (w.drewN n)) :
  Code.wp Tryz.prog (wReg 13) Q ⟨(List.toArray (.slice (some ⟨bo, oo, none⟩) ln c :: v1 :: v2 :: v3 :: v4 :: v5 :: v6 :: v7 :: v8 :: .pointer (some ⟨gx, 0, none⟩) :: v10 :: v11 :: v12 :: v13 :: v14 :: v15 :: v16 :: v17 :: v18 :: v19 :: v20 :: v21 :: v22 :: v23 :: v24 :: v25 :: v26 :: v27 :: v28 :: v29 :: v30 :: v31 :: v32 :: v33 :: v34 :: v35 :: v36 :: v37 :: v38 :: v39 :: v40 :: v41 :: v42 :: v43 :: v44 :: v45 :: v46 :: v47 :: v48 :: v49 :: v50 :: v51 :: v52 :: v53 :: v54 :: v55 :: v56 :: v57 :: v58 :: v59 :: v60 :: v61 :: v62 :: v63 :: v64 :: v65 :: v66 :: v67 :: v68 :: v69 :: v70 :: v71 :: v72 :: v73 :: v74 :: v75 :: v76 :: v77 :: v78 :: v79 :: v80 :: v81 :: v82 :: v83 :: v84 :: v85 :: v86 :: v87 :: v88 :: v89 :: v90 :: v91 :: v92 :: v93 :: v94 :: v95 :: v96 :: v97 :: v98 :: v99 :: v100 :: v101 :: v102 :: v103 :: v104 :: v105 :: v106 :: v107 :: v108 :: v109 :: v110 :: v111 :: v112 :: v113 :: v114 :: v115 :: v116 :: v117 :: v118 :: v119 :: v120 :: v121 :: v122 :: v123 :: v124 :: v125 :: v126 :: v127 :: v128 :: v129 :: v130 :: v131 :: v132 :: v133 :: v134 :: v135 :: v136 :: v137 :: v138 :: v139 :: v140 :: v141 :: v142 :: v143 :: v144 :: v145 :: v146 :: v147 :: v148 :: v149 :: v150 :: v151 :: v152 :: v153 :: v154 :: v155 :: v156 :: v157 :: v158 :: v159 :: v160 :: v161 :: v162 :: v163 :: v164 :: v165 :: v166 :: v167 :: v168 :: v169 :: v170 :: v171 :: v172 :: v173 :: v174 :: v175 :: v176 :: v177 :: v178 :: v179 :: v180 :: v181 :: v182 :: v183 :: v184 :: v185 :: v186 :: v187 :: v188 :: v189 :: v190 :: v191 :: v192 :: v193 :: v194 :: v195 :: v196 :: v197 :: v198 :: v199 :: v200 :: v201 :: v202 :: v203 :: v204 :: v205 :: v206 :: v207 :: v208 :: v209 :: v210 :: v211 :: v212 :: v213 :: v214 :: v215 :: v216 :: v217 :: v218 :: v219 :: v220 :: v221 :: v222 :: v223 :: v224 :: v225 :: v226 :: v227 :: v228 :: v229 :: v230 :: v231 :: v232 :: v233 :: v234 :: v235 :: v236 :: v237 :: v238 :: v239 :: v240 :: v241 :: v242 :: v243 :: v244 :: v245 :: v246 :: v247 :: v248 :: v249 :: v250 :: v251 :: v252 :: v253 :: v254 :: v255 :: v256 :: v257 :: v258 :: v259 :: v260 :: v261 :: v262 :: v263 :: v264 :: v265 :: v266 :: v267 :: v268 :: v269 :: v270 :: v271 :: v272 :: v273 :: v274 :: v275 :: v276 :: v277 :: v278 :: v279 :: v280 :: v281 :: v282 :: v283 :: v284 :: v285 :: v286 :: v287 :: v288 :: v289 :: v290 :: v291 :: v292 :: v293 :: v294 :: v295 :: v296 :: v297 :: v298 :: v299 :: v300 :: v301 :: v302 :: v303 :: v304 :: v305 :: v306 :: v307 :: v308 :: v309 :: v310 :: v311 :: v312 :: v313 :: v314 :: v315 :: v316 :: v317 :: v318 :: v319 :: v320 :: v321 :: v322 :: v323 :: v324 :: v325 :: v326 :: v327 :: v328 :: v329 :: v330 :: v331 :: v332 :: v333 :: v334 :: v335 :: v336 :: v337 :: v338 :: v339 :: v340 :: v341 :: v342 :: v343 :: v344 :: v345 :: v346 :: v347 :: v348 :: v349 :: v350 :: v351 :: v352 :: v353 :: v354 :: v355 :: v356 :: v357 :: v358 :: v359 :: v360 :: v361 :: v362 :: v363 :: v364 :: v365 :: v366 :: v367 :: v368 :: v369 :: v370 :: v371 :: v372 :: v373 :: v374 :: v375 :: v376 :: v377 :: v378 :: v379 :: v380 :: v381 :: v382 :: v383 :: v384 :: v385 :: v386 :: v387 :: v388 :: v389 :: v390 :: v391 :: v392 :: v393 :: v394 :: v395 :: v396 :: v397 :: v398 :: v399 :: v400 :: v401 :: v402 :: v403 :: v404 :: v405 :: v406 :: v407 :: v408 :: v409 :: v410 :: v411 :: v412 :: v413 :: v414 :: v415 :: v416 :: v417 :: v418 :: v419 :: v420 :: v421 :: v422 :: v423 :: v424 :: v425 :: v426 :: v427 :: v428 :: v429 :: v430 :: v431 :: v432 :: v433 :: v434 :: v435 :: v436 :: v437 :: v438 :: v439 :: v440 :: v441 :: v442 :: v443 :: v444 :: v445 :: v446 :: v447 :: v448 :: v449 :: v450 :: v451 :: v452 :: v453 :: v454 :: v455 :: v456 :: v457 :: v458 :: v459 :: [])), []⟩ w := by
 conv => arg 2; whnf
 have ja0 : (0 : Int) ≤ (a : Int) := by omega
 have k1 : decide ((sn : Int) < (k : Int) + 1) = false := decide_eq_false (by omega)
 go_quiet (fail)
 exact hQ _ _ _ _ _ _ _ _ _ _
end Go.Proofs.YteopgmieindojaaGreat

namespace Go.Proofs.YteopgmieindojaaGreat
open Go.RowKit
set_option maxRecDepth 1000000 in
set_option maxHeartbeats 8000000 in
theorem t10 {w4 : World} {l : List ObjD} {g : GraphD} {p p0 p3 : Option Addr} {g3 c0 c3 : Nat} (C : GCtx w4 l g p p0 p3 g3 c0 c3) {w : World} (hb : Below w4.heap.size w4 w) {c i : Nat} (hi : i < g.nodes.length) (Q : Exit → Act → World → Prop) (v1 v2 v3 v4 v5 v7 v9 v10 v11 v12 v13 v14 v15 v16 v17 : Value) (R : List Value) (hRl : R.length = 442)
  (hQ : ∀ (v9 v10 v11 v12 v13 v14 v15 : Value) (R' : List Value) (w' : World), R'.length = 442 → Below w.heap.size w w' → Q .normal ⟨(List.toArray (.slice p l.length c :: v1 :: v2 :: v3 :: v4 :: v5 :: .pointer (some ⟨g3, 0, none⟩) :: v7 :: .int .i64 (i : Int) :: v9 :: v10 :: v11 :: v12 :: v13 :: v14 :: v15 :: v16 :: v17 :: R')), []⟩ w') :
  (wTail 10).wp Tryz.prog Q ⟨(List.toArray (.slice p l.length c :: v1 :: v2 :: v3 :: v4 :: v5 :: .pointer (some ⟨g3, 0, none⟩) :: v7 :: .int .i64 (i : Int) :: v9 :: v10 :: v11 :: v12 :: v13 :: v14 :: v15 :: v16 :: v17 :: R)), []⟩ w := by
 obtain ⟨b, off, y, hp0, hy, ⟨E0, _⟩, ⟨E1, _⟩, ⟨E2, _⟩, ⟨E3, _⟩, ⟨E4, _⟩, ⟨E5, _⟩, ⟨E6, _⟩, ⟨E7, _⟩, ⟨E8, _⟩, ⟨u9, E9, hD⟩, ⟨u10, E10, hE⟩, E11, ⟨E12, _⟩, ⟨E13, _⟩⟩ := C.nodes.at_ hi
 obtain ⟨a, k, o, s, ho, hs, F⟩ := C.fine.node i y hy
 obtain ⟨pd, cd, rfl, hd1, hd2, hd3, hdh⟩ := hD
 obtain ⟨pe, ce, rfl, he1, he2, he3, heh⟩ := hE
 have hal := (List.getElem?_eq_some_iff.1 ho).1
 have hkl := (List.getElem?_eq_some_iff.1 hs).1
 obtain ⟨bo, oo, o', hpo, ho', u0, _, _, _, O0, _, _, _, _, hparts⟩ := C.objs.at_ hal
 obtain rfl : o' = o := by rw [ho] at ho'; cases ho'; rfl
 obtain ⟨ps, cs, rfl, q1, q2, q3, hsh⟩ := hparts.1
 obtain ⟨bs, os, s', hps, hs', ⟨S0, _⟩, ⟨S1, _⟩, ⟨S2, hfb⟩, ⟨S3, _⟩, ⟨S4, _⟩, ⟨S5, _⟩, ⟨S6, _⟩, ⟨u7, S7, hQD⟩, ⟨u8, S8, hQR⟩⟩ := hsh.at_ hkl
 obtain rfl : s' = s := by rw [hs] at hs'; cases hs'; rfl
 obtain ⟨qd, cq, rfl, hD1, hD2, hD3, hDh⟩ := hQD
 obtain ⟨qr, cr, rfl, hR1, hR2, hR3, hRh⟩ := hQR
 have hlen := C.len
 have hlenl := C.lenl
 subst hp0 hpo hps
 rw [tail10]
 refine wp_seq (rg10 _ _ _ _ _ _ _ _ _ _ (y) _ _ _ _ _ _ _ _ _ _ _ _ _ _ _ _ _ _ _ (hRl) (cell_later hb C.g0) (by omega) (cell_later hb E0) (cell_later hb E1) (cell_later hb E2) (cell_later hb E3) (cell_later hb E4) (cell_later hb E5) (cell_later hb E6) (cell_later hb E7) (cell_later hb E8) (cell_later hb E9) (cell_later hb E10) (cell_later hb E11) (cell_later hb E12) (cell_later hb E13) ?_)
 intro R1 h1
 refine then_normal ?_
 have hX1 := heap_alloc_new w (.cells (nodeA y pd cd pe ce) 86)
 have hb1 : Below w.heap.size w (w.alloc (.cells (nodeA y pd cd pe ce) 86)) := (Below.refl _ w).alloc (Nat.le_refl _) _
 generalize w.alloc (.cells (nodeA y pd cd pe ce) 86) = w1 at *
 generalize hgx : w.heap.size = gx at *
 have hb41 := hb.trans (hb1.mono (by rw [← hgx]; exact hb.size))
 have d0 : w1.cell? ⟨gx, 0, none⟩ = some (.int .i64 (a : Int)) := by rw [← F.obj]; exact node_cell hX1 0 _ rfl
 have d1 : w1.cell? ⟨gx, 1, none⟩ = some (.int .i64 ((k : Int) + 1)) := by rw [← F.sec]; exact node_cell hX1 1 _ rfl
 rw [tail11]
 refine wp_seq (wp_seq (rg11 _ _ _ _ _ _ _ _ _ _ _ _ _ _ _ _ _ _ _ _ _ _ _ _ _ (h1) (d0) (d1) (by omega) ?_))
 intro R2 h2 h64
 refine then_normal (wp_cond_false ((eval_rest R2 _ _ _ _ _ _ _ _ _ _ _ _ _ _ _ _ _ _ 46).trans h64) (wp_skip (then_normal ?_)))
 rw [tail13, open442 R2 h2]
 refine wp_seq (wp_seq (reg13 _ _ _ _ _ _ _ _ _ _ _ _ _ _ _ _ _ _ _ _ _ _ _ _ _ _ _ _ _ _ _ _ _ _ _ _ _ _ _ _ _ _ _ _ _ _ _ _ _ _ _ _ _ _ _ _ _ _ _ _ _ _ _ _ _ _ _ _ _ _ _ _ _ _ _ _ _ _ _ _ _ _ _ _ _ _ _ _ _ _ _ _ _ _ _ _ _ _ _ _ _ _ _ _ _ _ _ _ _ _ _ _ _ _ _ _ _ _ _ _ _ _ _ _ _ _ _ _ _ _ _ _ _ _ _ _ _ _ _ _ _ _ _ _ _ _ _ _ _ _ _ _ _ _ _ _ _ _ _ _ _ _ _ _ _ _ _ _ _ _ _ _ _ _ _ _ _ _ _ _ _ _ _ _ _ _ _ _ _ _ _ _ _ _ _ _ _ _ _ _ _ _ _ _ _ _ _ _ _ _ _ _ _ _ _ _ _ _ _ _ _ _ _ _ _ _ _ _ _ _ _ _ _ _ _ _ _ _ _ _ _ _ _ _ _ _ _ _ _ _ _ _ _ _ _ _ _ _ _ _ _ _ _ _ _ _ _ _ _ _ _ _ _ _ _ _ _ _ _ _ _ _ _ _ _ _ _ _ _ _ _ _ _ _ _ _ _ _ _ _ _ _ _ _ _ _ _ _ _ _ _ _ _ _ _ _ _ _ _ _ _ _ _ _ _ _ _ _ _ _ _ _ _ _ _ _ _ _ _ _ _ _ _ _ _ _ _ _ _ _ _ _ _ _ _ _ _ _ _ _ _ _ _ _ _ _ _ _ _ _ _ _ _ _ _ _ _ _ _ _ _ _ _ _ _ _ _ _ _ _ _ _ _ _ _ _ _ _ _ _ _ _ _ _ _ _ _ _ _ _ _ _ _ _ _ _ _ _ _ _ _ _ _ _ _ _ _ _ _ _ _ _ _ _ _ _ _ _ _ _ _ _ _ _ _ _ _ _ _ _ _ _ _ _ _ _ _ _ _ _ _ _ _ _ _ _ _ _ _ _ (d0) (d1) (cell_later hb41 O0) (by omega) (by omega) ?_))
 intros
 rename_i n1
 refine then_normal (wp_cond_false (by kernel_rfl) (wp_skip (then_normal (again (by kernel_rfl) ?_))))
 intro R3 h3
 have hb2 : Below w1.heap.size w1 (w1.drewN n1) := below_drewN (Below.refl _ w1) n1
 generalize w1.drewN n1 = w2 at *
 have hb42 := hb41.trans (hb2.mono hb41.size)
 rw [tail15]
 refine wp_seq (rg15 _ _ _ _ _ _ _ _ _ _ _ _ _ _ _ (s') _ _ _ _ _ _ _ _ _ _ _ _ _ _ _ _ _ _ _ (h3) (cell_later hb2 d0) (cell_later hb2 d1) (cell_later hb42 O0) (cell_later hb42 S0) (cell_later hb42 S1) (cell_later hb42 S2) (cell_later hb42 S3) (cell_later hb42 S4) (cell_later hb42 S5) (cell_later hb42 S6) (cell_later hb42 S7) (cell_later hb42 S8) (by omega) (by omega) (by omega) ?_)
 intro R4 g10 w3 h4 hS3 hb3
 refine then_normal ?_
 have hb43 := hb42.trans (hb3.mono hb42.size)
 have hb23 := hb2.trans (hb3.mono hb2.size)
 rw [tail16]
 refine wp_seq (rg16 _ _ _ _ _ _ _ _ _ _ _ _ _ _ _ _ _ _ _ _ _ _ _ _ _ _ (h4) (hS3) (hfb) ?_)
 intro R5 w4' h5 hb4
 refine then_normal ?_
 have hb44 := hb43.trans (hb4.mono hb43.size)
 have hb24 := hb23.trans (hb4.mono hb23.size)
 refine t17 C hb44 (block_later hb24 hX1) (block_later hb4 hS3) (hdh.below EByte.keeps hb44) (heh.below EEdge.keeps hb44) (hDh.below EByte.keeps hb44) (⟨hD1, hD2, hD3⟩) (hRh.below ERel.keeps hb44) (by omega) hy F _ _ _ _ _ _ _ _ _ _ _ _ _ _ _ (h5) ?_
 intro v12' v13' v14' v15' R' w' hR' hb'
 have hb14 := hb24.trans (hb'.mono hb24.size)
 exact hQ _ _ _ _ _ _ _ R' w' hR' (hb1.trans (hb14.mono (by rw [← hgx]; have := hb1.size; omega)))
set_option maxRecDepth 1000000 in
set_option maxHeartbeats 8000000 in
theorem t7 {w4 : World} {l : List ObjD} {g : GraphD} {p p0 p3 : Option Addr} {g3 c0 c3 : Nat} (C : GCtx w4 l g p p0 p3 g3 c0 c3) {w : World} (hb : Below w4.heap.size w4 w) {c : Nat} (Q : Exit → Act → World → Prop) (v1 v2 v3 v4 v7 v8 v9 v10 v11 v12 v13 v14 v15 v16 v17 : Value) (R : List Value) (hRl : R.length = 442)
  (hQ : ∀ (a : Act) (w' : World), a.defers = [] → a.tmps.getD 4 undef = .bool true → Below w.heap.size w w' → Q .ret a w') :
  (wTail 7).wp Tryz.prog Q ⟨(List.toArray (.slice p l.length c :: v1 :: v2 :: v3 :: v4 :: .bool true :: .pointer (some ⟨g3, 0, none⟩) :: v7 :: v8 :: v9 :: v10 :: v11 :: v12 :: v13 :: v14 :: v15 :: v16 :: v17 :: R)), []⟩ w := by
 have hlen := C.len
 unfold maxLen at hlen
 rw [tail7]
 refine wp_seq (wp_seq (rg7 _ _ _ _ _ _ _ _ _ _ _ _ _ _ _ _ _ _ _ _ _ (hRl) ?_))
 refine then_normal (wp_block (wp_loop (fun act w' => ∃ (i : Nat) (v9 v10 v11 v12 v13 v14 v15 : Value) (R' : List Value), act = ⟨(List.toArray (.slice p l.length c :: v1 :: v2 :: v3 :: v4 :: .bool true :: .pointer (some ⟨g3, 0, none⟩) :: v7 :: .int .i64 (i : Int) :: v9 :: v10 :: v11 :: v12 :: v13 :: v14 :: v15 :: v16 :: v17 :: R')), []⟩ ∧ R'.length = 442 ∧ i ≤ g.nodes.length ∧ Below w.heap.size w w') (fun act _ => g.nodes.length - (intOf (act.eval (.tmp 8))).toNat) ⟨0, _, _, _, _, _, _, _, R, rfl, hRl, Nat.zero_le _, Below.refl _ _⟩ ?_))
 rintro act w' ⟨i, v9, v10, v11, v12, v13, v14, v15, R, rfl, hRl, hi, hb'⟩
 have hbw := hb.trans (hb'.mono hb.size)
 rw [tail8]
 refine wp_seq (wp_seq (rg8 _ _ _ _ _ _ _ _ _ _ _ _ _ _ _ _ _ _ _ _ _ _ _ _ (hRl) (cell_later hbw C.g0) ?_))
 intro R1 h1 h42
 refine then_normal ?_
 by_cases hlt : i < g.nodes.length
 ·refine wp_cond_true ((eval_rest R1 _ _ _ _ _ _ _ _ _ _ _ _ _ _ _ _ _ _ 24).trans (h42.trans (by simp [hlt]))) (wp_skip (then_normal ?_))
  refine wp_seq (wp_block (t10 C hbw hlt _ _ _ _ _ _ _ _ _ _ _ _ _ _ _ _ _ (h1) ?_))
  intro w9 w10 w11 w12 w13 w14 w15 R2 w2 h2 hb2
  refine in_normal (then_normal ?_)
  refine rg9 _ _ _ _ _ _ _ _ _ _ _ _ _ _ _ _ _ _ _ _ _ (h2) (IntWalk.i64_in _ (by omega)) ?_
  intro R3 h3
  refine then_normal ⟨⟨i + 1, _, _, _, _, _, _, _, R3, rfl, h3, hlt, hb'.trans (hb2.mono hb'.size)⟩, ?_⟩
  show g.nodes.length - ((i : Int) + 1).toNat < g.nodes.length - (i : Int).toNat
  omega
 ·refine wp_cond_false ((eval_rest R1 _ _ _ _ _ _ _ _ _ _ _ _ _ _ _ _ _ _ 24).trans (h42.trans (by simp [hlt]))) (wp_exit ?_)
  show (Code.seq (wReg 35) (wTail 36)).wp _ _ _ _
  obtain ⟨p', c', e, _, _, _, hL⟩ := id C.nms
  cases e
  have hE := C.fine.entry
  obtain ⟨t, z, ht, hz, ha, ha2⟩ := id hE
  have ht : g.to_ = (t : Int) := ht
  have ha : 0 ≤ g.at_ := ha
  have ha2 : g.at_ ≤ z.size := ha2
  have htl := (List.getElem?_eq_some_iff.1 hz).1
  obtain ⟨_, _, z', _, hz', _, _, _, _, _, _, _, _, ⟨_, hzb⟩, _⟩ := C.nodes.at_ htl
  obtain rfl : z' = z := by rw [hz] at hz'; cases hz'; rfl
  have hf := C.fine.few
  refine wp_seq (rg35 _ _ _ _ _ (g.names) _ _ _ _ _ _ _ _ _ _ _ _ _ _ _ _ _ _ _ _ (h1) (cell_later hbw C.g1) (cell_later hbw C.g2) (cell_later hbw C.gn) (C.nms.below ENm.keeps hbw) (hf) (by unfold i64bd; omega) (by unfold i64bd; omega) (fun m hm => by
   obtain ⟨j, hj⟩ := List.getElem?_of_mem hm
   obtain ⟨_, _, _, ⟨_, h1⟩, ⟨_, h2⟩, ⟨_, h3⟩⟩ := hL j m hj
   exact ⟨h1, h2, h3⟩) ?_)
  intro R2 pa ca w3 h2 hA hb3
  refine then_normal ?_
  refine t36 C (hbw.trans (hb3.mono hbw.size)) hA (by simp; omega) (fun m hm => by
   rcases List.mem_cons.1 hm with rfl | hm
   ·exact hE
   ·exact C.fine.names m hm) (fun i m m2 hi hm hm2 => by
   obtain ⟨j, rfl⟩ : ∃ j, i = j + 2 := ⟨i - 2, by omega⟩
   simp only [List.getElem?_cons_succ] at hm
   rw [show j + 2 - 1 = j + 1 by omega] at hm2
   simp only [List.getElem?_cons_succ] at hm2
   obtain ⟨h1, rfl⟩ := List.getElem?_eq_some_iff.1 hm
   obtain ⟨h2, rfl⟩ := List.getElem?_eq_some_iff.1 hm2
   exact List.pairwise_iff_getElem.1 C.fine.sorted j (j + 1) h2 h1 (by omega)) _ _ _ _ _ _ _ _ _ _ _ _ _ _ _ _ _ (h2) ?_
  intro v17' R3 w4' h3 hb4
  exact hQ _ _ rfl rfl (hb'.trans ((hb3.trans (hb4.mono hb3.size)).mono hb'.size))
end Go.Proofs.YteopgmieindojaaGreat

namespace Go.Proofs.YteopgmieindojaaGreat
open Go.RowKit
def GivesB (l : List UInt8) (w : World) (e : Ending) (w' : World) : Prop := ∃ v, e = .returned v ∧ w'.ownsRow w.heap.size 5 1 v l.length (l.map u8v) ∧ Below w.heap.size w w'
theorem bytes_some (ad : Addr) (m c : Nat) (w : World) : (binOp .eql 31 (.slice (some ad) m c) (.slice none 0 0)).run Tryz.prog w = .ok (.bool false) w := by kernel_rfl
theorem bytes_none (w : World) : (binOp .eql 31 (.slice none 0 0) (.slice none 0 0)).run Tryz.prog w = .ok (.bool true) w := by kernel_rfl
set_option maxRecDepth 100000 in
set_option maxHeartbeats 4000000 in
theorem clone_any (q : Option Addr) (m c : Nat) (r : List UInt8) (w : World) (h : Has w q r) (hr : r.length = m) (hq : q = none → c = 0) (hm : m ≤ 100000000) :
  Calls Tryz.prog 199 #[.slice q m c] w (GivesB r w) := by
 rcases q with _ | ad
 ·have hr0 : r = [] := by
   cases r with
   | nil => rfl
   | cons y r => obtain ⟨a, e, _⟩ := h 0 y rfl; cases e
  subst hr0
  obtain rfl : m = 0 := hr.symm
  obtain rfl : c = 0 := hq rfl
  have hn := bytes_none w
  go_enter Tryz.func199, Tryz.ntmps199
  go_wp2_with fail
  go_ret
  exact ⟨_, rfl, World.ownsRow_nil _ _ _ _, Below.refl _ _⟩
 ·have hz : Below w.heap.size w (w.alloc (.cells #[] 5)) := (Below.refl _ w).alloc (Nat.le_refl _) _
  have hl0 := lit0_q w 5
  have HQ := Lib.hid (h.below hz)
  have HR := Lib.hid hr
  obtain ⟨i1, ki, kz0, kz1, kz2⟩ := info_parts Tryz.infoU8
  have KI := Lib.hid ki
  have K0 := Lib.hid kz0
  have K1 := Lib.hid kz1
  have K2 := Lib.hid kz2
  have hn := bytes_some ad m c w
  clear ki kz0 kz1 kz2 h hr
  go_enter Tryz.func199, Tryz.ntmps199
  go_wp2_with (at_builtin; refine wpList_append_bytes _ rfl (.tmp 5) (.tmp 6) 31 rfl w.heap.size 5 i1 Tryz.underlying31 KI.out K0.out K1.out K2.out _ 0 [] rfl hl0 (some ad) m c r rfl HQ.out HR.out (fun h => by cases h) (by omega) hz.size ?_)
  intro v8 w8 hown8 hgrow8 _
  have hb8 : Below w.heap.size w w8 := hz.grown hgrow8 hz.size (fun g hg => (hl0.lt g hg).1)
  have HO : Hid (w8.ownsRow w.heap.size 5 1 v8 r.length (r.map u8v)) := Lib.hid (by rw [HR.out]; simpa using hown8)
  clear hown8 hgrow8 hl0 hz
  go_wp2_with fail
  go_ret
  exact ⟨_, rfl, HO.out, hb8⟩
set_option maxRecDepth 100000 in
set_option maxHeartbeats 4000000 in
theorem gBytes_any (s : SecD) (x : PcD) (p7 p8 : Option Addr) (c7 n8 c8 : Nat) (w : World) (hd : HasL 1 EByte w p7 s.data) (hcap : s.data.length ≤ c7) (hmx : c7 ≤ maxLen) (hn0 : p7 = none → c7 = 0) (hs : SecG s) (hx : x ∈ piecesOf s) :
    Calls Tryz.prog 165 #[secVS s (.slice p7 s.data.length c7) (.slice p8 n8 c8), .agg #[.int .i64 x.at_, .int .i64 x.size]] w (GivesB (dataN s x) w) := by
  have hpf := (pieces_facts hs.facts).2.2.1 x hx
  obtain ⟨A, hA⟩ : ∃ A : Nat, x.at_ = (A : Int) := ⟨x.at_.toNat, by omega⟩
  obtain ⟨Z, hZ⟩ : ∃ Z : Nat, x.size = (Z : Int) := ⟨x.size.toNat, by omega⟩
  have hdt : dataN s x = bif s.type == 1 then win s.data A Z else [] := by unfold dataN; rw [hA, hZ, Int.toNat_natCast, Int.toNat_natCast]
  rw [hA, hZ]
  have hw2 : Below w.heap.size w ((w.alloc (.cells #[.string s.name, .int .i64 s.type, .int .i64 s.flags, .int .i64 s.align, .int .i64 s.ent, .int .i64 s.link, .int .i64 s.size, .slice p7 s.data.length c7, .slice p8 n8 c8] 89)).alloc (.cells #[.int .i64 (A : Int), .int .i64 (Z : Int)] 213)) := ((Below.refl _ w).alloc (Nat.le_refl _) _).alloc (by simp) _
  have hS0 : ((w.alloc (.cells #[.string s.name, .int .i64 s.type, .int .i64 s.flags, .int .i64 s.align, .int .i64 s.ent, .int .i64 s.link, .int .i64 s.size, .slice p7 s.data.length c7, .slice p8 n8 c8] 89)).alloc (.cells #[.int .i64 (A : Int), .int .i64 (Z : Int)] 213)).heap[w.heap.size]? = some (.cells #[.string s.name, .int .i64 s.type, .int .i64 s.flags, .int .i64 s.align, .int .i64 s.ent, .int .i64 s.link, .int .i64 s.size, .slice p7 s.data.length c7, .slice p8 n8 c8] 89 (0, 0)) := by
    rw [Below.heap_alloc _ _ _ (by simp)]; exact heap_alloc_new w _
  have hP0 : ((w.alloc (.cells #[.string s.name, .int .i64 s.type, .int .i64 s.flags, .int .i64 s.align, .int .i64 s.ent, .int .i64 s.link, .int .i64 s.size, .slice p7 s.data.length c7, .slice p8 n8 c8] 89)).alloc (.cells #[.int .i64 (A : Int), .int .i64 (Z : Int)] 213)).heap[w.heap.size + 1]? = some (.cells #[.int .i64 (A : Int), .int .i64 (Z : Int)] 213 (0, 0)) := by
    have := heap_alloc_new (w.alloc (.cells #[.string s.name, .int .i64 s.type, .int .i64 s.flags, .int .i64 s.align, .int .i64 s.ent, .int .i64 s.link, .int .i64 s.size, .slice p7 s.data.length c7, .slice p8 n8 c8] 89)) (.cells #[.int .i64 (A : Int), .int .i64 (Z : Int)] 213)
    simpa using this
  have hd2 := hd.below EByte.keeps hw2
  have HWB := Lib.hid hw2
  have HD := Lib.hid hd2
  obtain ⟨res, hres⟩ : ∃ res, res = dataN s x := ⟨_, rfl⟩
  rw [← hres] at hdt ⊢
  have HDT := Lib.hid hdt
  have hfew := hs.few
  have hkind := hs.kind
  have hpz := hs.facts.1
  rw [hA, hZ] at hpf
  obtain ⟨gb, hgb⟩ : ∃ gb, gb = w.heap.size := ⟨_, rfl⟩
  have HGB := Lib.hid hgb
  unfold maxLen at hmx
  clear hres hdt hs hx hd hd2 hA hZ hw2
  go_enter Tryz.func165, Tryz.ntmps165
  go_upto_region 1 with fail
  generalize ((w.alloc (.cells #[.string s.name, .int .i64 s.type, .int .i64 s.flags, .int .i64 s.align, .int .i64 s.ent, .int .i64 s.link, .int .i64 s.size, .slice p7 s.data.length c7, .slice p8 n8 c8] 89)).alloc (.cells #[.int .i64 (A : Int), .int .i64 (Z : Int)] 213)) = w1 at *
  have s1 : w1.cell? ⟨w.heap.size, 1, none⟩ = some (.int .i64 s.type) := (cell_of_row w1 w.heap.size 1 _ _ (0, 0) hS0).trans rfl
  have s7 : w1.cell? ⟨w.heap.size, 7, none⟩ = some (.slice p7 s.data.length c7) := (cell_of_row w1 w.heap.size 7 _ _ (0, 0) hS0).trans rfl
  obtain ⟨⟨q0, q1⟩, _⟩ := pair_cells _ _ _ _ _ hP0
  rw [← hgb] at s1 s7 q0 q1 ⊢
  clear hS0 hP0 hgb
  cases hty : (s.type == 8) with
  | true =>
    have h8 : s.type = 8 := by simpa using hty
    have hr : Hid (res = []) := Lib.hid (by rw [HDT.out, h8]; rfl)
    go_wp2_with fail
    go_ret
    rw [hr.out]
    exact ⟨_, rfl, World.ownsRow_nil _ _ _ _, HWB.out⟩
  | false =>
    have h1 : s.type = 1 := by
      have : ¬ s.type = 8 := by simpa using hty
      rcases hkind with h | h
      · exact h.1
      · exact absurd h.1 this
    have hsz : s.size = (s.data.length : Int) := by
      rcases hkind with h | h
      · exact h.2
      · omega
    have hAZ : A + Z ≤ s.data.length := by omega
    have hr : Hid (res = win s.data A Z) := Lib.hid (by rw [HDT.out, h1]; rfl)
    have hdwin : (win s.data A Z).length = Z := win_length _ _ _ hAZ
    have g1 : (0 : Int) ≤ (A : Int) := by omega
    have g2' : (A : Int) ≤ (A : Int) + (Z : Int) := by omega
    have g3 : (A : Int) + (Z : Int) ≤ (c7 : Int) := by omega
    have g4 : IntKind.i64.wrap ((A : Int) + (Z : Int)) = (A : Int) + (Z : Int) := IntWalk.i64_in _ (by omega)
    have hfin : ∀ e w', GivesB (win s.data A Z) w1 e w' → GivesB res w e w' := fun e w' ⟨v, he, ho, hb⟩ => ⟨v, he, by rw [hr.out]; exact owns_lower ho HWB.out.size, HWB.out.trans (hb.mono HWB.out.size)⟩
    have HFIN := Lib.hid hfin
    clear hkind hfin h1
    rcases p7 with _ | ad
    · have hc0 : c7 = 0 := hn0 rfl
      obtain rfl : A = 0 := by omega
      obtain rfl : Z = 0 := by omega
      subst hc0
      have HC := Lib.hid (clone_any none 0 0 (win s.data 0 0) w1 (fun i x hx => by rw [List.eq_nil_of_length_eq_zero hdwin] at hx; simp at hx) hdwin (fun _ => rfl) (by omega))
      clear hdwin
      go_wp2_with (first | (go_at_call 199
                            refine HC.out.mono ?_
                            rintro e w2 ⟨v, rfl, ho, hb⟩
                            have HG := HFIN.out _ _ ⟨v, rfl, ho, hb⟩) | fail)
      go_ret
      exact HG
    · by_cases hca : c7 = A
      · obtain rfl : Z = 0 := by omega
        subst hca
        have HC := Lib.hid (clone_any (some ad) 0 0 (win s.data c7 0) w1 (fun i x hx => by rw [List.eq_nil_of_length_eq_zero hdwin] at hx; simp at hx) hdwin (fun h => by cases h) (by omega))
        clear hdwin
        go_wp2_with (first | (go_at_call 199
                              go_loud (refine HC.out.mono ?_)
                              rintro e w2 ⟨v, rfl, ho, hb⟩
                              have HG := HFIN.out _ _ ⟨v, rfl, ho, hb⟩) | fail)
        go_ret
        exact HG
      · have HC := Lib.hid (clone_any (some (ad.add A)) Z (c7 - A) (win s.data A Z) w1 (has_slice HD.out hAZ) hdwin (fun h => by cases h) (by omega))
        have hne2 : ¬ c7 - A = 0 := by omega
        clear hdwin
        go_wp2_with (first | (go_at_call 199
                              refine HC.out.mono ?_
                              rintro e w2 ⟨v, rfl, ho, hb⟩
                              have HG := HFIN.out _ _ ⟨v, rfl, ho, hb⟩) | fail)
        go_ret
        exact HG
end Go.Proofs.YteopgmieindojaaGreat

namespace Go.Proofs.YteopgmieindojaaGreat
open Go.RowKit
theorem pcStep_stay {ent : Int} {d : List UInt8} {a : Nat} {l : List PcD} (h : pcStep true ent d a = (l, a)) : ∀ n, (∀ j x, a ≤ j → j < a + n → d[j]? = some x → x ≠ 0) → pcStep true ent d (a + n) = (l, a)
 | 0, _ => h
 | n + 1, hz => by
  have ih := pcStep_stay h n fun j x h1 h2 h3 => hz j x h1 (by omega) h3
  cases hx : d[a + n]? with
  | none =>
   show (match d[a + n]? with | none => _ | some x => _) = _
   rw [hx]
   exact ih
  | some x =>
   refine pcStep_no ih hx ?_
   have := hz _ x (by omega) (by omega) hx
   show (x == 0) = false
   simpa using this
theorem pcStep_zero {ent : Int} {d : List UInt8} {a k : Nat} {l : List PcD} (h : pcStep true ent d a = (l, a)) (hz : ∀ (i : Nat) (y : UInt8), i < k → (d.drop a)[i]? = some y → y ≠ 0) (h0 : (d.drop a)[k]? = some 0) :
  pcStep true ent d (a + (k + 1)) = (l ++ [⟨(a : Int), (k : Int) + 1⟩], a + (k + 1)) := by
 rw [List.getElem?_drop] at h0
 have := pcStep_yes (pcStep_stay h k fun j x h1 h2 h3 => hz (j - a) x (by omega) (by rw [List.getElem?_drop, show a + (j - a) = j by omega]; exact h3)) h0 rfl
 rw [show ((a + k : Nat) : Int) + 1 - (a : Int) = (k : Int) + 1 by omega] at this
 exact this
theorem pcStep_end {ent : Int} {d : List UInt8} {a : Nat} {l : List PcD} (h : pcStep true ent d a = (l, a)) (ha : a ≤ d.length) (hz : ∀ (i : Nat) (y : UInt8), (d.drop a)[i]? = some y → y ≠ 0) : (pcStep true ent d d.length).1 = l := by
 have := pcStep_stay h (d.length - a) fun j x h1 h2 h3 => hz (j - a) x (by rw [List.getElem?_drop, show a + (j - a) = j by omega]; exact h3)
 rw [show a + (d.length - a) = d.length by omega] at this
 rw [this]
def entPcs (ent m : Nat) : List PcD := (List.range m).map fun i => ⟨((i * ent : Nat) : Int), (ent : Int)⟩
theorem entPcs_length (ent m : Nat) : (entPcs ent m).length = m := by simp [entPcs]
theorem entPcs_succ (ent m : Nat) : entPcs ent (m + 1) = entPcs ent m ++ [⟨((m * ent : Nat) : Int), (ent : Int)⟩] := by simp [entPcs, List.range_succ]
theorem pcStep_stayE {ent a : Nat} {d : List UInt8} {l : List PcD} (h : pcStep false (ent : Int) d a = (l, a)) : ∀ n, n < ent → pcStep false (ent : Int) d (a + n) = (l, a)
 | 0, _ => h
 | n + 1, hn => by
  have ih := pcStep_stayE h n (by omega)
  cases hx : d[a + n]? with
  | none =>
   show (match d[a + n]? with | none => _ | some x => _) = _
   rw [hx]
   exact ih
  | some x =>
   refine pcStep_no ih hx ?_
   show ((((a + n : Nat) : Int) + 1 - (a : Int)) == (ent : Int)) = false
   simp
   omega
theorem pcStep_ent {ent : Nat} (h1 : 1 ≤ ent) {d : List UInt8} : ∀ m, m * ent ≤ d.length → pcStep false (ent : Int) d (m * ent) = (entPcs ent m, m * ent)
 | 0, _ => by rw [Nat.zero_mul]; rfl
 | m + 1, hm => by
  rw [Nat.succ_mul] at hm
  have ih := pcStep_stayE (pcStep_ent (d := d) h1 m (by omega)) (ent - 1) (by omega)
  have hx : d[m * ent + (ent - 1)]? = some d[m * ent + (ent - 1)] := List.getElem?_eq_getElem (by omega)
  have := pcStep_yes ih hx (by
   show ((((m * ent + (ent - 1) : Nat) : Int) + 1 - ((m * ent : Nat) : Int)) == (ent : Int)) = true
   simp
   omega)
  rw [show m * ent + (ent - 1) + 1 = (m + 1) * ent by rw [Nat.succ_mul]; omega, show ((m * ent + (ent - 1) : Nat) : Int) + 1 - ((m * ent : Nat) : Int) = (ent : Int) by omega] at this
  rw [this, entPcs_succ]
def rowP (ent m k : Nat) : List Value := pcV (entPcs ent k) ++ List.replicate ((m - k) * 2) (.int .i64 0)
theorem rowP_length {ent m k : Nat} (hk : k ≤ m) : (rowP ent m k).length = m * 2 := by
 simp [rowP, pcV_length, entPcs_length]
 omega
theorem rowP_full (ent m : Nat) : rowP ent m m = pcV (entPcs ent m) := by simp [rowP]
theorem rowP_zero (ent m : Nat) : rowP ent m 0 = List.replicate (m * 2) (.int .i64 0) := by simp [rowP, entPcs, pcV]
theorem rowP_step {ent m k : Nat} (hk : k < m) : ((rowP ent m k).set (k * 2) (.int .i64 ((k * ent : Nat) : Int))).set (k * 2 + 1) (.int .i64 (ent : Int)) = rowP ent m (k + 1) := by
 have hl : (pcV (entPcs ent k)).length = k * 2 := by rw [pcV_length, entPcs_length]
 unfold rowP
 rw [entPcs_succ, pcV_append, List.set_append_right _ _ (by omega), hl, Nat.sub_self, show (m - k) * 2 = (m - (k + 1)) * 2 + 1 + 1 by omega, List.replicate_succ, List.replicate_succ, List.set_cons_zero,
  List.set_append_right _ _ (by omega), hl, show k * 2 + 1 - k * 2 = 1 by omega, List.set_cons_succ, List.set_cons_zero, List.append_assoc]
 rfl
theorem madeCells_two (m : Nat) : (madeCells #[.int .i64 0, .int .i64 0] (m * 2)).toList = List.replicate (m * 2) (Value.int .i64 0) := by
 apply List.ext_getElem?
 intro j
 by_cases hj : j < m * 2
 ·have : j % 2 = 0 ∨ j % 2 = 1 := by omega
  rcases this with h | h <;> simp [madeCells, hj, h]
 ·simp [madeCells, hj]
theorem endOf_le {l : List PcD} (h : ∀ p ∈ l, 0 ≤ p.size) (i : Nat) : ∀ j, i ≤ j → endOf (l.take i) ≤ endOf (l.take j)
 | 0, hj => by
  obtain rfl : i = 0 := by omega
  exact Int.le_refl _
 | j + 1, hj => by
  by_cases hij : i = j + 1
  ·subst hij; exact Int.le_refl _
  ·have ih := endOf_le h i j (by omega)
   cases hx : l[j]? with
   | none => rw [List.take_add_one, hx]; simpa using ih
   | some p =>
    rw [endOf_take hx]
    have := h p (List.mem_of_getElem? hx)
    omega
theorem find_cut {l : List PcD} {n at_ : Int} (hc : Chain l n) (hb : ∀ p ∈ l, 0 ≤ p.at_ ∧ 0 ≤ p.size ∧ p.at_ + p.size ≤ n) :
    ∃ k : Nat, k ≤ l.length ∧ (∀ (j : Nat) p, l[j]? = some p → decide (at_ < p.at_ + p.size) = decide (k ≤ j)) ∧
    ((∃ p, l[k]? = some p ∧ p.at_ ≤ at_ ∧ inP l at_ = (k : Int)) ∨
      ((∀ p, l[k]? = some p → ¬ p.at_ ≤ at_) ∧
        ((∃ p, l[l.length - 1]? = some p ∧ at_ = p.at_ + p.size ∧ inP l at_ = (l.length : Int) - 1) ∨
         ((∀ p, l[l.length - 1]? = some p → at_ ≠ p.at_ + p.size) ∧ inP l at_ = -1)))) := by
  have hbs : ∀ p ∈ l, 0 ≤ p.size := fun p hp => (hb p hp).2.1
  by_cases hl : l.length = 0
  · have hn : ∀ (j : Nat) p, l[j]? = some p → False := fun j p hp => by have := (List.getElem?_eq_some_iff.1 hp).1; omega
    exact ⟨0, Nat.zero_le _, fun j p hp => (hn j p hp).elim, .inr ⟨fun p hp => (hn _ p hp).elim, .inr ⟨fun p hp => (hn _ p hp).elim, inP_out hb (.inr (.inr hl))⟩⟩⟩
  by_cases h0 : at_ < 0
  · refine ⟨0, Nat.zero_le _, fun j p hp => ?_, .inr ⟨fun p hp => ?_, .inr ⟨fun p hp => ?_, inP_out hb (.inl h0)⟩⟩⟩ <;> have := hb p (List.mem_of_getElem? hp)
    · rw [decide_eq_true (show at_ < p.at_ + p.size by omega), decide_eq_true (Nat.zero_le j)]
    · omega
    · omega
  by_cases h1 : n < at_
  · refine ⟨l.length, Nat.le_refl _, fun j p hp => ?_, .inr ⟨fun p hp => ?_, .inr ⟨fun p hp => ?_, inP_out hb (.inr (.inl h1))⟩⟩⟩ <;> have := hb p (List.mem_of_getElem? hp) <;> have hj := (List.getElem?_eq_some_iff.1 hp).1
    · rw [decide_eq_false (show ¬ at_ < p.at_ + p.size by omega), decide_eq_false (show ¬ l.length ≤ j by omega)]
    · omega
    · omega
  obtain ⟨i, p, g1, g2, g3, g4, g5⟩ := inP_in hc (by omega) (by omega : at_ ≤ n) (by omega)
  have hpi := (hc.2 i p g3).1
  have hpe := endOf_take g3
  by_cases h2 : at_ < p.at_ + p.size
  · refine ⟨i, by omega, fun j q hq => ?_, .inl ⟨p, g3, g4, g1⟩⟩
    have hqi := (hc.2 j q hq).1
    have hqe := endOf_take hq
    by_cases hij : i ≤ j
    · have := endOf_le hbs (i + 1) (j + 1) (by omega)
      rw [decide_eq_true (show at_ < q.at_ + q.size by omega), decide_eq_true hij]
    · have := endOf_le hbs (j + 1) i (by omega)
      rw [decide_eq_false (show ¬ at_ < q.at_ + q.size by omega), decide_eq_false hij]
  · obtain ⟨e1, e2⟩ : at_ = n ∧ (i : Int) = (l.length : Int) - 1 := by
      rcases g5 with g5 | g5
      · exact absurd g5 h2
      · exact g5
    have e3 : i = l.length - 1 := by omega
    have hn : endOf (l.take (i + 1)) = n := by rw [show i + 1 = l.length by omega, List.take_length, hc.1]
    refine ⟨l.length, Nat.le_refl _, fun j q hq => ?_, .inr ⟨fun q hq => ?_, .inl ⟨p, by rw [← e3]; exact g3, by omega, by omega⟩⟩⟩
    · have hj := (List.getElem?_eq_some_iff.1 hq).1
      have := hb q (List.mem_of_getElem? hq)
      rw [decide_eq_false (show ¬ at_ < q.at_ + q.size by omega), decide_eq_false (show ¬ l.length ≤ j by omega)]
    · have hj := (List.getElem?_eq_some_iff.1 hq).1
      omega
end Go.Proofs.YteopgmieindojaaGreat

namespace Go.Proofs.YteopgmieindojaaGreat
open Go.RowKit
theorem idx_none {l : List UInt8} {c : UInt8} (h : ∀ (i : Nat) (y : UInt8), l[i]? = some y → y ≠ c) : Lib.indexByte l c = -1 := by
 induction l with
 | nil => rfl
 | cons x r ih =>
  have hx : (x == c) = false := by rw [beq_eq_false_iff_ne]; exact h 0 x rfl
  have := ih fun i y hy => h (i + 1) y (by simpa using hy)
  simp [Lib.indexByte, hx, this]
theorem idx_some {c : UInt8} : ∀ {l : List UInt8} {k : Nat}, (∀ (i : Nat) (y : UInt8), i < k → l[i]? = some y → y ≠ c) → l[k]? = some c → Lib.indexByte l c = k
 | [], _, _, h => by simp at h
 | x :: r, 0, _, h => by
  simp at h
  simp [Lib.indexByte, h]
 | x :: r, k + 1, hb, h => by
  have hx : (x == c) = false := by rw [beq_eq_false_iff_ne]; exact hb 0 x (by omega) rfl
  have := idx_some (c := c) (l := r) (k := k) (fun i y hi hy => hb (i + 1) y (by omega) (by simpa using hy)) (by simpa using h)
  have h2 : ((k : Int) == -1) = false := by rw [beq_eq_false_iff_ne]; omega
  simp [Lib.indexByte, hx, this, h2]
theorem first_of (c : UInt8) : ∀ l : List UInt8, (∃ k : Nat, l[k]? = some c ∧ ∀ (i : Nat) (y : UInt8), i < k → l[i]? = some y → y ≠ c) ∨ ∀ (i : Nat) (y : UInt8), l[i]? = some y → y ≠ c
 | [] => .inr fun i y h => by simp at h
 | x :: r => by
  by_cases hx : x = c
  ·exact .inl ⟨0, by simp [hx], fun i y hi => absurd hi (by omega)⟩
  ·rcases first_of c r with ⟨k, h1, h2⟩ | h
   ·refine .inl ⟨k + 1, by simpa using h1, fun i y hi hy => ?_⟩
    match i, hy with
    | 0, hy => simp at hy; exact hy ▸ hx
    | i + 1, hy => exact h2 i y (by omega) (by simpa using hy)
   ·refine .inr fun i y hy => ?_
    match i, hy with
    | 0, hy => simp at hy; exact hy ▸ hx
    | i + 1, hy => exact h i y (by simpa using hy)
theorem bytesOf_nums (l : List UInt8) : Lib.bytesOf (l.map fun x => (x.toNat : Int)) = l := by
 simp [Lib.bytesOf, List.map_map, Function.comp_def]
theorem run_idx {P : Program} {w : World} {b off : Nat} {l : List UInt8} (h : Has w (some ⟨b, off, none⟩) l) (n cap : Nat) (hn : l.length = n) (c : Int) :
  (Extern.BytealgIndexByte.indexByte #[.slice (some ⟨b, off, none⟩) n cap, .int .u8 c]).run P w = .ok (.int .i64 (Lib.indexByte l c.toNat.toUInt8)) w := by
 have := Lib.run_indexByteSlice (P := P) w b off n cap (l.map fun x => (x.toNat : Int)) (by simpa using hn) (fun i hi => by
  obtain ⟨a, e, hc⟩ := h i l[i] (List.getElem?_eq_getElem (by omega))
  cases e
  have ha : (⟨b, off, none⟩ : Addr).add i = ⟨b, off + i, none⟩ := by unfold Addr.add; split <;> simp_all
  rw [ha] at hc
  rw [hc]
  simp [List.getD, List.getElem?_eq_getElem (show i < l.length by omega)]) c
 rwa [bytesOf_nums] at this
set_option maxRecDepth 100000 in
theorem sIdx_any (s : ByteArray) (c : Int) (w : World) :
  Calls Tryz.prog 223 #[.string s, .int .u8 c] w fun e w' => e = .returned (.int .i64 (Lib.indexByte s.data.toList c.toNat.toUInt8)) ∧ w = w' := by
 go_enter Tryz.func223, Tryz.ntmps223
 go_wp2_with fail
 rw [run_callFunc_extern Tryz.func229 (by kernel_rfl) (by kernel_rfl) (by kernel_rfl) (e := Extern.BytealgIndexByte.indexByte) (by kernel_rfl), Lib.run_indexByteString]
 simp only [Result.andThen]
 rw [Oper.upon_value]
 go_wp2_with fail
 go_ret
 exact ⟨rfl, rfl⟩
set_option maxRecDepth 100000 in
theorem strIdx_any (s : ByteArray) (c : Int) (w : World) :
  Calls Tryz.prog 210 #[.string s, .int .u8 c] w fun e w' => e = .returned (.int .i64 (Lib.indexByte s.data.toList c.toNat.toUInt8)) ∧ w = w' := by
 have HC := Lib.hid (sIdx_any s c w)
 go_enter Tryz.func210, Tryz.ntmps210
 go_wp2_with fail
 refine HC.out.mono ?_
 rintro e w' ⟨rfl, rfl⟩
 go_wp2_with fail
 go_ret
 exact ⟨rfl, rfl⟩
end Go.Proofs.YteopgmieindojaaGreat
