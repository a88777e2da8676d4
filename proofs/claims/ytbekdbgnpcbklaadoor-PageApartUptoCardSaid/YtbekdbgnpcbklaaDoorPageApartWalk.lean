/-
  Walk of the law PageApart.
-/
import Derived.Test.YtbekdbgnpcbklaaDoorPaLaw
import Derived.Deep.Cut
namespace Go.Proofs.YtbekdbgnpcbklaaDoor.pageApart
open Go.RowKit FerryCrc
set_option linter.unusedVariables false
set_option linter.unusedSimpArgs false
/-- The first and the second half of a sequence; what stands in a block or a loop. -/
def lft : Code → Code
  | .seq a _ => a
  | .block _ c => c
  | .loop c => c
  | c => c
def rgt : Code → Code
  | .seq _ b => b
  | c => c
theorem wrapq {q : Nat} (h : q < 3) : wrap64 ((q : Int) + 3) = ((q + 3 : Nat) : Int) := by rw [← IntWalk.i64_left, IntKind.wrap_i64]; omega
theorem wrapq' {q : Nat} (h : q < 3) : IntKind.i64.wrap ((q : Int) + 3) = ((q + 3 : Nat) : Int) := by rw [IntKind.wrap_i64]; omega
theorem wrapqq {q : Nat} (h : q < 3) : ∃ x : Nat, (q : Int) + 3 < 64 ∧ wrap64 ((q : Int) + 3) = (x : Int) ∧ IntKind.i64.wrap ((q : Int) + 3) = (x : Int) ∧ x < 64 ∧ (x : Int) < 64 := ⟨q + 3, by omega, wrapq h, wrapq' h, by omega, by omega⟩
theorem wrapc (c : Nat) : ∃ d : Nat, IntKind.u8.wrap ((c : Int) + 1) = (d : Int) ∧ d < 256 := ⟨(c + 1) % 256, by rw [IntKind.wrap_u8]; omega, by omega⟩
set_option maxRecDepth 100000 in
set_option maxHeartbeats 8000000 in
theorem tail32 {p g len ad vv n4 : Nat} {sz : Int} {D : List Nat} {a8 a44 a45 : Option Addr} {c8 c44 c45 : Nat} (w w8 w43 w44 WB : World) (M : List Pg) (q : Nat) (hq3 : q < 3) (hm : len ≤ 1048576) (HM : Hid (M.length = len)) (OKM : Hid (Oks M))
    (O : Hid (POwn WB g (.slice (some ⟨g, 0, none⟩) (len + 9) (len + 9)) (M ++ z9))) (GG : Hid (Bx WB p sz ad vv D)) (X : Hid (Below w.heap.size w WB)) (T8 : Hid (Pgs WB a8 len c8 M)) (I44 : Hid (WB.ownsRow w43.heap.size 3 1 (.slice a44 n4 c44) n4 ((drt M len).map iv))) (I45 : Hid (IOwn WB w44.heap.size (.slice a45 n4 c45) (drt M len)))
    (HN4 : Hid (n4 ≤ 1048576)) (H8B : Hid (w8.heap.size ≤ WB.heap.size)) (HT8 : Hid (∀ ad, a8 = some ad → ad.block < w8.heap.size)) (HGB : Hid (g < w8.heap.size)) (HPL : Hid (p < w8.heap.size ∧ w.heap.size ≤ w8.heap.size)) (HLT : Hid (∀ k, (Value.slice a44 n4 c44).ownBlock = some k → k < w44.heap.size)) (H843 : Hid (w8.heap.size ≤ w43.heap.size)) (HGP : Hid (p < g)) (HPW : Hid (w.heap.size = p))
    {v0 v1 v2 v3 v4 v5 v9 v10 v11 v12 v13 v14 v15 v16 v17 v18 v19 v20 v21 v22 v23 v24 v25 v26 v27 v28 v29 v30 v31 v32 v33 v34 v35 v36 v37 v38 v39 v40 v43 v44 v45 v46 v47 v48 v49 v50 v51 v52 v53 v54 v55 v56 v57 v58 v59 v60 v61 v62 v63 v64 v65 v66 v67 v68 v69 v70 v71 v72 v73 v74 v75 v76 v77 v78 v79 v80 v81 v82 v83 v84 v85 v86 v87 v88 v89 v90 v91 v92 v93 v94 v95 v96 v97 v98 v99 v100 v101 v102 v103 v104 v105 v106 v107 v108 v109 v110 v111 v112 v113 v114 v115 v116 v117 v118 v119 v120 v121 v122 v123 v124 v125 v126 v127 v128 v129 v130 v131 v132 v133 v134 v135 v136 v137 v138 v139 v140 v141 v142 v143 v144 v145 v146 v147 v148 v149 v150 v151 v152 v153 v154 v155 v156 v157 v158 v159 v160 v161 v162 v163 v164 v165 v166 v167 v168 v169 v170 v171 v172 v173 v174 v175 v176 v177 v178 v179 v180 v181 v182 v183 v184 v185 v186 v187 v188 v189 v190 v191 v192 v193 v194 v195 v196 v197 v198 v199 v200 v201 v202 v203 v204 v205 v206 v207 v208 v209 v210 v211 v212 v213 v214 v215 v216 v217 v218 v219 v220 v221 v222 v223 v224 v225 v226 v227 v228 v229 v230 v231 v232 v233 v234 v235 v236 v237 v238 v239 v240 v241 v242 v243 v244 v245 v246 v247 v248 v249 v250 v251 v252 v253 v254 v255 v256 v257 v258 v259 v260 v261 v262 v263 v264 v265 v266 v267 v268 v269 v270 v271 v272 v273 v274 v275 v276 v277 v278 v279 v280 v281 v282 v283 v284 v285 v286 v287 v288 v289 v290 v291 v292 v293 v294 v295 v296 v297 v298 v299 v300 v301 v302 v303 v304 v305 v306 v307 v308 v309 v310 v311 v312 v313 v314 v315 v316 v317 v318 v319 v320 v321 v322 v323 v324 v325 v326 v327 v328 v329 v330 v331 v332 v333 v334 v335 v336 v337 v338 v339 v340 v341 v342 v343 v344 v345 v346 v347 v348 v349 v350 v351 v352 v353 v354 v355 v356 v357 v358 v359 v360 v361 v362 v363 : Value} {K K0 J K2 K3 : Act → World → Prop} {R : Ending → World → Prop} {C1 C2 C3 : Code} (e1 : (lft (lft (rgt (rgt (rgt (rgt (rgt (rgt (rgt (rgt (rgt (rgt (rgt (rgt (rgt (rgt (rgt (rgt (rgt (rgt (rgt (lft (lft (rgt (lft (lft (rgt (lft (rgt (rgt (rgt (rgt (rgt (Tryd.f3.body.getD .skip)))))))))))))))))))))))))))))))))) = C1) (e2 : (rgt (lft (rgt (rgt (rgt (rgt (rgt (rgt (rgt (rgt (rgt (rgt (rgt (rgt (rgt (rgt (rgt (rgt (rgt (rgt (rgt (lft (lft (rgt (lft (lft (rgt (lft (rgt (rgt (rgt (rgt (rgt (Tryd.f3.body.getD .skip)))))))))))))))))))))))))))))))))) = C2) (e3 : (rgt (rgt (rgt (rgt (rgt (rgt (rgt (rgt (rgt (rgt (rgt (rgt (rgt (rgt (rgt (rgt (rgt (rgt (rgt (rgt (lft (lft (rgt (lft (lft (rgt (lft (rgt (rgt (rgt (rgt (rgt (Tryd.f3.body.getD .skip))))))))))))))))))))))))))))))))) = C3)
    (hK2 : ∀ a w, C2.wp Tryd.prog (Exit.then K3 (Exit.inBlock 1 (Exit.then K (Exit.then J (Exit.inBlock 0 (Exit.then K0 (bodyPost Tryd.prog Tryd.f3 R))))))) a w → K2 a w) (hK3 : ∀ a w, C3.wp Tryd.prog (Exit.inBlock 1 (Exit.then K (Exit.then J (Exit.inBlock 0 (Exit.then K0 (bodyPost Tryd.prog Tryd.f3 R)))))) a w → K3 a w)
    (hQ : ∀ (M2 : List Pg) (w' : World), Hid (M2.length = len) → Hid (Oks M2) → Hid (POwn w' g (.slice (some ⟨g, 0, none⟩) (len + 9) (len + 9)) (M2 ++ z9)) → Hid (Bx w' p sz ad vv D) → Hid (Below w.heap.size w w') → ∀ u43 u44 u304 u305 u306 u307 u308 u309 u310 u311 u312 u313 u314 u315 u316 u317 u318 u319 u320 u321 u322 u323 u324 u325 u326 u327 u328 u329 u330 u331 u332 u333 u334 u335 u336 u337 u338 u339 u340 u341 u342 u343 u344 u345 u346 u347 u348 u349 : Value, Exit.inBlock 1 (Exit.then K (Exit.then J (Exit.inBlock 0 (Exit.then K0 (bodyPost Tryd.prog Tryd.f3 R))))) .normal ⟨#[v0, v1, v2, v3, v4, v5, .slice (some ⟨g, 0, none⟩) len (len + 9), .int .i64 (q : Int), .slice a8 len c8, v9, v10, v11, v12, v13, v14, v15, v16, v17, v18, v19, v20, v21, v22, v23, v24, v25, v26, v27, v28, v29, v30, v31, v32, v33, v34, v35, v36, v37, v38, v39, v40, .slice a44 n4 c44, .slice a45 n4 c45, u43, u44, v45, v46, v47, v48, v49, v50, v51, v52, v53, v54, v55, v56, v57, v58, v59, v60, v61, v62, v63, v64, v65, v66, v67, v68, v69, v70, v71, v72, v73, v74, v75, v76, v77, v78, v79, v80, v81, v82, v83, v84, v85, v86, v87, v88, v89, v90, v91, v92, v93, v94, v95, v96, v97, v98, v99, v100, v101, v102, v103, v104, v105, v106, v107, v108, v109, v110, v111, v112, v113, v114, v115, v116, v117, v118, v119, v120, v121, v122, v123, v124, v125, v126, v127, v128, v129, v130, v131, v132, v133, v134, v135, v136, v137, v138, v139, v140, v141, v142, v143, v144, v145, v146, v147, v148, v149, v150, v151, v152, v153, v154, v155, v156, v157, v158, v159, v160, v161, v162, v163, v164, v165, v166, v167, v168, v169, v170, v171, v172, v173, v174, v175, v176, v177, v178, v179, v180, v181, v182, v183, v184, v185, v186, v187, v188, v189, v190, v191, v192, v193, v194, v195, v196, v197, v198, v199, v200, v201, v202, v203, v204, v205, v206, v207, v208, v209, v210, v211, v212, v213, v214, v215, v216, v217, v218, v219, v220, v221, v222, v223, v224, v225, v226, v227, v228, v229, v230, v231, v232, v233, v234, v235, v236, v237, v238, v239, v240, v241, v242, v243, v244, v245, v246, v247, v248, v249, v250, v251, v252, v253, v254, v255, v256, v257, v258, v259, v260, v261, v262, v263, v264, v265, v266, v267, v268, v269, v270, v271, v272, v273, v274, v275, v276, v277, v278, v279, v280, v281, v282, v283, v284, v285, v286, v287, v288, v289, v290, v291, v292, v293, v294, v295, v296, v297, v298, v299, v300, v301, v302, v303, u304, u305, u306, u307, u308, u309, u310, u311, u312, u313, u314, u315, u316, u317, u318, u319, u320, u321, u322, u323, u324, u325, u326, u327, u328, u329, u330, u331, u332, u333, u334, u335, u336, u337, u338, u339, u340, u341, u342, u343, u344, u345, u346, u347, u348, u349, v350, v351, v352, v353, v354, v355, v356, v357, v358, v359, v360, v361, v362, v363], []⟩ w') :
    C1.wp Tryd.prog (Exit.then K2 (Exit.then K3 (Exit.inBlock 1 (Exit.then K (Exit.then J (Exit.inBlock 0 (Exit.then K0 (bodyPost Tryd.prog Tryd.f3 R)))))))) ⟨#[v0, v1, v2, v3, v4, v5, .slice (some ⟨g, 0, none⟩) len (len + 9), .int .i64 (q : Int), .slice a8 len c8, v9, v10, v11, v12, v13, v14, v15, v16, v17, v18, v19, v20, v21, v22, v23, v24, v25, v26, v27, v28, v29, v30, v31, v32, v33, v34, v35, v36, v37, v38, v39, v40, .slice a44 n4 c44, .slice a45 n4 c45, v43, v44, v45, v46, v47, v48, v49, v50, v51, v52, v53, v54, v55, v56, v57, v58, v59, v60, v61, v62, v63, v64, v65, v66, v67, v68, v69, v70, v71, v72, v73, v74, v75, v76, v77, v78, v79, v80, v81, v82, v83, v84, v85, v86, v87, v88, v89, v90, v91, v92, v93, v94, v95, v96, v97, v98, v99, v100, v101, v102, v103, v104, v105, v106, v107, v108, v109, v110, v111, v112, v113, v114, v115, v116, v117, v118, v119, v120, v121, v122, v123, v124, v125, v126, v127, v128, v129, v130, v131, v132, v133, v134, v135, v136, v137, v138, v139, v140, v141, v142, v143, v144, v145, v146, v147, v148, v149, v150, v151, v152, v153, v154, v155, v156, v157, v158, v159, v160, v161, v162, v163, v164, v165, v166, v167, v168, v169, v170, v171, v172, v173, v174, v175, v176, v177, v178, v179, v180, v181, v182, v183, v184, v185, v186, v187, v188, v189, v190, v191, v192, v193, v194, v195, v196, v197, v198, v199, v200, v201, v202, v203, v204, v205, v206, v207, v208, v209, v210, v211, v212, v213, v214, v215, v216, v217, v218, v219, v220, v221, v222, v223, v224, v225, v226, v227, v228, v229, v230, v231, v232, v233, v234, v235, v236, v237, v238, v239, v240, v241, v242, v243, v244, v245, v246, v247, v248, v249, v250, v251, v252, v253, v254, v255, v256, v257, v258, v259, v260, v261, v262, v263, v264, v265, v266, v267, v268, v269, v270, v271, v272, v273, v274, v275, v276, v277, v278, v279, v280, v281, v282, v283, v284, v285, v286, v287, v288, v289, v290, v291, v292, v293, v294, v295, v296, v297, v298, v299, v300, v301, v302, v303, v304, v305, v306, v307, v308, v309, v310, v311, v312, v313, v314, v315, v316, v317, v318, v319, v320, v321, v322, v323, v324, v325, v326, v327, v328, v329, v330, v331, v332, v333, v334, v335, v336, v337, v338, v339, v340, v341, v342, v343, v344, v345, v346, v347, v348, v349, v350, v351, v352, v353, v354, v355, v356, v357, v358, v359, v360, v361, v362, v363], []⟩ WB := by
  conv at e1 => lhs; whnf
  conv at e2 => lhs; whnf
  conv at e3 => lhs; whnf
  subst e1 e2 e3
  have HQ := hide hQ
  clear hQ
  have hqq : (q : Int) < 3 := by omega
  obtain ⟨qq, hq64, hqn, hqn', hqlt, hqli⟩ := wrapqq hq3
  have hn4b := HN4.out
  go_wp2
  go_loopw [43] (fun i wx => ∃ (k : Nat) (xs : List Value), k ≤ n4 ∧ i = .int .i64 (k : Int) ∧ Hid (wx.ownsRow w43.heap.size 3 1 (.slice a44 n4 c44) n4 xs) ∧ Hid (WB.grownBy wx (Value.slice a44 n4 c44).ownBlock)) (fun i _ => n4 - (intOf i).toNat)
  case atStart => exact ⟨0, _, by omega, rfl, I44.out, grw_refl _ _⟩
  case round =>
    obtain ⟨k, xs, hk, rfl, IX, GX⟩ := hrel
    by_cases hkn : k < n4
    · have hkk : (k : Int) < (n4 : Int) := by omega
      obtain ⟨G4, hG4⟩ : ∃ G, a44 = some ⟨G, 0, none⟩ := by
        rcases IX.out.2 with ⟨e, h0⟩ | ⟨g', _, _, e, _⟩
        · omega
        · simp only [Value.slice.injEq] at e
          exact ⟨g', e.1⟩
      subst hG4
      have hxl := IX.out.1
      obtain ⟨u0, hu0⟩ : ∃ u, xs[k]? = some u := ⟨_, List.getElem?_eq_getElem (by omega)⟩
      have c0 := World.ownsRow.cellAt IX.out k (by omega)
      rw [hu0] at c0
      have f0 := World.ownsRow.frozenAt IX.out k
      obtain ⟨s1, s2⟩ := World.ownsRow.stored IX.out k (.int .i64 (-1))
      have IX2 := hide s1
      have GX2 : Hid (WB.grownBy (wr.setCell ⟨G4, k, none⟩ (.int .i64 (-1))) (Value.slice (some ⟨G4, 0, none⟩) n4 c44).ownBlock) := grw_trans GX.out s2
      clear s1 s2 hu0 hxl
      go_wp2
      go_roundw
      case rel => exact ⟨k + 1, _, by omega, by go_num, IX2.out, GX2.out⟩
      case measure => simp [intOf]; omega
    · obtain rfl : n4 = k := by omega
      have hUb : ∀ j, (Value.slice a44 n4 c44).ownBlock = some j → w43.heap.size ≤ j := fun j e => (World.ownsRow.lt I44.out j e).1
      have h8 : w8.heap.size ≤ w43.heap.size := H843.out
      have u : Unt (fun j => j < WB.heap.size ∧ (Value.slice a44 n4 c44).ownBlock ≠ some j) WB wr := Unt.grown GX.out (fun j hj => hj)
      have hlo : ∀ j, j < w8.heap.size → j < WB.heap.size ∧ (Value.slice a44 n4 c44).ownBlock ≠ some j := fun j hj => ⟨by have h1 := H8B.out; omega, fun e => by have h1 := hUb j e; omega⟩
      replace O := hide (show POwn wr g (.slice (some ⟨g, 0, none⟩) (len + 9) (len + 9)) (M ++ z9) from own_unt O.out u (fun k hk => by obtain rfl : g = k := (by simpa [Value.ownBlock] using hk); exact hlo g HGB.out))
      replace T8 := hide (pgs_unt T8.out u (fun ad e => hlo _ (HT8.out ad e)))
      replace GG := hide (GG.out.unt u (hlo p HPL.out.1))
      replace X := hide (bel_unt X.out u (fun k hk => hlo k (by have := HPL.out.2; omega)))
      replace I45 := hide (show IOwn wr w44.heap.size _ (drt M len) from own_unt I45.out u (fun j hj => ⟨(World.ownsRow.lt I45.out j hj).2, fun e => by have h1 := HLT.out j e; have h2 := (World.ownsRow.lt I45.out j hj).1; omega⟩))
      clear u hlo hUb IX GX I44
      go_wp2_with fail
      refine Calls.mono (refWritten_any a8 len c8 M _ T8.out) ?_
      rintro e w60 ⟨x60, rfl, h60, b⟩
      have I60 := hide h60
      clear h60
      replace O := hide (O.out.below b)
      replace X := hide (chain X.out b)
      replace GG := hide (GG.out.below b)
      replace T8 := hide (T8.out.below b)
      replace I45 := hide (I45.out.low b)
      clear b
      go_wp2_with fail
      refine Calls.mono (ints_same I45.out I60.out (drt_le M hm)) ?_
      rintro e w61 ⟨rfl, b⟩
      replace O := hide (O.out.below b)
      replace X := hide (chain X.out b)
      replace GG := hide (GG.out.below b)
      clear b I60 I45 T8
      go_wp2
      go_loopw [44] (fun i wx => ∃ (r : Nat) (M2 : List Pg), r ≤ len ∧ i = .int .i64 (r : Int) ∧ Hid (M2.length = len) ∧ Hid (Oks M2) ∧ Hid (POwn wx g (.slice (some ⟨g, 0, none⟩) (len + 9) (len + 9)) (M2 ++ z9)) ∧ Hid (Bx wx p sz ad vv D) ∧ Hid (Below w.heap.size w wx)) (fun i _ => len - (intOf i).toNat)
      case atStart => exact ⟨0, M, by omega, rfl, HM.out, OKM.out, O.out, GG.out, X.out⟩
      case round =>
        clear O X GG
        obtain ⟨r, M2, hr, rfl, HM2, OK2, O, GG, X⟩ := hrel
        by_cases hrl : r < len
        · have hrr : (r : Int) < (len : Int) := by omega
          obtain ⟨t, ht⟩ : ∃ t, M2[r]? = some t := ⟨_, List.getElem?_eq_getElem (by have := HM2.out; omega)⟩
          obtain ⟨c, hc, hcl, e0, f0, hst⟩ := own_byte O.out OK2.out z9_ok ht (j := qq) hqlt
          obtain ⟨d, hd, hdl⟩ : ∃ d : Nat, IntKind.u8.wrap ((c : Int) + 1) = (d : Int) ∧ d < 256 := wrapc c
          obtain ⟨s1, s2, s3⟩ := hst d hdl
          obtain ⟨y0, y1, hst2⟩ := own_dirty s1 s2 z9_ok (k := r) (by rw [List.getElem?_set_self (by have := HM2.out; omega)])
          obtain ⟨z1, z2⟩ := hst2 (!t.dirty)
          rw [List.set_set] at z1 z2
          have HK2 := hide z2
          clear z2 hst hst2 s1 s2 s3 hc
          rw [← Nat.add_assoc] at e0 f0 y0 y1 z1
          have hgp : g ≠ p := by have := HGP.out; clear hqn hqn' hd; omega
          have hwg : w.heap.size ≤ g := by have h1 := HGP.out; have h2 := HPW.out; clear hqn hqn' hd; omega
          have HO2 := hide z1
          have GG2 := hide ((GG.out.far (b := g) (o := r * 66 + 2 + qq) (u := .int .u8 (d : Int)) hgp).far (b := g) (o := r * 66 + 1) (u := .bool (!t.dirty)) hgp)
          have X2 := hide ((X.out.setCell (p := ⟨g, r * 66 + 2 + qq, none⟩) hwg (.int .u8 (d : Int))).setCell (p := ⟨g, r * 66 + 1, none⟩) hwg (.bool (!t.dirty)))
          have Y0 := hide y0
          have Y1 := hide y1
          clear z1 y0 y1 HM OKM O GG X HQ H8B HT8 HGB HPL HLT H843 HGP HPW HN4
          go_upto_region 41 with fail
          go_region_with (fail)
          go_upto_region 42 with fail
          have y0' : ((wr.setCell ⟨g, r * 66 + 2 + qq, none⟩ (.int .u8 (d : Int))).drew).cell? ⟨g, r * 66 + 1, none⟩ = some (.bool t.dirty) := Y0.out
          have y1' : ((wr.setCell ⟨g, r * 66 + 2 + qq, none⟩ (.int .u8 (d : Int))).drew).frozen? ⟨g, r * 66 + 1, none⟩ = false := Y1.out
          have BF : Hid (Below ((wr.setCell ⟨g, r * 66 + 2 + qq, none⟩ (.int .u8 (d : Int))).setCell ⟨g, r * 66 + 1, none⟩ (.bool (!t.dirty))).heap.size ((wr.setCell ⟨g, r * 66 + 2 + qq, none⟩ (.int .u8 (d : Int))).setCell ⟨g, r * 66 + 1, none⟩ (.bool (!t.dirty))) (((wr.setCell ⟨g, r * 66 + 2 + qq, none⟩ (.int .u8 (d : Int))).drew).setCell ⟨g, r * 66 + 1, none⟩ (.bool (!t.dirty)))) := (Below.refl _ _).drew
          clear Y0 Y1 e0 f0
          generalize (wr.setCell ⟨g, r * 66 + 2 + qq, none⟩ (.int .u8 (d : Int))).drew = x2 at *
          go_wp2
          go_roundw
          case rel => exact ⟨r + 1, _, by omega, by go_num, by rw [Hid, List.length_set]; exact HM2.out, HK2.out, HO2.out.below BF.out, GG2.out.below BF.out, chain X2.out BF.out⟩
          case measure => simp [intOf]; omega
        · obtain rfl : len = r := by omega
          go_wp2
          exact HQ.out M2 _ HM2 OK2 O GG X _ _ _ _ _ _ _ _ _ _ _ _ _ _ _ _ _ _ _ _ _ _ _ _ _ _ _ _ _ _ _ _ _ _ _ _ _ _ _ _ _ _ _ _ _ _ _ _ 
set_option maxRecDepth 100000 in
set_option maxHeartbeats 8000000 in
theorem law (a : Option Addr) (len cap : Nat) (l : List Pg) (kd sz : Int) (ad vv : Nat) (D : List Nat) (w : World) {E : Nat → Addr} (he : Errs w E) (hs : Pgs w a len cap l) (hm : len ≤ 1048576) (okad : ad < 4294967296) (okv : vv < 4294967296) (okd : D.length ≤ 9223372036854775807) (hD : ∀ c ∈ D, c < 256) (hs1 : -9223372036854775808 ≤ sz) (hs2 : sz ≤ 9223372036854775807) :
    Calls Tryd.prog 3 #[.slice a len cap, .agg #[.int .i64 kd, .int .i64 sz, .int .u32 (ad : Int), .int .u32 (vv : Int), .string (str D)]] w fun e w' => e = .returned (.bool true) ∧ Below w.heap.size w w' := by
  have D0 := hide ((Below.refl w.heap.size w).alloc (Nat.le_refl _) (.cells #[.int .i64 kd, .int .i64 sz, .int .u32 (ad : Int), .int .u32 (vv : Int), .string (str D)] 25))
  have GG : Hid (Bx (w.alloc (.cells #[.int .i64 kd, .int .i64 sz, .int .u32 (ad : Int), .int .u32 (vv : Int), .string (str D)] 25)) w.heap.size sz ad vv D) := ⟨by rw [World.cell?_alloc_at _ _ _ _ rfl]; rfl, by rw [World.cell?_alloc_at _ _ _ _ rfl]; rfl, by rw [World.cell?_alloc_at _ _ _ _ rfl]; rfl, by rw [World.cell?_alloc_at _ _ _ _ rfl]; rfl⟩
  have HS := hide hs
  have HL : Hid (l.length = len) := hs.size
  have OKL := hide hs.ok
  have HE := hide he
  have HD := hide hD
  have KK := hide (And.intro okad (And.intro okv (And.intro okd (And.intro hs1 hs2))))
  clear hs he hD okad okv okd hs1 hs2
  go_enter Tryd.func3, Tryd.ntmps3
  go_wp2_with fail
  generalize w.alloc (.cells #[.int .i64 kd, .int .i64 sz, .int .u32 (ad : Int), .int .u32 (vv : Int), .string (str D)] 25) = W0 at *
  refine Calls.mono (known_any W0) ?_
  rintro e w1 ⟨rfl, b⟩
  have GG := hide (GG.out.below b)
  have X := hide (chain D0.out b)
  clear b D0
  have HP1 : Hid (w.heap.size < w1.heap.size) := block_lt_of_cell GG.out.c1
  have h9 : IntKind.i64.wrap ((len : Int) + 9) = (len : Int) + 9 := by rw [IntKind.wrap_i64]; omega
  have h9' : wrap64 ((len : Int) + 9) = (len : Int) + 9 := by rw [← IntWalk.i64_left, IntKind.wrap_i64]; omega
  go_wp2_with (refine make_pgs rfl (.tmp 50) (.tmp 50) rfl ((len : Int) + 9) ((len : Int) + 9) (len + 9) rfl rfl (by omega) (by omega) (by omega) ?_; intro w2 hO2 hb2; have HO2 := hide hO2; have HB2 := hide hb2; clear hO2 hb2)
  obtain ⟨w3, hrun, ho3, hb3⟩ := copy9 HO2.out (HS.out.below (chain X.out HB2.out)) 3
  have O := hide ho3
  have b := HB2.out.trans hb3
  have X := hide (chain X.out b)
  have GG := hide (GG.out.below b)
  rw [hrun]
  clear hrun ho3 hb3 b HO2 HB2
  simp only [Result.andThen_ok]
  obtain ⟨g, hg⟩ : ∃ g, w1.heap.size = g := ⟨_, rfl⟩
  obtain ⟨p, hp⟩ : ∃ p, w.heap.size = p := ⟨_, rfl⟩
  have HPW := hide hp
  have HGP : Hid (p < g) := by have h1 := HP1.out; unfold Hid; omega
  rw [hg] at O ⊢
  rw [hp] at GG ⊢
  clear hg hp HP1 h9 h9'
  go_wp2
  go_loopw [7] (fun i wr => ∃ (q : Nat) (M : List Pg), q ≤ 3 ∧ i = .int .i64 (q : Int) ∧ Hid (M.length = len) ∧ Hid (Oks M) ∧ Hid (POwn wr g (.slice (some ⟨g, 0, none⟩) (len + 9) (len + 9)) (M ++ z9)) ∧ Hid (Bx wr p sz ad vv D) ∧ Hid (Below w.heap.size w wr)) (fun i _ => 3 - (intOf i).toNat)
  case atStart => exact ⟨0, l, by omega, rfl, HL.out, OKL.out, O.out, GG.out, X.out⟩
  case round =>
    clear O GG X
    obtain ⟨q, M, hq, rfl, HM, OKM, O, GG, X⟩ := hrel
    by_cases hq3 : q < 3
    ·
      as_aux_lemma =>
        have hqq : (q : Int) < 3 := by omega
        have hml : M.length ≤ 1048576 := by have := HM.out; omega
        have hmb : M.length ≤ 1759218604391 := by omega
        obtain ⟨L1, f1, k1, v1, okL1, lL1, br1, sa, sb⟩ := store_both E M HM.out ad vv sz OKM.out hml KK.out.1 KK.out.2.1
        obtain ⟨L2, f2, okL2, lL2, ia, ib⟩ := in_both M HM.out ad D OKM.out hml KK.out.1 HD.out KK.out.2.2.1
        obtain ⟨S3, f3, k3, v3, br3, oa, ob⟩ := out_both E M HM.out ad sz hml KK.out.1 KK.out.2.2.2.1 KK.out.2.2.2.2
        obtain ⟨x4, f4, k4, v4, br4, la, lb⟩ := load_both E M HM.out ad sz KK.out.1
        obtain ⟨x5, f5, fa, fb⟩ := fetch_both M HM.out ad KK.out.1
        obtain ⟨L6, k6, v6, lL6, br6, da, db⟩ := differ_len E M l HM.out HL.out (by omega)
        have HokL1 := hide okL1
        have HlL1 := hide lL1
        have Hbr1 := hide br1
        have Hsa := hide sa
        have Hsb := hide sb
        have HokL2 := hide okL2
        have HlL2 := hide lL2
        have Hia := hide ia
        have Hib := hide ib
        have Hbr3 := hide br3
        have Hoa := hide oa
        have Hob := hide ob
        have Hbr4 := hide br4
        have Hla := hide la
        have Hlb := hide lb
        have Hfa := hide fa
        have Hfb := hide fb
        have HlL6 := hide lL6
        have Hbr6 := hide br6
        have Hda := hide da
        have Hdb := hide db
        clear okL1 lL1 br1 sa sb okL2 lL2 ia ib br3 oa ob br4 la lb fa fb lL6 br6 da db
        go_wp2_with fail
        refine Calls.mono (refCopy_any (some ⟨g, 0, none⟩) len (len + 9) M wr (own_front O.out OKM.out HM.out (by omega))) ?_
        rintro e w8 ⟨x8, rfl, h8, b⟩
        obtain ⟨a8, c8, e8, t8, _⟩ := h8.pgs OKM.out hmb
        rw [HM.out] at e8 t8
        subst e8
        have T8 := hide t8
        have HT8 : Hid (∀ ad, a8 = some ad → ad.block < w8.heap.size) := fun ad e => by
          subst e
          exact (World.ownsRow.lt h8 ad.block rfl).2
        have FB := hide (Five.nil w8 w8.heap.size)
        have HBB : Hid (w8.heap.size ≤ w8.heap.size) := Nat.le_refl _
        replace O := hide (O.out.below b)
        replace X := hide (chain X.out b)
        replace GG := hide (GG.out.below b)
        have HGB : Hid (g < w8.heap.size) := (World.ownsRow.lt O.out g rfl).2
        have HPL : Hid (p < w8.heap.size ∧ w.heap.size ≤ w8.heap.size) := ⟨block_lt_of_cell GG.out.c1, X.out.size⟩
        clear b h8 t8
        have t1 := GG.out.c1
        have t2 := GG.out.c2
        have t3 := GG.out.c3
        go_wp2_with fail
        clear t1 t2 t3
        refine Calls.mono (Hsa.out _ _ _ T8.out) ?_
        rintro e w9 ⟨x9, rfl, h9, b⟩
        obtain ⟨a9, c9, rfl, t9, _⟩ := h9.pgs HokL1.out (by have := HlL1.out; omega)
        have T9 := hide t9
        clear h9 t9
        replace O := hide (O.out.below b)
        replace X := hide (chain X.out b)
        replace GG := hide (GG.out.below b)
        replace T8 := hide (T8.out.below b)
        replace FB := hide (FB.out.below b)
        replace HBB := hide (Nat.le_trans HBB.out b.size)
        clear b
        have t2 := GG.out.c2
        have t4 := GG.out.c4
        go_wp2_with fail
        clear t2 t4
        refine Calls.mono (Hia.out _ _ _ T8.out) ?_
        rintro e w12 ⟨x12, rfl, h12, b⟩
        obtain ⟨a12, c12, rfl, t12, _⟩ := h12.pgs HokL2.out (by have := HlL2.out; omega)
        have T12 := hide t12
        clear h12 t12
        replace O := hide (O.out.below b)
        replace X := hide (chain X.out b)
        replace GG := hide (GG.out.below b)
        replace T8 := hide (T8.out.below b)
        replace FB := hide (FB.out.below b)
        replace HBB := hide (Nat.le_trans HBB.out b.size)
        replace T9 := hide (T9.out.below b)
        clear b
        have t1 := GG.out.c1
        have t2 := GG.out.c2
        go_wp2_with fail
        clear t1 t2
        refine Calls.mono (Hoa.out _ _ _ T8.out) ?_
        rintro e w14 ⟨rfl, b⟩
        replace O := hide (O.out.below b)
        replace X := hide (chain X.out b)
        replace GG := hide (GG.out.below b)
        replace T8 := hide (T8.out.below b)
        replace FB := hide (FB.out.below b)
        replace HBB := hide (Nat.le_trans HBB.out b.size)
        replace T9 := hide (T9.out.below b)
        replace T12 := hide (T12.out.below b)
        clear b
        have t1 := GG.out.c1
        have t2 := GG.out.c2
        have t3 := GG.out.c3
        go_wp2_with fail
        clear t1 t2 t3
        refine Calls.mono (Hsb.out _ _ _ (HE.out.below X.out) (own_front O.out OKM.out HM.out (by omega))) ?_
        rintro e w17 ⟨x17, rfl, h17, b⟩
        obtain ⟨a17, c17, rfl, f17⟩ := FB.out.snoc rfl b HBB.out h17 HokL1.out (by have := HlL1.out; omega)
        replace FB := hide f17
        clear h17 f17
        replace O := hide (O.out.below b)
        replace X := hide (chain X.out b)
        replace GG := hide (GG.out.below b)
        replace T8 := hide (T8.out.below b)
        replace HBB := hide (Nat.le_trans HBB.out b.size)
        replace T9 := hide (T9.out.below b)
        replace T12 := hide (T12.out.below b)
        clear b
        have t2 := GG.out.c2
        have t4 := GG.out.c4
        go_wp2_with fail
        clear t2 t4
        refine Calls.mono (Hib.out _ _ _ (own_front O.out OKM.out HM.out (by omega))) ?_
        rintro e w20 ⟨x20, rfl, h20, b⟩
        obtain ⟨a20, c20, rfl, f20⟩ := FB.out.snoc rfl b HBB.out h20 HokL2.out (by have := HlL2.out; omega)
        replace FB := hide f20
        clear h20 f20
        replace O := hide (O.out.below b)
        replace X := hide (chain X.out b)
        replace GG := hide (GG.out.below b)
        replace T8 := hide (T8.out.below b)
        replace HBB := hide (Nat.le_trans HBB.out b.size)
        replace T9 := hide (T9.out.below b)
        replace T12 := hide (T12.out.below b)
        clear b
        have t1 := GG.out.c1
        have t2 := GG.out.c2
        go_wp2_with fail
        clear t1 t2
        refine Calls.mono (Hob.out _ _ _ (HE.out.below X.out) (own_front O.out OKM.out HM.out (by omega))) ?_
        rintro e w22 ⟨rfl, b⟩
        replace O := hide (O.out.below b)
        replace X := hide (chain X.out b)
        replace GG := hide (GG.out.below b)
        replace T8 := hide (T8.out.below b)
        replace FB := hide (FB.out.below b)
        replace HBB := hide (Nat.le_trans HBB.out b.size)
        replace T9 := hide (T9.out.below b)
        replace T12 := hide (T12.out.below b)
        clear b
        have t1 := GG.out.c1
        have t2 := GG.out.c2
        go_wp2_with fail
        clear t1 t2
        refine Calls.mono (Hla.out _ _ _ T8.out) ?_
        rintro e w25 ⟨rfl, b⟩
        replace O := hide (O.out.below b)
        replace X := hide (chain X.out b)
        replace GG := hide (GG.out.below b)
        replace T8 := hide (T8.out.below b)
        replace FB := hide (FB.out.below b)
        replace HBB := hide (Nat.le_trans HBB.out b.size)
        replace T9 := hide (T9.out.below b)
        replace T12 := hide (T12.out.below b)
        clear b
        have t1 := GG.out.c1
        have t2 := GG.out.c2
        go_wp2_with fail
        clear t1 t2
        refine Calls.mono (Hlb.out _ _ _ (HE.out.below X.out) (own_front O.out OKM.out HM.out (by omega))) ?_
        rintro e w28 ⟨rfl, b⟩
        replace O := hide (O.out.below b)
        replace X := hide (chain X.out b)
        replace GG := hide (GG.out.below b)
        replace T8 := hide (T8.out.below b)
        replace FB := hide (FB.out.below b)
        replace HBB := hide (Nat.le_trans HBB.out b.size)
        replace T9 := hide (T9.out.below b)
        replace T12 := hide (T12.out.below b)
        clear b
        have t2 := GG.out.c2
        go_wp2_with fail
        clear t2
        refine Calls.mono (Hfa.out _ _ _ T8.out) ?_
        rintro e w31 ⟨rfl, b⟩
        replace O := hide (O.out.below b)
        replace X := hide (chain X.out b)
        replace GG := hide (GG.out.below b)
        replace T8 := hide (T8.out.below b)
        replace FB := hide (FB.out.below b)
        replace HBB := hide (Nat.le_trans HBB.out b.size)
        replace T9 := hide (T9.out.below b)
        replace T12 := hide (T12.out.below b)
        clear b
        have t2 := GG.out.c2
        go_wp2_with fail
        clear t2
        refine Calls.mono (Hfb.out _ _ _ (own_front O.out OKM.out HM.out (by omega))) ?_
        rintro e w33 ⟨rfl, b⟩
        replace O := hide (O.out.below b)
        replace X := hide (chain X.out b)
        replace GG := hide (GG.out.below b)
        replace T8 := hide (T8.out.below b)
        replace FB := hide (FB.out.below b)
        replace HBB := hide (Nat.le_trans HBB.out b.size)
        replace T9 := hide (T9.out.below b)
        replace T12 := hide (T12.out.below b)
        clear b
        go_wp2_with fail
        refine Calls.mono (Hdb.out _ _ _ _ _ (HE.out.below X.out) (own_front O.out OKM.out HM.out (by omega)) (HS.out.below X.out)) ?_
        rintro e w35 ⟨x35, rfl, h35, b⟩
        have I35 := hide h35
        clear h35
        replace O := hide (O.out.below b)
        replace X := hide (chain X.out b)
        replace GG := hide (GG.out.below b)
        replace T8 := hide (T8.out.below b)
        replace FB := hide (FB.out.below b)
        replace HBB := hide (Nat.le_trans HBB.out b.size)
        replace T9 := hide (T9.out.below b)
        replace T12 := hide (T12.out.below b)
        clear b
        go_wp2_with fail
        refine Calls.mono (Hda.out _ _ _ _ _ T8.out (HS.out.below X.out)) ?_
        rintro e w37 ⟨x37, rfl, h37, b⟩
        have I37 := hide h37
        clear h37
        replace O := hide (O.out.below b)
        replace X := hide (chain X.out b)
        replace GG := hide (GG.out.below b)
        replace T8 := hide (T8.out.below b)
        replace FB := hide (FB.out.below b)
        replace HBB := hide (Nat.le_trans HBB.out b.size)
        replace T9 := hide (T9.out.below b)
        replace T12 := hide (T12.out.below b)
        replace I35 := hide (I35.out.low b)
        clear b
        go_wp2_with fail
        refine Calls.mono (lcode_any (HE.out.below X.out) v4 _ Hbr4.out) ?_
        rintro e w39 ⟨rfl, b⟩
        replace O := hide (O.out.below b)
        replace X := hide (chain X.out b)
        replace GG := hide (GG.out.below b)
        replace T8 := hide (T8.out.below b)
        replace FB := hide (FB.out.below b)
        replace HBB := hide (Nat.le_trans HBB.out b.size)
        replace T9 := hide (T9.out.below b)
        replace T12 := hide (T12.out.below b)
        replace I35 := hide (I35.out.low b)
        replace I37 := hide (I37.out.low b)
        clear b
        go_wp2_with fail
        refine Calls.mono (lcode_any (HE.out.below X.out) v6 _ Hbr6.out) ?_
        rintro e w40 ⟨rfl, b⟩
        replace O := hide (O.out.below b)
        replace X := hide (chain X.out b)
        replace GG := hide (GG.out.below b)
        replace T8 := hide (T8.out.below b)
        replace FB := hide (FB.out.below b)
        replace HBB := hide (Nat.le_trans HBB.out b.size)
        replace T9 := hide (T9.out.below b)
        replace T12 := hide (T12.out.below b)
        replace I35 := hide (I35.out.low b)
        replace I37 := hide (I37.out.low b)
        clear b
        go_wp2_with fail
        refine Calls.mono (ints_same I35.out I37.out HlL6.out) ?_
        rintro e w41 ⟨rfl, b⟩
        replace O := hide (O.out.below b)
        replace X := hide (chain X.out b)
        replace GG := hide (GG.out.below b)
        replace T8 := hide (T8.out.below b)
        replace FB := hide (FB.out.below b)
        replace HBB := hide (Nat.le_trans HBB.out b.size)
        replace T9 := hide (T9.out.below b)
        replace T12 := hide (T12.out.below b)
        clear b I35 I37
        obtain ⟨C, hC⟩ : ∃ C, M.map Pg.clean = C := ⟨_, rfl⟩
        have HC := hide hC
        have HOC : Hid (Oks C) := fun p hp => by
          rw [← hC] at hp
          obtain ⟨p0, h0, rfl⟩ := List.mem_map.1 hp
          exact Pg.clean_ok (OKM.out p0 h0)
        have HCL : Hid (C.length = len) := by unfold Hid; rw [← hC, List.length_map]; exact HM.out
        have hcb : C.length ≤ 1759218604391 := by have := HCL.out; omega
        clear hC
        go_wp2_with fail
        refine Calls.mono (copy_any (some ⟨g, 0, none⟩) len (len + 9) M _ (own_front O.out OKM.out HM.out (by omega))) ?_
        rintro e w42 ⟨g42, rfl, _, h42, b⟩
        obtain ⟨a42, c42, e42, f42⟩ := FB.out.snoc rfl b HBB.out h42 OKM.out hmb
        rw [HM.out] at e42
        simp only [Value.slice.injEq, true_and] at e42
        obtain ⟨rfl, rfl⟩ := e42
        replace FB := hide f42
        clear h42 f42
        replace O := hide (O.out.below b)
        replace X := hide (chain X.out b)
        replace GG := hide (GG.out.below b)
        replace T8 := hide (T8.out.below b)
        replace HBB := hide (Nat.le_trans HBB.out b.size)
        replace T9 := hide (T9.out.below b)
        replace T12 := hide (T12.out.below b)
        clear b
        go_wp2_with fail
        refine Calls.mono (clean_any (some ⟨g, 0, none⟩) len (len + 9) M _ (own_front O.out OKM.out HM.out (by omega))) ?_
        rintro e w43 ⟨x43, rfl, h43, b⟩
        rw [HC.out] at h43
        obtain ⟨a43, c43, rfl, f43⟩ := FB.out.snoc rfl b HBB.out h43 HOC.out hcb
        replace FB := hide f43
        clear h43 f43
        replace O := hide (O.out.below b)
        replace X := hide (chain X.out b)
        replace GG := hide (GG.out.below b)
        replace T8 := hide (T8.out.below b)
        replace HBB := hide (Nat.le_trans HBB.out b.size)
        replace T9 := hide (T9.out.below b)
        replace T12 := hide (T12.out.below b)
        clear b
        have H843 : Hid (w8.heap.size ≤ w43.heap.size) := HBB.out
        go_wp2_with fail
        refine Calls.mono (written_any (some ⟨g, 0, none⟩) len (len + 9) M _ (own_front O.out OKM.out HM.out (by omega))) ?_
        rintro e w44 ⟨x44, rfl, h44, b⟩
        have I44 := hide h44
        clear h44
        replace O := hide (O.out.below b)
        replace X := hide (chain X.out b)
        replace GG := hide (GG.out.below b)
        replace T8 := hide (T8.out.below b)
        replace FB := hide (FB.out.below b)
        replace HBB := hide (Nat.le_trans HBB.out b.size)
        replace T9 := hide (T9.out.below b)
        replace T12 := hide (T12.out.below b)
        clear b
        go_wp2_with fail
        refine Calls.mono (written_any (some ⟨g, 0, none⟩) len (len + 9) M _ (own_front O.out OKM.out HM.out (by omega))) ?_
        rintro e w45 ⟨x45, rfl, h45, b⟩
        have HLT : Hid (∀ k, x44.ownBlock = some k → k < w44.heap.size) := fun k e => (World.ownsRow.lt I44.out k e).2
        have I45 := hide h45
        clear h45
        replace O := hide (O.out.below b)
        replace X := hide (chain X.out b)
        replace GG := hide (GG.out.below b)
        replace T8 := hide (T8.out.below b)
        replace FB := hide (FB.out.below b)
        replace HBB := hide (Nat.le_trans HBB.out b.size)
        replace T9 := hide (T9.out.below b)
        replace T12 := hide (T12.out.below b)
        replace I44 := hide (I44.out.low b)
        clear b
        go_wp2_with fail
        refine Calls.mono (lcode_any (HE.out.below X.out) v1 _ Hbr1.out) ?_
        rintro e w46 ⟨rfl, b⟩
        replace O := hide (O.out.below b)
        replace X := hide (chain X.out b)
        replace GG := hide (GG.out.below b)
        replace T8 := hide (T8.out.below b)
        replace FB := hide (FB.out.below b)
        replace HBB := hide (Nat.le_trans HBB.out b.size)
        replace T9 := hide (T9.out.below b)
        replace T12 := hide (T12.out.below b)
        replace I44 := hide (I44.out.low b)
        replace I45 := hide (I45.out.low b)
        clear b
        go_wp2_with fail
        refine Calls.mono (lcode_any (HE.out.below X.out) v3 _ Hbr3.out) ?_
        rintro e w47 ⟨rfl, b⟩
        replace O := hide (O.out.below b)
        replace X := hide (chain X.out b)
        replace GG := hide (GG.out.below b)
        replace T8 := hide (T8.out.below b)
        replace FB := hide (FB.out.below b)
        replace HBB := hide (Nat.le_trans HBB.out b.size)
        replace T9 := hide (T9.out.below b)
        replace T12 := hide (T12.out.below b)
        replace I44 := hide (I44.out.low b)
        replace I45 := hide (I45.out.low b)
        clear b
        go_wp2_with fail
        refine Calls.mono (refSame_any (some ⟨g, 0, none⟩) len (len + 9) M a8 c8 _ (own_front O.out OKM.out HM.out (by omega)) T8.out) ?_
        rintro e w48 ⟨rfl, b⟩
        replace O := hide (O.out.below b)
        replace X := hide (chain X.out b)
        replace GG := hide (GG.out.below b)
        replace T8 := hide (T8.out.below b)
        replace FB := hide (FB.out.below b)
        replace HBB := hide (Nat.le_trans HBB.out b.size)
        replace T9 := hide (T9.out.below b)
        replace T12 := hide (T12.out.below b)
        replace I44 := hide (I44.out.low b)
        replace I45 := hide (I45.out.low b)
        clear b
        go_wp2_with fail
        refine Calls.mono (alike_any (some ⟨g, 0, none⟩) len (len + 9) M a8 len c8 M _ (own_front O.out OKM.out HM.out (by omega)) T8.out) ?_
        rintro e w49 ⟨rb, rfl, hrb, b⟩
        obtain rfl : rb = true := hrb.2 rfl
        clear hrb
        replace O := hide (O.out.below b)
        replace X := hide (chain X.out b)
        replace GG := hide (GG.out.below b)
        replace T8 := hide (T8.out.below b)
        replace FB := hide (FB.out.below b)
        replace HBB := hide (Nat.le_trans HBB.out b.size)
        replace T9 := hide (T9.out.below b)
        replace T12 := hide (T12.out.below b)
        replace I44 := hide (I44.out.low b)
        replace I45 := hide (I45.out.low b)
        clear b
        go_wp2_with fail
        refine Calls.mono (refSame_any a17 _ c17 L1 a9 c9 _ (FB.out.pgs 0 rfl rfl (by have := HlL1.out; omega)) T9.out) ?_
        rintro e w50 ⟨rfl, b⟩
        replace O := hide (O.out.below b)
        replace X := hide (chain X.out b)
        replace GG := hide (GG.out.below b)
        replace T8 := hide (T8.out.below b)
        replace FB := hide (FB.out.below b)
        replace HBB := hide (Nat.le_trans HBB.out b.size)
        replace T12 := hide (T12.out.below b)
        replace I44 := hide (I44.out.low b)
        replace I45 := hide (I45.out.low b)
        clear b T9
        go_wp2_with fail
        refine Calls.mono (refSame_any a20 _ c20 L2 a12 c12 _ (FB.out.pgs 1 rfl rfl (by have := HlL2.out; omega)) T12.out) ?_
        rintro e w51 ⟨rfl, b⟩
        replace O := hide (O.out.below b)
        replace X := hide (chain X.out b)
        replace GG := hide (GG.out.below b)
        replace T8 := hide (T8.out.below b)
        replace FB := hide (FB.out.below b)
        replace HBB := hide (Nat.le_trans HBB.out b.size)
        replace I44 := hide (I44.out.low b)
        replace I45 := hide (I45.out.low b)
        clear b T12
        go_wp2_with fail
        refine Calls.mono (refSame_any (some ⟨g42, 0, none⟩) len len M a8 c8 _ (FB.out.pgs 2 (by rw [HM.out]; rfl) rfl hmb) T8.out) ?_
        rintro e w52 ⟨rfl, b⟩
        replace O := hide (O.out.below b)
        replace X := hide (chain X.out b)
        replace GG := hide (GG.out.below b)
        replace T8 := hide (T8.out.below b)
        replace FB := hide (FB.out.below b)
        replace HBB := hide (Nat.le_trans HBB.out b.size)
        replace I44 := hide (I44.out.low b)
        replace I45 := hide (I45.out.low b)
        clear b
        go_wp2_with fail
        refine Calls.mono (refClean_any a8 len c8 M _ T8.out) ?_
        rintro e w53 ⟨x53, rfl, h53, b⟩
        rw [HC.out] at h53
        obtain ⟨a53, c53, rfl, t53, _⟩ := h53.pgs HOC.out hcb
        have T53 := hide t53
        clear h53 t53
        replace O := hide (O.out.below b)
        replace X := hide (chain X.out b)
        replace GG := hide (GG.out.below b)
        replace T8 := hide (T8.out.below b)
        replace FB := hide (FB.out.below b)
        replace HBB := hide (Nat.le_trans HBB.out b.size)
        replace I44 := hide (I44.out.low b)
        replace I45 := hide (I45.out.low b)
        clear b
        go_wp2_with fail
        refine Calls.mono (refSame_any a43 _ c43 C a53 c53 _ (FB.out.pgs 3 rfl rfl hcb) T53.out) ?_
        rintro e w54 ⟨rfl, b⟩
        replace O := hide (O.out.below b)
        replace X := hide (chain X.out b)
        replace GG := hide (GG.out.below b)
        replace T8 := hide (T8.out.below b)
        replace FB := hide (FB.out.below b)
        replace HBB := hide (Nat.le_trans HBB.out b.size)
        replace I44 := hide (I44.out.low b)
        replace I45 := hide (I45.out.low b)
        clear b T53
        go_wp2_with fail
        refine Calls.mono (refWritten_any a8 len c8 M _ T8.out) ?_
        rintro e w55 ⟨x55, rfl, h55, b⟩
        have I55 := hide h55
        clear h55
        replace O := hide (O.out.below b)
        replace X := hide (chain X.out b)
        replace GG := hide (GG.out.below b)
        replace T8 := hide (T8.out.below b)
        replace FB := hide (FB.out.below b)
        replace HBB := hide (Nat.le_trans HBB.out b.size)
        replace I44 := hide (I44.out.low b)
        replace I45 := hide (I45.out.low b)
        clear b
        go_wp2_with fail
        refine Calls.mono (ints_same I44.out I55.out (drt_le M hm)) ?_
        rintro e w56 ⟨rfl, b⟩
        replace O := hide (O.out.below b)
        replace X := hide (chain X.out b)
        replace GG := hide (GG.out.below b)
        replace T8 := hide (T8.out.below b)
        replace FB := hide (FB.out.below b)
        replace HBB := hide (Nat.le_trans HBB.out b.size)
        replace I44 := hide (I44.out.low b)
        replace I45 := hide (I45.out.low b)
        clear b I55
        go_wp2_with fail
        refine Calls.mono (ints_same I45.out I44.out (drt_le M hm)) ?_
        rintro e w57 ⟨rfl, b⟩
        replace O := hide (O.out.below b)
        replace X := hide (chain X.out b)
        replace GG := hide (GG.out.below b)
        replace T8 := hide (T8.out.below b)
        replace FB := hide (FB.out.below b)
        replace HBB := hide (Nat.le_trans HBB.out b.size)
        replace I44 := hide (I44.out.low b)
        replace I45 := hide (I45.out.low b)
        clear b
        obtain ⟨a44, c44, rfl, _⟩ := I44.out.ivs (drt_le M hm)
        obtain ⟨a45, c45, rfl, _⟩ := I45.out.ivs (drt_le M hm)
        go_wp2_with fail
        have F5 : Five w57 w8.heap.size [⟨a17, L1.length, c17⟩, ⟨a20, L2.length, c20⟩, ⟨some ⟨g42, 0, none⟩, M.length, len⟩, ⟨a43, C.length, c43⟩] [L1, L2, M, C] := FB.out
        rw [HM.out] at F5
        have bA : Below w57.heap.size w57 (w57.alloc (.cells #[.slice a17 L1.length c17, .slice a20 L2.length c20, .slice (some ⟨g42, 0, none⟩) len len, .slice a43 C.length c43] 22)) := (Below.refl _ _).alloc (Nat.le_refl _) _
        have hLL : Rcs Sl.cell 1 (w57.alloc (.cells #[.slice a17 L1.length c17, .slice a20 L2.length c20, .slice (some ⟨g42, 0, none⟩) len len, .slice a43 C.length c43] 22)) (some ⟨w57.heap.size, 0, none⟩) 4 4 [⟨a17, L1.length, c17⟩, ⟨a20, L2.length, c20⟩, ⟨some ⟨g42, 0, none⟩, len, len⟩, ⟨a43, C.length, c43⟩] := four_row w57 ⟨a17, L1.length, c17⟩ ⟨a20, L2.length, c20⟩ ⟨some ⟨g42, 0, none⟩, len, len⟩ ⟨a43, C.length, c43⟩ 22
        have hal := alloc_lt w57 (.cells #[.slice a17 L1.length c17, .slice a20 L2.length c20, .slice (some ⟨g42, 0, none⟩) len len, .slice a43 C.length c43] 22)
        obtain ⟨LL, hLd⟩ : ∃ LL : List Sl, LL = [⟨a17, L1.length, c17⟩, ⟨a20, L2.length, c20⟩, ⟨some ⟨g42, 0, none⟩, len, len⟩, ⟨a43, C.length, c43⟩] := ⟨_, rfl⟩
        have hnn : ∀ s ∈ LL, s.n ≤ 1400000 := fun s hs => by
          have h1 := HlL1.out
          have h2 := HlL2.out
          rw [hLd] at hs
          simp only [List.mem_cons, List.not_mem_nil, or_false] at hs
          rcases hs with rfl | rfl | rfl | rfl
          · show L1.length ≤ 1400000; omega
          · show L2.length ≤ 1400000; omega
          · show len ≤ 1400000; omega
          · show C.length ≤ 1400000; have := HCL.out; omega
        rw [← hLd] at F5 hLL
        clear hLd
        generalize hWA : w57.alloc (.cells #[.slice a17 L1.length c17, .slice a20 L2.length c20, .slice (some ⟨g42, 0, none⟩) len len, .slice a43 C.length c43] 22) = WA at *
        clear hWA
        have F6 := F5.below bA
        have OA := O.out.below bA
        have TA := T8.out.below bA
        have hlo : ∀ k, k < w8.heap.size → k < WA.heap.size ∧ ∀ s ∈ LL, s.v.ownBlock ≠ some k := fun k hk => ⟨by have h1 := HBB.out; omega, fun s hs e => by have h1 := (F6.lt hs e).1; omega⟩
        refine Calls.mono (apart_any (w := WA) (fun k => k < WA.heap.size ∧ ∀ s ∈ LL, s.v.ownBlock ≠ some k) w8.heap.size w57.heap.size 4 4 LL _ (some ⟨g, 0, none⟩) a8 len (len + 9) c8 M (own_front OA OKM.out HM.out (by omega)) TA (fun ad e => by obtain rfl := Option.some.inj e; exact hlo g HGB.out) (fun ad e => hlo _ (HT8.out ad e)) hLL (by decide) F6.lists F6.apt hnn (fun s hs e => by have h1 := (F5.lt hs e).2; omega) hal (fun k hk => hk.1) (fun k hk => hk.2)) ?_
        rintro e w58 ⟨rfl, u⟩
        replace O := hide (show POwn w58 g (.slice (some ⟨g, 0, none⟩) (len + 9) (len + 9)) (M ++ z9) from own_unt OA u (fun k hk => by obtain rfl : g = k := (by simpa [Value.ownBlock] using hk); exact hlo g HGB.out))
        replace T8 := hide (pgs_unt TA u (fun ad e => hlo _ (HT8.out ad e)))
        replace GG := hide ((GG.out.below bA).unt u (hlo p HPL.out.1))
        replace X := hide (bel_unt (chain X.out bA) u (fun k hk => hlo k (by have := HPL.out.2; omega)))
        have hIa : ∀ {base : Nat} {v : Value} {L : List Nat}, IOwn w57 base v L → IOwn w58 base v L := fun {base v L} h => own_unt (h.low bA) u (fun k hk => ⟨by have h1 := (World.ownsRow.lt (h.low bA) k hk).2; exact h1, fun s hs e => by
          obtain ⟨j, hj⟩ := List.mem_iff_getElem?.1 hs
          obtain ⟨m, _, h2, _⟩ := F6.all j s hj
          exact own_ne (h.low bA) h2 (by decide) hk e⟩)
        replace I44 := hide (hIa I44.out)
        replace I45 := hide (hIa I45.out)
        have H8B : Hid (w8.heap.size ≤ w58.heap.size) := by have h1 := HBB.out; have h2 := bA.size; have h3 := u.size; unfold Hid; omega
        clear u bA hLL hnn F5 F6 OA TA hlo hIa FB HBB hal
        obtain ⟨n4, hn4⟩ : ∃ n4, (drt M len).length = n4 := ⟨_, rfl⟩
        have HN4 : Hid (n4 ≤ 1048576) := by rw [← hn4]; exact Nat.le_trans (drt_len M len) hm
        replace I44 : Hid (w58.ownsRow w43.heap.size 3 1 (.slice a44 n4 c44) n4 ((drt M len).map iv)) := by rw [← hn4]; exact I44.out
        rw [hn4] at HLT I45 ⊢
        clear hn4
        go_upto_region 32 with fail
        refine tail32 w w8 w43 w44 w58 M q hq3 hm HM OKM O GG X T8 I44 I45 HN4 H8B HT8 HGB HPL HLT H843 HGP HPW rfl rfl rfl (by assumption) (by assumption) ?_
        clear O GG X T8 I44 I45 HN4 H8B HT8 HGB HPL HLT H843
        intro M2 w' HM2 OK2 O GG X u43 u44 u304 u305 u306 u307 u308 u309 u310 u311 u312 u313 u314 u315 u316 u317 u318 u319 u320 u321 u322 u323 u324 u325 u326 u327 u328 u329 u330 u331 u332 u333 u334 u335 u336 u337 u338 u339 u340 u341 u342 u343 u344 u345 u346 u347 u348 u349
        go_wp2
        exact ⟨⟨q + 1, M2, by omega, by first | rfl | simp, HM2.out, OK2.out, O.out, GG.out, X.out⟩, by simp [intOf]; omega⟩
    · obtain rfl : q = 3 := by omega
      as_aux_lemma =>
        obtain ⟨W2, hW2⟩ : ∃ W, W = wr := ⟨_, rfl⟩
        subst hW2
        go_wp2
        go_loopw [45] (fun i wx => ∃ r : Nat, len ≤ r ∧ r ≤ len + 9 ∧ i = .int .i64 (r : Int) ∧ Hid (wx = W2)) (fun i _ => len + 9 - (intOf i).toNat)
        case atStart => exact ⟨len, by omega, by omega, rfl, rfl⟩
        case round =>
          obtain ⟨r, hr0, hr1, rfl, hwz⟩ := hrel
          obtain rfl : W2 = wr := hwz.out.symm
          by_cases hrl : r < len + 9
          · have hrr : (r : Int) < ((len + 9 : Nat) : Int) := by omega
            have hrr2 : (r : Int) < (len : Int) + 9 := by omega
            have rS := z9_at O.out OKM.out HM.out hr0 hrl
            have hpo : (pk 0).Ok := pk_ok 0 (by decide) (by decide)
            have HPO := hide hpo
            have HU := hide Tryd.underlying59
            have HI : Hid ((Tryd.prog.info? 59).map (·.size) = some (pk 0).cells.length) := by unfold Hid; rw [hpo.cells]; exact sizePage
            have hzp : ∀ w, (zeroValue 59).run Tryd.prog w = .ok (.agg (pk 0).cells.toArray) w := zero_page
            have hne : (pk 0).cells.toArray ≠ #[] := by decide
            clear hpo
            generalize pk 0 = z0 at *
            go_upto_region 46 with fail
            refine wp_region_list ?_
            refine wpList_tail (pre := [{ dst := some 358, op := Go.Op.move (Go.Operand.tmp 5), type := 22, pos := "outright.go:200", after := #[], guard := none }, { dst := some 359, op := Go.Op.move (Go.Operand.tmp 45), type := 3, pos := "outright.go:200", after := #[], guard := none }, { dst := some 360, op := Go.Op.indexAddr 22 (Go.Operand.tmp 358) (Go.Operand.tmp 359), type := 0, pos := "outright.go:200", after := #[{ on := 0, ground := Go.Ground.data }, { on := 1, ground := Go.Ground.data }], guard := none }]) _ ?_
            intro tl htl
            have HTL := hide htl
            clear htl
            simp only [List.cons_append, List.nil_append]
            go_wp2_with fail
            have htl := HTL.out
            clear HTL
            subst htl
            refine wpList_load_g (op := { dst := some 361, op := Go.Op.load 59 (Go.Operand.tmp 360), type := 59, pos := "outright.go:200", after := #[{ on := 2, ground := Go.Ground.data }], guard := none }) (by rfl) 59 (.tmp 360) rfl g (r * 66) rfl z0.cells _ rS HU.out rfl HI.out ?_
            simp only [Act.put, List.setIfInBounds_toArray, List.set_cons_zero, List.set_cons_succ]
            refine wpList_tail (pre := [{ dst := some 362, op := Go.Op.build 59 #[], type := 59, pos := "outright.go:200", after := #[], guard := none }]) _ ?_
            intro tl htl
            have HTL := hide htl
            clear htl
            simp only [List.cons_append, List.nil_append]
            go_wp2_with fail
            have htl := HTL.out
            clear HTL
            subst htl
            refine wpList_run_g (op := { dst := some 363, op := Go.Op.binOp Go.BinOp.neq 59 (Go.Operand.tmp 361) (Go.Operand.tmp 362) 59, type := 4, pos := "outright.go:200", after := #[{ on := 3, ground := Go.Ground.data }, { on := 4, ground := Go.Ground.data }], guard := none }) (by rfl) (.bool false) (neq_pg HPO.out _ (.tmp 361) (.tmp 362) rfl rfl _ _ rfl _) ?_
            simp only [Act.put, List.setIfInBounds_toArray, List.set_cons_zero, List.set_cons_succ]
            go_wp2
            refine ⟨?_, ?measure⟩
            case measure => simp [intOf]; omega
            repeat apply Exists.intro
            refine ⟨?rel, rfl⟩
            case rel => exact ⟨r + 1, by omega, by omega, by first | rfl | simp, by first | rfl | trivial⟩
          · obtain rfl : r = len + 9 := by omega
            go_wp2
            go_ret
            exact ⟨rfl, X.out⟩
end Go.Proofs.YtbekdbgnpcbklaaDoor.pageApart
