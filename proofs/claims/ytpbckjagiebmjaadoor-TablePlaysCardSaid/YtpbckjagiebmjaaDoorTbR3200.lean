/- TablePlays: what is asked of both tables (region 32), one way. By the verifier of shale. -/
import Derived.Test.YtpbckjagiebmjaaDoorGreat1
import Derived.Test.YtpbckjagiebmjaaDoorGreat2
import Derived.Test.YtpbckjagiebmjaaDoorGreat3
import Derived.Deep.RegionHeld3
import Derived.Lib.QuietBelow
import Derived.Deep.Cut
namespace Go.Proofs.YtpbckjagiebmjaaDoor.Tb
open Go Go.RowKit
set_option linter.unusedVariables false
set_option linter.unusedSimpArgs false
set_option maxRecDepth 100000 in
set_option maxHeartbeats 40000000 in
theorem r32_00 {w3 wr : World} {bb B4 xp tb mb ob B P cO pb zb N : Nat} {kb : Nat → Nat} {kf2 : Nat → Nat → Int} {m2 : Int → Option Sl} {cnt2 nb2 : Nat} {a2 : Option Addr} {c2 : Nat} {R2 : List Sl} {s : Sl} {ka pB pP : Int}
    (HPC : PCt w3 bb B4 B4 xp tb mb ob B P cO kb kf2 m2 cnt2 nb2 a2 c2 R2 wr) (HZB : wr.heap[zb]? = some (.cells #[.int .i64 s.k, .int .i64 s.b, .int .i64 s.p, .int .i64 s.m0, .int .i64 s.m1, .int .i64 s.m2, .int .i64 s.m3, .int .i64 s.m4, .int .i64 s.m5] 47 (0, 0))) (hM : ListOf m2 R2) (hN : N = R2.length) (hN1 : N ≤ 1000)
    (HLO : ∀ W, Below bb w3 W → W.cell? ⟨pb, 0, none⟩ = some (.int .i64 pB)) (v0 v1 v2 v3 v4 v5 v6 v7 v8 v9 v11 v12 v13 v15 v16 v18 v19 v20 v21 v22 v23 v24 v31 v32 v33 v34 v35 v36 v37 v38 v39 v40 v41 v42 v43 v44 v45 v46 v47 v48 v49 v50 v51 v52 v53 v54 v55 v56 v57 v58 v59 v60 v61 v62 v63 v64 v65 v66 v67 v68 v69 v70 v71 v72 v73 v74 v75 v76 v77 v78 v79 v80 v81 v82 v83 v84 v85 v86 v87 v88 v89 v90 v91 v92 v93 v94 v95 v96 v97 v98 v99 v100 v101 v102 v103 v104 v105 v106 v107 v108 v109 v110 v111 v112 v113 v114 v115 v116 v117 v118 v119 v120 v121 v122 v123 v124 v125 v126 v127 v128 v129 v130 v131 v132 v133 v134 v135 v136 v137 v138 v139 v140 v141 v142 v143 v144 v145 v146 v147 v148 v149 v150 v151 v152 v153 v154 v155 v156 v157 v158 v159 v160 v161 v162 v163 v164 v165 v166 v167 v168 v169 v170 v171 v172 v173 v174 v175 v176 v177 v178 v179 v180 v181 v182 v183 v184 v185 v186 v187 v188 v189 v190 v191 v192 v193 v194 v195 v196 v197 v198 v199 v200 v201 v202 v203 v204 v205 v206 v207 v208 v209 v210 v211 v212 v213 v214 v215 v216 v217 v218 v219 v220 v221 v222 v223 v224 v225 v226 v227 v228 v229 v230 v231 v232 v233 v234 v235 v236 v237 v238 v239 v240 v241 v242 v243 v244 v245 v246 v247 v248 v249 v250 v251 v252 v253 v254 v255 v256 v257 v258 v259 v260 v261 v262 v263 v264 v265 v266 v267 v268 v269 v270 v271 v272 v273 v274 v275 v276 v277 v278 v279 v280 v281 v282 v283 v284 v285 v286 v287 v288 v289 v290 v291 v292 v293 v294 v295 v296 v297 v298 v299 v300 v301 v302 v303 v304 v305 v306 v307 v308 v309 v310 v311 v312 v313 v314 v315 v316 v317 v318 v319 v320 v321 v322 v323 v324 v325 v326 v327 v328 v329 v330 v331 v332 v333 v334 v335 v336 v337 v338 v339 v340 v341 v342 v343 v344 v345 v346 v347 v348 v349 v350 v351 v352 v353 v354 v355 v356 : Value) (Q : Exit → Act → World → Prop)
    (hQ : ∀ (u210 u211 u212 u213 u214 u215 u216 u217 u218 u219 u220 u221 u222 u223 u224 u225 u226 u227 u228 u229 u230 u231 u232 u233 u234 u235 u236 u237 u238 u239 u240 u241 u242 u243 u244 u245 u246 u247 u248 u249 u250 u251 u252 u253 u254 u255 u256 u257 u258 u259 u260 u261 u262 u263 u264 u265 u266 u267 u268 u269 u270 u271 u272 u273 u274 u275 u276 u277 u278 u279 u280 u281 u282 u283 u284 u285 u286 : Value) (w' : World), Below wr.heap.size wr w' → Q .normal ⟨#[v0, v1, v2, v3, v4, v5, v6, v7, v8, v9, .pointer (some ⟨pb, 0, none⟩), v11, v12, v13, .pointer (some ⟨tb, 0, none⟩), v15, v16, .pointer (some ⟨xp, 0, none⟩), v18, v19, v20, v21, v22, v23, v24, .pointer (some ⟨zb, 0, none⟩), .bool false, .int .i64 ka, .bool false, .int .i64 (-1), .int .i64 (-1), v31, v32, v33, v34, v35, v36, v37, v38, v39, v40, v41, v42, v43, v44, v45, v46, v47, v48, v49, v50, v51, v52, v53, v54, v55, v56, v57, v58, v59, v60, v61, v62, v63, v64, v65, v66, v67, v68, v69, v70, v71, v72, v73, v74, v75, v76, v77, v78, v79, v80, v81, v82, v83, v84, v85, v86, v87, v88, v89, v90, v91, v92, v93, v94, v95, v96, v97, v98, v99, v100, v101, v102, v103, v104, v105, v106, v107, v108, v109, v110, v111, v112, v113, v114, v115, v116, v117, v118, v119, v120, v121, v122, v123, v124, v125, v126, v127, v128, v129, v130, v131, v132, v133, v134, v135, v136, v137, v138, v139, v140, v141, v142, v143, v144, v145, v146, v147, v148, v149, v150, v151, v152, v153, v154, v155, v156, v157, v158, v159, v160, v161, v162, v163, v164, v165, v166, v167, v168, v169, v170, v171, v172, v173, v174, v175, v176, v177, v178, v179, v180, v181, v182, v183, v184, v185, v186, v187, v188, v189, v190, v191, v192, v193, v194, v195, v196, v197, v198, v199, v200, v201, v202, v203, v204, v205, v206, v207, v208, v209, u210, u211, u212, u213, u214, u215, u216, u217, u218, u219, u220, u221, u222, u223, u224, u225, u226, u227, u228, u229, u230, u231, u232, u233, u234, u235, u236, u237, u238, u239, u240, u241, u242, u243, u244, u245, u246, u247, u248, u249, u250, u251, u252, u253, u254, u255, u256, u257, u258, u259, u260, u261, u262, u263, u264, u265, u266, u267, u268, u269, u270, u271, u272, u273, u274, u275, u276, u277, u278, u279, u280, u281, u282, u283, u284, u285, u286, .bool false, v288, v289, v290, v291, v292, v293, v294, v295, v296, v297, v298, v299, v300, v301, v302, v303, v304, v305, v306, v307, v308, v309, v310, v311, v312, v313, v314, v315, v316, v317, v318, v319, v320, v321, v322, v323, v324, v325, v326, v327, v328, v329, v330, v331, v332, v333, v334, v335, v336, v337, v338, v339, v340, v341, v342, v343, v344, v345, v346, v347, v348, v349, v350, v351, v352, v353, v354, v355, v356], []⟩ w') :
    Code.wp Tryd.prog reg32 Q ⟨#[v0, v1, v2, v3, v4, v5, v6, v7, v8, v9, .pointer (some ⟨pb, 0, none⟩), v11, v12, v13, .pointer (some ⟨tb, 0, none⟩), v15, v16, .pointer (some ⟨xp, 0, none⟩), v18, v19, v20, v21, v22, v23, v24, .pointer (some ⟨zb, 0, none⟩), .bool false, .int .i64 ka, .bool false, .int .i64 (-1), .int .i64 (-1), v31, v32, v33, v34, v35, v36, v37, v38, v39, v40, v41, v42, v43, v44, v45, v46, v47, v48, v49, v50, v51, v52, v53, v54, v55, v56, v57, v58, v59, v60, v61, v62, v63, v64, v65, v66, v67, v68, v69, v70, v71, v72, v73, v74, v75, v76, v77, v78, v79, v80, v81, v82, v83, v84, v85, v86, v87, v88, v89, v90, v91, v92, v93, v94, v95, v96, v97, v98, v99, v100, v101, v102, v103, v104, v105, v106, v107, v108, v109, v110, v111, v112, v113, v114, v115, v116, v117, v118, v119, v120, v121, v122, v123, v124, v125, v126, v127, v128, v129, v130, v131, v132, v133, v134, v135, v136, v137, v138, v139, v140, v141, v142, v143, v144, v145, v146, v147, v148, v149, v150, v151, v152, v153, v154, v155, v156, v157, v158, v159, v160, v161, v162, v163, v164, v165, v166, v167, v168, v169, v170, v171, v172, v173, v174, v175, v176, v177, v178, v179, v180, v181, v182, v183, v184, v185, v186, v187, v188, v189, v190, v191, v192, v193, v194, v195, v196, v197, v198, v199, v200, v201, v202, v203, v204, v205, v206, v207, v208, v209, v210, v211, v212, v213, v214, v215, v216, v217, v218, v219, v220, v221, v222, v223, v224, v225, v226, v227, v228, v229, v230, v231, v232, v233, v234, v235, v236, v237, v238, v239, v240, v241, v242, v243, v244, v245, v246, v247, v248, v249, v250, v251, v252, v253, v254, v255, v256, v257, v258, v259, v260, v261, v262, v263, v264, v265, v266, v267, v268, v269, v270, v271, v272, v273, v274, v275, v276, v277, v278, v279, v280, v281, v282, v283, v284, v285, v286, v287, v288, v289, v290, v291, v292, v293, v294, v295, v296, v297, v298, v299, v300, v301, v302, v303, v304, v305, v306, v307, v308, v309, v310, v311, v312, v313, v314, v315, v316, v317, v318, v319, v320, v321, v322, v323, v324, v325, v326, v327, v328, v329, v330, v331, v332, v333, v334, v335, v336, v337, v338, v339, v340, v341, v342, v343, v344, v345, v346, v347, v348, v349, v350, v351, v352, v353, v354, v355, v356], []⟩ wr := by
  obtain ⟨OL, hOL⟩ : ∃ OL, OL = ofL R2 pB P := ⟨_, rfl⟩
  obtain ⟨NL, hNL⟩ : ∃ NL, NL = OL.length := ⟨_, rfl⟩
  have HOL : Hid (OL = ofL R2 pB P ∧ NL = OL.length ∧ OL.length ≤ 5000) := ⟨hOL, hNL, by
    rw [hOL]
    have h := of_small HPC.t hM pB
    omega⟩
  have HN : Hid (N = R2.length ∧ N ≤ 1000 ∧ cnt2 = N) := ⟨hN, hN1, by rw [hN]; exact (HPC.len hM).symm⟩
  have HPW := Lib.hid (And.intro HPC HZB)
  have HM := Lib.hid (And.intro hM trivial)
  have HLP := Lib.hid HLO
  have HQF := Lib.hid hQ
  have hNi : (N : Int) ≤ 1000 := by have := HN.out.2.1; omega
  clear HPC HZB hM hN hN1 HLO hQ hOL hNL
  have HSS : Hid (∀ W : World, (Below wr.heap.size wr W) → (W.cell? ⟨xp, 0, none⟩ = some (.pointer (some ⟨B4, 0, none⟩)) ∧ W.cell? ⟨B4, 2, none⟩ = some (.slice a2 N c2) ∧ W.cell? ⟨pb, 0, none⟩ = some (.int .i64 pB))) := fun W b => by
    have p := HPW.out.1.below b
    have p2 := p.r.cell.2.2.1
    rw [← HN.out.1] at p2
    exact ⟨p.ptr, p2, HLP.out W p.bel⟩
  have HZZ : Hid (∀ W W' : World, (Below wr.heap.size wr W) → Below W.heap.size W W' → (Below wr.heap.size wr W')) := fun W W' h b => h.trans (b.mono h.size)
  have HLen : Hid (∀ W : World, (Below wr.heap.size wr W) → Calls Tryd.prog 18 #[.pointer (some ⟨tb, 0, none⟩)] W fun e W' => e = .returned (.int .i64 (N : Int)) ∧ (W'.cell? ⟨xp, 0, none⟩ = some (.pointer (some ⟨B4, 0, none⟩)) ∧ W'.cell? ⟨B4, 2, none⟩ = some (.slice a2 N c2) ∧ W'.cell? ⟨pb, 0, none⟩ = some (.int .i64 pB)) ∧ (Below wr.heap.size wr W')) := fun W hz => by
    have h := len_any (HPW.out.1.below hz).t
    rw [HN.out.2.2] at h
    refine h.mono ?_
    rintro e W' ⟨rfl, rfl⟩
    exact ⟨rfl, HSS.out _ hz, hz⟩
  have HLive : Hid (∀ W : World, (Below wr.heap.size wr W) → Calls Tryd.prog 19 #[.pointer (some ⟨tb, 0, none⟩), .int .i64 pB] W fun e W' => e = .returned (.int .i64 (NL : Int)) ∧ (W'.cell? ⟨xp, 0, none⟩ = some (.pointer (some ⟨B4, 0, none⟩)) ∧ W'.cell? ⟨B4, 2, none⟩ = some (.slice a2 N c2) ∧ W'.cell? ⟨pb, 0, none⟩ = some (.int .i64 pB)) ∧ (Below wr.heap.size wr W')) := fun W hz => by
    have h := live_all (HPW.out.1.below hz).t HM.out.1 pB
    rw [← HOL.out.1, ← HOL.out.2.1] at h
    refine h.mono ?_
    rintro e W' ⟨rfl, rfl⟩
    exact ⟨rfl, HSS.out _ hz, hz⟩
  have HOf : Hid (∀ W : World, (Below wr.heap.size wr W) → Calls Tryd.prog 20 #[.pointer (some ⟨B4, 0, none⟩), .int .i64 pB] W fun e W' => ∃ a' c', e = .returned (.slice a' NL c') ∧ (W'.cell? ⟨xp, 0, none⟩ = some (.pointer (some ⟨B4, 0, none⟩)) ∧ W'.cell? ⟨B4, 2, none⟩ = some (.slice a2 N c2) ∧ W'.cell? ⟨pb, 0, none⟩ = some (.int .i64 pB)) ∧ (Below wr.heap.size wr W') ∧ RdS W' a' OL ∧ Below W.heap.size W W') := fun W hz => by
    have p := HPW.out.1.below hz
    refine (tof_any p.r (by rw [← HN.out.1]; exact HN.out.2.1) p.t.pos.2.2.2.1 pB).mono ?_
    rintro e W' ⟨v, rfl, h1, h2, _⟩
    rw [← HOL.out.1] at h1
    obtain ⟨a', c', rfl, h4⟩ := rd_own h1
    rw [← HOL.out.2.1]
    exact ⟨a', c', rfl, HSS.out W' (HZZ.out W W' hz h2), HZZ.out W W' hz h2, h4, h2⟩
  have HOfA : Hid (∀ (W : World) (a4 : Option Addr), (Below wr.heap.size wr W) → RdS W a4 OL → Calls Tryd.prog 20 #[.pointer (some ⟨B4, 0, none⟩), .int .i64 pB] W fun e W' => ∃ a' c', e = .returned (.slice a' NL c') ∧ (W'.cell? ⟨xp, 0, none⟩ = some (.pointer (some ⟨B4, 0, none⟩)) ∧ W'.cell? ⟨B4, 2, none⟩ = some (.slice a2 N c2) ∧ W'.cell? ⟨pb, 0, none⟩ = some (.int .i64 pB)) ∧ (Below wr.heap.size wr W') ∧ RdS W' a' OL ∧ RdS W' a4 OL) := fun W a4 hz h4 => (HOf.out W hz).mono fun e W' ⟨a', c', h1, h2, h3, h5, h6⟩ => ⟨a', c', h1, h2, h3, h5, h4.below h6⟩
  have HSlo : Hid (∀ W : World, (Below wr.heap.size wr W) → Calls Tryd.prog 21 #[.pointer (some ⟨tb, 0, none⟩), .int .i64 pB] W fun e W' => ∃ a' c', e = .returned (.slice a' NL c') ∧ (W'.cell? ⟨xp, 0, none⟩ = some (.pointer (some ⟨B4, 0, none⟩)) ∧ W'.cell? ⟨B4, 2, none⟩ = some (.slice a2 N c2) ∧ W'.cell? ⟨pb, 0, none⟩ = some (.int .i64 pB)) ∧ (Below wr.heap.size wr W') ∧ RdS W' a' OL) := fun W hz => by
    have p := HPW.out.1.below hz
    refine (slots_any p.t (by rw [HN.out.2.2]; exact HN.out.2.1) pB).mono ?_
    rintro e W' ⟨v, L, rfl, h1, h2, h3, h4, h5, h6⟩
    have e1 := of_one p.t HM.out.1 h2 h3 h4
    rw [← HOL.out.1] at e1
    subst e1
    obtain ⟨a', c', rfl, h7⟩ := rd_own h1
    rw [← HOL.out.2.1]
    exact ⟨a', c', rfl, HSS.out W' (HZZ.out W W' hz h6), HZZ.out W W' hz h6, h7⟩
  have HOut : Hid (∀ (W : World) (a4 : Option Addr) (c4 : Nat), (Below wr.heap.size wr W) → RdS W a4 OL → Calls Tryd.prog 17 #[.slice a4 NL c4] W fun e W' => ∃ a' c', e = .returned (.slice a' NL c') ∧ (W'.cell? ⟨xp, 0, none⟩ = some (.pointer (some ⟨B4, 0, none⟩)) ∧ W'.cell? ⟨B4, 2, none⟩ = some (.slice a2 N c2) ∧ W'.cell? ⟨pb, 0, none⟩ = some (.int .i64 pB)) ∧ (Below wr.heap.size wr W') ∧ RdS W' a' OL) := fun W a4 c4 hz h4 => by
    refine (out_any h4 HOL.out.2.1 HOL.out.2.2).mono ?_
    rintro e W' ⟨v, rfl, h2, h3⟩
    obtain ⟨a', c', rfl, h5⟩ := rd_own h2
    rw [← HOL.out.2.1]
    exact ⟨a', c', rfl, HSS.out W' (HZZ.out W W' hz h3), HZZ.out W W' hz h3, h5⟩
  have HSame : Hid (∀ (W : World) (a4 a5 : Option Addr) (c4 c5 : Nat), (Below wr.heap.size wr W) → RdS W a4 OL → RdS W a5 OL → Calls Tryd.prog 16 #[.slice a4 NL c4, .slice a5 NL c5] W fun e W' => e = .returned (.bool true) ∧ (W'.cell? ⟨xp, 0, none⟩ = some (.pointer (some ⟨B4, 0, none⟩)) ∧ W'.cell? ⟨B4, 2, none⟩ = some (.slice a2 N c2) ∧ W'.cell? ⟨pb, 0, none⟩ = some (.int .i64 pB)) ∧ (Below wr.heap.size wr W')) := fun W a4 a5 c4 c5 hz h4 h5 => by
    refine (sameSlots_any h4 h5 HOL.out.2.1 (Nat.le_trans HOL.out.2.2 (by omega))).mono ?_
    rintro e W' ⟨rfl, h3⟩
    exact ⟨rfl, HSS.out W' (HZZ.out W W' hz h3), HZZ.out W W' hz h3⟩
  have hZ0 : (Below wr.heap.size wr wr.drew) := (Drawn.mk wr 1).below _
  have hS0 := HSS.out _ hZ0
  have f2 : decide ((0 : Int) ≤ -1) = false := by decide
  conv => arg 2; whnf
  try simp only [List.append_eq, List.cons_append, List.nil_append]
  refine wp_region_noPanic ?_
  refine wp_region_held_drew (S := fun W => (W.cell? ⟨xp, 0, none⟩ = some (.pointer (some ⟨B4, 0, none⟩)) ∧ W.cell? ⟨B4, 2, none⟩ = some (.slice a2 N c2) ∧ W.cell? ⟨pb, 0, none⟩ = some (.int .i64 pB))) (by kernel_rfl) (by assumption) (fun hHeld => ?_)
  refine wpAnyH_take (i := 0) (oi := ({ dst := some 210, op := Go.Op.move (Go.Operand.tmp 26), type := 4, pos := "law.go:82", after := #[], guard := none } : Oper)) (v := ?_) rfl (by kernel_rfl) (by kernel_rfl) (by kernel_rfl) (fun _ _ _ h => h) (Or.inl ⟨by rfl, ?_⟩) (by assumption) ?_
  rotate_left
  focus (intro w hSw; (try dsimp only at hSw); go_simp; try with_reducible rfl)
  try simp only [Act.put, List.setIfInBounds_toArray, List.set_cons_zero, List.set_cons_succ]
  refine wpAnyH_take (i := 1) (oi := ({ dst := some 211, op := Go.Op.move (Go.Operand.tmp 29), type := 3, pos := "law.go:82", after := #[], guard := none } : Oper)) (v := ?_) rfl (by kernel_rfl) (by kernel_rfl) (by kernel_rfl) (fun _ _ _ h => h) (Or.inl ⟨by rfl, ?_⟩) (by assumption) ?_
  rotate_left
  focus (intro w hSw; (try dsimp only at hSw); go_simp; try with_reducible rfl)
  try simp only [Act.put, List.setIfInBounds_toArray, List.set_cons_zero, List.set_cons_succ]
  refine wpAnyH_take (i := 2) (oi := ({ dst := some 212, op := Go.Op.binOp Go.BinOp.geq 3 (Go.Operand.tmp 211) (Go.Operand.const (Go.Value.int Go.IntKind.i64 0)) 3, type := 4, pos := "law.go:82", after := #[{ on := 1, ground := Go.Ground.data }], guard := none } : Oper)) (v := ?_) rfl (by kernel_rfl) (by kernel_rfl) (by kernel_rfl) (fun _ _ _ h => h) (Or.inl ⟨by rfl, ?_⟩) (by assumption) ?_
  rotate_left
  focus (intro w hSw; (try dsimp only at hSw); go_simp; try with_reducible rfl)
  try simp only [Act.put, List.setIfInBounds_toArray, List.set_cons_zero, List.set_cons_succ]
  refine wpAnyH_take (i := 3) (oi := ({ dst := some 213, op := Go.Op.binOp Go.BinOp.neq 4 (Go.Operand.tmp 210) (Go.Operand.tmp 212) 4, type := 4, pos := "law.go:82", after := #[{ on := 0, ground := Go.Ground.data }, { on := 2, ground := Go.Ground.data }], guard := none } : Oper)) (v := ?_) rfl (by kernel_rfl) (by kernel_rfl) (by kernel_rfl) (fun _ _ _ h => h) (Or.inl ⟨by rfl, ?_⟩) (by assumption) ?_
  rotate_left
  focus (intro w hSw; (try dsimp only at hSw); go_simp; try with_reducible rfl)
  try simp only [Act.put, List.setIfInBounds_toArray, List.set_cons_zero, List.set_cons_succ]
  refine wpAnyH_take (i := 4) (oi := ({ dst := some 214, op := Go.Op.move (Go.Operand.tmp 213), type := 4, pos := "law.go:82", after := #[{ on := 3, ground := Go.Ground.data }], guard := none } : Oper)) (v := ?_) rfl (by kernel_rfl) (by kernel_rfl) (by kernel_rfl) (fun _ _ _ h => h) (Or.inl ⟨by rfl, ?_⟩) (by assumption) ?_
  rotate_left
  focus (intro w hSw; (try dsimp only at hSw); go_simp; try with_reducible rfl)
  try simp only [Act.put, List.setIfInBounds_toArray, List.set_cons_zero, List.set_cons_succ]
  refine wpAnyH_take (i := 5) (oi := ({ dst := some 215, op := Go.Op.move (Go.Operand.tmp 26), type := 4, pos := "law.go:82", after := #[{ on := 4, ground := Go.Ground.guard }], guard := some (4, false) } : Oper)) (v := ?_) rfl (by kernel_rfl) (by kernel_rfl) (by kernel_rfl) (fun _ _ _ h => h) (Or.inl ⟨by rfl, ?_⟩) (by assumption) ?_
  rotate_left
  focus (intro w hSw; (try dsimp only at hSw); go_simp; try with_reducible rfl)
  try simp only [Act.put, List.setIfInBounds_toArray, List.set_cons_zero, List.set_cons_succ]
  refine wpAnyH_take (i := 6) (oi := ({ dst := some 216, op := Go.Op.move (Go.Operand.tmp 215), type := 4, pos := "law.go:82", after := #[{ on := 5, ground := Go.Ground.data }, { on := 4, ground := Go.Ground.chain }, { on := 4, ground := Go.Ground.guard }], guard := some (4, false) } : Oper)) (v := ?_) rfl (by kernel_rfl) (by kernel_rfl) (by kernel_rfl) (fun _ _ _ h => h) (Or.inl ⟨by rfl, ?_⟩) (by assumption) ?_
  rotate_left
  focus (intro w hSw; (try dsimp only at hSw); go_simp; try with_reducible rfl)
  try simp only [Act.put, List.setIfInBounds_toArray, List.set_cons_zero, List.set_cons_succ]
  refine wpAnyH_take (i := 7) (oi := ({ dst := some 217, op := Go.Op.load 47 (Go.Operand.tmp 25), type := 47, pos := "law.go:82", after := #[{ on := 6, ground := Go.Ground.guard }], guard := some (6, true) } : Oper)) (v := undef) rfl (by kernel_rfl) (by kernel_rfl) (by kernel_rfl) (fun _ _ _ h => h) (Or.inr ⟨by rfl, rfl⟩) (by assumption) ?_
  try simp only [Act.put, List.setIfInBounds_toArray, List.set_cons_zero, List.set_cons_succ]
  refine wpAnyH_take (i := 8) (oi := ({ dst := some 218, op := Go.Op.buildSlice 55 1 #[(0, Go.Operand.tmp 217)], type := 55, pos := "law.go:82", after := #[{ on := 7, ground := Go.Ground.data }, { on := 6, ground := Go.Ground.guard }], guard := some (6, true) } : Oper)) (v := undef) rfl (by kernel_rfl) (by kernel_rfl) (by kernel_rfl) (fun _ _ _ h => h) (Or.inr ⟨by rfl, rfl⟩) (by assumption) ?_
  try simp only [Act.put, List.setIfInBounds_toArray, List.set_cons_zero, List.set_cons_succ]
  refine wpAnyH_take (i := 9) (oi := ({ dst := some 219, op := Go.Op.call { callee := Go.Callee.value (Go.Operand.func 17), args := #[Go.Operand.tmp 218], argTypes := #[55] }, type := 32, pos := "law.go:82", after := #[{ on := 8, ground := Go.Ground.data }, { on := 6, ground := Go.Ground.chain }, { on := 6, ground := Go.Ground.guard }], guard := some (6, true) } : Oper)) (v := undef) rfl (by kernel_rfl) (by kernel_rfl) (by kernel_rfl) (fun _ _ _ h => h) (Or.inr ⟨by rfl, rfl⟩) (by assumption) ?_
  try simp only [Act.put, List.setIfInBounds_toArray, List.set_cons_zero, List.set_cons_succ]
  refine wpAnyH_take (i := 10) (oi := ({ dst := some 220, op := Go.Op.load 31 (Go.Operand.tmp 17), type := 31, pos := "law.go:82", after := #[{ on := 6, ground := Go.Ground.guard }], guard := some (6, true) } : Oper)) (v := undef) rfl (by kernel_rfl) (by kernel_rfl) (by kernel_rfl) (fun _ _ _ h => h) (Or.inr ⟨by rfl, rfl⟩) (by assumption) ?_
  try simp only [Act.put, List.setIfInBounds_toArray, List.set_cons_zero, List.set_cons_succ]
  refine wpAnyH_take (i := 11) (oi := ({ dst := some 221, op := Go.Op.nilCheck (Go.Operand.tmp 220), type := 0, pos := "law.go:82", after := #[{ on := 10, ground := Go.Ground.data }, { on := 6, ground := Go.Ground.guard }], guard := some (6, true) } : Oper)) (v := undef) rfl (by kernel_rfl) (by kernel_rfl) (by kernel_rfl) (fun _ _ _ h => h) (Or.inr ⟨by rfl, rfl⟩) (by assumption) ?_
  try simp only [Act.put, List.setIfInBounds_toArray, List.set_cons_zero, List.set_cons_succ]
  refine wpAnyH_take (i := 12) (oi := ({ dst := some 222, op := Go.Op.fieldAddr 34 (Go.Operand.tmp 221) 2, type := 0, pos := "law.go:82", after := #[{ on := 11, ground := Go.Ground.data }, { on := 6, ground := Go.Ground.guard }], guard := some (6, true) } : Oper)) (v := undef) rfl (by kernel_rfl) (by kernel_rfl) (by kernel_rfl) (fun _ _ _ h => h) (Or.inr ⟨by rfl, rfl⟩) (by assumption) ?_
  try simp only [Act.put, List.setIfInBounds_toArray, List.set_cons_zero, List.set_cons_succ]
  refine wpAnyH_take (i := 13) (oi := ({ dst := some 223, op := Go.Op.load 32 (Go.Operand.tmp 222), type := 32, pos := "law.go:82", after := #[{ on := 12, ground := Go.Ground.data }, { on := 6, ground := Go.Ground.guard }], guard := some (6, true) } : Oper)) (v := undef) rfl (by kernel_rfl) (by kernel_rfl) (by kernel_rfl) (fun _ _ _ h => h) (Or.inr ⟨by rfl, rfl⟩) (by assumption) ?_
  try simp only [Act.put, List.setIfInBounds_toArray, List.set_cons_zero, List.set_cons_succ]
  refine wpAnyH_take (i := 14) (oi := ({ dst := some 224, op := Go.Op.move (Go.Operand.tmp 29), type := 3, pos := "law.go:82", after := #[{ on := 6, ground := Go.Ground.guard }], guard := some (6, true) } : Oper)) (v := undef) rfl (by kernel_rfl) (by kernel_rfl) (by kernel_rfl) (fun _ _ _ h => h) (Or.inr ⟨by rfl, rfl⟩) (by assumption) ?_
  try simp only [Act.put, List.setIfInBounds_toArray, List.set_cons_zero, List.set_cons_succ]
  refine wpAnyH_take (i := 15) (oi := ({ dst := some 225, op := Go.Op.move (Go.Operand.tmp 29), type := 3, pos := "law.go:82", after := #[{ on := 6, ground := Go.Ground.guard }], guard := some (6, true) } : Oper)) (v := undef) rfl (by kernel_rfl) (by kernel_rfl) (by kernel_rfl) (fun _ _ _ h => h) (Or.inr ⟨by rfl, rfl⟩) (by assumption) ?_
  try simp only [Act.put, List.setIfInBounds_toArray, List.set_cons_zero, List.set_cons_succ]
  refine wpAnyH_take (i := 16) (oi := ({ dst := some 226, op := Go.Op.binOp Go.BinOp.add 3 (Go.Operand.tmp 225) (Go.Operand.const (Go.Value.int Go.IntKind.i64 1)) 3, type := 3, pos := "law.go:82", after := #[{ on := 15, ground := Go.Ground.data }, { on := 6, ground := Go.Ground.guard }], guard := some (6, true) } : Oper)) (v := undef) rfl (by kernel_rfl) (by kernel_rfl) (by kernel_rfl) (fun _ _ _ h => h) (Or.inr ⟨by rfl, rfl⟩) (by assumption) ?_
  try simp only [Act.put, List.setIfInBounds_toArray, List.set_cons_zero, List.set_cons_succ]
  refine wpAnyH_take (i := 17) (oi := ({ dst := some 227, op := Go.Op.slice 32 (Go.Operand.tmp 223) (some (Go.Operand.tmp 224)) (some (Go.Operand.tmp 226)) none, type := 32, pos := "law.go:82", after := #[{ on := 13, ground := Go.Ground.data }, { on := 14, ground := Go.Ground.data }, { on := 16, ground := Go.Ground.data }, { on := 6, ground := Go.Ground.guard }], guard := some (6, true) } : Oper)) (v := undef) rfl (by kernel_rfl) (by kernel_rfl) (by kernel_rfl) (fun _ _ _ h => h) (Or.inr ⟨by rfl, rfl⟩) (by assumption) ?_
  try simp only [Act.put, List.setIfInBounds_toArray, List.set_cons_zero, List.set_cons_succ]
  refine wpAnyH_take (i := 18) (oi := ({ dst := some 228, op := Go.Op.call { callee := Go.Callee.value (Go.Operand.func 16), args := #[Go.Operand.tmp 219, Go.Operand.tmp 227], argTypes := #[32, 32] }, type := 4, pos := "law.go:82", after := #[{ on := 9, ground := Go.Ground.data }, { on := 17, ground := Go.Ground.data }, { on := 9, ground := Go.Ground.chain }, { on := 6, ground := Go.Ground.guard }], guard := some (6, true) } : Oper)) (v := undef) rfl (by kernel_rfl) (by kernel_rfl) (by kernel_rfl) (fun _ _ _ h => h) (Or.inr ⟨by rfl, rfl⟩) (by assumption) ?_
  try simp only [Act.put, List.setIfInBounds_toArray, List.set_cons_zero, List.set_cons_succ]
  refine wpAnyH_take (i := 19) (oi := ({ dst := some 229, op := Go.Op.unOp Go.UnOp.not 4 (Go.Operand.tmp 228), type := 4, pos := "law.go:82", after := #[{ on := 18, ground := Go.Ground.data }, { on := 6, ground := Go.Ground.guard }], guard := some (6, true) } : Oper)) (v := undef) rfl (by kernel_rfl) (by kernel_rfl) (by kernel_rfl) (fun _ _ _ h => h) (Or.inr ⟨by rfl, rfl⟩) (by assumption) ?_
  try simp only [Act.put, List.setIfInBounds_toArray, List.set_cons_zero, List.set_cons_succ]
  refine wpAnyH_take (i := 20) (oi := ({ dst := some 230, op := Go.Op.pick (Go.Operand.tmp 216) (Go.Operand.tmp 229) (Go.Operand.const (Go.Value.bool false)), type := 4, pos := "law.go:82", after := #[{ on := 6, ground := Go.Ground.data }, { on := 19, ground := Go.Ground.data }, { on := 4, ground := Go.Ground.guard }], guard := some (4, false) } : Oper)) (v := ?_) rfl (by kernel_rfl) (by kernel_rfl) (by kernel_rfl) (fun _ _ _ h => h) (Or.inl ⟨by rfl, ?_⟩) (by assumption) ?_
  rotate_left
  focus (intro w hSw; (try dsimp only at hSw); go_simp; try with_reducible rfl)
  try simp only [Act.put, List.setIfInBounds_toArray, List.set_cons_zero, List.set_cons_succ]
  refine wpAnyH_take (i := 21) (oi := ({ dst := some 231, op := Go.Op.pick (Go.Operand.tmp 214) (Go.Operand.const (Go.Value.bool true)) (Go.Operand.tmp 230), type := 4, pos := "law.go:82", after := #[{ on := 4, ground := Go.Ground.data }, { on := 20, ground := Go.Ground.data }], guard := none } : Oper)) (v := ?_) rfl (by kernel_rfl) (by kernel_rfl) (by kernel_rfl) (fun _ _ _ h => h) (Or.inl ⟨by rfl, ?_⟩) (by assumption) ?_
  rotate_left
  focus (intro w hSw; (try dsimp only at hSw); go_simp; try with_reducible rfl)
  try simp only [Act.put, List.setIfInBounds_toArray, List.set_cons_zero, List.set_cons_succ]
  refine wpAnyH_take (i := 22) (oi := ({ dst := some 232, op := Go.Op.move (Go.Operand.tmp 231), type := 4, pos := "law.go:82", after := #[{ on := 21, ground := Go.Ground.data }, { on := 18, ground := Go.Ground.chain }], guard := none } : Oper)) (v := ?_) rfl (by kernel_rfl) (by kernel_rfl) (by kernel_rfl) (fun _ _ _ h => h) (Or.inl ⟨by rfl, ?_⟩) (by assumption) ?_
  rotate_left
  focus (intro w hSw; (try dsimp only at hSw); go_simp; try with_reducible rfl)
  try simp only [Act.put, List.setIfInBounds_toArray, List.set_cons_zero, List.set_cons_succ]
  refine wpAnyH_take (i := 23) (oi := ({ dst := some 233, op := Go.Op.move (Go.Operand.tmp 28), type := 4, pos := "law.go:82", after := #[{ on := 22, ground := Go.Ground.guard }], guard := some (22, false) } : Oper)) (v := ?_) rfl (by kernel_rfl) (by kernel_rfl) (by kernel_rfl) (fun _ _ _ h => h) (Or.inl ⟨by rfl, ?_⟩) (by assumption) ?_
  rotate_left
  focus (intro w hSw; (try dsimp only at hSw); go_simp; try with_reducible rfl)
  try simp only [Act.put, List.setIfInBounds_toArray, List.set_cons_zero, List.set_cons_succ]
  refine wpAnyH_take (i := 24) (oi := ({ dst := some 234, op := Go.Op.move (Go.Operand.tmp 30), type := 3, pos := "law.go:82", after := #[{ on := 22, ground := Go.Ground.guard }], guard := some (22, false) } : Oper)) (v := ?_) rfl (by kernel_rfl) (by kernel_rfl) (by kernel_rfl) (fun _ _ _ h => h) (Or.inl ⟨by rfl, ?_⟩) (by assumption) ?_
  rotate_left
  focus (intro w hSw; (try dsimp only at hSw); go_simp; try with_reducible rfl)
  try simp only [Act.put, List.setIfInBounds_toArray, List.set_cons_zero, List.set_cons_succ]
  refine wpAnyH_take (i := 25) (oi := ({ dst := some 235, op := Go.Op.binOp Go.BinOp.geq 3 (Go.Operand.tmp 234) (Go.Operand.const (Go.Value.int Go.IntKind.i64 0)) 3, type := 4, pos := "law.go:82", after := #[{ on := 24, ground := Go.Ground.data }, { on := 22, ground := Go.Ground.guard }], guard := some (22, false) } : Oper)) (v := ?_) rfl (by kernel_rfl) (by kernel_rfl) (by kernel_rfl) (fun _ _ _ h => h) (Or.inl ⟨by rfl, ?_⟩) (by assumption) ?_
  rotate_left
  focus (intro w hSw; (try dsimp only at hSw); go_simp; try with_reducible rfl)
  try simp only [Act.put, List.setIfInBounds_toArray, List.set_cons_zero, List.set_cons_succ]
  refine wpAnyH_take (i := 26) (oi := ({ dst := some 236, op := Go.Op.binOp Go.BinOp.neq 4 (Go.Operand.tmp 233) (Go.Operand.tmp 235) 4, type := 4, pos := "law.go:82", after := #[{ on := 23, ground := Go.Ground.data }, { on := 25, ground := Go.Ground.data }, { on := 22, ground := Go.Ground.guard }], guard := some (22, false) } : Oper)) (v := ?_) rfl (by kernel_rfl) (by kernel_rfl) (by kernel_rfl) (fun _ _ _ h => h) (Or.inl ⟨by rfl, ?_⟩) (by assumption) ?_
  rotate_left
  focus (intro w hSw; (try dsimp only at hSw); go_simp; try with_reducible rfl)
  try simp only [Act.put, List.setIfInBounds_toArray, List.set_cons_zero, List.set_cons_succ]
  refine wpAnyH_take (i := 27) (oi := ({ dst := some 237, op := Go.Op.pick (Go.Operand.tmp 232) (Go.Operand.const (Go.Value.bool true)) (Go.Operand.tmp 236), type := 4, pos := "law.go:82", after := #[{ on := 22, ground := Go.Ground.data }, { on := 26, ground := Go.Ground.data }], guard := none } : Oper)) (v := ?_) rfl (by kernel_rfl) (by kernel_rfl) (by kernel_rfl) (fun _ _ _ h => h) (Or.inl ⟨by rfl, ?_⟩) (by assumption) ?_
  rotate_left
  focus (intro w hSw; (try dsimp only at hSw); go_simp; try with_reducible rfl)
  try simp only [Act.put, List.setIfInBounds_toArray, List.set_cons_zero, List.set_cons_succ]
  refine wpAnyH_take (i := 28) (oi := ({ dst := some 238, op := Go.Op.move (Go.Operand.tmp 237), type := 4, pos := "law.go:82", after := #[{ on := 27, ground := Go.Ground.data }, { on := 22, ground := Go.Ground.chain }], guard := none } : Oper)) (v := ?_) rfl (by kernel_rfl) (by kernel_rfl) (by kernel_rfl) (fun _ _ _ h => h) (Or.inl ⟨by rfl, ?_⟩) (by assumption) ?_
  rotate_left
  focus (intro w hSw; (try dsimp only at hSw); go_simp; try with_reducible rfl)
  try simp only [Act.put, List.setIfInBounds_toArray, List.set_cons_zero, List.set_cons_succ]
  refine wpAnyH_take (i := 29) (oi := ({ dst := some 239, op := Go.Op.move (Go.Operand.tmp 28), type := 4, pos := "law.go:82", after := #[{ on := 28, ground := Go.Ground.guard }], guard := some (28, false) } : Oper)) (v := ?_) rfl (by kernel_rfl) (by kernel_rfl) (by kernel_rfl) (fun _ _ _ h => h) (Or.inl ⟨by rfl, ?_⟩) (by assumption) ?_
  rotate_left
  focus (intro w hSw; (try dsimp only at hSw); go_simp; try with_reducible rfl)
  try simp only [Act.put, List.setIfInBounds_toArray, List.set_cons_zero, List.set_cons_succ]
  refine wpAnyH_take (i := 30) (oi := ({ dst := some 240, op := Go.Op.move (Go.Operand.tmp 239), type := 4, pos := "law.go:82", after := #[{ on := 29, ground := Go.Ground.data }, { on := 28, ground := Go.Ground.chain }, { on := 28, ground := Go.Ground.guard }], guard := some (28, false) } : Oper)) (v := ?_) rfl (by kernel_rfl) (by kernel_rfl) (by kernel_rfl) (fun _ _ _ h => h) (Or.inl ⟨by rfl, ?_⟩) (by assumption) ?_
  rotate_left
  focus (intro w hSw; (try dsimp only at hSw); go_simp; try with_reducible rfl)
  try simp only [Act.put, List.setIfInBounds_toArray, List.set_cons_zero, List.set_cons_succ]
  refine wpAnyH_take (i := 31) (oi := ({ dst := some 241, op := Go.Op.move (Go.Operand.tmp 27), type := 3, pos := "law.go:82", after := #[{ on := 30, ground := Go.Ground.guard }], guard := some (30, true) } : Oper)) (v := undef) rfl (by kernel_rfl) (by kernel_rfl) (by kernel_rfl) (fun _ _ _ h => h) (Or.inr ⟨by rfl, rfl⟩) (by assumption) ?_
  try simp only [Act.put, List.setIfInBounds_toArray, List.set_cons_zero, List.set_cons_succ]
  refine wpAnyH_take (i := 32) (oi := ({ dst := some 242, op := Go.Op.load 31 (Go.Operand.tmp 17), type := 31, pos := "law.go:82", after := #[{ on := 30, ground := Go.Ground.guard }], guard := some (30, true) } : Oper)) (v := undef) rfl (by kernel_rfl) (by kernel_rfl) (by kernel_rfl) (fun _ _ _ h => h) (Or.inr ⟨by rfl, rfl⟩) (by assumption) ?_
  try simp only [Act.put, List.setIfInBounds_toArray, List.set_cons_zero, List.set_cons_succ]
  refine wpAnyH_take (i := 33) (oi := ({ dst := some 243, op := Go.Op.nilCheck (Go.Operand.tmp 242), type := 0, pos := "law.go:82", after := #[{ on := 32, ground := Go.Ground.data }, { on := 30, ground := Go.Ground.guard }], guard := some (30, true) } : Oper)) (v := undef) rfl (by kernel_rfl) (by kernel_rfl) (by kernel_rfl) (fun _ _ _ h => h) (Or.inr ⟨by rfl, rfl⟩) (by assumption) ?_
  try simp only [Act.put, List.setIfInBounds_toArray, List.set_cons_zero, List.set_cons_succ]
  refine wpAnyH_take (i := 34) (oi := ({ dst := some 244, op := Go.Op.fieldAddr 34 (Go.Operand.tmp 243) 2, type := 0, pos := "law.go:82", after := #[{ on := 33, ground := Go.Ground.data }, { on := 30, ground := Go.Ground.guard }], guard := some (30, true) } : Oper)) (v := undef) rfl (by kernel_rfl) (by kernel_rfl) (by kernel_rfl) (fun _ _ _ h => h) (Or.inr ⟨by rfl, rfl⟩) (by assumption) ?_
  try simp only [Act.put, List.setIfInBounds_toArray, List.set_cons_zero, List.set_cons_succ]
  refine wpAnyH_take (i := 35) (oi := ({ dst := some 245, op := Go.Op.load 32 (Go.Operand.tmp 244), type := 32, pos := "law.go:82", after := #[{ on := 34, ground := Go.Ground.data }, { on := 30, ground := Go.Ground.guard }], guard := some (30, true) } : Oper)) (v := undef) rfl (by kernel_rfl) (by kernel_rfl) (by kernel_rfl) (fun _ _ _ h => h) (Or.inr ⟨by rfl, rfl⟩) (by assumption) ?_
  try simp only [Act.put, List.setIfInBounds_toArray, List.set_cons_zero, List.set_cons_succ]
  refine wpAnyH_take (i := 36) (oi := ({ dst := some 246, op := Go.Op.move (Go.Operand.tmp 30), type := 3, pos := "law.go:82", after := #[{ on := 30, ground := Go.Ground.guard }], guard := some (30, true) } : Oper)) (v := undef) rfl (by kernel_rfl) (by kernel_rfl) (by kernel_rfl) (fun _ _ _ h => h) (Or.inr ⟨by rfl, rfl⟩) (by assumption) ?_
  try simp only [Act.put, List.setIfInBounds_toArray, List.set_cons_zero, List.set_cons_succ]
  refine wpAnyH_take (i := 37) (oi := ({ dst := some 247, op := Go.Op.indexAddr 32 (Go.Operand.tmp 245) (Go.Operand.tmp 246), type := 0, pos := "law.go:82", after := #[{ on := 35, ground := Go.Ground.data }, { on := 36, ground := Go.Ground.data }, { on := 30, ground := Go.Ground.guard }], guard := some (30, true) } : Oper)) (v := undef) rfl (by kernel_rfl) (by kernel_rfl) (by kernel_rfl) (fun _ _ _ h => h) (Or.inr ⟨by rfl, rfl⟩) (by assumption) ?_
  try simp only [Act.put, List.setIfInBounds_toArray, List.set_cons_zero, List.set_cons_succ]
  refine wpAnyH_take (i := 38) (oi := ({ dst := some 248, op := Go.Op.fieldAddr 52 (Go.Operand.tmp 247) 0, type := 0, pos := "law.go:82", after := #[{ on := 37, ground := Go.Ground.data }, { on := 30, ground := Go.Ground.guard }], guard := some (30, true) } : Oper)) (v := undef) rfl (by kernel_rfl) (by kernel_rfl) (by kernel_rfl) (fun _ _ _ h => h) (Or.inr ⟨by rfl, rfl⟩) (by assumption) ?_
  try simp only [Act.put, List.setIfInBounds_toArray, List.set_cons_zero, List.set_cons_succ]
  refine wpAnyH_take (i := 39) (oi := ({ dst := some 249, op := Go.Op.load 3 (Go.Operand.tmp 248), type := 3, pos := "law.go:82", after := #[{ on := 38, ground := Go.Ground.data }, { on := 30, ground := Go.Ground.guard }], guard := some (30, true) } : Oper)) (v := undef) rfl (by kernel_rfl) (by kernel_rfl) (by kernel_rfl) (fun _ _ _ h => h) (Or.inr ⟨by rfl, rfl⟩) (by assumption) ?_
  try simp only [Act.put, List.setIfInBounds_toArray, List.set_cons_zero, List.set_cons_succ]
  refine wpAnyH_take (i := 40) (oi := ({ dst := some 250, op := Go.Op.binOp Go.BinOp.neq 3 (Go.Operand.tmp 241) (Go.Operand.tmp 249) 3, type := 4, pos := "law.go:82", after := #[{ on := 31, ground := Go.Ground.data }, { on := 39, ground := Go.Ground.data }, { on := 30, ground := Go.Ground.guard }], guard := some (30, true) } : Oper)) (v := undef) rfl (by kernel_rfl) (by kernel_rfl) (by kernel_rfl) (fun _ _ _ h => h) (Or.inr ⟨by rfl, rfl⟩) (by assumption) ?_
  try simp only [Act.put, List.setIfInBounds_toArray, List.set_cons_zero, List.set_cons_succ]
  refine wpAnyH_take (i := 41) (oi := ({ dst := some 251, op := Go.Op.pick (Go.Operand.tmp 240) (Go.Operand.tmp 250) (Go.Operand.const (Go.Value.bool false)), type := 4, pos := "law.go:82", after := #[{ on := 30, ground := Go.Ground.data }, { on := 40, ground := Go.Ground.data }, { on := 28, ground := Go.Ground.guard }], guard := some (28, false) } : Oper)) (v := ?_) rfl (by kernel_rfl) (by kernel_rfl) (by kernel_rfl) (fun _ _ _ h => h) (Or.inl ⟨by rfl, ?_⟩) (by assumption) ?_
  rotate_left
  focus (intro w hSw; (try dsimp only at hSw); go_simp; try with_reducible rfl)
  try simp only [Act.put, List.setIfInBounds_toArray, List.set_cons_zero, List.set_cons_succ]
  refine wpAnyH_take (i := 42) (oi := ({ dst := some 252, op := Go.Op.pick (Go.Operand.tmp 238) (Go.Operand.const (Go.Value.bool true)) (Go.Operand.tmp 251), type := 4, pos := "law.go:82", after := #[{ on := 28, ground := Go.Ground.data }, { on := 41, ground := Go.Ground.data }], guard := none } : Oper)) (v := ?_) rfl (by kernel_rfl) (by kernel_rfl) (by kernel_rfl) (fun _ _ _ h => h) (Or.inl ⟨by rfl, ?_⟩) (by assumption) ?_
  rotate_left
  focus (intro w hSw; (try dsimp only at hSw); go_simp; try with_reducible rfl)
  try simp only [Act.put, List.setIfInBounds_toArray, List.set_cons_zero, List.set_cons_succ]
  refine wpAnyH_take (i := 43) (oi := ({ dst := some 253, op := Go.Op.move (Go.Operand.tmp 252), type := 4, pos := "law.go:82", after := #[{ on := 42, ground := Go.Ground.data }, { on := 30, ground := Go.Ground.chain }], guard := none } : Oper)) (v := ?_) rfl (by kernel_rfl) (by kernel_rfl) (by kernel_rfl) (fun _ _ _ h => h) (Or.inl ⟨by rfl, ?_⟩) (by assumption) ?_
  rotate_left
  focus (intro w hSw; (try dsimp only at hSw); go_simp; try with_reducible rfl)
  try simp only [Act.put, List.setIfInBounds_toArray, List.set_cons_zero, List.set_cons_succ]
  refine wpAnyH_take (i := 44) (oi := ({ dst := some 254, op := Go.Op.move (Go.Operand.tmp 14), type := 26, pos := "law.go:82", after := #[{ on := 43, ground := Go.Ground.guard }], guard := some (43, false) } : Oper)) (v := ?_) rfl (by kernel_rfl) (by kernel_rfl) (by kernel_rfl) (fun _ _ _ h => h) (Or.inl ⟨by rfl, ?_⟩) (by assumption) ?_
  rotate_left
  focus (intro w hSw; (try dsimp only at hSw); go_simp; try with_reducible rfl)
  try simp only [Act.put, List.setIfInBounds_toArray, List.set_cons_zero, List.set_cons_succ]
  refine wpAnyH_take (i := 46) (oi := ({ dst := some 256, op := Go.Op.load 31 (Go.Operand.tmp 17), type := 31, pos := "law.go:82", after := #[{ on := 43, ground := Go.Ground.guard }], guard := some (43, false) } : Oper)) (v := ?_) rfl (by kernel_rfl) (by kernel_rfl) (by kernel_rfl) (fun _ _ _ h => h) (Or.inl ⟨by rfl, ?_⟩) (by assumption) ?_
  rotate_left
  focus (intro w hSw; (try dsimp only at hSw); go_simp; try with_reducible rfl)
  try simp only [Act.put, List.setIfInBounds_toArray, List.set_cons_zero, List.set_cons_succ]
  refine wpAnyH_take (i := 47) (oi := ({ dst := some 257, op := Go.Op.nilCheck (Go.Operand.tmp 256), type := 0, pos := "law.go:82", after := #[{ on := 46, ground := Go.Ground.data }, { on := 43, ground := Go.Ground.guard }], guard := some (43, false) } : Oper)) (v := ?_) rfl (by kernel_rfl) (by kernel_rfl) (by kernel_rfl) (fun _ _ _ h => h) (Or.inl ⟨by rfl, ?_⟩) (by assumption) ?_
  rotate_left
  focus (intro w hSw; (try dsimp only at hSw); go_simp; try with_reducible rfl)
  try simp only [Act.put, List.setIfInBounds_toArray, List.set_cons_zero, List.set_cons_succ]
  refine wpAnyH_take (i := 48) (oi := ({ dst := some 258, op := Go.Op.fieldAddr 34 (Go.Operand.tmp 257) 2, type := 0, pos := "law.go:82", after := #[{ on := 47, ground := Go.Ground.data }, { on := 43, ground := Go.Ground.guard }], guard := some (43, false) } : Oper)) (v := ?_) rfl (by kernel_rfl) (by kernel_rfl) (by kernel_rfl) (fun _ _ _ h => h) (Or.inl ⟨by rfl, ?_⟩) (by assumption) ?_
  rotate_left
  focus (intro w hSw; (try dsimp only at hSw); go_simp; try with_reducible rfl)
  try simp only [Act.put, List.setIfInBounds_toArray, List.set_cons_zero, List.set_cons_succ]
  refine wpAnyH_take (i := 49) (oi := ({ dst := some 259, op := Go.Op.load 32 (Go.Operand.tmp 258), type := 32, pos := "law.go:82", after := #[{ on := 48, ground := Go.Ground.data }, { on := 43, ground := Go.Ground.guard }], guard := some (43, false) } : Oper)) (v := ?_) rfl (by kernel_rfl) (by kernel_rfl) (by kernel_rfl) (fun _ _ _ h => h) (Or.inl ⟨by rfl, ?_⟩) (by assumption) ?_
  rotate_left
  focus (intro w hSw; (try dsimp only at hSw); go_simp; try with_reducible rfl)
  try simp only [Act.put, List.setIfInBounds_toArray, List.set_cons_zero, List.set_cons_succ]
  refine wpAnyH_take (i := 50) (oi := ({ dst := some 260, op := Go.Op.call { callee := Go.Callee.builtin Go.Builtin.len, args := #[Go.Operand.tmp 259], argTypes := #[32] }, type := 3, pos := "law.go:82", after := #[{ on := 49, ground := Go.Ground.data }, { on := 43, ground := Go.Ground.guard }], guard := some (43, false) } : Oper)) (v := ?_) rfl (by kernel_rfl) (by kernel_rfl) (by kernel_rfl) (fun _ _ _ h => h) (Or.inl ⟨by rfl, ?_⟩) (by assumption) ?_
  rotate_left
  focus (intro w hSw; (try dsimp only at hSw); go_simp; try with_reducible rfl)
  try simp only [Act.put, List.setIfInBounds_toArray, List.set_cons_zero, List.set_cons_succ]
  refine wpAnyH_ready (rs := [45]) (by kernel_rfl) (by simp) ?_
  refine AllReadyH.cons (o := ({ dst := some 255, op := Go.Op.call { callee := Go.Callee.value (Go.Operand.func 18), args := #[Go.Operand.tmp 254], argTypes := #[26] }, type := 3, pos := "law.go:82", after := #[{ on := 44, ground := Go.Ground.data }, { on := 43, ground := Go.Ground.chain }, { on := 43, ground := Go.Ground.guard }], guard := some (43, false) } : Oper)) rfl (fun K hK => ?_) AllReadyH.nil
  go_simp
  go_at_call 18; refine Calls.mono (HLen.out _ (by assumption)) ?_; rintro e wC ⟨rfl, hSC, hZC⟩
  try go_wp2_with fail
  refine hK.out _ _ ?_ (fun hHeld => ?_)
  · first | assumption | exact HSS.out _ (by assumption)
  clear hK K
  try simp only [Act.put, List.setIfInBounds_toArray, List.set_cons_zero, List.set_cons_succ]
  refine wpAnyH_take (i := 51) (oi := ({ dst := some 261, op := Go.Op.binOp Go.BinOp.neq 3 (Go.Operand.tmp 255) (Go.Operand.tmp 260) 3, type := 4, pos := "law.go:82", after := #[{ on := 45, ground := Go.Ground.data }, { on := 50, ground := Go.Ground.data }, { on := 43, ground := Go.Ground.guard }], guard := some (43, false) } : Oper)) (v := ?_) rfl (by kernel_rfl) (by kernel_rfl) (by kernel_rfl) (fun _ _ _ h => h) (Or.inl ⟨by rfl, ?_⟩) (by assumption) ?_
  rotate_left
  focus (intro w hSw; (try dsimp only at hSw); go_simp; try with_reducible rfl)
  try simp only [Act.put, List.setIfInBounds_toArray, List.set_cons_zero, List.set_cons_succ]
  refine wpAnyH_take (i := 52) (oi := ({ dst := some 262, op := Go.Op.pick (Go.Operand.tmp 253) (Go.Operand.const (Go.Value.bool true)) (Go.Operand.tmp 261), type := 4, pos := "law.go:82", after := #[{ on := 43, ground := Go.Ground.data }, { on := 51, ground := Go.Ground.data }], guard := none } : Oper)) (v := ?_) rfl (by kernel_rfl) (by kernel_rfl) (by kernel_rfl) (fun _ _ _ h => h) (Or.inl ⟨by rfl, ?_⟩) (by assumption) ?_
  rotate_left
  focus (intro w hSw; (try dsimp only at hSw); go_simp; try with_reducible rfl)
  try simp only [Act.put, List.setIfInBounds_toArray, List.set_cons_zero, List.set_cons_succ]
  refine wpAnyH_take (i := 53) (oi := ({ dst := some 263, op := Go.Op.move (Go.Operand.tmp 262), type := 4, pos := "law.go:82", after := #[{ on := 52, ground := Go.Ground.data }, { on := 45, ground := Go.Ground.chain }], guard := none } : Oper)) (v := ?_) rfl (by kernel_rfl) (by kernel_rfl) (by kernel_rfl) (fun _ _ _ h => h) (Or.inl ⟨by rfl, ?_⟩) (by assumption) ?_
  rotate_left
  focus (intro w hSw; (try dsimp only at hSw); go_simp; try with_reducible rfl)
  try simp only [Act.put, List.setIfInBounds_toArray, List.set_cons_zero, List.set_cons_succ]
  refine wpAnyH_take (i := 54) (oi := ({ dst := some 264, op := Go.Op.move (Go.Operand.tmp 14), type := 26, pos := "law.go:82", after := #[{ on := 53, ground := Go.Ground.guard }], guard := some (53, false) } : Oper)) (v := ?_) rfl (by kernel_rfl) (by kernel_rfl) (by kernel_rfl) (fun _ _ _ h => h) (Or.inl ⟨by rfl, ?_⟩) (by assumption) ?_
  rotate_left
  focus (intro w hSw; (try dsimp only at hSw); go_simp; try with_reducible rfl)
  try simp only [Act.put, List.setIfInBounds_toArray, List.set_cons_zero, List.set_cons_succ]
  refine wpAnyH_take (i := 55) (oi := ({ dst := some 265, op := Go.Op.fieldAddr 24 (Go.Operand.tmp 10) 0, type := 0, pos := "law.go:82", after := #[{ on := 53, ground := Go.Ground.guard }], guard := some (53, false) } : Oper)) (v := ?_) rfl (by kernel_rfl) (by kernel_rfl) (by kernel_rfl) (fun _ _ _ h => h) (Or.inl ⟨by rfl, ?_⟩) (by assumption) ?_
  rotate_left
  focus (intro w hSw; (try dsimp only at hSw); go_simp; try with_reducible rfl)
  try simp only [Act.put, List.setIfInBounds_toArray, List.set_cons_zero, List.set_cons_succ]
  refine wpAnyH_take (i := 56) (oi := ({ dst := some 266, op := Go.Op.load 3 (Go.Operand.tmp 265), type := 3, pos := "law.go:82", after := #[{ on := 55, ground := Go.Ground.data }, { on := 53, ground := Go.Ground.guard }], guard := some (53, false) } : Oper)) (v := ?_) rfl (by kernel_rfl) (by kernel_rfl) (by kernel_rfl) (fun _ _ _ h => h) (Or.inl ⟨by rfl, ?_⟩) (by assumption) ?_
  rotate_left
  focus (intro w hSw; (try dsimp only at hSw); go_simp; try with_reducible rfl)
  try simp only [Act.put, List.setIfInBounds_toArray, List.set_cons_zero, List.set_cons_succ]
  refine wpAnyH_take (i := 58) (oi := ({ dst := some 268, op := Go.Op.load 31 (Go.Operand.tmp 17), type := 31, pos := "law.go:82", after := #[{ on := 53, ground := Go.Ground.guard }], guard := some (53, false) } : Oper)) (v := ?_) rfl (by kernel_rfl) (by kernel_rfl) (by kernel_rfl) (fun _ _ _ h => h) (Or.inl ⟨by rfl, ?_⟩) (by assumption) ?_
  rotate_left
  focus (intro w hSw; (try dsimp only at hSw); go_simp; try with_reducible rfl)
  try simp only [Act.put, List.setIfInBounds_toArray, List.set_cons_zero, List.set_cons_succ]
  refine wpAnyH_take (i := 59) (oi := ({ dst := some 269, op := Go.Op.fieldAddr 24 (Go.Operand.tmp 10) 0, type := 0, pos := "law.go:82", after := #[{ on := 53, ground := Go.Ground.guard }], guard := some (53, false) } : Oper)) (v := ?_) rfl (by kernel_rfl) (by kernel_rfl) (by kernel_rfl) (fun _ _ _ h => h) (Or.inl ⟨by rfl, ?_⟩) (by assumption) ?_
  rotate_left
  focus (intro w hSw; (try dsimp only at hSw); go_simp; try with_reducible rfl)
  try simp only [Act.put, List.setIfInBounds_toArray, List.set_cons_zero, List.set_cons_succ]
  refine wpAnyH_take (i := 60) (oi := ({ dst := some 270, op := Go.Op.load 3 (Go.Operand.tmp 269), type := 3, pos := "law.go:82", after := #[{ on := 59, ground := Go.Ground.data }, { on := 53, ground := Go.Ground.guard }], guard := some (53, false) } : Oper)) (v := ?_) rfl (by kernel_rfl) (by kernel_rfl) (by kernel_rfl) (fun _ _ _ h => h) (Or.inl ⟨by rfl, ?_⟩) (by assumption) ?_
  rotate_left
  focus (intro w hSw; (try dsimp only at hSw); go_simp; try with_reducible rfl)
  try simp only [Act.put, List.setIfInBounds_toArray, List.set_cons_zero, List.set_cons_succ]
  refine wpAnyH_ready (rs := [57]) (by kernel_rfl) (by simp) ?_
  refine AllReadyH.cons (o := ({ dst := some 267, op := Go.Op.call { callee := Go.Callee.value (Go.Operand.func 19), args := #[Go.Operand.tmp 264, Go.Operand.tmp 266], argTypes := #[26, 3] }, type := 3, pos := "law.go:82", after := #[{ on := 54, ground := Go.Ground.data }, { on := 56, ground := Go.Ground.data }, { on := 53, ground := Go.Ground.chain }, { on := 53, ground := Go.Ground.guard }], guard := some (53, false) } : Oper)) rfl (fun K hK => ?_) AllReadyH.nil
  go_simp
  go_at_call 19; refine Calls.mono (HLive.out _ (by assumption)) ?_; rintro e wD ⟨rfl, hSD, hZD⟩
  try go_wp2_with fail
  refine hK.out _ _ ?_ (fun hHeld => ?_)
  · first | assumption | exact HSS.out _ (by assumption)
  clear hK K
  try simp only [Act.put, List.setIfInBounds_toArray, List.set_cons_zero, List.set_cons_succ]
  refine wpAnyH_ready (rs := [61]) (by kernel_rfl) (by simp) ?_
  refine AllReadyH.cons (o := ({ dst := some 271, op := Go.Op.call { callee := Go.Callee.value (Go.Operand.func 20), args := #[Go.Operand.tmp 268, Go.Operand.tmp 270], argTypes := #[31, 3] }, type := 32, pos := "law.go:82", after := #[{ on := 58, ground := Go.Ground.data }, { on := 60, ground := Go.Ground.data }, { on := 57, ground := Go.Ground.chain }, { on := 53, ground := Go.Ground.guard }], guard := some (53, false) } : Oper)) rfl (fun K hK => ?_) AllReadyH.nil
  go_simp
  go_at_call 20; refine Calls.mono (HOf.out _ (by assumption)) ?_; rintro e wE ⟨aE, cE, rfl, hSE, hZE, _⟩
  try go_wp2_with fail
  refine hK.out _ _ ?_ (fun hHeld => ?_)
  · first | assumption | exact HSS.out _ (by assumption)
  clear hK K
  try simp only [Act.put, List.setIfInBounds_toArray, List.set_cons_zero, List.set_cons_succ]
  refine wpAnyH_take (i := 62) (oi := ({ dst := some 272, op := Go.Op.call { callee := Go.Callee.builtin Go.Builtin.len, args := #[Go.Operand.tmp 271], argTypes := #[32] }, type := 3, pos := "law.go:82", after := #[{ on := 61, ground := Go.Ground.data }, { on := 53, ground := Go.Ground.guard }], guard := some (53, false) } : Oper)) (v := ?_) rfl (by kernel_rfl) (by kernel_rfl) (by kernel_rfl) (fun _ _ _ h => h) (Or.inl ⟨by rfl, ?_⟩) (by assumption) ?_
  rotate_left
  focus (intro w hSw; (try dsimp only at hSw); go_simp; try with_reducible rfl)
  try simp only [Act.put, List.setIfInBounds_toArray, List.set_cons_zero, List.set_cons_succ]
  refine wpAnyH_take (i := 63) (oi := ({ dst := some 273, op := Go.Op.binOp Go.BinOp.neq 3 (Go.Operand.tmp 267) (Go.Operand.tmp 272) 3, type := 4, pos := "law.go:82", after := #[{ on := 57, ground := Go.Ground.data }, { on := 62, ground := Go.Ground.data }, { on := 53, ground := Go.Ground.guard }], guard := some (53, false) } : Oper)) (v := ?_) rfl (by kernel_rfl) (by kernel_rfl) (by kernel_rfl) (fun _ _ _ h => h) (Or.inl ⟨by rfl, ?_⟩) (by assumption) ?_
  rotate_left
  focus (intro w hSw; (try dsimp only at hSw); go_simp; try with_reducible rfl)
  try simp only [Act.put, List.setIfInBounds_toArray, List.set_cons_zero, List.set_cons_succ]
  refine wpAnyH_take (i := 64) (oi := ({ dst := some 274, op := Go.Op.pick (Go.Operand.tmp 263) (Go.Operand.const (Go.Value.bool true)) (Go.Operand.tmp 273), type := 4, pos := "law.go:82", after := #[{ on := 53, ground := Go.Ground.data }, { on := 63, ground := Go.Ground.data }], guard := none } : Oper)) (v := ?_) rfl (by kernel_rfl) (by kernel_rfl) (by kernel_rfl) (fun _ _ _ h => h) (Or.inl ⟨by rfl, ?_⟩) (by assumption) ?_
  rotate_left
  focus (intro w hSw; (try dsimp only at hSw); go_simp; try with_reducible rfl)
  try simp only [Act.put, List.setIfInBounds_toArray, List.set_cons_zero, List.set_cons_succ]
  refine wpAnyH_take (i := 65) (oi := ({ dst := some 275, op := Go.Op.move (Go.Operand.tmp 274), type := 4, pos := "law.go:82", after := #[{ on := 64, ground := Go.Ground.data }, { on := 61, ground := Go.Ground.chain }], guard := none } : Oper)) (v := ?_) rfl (by kernel_rfl) (by kernel_rfl) (by kernel_rfl) (fun _ _ _ h => h) (Or.inl ⟨by rfl, ?_⟩) (by assumption) ?_
  rotate_left
  focus (intro w hSw; (try dsimp only at hSw); go_simp; try with_reducible rfl)
  try simp only [Act.put, List.setIfInBounds_toArray, List.set_cons_zero, List.set_cons_succ]
  refine wpAnyH_take (i := 66) (oi := ({ dst := some 276, op := Go.Op.move (Go.Operand.tmp 14), type := 26, pos := "law.go:82", after := #[{ on := 65, ground := Go.Ground.guard }], guard := some (65, false) } : Oper)) (v := ?_) rfl (by kernel_rfl) (by kernel_rfl) (by kernel_rfl) (fun _ _ _ h => h) (Or.inl ⟨by rfl, ?_⟩) (by assumption) ?_
  rotate_left
  focus (intro w hSw; (try dsimp only at hSw); go_simp; try with_reducible rfl)
  try simp only [Act.put, List.setIfInBounds_toArray, List.set_cons_zero, List.set_cons_succ]
  refine wpAnyH_take (i := 67) (oi := ({ dst := some 277, op := Go.Op.fieldAddr 24 (Go.Operand.tmp 10) 0, type := 0, pos := "law.go:82", after := #[{ on := 65, ground := Go.Ground.guard }], guard := some (65, false) } : Oper)) (v := ?_) rfl (by kernel_rfl) (by kernel_rfl) (by kernel_rfl) (fun _ _ _ h => h) (Or.inl ⟨by rfl, ?_⟩) (by assumption) ?_
  rotate_left
  focus (intro w hSw; (try dsimp only at hSw); go_simp; try with_reducible rfl)
  try simp only [Act.put, List.setIfInBounds_toArray, List.set_cons_zero, List.set_cons_succ]
  refine wpAnyH_take (i := 68) (oi := ({ dst := some 278, op := Go.Op.load 3 (Go.Operand.tmp 277), type := 3, pos := "law.go:82", after := #[{ on := 67, ground := Go.Ground.data }, { on := 65, ground := Go.Ground.guard }], guard := some (65, false) } : Oper)) (v := ?_) rfl (by kernel_rfl) (by kernel_rfl) (by kernel_rfl) (fun _ _ _ h => h) (Or.inl ⟨by rfl, ?_⟩) (by assumption) ?_
  rotate_left
  focus (intro w hSw; (try dsimp only at hSw); go_simp; try with_reducible rfl)
  try simp only [Act.put, List.setIfInBounds_toArray, List.set_cons_zero, List.set_cons_succ]
  refine wpAnyH_take (i := 71) (oi := ({ dst := some 281, op := Go.Op.load 31 (Go.Operand.tmp 17), type := 31, pos := "law.go:82", after := #[{ on := 65, ground := Go.Ground.guard }], guard := some (65, false) } : Oper)) (v := ?_) rfl (by kernel_rfl) (by kernel_rfl) (by kernel_rfl) (fun _ _ _ h => h) (Or.inl ⟨by rfl, ?_⟩) (by assumption) ?_
  rotate_left
  focus (intro w hSw; (try dsimp only at hSw); go_simp; try with_reducible rfl)
  try simp only [Act.put, List.setIfInBounds_toArray, List.set_cons_zero, List.set_cons_succ]
  refine wpAnyH_take (i := 72) (oi := ({ dst := some 282, op := Go.Op.fieldAddr 24 (Go.Operand.tmp 10) 0, type := 0, pos := "law.go:82", after := #[{ on := 65, ground := Go.Ground.guard }], guard := some (65, false) } : Oper)) (v := ?_) rfl (by kernel_rfl) (by kernel_rfl) (by kernel_rfl) (fun _ _ _ h => h) (Or.inl ⟨by rfl, ?_⟩) (by assumption) ?_
  rotate_left
  focus (intro w hSw; (try dsimp only at hSw); go_simp; try with_reducible rfl)
  try simp only [Act.put, List.setIfInBounds_toArray, List.set_cons_zero, List.set_cons_succ]
  refine wpAnyH_take (i := 73) (oi := ({ dst := some 283, op := Go.Op.load 3 (Go.Operand.tmp 282), type := 3, pos := "law.go:82", after := #[{ on := 72, ground := Go.Ground.data }, { on := 65, ground := Go.Ground.guard }], guard := some (65, false) } : Oper)) (v := ?_) rfl (by kernel_rfl) (by kernel_rfl) (by kernel_rfl) (fun _ _ _ h => h) (Or.inl ⟨by rfl, ?_⟩) (by assumption) ?_
  rotate_left
  focus (intro w hSw; (try dsimp only at hSw); go_simp; try with_reducible rfl)
  try simp only [Act.put, List.setIfInBounds_toArray, List.set_cons_zero, List.set_cons_succ]
  refine wpAnyH_ready (rs := [69]) (by kernel_rfl) (by simp) ?_
  refine AllReadyH.cons (o := ({ dst := some 279, op := Go.Op.call { callee := Go.Callee.value (Go.Operand.func 21), args := #[Go.Operand.tmp 276, Go.Operand.tmp 278], argTypes := #[26, 3] }, type := 55, pos := "law.go:82", after := #[{ on := 66, ground := Go.Ground.data }, { on := 68, ground := Go.Ground.data }, { on := 65, ground := Go.Ground.chain }, { on := 65, ground := Go.Ground.guard }], guard := some (65, false) } : Oper)) rfl (fun K hK => ?_) AllReadyH.nil
  go_simp
  go_at_call 21; refine Calls.mono (HSlo.out _ (by assumption)) ?_; rintro e wG ⟨aG, cG, rfl, hSG, hZG, hRG⟩
  try go_wp2_with fail
  refine hK.out _ _ ?_ (fun hHeld => ?_)
  · first | assumption | exact HSS.out _ (by assumption)
  clear hK K
  try simp only [Act.put, List.setIfInBounds_toArray, List.set_cons_zero, List.set_cons_succ]
  refine wpAnyH_ready (rs := [70]) (by kernel_rfl) (by simp) ?_
  refine AllReadyH.cons (o := ({ dst := some 280, op := Go.Op.call { callee := Go.Callee.value (Go.Operand.func 17), args := #[Go.Operand.tmp 279], argTypes := #[55] }, type := 32, pos := "law.go:82", after := #[{ on := 69, ground := Go.Ground.data }, { on := 69, ground := Go.Ground.chain }, { on := 65, ground := Go.Ground.guard }], guard := some (65, false) } : Oper)) rfl (fun K hK => ?_) AllReadyH.nil
  go_simp
  go_at_call 17; refine Calls.mono (HOut.out wG _ _ (by assumption) (by assumption)) ?_; rintro e wH ⟨aH, cH, rfl, hSH, hZH, hRH⟩
  try go_wp2_with fail
  refine hK.out _ _ ?_ (fun hHeld => ?_)
  · first | assumption | exact HSS.out _ (by assumption)
  clear hK K
  try simp only [Act.put, List.setIfInBounds_toArray, List.set_cons_zero, List.set_cons_succ]
  refine wpAnyH_ready (rs := [74]) (by kernel_rfl) (by simp) ?_
  refine AllReadyH.cons (o := ({ dst := some 284, op := Go.Op.call { callee := Go.Callee.value (Go.Operand.func 20), args := #[Go.Operand.tmp 281, Go.Operand.tmp 283], argTypes := #[31, 3] }, type := 32, pos := "law.go:82", after := #[{ on := 71, ground := Go.Ground.data }, { on := 73, ground := Go.Ground.data }, { on := 70, ground := Go.Ground.chain }, { on := 65, ground := Go.Ground.guard }], guard := some (65, false) } : Oper)) rfl (fun K hK => ?_) AllReadyH.nil
  go_simp
  go_at_call 20; refine Calls.mono (HOfA.out wH _ (by assumption) hRH) ?_; rintro e wI ⟨aI, cI, rfl, hSI, hZI, hRI, hRJ⟩
  try go_wp2_with fail
  refine hK.out _ _ ?_ (fun hHeld => ?_)
  · first | assumption | exact HSS.out _ (by assumption)
  clear hK K
  try simp only [Act.put, List.setIfInBounds_toArray, List.set_cons_zero, List.set_cons_succ]
  refine wpAnyH_ready (rs := [75]) (by kernel_rfl) (by simp) ?_
  refine AllReadyH.cons (o := ({ dst := some 285, op := Go.Op.call { callee := Go.Callee.value (Go.Operand.func 16), args := #[Go.Operand.tmp 280, Go.Operand.tmp 284], argTypes := #[32, 32] }, type := 4, pos := "law.go:82", after := #[{ on := 70, ground := Go.Ground.data }, { on := 74, ground := Go.Ground.data }, { on := 74, ground := Go.Ground.chain }, { on := 65, ground := Go.Ground.guard }], guard := some (65, false) } : Oper)) rfl (fun K hK => ?_) AllReadyH.nil
  go_simp
  go_at_call 16; refine Calls.mono (HSame.out wI _ _ _ _ (by assumption) hRJ hRI) ?_; rintro e wK ⟨rfl, hSK, hZK⟩
  try go_wp2_with fail
  refine hK.out _ _ ?_ (fun hHeld => ?_)
  · first | assumption | exact HSS.out _ (by assumption)
  clear hK K
  try simp only [Act.put, List.setIfInBounds_toArray, List.set_cons_zero, List.set_cons_succ]
  refine wpAnyH_take (i := 76) (oi := ({ dst := some 286, op := Go.Op.unOp Go.UnOp.not 4 (Go.Operand.tmp 285), type := 4, pos := "law.go:82", after := #[{ on := 75, ground := Go.Ground.data }, { on := 65, ground := Go.Ground.guard }], guard := some (65, false) } : Oper)) (v := ?_) rfl (by kernel_rfl) (by kernel_rfl) (by kernel_rfl) (fun _ _ _ h => h) (Or.inl ⟨by rfl, ?_⟩) (by assumption) ?_
  rotate_left
  focus (intro w hSw; (try dsimp only at hSw); go_simp; try with_reducible rfl)
  try simp only [Act.put, List.setIfInBounds_toArray, List.set_cons_zero, List.set_cons_succ]
  refine wpAnyH_take (i := 77) (oi := ({ dst := some 287, op := Go.Op.pick (Go.Operand.tmp 275) (Go.Operand.const (Go.Value.bool true)) (Go.Operand.tmp 286), type := 4, pos := "law.go:82", after := #[{ on := 65, ground := Go.Ground.data }, { on := 76, ground := Go.Ground.data }], guard := none } : Oper)) (v := ?_) rfl (by kernel_rfl) (by kernel_rfl) (by kernel_rfl) (fun _ _ _ h => h) (Or.inl ⟨by rfl, ?_⟩) (by assumption) ?_
  rotate_left
  focus (intro w hSw; (try dsimp only at hSw); go_simp; try with_reducible rfl)
  try simp only [Act.put, List.setIfInBounds_toArray, List.set_cons_zero, List.set_cons_succ]
  refine wpAnyH_done (by kernel_rfl) ?_ _
  refine NoPanic.normal ?_
  exact HQF.out _ _ _ _ _ _ _ _ _ _ _ _ _ _ _ _ _ _ _ _ _ _ _ _ _ _ _ _ _ _ _ _ _ _ _ _ _ _ _ _ _ _ _ _ _ _ _ _ _ _ _ _ _ _ _ _ _ _ _ _ _ _ _ _ _ _ _ _ _ _ _ _ _ _ _ _ _ wK (by assumption)
end Go.Proofs.YtpbckjagiebmjaaDoor.Tb
