/- TablePlays: what is asked of both tables behind each thing told. By the verifier of shale. -/
import Derived.Test.YtpbckjagiebmjaaDoorGreat1
import Derived.Test.YtpbckjagiebmjaaDoorGreat2
import Derived.Test.YtpbckjagiebmjaaDoorGreat3
import Derived.Test.YtpbckjagiebmjaaDoorTbR3200
import Derived.Test.YtpbckjagiebmjaaDoorTbR3201
import Derived.Test.YtpbckjagiebmjaaDoorTbR3210
import Derived.Test.YtpbckjagiebmjaaDoorTbR3211
namespace Go.Proofs.YtpbckjagiebmjaaDoor.walkTablePlays
open Go Go.RowKit Tb
set_option linter.unusedVariables false
set_option linter.unusedSimpArgs false
attribute [local go_sem] Oper.semAt_some
set_option maxRecDepth 100000 in
set_option maxHeartbeats 40000000 in
theorem ask_part {w3 wc : World} {bb B4 xp tb mb ob B P cO n i pb : Nat} {kb : Nat → Nat} {x3 pB pP : Int}
    (hX : PT w3 bb B4 B4 xp tb mb ob B P cO kb (i + 1) wc) (h100 : i ≤ 100) (hk3 : (Lit.int .i64 x3).wf = true)
    (hLO : ∀ W, Below bb w3 W → W.heap[pb]? = some (.cells #[.int .i64 pB, .int .i64 pP] 24 (0, 0))) (v0 v1 v2 v4 v5 v6 v7 v8 v9 v11 v12 v13 v15 v16 v19 v20 v21 v22 v23 v24 v25 v26 v27 v28 v29 v30 v31 v32 v33 v34 v35 v36 v37 v38 v39 v40 v41 v42 v43 v44 v45 v46 v47 v48 v49 v50 v51 v52 v53 v54 v55 v56 v57 v58 v59 v60 v61 v62 v63 v64 v65 v66 v67 v68 v69 v70 v71 v72 v73 v74 v75 v76 v77 v78 v79 v80 v81 v82 v83 v84 v85 v86 v87 v88 v89 v90 v91 v92 v93 v94 v95 v96 v97 v98 v99 v100 v101 v102 v103 v104 v105 v106 v107 v108 v109 v110 v111 v112 v113 v114 v115 v116 v117 v118 v119 v120 v121 v122 v123 v124 v125 v126 v127 v128 v129 v130 v131 v132 v133 v134 v135 v136 v137 v138 v139 v140 v141 v142 v143 v144 v145 v146 v147 v148 v149 v150 v151 v152 v153 v154 v155 v156 v157 v158 v159 v160 v161 v162 v163 v164 v165 v166 v167 v168 v169 v170 v171 v172 v173 v174 v175 v176 v177 v178 v179 v180 v181 v182 v183 v184 v185 v186 v187 v188 v189 v190 v191 v192 v193 v194 v195 v196 v197 v198 v199 v200 v201 v202 v203 v204 v205 v206 v207 v208 v209 v210 v211 v212 v213 v214 v215 v216 v217 v218 v219 v220 v221 v222 v223 v224 v225 v226 v227 v228 v229 v230 v231 v232 v233 v234 v235 v236 v237 v238 v239 v240 v241 v242 v243 v244 v245 v246 v247 v248 v249 v250 v251 v252 v253 v254 v255 v256 v257 v258 v259 v260 v261 v262 v263 v264 v265 v266 v267 v268 v269 v270 v271 v272 v273 v274 v275 v276 v277 v278 v279 v280 v281 v282 v283 v284 v285 v286 v287 v288 v289 v290 v291 v292 v293 v294 v295 v296 v297 v298 v299 v300 v301 v302 v303 v304 v305 v306 v307 v308 v309 v310 v311 v312 v313 v314 v315 v316 v317 v318 v319 v320 v321 v322 v323 v324 v325 v326 v327 v328 v329 v330 v331 v332 v333 v334 v335 v336 v337 v338 v339 v340 v341 v342 v343 v344 v345 v346 v347 v348 v349 v350 v351 v352 v353 v354 v355 v356 : Value) (KF Ka : Act → World → Prop) (QQ : Exit → Act → World → Prop)
    (ha : ∀ a w, Code.wp Tryd.prog rest21 (Exit.inBlock 1 (Exit.then KF QQ)) a w → Ka a w)
    (hK : ∀ (u25 u26 u27 u28 u29 u30 u31 u167 u168 u169 u170 u171 u172 u173 u174 u175 u176 u177 u178 u179 u180 u181 u182 u183 u184 u185 u186 u187 u188 u189 u190 u191 u192 u193 u194 u195 u196 u197 u198 u199 u200 u201 u202 u203 u204 u205 u206 u207 u208 u209 u210 u211 u212 u213 u214 u215 u216 u217 u218 u219 u220 u221 u222 u223 u224 u225 u226 u227 u228 u229 u230 u231 u232 u233 u234 u235 u236 u237 u238 u239 u240 u241 u242 u243 u244 u245 u246 u247 u248 u249 u250 u251 u252 u253 u254 u255 u256 u257 u258 u259 u260 u261 u262 u263 u264 u265 u266 u267 u268 u269 u270 u271 u272 u273 u274 u275 u276 u277 u278 u279 u280 u281 u282 u283 u284 u285 u286 u287 : Value) (w' : World), PT w3 bb B4 B4 xp tb mb ob B P cO kb (i + 1) w' → KF ⟨#[v0, v1, v2, .int .i64 x3, v4, v5, v6, v7, v8, v9, .pointer (some ⟨pb, 0, none⟩), v11, v12, v13, .pointer (some ⟨tb, 0, none⟩), v15, v16, .pointer (some ⟨xp, 0, none⟩), .int .i64 (i : Int), v19, v20, v21, v22, v23, v24, u25, u26, u27, u28, u29, u30, u31, v32, v33, v34, v35, v36, v37, v38, v39, v40, v41, v42, v43, v44, v45, v46, v47, v48, v49, v50, v51, v52, v53, v54, v55, v56, v57, v58, v59, v60, v61, v62, v63, v64, v65, v66, v67, v68, v69, v70, v71, v72, v73, v74, v75, v76, v77, v78, v79, v80, v81, v82, v83, v84, v85, v86, v87, v88, v89, v90, v91, v92, v93, v94, v95, v96, v97, v98, v99, v100, v101, v102, v103, v104, v105, v106, v107, v108, v109, v110, v111, v112, v113, v114, v115, v116, v117, v118, v119, v120, v121, v122, v123, v124, v125, v126, v127, v128, v129, v130, v131, v132, v133, v134, v135, v136, v137, v138, v139, v140, v141, v142, v143, v144, v145, v146, v147, v148, v149, v150, v151, v152, v153, v154, v155, v156, v157, v158, v159, v160, v161, v162, v163, v164, v165, v166, u167, u168, u169, u170, u171, u172, u173, u174, u175, u176, u177, u178, u179, u180, u181, u182, u183, u184, u185, u186, u187, u188, u189, u190, u191, u192, u193, u194, u195, u196, u197, u198, u199, u200, u201, u202, u203, u204, u205, u206, u207, u208, u209, u210, u211, u212, u213, u214, u215, u216, u217, u218, u219, u220, u221, u222, u223, u224, u225, u226, u227, u228, u229, u230, u231, u232, u233, u234, u235, u236, u237, u238, u239, u240, u241, u242, u243, u244, u245, u246, u247, u248, u249, u250, u251, u252, u253, u254, u255, u256, u257, u258, u259, u260, u261, u262, u263, u264, u265, u266, u267, u268, u269, u270, u271, u272, u273, u274, u275, u276, u277, u278, u279, u280, u281, u282, u283, u284, u285, u286, u287, v288, v289, v290, v291, v292, v293, v294, v295, v296, v297, v298, v299, v300, v301, v302, v303, v304, v305, v306, v307, v308, v309, v310, v311, v312, v313, v314, v315, v316, v317, v318, v319, v320, v321, v322, v323, v324, v325, v326, v327, v328, v329, v330, v331, v332, v333, v334, v335, v336, v337, v338, v339, v340, v341, v342, v343, v344, v345, v346, v347, v348, v349, v350, v351, v352, v353, v354, v355, v356], []⟩ w') :
    Code.wp Tryd.prog reg21 (Exit.then Ka (Exit.inBlock 1 (Exit.then KF QQ))) ⟨#[v0, v1, v2, .int .i64 x3, v4, v5, v6, v7, v8, v9, .pointer (some ⟨pb, 0, none⟩), v11, v12, v13, .pointer (some ⟨tb, 0, none⟩), v15, v16, .pointer (some ⟨xp, 0, none⟩), .int .i64 (i : Int), v19, v20, v21, v22, v23, v24, v25, v26, v27, v28, v29, v30, v31, v32, v33, v34, v35, v36, v37, v38, v39, v40, v41, v42, v43, v44, v45, v46, v47, v48, v49, v50, v51, v52, v53, v54, v55, v56, v57, v58, v59, v60, v61, v62, v63, v64, v65, v66, v67, v68, v69, v70, v71, v72, v73, v74, v75, v76, v77, v78, v79, v80, v81, v82, v83, v84, v85, v86, v87, v88, v89, v90, v91, v92, v93, v94, v95, v96, v97, v98, v99, v100, v101, v102, v103, v104, v105, v106, v107, v108, v109, v110, v111, v112, v113, v114, v115, v116, v117, v118, v119, v120, v121, v122, v123, v124, v125, v126, v127, v128, v129, v130, v131, v132, v133, v134, v135, v136, v137, v138, v139, v140, v141, v142, v143, v144, v145, v146, v147, v148, v149, v150, v151, v152, v153, v154, v155, v156, v157, v158, v159, v160, v161, v162, v163, v164, v165, v166, v167, v168, v169, v170, v171, v172, v173, v174, v175, v176, v177, v178, v179, v180, v181, v182, v183, v184, v185, v186, v187, v188, v189, v190, v191, v192, v193, v194, v195, v196, v197, v198, v199, v200, v201, v202, v203, v204, v205, v206, v207, v208, v209, v210, v211, v212, v213, v214, v215, v216, v217, v218, v219, v220, v221, v222, v223, v224, v225, v226, v227, v228, v229, v230, v231, v232, v233, v234, v235, v236, v237, v238, v239, v240, v241, v242, v243, v244, v245, v246, v247, v248, v249, v250, v251, v252, v253, v254, v255, v256, v257, v258, v259, v260, v261, v262, v263, v264, v265, v266, v267, v268, v269, v270, v271, v272, v273, v274, v275, v276, v277, v278, v279, v280, v281, v282, v283, v284, v285, v286, v287, v288, v289, v290, v291, v292, v293, v294, v295, v296, v297, v298, v299, v300, v301, v302, v303, v304, v305, v306, v307, v308, v309, v310, v311, v312, v313, v314, v315, v316, v317, v318, v319, v320, v321, v322, v323, v324, v325, v326, v327, v328, v329, v330, v331, v332, v333, v334, v335, v336, v337, v338, v339, v340, v341, v342, v343, v344, v345, v346, v347, v348, v349, v350, v351, v352, v353, v354, v355, v356], []⟩ wc := by
  have HX := Lib.hid hX
  have HWF := Lib.hid (And.intro hk3 trivial)
  have HLO : Hid (∀ W, Below bb w3 W → W.heap[pb]? = some (.cells #[.int .i64 pB, .int .i64 pP] 24 (0, 0)) ∧ True) := fun W b => ⟨hLO W b, trivial⟩
  have HP := Lib.hid hX
  have HKF := Lib.hid hK
  clear hX hk3 hLO hK
  conv at ha => enter [a, w, 1, 2]; whnf
  conv => arg 2; whnf
  dsimp only
  obtain ⟨kf2, m2, cnt2, nb2, a2, c2, R2, hP, hM, hcn, hnb⟩ := HX.out
  have HP := Lib.hid hP
  have HM := Lib.hid (And.intro hM (And.intro hcn hnb))
  obtain ⟨N, hN⟩ : ∃ N, N = R2.length := ⟨_, rfl⟩
  have HN : Hid (N = R2.length ∧ N ≤ 1000 ∧ cnt2 = N) := ⟨hN, by rw [hN, hP.len hM]; omega, by rw [hN]; exact (hP.len hM).symm⟩
  have hN1 : (N : Int) ≤ 1000 := by have := HN.out.2.1; omega
  obtain ⟨s, hs⟩ : ∃ s, s = (m2 x3).getD zSl := ⟨_, rfl⟩
  obtain ⟨r, hr⟩ : ∃ r, r = (m2 x3).isSome := ⟨_, rfl⟩
  have hG := get_any hP.t HWF.out.1
  rw [← hs, ← hr] at hG
  have HGt := Lib.hid hG
  have HSR := Lib.hid (And.intro hs hr)
  obtain ⟨ka, ra, hka, hAt⟩ := at_all hP.t hM pB pP
  have HKA := Lib.hid hka
  have HAt := Lib.hid hAt
  clear HX hP hM hcn hnb hN hs hr hG hka hAt
  go_wp2_with fail
  refine HGt.out.mono ?_
  rintro e w8 ⟨rfl, b8⟩
  go_upto_region 22 with (fail)
  generalize hw : w8.alloc (.cells #[.int .i64 s.k, .int .i64 s.b, .int .i64 s.p, .int .i64 s.m0, .int .i64 s.m1, .int .i64 s.m2, .int .i64 s.m3, .int .i64 s.m4, .int .i64 s.m5] 47 (0, 0)) = w9
  obtain ⟨J9, b9⟩ := newSl w8 w9 s hw
  clear hw
  obtain ⟨zb, hzb⟩ : ∃ zb, zb = w8.heap.size := ⟨_, rfl⟩
  rw [← hzb] at J9 ⊢
  have b89 := b8.trans (b9.mono b8.size)
  have hP9 := HP.out.below b89
  obtain ⟨p0, p1, _⟩ := pl_cells (HLO.out w9 hP9.bel).1
  have HA9 := Lib.hid (HAt.out w9 hP9.t)
  have H9 := Lib.hid (And.intro hP9 J9)
  clear b8 b9 b89 hP9 J9 hzb HGt HAt
  go_wp2_with fail
  refine HA9.out.mono ?_
  rintro e w10 ⟨rfl, b10⟩
  have H10 : Hid (PCt w3 bb B4 B4 xp tb mb ob B P cO kb kf2 m2 cnt2 nb2 a2 c2 R2 w10 ∧ w10.heap[zb]? = some (.cells #[.int .i64 s.k, .int .i64 s.b, .int .i64 s.p, .int .i64 s.m0, .int .i64 s.m1, .int .i64 s.m2, .int .i64 s.m3, .int .i64 s.m4, .int .i64 s.m5] 47 (0, 0))) := ⟨H9.out.1.below b10, (b10.block zb (lt_of_block H9.out.2)).trans H9.out.2⟩
  have HS0 : Hid (Below w10.heap.size w10 w10 ∧ fndR R2 x3 0 (-1) ∧ lieR0 R2 pB pP 0 (-1)) := ⟨Below.refl _ _, .inl ⟨rfl, fun k hk => absurd hk (Nat.not_lt_zero _)⟩, .inl ⟨rfl, fun k hk => absurd hk (Nat.not_lt_zero _)⟩⟩
  clear b10 p0 p1 HA9 H9 HP
  go_wp2_with fail
  go_loopg [29, 30, 31] N (fun gh s29 s30 s31 wx => ∃ (j : Nat) (fv lv : Int), gh = N - j ∧ j ≤ N ∧ s29 = .int .i64 fv ∧ s30 = .int .i64 lv ∧ s31 = .int .i64 (j : Int) ∧ Hid (Below w10.heap.size w10 wx ∧ fndR R2 x3 j fv ∧ lieR0 R2 pB pP j lv))
  case atStart => exact ⟨0, -1, -1, rfl, Nat.zero_le _, rfl, rfl, rfl, HS0⟩
  case round =>
    clear HS0
    obtain ⟨j, fv, lv, hg, hjn, rfl, rfl, rfl, HY⟩ := hrel
    have HGj := Lib.hid (And.intro hg hjn)
    clear hg
    have x0' : (0 : Int) ≤ (j : Int) := by omega
    have x2' : (j : Int) ≤ 1000 := by omega
    have hPw := H10.out.1.below HY.out.1
    have p1 := hPw.ptr
    have p2 := hPw.r.cell.2.2.1
    rw [← HN.out.1] at p2
    by_cases hjl : j < N
    · have x1' : (j : Int) < (N : Int) := by omega
      obtain ⟨g, o, rfl, hgx, z0, z1, z2, _⟩ := hPw.r.item (i := j) (by rw [← HN.out.1]; exact hjl)
      obtain ⟨y, hy⟩ : ∃ y, y = R2[j]! := ⟨_, rfl⟩
      rw [← hy] at z0 z1 z2
      have HYE := Lib.hid (And.intro hy hjl)
      have HPW := Lib.hid hPw
      clear hy hjl hjn hPw hgx
      go_upto_if 197 with (fail)
      go_cut [29] from 179 to 209 (fun s29 wx => wr = wx ∧ ∃ fv' : Int, s29 = .int .i64 fv' ∧ Hid (fndR R2 x3 (j + 1) fv'))
      case first =>
        by_cases hk : y.k = x3
        · have q1 : (y.k == x3) = true := by simp [hk]
          have HF : Hid (fndR R2 x3 (j + 1) (j : Int)) := .inr ⟨j, Nat.lt_succ_self j, rfl, by rw [← HYE.out.1]; exact hk⟩
          clear hk p1 p2 z0 z1 z2
          go_wp2_with fail
          go_meet
          case rel => exact ⟨rfl, _, rfl, HF⟩
        · have q1 : (y.k == x3) = false := by simp [hk]
          have HF : Hid (fndR R2 x3 (j + 1) fv) := HY.out.2.1.next (by rw [← HYE.out.1]; exact hk)
          clear hk p1 p2 z0 z1 z2
          go_wp2_with fail
          go_meet
          case rel => exact ⟨rfl, _, rfl, HF⟩
      case rest =>
        obtain ⟨rfl, fv', rfl, HF⟩ := hcut
        replace p1 := cell_regrown p1
        replace p2 := cell_regrown p2
        replace z1 := cell_regrown z1
        replace z2 := cell_regrown z2
        have b0 := cell_regrown (pl_cells (HLO.out wr HPW.out.bel).1).1
        have b1 := cell_regrown (pl_cells (HLO.out wr HPW.out.bel).1).2.1
        have HSP : Hid (∀ q os, Calls Tryd.prog 12 #[.agg #[.int .i64 y.b, .int .i64 y.p], .agg #[.int .i64 pB, .int .i64 pP]] (Sort.grow (redrawn wr q) os) fun e w' => e = .returned (.bool (decide (y.b = pB) && decide (y.p = pP))) ∧ ∃ p : Regrown, w' = Sort.grow (redrawn wr p.d) p.os) := fun q os => Calls.regrown_of (samePlace_any y.b y.p pB pP _)
        clear z0
        go_upto_region 30 with (fail)
        cases hrr : (decide (y.b = pB) && decide (y.p = pP))
        · have HL2 : Hid (lieR0 R2 pB pP (j + 1) lv) := HY.out.2.2.next (fun h => by
            rw [← HYE.out.1] at h
            rw [h.1, h.2] at hrr
            simp at hrr)
          rw [hrr] at HSP
          clear hrr
          refine wp_region_quiet_below (by kernel_rfl) (by kernel_rfl) ?_
          repeat (go_big_quiet_step (first | (go_at_call 12; with_reducible exact HSP.out _ _)))
          refine wpQuiet_nil ?_
          intro _ hw'
          obtain ⟨⟨dq, osq⟩, hw''⟩ := hw'
          subst hw''
          have b5 := below_regrown wr dq osq
          generalize Sort.grow (redrawn wr dq) osq = wy at b5 ⊢
          have HN2 := Lib.hid (And.intro (HY.out.1.trans (b5.mono HY.out.1.size)) (And.intro HF.out HL2.out))
          have HJL := Lib.hid HYE.out.2
          clear p1 p2 z1 z2 b0 b1 b5 HSP HPW HY HF HL2 HYE
          go_wp2_with fail
          go_roundg (N - (j + 1))
          case measure => have := HGj.out; have := HJL.out; omega
          case rel => exact ⟨j + 1, _, _, rfl, HJL.out, rfl, rfl, by go_num, HN2⟩
        · have HL2 : Hid (lieR0 R2 pB pP (j + 1) (j : Int)) := .inr ⟨j, Nat.lt_succ_self j, rfl, by
            rw [← HYE.out.1]
            simpa using hrr⟩
          rw [hrr] at HSP
          clear hrr
          refine wp_region_quiet_below (by kernel_rfl) (by kernel_rfl) ?_
          repeat (go_big_quiet_step (first | (go_at_call 12; with_reducible exact HSP.out _ _)))
          refine wpQuiet_nil ?_
          intro _ hw'
          obtain ⟨⟨dq, osq⟩, hw''⟩ := hw'
          subst hw''
          have b5 := below_regrown wr dq osq
          generalize Sort.grow (redrawn wr dq) osq = wy at b5 ⊢
          have HN2 := Lib.hid (And.intro (HY.out.1.trans (b5.mono HY.out.1.size)) (And.intro HF.out HL2.out))
          have HJL := Lib.hid HYE.out.2
          clear p1 p2 z1 z2 b0 b1 b5 HSP HPW HY HF HL2 HYE
          go_wp2_with fail
          go_roundg (N - (j + 1))
          case measure => have := HGj.out; have := HJL.out; omega
          case rel => exact ⟨j + 1, _, _, rfl, HJL.out, rfl, rfl, by go_num, HN2⟩
    · obtain rfl : N = j := by omega
      have HAF := Lib.hid (ask_facts hPw.t HM.out.1 HN.out.1 HSR.out.1 HSR.out.2 HKA.out HY.out.2.1 HY.out.2.2)
      have HPW : Hid (PCt w3 bb B4 B4 xp tb mb ob B P cO kb kf2 m2 cnt2 nb2 a2 c2 R2 wr ∧ wr.heap[zb]? = some (.cells #[.int .i64 s.k, .int .i64 s.b, .int .i64 s.p, .int .i64 s.m0, .int .i64 s.m1, .int .i64 s.m2, .int .i64 s.m3, .int .i64 s.m4, .int .i64 s.m5] 47 (0, 0))) := ⟨hPw, (HY.out.1.block zb (lt_of_block H10.out.2)).trans H10.out.2⟩
      clear hPw HY HGj hjl hjn HKA HSR x0' x2'
      rcases HAF.out with ⟨(⟨rfl, rfl⟩ | ⟨q, hq1, rfl, rfl, hq2⟩), (⟨rfl, rfl⟩ | ⟨q2, hq3, rfl, rfl, hq4⟩)⟩
      · clear HAF H10
        go_upto_region 32 with (fail)
        clear p1 p2
        refine wp_code (c := reg32) (by kernel_rfl) ?_
        refine r32_00 (w3 := w3) (bb := bb) (zb := zb) (pb := pb) (pB := pB) (pP := pP) HPW.out.1 HPW.out.2 HM.out.1 HN.out.1 HN.out.2.1 (fun W b => (pl_cells (HLO.out W b).1).1) _ _ _ _ _ _ _ _ _ _ _ _ _ _ _ _ _ _ _ _ _ _ _ _ _ _ _ _ _ _ _ _ _ _ _ _ _ _ _ _ _ _ _ _ _ _ _ _ _ _ _ _ _ _ _ _ _ _ _ _ _ _ _ _ _ _ _ _ _ _ _ _ _ _ _ _ _ _ _ _ _ _ _ _ _ _ _ _ _ _ _ _ _ _ _ _ _ _ _ _ _ _ _ _ _ _ _ _ _ _ _ _ _ _ _ _ _ _ _ _ _ _ _ _ _ _ _ _ _ _ _ _ _ _ _ _ _ _ _ _ _ _ _ _ _ _ _ _ _ _ _ _ _ _ _ _ _ _ _ _ _ _ _ _ _ _ _ _ _ _ _ _ _ _ _ _ _ _ _ _ _ _ _ _ _ _ _ _ _ _ _ _ _ _ _ _ _ _ _ _ _ _ _ _ _ _ _ _ _ _ _ _ _ _ _ _ _ _ _ _ _ _ _ _ _ _ _ _ _ _ _ _ _ _ _ _ _ _ _ _ _ _ _ _ _ _ _ _ _ _ _ _ _ _ _ _ _ _ _ _ _ _ _ _ _ _ _ _ _ _ _ _ _ _ _ _ _ _ _ _ _ _ _ _ _ _ _ _ _ _ _ _ _ _ _ _ _ _ _ _ _ _ _ _ _ _ _ _ _ _ _ _ _ _ _ _ _ _ _ _ _ _ _ _ _ _ _ _ _ _ _ _ _ _ _ _ _ _ _ _ _ _ _ _ _ _ _ _ _ ?_
        intro u210 u211 u212 u213 u214 u215 u216 u217 u218 u219 u220 u221 u222 u223 u224 u225 u226 u227 u228 u229 u230 u231 u232 u233 u234 u235 u236 u237 u238 u239 u240 u241 u242 u243 u244 u245 u246 u247 u248 u249 u250 u251 u252 u253 u254 u255 u256 u257 u258 u259 u260 u261 u262 u263 u264 u265 u266 u267 u268 u269 u270 u271 u272 u273 u274 u275 u276 u277 u278 u279 u280 u281 u282 u283 u284 u285 u286 wK hZK
        have HNx : Hid (PT w3 bb B4 B4 xp tb mb ob B P cO kb (i + 1) wK) := PT.of (HPW.out.1.below hZK) HM.out.1 HM.out.2.1 HM.out.2.2
        clear hZK HPW
        go_wp2_with fail
        exact HKF.out _ _ _ _ _ _ _ _ _ _ _ _ _ _ _ _ _ _ _ _ _ _ _ _ _ _ _ _ _ _ _ _ _ _ _ _ _ _ _ _ _ _ _ _ _ _ _ _ _ _ _ _ _ _ _ _ _ _ _ _ _ _ _ _ _ _ _ _ _ _ _ _ _ _ _ _ _ _ _ _ _ _ _ _ _ _ _ _ _ _ _ _ _ _ _ _ _ _ _ _ _ _ _ _ _ _ _ _ _ _ _ _ _ _ _ _ _ _ _ _ _ _ _ _ _ _ _ _ _ HNx.out
      · have HQ2 := Lib.hid (And.intro hq3 hq4)
        obtain ⟨g, o, rfl, _⟩ := HPW.out.1.r.item (i := q2) hq3
        clear HAF H10 hq3 hq4
        go_upto_region 32 with (fail)
        clear p1 p2
        refine wp_code (c := reg32) (by kernel_rfl) ?_
        refine r32_01 (a2 := none) (w3 := w3) (bb := bb) (zb := zb) (pb := pb) (pB := pB) (pP := pP) g o q2 ⟨HQ2.out.1, HQ2.out.2⟩ HPW.out.1 HPW.out.2 HM.out.1 HN.out.1 HN.out.2.1 (fun W b => (pl_cells (HLO.out W b).1).1) _ _ _ _ _ _ _ _ _ _ _ _ _ _ _ _ _ _ _ _ _ _ _ _ _ _ _ _ _ _ _ _ _ _ _ _ _ _ _ _ _ _ _ _ _ _ _ _ _ _ _ _ _ _ _ _ _ _ _ _ _ _ _ _ _ _ _ _ _ _ _ _ _ _ _ _ _ _ _ _ _ _ _ _ _ _ _ _ _ _ _ _ _ _ _ _ _ _ _ _ _ _ _ _ _ _ _ _ _ _ _ _ _ _ _ _ _ _ _ _ _ _ _ _ _ _ _ _ _ _ _ _ _ _ _ _ _ _ _ _ _ _ _ _ _ _ _ _ _ _ _ _ _ _ _ _ _ _ _ _ _ _ _ _ _ _ _ _ _ _ _ _ _ _ _ _ _ _ _ _ _ _ _ _ _ _ _ _ _ _ _ _ _ _ _ _ _ _ _ _ _ _ _ _ _ _ _ _ _ _ _ _ _ _ _ _ _ _ _ _ _ _ _ _ _ _ _ _ _ _ _ _ _ _ _ _ _ _ _ _ _ _ _ _ _ _ _ _ _ _ _ _ _ _ _ _ _ _ _ _ _ _ _ _ _ _ _ _ _ _ _ _ _ _ _ _ _ _ _ _ _ _ _ _ _ _ _ _ _ _ _ _ _ _ _ _ _ _ _ _ _ _ _ _ _ _ _ _ _ _ _ _ _ _ _ _ _ _ _ _ _ _ _ _ _ _ _ _ _ _ _ _ _ _ _ _ _ _ _ _ _ _ _ _ _ _ _ _ _ ?_
        intro u210 u211 u212 u213 u214 u215 u216 u217 u218 u219 u220 u221 u222 u223 u224 u225 u226 u227 u228 u229 u230 u231 u232 u233 u234 u235 u236 u237 u238 u239 u240 u241 u242 u243 u244 u245 u246 u247 u248 u249 u250 u251 u252 u253 u254 u255 u256 u257 u258 u259 u260 u261 u262 u263 u264 u265 u266 u267 u268 u269 u270 u271 u272 u273 u274 u275 u276 u277 u278 u279 u280 u281 u282 u283 u284 u285 u286 wK hZK
        have HNx : Hid (PT w3 bb B4 B4 xp tb mb ob B P cO kb (i + 1) wK) := PT.of (HPW.out.1.below hZK) HM.out.1 HM.out.2.1 HM.out.2.2
        clear hZK HPW
        go_wp2_with fail
        exact HKF.out _ _ _ _ _ _ _ _ _ _ _ _ _ _ _ _ _ _ _ _ _ _ _ _ _ _ _ _ _ _ _ _ _ _ _ _ _ _ _ _ _ _ _ _ _ _ _ _ _ _ _ _ _ _ _ _ _ _ _ _ _ _ _ _ _ _ _ _ _ _ _ _ _ _ _ _ _ _ _ _ _ _ _ _ _ _ _ _ _ _ _ _ _ _ _ _ _ _ _ _ _ _ _ _ _ _ _ _ _ _ _ _ _ _ _ _ _ _ _ _ _ _ _ _ _ _ _ _ _ HNx.out
      · have HQ := Lib.hid (And.intro hq1 hq2)
        obtain ⟨g, o, rfl, _⟩ := HPW.out.1.r.item (i := q) hq1
        clear HAF H10 hq1 hq2
        go_upto_region 32 with (fail)
        clear p1 p2
        refine wp_code (c := reg32) (by kernel_rfl) ?_
        refine r32_10 (a2 := none) (w3 := w3) (bb := bb) (zb := zb) (pb := pb) (pB := pB) (pP := pP) g o q ⟨HQ.out.1, HQ.out.2⟩ HPW.out.1 HPW.out.2 HM.out.1 HN.out.1 HN.out.2.1 (fun W b => (pl_cells (HLO.out W b).1).1) _ _ _ _ _ _ _ _ _ _ _ _ _ _ _ _ _ _ _ _ _ _ _ _ _ _ _ _ _ _ _ _ _ _ _ _ _ _ _ _ _ _ _ _ _ _ _ _ _ _ _ _ _ _ _ _ _ _ _ _ _ _ _ _ _ _ _ _ _ _ _ _ _ _ _ _ _ _ _ _ _ _ _ _ _ _ _ _ _ _ _ _ _ _ _ _ _ _ _ _ _ _ _ _ _ _ _ _ _ _ _ _ _ _ _ _ _ _ _ _ _ _ _ _ _ _ _ _ _ _ _ _ _ _ _ _ _ _ _ _ _ _ _ _ _ _ _ _ _ _ _ _ _ _ _ _ _ _ _ _ _ _ _ _ _ _ _ _ _ _ _ _ _ _ _ _ _ _ _ _ _ _ _ _ _ _ _ _ _ _ _ _ _ _ _ _ _ _ _ _ _ _ _ _ _ _ _ _ _ _ _ _ _ _ _ _ _ _ _ _ _ _ _ _ _ _ _ _ _ _ _ _ _ _ _ _ _ _ _ _ _ _ _ _ _ _ _ _ _ _ _ _ _ _ _ _ _ _ _ _ _ _ _ _ _ _ _ _ _ _ _ _ _ _ _ _ _ _ _ _ _ _ _ _ _ _ _ _ _ _ _ _ _ _ _ _ _ _ _ _ _ _ _ _ _ _ _ _ _ _ _ _ _ _ _ _ _ _ _ _ _ _ _ _ _ _ _ _ _ _ _ _ _ _ _ _ _ _ _ _ _ _ _ _ _ _ _ _ _ ?_
        intro u210 u211 u212 u213 u214 u215 u216 u217 u218 u219 u220 u221 u222 u223 u224 u225 u226 u227 u228 u229 u230 u231 u232 u233 u234 u235 u236 u237 u238 u239 u240 u241 u242 u243 u244 u245 u246 u247 u248 u249 u250 u251 u252 u253 u254 u255 u256 u257 u258 u259 u260 u261 u262 u263 u264 u265 u266 u267 u268 u269 u270 u271 u272 u273 u274 u275 u276 u277 u278 u279 u280 u281 u282 u283 u284 u285 u286 wK hZK
        have HNx : Hid (PT w3 bb B4 B4 xp tb mb ob B P cO kb (i + 1) wK) := PT.of (HPW.out.1.below hZK) HM.out.1 HM.out.2.1 HM.out.2.2
        clear hZK HPW
        go_wp2_with fail
        exact HKF.out _ _ _ _ _ _ _ _ _ _ _ _ _ _ _ _ _ _ _ _ _ _ _ _ _ _ _ _ _ _ _ _ _ _ _ _ _ _ _ _ _ _ _ _ _ _ _ _ _ _ _ _ _ _ _ _ _ _ _ _ _ _ _ _ _ _ _ _ _ _ _ _ _ _ _ _ _ _ _ _ _ _ _ _ _ _ _ _ _ _ _ _ _ _ _ _ _ _ _ _ _ _ _ _ _ _ _ _ _ _ _ _ _ _ _ _ _ _ _ _ _ _ _ _ _ _ _ _ _ HNx.out
      · have HQ := Lib.hid (And.intro hq1 hq2)
        have HQ2 := Lib.hid (And.intro hq3 hq4)
        obtain ⟨g, o, rfl, _⟩ := HPW.out.1.r.item (i := q) hq1
        clear HAF H10 hq1 hq2 hq3 hq4
        go_upto_region 32 with (fail)
        clear p1 p2
        refine wp_code (c := reg32) (by kernel_rfl) ?_
        refine r32_11 (a2 := none) (w3 := w3) (bb := bb) (zb := zb) (pb := pb) (pB := pB) (pP := pP) g o q ⟨HQ.out.1, HQ.out.2⟩ q2 ⟨HQ2.out.1, HQ2.out.2⟩ HPW.out.1 HPW.out.2 HM.out.1 HN.out.1 HN.out.2.1 (fun W b => (pl_cells (HLO.out W b).1).1) _ _ _ _ _ _ _ _ _ _ _ _ _ _ _ _ _ _ _ _ _ _ _ _ _ _ _ _ _ _ _ _ _ _ _ _ _ _ _ _ _ _ _ _ _ _ _ _ _ _ _ _ _ _ _ _ _ _ _ _ _ _ _ _ _ _ _ _ _ _ _ _ _ _ _ _ _ _ _ _ _ _ _ _ _ _ _ _ _ _ _ _ _ _ _ _ _ _ _ _ _ _ _ _ _ _ _ _ _ _ _ _ _ _ _ _ _ _ _ _ _ _ _ _ _ _ _ _ _ _ _ _ _ _ _ _ _ _ _ _ _ _ _ _ _ _ _ _ _ _ _ _ _ _ _ _ _ _ _ _ _ _ _ _ _ _ _ _ _ _ _ _ _ _ _ _ _ _ _ _ _ _ _ _ _ _ _ _ _ _ _ _ _ _ _ _ _ _ _ _ _ _ _ _ _ _ _ _ _ _ _ _ _ _ _ _ _ _ _ _ _ _ _ _ _ _ _ _ _ _ _ _ _ _ _ _ _ _ _ _ _ _ _ _ _ _ _ _ _ _ _ _ _ _ _ _ _ _ _ _ _ _ _ _ _ _ _ _ _ _ _ _ _ _ _ _ _ _ _ _ _ _ _ _ _ _ _ _ _ _ _ _ _ _ _ _ _ _ _ _ _ _ _ _ _ _ _ _ _ _ _ _ _ _ _ _ _ _ _ _ _ _ _ _ _ _ _ _ _ _ _ _ _ _ _ _ _ _ _ _ _ _ _ _ _ _ _ _ _ ?_
        intro u210 u211 u212 u213 u214 u215 u216 u217 u218 u219 u220 u221 u222 u223 u224 u225 u226 u227 u228 u229 u230 u231 u232 u233 u234 u235 u236 u237 u238 u239 u240 u241 u242 u243 u244 u245 u246 u247 u248 u249 u250 u251 u252 u253 u254 u255 u256 u257 u258 u259 u260 u261 u262 u263 u264 u265 u266 u267 u268 u269 u270 u271 u272 u273 u274 u275 u276 u277 u278 u279 u280 u281 u282 u283 u284 u285 u286 wK hZK
        have HNx : Hid (PT w3 bb B4 B4 xp tb mb ob B P cO kb (i + 1) wK) := PT.of (HPW.out.1.below hZK) HM.out.1 HM.out.2.1 HM.out.2.2
        clear hZK HPW
        go_wp2_with fail
        exact HKF.out _ _ _ _ _ _ _ _ _ _ _ _ _ _ _ _ _ _ _ _ _ _ _ _ _ _ _ _ _ _ _ _ _ _ _ _ _ _ _ _ _ _ _ _ _ _ _ _ _ _ _ _ _ _ _ _ _ _ _ _ _ _ _ _ _ _ _ _ _ _ _ _ _ _ _ _ _ _ _ _ _ _ _ _ _ _ _ _ _ _ _ _ _ _ _ _ _ _ _ _ _ _ _ _ _ _ _ _ _ _ _ _ _ _ _ _ _ _ _ _ _ _ _ _ _ _ _ _ _ HNx.out
end Go.Proofs.YtpbckjagiebmjaaDoor.walkTablePlays
