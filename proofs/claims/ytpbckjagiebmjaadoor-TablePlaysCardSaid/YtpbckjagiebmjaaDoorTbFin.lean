/- TablePlays: its end: both tables by their keys. By the verifier of shale. -/
import Derived.Test.YtpbckjagiebmjaaDoorGreat1
import Derived.Test.YtpbckjagiebmjaaDoorGreat2
import Derived.Test.YtpbckjagiebmjaaDoorGreat3
namespace Go.Proofs.YtpbckjagiebmjaaDoor.walkTablePlays
open Go Go.RowKit Tb
set_option linter.unusedVariables false
set_option linter.unusedSimpArgs false
attribute [local go_sem] Oper.semAt_some
set_option maxRecDepth 100000 in
set_option maxHeartbeats 40000000 in
theorem fin_part {w w3 wr : World} {base bb B4 xp tb mb ob B P cO n pb sb rb : Nat} {kb : Nat → Nat} {a : Option Addr} {D : Nat → DoT} {pB pP x5 : Int} {f : Nat → Addr}
    (HPR : Hid (sb ≠ rb ∧ base ≤ sb ∧ base ≤ rb ∧ pb ≠ rb ∧ base ≤ pb ∧ pb ≠ sb)) (HBB : Hid (base ≤ bb ∧ pb < bb ∧ sb < bb ∧ rb < bb ∧ bb = w3.heap.size))
    (HX : Hid (PT w3 bb B4 B4 xp tb mb ob B P cO kb n wr)) (h100 : n ≤ 100) (HLO : Hid (∀ W, Below bb w3 W → Low base pb sb rb w a n D pB pP x5 f W)) (v0 v1 v2 v3 v4 v6 v7 v8 v9 v10 v15 v16 v18 v19 v20 v21 v22 v23 v24 v25 v26 v27 v28 v29 v30 v31 v32 v33 v34 v35 v36 v37 v38 v39 v40 v41 v42 v43 v44 v45 v46 v47 v48 v49 v50 v51 v52 v53 v54 v55 v56 v57 v58 v59 v60 v61 v62 v63 v64 v65 v66 v67 v68 v69 v70 v71 v72 v73 v74 v75 v76 v77 v78 v79 v80 v81 v82 v83 v84 v85 v86 v87 v88 v89 v90 v91 v92 v93 v94 v95 v96 v97 v98 v99 v100 v101 v102 v103 v104 v105 v106 v107 v108 v109 v110 v111 v112 v113 v114 v115 v116 v117 v118 v119 v120 v121 v122 v123 v124 v125 v126 v127 v128 v129 v130 v131 v132 v133 v134 v135 v136 v137 v138 v139 v140 v141 v142 v143 v144 v145 v146 v147 v148 v149 v150 v151 v152 v153 v154 v155 v156 v157 v158 v159 v160 v161 v162 v163 v164 v165 v166 v167 v168 v169 v170 v171 v172 v173 v174 v175 v176 v177 v178 v179 v180 v181 v182 v183 v184 v185 v186 v187 v188 v189 v190 v191 v192 v193 v194 v195 v196 v197 v198 v199 v200 v201 v202 v203 v204 v205 v206 v207 v208 v209 v210 v211 v212 v213 v214 v215 v216 v217 v218 v219 v220 v221 v222 v223 v224 v225 v226 v227 v228 v229 v230 v231 v232 v233 v234 v235 v236 v237 v238 v239 v240 v241 v242 v243 v244 v245 v246 v247 v248 v249 v250 v251 v252 v253 v254 v255 v256 v257 v258 v259 v260 v261 v262 v263 v264 v265 v266 v267 v268 v269 v270 v271 v272 v273 v274 v275 v276 v277 v278 v279 v280 v281 v282 v283 v284 v285 v286 v287 v288 v289 v290 v291 v292 v293 v294 v295 v296 v297 v298 v299 v300 v301 v302 v303 v304 v305 v306 v307 v308 v309 v310 v311 v312 v313 v314 v315 v316 v317 v318 v319 v320 v321 v322 v323 v324 v325 v326 v327 v328 v329 v330 v331 v332 v333 v334 v335 v336 v337 v338 v339 v340 v341 v342 v343 v344 v345 v346 v347 v348 v349 v350 v351 v352 v353 v354 v355 v356 : Value) (K5 K6 : Act → World → Prop)
    (h6 : ∀ a w', Code.wp Tryd.prog rest34 (bodyPostM Fence.wide 3 Tryd.prog Tryd.f3 fun e w' => e = .returned (.bool true) ∧ Below base w w') a w' → K6 a w')
    (h5 : ∀ a w', Code.wp Tryd.prog cond34 (Exit.then K6 (bodyPostM Fence.wide 3 Tryd.prog Tryd.f3 fun e w' => e = .returned (.bool true) ∧ Below base w w')) a w' → K5 a w') :
    Code.wp Tryd.prog reg34 (Exit.then K5 (Exit.then K6 (bodyPostM Fence.wide 3 Tryd.prog Tryd.f3 fun e w' => e = .returned (.bool true) ∧ Below base w w'))) ⟨#[v0, v1, v2, v3, v4, .int .i64 x5, v6, v7, v8, v9, v10, .pointer (some ⟨sb, 0, none⟩), .pointer (some ⟨rb, 0, none⟩), .bool true, .pointer (some ⟨tb, 0, none⟩), v15, v16, .pointer (some ⟨xp, 0, none⟩), v18, v19, v20, v21, v22, v23, v24, v25, v26, v27, v28, v29, v30, v31, v32, v33, v34, v35, v36, v37, v38, v39, v40, v41, v42, v43, v44, v45, v46, v47, v48, v49, v50, v51, v52, v53, v54, v55, v56, v57, v58, v59, v60, v61, v62, v63, v64, v65, v66, v67, v68, v69, v70, v71, v72, v73, v74, v75, v76, v77, v78, v79, v80, v81, v82, v83, v84, v85, v86, v87, v88, v89, v90, v91, v92, v93, v94, v95, v96, v97, v98, v99, v100, v101, v102, v103, v104, v105, v106, v107, v108, v109, v110, v111, v112, v113, v114, v115, v116, v117, v118, v119, v120, v121, v122, v123, v124, v125, v126, v127, v128, v129, v130, v131, v132, v133, v134, v135, v136, v137, v138, v139, v140, v141, v142, v143, v144, v145, v146, v147, v148, v149, v150, v151, v152, v153, v154, v155, v156, v157, v158, v159, v160, v161, v162, v163, v164, v165, v166, v167, v168, v169, v170, v171, v172, v173, v174, v175, v176, v177, v178, v179, v180, v181, v182, v183, v184, v185, v186, v187, v188, v189, v190, v191, v192, v193, v194, v195, v196, v197, v198, v199, v200, v201, v202, v203, v204, v205, v206, v207, v208, v209, v210, v211, v212, v213, v214, v215, v216, v217, v218, v219, v220, v221, v222, v223, v224, v225, v226, v227, v228, v229, v230, v231, v232, v233, v234, v235, v236, v237, v238, v239, v240, v241, v242, v243, v244, v245, v246, v247, v248, v249, v250, v251, v252, v253, v254, v255, v256, v257, v258, v259, v260, v261, v262, v263, v264, v265, v266, v267, v268, v269, v270, v271, v272, v273, v274, v275, v276, v277, v278, v279, v280, v281, v282, v283, v284, v285, v286, v287, v288, v289, v290, v291, v292, v293, v294, v295, v296, v297, v298, v299, v300, v301, v302, v303, v304, v305, v306, v307, v308, v309, v310, v311, v312, v313, v314, v315, v316, v317, v318, v319, v320, v321, v322, v323, v324, v325, v326, v327, v328, v329, v330, v331, v332, v333, v334, v335, v336, v337, v338, v339, v340, v341, v342, v343, v344, v345, v346, v347, v348, v349, v350, v351, v352, v353, v354, v355, v356], []⟩ wr := by
  conv at h5 => enter [a, w', 1, 2]; whnf
  conv at h6 => enter [a, w', 1, 2]; whnf
  conv => arg 2; whnf
  dsimp only
  obtain ⟨kf, m, cnt, nb, a1, c1, Rl, hP, hM, hcn, hnb⟩ := HX.out
  have HM := Lib.hid hM
  have HP := Lib.hid hP
  obtain ⟨N, hN⟩ : ∃ N, N = Rl.length := ⟨_, rfl⟩
  have HNL : Hid (N = Rl.length ∧ N ≤ 1000 ∧ cnt = N) := ⟨hN, by rw [hN, hP.len hM]; omega, by rw [hN]; exact (hP.len hM).symm⟩
  have hN64 : (N : Int) ≤ 1000 := by have := HNL.out.2.1; omega
  have HSS : Hid (∀ W : World, (Below wr.heap.size wr W) → (W.cell? ⟨xp, 0, none⟩ = some (.pointer (some ⟨B4, 0, none⟩)) ∧ W.cell? ⟨B4, 2, none⟩ = some (.slice a1 N c1))) := fun W b => by
    have p := HP.out.below b
    have p2 := p.r.cell.2.2.1
    rw [← HNL.out.1] at p2
    exact ⟨p.ptr, p2⟩
  have HZZ : Hid (∀ W W' : World, (Below wr.heap.size wr W) → Below W.heap.size W W' → (Below wr.heap.size wr W')) := fun W W' h b => h.trans (b.mono h.size)
  have HAll : Hid (∀ W : World, (Below wr.heap.size wr W) → Calls Tryd.prog 22 #[.pointer (some ⟨tb, 0, none⟩)] W fun e W' => ∃ a' c', e = .returned (.slice a' N c') ∧ (W'.cell? ⟨xp, 0, none⟩ = some (.pointer (some ⟨B4, 0, none⟩)) ∧ W'.cell? ⟨B4, 2, none⟩ = some (.slice a1 N c1)) ∧ (Below wr.heap.size wr W') ∧ RdS W' a' Rl) := fun W hz => by
    refine (all_any (HP.out.below hz).t (by rw [HNL.out.2.2]; exact HNL.out.2.1)).mono ?_
    intro e W' hp
    obtain ⟨v, L, rfl, h1, h2, _, h4⟩ := listOf_of hp
    obtain rfl : Rl = L := listOf_one HM.out h2
    obtain ⟨a', c', rfl, h7⟩ := rd_own h1
    rw [← HNL.out.1]
    exact ⟨a', c', rfl, HSS.out W' (HZZ.out W W' hz h4), HZZ.out W W' hz h4, h7⟩
  have HOut : Hid (∀ (W : World) (a4 : Option Addr) (c4 : Nat), (Below wr.heap.size wr W) → RdS W a4 Rl → Calls Tryd.prog 17 #[.slice a4 N c4] W fun e W' => ∃ a' c', e = .returned (.slice a' N c') ∧ (W'.cell? ⟨xp, 0, none⟩ = some (.pointer (some ⟨B4, 0, none⟩)) ∧ W'.cell? ⟨B4, 2, none⟩ = some (.slice a1 N c1)) ∧ (Below wr.heap.size wr W') ∧ RdS W' a' Rl) := fun W a4 c4 hz h4 => by
    refine (out_any h4 HNL.out.1 (by rw [← HNL.out.1]; have := HNL.out.2.1; omega)).mono ?_
    rintro e W' ⟨v, rfl, h2, h3⟩
    obtain ⟨a', c', rfl, h5⟩ := rd_own h2
    rw [← HNL.out.1]
    exact ⟨a', c', rfl, HSS.out W' (HZZ.out W W' hz h3), HZZ.out W W' hz h3, h5⟩
  have HSame : Hid (∀ (W : World) (a4 : Option Addr) (c4 : Nat), (Below wr.heap.size wr W) → RdS W a4 Rl → Calls Tryd.prog 16 #[.slice a4 N c4, .slice a1 N c1] W fun e W' => e = .returned (.bool true) ∧ (W'.cell? ⟨xp, 0, none⟩ = some (.pointer (some ⟨B4, 0, none⟩)) ∧ W'.cell? ⟨B4, 2, none⟩ = some (.slice a1 N c1)) ∧ (Below wr.heap.size wr W')) := fun W a4 c4 hz h4 => by
    refine (sameSlots_any h4 (HP.out.below hz).r.rd HNL.out.1 (by rw [← HNL.out.1]; have := HNL.out.2.1; omega)).mono ?_
    rintro e W' ⟨rfl, h3⟩
    exact ⟨rfl, HSS.out W' (HZZ.out W W' hz h3), HZZ.out W W' hz h3⟩
  have hZ0 : (Below wr.heap.size wr wr.drew) := (Drawn.mk wr 1).below _
  have hS0 := HSS.out _ hZ0
  clear HX hN hM hP hcn hnb
  go_upto_region 34 with (fail)
  go_region_held3 (fun W => (W.cell? ⟨xp, 0, none⟩ = some (.pointer (some ⟨B4, 0, none⟩)) ∧ W.cell? ⟨B4, 2, none⟩ = some (.slice a1 N c1)))
    (first | assumption | exact HSS.out _ (by assumption))
    ((first
      | (go_at_call 22; refine Calls.mono (HAll.out _ (by assumption)) ?_; rintro e wA ⟨aA, cA, rfl, hSA, hZA, hRA⟩)
      | (go_at_call 17; refine Calls.mono (HOut.out _ _ _ (by assumption) (by assumption)) ?_; rintro e wH ⟨aH, cH, rfl, hSH, hZH, hRH⟩)
      | (go_at_call 16; refine Calls.mono (HSame.out _ _ _ (by assumption) (by assumption)) ?_; rintro e wK ⟨rfl, hSK, hZK⟩)))
  have hP' := Lib.hid (HP.out.below hZK)
  clear hZ0 hS0 hSA hZA hRA hSH hZH hRH hSK hZK HSS HZZ HAll HOut HSame HP
  go_wp2_with fail
  generalize hw : wK.alloc (.cells #[.int .i64 0] 3 (0, 0)) = w11
  obtain ⟨K0, b0⟩ := newI64 wK w11 0 hw
  clear hw
  obtain ⟨tr, htr⟩ : ∃ tr, tr = wK.heap.size := ⟨_, rfl⟩
  rw [← htr] at K0 ⊢
  have Hst : Hid (PCt w3 bb B4 B4 xp tb mb ob B P cO kb kf m cnt nb a1 c1 Rl w11 ∧ w11.heap[tr]? = some (.cells #[.int .i64 0] 3 (0, 0)) ∧ True) := ⟨hP'.out.below b0, K0, trivial⟩
  clear K0 b0 htr hP'
  refine wp_loop_rounds 3 ?_
  rw [rounds_succ]
  have q29 := cell_of_one Hst.out.2.1
  go_wp2_with fail
  generalize hw : w11.alloc (.cells #[.int .i64 0] 3 (0, 0)) = w12
  obtain ⟨KI, bI⟩ := newI64 w11 w12 0 hw
  clear hw
  obtain ⟨ib, hib⟩ : ∃ ib, ib = w11.heap.size := ⟨_, rfl⟩
  rw [← hib] at KI ⊢
  refine (keys_any tb w12).mono ?_
  rintro e w13 ⟨rfl, hcb, hb2⟩
  obtain ⟨cb, hcbe⟩ : ∃ cb, cb = w12.heap.size := ⟨_, rfl⟩
  rw [← hcbe] at hcb ⊢
  have b13 := bI.trans (hb2.mono bI.size)
  have hci := lt_of_block KI
  have HIB : Hid (w13.heap[ib]? = some (.cells #[.int .i64 0] 3 (0, 0)) ∧ ib < w13.heap.size ∧ w13.heap[cb]? = some (.cells #[.pointer (some ⟨tb, 0, none⟩)] 26 (0, 0)) ∧ ib < cb ∧ cb < w13.heap.size ∧ bb ≤ ib ∧ tr < ib) := ⟨(hb2.block ib hci).trans KI, Nat.lt_of_lt_of_le hci hb2.size, hcb, by omega, lt_of_block hcb, by rw [hib]; exact Hst.out.1.size, by rw [hib]; exact lt_of_block Hst.out.2.1⟩
  have HUP : Hid (∀ W, Below ib w13 W → (PCt w3 bb B4 B4 xp tb mb ob B P cO kb kf m cnt nb a1 c1 Rl W ∧ W.heap[tr]? = some (.cells #[.int .i64 0] 3 (0, 0))) ∧ True) := fun W b => by
    have h : Below w11.heap.size w11 W := b13.trans (by rw [← hib]; exact b)
    exact ⟨⟨Hst.out.1.below h, (h.block tr (lt_of_block Hst.out.2.1)).trans Hst.out.2.1⟩, trivial⟩
  clear hcb hb2 b13 KI bI hci hib hcbe q29 Hst
  go_wp2_with fail
  refine wpIn_wide.1 (range_gift (n := 3) (gf := 36) (lb := #[.pointer (some ⟨cb, 0, none⟩)]) rfl (enters_of Tryd.func36 (by kernel_rfl) rfl)
    (encs := encK) (fun _ => rfl) (gift := fun _ => []) (V := fun pre x _ _ => VK Rl pre x) [] (C := FindsK bb tb mb ob B P cO kb kf m cnt nb cb)
    (fun pre bl W => bl = [ib] ∧ W.heap[ib]? = some (.cells #[.int .i64 (pre.length : Int)] 3 (0, 0)) ∧ Below ib w13 W ∧ w13.heap.size ≤ W.heap.size) (fun cde pre bl W => cde = .exit 6 ∧ (bl = [ib] ∧ W.heap[ib]? = some (.cells #[.int .i64 (pre.length : Int)] 3 (0, 0)) ∧ Below ib w13 W ∧ w13.heap.size ≤ W.heap.size) ∧ (pre.length : Int) = x5) ?_ ?_ ?_ (bl0 := [ib]) ?_ ?_ (fun _ _ _ _ _ _ hk => (nomatch hk)) (fun _ _ _ _ _ _ hk => (nomatch hk)) (fun _ _ _ _ _ h _ => h)
    (keys_gift 2 w13.heap.size bb tb mb ob B P cO cb cnt nb kb kf m Rl HM.out (by rw [HNL.out.2.2]; exact HNL.out.2.1) (by rw [← HNL.out.1]; exact HNL.out.2.1))
    ?a1_r (fun q W0 => W0.alloc (.cells #[.int .i64 q.2.k, .int .i64 q.2.b, .int .i64 q.2.p, .int .i64 q.2.m0, .int .i64 q.2.m1, .int .i64 q.2.m2, .int .i64 q.2.m3, .int .i64 q.2.m4, .int .i64 q.2.m5] 47 (0, 0))) ?_ ?assign_r ?body_r ?done_r ?stop_r)
  case assign_r =>
    intro l q W K hK
    have HK := Lib.hid hK
    clear hK
    gi_wp2
    exact HK.out
  · rintro pre bl X Y ⟨rfl, h1, h2, h3⟩ f
    exact ⟨rfl, (f.same ib (.inr (by simp)) (lt_of_block h1)).trans h1, h2.trans { os := f.os, tape := f.tape, output := f.output, size := f.size, block := fun z hz => f.same z (.inl ⟨by have := HIB.out.2.1; omega, by simp⟩) (by have := lt_of_block h1; omega) }, Nat.le_trans h3 f.size⟩
  · rintro cde pre bl X Y ⟨h0, ⟨rfl, h1, h2, h3⟩, h4⟩ f
    exact ⟨h0, ⟨rfl, (f.same ib (.inr (by simp)) (lt_of_block h1)).trans h1, h2.trans { os := f.os, tape := f.tape, output := f.output, size := f.size, block := fun z hz => f.same z (.inl ⟨by have := HIB.out.2.1; omega, by simp⟩) (by have := lt_of_block h1; omega) }, Nat.le_trans h3 f.size⟩, h4⟩
  · rintro pre bl X ⟨rfl, h1, _⟩ k hk
    rw [List.mem_singleton.1 hk]; exact lt_of_block h1
  · exact ⟨rfl, HIB.out.1, Below.refl _ _, Nat.le_refl _⟩
  · intro W hW
    exact ⟨(HUP.out W (hW.mono (by have := HIB.out.2.1; omega))).1.1.t, (hW.block cb HIB.out.2.2.2.2.1).trans HIB.out.2.2.1⟩
  · intro q W
    exact (Below.refl _ _).alloc (Nat.le_refl _) _
  case body_r =>
    rintro l pre bl ⟨j, d⟩ W0 W hB0 hsz hW hbl hgf ⟨rfl, h1, h2, h3⟩ ⟨hV1, hV2⟩
    obtain ⟨eb, heb⟩ : ∃ eb, eb = W0.heap.size := ⟨_, rfl⟩
    have hK : W.heap[eb]? = some (.cells #[.int .i64 d.k, .int .i64 d.b, .int .i64 d.p, .int .i64 d.m0, .int .i64 d.m1, .int .i64 d.m2, .int .i64 d.m3, .int .i64 d.m4, .int .i64 d.m5] 47 (0, 0)) := by
      rw [hW eb (by rw [heb]; simp) (by omega), heb]
      exact heap_alloc_new W0 _
    try rw [← heb]
    obtain ⟨⟨hPC, hTB⟩, _⟩ := HUP.out W h2
    have hj : j = pre.length := hV1
    rw [← hj] at h1 hV2
    have hjl : j < Rl.length := (List.getElem?_eq_some_iff.1 hV2).1
    have hjN : j < N := by rw [HNL.out.1]; exact hjl
    have hq : Rl[j]! = d := by rw [getElem!_pos Rl j hjl]; exact (List.getElem?_eq_some_iff.1 hV2).2
    have HJ : Hid (((pre ++ [(j, d)]).length : Int) = (j : Int) + 1) := by show _ = _; rw [List.length_append, hj]; simp
    have cI := cell_regrown (cell_of_one h1)
    have cP := cell_regrown hPC.ptr
    have cX := hPC.r.cell.2.2.1
    rw [← HNL.out.1] at cX
    replace cX := cell_regrown cX
    obtain ⟨g, o, ha1, _, m0, _⟩ := hPC.r.item hjl
    rw [hq] at m0
    replace m0 := cell_regrown m0
    rw [ha1] at cX
    obtain ⟨c0, _⟩ := sl_cells9 (s := d) hK
    replace c0 := cell_regrown c0
    have u1 : decide ((N : Int) ≤ (j : Int)) = false := decide_eq_false (by omega)
    have u1' : decide (N ≤ j) = false := decide_eq_false (by omega)
    have u2 : (0 : Int) ≤ (j : Int) := by omega
    have u3 : (j : Int) < (N : Int) := by omega
    have hj64 : (j : Int) ≤ 1000 := by have := HNL.out.2.1; omega
    have hSt := regrown_start W
    have HBo := Lib.hid (And.intro h1 (And.intro h2 (And.intro h3 (And.intro hPC hTB))))
    clear hq hV1 hV2 ha1 hjl hjN h1 h2 h3 hPC hTB hj hW hbl hgf hK hB0 hsz heb
    gi_wp2
    refine wpIn_round_quiet (C := fun w' => ∃ p : Regrown, w' = Sort.grow (redrawn W p.d) p.os) (by kernel_rfl) (by kernel_rfl) (by kernel_rfl) hSt ?_
    repeat (go_big_quiet_step (fail))
    refine wpQuiet_nil ?_
    intro _ hw'
    obtain ⟨⟨dq, osq⟩, hw''⟩ := hw'
    subst hw''
    have b6 := below_regrown W dq osq
    generalize Sort.grow (redrawn W dq) osq = W6 at b6 ⊢
    clear cI cP cX m0 c0 hSt u1 u1' u2 u3
    obtain ⟨h1, h2, h3, hPC, hTB⟩ := HBo.out
    have hsB := (HLO.out W hPC.bel).2.1
    have i6 := (b6.block ib (lt_of_block h1)).trans h1
    have t6 := (b6.block tr (lt_of_block hTB)).trans hTB
    have s6 := (b6.block sb (lt_of_block hsB)).trans hsB
    have o7 := Only.setCell W6 ⟨ib, 0, none⟩ (.int .i64 ((j : Int) + 1))
    have htri : tr ≠ ib := by have := HIB.out.2.2.2.2.2.2; omega
    have hsbi : sb ≠ ib := by have := HIB.out.2.2.2.2.2.1; have := HBB.out.2.2.1; omega
    have i7 : (W6.setCell ⟨ib, 0, none⟩ (.int .i64 ((j : Int) + 1))).heap[ib]? = some (.cells #[.int .i64 ((j : Int) + 1)] 3 (0, 0)) := one_setCell i6
    have t7 := (o7.block tr htri).trans t6
    have s7 := (o7.block sb hsbi).trans s6
    have HN : Hid (Tn [ib] W (W6.setCell ⟨ib, 0, none⟩ (.int .i64 ((j : Int) + 1))) [ib] ∧ ((W6.setCell ⟨ib, 0, none⟩ (.int .i64 ((j : Int) + 1))).heap[ib]? = some (.cells #[.int .i64 ((pre ++ [(j, d)]).length : Int)] 3 (0, 0)) ∧ Below ib w13 (W6.setCell ⟨ib, 0, none⟩ (.int .i64 ((j : Int) + 1))) ∧ w13.heap.size ≤ (W6.setCell ⟨ib, 0, none⟩ (.int .i64 ((j : Int) + 1))).heap.size)) := by
      refine ⟨(Tn.below (bl := [ib]) b6).trans (Tn.setCell W6 ⟨ib, 0, none⟩ (.int .i64 ((j : Int) + 1)) (by simp)), by rw [HJ.out]; exact i7, (h2.trans (b6.mono (by have := lt_of_block h1; omega))).setCell (Nat.le_refl _) _, ?_⟩
      rw [o7.size]
      exact Nat.le_trans h3 b6.size
    have g1 := cell_of_one i6
    have g2 := free_of_one i6
    have g3 := cell_of_one i7
    have g4 := cell_of_one t7
    have g5 := cell_of_one s7
    clear h1 h2 h3 hPC hTB hsB i6 t6 s6 o7 htri hsbi i7 t7 s7 b6 HBo
    by_cases hs : (j : Int) + 1 = x5
    · have hs2 : ((j : Int) + 1 == x5) = true := by simp [hs]
      have HS := Lib.hid hs
      clear hs
      gi_wp2
      exact ⟨_, HN.out.1, rfl, ⟨rfl, HN.out.2⟩, by rw [HJ.out]; exact HS.out⟩
    · have hs2 : ((j : Int) + 1 == x5) = false := by simp [hs]
      clear hs
      gi_wp2
      exact ⟨_, HN.out.1, rfl, HN.out.2⟩
  case done_r =>
    rintro Dr xs bl W hD hDl hDb hS ⟨rfl, h1, h2, h3⟩ hdef
    have hlen : xs.length = N := by rw [hS]; exact HNL.out.1.symm
    rw [hlen] at h1
    have hDX : ib < Dr := by have := HIB.out.2.1; omega
    obtain ⟨⟨hPC, hTB⟩, hEX⟩ := HUP.out W h2
    have p1 := hPC.ptr
    have p2 := hPC.r.cell.2.2.1
    rw [← HNL.out.1] at p2
    have p3 := cell_of_one h1
    have p4 := cell_of_one hTB
    have p5 := cell_of_one (HLO.out W hPC.bel).2.1
    have u5 : ((N : Int) == (N : Int)) = true := by simp
    have HW := Lib.hid (And.intro hPC (And.intro hTB (And.intro hdef (And.intro hDX hEX))))
    clear hPC hTB h1 h2 h3 hdef hDb hDl hD hDX hS hlen hEX
    go_wp2_with fail
    go_quiet (fail)
    have bD := (Drawn.mk W nq).below W.heap.size
    generalize W.drewN nq = w14 at bD ⊢
    clear p1 p2 p3 p4 p5
    have q4 := cell_of_one ((bD.block tr (lt_of_block HW.out.2.1)).trans HW.out.2.1)
    have hmk := newI64 w14 _ 1 rfl
    have Hst : Hid (PCt w3 bb B4 B4 xp tb mb ob B P cO kb kf m cnt nb a1 c1 Rl (w14.alloc (.cells #[.int .i64 1] 3 (0, 0))) ∧ (w14.alloc (.cells #[.int .i64 1] 3 (0, 0))).heap[w14.heap.size]? = some (.cells #[.int .i64 1] 3 (0, 0)) ∧ (w14.alloc (.cells #[.int .i64 1] 3 (0, 0))).heap[Dr]? = some (.deferred (some [])) ∧ bb ≤ Dr ∧ True) := by
      have bb14 := bD.trans (hmk.2.mono bD.size)
      exact ⟨HW.out.1.below bb14, hmk.1, (bb14.block Dr (lt_of_block HW.out.2.2.1)).trans HW.out.2.2.1, by have := HW.out.2.2.2.1; have := HIB.out.2.2.2.2.2.1; omega , trivial⟩
    clear bD HW hmk
    go_wp2_with fail
    generalize (w14.alloc (.cells #[.int .i64 1] 3 (0, 0))) = w15 at Hst ⊢
    generalize w14.heap.size = tr1 at Hst ⊢
    clear q4 HUP HIB
    rw [rounds_succ]
    obtain ⟨tr, rfl⟩ : ∃ x, x = tr1 := ⟨_, rfl⟩
    as_aux_lemma =>
      have q29 := cell_of_one Hst.out.2.1
      go_wp2_with fail
      generalize hw : w15.alloc (.cells #[.int .i64 0] 3 (0, 0)) = w12
      obtain ⟨KI, bI⟩ := newI64 w15 w12 0 hw
      clear hw
      obtain ⟨ib, hib⟩ : ∃ ib, ib = w15.heap.size := ⟨_, rfl⟩
      rw [← hib] at KI ⊢
      refine (keys_any tb w12).mono ?_
      rintro e w13 ⟨rfl, hcb, hb2⟩
      obtain ⟨cb, hcbe⟩ : ∃ cb, cb = w12.heap.size := ⟨_, rfl⟩
      rw [← hcbe] at hcb ⊢
      have b13 := bI.trans (hb2.mono bI.size)
      have hci := lt_of_block KI
      have HIB : Hid (w13.heap[ib]? = some (.cells #[.int .i64 0] 3 (0, 0)) ∧ ib < w13.heap.size ∧ w13.heap[cb]? = some (.cells #[.pointer (some ⟨tb, 0, none⟩)] 26 (0, 0)) ∧ ib < cb ∧ cb < w13.heap.size ∧ bb ≤ ib ∧ tr < ib) := ⟨(hb2.block ib hci).trans KI, Nat.lt_of_lt_of_le hci hb2.size, hcb, by omega, lt_of_block hcb, by rw [hib]; exact Hst.out.1.size, by rw [hib]; exact lt_of_block Hst.out.2.1⟩
      have HUP : Hid (∀ W, Below ib w13 W → (PCt w3 bb B4 B4 xp tb mb ob B P cO kb kf m cnt nb a1 c1 Rl W ∧ W.heap[tr]? = some (.cells #[.int .i64 1] 3 (0, 0))) ∧ (W.heap[Dr]? = some (.deferred (some [])) ∧ bb ≤ Dr ∧ Dr < ib)) := fun W b => by
        have h : Below w15.heap.size w15 W := b13.trans (by rw [← hib]; exact b)
        exact ⟨⟨Hst.out.1.below h, (h.block tr (lt_of_block Hst.out.2.1)).trans Hst.out.2.1⟩, ⟨(h.block Dr (lt_of_block Hst.out.2.2.1)).trans Hst.out.2.2.1, Hst.out.2.2.2.1, by rw [hib]; exact lt_of_block Hst.out.2.2.1⟩⟩
      clear hcb hb2 b13 KI bI hci hib hcbe q29 Hst
      go_wp2_with fail
      refine wpIn_wide.1 (range_gift (n := 3) (gf := 36) (lb := #[.pointer (some ⟨cb, 0, none⟩)]) rfl (enters_of Tryd.func36 (by kernel_rfl) rfl)
        (encs := encK) (fun _ => rfl) (gift := fun _ => []) (V := fun pre x _ _ => VK Rl pre x) [] (C := FindsK bb tb mb ob B P cO kb kf m cnt nb cb)
        (fun pre bl W => bl = [ib] ∧ W.heap[ib]? = some (.cells #[.int .i64 (pre.length : Int)] 3 (0, 0)) ∧ Below ib w13 W ∧ w13.heap.size ≤ W.heap.size) (fun _ _ _ _ => False) ?_ ?_ ?_ (bl0 := [ib]) ?_ ?_ (fun _ _ _ _ _ _ hk => (nomatch hk)) (fun _ _ _ _ _ _ hk => (nomatch hk)) (fun _ _ _ _ _ h _ => h)
        (keys_gift 2 w13.heap.size bb tb mb ob B P cO cb cnt nb kb kf m Rl HM.out (by rw [HNL.out.2.2]; exact HNL.out.2.1) (by rw [← HNL.out.1]; exact HNL.out.2.1))
        ?a1_ra (fun q W0 => W0.alloc (.cells #[.int .i64 q.2.k, .int .i64 q.2.b, .int .i64 q.2.p, .int .i64 q.2.m0, .int .i64 q.2.m1, .int .i64 q.2.m2, .int .i64 q.2.m3, .int .i64 q.2.m4, .int .i64 q.2.m5] 47 (0, 0))) ?_ ?assign_ra ?body_ra ?done_ra ?stop_ra)
      case assign_ra =>
        intro l q W K hK
        have HK := Lib.hid hK
        clear hK
        gi_wp2
        exact HK.out
      · rintro pre bl X Y ⟨rfl, h1, h2, h3⟩ f
        exact ⟨rfl, (f.same ib (.inr (by simp)) (lt_of_block h1)).trans h1, h2.trans { os := f.os, tape := f.tape, output := f.output, size := f.size, block := fun z hz => f.same z (.inl ⟨by have := HIB.out.2.1; omega, by simp⟩) (by have := lt_of_block h1; omega) }, Nat.le_trans h3 f.size⟩
      · rintro cde pre bl X Y h f
        exact h.elim
      · rintro pre bl X ⟨rfl, h1, _⟩ k hk
        rw [List.mem_singleton.1 hk]; exact lt_of_block h1
      · exact ⟨rfl, HIB.out.1, Below.refl _ _, Nat.le_refl _⟩
      · intro W hW
        exact ⟨(HUP.out W (hW.mono (by have := HIB.out.2.1; omega))).1.1.t, (hW.block cb HIB.out.2.2.2.2.1).trans HIB.out.2.2.1⟩
      · intro q W
        exact (Below.refl _ _).alloc (Nat.le_refl _) _
      case body_ra =>
        rintro l pre bl ⟨j, d⟩ W0 W hB0 hsz hW hbl hgf ⟨rfl, h1, h2, h3⟩ ⟨hV1, hV2⟩
        obtain ⟨eb, heb⟩ : ∃ eb, eb = W0.heap.size := ⟨_, rfl⟩
        have hK : W.heap[eb]? = some (.cells #[.int .i64 d.k, .int .i64 d.b, .int .i64 d.p, .int .i64 d.m0, .int .i64 d.m1, .int .i64 d.m2, .int .i64 d.m3, .int .i64 d.m4, .int .i64 d.m5] 47 (0, 0)) := by
          rw [hW eb (by rw [heb]; simp) (by omega), heb]
          exact heap_alloc_new W0 _
        try rw [← heb]
        obtain ⟨⟨hPC, hTB⟩, _⟩ := HUP.out W h2
        have hj : j = pre.length := hV1
        rw [← hj] at h1 hV2
        have hjl : j < Rl.length := (List.getElem?_eq_some_iff.1 hV2).1
        have hjN : j < N := by rw [HNL.out.1]; exact hjl
        have hq : Rl[j]! = d := by rw [getElem!_pos Rl j hjl]; exact (List.getElem?_eq_some_iff.1 hV2).2
        have HJ : Hid (((pre ++ [(j, d)]).length : Int) = (j : Int) + 1) := by show _ = _; rw [List.length_append, hj]; simp
        have cI := cell_regrown (cell_of_one h1)
        have cP := cell_regrown hPC.ptr
        have cX := hPC.r.cell.2.2.1
        rw [← HNL.out.1] at cX
        replace cX := cell_regrown cX
        obtain ⟨g, o, ha1, _, m0, _⟩ := hPC.r.item hjl
        rw [hq] at m0
        replace m0 := cell_regrown m0
        rw [ha1] at cX
        obtain ⟨c0, _⟩ := sl_cells9 (s := d) hK
        replace c0 := cell_regrown c0
        have u1 : decide ((N : Int) ≤ (j : Int)) = false := decide_eq_false (by omega)
        have u1' : decide (N ≤ j) = false := decide_eq_false (by omega)
        have u2 : (0 : Int) ≤ (j : Int) := by omega
        have u3 : (j : Int) < (N : Int) := by omega
        have hj64 : (j : Int) ≤ 1000 := by have := HNL.out.2.1; omega
        have hSt := regrown_start W
        have HBo := Lib.hid (And.intro h1 (And.intro h2 (And.intro h3 (And.intro hPC hTB))))
        clear hq hV1 hV2 ha1 hjl hjN h1 h2 h3 hPC hTB hj hW hbl hgf hK hB0 hsz heb
        gi_wp2
        refine wpIn_round_quiet (C := fun w' => ∃ p : Regrown, w' = Sort.grow (redrawn W p.d) p.os) (by kernel_rfl) (by kernel_rfl) (by kernel_rfl) hSt ?_
        repeat (go_big_quiet_step (fail))
        refine wpQuiet_nil ?_
        intro _ hw'
        obtain ⟨⟨dq, osq⟩, hw''⟩ := hw'
        subst hw''
        have b6 := below_regrown W dq osq
        generalize Sort.grow (redrawn W dq) osq = W6 at b6 ⊢
        clear cI cP cX m0 c0 hSt u1 u1' u2 u3
        obtain ⟨h1, h2, h3, hPC, hTB⟩ := HBo.out
        have hsB := (HLO.out W hPC.bel).2.1
        have i6 := (b6.block ib (lt_of_block h1)).trans h1
        have t6 := (b6.block tr (lt_of_block hTB)).trans hTB
        have s6 := (b6.block sb (lt_of_block hsB)).trans hsB
        have o7 := Only.setCell W6 ⟨ib, 0, none⟩ (.int .i64 ((j : Int) + 1))
        have htri : tr ≠ ib := by have := HIB.out.2.2.2.2.2.2; omega
        have hsbi : sb ≠ ib := by have := HIB.out.2.2.2.2.2.1; have := HBB.out.2.2.1; omega
        have i7 : (W6.setCell ⟨ib, 0, none⟩ (.int .i64 ((j : Int) + 1))).heap[ib]? = some (.cells #[.int .i64 ((j : Int) + 1)] 3 (0, 0)) := one_setCell i6
        have t7 := (o7.block tr htri).trans t6
        have s7 := (o7.block sb hsbi).trans s6
        have HN : Hid (Tn [ib] W (W6.setCell ⟨ib, 0, none⟩ (.int .i64 ((j : Int) + 1))) [ib] ∧ ((W6.setCell ⟨ib, 0, none⟩ (.int .i64 ((j : Int) + 1))).heap[ib]? = some (.cells #[.int .i64 ((pre ++ [(j, d)]).length : Int)] 3 (0, 0)) ∧ Below ib w13 (W6.setCell ⟨ib, 0, none⟩ (.int .i64 ((j : Int) + 1))) ∧ w13.heap.size ≤ (W6.setCell ⟨ib, 0, none⟩ (.int .i64 ((j : Int) + 1))).heap.size)) := by
          refine ⟨(Tn.below (bl := [ib]) b6).trans (Tn.setCell W6 ⟨ib, 0, none⟩ (.int .i64 ((j : Int) + 1)) (by simp)), by rw [HJ.out]; exact i7, (h2.trans (b6.mono (by have := lt_of_block h1; omega))).setCell (Nat.le_refl _) _, ?_⟩
          rw [o7.size]
          exact Nat.le_trans h3 b6.size
        have g1 := cell_of_one i6
        have g2 := free_of_one i6
        have g3 := cell_of_one i7
        have g4 := cell_of_one t7
        have g5 := cell_of_one s7
        clear h1 h2 h3 hPC hTB hsB i6 t6 s6 o7 htri hsbi i7 t7 s7 b6 HBo
        gi_wp2
        exact ⟨_, HN.out.1, rfl, HN.out.2⟩
      case done_ra =>
        rintro D2 xs bl W hD hDl hDb hS ⟨rfl, h1, h2, h3⟩ hdef
        have hlen : xs.length = N := by rw [hS]; exact HNL.out.1.symm
        rw [hlen] at h1
        have hDX : ib < D2 := by have := HIB.out.2.1; omega
        obtain ⟨⟨hPC, hTB⟩, hEX⟩ := HUP.out W h2
        have p1 := hPC.ptr
        have p2 := hPC.r.cell.2.2.1
        rw [← HNL.out.1] at p2
        have p3 := cell_of_one h1
        have p4 := cell_of_one hTB
        have p5 := cell_of_one (HLO.out W hPC.bel).2.1
        have u5 : ((N : Int) == (N : Int)) = true := by simp
        have HW := Lib.hid (And.intro hPC (And.intro hTB (And.intro hdef (And.intro hDX hEX))))
        clear hPC hTB h1 h2 h3 hdef hDb hDl hD hDX hS hlen hEX
        go_wp2_with fail
        go_quiet (fail)
        have bD := (Drawn.mk W nq).below W.heap.size
        generalize W.drewN nq = w14 at bD ⊢
        clear p1 p2 p3 p4 p5
        have q4 := cell_of_one ((bD.block tr (lt_of_block HW.out.2.1)).trans HW.out.2.1)
        have hmk := newI64 w14 _ 2 rfl
        have Hst : Hid (PCt w3 bb B4 B4 xp tb mb ob B P cO kb kf m cnt nb a1 c1 Rl (w14.alloc (.cells #[.int .i64 2] 3 (0, 0))) ∧ (w14.alloc (.cells #[.int .i64 2] 3 (0, 0))).heap[w14.heap.size]? = some (.cells #[.int .i64 2] 3 (0, 0)) ∧ (w14.alloc (.cells #[.int .i64 2] 3 (0, 0))).heap[D2]? = some (.deferred (some [])) ∧ bb ≤ D2 ∧ (w14.alloc (.cells #[.int .i64 2] 3 (0, 0))).heap[Dr]? = some (.deferred (some [])) ∧ bb ≤ Dr ∧ Dr < D2) := by
          have bb14 := bD.trans (hmk.2.mono bD.size)
          exact ⟨HW.out.1.below bb14, hmk.1, (bb14.block D2 (lt_of_block HW.out.2.2.1)).trans HW.out.2.2.1, by have := HW.out.2.2.2.1; have := HIB.out.2.2.2.2.2.1; omega , (bb14.block Dr (lt_of_block HW.out.2.2.2.2.1)).trans HW.out.2.2.2.2.1, HW.out.2.2.2.2.2.1, by have := HW.out.2.2.2.2.2.2; have := HW.out.2.2.2.1; omega⟩
        clear bD HW hmk
        go_wp2_with fail
        generalize (w14.alloc (.cells #[.int .i64 2] 3 (0, 0))) = w15 at Hst ⊢
        generalize w14.heap.size = tr1 at Hst ⊢
        clear q4 HUP HIB
        rw [rounds_succ]
        obtain ⟨tr, rfl⟩ : ∃ x, x = tr1 := ⟨_, rfl⟩
        as_aux_lemma =>
          have q29 := cell_of_one Hst.out.2.1
          have hlo := HLO.out w15 Hst.out.1.bel
          have g3 := cell_of_one hlo.2.2.1
          have g4 := free_of_one hlo.2.2.1
          have HF : Hid ((w15.setCell ⟨rb, 0, none⟩ (.bool true)).heap[rb]? = some (.cells #[.bool true] 4 (0, 0)) ∧ Below base w (w15.setCell ⟨rb, 0, none⟩ (.bool true)) ∧ (w15.setCell ⟨rb, 0, none⟩ (.bool true)).heap[D2]? = some (.deferred (some [])) ∧ (w15.setCell ⟨rb, 0, none⟩ (.bool true)).heap[Dr]? = some (.deferred (some [])) ∧ D2 ≠ Dr ∧ bb ≤ D2 ∧ bb ≤ Dr) := by
            have o7 := Only.setCell w15 ⟨rb, 0, none⟩ (.bool true)
            have h1 := HBB.out.2.2.2.1
            have h2 := Hst.out.2.2.2.1
            have h3 := Hst.out.2.2.2.2.2.1
            have h4 := Hst.out.2.2.2.2.2.2
            exact ⟨one_setCell hlo.2.2.1, hlo.2.2.2.1.setCell HPR.out.2.2.1 _, (o7.block D2 (by show D2 ≠ rb; omega)).trans Hst.out.2.2.1, (o7.block Dr (by show Dr ≠ rb; omega)).trans Hst.out.2.2.2.2.1, by omega, h2, h3⟩
          clear Hst hlo
          go_wp2_with fail
          refine marks_two HF.out.2.2.2.2.1 HF.out.2.2.1 HF.out.2.2.2.1 ?_
          intro W' e1 e2 e3 e4 e5
          have h1 := HBB.out
          have h2 := HF.out.2.2.2.2.2
          have g9 : W'.cell? ⟨rb, 0, none⟩ = some (.bool true) := cell_of_one ((e5 rb (by omega) (by omega)).trans HF.out.1)
          exact ⟨_, res_bool rfl rfl g9, rfl, HF.out.2.1.trans { os := e1, tape := e2, output := e3, size := by rw [e4]; exact Nat.le_refl _, block := fun k hk => e5 k (by omega) (by omega) }⟩
      case stop_ra =>
        rintro D cde pre bl W hD hDl hDb hS hix hdef
        exact hix.elim
  case stop_r =>
    rintro Ds cde pre bl W hD hDl hDb hS ⟨rfl, ⟨rfl, h1, h2, h3⟩, hstop⟩ hdef
    have hDX : ib < Ds := by have := HIB.out.2.1; omega
    obtain ⟨L5, hlen⟩ : ∃ L5, L5 = pre.length := ⟨_, rfl⟩
    rw [← hlen] at h1 hstop
    have hst2 : ((L5 : Int) == x5) = true := by simp [hstop]
    clear hstop
    obtain ⟨⟨hPC, hTB⟩, hEX⟩ := HUP.out W h2
    have p1 := hPC.ptr
    have p2 := hPC.r.cell.2.2.1
    rw [← HNL.out.1] at p2
    have p3 := cell_of_one h1
    have p4 := cell_of_one hTB
    have p5 := cell_of_one (HLO.out W hPC.bel).2.1
    have HW := Lib.hid (And.intro hPC (And.intro hTB (And.intro hdef (And.intro hDX hEX))))
    clear hPC hTB h1 h2 h3 hdef hDb hDl hD hDX hS hlen hEX
    have HP := Lib.hid (And.intro p1 (And.intro p2 (And.intro p3 (And.intro p4 p5))))
    gi_wp2
    go_upto_region 47 with (fail)
    go_cut [355] from 297 to 356 (fun s355 wx => s355 = .bool false ∧ Hid (∃ nq, wx = W.drewN nq))
    case first =>
      by_cases hLN : L5 = N
      · have hLN' : (L5 : Int) = (N : Int) := by rw [hLN]
        rw [hLN'] at p3
        clear hLN hLN' hst2
        have u5 : ((N : Int) == (N : Int)) = true := by simp
        go_quiet (fail)
        have HQ : Hid (∃ n, W.drewN nq = W.drewN n) := ⟨nq, rfl⟩
        go_wp2_with fail
        go_meet
        case rel => exact ⟨rfl, HQ⟩
      · have u5 : ((L5 : Int) == (N : Int)) = false := by rw [beq_eq_false_iff_ne]; omega
        have u6 : (L5 == N) = false := by rw [beq_eq_false_iff_ne]; exact hLN
        have u7 : ¬ ((L5 : Int) = (N : Int)) := by omega
        clear hLN
        go_quiet (fail)
        have HQ : Hid (∃ n, W.drewN nq = W.drewN n) := ⟨nq, rfl⟩
        go_wp2_with fail
        go_meet
        case rel => exact ⟨rfl, HQ⟩
    case rest =>
      obtain ⟨rfl, HQ⟩ := hcut
      obtain ⟨nq, hq⟩ := HQ.out
      subst hq
      clear HQ HP hst2
      have bD := (Drawn.mk W nq).below W.heap.size
      generalize W.drewN nq = w14 at bD ⊢
      clear p1 p2 p3 p4 p5
      have q4 := cell_of_one ((bD.block tr (lt_of_block HW.out.2.1)).trans HW.out.2.1)
      have hmk := newI64 w14 _ 1 rfl
      have Hst : Hid (PCt w3 bb B4 B4 xp tb mb ob B P cO kb kf m cnt nb a1 c1 Rl (w14.alloc (.cells #[.int .i64 1] 3 (0, 0))) ∧ (w14.alloc (.cells #[.int .i64 1] 3 (0, 0))).heap[w14.heap.size]? = some (.cells #[.int .i64 1] 3 (0, 0)) ∧ (w14.alloc (.cells #[.int .i64 1] 3 (0, 0))).heap[Ds]? = some (.deferred (some [])) ∧ bb ≤ Ds ∧ True) := by
        have bb14 := bD.trans (hmk.2.mono bD.size)
        exact ⟨HW.out.1.below bb14, hmk.1, (bb14.block Ds (lt_of_block HW.out.2.2.1)).trans HW.out.2.2.1, by have := HW.out.2.2.2.1; have := HIB.out.2.2.2.2.2.1; omega , trivial⟩
      clear bD HW hmk
      go_wp2_with fail
      generalize (w14.alloc (.cells #[.int .i64 1] 3 (0, 0))) = w15 at Hst ⊢
      generalize w14.heap.size = tr1 at Hst ⊢
      clear q4 HUP HIB
      rw [rounds_succ]
      obtain ⟨tr, rfl⟩ : ∃ x, x = tr1 := ⟨_, rfl⟩
      as_aux_lemma =>
        have q29 := cell_of_one Hst.out.2.1
        go_wp2_with fail
        generalize hw : w15.alloc (.cells #[.int .i64 0] 3 (0, 0)) = w12
        obtain ⟨KI, bI⟩ := newI64 w15 w12 0 hw
        clear hw
        obtain ⟨ib, hib⟩ : ∃ ib, ib = w15.heap.size := ⟨_, rfl⟩
        rw [← hib] at KI ⊢
        refine (keys_any tb w12).mono ?_
        rintro e w13 ⟨rfl, hcb, hb2⟩
        obtain ⟨cb, hcbe⟩ : ∃ cb, cb = w12.heap.size := ⟨_, rfl⟩
        rw [← hcbe] at hcb ⊢
        have b13 := bI.trans (hb2.mono bI.size)
        have hci := lt_of_block KI
        have HIB : Hid (w13.heap[ib]? = some (.cells #[.int .i64 0] 3 (0, 0)) ∧ ib < w13.heap.size ∧ w13.heap[cb]? = some (.cells #[.pointer (some ⟨tb, 0, none⟩)] 26 (0, 0)) ∧ ib < cb ∧ cb < w13.heap.size ∧ bb ≤ ib ∧ tr < ib) := ⟨(hb2.block ib hci).trans KI, Nat.lt_of_lt_of_le hci hb2.size, hcb, by omega, lt_of_block hcb, by rw [hib]; exact Hst.out.1.size, by rw [hib]; exact lt_of_block Hst.out.2.1⟩
        have HUP : Hid (∀ W, Below ib w13 W → (PCt w3 bb B4 B4 xp tb mb ob B P cO kb kf m cnt nb a1 c1 Rl W ∧ W.heap[tr]? = some (.cells #[.int .i64 1] 3 (0, 0))) ∧ (W.heap[Ds]? = some (.deferred (some [])) ∧ bb ≤ Ds ∧ Ds < ib)) := fun W b => by
          have h : Below w15.heap.size w15 W := b13.trans (by rw [← hib]; exact b)
          exact ⟨⟨Hst.out.1.below h, (h.block tr (lt_of_block Hst.out.2.1)).trans Hst.out.2.1⟩, ⟨(h.block Ds (lt_of_block Hst.out.2.2.1)).trans Hst.out.2.2.1, Hst.out.2.2.2.1, by rw [hib]; exact lt_of_block Hst.out.2.2.1⟩⟩
        clear hcb hb2 b13 KI bI hci hib hcbe q29 Hst
        go_wp2_with fail
        refine wpIn_wide.1 (range_gift (n := 3) (gf := 36) (lb := #[.pointer (some ⟨cb, 0, none⟩)]) rfl (enters_of Tryd.func36 (by kernel_rfl) rfl)
          (encs := encK) (fun _ => rfl) (gift := fun _ => []) (V := fun pre x _ _ => VK Rl pre x) [] (C := FindsK bb tb mb ob B P cO kb kf m cnt nb cb)
          (fun pre bl W => bl = [ib] ∧ W.heap[ib]? = some (.cells #[.int .i64 (pre.length : Int)] 3 (0, 0)) ∧ Below ib w13 W ∧ w13.heap.size ≤ W.heap.size) (fun _ _ _ _ => False) ?_ ?_ ?_ (bl0 := [ib]) ?_ ?_ (fun _ _ _ _ _ _ hk => (nomatch hk)) (fun _ _ _ _ _ _ hk => (nomatch hk)) (fun _ _ _ _ _ h _ => h)
          (keys_gift 2 w13.heap.size bb tb mb ob B P cO cb cnt nb kb kf m Rl HM.out (by rw [HNL.out.2.2]; exact HNL.out.2.1) (by rw [← HNL.out.1]; exact HNL.out.2.1))
          ?a1_rc (fun q W0 => W0.alloc (.cells #[.int .i64 q.2.k, .int .i64 q.2.b, .int .i64 q.2.p, .int .i64 q.2.m0, .int .i64 q.2.m1, .int .i64 q.2.m2, .int .i64 q.2.m3, .int .i64 q.2.m4, .int .i64 q.2.m5] 47 (0, 0))) ?_ ?assign_rc ?body_rc ?done_rc ?stop_rc)
        case assign_rc =>
          intro l q W K hK
          have HK := Lib.hid hK
          clear hK
          gi_wp2
          exact HK.out
        · rintro pre bl X Y ⟨rfl, h1, h2, h3⟩ f
          exact ⟨rfl, (f.same ib (.inr (by simp)) (lt_of_block h1)).trans h1, h2.trans { os := f.os, tape := f.tape, output := f.output, size := f.size, block := fun z hz => f.same z (.inl ⟨by have := HIB.out.2.1; omega, by simp⟩) (by have := lt_of_block h1; omega) }, Nat.le_trans h3 f.size⟩
        · rintro cde pre bl X Y h f
          exact h.elim
        · rintro pre bl X ⟨rfl, h1, _⟩ k hk
          rw [List.mem_singleton.1 hk]; exact lt_of_block h1
        · exact ⟨rfl, HIB.out.1, Below.refl _ _, Nat.le_refl _⟩
        · intro W hW
          exact ⟨(HUP.out W (hW.mono (by have := HIB.out.2.1; omega))).1.1.t, (hW.block cb HIB.out.2.2.2.2.1).trans HIB.out.2.2.1⟩
        · intro q W
          exact (Below.refl _ _).alloc (Nat.le_refl _) _
        case body_rc =>
          rintro l pre bl ⟨j, d⟩ W0 W hB0 hsz hW hbl hgf ⟨rfl, h1, h2, h3⟩ ⟨hV1, hV2⟩
          obtain ⟨eb, heb⟩ : ∃ eb, eb = W0.heap.size := ⟨_, rfl⟩
          have hK : W.heap[eb]? = some (.cells #[.int .i64 d.k, .int .i64 d.b, .int .i64 d.p, .int .i64 d.m0, .int .i64 d.m1, .int .i64 d.m2, .int .i64 d.m3, .int .i64 d.m4, .int .i64 d.m5] 47 (0, 0)) := by
            rw [hW eb (by rw [heb]; simp) (by omega), heb]
            exact heap_alloc_new W0 _
          try rw [← heb]
          obtain ⟨⟨hPC, hTB⟩, _⟩ := HUP.out W h2
          have hj : j = pre.length := hV1
          rw [← hj] at h1 hV2
          have hjl : j < Rl.length := (List.getElem?_eq_some_iff.1 hV2).1
          have hjN : j < N := by rw [HNL.out.1]; exact hjl
          have hq : Rl[j]! = d := by rw [getElem!_pos Rl j hjl]; exact (List.getElem?_eq_some_iff.1 hV2).2
          have HJ : Hid (((pre ++ [(j, d)]).length : Int) = (j : Int) + 1) := by show _ = _; rw [List.length_append, hj]; simp
          have cI := cell_regrown (cell_of_one h1)
          have cP := cell_regrown hPC.ptr
          have cX := hPC.r.cell.2.2.1
          rw [← HNL.out.1] at cX
          replace cX := cell_regrown cX
          obtain ⟨g, o, ha1, _, m0, _⟩ := hPC.r.item hjl
          rw [hq] at m0
          replace m0 := cell_regrown m0
          rw [ha1] at cX
          obtain ⟨c0, _⟩ := sl_cells9 (s := d) hK
          replace c0 := cell_regrown c0
          have u1 : decide ((N : Int) ≤ (j : Int)) = false := decide_eq_false (by omega)
          have u1' : decide (N ≤ j) = false := decide_eq_false (by omega)
          have u2 : (0 : Int) ≤ (j : Int) := by omega
          have u3 : (j : Int) < (N : Int) := by omega
          have hj64 : (j : Int) ≤ 1000 := by have := HNL.out.2.1; omega
          have hSt := regrown_start W
          have HBo := Lib.hid (And.intro h1 (And.intro h2 (And.intro h3 (And.intro hPC hTB))))
          clear hq hV1 hV2 ha1 hjl hjN h1 h2 h3 hPC hTB hj hW hbl hgf hK hB0 hsz heb
          gi_wp2
          refine wpIn_round_quiet (C := fun w' => ∃ p : Regrown, w' = Sort.grow (redrawn W p.d) p.os) (by kernel_rfl) (by kernel_rfl) (by kernel_rfl) hSt ?_
          repeat (go_big_quiet_step (fail))
          refine wpQuiet_nil ?_
          intro _ hw'
          obtain ⟨⟨dq, osq⟩, hw''⟩ := hw'
          subst hw''
          have b6 := below_regrown W dq osq
          generalize Sort.grow (redrawn W dq) osq = W6 at b6 ⊢
          clear cI cP cX m0 c0 hSt u1 u1' u2 u3
          obtain ⟨h1, h2, h3, hPC, hTB⟩ := HBo.out
          have hsB := (HLO.out W hPC.bel).2.1
          have i6 := (b6.block ib (lt_of_block h1)).trans h1
          have t6 := (b6.block tr (lt_of_block hTB)).trans hTB
          have s6 := (b6.block sb (lt_of_block hsB)).trans hsB
          have o7 := Only.setCell W6 ⟨ib, 0, none⟩ (.int .i64 ((j : Int) + 1))
          have htri : tr ≠ ib := by have := HIB.out.2.2.2.2.2.2; omega
          have hsbi : sb ≠ ib := by have := HIB.out.2.2.2.2.2.1; have := HBB.out.2.2.1; omega
          have i7 : (W6.setCell ⟨ib, 0, none⟩ (.int .i64 ((j : Int) + 1))).heap[ib]? = some (.cells #[.int .i64 ((j : Int) + 1)] 3 (0, 0)) := one_setCell i6
          have t7 := (o7.block tr htri).trans t6
          have s7 := (o7.block sb hsbi).trans s6
          have HN : Hid (Tn [ib] W (W6.setCell ⟨ib, 0, none⟩ (.int .i64 ((j : Int) + 1))) [ib] ∧ ((W6.setCell ⟨ib, 0, none⟩ (.int .i64 ((j : Int) + 1))).heap[ib]? = some (.cells #[.int .i64 ((pre ++ [(j, d)]).length : Int)] 3 (0, 0)) ∧ Below ib w13 (W6.setCell ⟨ib, 0, none⟩ (.int .i64 ((j : Int) + 1))) ∧ w13.heap.size ≤ (W6.setCell ⟨ib, 0, none⟩ (.int .i64 ((j : Int) + 1))).heap.size)) := by
            refine ⟨(Tn.below (bl := [ib]) b6).trans (Tn.setCell W6 ⟨ib, 0, none⟩ (.int .i64 ((j : Int) + 1)) (by simp)), by rw [HJ.out]; exact i7, (h2.trans (b6.mono (by have := lt_of_block h1; omega))).setCell (Nat.le_refl _) _, ?_⟩
            rw [o7.size]
            exact Nat.le_trans h3 b6.size
          have g1 := cell_of_one i6
          have g2 := free_of_one i6
          have g3 := cell_of_one i7
          have g4 := cell_of_one t7
          have g5 := cell_of_one s7
          clear h1 h2 h3 hPC hTB hsB i6 t6 s6 o7 htri hsbi i7 t7 s7 b6 HBo
          gi_wp2
          exact ⟨_, HN.out.1, rfl, HN.out.2⟩
        case done_rc =>
          rintro D2 xs bl W hD hDl hDb hS ⟨rfl, h1, h2, h3⟩ hdef
          have hlen : xs.length = N := by rw [hS]; exact HNL.out.1.symm
          rw [hlen] at h1
          have hDX : ib < D2 := by have := HIB.out.2.1; omega
          obtain ⟨⟨hPC, hTB⟩, hEX⟩ := HUP.out W h2
          have p1 := hPC.ptr
          have p2 := hPC.r.cell.2.2.1
          rw [← HNL.out.1] at p2
          have p3 := cell_of_one h1
          have p4 := cell_of_one hTB
          have p5 := cell_of_one (HLO.out W hPC.bel).2.1
          have u5 : ((N : Int) == (N : Int)) = true := by simp
          have HW := Lib.hid (And.intro hPC (And.intro hTB (And.intro hdef (And.intro hDX hEX))))
          clear hPC hTB h1 h2 h3 hdef hDb hDl hD hDX hS hlen hEX
          go_wp2_with fail
          go_quiet (fail)
          have bD := (Drawn.mk W nq).below W.heap.size
          generalize W.drewN nq = w14 at bD ⊢
          clear p1 p2 p3 p4 p5
          have q4 := cell_of_one ((bD.block tr (lt_of_block HW.out.2.1)).trans HW.out.2.1)
          have hmk := newI64 w14 _ 2 rfl
          have Hst : Hid (PCt w3 bb B4 B4 xp tb mb ob B P cO kb kf m cnt nb a1 c1 Rl (w14.alloc (.cells #[.int .i64 2] 3 (0, 0))) ∧ (w14.alloc (.cells #[.int .i64 2] 3 (0, 0))).heap[w14.heap.size]? = some (.cells #[.int .i64 2] 3 (0, 0)) ∧ (w14.alloc (.cells #[.int .i64 2] 3 (0, 0))).heap[D2]? = some (.deferred (some [])) ∧ bb ≤ D2 ∧ (w14.alloc (.cells #[.int .i64 2] 3 (0, 0))).heap[Ds]? = some (.deferred (some [])) ∧ bb ≤ Ds ∧ Ds < D2) := by
            have bb14 := bD.trans (hmk.2.mono bD.size)
            exact ⟨HW.out.1.below bb14, hmk.1, (bb14.block D2 (lt_of_block HW.out.2.2.1)).trans HW.out.2.2.1, by have := HW.out.2.2.2.1; have := HIB.out.2.2.2.2.2.1; omega , (bb14.block Ds (lt_of_block HW.out.2.2.2.2.1)).trans HW.out.2.2.2.2.1, HW.out.2.2.2.2.2.1, by have := HW.out.2.2.2.2.2.2; have := HW.out.2.2.2.1; omega⟩
          clear bD HW hmk
          go_wp2_with fail
          generalize (w14.alloc (.cells #[.int .i64 2] 3 (0, 0))) = w15 at Hst ⊢
          generalize w14.heap.size = tr1 at Hst ⊢
          clear q4 HUP HIB
          rw [rounds_succ]
          obtain ⟨tr, rfl⟩ : ∃ x, x = tr1 := ⟨_, rfl⟩
          as_aux_lemma =>
            have q29 := cell_of_one Hst.out.2.1
            have hlo := HLO.out w15 Hst.out.1.bel
            have g3 := cell_of_one hlo.2.2.1
            have g4 := free_of_one hlo.2.2.1
            have HF : Hid ((w15.setCell ⟨rb, 0, none⟩ (.bool true)).heap[rb]? = some (.cells #[.bool true] 4 (0, 0)) ∧ Below base w (w15.setCell ⟨rb, 0, none⟩ (.bool true)) ∧ (w15.setCell ⟨rb, 0, none⟩ (.bool true)).heap[D2]? = some (.deferred (some [])) ∧ (w15.setCell ⟨rb, 0, none⟩ (.bool true)).heap[Ds]? = some (.deferred (some [])) ∧ D2 ≠ Ds ∧ bb ≤ D2 ∧ bb ≤ Ds) := by
              have o7 := Only.setCell w15 ⟨rb, 0, none⟩ (.bool true)
              have h1 := HBB.out.2.2.2.1
              have h2 := Hst.out.2.2.2.1
              have h3 := Hst.out.2.2.2.2.2.1
              have h4 := Hst.out.2.2.2.2.2.2
              exact ⟨one_setCell hlo.2.2.1, hlo.2.2.2.1.setCell HPR.out.2.2.1 _, (o7.block D2 (by show D2 ≠ rb; omega)).trans Hst.out.2.2.1, (o7.block Ds (by show Ds ≠ rb; omega)).trans Hst.out.2.2.2.2.1, by omega, h2, h3⟩
            clear Hst hlo
            go_wp2_with fail
            refine marks_two HF.out.2.2.2.2.1 HF.out.2.2.1 HF.out.2.2.2.1 ?_
            intro W' e1 e2 e3 e4 e5
            have h1 := HBB.out
            have h2 := HF.out.2.2.2.2.2
            have g9 : W'.cell? ⟨rb, 0, none⟩ = some (.bool true) := cell_of_one ((e5 rb (by omega) (by omega)).trans HF.out.1)
            exact ⟨_, res_bool rfl rfl g9, rfl, HF.out.2.1.trans { os := e1, tape := e2, output := e3, size := by rw [e4]; exact Nat.le_refl _, block := fun k hk => e5 k (by omega) (by omega) }⟩
        case stop_rc =>
          rintro D cde pre bl W hD hDl hDb hS hix hdef
          exact hix.elim
end Go.Proofs.YtpbckjagiebmjaaDoor.walkTablePlays
