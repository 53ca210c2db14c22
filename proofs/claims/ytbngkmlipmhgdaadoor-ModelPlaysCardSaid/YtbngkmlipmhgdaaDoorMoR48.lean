/- ModelPlays: the range over the fronts. By the verifier of shale. -/
import Derived.Test.YtbngkmlipmhgdaaDoorGreat1
import Derived.Test.YtbngkmlipmhgdaaDoorGreat2
import Derived.Test.YtbngkmlipmhgdaaDoorGreat3
import Derived.Test.YtbngkmlipmhgdaaDoorGreat4
import Derived.Sort.LoopGhostIn
import Derived.Shelf.Abstract
import Derived.Deep.Cut
namespace Go.Proofs.YtbngkmlipmhgdaaDoor.Mo
open Go Go.RowKit Bin
set_option linter.unusedVariables false
set_option linter.unusedSimpArgs false
attribute [local go_sem] Oper.semAt_some
def findRange : Code → Option Code
  | .rangeFunc a b c d => some (.rangeFunc a b c d)
  | .seq a b => match findRange a with
    | some c => some c
    | none => findRange b
  | .block _ c => findRange c
  | .loop c => findRange c
  | .cond _ a b => match findRange a with
    | some c => some c
    | none => findRange b
  | _ => none
noncomputable def rng48 : Code := (Tryd.f3.body.bind findRange).getD .skip
/-- the front's bytes are written, one behind the other. -/
structure LpI (gx : List Nat) (W : World) (og n sz : Nat) (kb : Nat → Nat) (wx : World) : Prop where
  t : Tn gx W wx gx
  o : wx.heap[og]? = some (.cells (outV kb sz n n).toArray 31 (0, 0))
  r : ∀ j, j < n → ∃ cs, wx.heap[kb j]? = some (.cells cs 5 (0, 0)) ∧ cs.size = sz
theorem LpI.start {gx : List Nat} {W wx : World} {og n sz : Nat} {kb : Nat → Nat} {T : Nat → Bs} (h : AllS W og n sz kb T) (hl : ∀ k, (T k).length = sz) (b : Below W.heap.size W wx) : LpI gx W og n sz kb wx :=
  ⟨Tn.below b, (b.block og (lt_of_block h.1)).trans h.1, fun j hj => ⟨_, (b.block _ (lt_of_block (h.2.1 j hj).1)).trans (h.2.1 j hj).1, by simp [hl j]⟩⟩
theorem LpI.cell {gx : List Nat} {W wx : World} {og n sz : Nat} {kb : Nat → Nat} (h : LpI gx W og n sz kb wx) (hs : 1 ≤ sz) {i : Nat} (hi : i < n) :
    wx.cell? ⟨og, i, none⟩ = some (.slice (some ⟨kb i, 0, none⟩) sz sz) ∧ (∃ v, wx.cell? ⟨kb i, 0, none⟩ = some v) ∧ wx.frozen? ⟨kb i, 0, none⟩ = false := by
  obtain ⟨cs, h1, h2⟩ := h.r i hi
  refine ⟨by rw [(cell_list h.o i).1, outV_at kb sz n n hi, if_pos hi], ⟨cs[0]'(by omega), by rw [cell_of_row wx (kb i) 0 cs _ (0, 0) h1]; exact Array.getElem?_eq_getElem _⟩, by unfold World.frozen?; simp only; rw [h1]; rfl⟩
theorem LpI.put {gx : List Nat} {W wx : World} {og n sz : Nat} {kb : Nat → Nat} (h : LpI gx W og n sz kb wx) {i : Nat} (hi : i < n) (hg : kb i ∈ gx) (ho : og ≠ kb i) (v : Value) : LpI gx W og n sz kb (wx.setCell ⟨kb i, 0, none⟩ v) := by
  have o := Only.setCell wx ⟨kb i, 0, none⟩ v
  refine ⟨h.t.trans (Tn.setCell wx ⟨kb i, 0, none⟩ v hg), (o.block og ho).trans h.o, fun j hj => ?_⟩
  by_cases e : kb j = kb i
  · obtain ⟨cs, h1, h2⟩ := h.r i hi
    have h3 : (wx.setCell ⟨kb i, 0, none⟩ v).heap[kb i]? = _ := heap_setCell_same wx (kb i) 0 _ _ _ h1
    exact ⟨_, by rw [e]; exact h3, by simp [h2]⟩
  · obtain ⟨cs, h1, h2⟩ := h.r j hj
    exact ⟨cs, (o.block (kb j) e).trans h1, h2⟩
theorem LpI.done {gx : List Nat} {w2 W wx : World} {og n sz nb j : Nat} {kb : Nat → Nat} (h : LpI gx W og n sz kb wx) (f : RgI w2 W nb j) (hg : ∀ k ∈ gx, w2.heap.size ≤ k ∧ k ≠ nb) (hnb : nb < w2.heap.size) :
    wx.cell? ⟨nb, 0, none⟩ = some (.int .i64 (j : Int)) ∧ wx.frozen? ⟨nb, 0, none⟩ = false ∧ (∀ k, k < w2.heap.size → k ≠ nb → (wx.setCell ⟨nb, 0, none⟩ (.int .i64 ((j : Int) + 1))).heap[k]? = w2.heap[k]?) ∧ (wx.setCell ⟨nb, 0, none⟩ (.int .i64 ((j : Int) + 1))).cell? ⟨nb, 0, none⟩ = some (.int .i64 ((j : Int) + 1)) ∧
    RgI w2 (wx.setCell ⟨nb, 0, none⟩ (.int .i64 ((j : Int) + 1))) nb (j + 1) ∧ Tn (gx ++ [nb]) W (wx.setCell ⟨nb, 0, none⟩ (.int .i64 ((j : Int) + 1))) [nb] := by
  have hsz := f.size
  have hn1 : wx.heap[nb]? = some (.cells #[.int .i64 (j : Int)] 3 (0, 0)) := (h.t.same nb (by omega) (fun hm => (hg nb hm).2 rfl)).trans f.cnt
  have o := Only.setCell wx ⟨nb, 0, none⟩ (.int .i64 ((j : Int) + 1))
  have hs : ∀ k, k < w2.heap.size → k ≠ nb → (wx.setCell ⟨nb, 0, none⟩ (.int .i64 ((j : Int) + 1))).heap[k]? = w2.heap[k]? := fun k hk hne => (o.block k hne).trans ((h.t.same k (by omega) fun hm => by have := (hg k hm).1; omega).trans (f.same k hk hne))
  have h2 : (wx.setCell ⟨nb, 0, none⟩ (.int .i64 ((j : Int) + 1))).heap[nb]? = some (.cells #[.int .i64 ((j : Int) + 1)] 3 (0, 0)) := one_setCell hn1
  have t2 := Tn.setCell (bl := gx ++ [nb]) wx ⟨nb, 0, none⟩ (.int .i64 ((j : Int) + 1)) (by simp)
  have t1 : Tn (gx ++ [nb]) W wx (gx ++ [nb]) := ⟨h.t.os, h.t.tape, h.t.output, h.t.size, fun k hk hn => h.t.same k hk fun hm => hn (List.mem_append_left _ hm), fun k hk => .inl hk⟩
  have t3 := t1.trans t2
  refine ⟨cell_of_one hn1, free_of_one hn1, hs, cell_of_one h2, ⟨h.t.os.trans f.os, h.t.tape.trans f.tape, h.t.output.trans f.output, by rw [o.size]; exact Nat.le_trans hsz h.t.size, hs, h2⟩, ⟨t3.os, t3.tape, t3.output, t3.size, t3.same, fun k hk => .inl (by simp at hk; simp [hk])⟩⟩
set_option maxRecDepth 100000 in
set_option maxHeartbeats 8000000 in
theorem r48 {base mo xb n sz cb xv rb sb nb cbk : Nat} {w0 w2 : World} {bl dl : List Nat} {T : Nat → Bs} {L : List (Nat × Bs)} {x5 : Int}
    (h : PM base w0 [nb, rb, sb, xv] w2 mo xb n sz T L T L bl dl cb) (hcb : w2.heap[cbk]? = some (.cells #[.pointer (some ⟨mo, 0, none⟩)] 24 (0, 0)))
    (hnb : w2.heap[nb]? = some (.cells #[.int .i64 0] 3 (0, 0))) (hsb : w2.heap[sb]? = some (.cells #[.int .i64 x5] 3 (0, 0))) (hv : w2.heap[xv]? = some (.cells #[.pointer (some ⟨xb, 0, none⟩)] 29 (0, 0))) (hne : nb ≠ sb ∧ nb ≠ xv ∧ nb ≠ cbk) (hL : L.length ≤ 1000)
    (v0 v1 v2 v3 v4 v5 v6 v7 v8 v9 v10 v12 v13 v14 v15 v16 v18 v19 v20 v21 v22 v23 v24 v25 v27 v28 v29 v30 v31 v32 v33 v34 v35 v36 v37 v38 v39 v40 v41 v42 v43 v44 v45 v46 v47 v48 v49 v50 v51 v52 v53 v54 v55 v56 v57 v58 v59 v60 v61 v62 v63 v64 v65 v66 v67 v68 v69 v70 v71 v72 v73 v74 v75 v76 v77 v78 v79 v80 v81 v82 v83 v84 v85 v86 v87 v88 v89 v90 v91 v92 v93 v94 v95 v96 v97 v98 v99 v100 v101 v102 v103 v104 v105 v106 v107 v108 v109 v110 v111 v112 v113 v114 v115 v116 v117 v118 v119 v120 v121 v122 v123 v124 v125 v126 v127 v128 v129 v130 v131 v132 v133 v134 v135 v136 v137 v138 v139 v140 v141 v142 v143 v144 v145 v146 v147 v148 v149 v150 v151 v152 v153 v154 v155 v156 v157 v158 v159 v160 v161 v162 v163 v164 v165 v166 v167 v168 v169 v170 v171 v172 v173 v174 v175 v176 v177 v178 v179 v180 v181 v182 v183 v184 v185 v186 v187 v188 v189 v190 v191 v192 v193 v194 v195 v196 v197 v198 v199 v200 v201 v202 v203 v204 v205 v206 v207 v208 v209 v210 v211 v212 v213 v214 v215 v216 v217 v218 v219 v220 v221 v222 v223 v224 v225 v226 v227 v228 v229 v230 v231 v232 v233 v234 v235 v236 v237 v238 v239 v240 v241 v242 v243 v244 v245 v246 v247 v248 v249 v250 v251 v252 v253 v254 v255 v256 v257 v259 v260 v261 v262 v263 v264 v265 v266 v267 v268 v269 v270 v271 v272 v273 v274 v275 v276 v277 v278 v279 v280 v281 v282 v283 v284 v285 v286 v287 v288 v289 v290 v291 v292 v293 v294 v295 v296 v297 v298 v299 v300 v301 v302 v303 v304 v305 v306 v307 v308 v309 v310 v311 v312 v313 v314 v315 v316 v317 v318 v319 v320 v321 v322 v323 v324 v325 v326 v327 v328 v329 v330 v331 v332 v333 v334 v335 v336 v337 v338 v339 v340 v341 v342 v343 v344 v345 v346 v347 v348 v349 v350 v351 v352 v353 v354 v355 v356 v357 v358 v359 v360 v361 v362 v363 v364 v365 v366 v367 v368 v369 v370 v371 : Value) (Q : Exit → Act → World → Prop)
    (hQ : ∀ (e : Exit) (D j : Nat) (W : World), (e = .normal ∨ e = .exit 5) → w2.heap.size ≤ D → D < W.heap.size → W.heap[D]? = some (.deferred (some [])) → RgI w2 W nb j → (j = L.length + 1 ∨ (j : Int) = x5) → j ≤ L.length + 1 → Q e ⟨#[v0, v1, v2, v3, v4, v5, v6, v7, v8, v9, v10, .pointer (some ⟨sb, 0, none⟩), v12, v13, v14, v15, v16, .pointer (some ⟨xv, 0, none⟩), v18, v19, v20, v21, v22, v23, v24, v25, .pointer (some ⟨nb, 0, none⟩), v27, v28, v29, v30, v31, v32, v33, v34, v35, v36, v37, v38, v39, v40, v41, v42, v43, v44, v45, v46, v47, v48, v49, v50, v51, v52, v53, v54, v55, v56, v57, v58, v59, v60, v61, v62, v63, v64, v65, v66, v67, v68, v69, v70, v71, v72, v73, v74, v75, v76, v77, v78, v79, v80, v81, v82, v83, v84, v85, v86, v87, v88, v89, v90, v91, v92, v93, v94, v95, v96, v97, v98, v99, v100, v101, v102, v103, v104, v105, v106, v107, v108, v109, v110, v111, v112, v113, v114, v115, v116, v117, v118, v119, v120, v121, v122, v123, v124, v125, v126, v127, v128, v129, v130, v131, v132, v133, v134, v135, v136, v137, v138, v139, v140, v141, v142, v143, v144, v145, v146, v147, v148, v149, v150, v151, v152, v153, v154, v155, v156, v157, v158, v159, v160, v161, v162, v163, v164, v165, v166, v167, v168, v169, v170, v171, v172, v173, v174, v175, v176, v177, v178, v179, v180, v181, v182, v183, v184, v185, v186, v187, v188, v189, v190, v191, v192, v193, v194, v195, v196, v197, v198, v199, v200, v201, v202, v203, v204, v205, v206, v207, v208, v209, v210, v211, v212, v213, v214, v215, v216, v217, v218, v219, v220, v221, v222, v223, v224, v225, v226, v227, v228, v229, v230, v231, v232, v233, v234, v235, v236, v237, v238, v239, v240, v241, v242, v243, v244, v245, v246, v247, v248, v249, v250, v251, v252, v253, v254, v255, v256, v257, .func (.func 28) #[] #[.pointer (some ⟨cbk, 0, none⟩)], v259, v260, v261, v262, v263, v264, v265, v266, v267, v268, v269, v270, v271, v272, v273, v274, v275, v276, v277, v278, v279, v280, v281, v282, v283, v284, v285, v286, v287, v288, v289, v290, v291, v292, v293, v294, v295, v296, v297, v298, v299, v300, v301, v302, v303, v304, v305, v306, v307, v308, v309, v310, v311, v312, v313, v314, v315, v316, v317, v318, v319, v320, v321, v322, v323, v324, v325, v326, v327, v328, v329, v330, v331, v332, v333, v334, v335, v336, v337, v338, v339, v340, v341, v342, v343, v344, v345, v346, v347, v348, v349, v350, v351, v352, v353, v354, v355, v356, v357, v358, v359, v360, v361, v362, v363, v364, v365, v366, v367, v368, v369, v370, v371], [{ target := .collected D, args := #[] }]⟩ W) :
    Code.wp Tryd.prog rng48 Q ⟨#[v0, v1, v2, v3, v4, v5, v6, v7, v8, v9, v10, .pointer (some ⟨sb, 0, none⟩), v12, v13, v14, v15, v16, .pointer (some ⟨xv, 0, none⟩), v18, v19, v20, v21, v22, v23, v24, v25, .pointer (some ⟨nb, 0, none⟩), v27, v28, v29, v30, v31, v32, v33, v34, v35, v36, v37, v38, v39, v40, v41, v42, v43, v44, v45, v46, v47, v48, v49, v50, v51, v52, v53, v54, v55, v56, v57, v58, v59, v60, v61, v62, v63, v64, v65, v66, v67, v68, v69, v70, v71, v72, v73, v74, v75, v76, v77, v78, v79, v80, v81, v82, v83, v84, v85, v86, v87, v88, v89, v90, v91, v92, v93, v94, v95, v96, v97, v98, v99, v100, v101, v102, v103, v104, v105, v106, v107, v108, v109, v110, v111, v112, v113, v114, v115, v116, v117, v118, v119, v120, v121, v122, v123, v124, v125, v126, v127, v128, v129, v130, v131, v132, v133, v134, v135, v136, v137, v138, v139, v140, v141, v142, v143, v144, v145, v146, v147, v148, v149, v150, v151, v152, v153, v154, v155, v156, v157, v158, v159, v160, v161, v162, v163, v164, v165, v166, v167, v168, v169, v170, v171, v172, v173, v174, v175, v176, v177, v178, v179, v180, v181, v182, v183, v184, v185, v186, v187, v188, v189, v190, v191, v192, v193, v194, v195, v196, v197, v198, v199, v200, v201, v202, v203, v204, v205, v206, v207, v208, v209, v210, v211, v212, v213, v214, v215, v216, v217, v218, v219, v220, v221, v222, v223, v224, v225, v226, v227, v228, v229, v230, v231, v232, v233, v234, v235, v236, v237, v238, v239, v240, v241, v242, v243, v244, v245, v246, v247, v248, v249, v250, v251, v252, v253, v254, v255, v256, v257, .func (.func 28) #[] #[.pointer (some ⟨cbk, 0, none⟩)], v259, v260, v261, v262, v263, v264, v265, v266, v267, v268, v269, v270, v271, v272, v273, v274, v275, v276, v277, v278, v279, v280, v281, v282, v283, v284, v285, v286, v287, v288, v289, v290, v291, v292, v293, v294, v295, v296, v297, v298, v299, v300, v301, v302, v303, v304, v305, v306, v307, v308, v309, v310, v311, v312, v313, v314, v315, v316, v317, v318, v319, v320, v321, v322, v323, v324, v325, v326, v327, v328, v329, v330, v331, v332, v333, v334, v335, v336, v337, v338, v339, v340, v341, v342, v343, v344, v345, v346, v347, v348, v349, v350, v351, v352, v353, v354, v355, v356, v357, v358, v359, v360, v361, v362, v363, v364, v365, v366, v367, v368, v369, v370, v371], []⟩ w2 := by
  conv => arg 2; whnf
  try dsimp only
  have hlens := h.m.lens
  have hnbl := lt_of_block hnb
  have hnf := h.f nb (by simp)
  have HL := Lib.hid (And.intro hlens (And.intro hL (And.intro hne (And.intro hnbl hnf))))
  have HH := Lib.hid (And.intro h (And.intro hcb (And.intro hnb (And.intro hsb hv))))
  have HQ := Lib.hid hQ
  clear hlens hnbl hnf h hcb hnb hsb hv hne hL hQ
  refine wpIn_wide.1 (range_giftM (n := 3) (gf := 28) (lb := #[.pointer (some ⟨cbk, 0, none⟩)]) rfl (enters_of Tryd.func28 (by kernel_rfl) rfl)
    (encs := encF n) (fun _ => rfl) (gift := gift n) (V := VF n sz T L w2.heap.size) [] (M := MF mo cbk n sz) (C := FindsF mo cbk n sz T L bl dl cb)
    (fun pre bl' W => bl' = [nb] ∧ RgI w2 W nb pre.length) (fun c pre bl' W => c = .exit 5 ∧ bl' = [nb] ∧ RgI w2 W nb pre.length ∧ (pre.length : Int) = x5) ?_ ?_ ?_ ?_ (bl0 := [nb]) ?_ ?_ vf_gift vf_lt vf_same
    (fronts_iter 2 w2.heap.size mo cbk n sz T L bl dl cb)
    ?a1_s (fun x W0 => W0) ?_ ?assign_s ?body_s ?done_s ?stop_s)
  case assign_s =>
    intro l q W K hK
    have HK := Lib.hid hK
    clear hK
    gi_wp2
    exact HK.out
  · rintro pre bl' X Y ⟨rfl, h1⟩ f
    exact ⟨rfl, h1.fr f⟩
  · rintro c pre bl' X Y ⟨rfl, rfl, h1, h2⟩ f
    exact ⟨rfl, rfl, h1.fr f, h2⟩
  · rintro pre bl' X ⟨rfl, h1⟩ k hk
    rw [List.mem_singleton.1 hk]
    exact lt_of_block h1.cnt
  · rintro pre bl' X ⟨rfl, h1⟩
    have hp := HH.out.1.fr (by simp) h1
    exact hp.m.mf ((h1.same cbk (lt_of_block HH.out.2.1) (Ne.symm HL.out.2.2.1.2.2)).trans HH.out.2.1)
  · exact ⟨rfl, ⟨rfl, rfl, rfl, Nat.le_refl _, fun _ _ _ => rfl, HH.out.2.2.1⟩⟩
  · intro W hW
    refine ⟨HH.out.1.m.below hW, (hW.block cbk (lt_of_block HH.out.2.1)).trans HH.out.2.1, fun k hk hm => ?_⟩
    have h1 := HH.out.1.m.lt k (.inr hk)
    simp only [List.mem_cons, List.not_mem_nil, or_false] at hm
    rcases hm with h | h | h
    · omega
    · omega
    · exact HL.out.2.2.2.2.2.2.2 (by rw [← h]; exact hk)
  · intro q W
    exact Below.refl _ _
  case body_s =>
    rintro l pre bl' ⟨k, og, kb⟩ W0 W hB0 hsz hW hbl hgf ⟨rfl, hI⟩ ⟨hV1, hV2, hV3, hV4, hV5⟩
    have hk : k = pre.length := hV1
    have hk2 : k ≤ L.length := hV2
    have hA : AllS W og n sz kb (app T (L.take k)) := hV3
    have hP := HH.out.1.fr (by simp) hI
    have hlen := app_len (L.take k) T HL.out.1.1 (fun p hp => (HL.out.1.2.1 p (List.mem_of_mem_take hp)).2)
    have hF0 := front_any hP.r k (by have := HL.out.2.1; omega)
    have c0 : W.cell? ⟨nb, 0, none⟩ = some (.int .i64 (k : Int)) := by rw [hk]; exact cell_of_one hI.cnt
    have c1 : W.cell? ⟨xv, 0, none⟩ = some (.pointer (some ⟨xb, 0, none⟩)) := cell_of_one ((hI.same xv (lt_of_block HH.out.2.2.2.2) (Ne.symm HL.out.2.2.1.2.1)).trans HH.out.2.2.2.2)
    have HC := Lib.hid hF0
    have HB := Lib.hid (And.intro hk (And.intro hk2 (And.intro hA (And.intro hlen (And.intro hI (And.intro hV4 hV5))))))
    clear hP hlen hF0 hk hk2 hA hV1 hV2 hV3 hV4 hV5 hB0 hsz hW hbl hgf hI
    gi_wp2
    refine ⟨trivial, (CallsIn.inRound l (callsIn_wide.2 HC.out)).mono ?_⟩
    rintro e w4 ⟨g, cap, rfl, _, _, ⟨S, hF⟩, b4⟩
    clear HC c0 c1
    have hc := sameLists_any (c1 := n) (c2 := cap) ((HB.out.2.2.1.below b4).lst HB.out.2.2.2.1 HL.out.1.2.2.2.2.2.1) hF.lst HL.out.1.2.2.2.1 (by have := HL.out.1.2.2.2.1; unfold maxLen; omega)
    rw [decide_eq_true (show n = n ∧ eqN (app T (L.take k)) (app T (L.take k)) n from ⟨rfl, fun _ _ => rfl⟩)] at hc
    have HC := Lib.hid hc
    have HB4 := Lib.hid b4
    clear hc hF b4
    gi_wp2
    refine ⟨trivial, (CallsIn.inRound l (callsIn_wide.2 HC.out)).mono ?_⟩
    rintro e w5 ⟨rfl, b5⟩
    have HS0 : Hid (LpI (gift n ⟨k, og, kb⟩) W og n sz kb w5) := LpI.start HB.out.2.2.1 HB.out.2.2.2.1 (HB4.out.trans (b5.mono HB4.out.size))
    have hn6 : (n : Int) ≤ 1048576 := by have := HL.out.1.2.2.2.1; omega
    clear HC HB4 b5
    gi_wp2
    gi_loopg [29] n (fun gh s29 wx => ∃ i : Nat, gh = n - i ∧ i ≤ n ∧ s29 = .int .i64 (i : Int) ∧ Hid (LpI (gift n ⟨k, og, kb⟩) W og n sz kb wx))
    case atStart => exact ⟨0, rfl, Nat.zero_le _, rfl, HS0⟩
    case round =>
      clear HS0
      obtain ⟨i, hg, hin, rfl, HX⟩ := hrel
      have HI := Lib.hid hg
      clear hg
      by_cases hlt : i < n
      · have x1 : (i : Int) < (n : Int) := by omega
        have x0 : (0 : Int) ≤ (i : Int) := by omega
        have x9 : (i : Int) ≤ 1048576 := by omega
        have hs1 : 1 ≤ sz := HL.out.1.2.2.2.2.1
        have s1 : (0 : Int) < (sz : Int) := by omega
        have s2 : 0 < sz := by omega
        obtain ⟨q1, ⟨u, q2⟩, q3⟩ := HX.out.cell hs1 hlt
        have HN := Lib.hid (And.intro (HX.out.put hlt (by unfold gift; simp; exact .inr ⟨i, hlt, rfl⟩) (by have := (HB.out.2.2.1.2.1 i hlt).2; omega) (.int .u8 238)) hlt)
        clear hlt hin HX hs1
        gi_wp2
        generalize World.setCell _ _ _ = w7 at HN ⊢
        gi_roundg (n - (i + 1))
        case measure => have := HI.out; have := HN.out.2; omega
        case rel => exact ⟨i + 1, rfl, HN.out.2, by go_num, HN.out.1⟩
      · obtain rfl : i = n := by omega
        have x1 : ¬ (i : Int) < (i : Int) := by omega
        have hI := HB.out.2.2.2.2.1
        rw [← HB.out.1] at hI
        obtain ⟨d0, d1, d2, d3, d4, d5⟩ := HX.out.done hI (fun z hz => ⟨HB.out.2.2.2.2.2.2 z hz, fun e => HB.out.2.2.2.2.2.1 z hz (by simp [e])⟩) HL.out.2.2.2.1
        have d6 := cell_of_one ((d2 sb (lt_of_block HH.out.2.2.2.1) (Ne.symm HL.out.2.2.1.1)).trans HH.out.2.2.2.1)
        have wk : wrap64 ((k : Int) + 1) = (k : Int) + 1 := IntWalk.wrap64_in _ (by have := HB.out.2.1; have := HL.out.2.1; omega)
        have HE : Hid (RgI w2 (wr.setCell ⟨nb, 0, none⟩ (.int .i64 ((k : Int) + 1))) nb (pre ++ [(⟨k, og, kb⟩ : Fd)]).length ∧ Tn (gift i ⟨k, og, kb⟩ ++ [nb]) W (wr.setCell ⟨nb, 0, none⟩ (.int .i64 ((k : Int) + 1))) [nb]) := ⟨by rw [List.length_append, ← HB.out.1]; exact d4, d5⟩
        have HLn : Hid (((pre ++ [(⟨k, og, kb⟩ : Fd)]).length : Int) = (k : Int) + 1) := by
          show _ = _
          rw [List.length_append, ← HB.out.1]; rfl
        clear hI d2 d4 d5 hin hlt HX
        by_cases hs : (k : Int) + 1 = x5
        · have t1 : ((k : Int) + 1 == x5) = true := by rw [beq_iff_eq]; exact hs
          have HXs := Lib.hid hs
          clear hs
          gi_wp2
          exact ⟨[nb], HE.out.2, rfl, rfl, HE.out.1, HLn.out.trans HXs.out⟩
        · have t1 : ((k : Int) + 1 == x5) = false := by rw [beq_eq_false_iff_ne]; exact hs
          gi_wp2
          exact ⟨[nb], HE.out.2, rfl, HE.out.1⟩
  case done_s =>
    rintro D xs bl' W hD hDl hDb hS ⟨rfl, hI⟩ hdef
    exact HQ.out .normal D _ W (.inl rfl) hD hDl hdef hI (.inl hS) (Nat.le_of_eq hS)
  case stop_s =>
    rintro D cde pre bl' W hD hDl hDb hS ⟨rfl, rfl, hI, he⟩ hdef
    have HF := Lib.hid (And.intro hD (And.intro hDl (And.intro hdef (And.intro hI (And.intro he hS)))))
    clear hD hDl hDb hS hI he hdef
    refine wpIn_wide.2 ?_
    go_wp2_with fail
    exact HQ.out (.exit 5) D _ W (.inr rfl) HF.out.1 HF.out.2.1 HF.out.2.2.1 HF.out.2.2.2.1 (.inr HF.out.2.2.2.2.1) HF.out.2.2.2.2.2
end Go.Proofs.YtbngkmlipmhgdaaDoor.Mo
