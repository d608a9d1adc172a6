/-
  Any calls: each answer, all that waits, how many are gone: QueuePlays answers true for any capacity, number and script; no condition.
-/
import Derived.Test.YthmaodpmbmiadaaQpB
import Derived.Test.YthmaodpmbmiadaaQpC
import Derived.Test.YthmaodpmbmiadaaQpD
import Derived.Test.YthmaodpmbmiadaaQpE
import Derived.Deep.CutRange
import Derived.Deep.CutBlock
namespace Go.Proofs.Ythmaodpmbmiadaa
open Go.RowKit Go.ChangeShapes Go.WideShapes Go.ChangeAt


set_option maxRecDepth 1000000 in
set_option maxHeartbeats 8000000 in
theorem sw_any (w wa : World) (S : QS) (gn j n ga : Nat) (a : ActD) (AL : Option Addr) (m c g : Nat) (ys : List ByteArray) (v1 v2 v3 v4 v5 v6 v8 v11 v14 v15 v16 v17 v18 v19 v20 v21 v22 v23 v24 v25 v26 v27 v28 v29 v30 v31 v32 v33 v34 v35 v36 v37 v38 v39 v40 v41 v42 v43 v44 v45 v46 v47 v48 v49 v50 v51 v52 v53 v54 v55 v56 v57 v58 v59 v60 v61 v62 v63 v64 v65 v66 v67 v68 v69 v70 v71 v72 v73 v74 v75 v76 v77 v78 v79 v80 v81 v82 v83 v84 v85 v86 v87 v88 v89 v90 v91 v92 v93 v94 v95 v96 v97 v98 v99 v100 v101 v102 v103 v104 v105 v106 v107 v108 v109 v110 v111 v112 v113 v114 v115 v116 v117 v118 v119 v120 v121 v122 v123 v124 v125 v126 v127 v128 v129 v130 v131 v132 v133 v134 v135 v136 v137 v138 v139 v140 v141 v142 v143 v144 v145 v146 v147 v148 v149 v150 v151 v152 v153 v154 v155 v156 v157 v158 v159 v160 v161 v162 v163 v164 v165 v166 v167 v168 v169 v170 v171 v172 v173 v174 v175 v176 v177 v178 v179 v180 v181 v182 v183 v184 v185 v186 v187 v188 v189 v190 v191 v192 v193 v194 v195 v196 v197 v198 v199 v200 v201 v202 v203 v204 v205 v206 v207 v208 v209 v210 v211 v212 v213 v214 v215 v216 v217 v218 v219 v220 v221 v222 v223 v224 v225 v226 v227 v228 v229 v230 : Value) (h : SwIn w wa S gn j n ga a AL m c g ys)
    (K : Act → World → Prop) (Q0 : Exit → Act → World → Prop) (hK : ∀ a' w', SwR w S gn j n ga a v1 v2 v3 v4 v5 v8 v11 v22 v23 v24 v25 v26 v27 v28 v29 v30 v31 v32 v33 v34 v35 v36 v37 v38 v39 v40 v41 v42 v43 v44 v45 v46 v47 v48 v194 v195 v196 v197 v198 v199 v200 v201 v202 v203 v204 v205 v206 v207 v208 v209 v210 v211 v212 v213 v214 v215 v216 v217 v218 v219 v220 v221 v222 v223 v224 v225 v226 v227 v228 v229 v230 a' w' → K a' w') :
    Code.wp Try.prog swBody (Exit.then K Q0) ⟨#[.int .i64 (n : Int), v1, v2, v3, v4, v5, v6, .pointer (some ⟨S.q, 0, none⟩), v8, .slice AL m c, .int .u64 (g : Int), v11, .pointer (some ⟨ga, 0, none⟩), .int .u8 (a.kind % 7), v14, v15, v16, v17, v18, v19, v20, v21, v22, v23, v24, v25, v26, v27, v28, v29, v30, v31, v32, v33, v34, v35, v36, v37, v38, v39, v40, v41, v42, v43, v44, v45, v46, v47, v48, v49, v50, v51, v52, v53, v54, v55, v56, v57, v58, v59, v60, v61, v62, v63, v64, v65, v66, v67, v68, v69, v70, v71, v72, v73, v74, v75, v76, v77, v78, v79, v80, v81, v82, v83, v84, v85, v86, v87, v88, v89, v90, v91, v92, v93, v94, v95, v96, v97, v98, v99, v100, v101, v102, v103, v104, v105, v106, v107, v108, v109, v110, v111, v112, v113, v114, v115, v116, v117, v118, v119, v120, v121, v122, v123, v124, v125, v126, v127, v128, v129, v130, v131, v132, v133, v134, v135, v136, v137, v138, v139, v140, v141, v142, v143, v144, v145, v146, v147, v148, v149, v150, v151, v152, v153, v154, v155, v156, v157, v158, v159, v160, v161, v162, v163, v164, v165, v166, v167, v168, v169, v170, v171, v172, v173, v174, v175, v176, v177, v178, v179, v180, v181, v182, v183, v184, v185, v186, v187, v188, v189, v190, v191, v192, v193, v194, v195, v196, v197, v198, v199, v200, v201, v202, v203, v204, v205, v206, v207, v208, v209, v210, v211, v212, v213, v214, v215, v216, v217, v218, v219, v220, v221, v222, v223, v224, v225, v226, v227, v228, v229, v230], []⟩ wa := by
  by_cases hc1 : a.kind % 7 < 4
  · by_cases hf : m < n
    · exact sw_put w wa S gn j n ga a AL m c g ys v1 v2 v3 v4 v5 v6 v8 v11 v14 v15 v16 v17 v18 v19 v20 v21 v22 v23 v24 v25 v26 v27 v28 v29 v30 v31 v32 v33 v34 v35 v36 v37 v38 v39 v40 v41 v42 v43 v44 v45 v46 v47 v48 v49 v50 v51 v52 v53 v54 v55 v56 v57 v58 v59 v60 v61 v62 v63 v64 v65 v66 v67 v68 v69 v70 v71 v72 v73 v74 v75 v76 v77 v78 v79 v80 v81 v82 v83 v84 v85 v86 v87 v88 v89 v90 v91 v92 v93 v94 v95 v96 v97 v98 v99 v100 v101 v102 v103 v104 v105 v106 v107 v108 v109 v110 v111 v112 v113 v114 v115 v116 v117 v118 v119 v120 v121 v122 v123 v124 v125 v126 v127 v128 v129 v130 v131 v132 v133 v134 v135 v136 v137 v138 v139 v140 v141 v142 v143 v144 v145 v146 v147 v148 v149 v150 v151 v152 v153 v154 v155 v156 v157 v158 v159 v160 v161 v162 v163 v164 v165 v166 v167 v168 v169 v170 v171 v172 v173 v174 v175 v176 v177 v178 v179 v180 v181 v182 v183 v184 v185 v186 v187 v188 v189 v190 v191 v192 v193 v194 v195 v196 v197 v198 v199 v200 v201 v202 v203 v204 v205 v206 v207 v208 v209 v210 v211 v212 v213 v214 v215 v216 v217 v218 v219 v220 v221 v222 v223 v224 v225 v226 v227 v228 v229 v230 h hc1 hf K Q0 hK
    · exact sw_full w wa S gn j n ga a AL m c g ys v1 v2 v3 v4 v5 v6 v8 v11 v14 v15 v16 v17 v18 v19 v20 v21 v22 v23 v24 v25 v26 v27 v28 v29 v30 v31 v32 v33 v34 v35 v36 v37 v38 v39 v40 v41 v42 v43 v44 v45 v46 v47 v48 v49 v50 v51 v52 v53 v54 v55 v56 v57 v58 v59 v60 v61 v62 v63 v64 v65 v66 v67 v68 v69 v70 v71 v72 v73 v74 v75 v76 v77 v78 v79 v80 v81 v82 v83 v84 v85 v86 v87 v88 v89 v90 v91 v92 v93 v94 v95 v96 v97 v98 v99 v100 v101 v102 v103 v104 v105 v106 v107 v108 v109 v110 v111 v112 v113 v114 v115 v116 v117 v118 v119 v120 v121 v122 v123 v124 v125 v126 v127 v128 v129 v130 v131 v132 v133 v134 v135 v136 v137 v138 v139 v140 v141 v142 v143 v144 v145 v146 v147 v148 v149 v150 v151 v152 v153 v154 v155 v156 v157 v158 v159 v160 v161 v162 v163 v164 v165 v166 v167 v168 v169 v170 v171 v172 v173 v174 v175 v176 v177 v178 v179 v180 v181 v182 v183 v184 v185 v186 v187 v188 v189 v190 v191 v192 v193 v194 v195 v196 v197 v198 v199 v200 v201 v202 v203 v204 v205 v206 v207 v208 v209 v210 v211 v212 v213 v214 v215 v216 v217 v218 v219 v220 v221 v222 v223 v224 v225 v226 v227 v228 v229 v230 h hc1 hf K Q0 hK
  · by_cases hc2 : a.kind % 7 < 6
    · cases ys with
      | nil => exact sw_nil w wa S gn j n ga a AL m c g [] v1 v2 v3 v4 v5 v6 v8 v11 v14 v15 v16 v17 v18 v19 v20 v21 v22 v23 v24 v25 v26 v27 v28 v29 v30 v31 v32 v33 v34 v35 v36 v37 v38 v39 v40 v41 v42 v43 v44 v45 v46 v47 v48 v49 v50 v51 v52 v53 v54 v55 v56 v57 v58 v59 v60 v61 v62 v63 v64 v65 v66 v67 v68 v69 v70 v71 v72 v73 v74 v75 v76 v77 v78 v79 v80 v81 v82 v83 v84 v85 v86 v87 v88 v89 v90 v91 v92 v93 v94 v95 v96 v97 v98 v99 v100 v101 v102 v103 v104 v105 v106 v107 v108 v109 v110 v111 v112 v113 v114 v115 v116 v117 v118 v119 v120 v121 v122 v123 v124 v125 v126 v127 v128 v129 v130 v131 v132 v133 v134 v135 v136 v137 v138 v139 v140 v141 v142 v143 v144 v145 v146 v147 v148 v149 v150 v151 v152 v153 v154 v155 v156 v157 v158 v159 v160 v161 v162 v163 v164 v165 v166 v167 v168 v169 v170 v171 v172 v173 v174 v175 v176 v177 v178 v179 v180 v181 v182 v183 v184 v185 v186 v187 v188 v189 v190 v191 v192 v193 v194 v195 v196 v197 v198 v199 v200 v201 v202 v203 v204 v205 v206 v207 v208 v209 v210 v211 v212 v213 v214 v215 v216 v217 v218 v219 v220 v221 v222 v223 v224 v225 v226 v227 v228 v229 v230 h ⟨hc1, hc2⟩ rfl K Q0 hK
      | cons y ys' => exact sw_take w wa S gn j n ga a AL m c g (y :: ys') v1 v2 v3 v4 v5 v6 v8 v11 v14 v15 v16 v17 v18 v19 v20 v21 v22 v23 v24 v25 v26 v27 v28 v29 v30 v31 v32 v33 v34 v35 v36 v37 v38 v39 v40 v41 v42 v43 v44 v45 v46 v47 v48 v49 v50 v51 v52 v53 v54 v55 v56 v57 v58 v59 v60 v61 v62 v63 v64 v65 v66 v67 v68 v69 v70 v71 v72 v73 v74 v75 v76 v77 v78 v79 v80 v81 v82 v83 v84 v85 v86 v87 v88 v89 v90 v91 v92 v93 v94 v95 v96 v97 v98 v99 v100 v101 v102 v103 v104 v105 v106 v107 v108 v109 v110 v111 v112 v113 v114 v115 v116 v117 v118 v119 v120 v121 v122 v123 v124 v125 v126 v127 v128 v129 v130 v131 v132 v133 v134 v135 v136 v137 v138 v139 v140 v141 v142 v143 v144 v145 v146 v147 v148 v149 v150 v151 v152 v153 v154 v155 v156 v157 v158 v159 v160 v161 v162 v163 v164 v165 v166 v167 v168 v169 v170 v171 v172 v173 v174 v175 v176 v177 v178 v179 v180 v181 v182 v183 v184 v185 v186 v187 v188 v189 v190 v191 v192 v193 v194 v195 v196 v197 v198 v199 v200 v201 v202 v203 v204 v205 v206 v207 v208 v209 v210 v211 v212 v213 v214 v215 v216 v217 v218 v219 v220 v221 v222 v223 v224 v225 v226 v227 v228 v229 v230 h y ys' ⟨hc1, hc2⟩ rfl K Q0 hK
    · by_cases h9 : a.n % 9 = 0
      · by_cases hg : a.n ≤ g
        · exact sw_dropC w wa S gn j n ga a AL m c g ys v1 v2 v3 v4 v5 v6 v8 v11 v14 v15 v16 v17 v18 v19 v20 v21 v22 v23 v24 v25 v26 v27 v28 v29 v30 v31 v32 v33 v34 v35 v36 v37 v38 v39 v40 v41 v42 v43 v44 v45 v46 v47 v48 v49 v50 v51 v52 v53 v54 v55 v56 v57 v58 v59 v60 v61 v62 v63 v64 v65 v66 v67 v68 v69 v70 v71 v72 v73 v74 v75 v76 v77 v78 v79 v80 v81 v82 v83 v84 v85 v86 v87 v88 v89 v90 v91 v92 v93 v94 v95 v96 v97 v98 v99 v100 v101 v102 v103 v104 v105 v106 v107 v108 v109 v110 v111 v112 v113 v114 v115 v116 v117 v118 v119 v120 v121 v122 v123 v124 v125 v126 v127 v128 v129 v130 v131 v132 v133 v134 v135 v136 v137 v138 v139 v140 v141 v142 v143 v144 v145 v146 v147 v148 v149 v150 v151 v152 v153 v154 v155 v156 v157 v158 v159 v160 v161 v162 v163 v164 v165 v166 v167 v168 v169 v170 v171 v172 v173 v174 v175 v176 v177 v178 v179 v180 v181 v182 v183 v184 v185 v186 v187 v188 v189 v190 v191 v192 v193 v194 v195 v196 v197 v198 v199 v200 v201 v202 v203 v204 v205 v206 v207 v208 v209 v210 v211 v212 v213 v214 v215 v216 v217 v218 v219 v220 v221 v222 v223 v224 v225 v226 v227 v228 v229 v230 h ⟨hc1, hc2⟩ ⟨h9, hg⟩ K Q0 hK
        · exact sw_dropD w wa S gn j n ga a AL m c g ys v1 v2 v3 v4 v5 v6 v8 v11 v14 v15 v16 v17 v18 v19 v20 v21 v22 v23 v24 v25 v26 v27 v28 v29 v30 v31 v32 v33 v34 v35 v36 v37 v38 v39 v40 v41 v42 v43 v44 v45 v46 v47 v48 v49 v50 v51 v52 v53 v54 v55 v56 v57 v58 v59 v60 v61 v62 v63 v64 v65 v66 v67 v68 v69 v70 v71 v72 v73 v74 v75 v76 v77 v78 v79 v80 v81 v82 v83 v84 v85 v86 v87 v88 v89 v90 v91 v92 v93 v94 v95 v96 v97 v98 v99 v100 v101 v102 v103 v104 v105 v106 v107 v108 v109 v110 v111 v112 v113 v114 v115 v116 v117 v118 v119 v120 v121 v122 v123 v124 v125 v126 v127 v128 v129 v130 v131 v132 v133 v134 v135 v136 v137 v138 v139 v140 v141 v142 v143 v144 v145 v146 v147 v148 v149 v150 v151 v152 v153 v154 v155 v156 v157 v158 v159 v160 v161 v162 v163 v164 v165 v166 v167 v168 v169 v170 v171 v172 v173 v174 v175 v176 v177 v178 v179 v180 v181 v182 v183 v184 v185 v186 v187 v188 v189 v190 v191 v192 v193 v194 v195 v196 v197 v198 v199 v200 v201 v202 v203 v204 v205 v206 v207 v208 v209 v210 v211 v212 v213 v214 v215 v216 v217 v218 v219 v220 v221 v222 v223 v224 v225 v226 v227 v228 v229 v230 h ⟨hc1, hc2⟩ ⟨h9, hg⟩ K Q0 hK
      · exact sw_dropE w wa S gn j n ga a AL m c g ys v1 v2 v3 v4 v5 v6 v8 v11 v14 v15 v16 v17 v18 v19 v20 v21 v22 v23 v24 v25 v26 v27 v28 v29 v30 v31 v32 v33 v34 v35 v36 v37 v38 v39 v40 v41 v42 v43 v44 v45 v46 v47 v48 v49 v50 v51 v52 v53 v54 v55 v56 v57 v58 v59 v60 v61 v62 v63 v64 v65 v66 v67 v68 v69 v70 v71 v72 v73 v74 v75 v76 v77 v78 v79 v80 v81 v82 v83 v84 v85 v86 v87 v88 v89 v90 v91 v92 v93 v94 v95 v96 v97 v98 v99 v100 v101 v102 v103 v104 v105 v106 v107 v108 v109 v110 v111 v112 v113 v114 v115 v116 v117 v118 v119 v120 v121 v122 v123 v124 v125 v126 v127 v128 v129 v130 v131 v132 v133 v134 v135 v136 v137 v138 v139 v140 v141 v142 v143 v144 v145 v146 v147 v148 v149 v150 v151 v152 v153 v154 v155 v156 v157 v158 v159 v160 v161 v162 v163 v164 v165 v166 v167 v168 v169 v170 v171 v172 v173 v174 v175 v176 v177 v178 v179 v180 v181 v182 v183 v184 v185 v186 v187 v188 v189 v190 v191 v192 v193 v194 v195 v196 v197 v198 v199 v200 v201 v202 v203 v204 v205 v206 v207 v208 v209 v210 v211 v212 v213 v214 v215 v216 v217 v218 v219 v220 v221 v222 v223 v224 v225 v226 v227 v228 v229 v230 h ⟨hc1, hc2⟩ h9 K Q0 hK

set_option maxRecDepth 100000 in
set_option maxHeartbeats 8000000 in
theorem qplays_any (x0 : Int) (gn : Nat) (A : Option Addr) (cd : Nat) (xs : List ActD) (w : World) (hx0 : -9223372036854775808 ≤ x0) (hx1 : x0 ≤ 9223372036854775807) (hgn : gn < 4294967296) (hx : ActDs w A xs) (hl : xs.length ≤ 9223372036854775807) :
    Calls Try.prog 3 #[.int .i64 x0, .int .u32 (gn : Int), .slice A xs.length cd] w fun e w' => e = .returned (.bool true) ∧ Below w.heap.size w w' := by
  obtain ⟨len, hlen⟩ : ∃ len, xs.length = len := ⟨_, rfl⟩
  rw [hlen]
  have hlm : len ≤ 9223372036854775807 := by omega
  have Hlen := hide hlen
  have Hx := hide hx
  clear hlen hx hl
  go_enter Try.func3, Try.ntmps3
  go_wp2_with fail
  refine (awake_any w).mono ?_
  rintro e w1 ⟨rfl, hb1⟩
  have Hb1 := hide hb1
  clear hb1
  by_cases hk : x0 < 1 ∨ 64 < x0
  · go_wp2_with fail
    refine (newArgStr x0 gn w1 hk).mono ?_
    rintro e w2 ⟨rfl, rfl⟩
    go_wp2
    all_goals first
      | (exfalso; omega)
      | (go_ret; exact ⟨rfl, Hb1.out⟩)
  obtain ⟨n, rfl⟩ : ∃ n : Nat, x0 = (n : Int) := ⟨x0.toNat, by omega⟩
  have hn1 : 1 ≤ n := by omega
  have hn2 : n ≤ 64 := by omega
  clear hk hx0 hx1
  go_wp2_with fail
  refine (newStr n gn w1 hn1 hn2).mono ?_
  rintro e w2 ⟨S, rfl, hq, hcap, hgone, hl, hb, hF⟩
  have hS : ({ S with gone := gn, l := strs [] } : QS) = S := by
    obtain ⟨a, b, c, d, l⟩ := S
    simp only at hgone hl
    subst hgone hl
    rfl
  have F0 := hide (show PQ w w2 S gn [] from by unfold PQ; rw [hS]; exact OnQ.new Hb1.out hq hb hF)
  have Hcap := hide hcap
  clear hq hcap hgone hl hb hF hS
  go_wp2_with fail
  generalize decide ((n : Int) < 1) = bb1
  generalize decide (64 < (n : Int)) = bb2
  go_loopw [9, 10, 11] (fun lv nv iv wr => ∃ j : Nat, j ≤ 150 ∧ iv = .int .i64 (j : Int) ∧ PqSt w S gn j lv nv wr) (fun _ _ iv _ => 150 - (intOf iv).toNat)
  case atStart => exact ⟨0, Nat.zero_le _, rfl, none, 0, 0, gn, [], rfl, rfl, by omega, ⟨rfl, .inl ⟨rfl, rfl, rfl⟩⟩, F0.out⟩
  case round =>
    obtain ⟨j, hj, rfl, hst⟩ := hrel
    by_cases hj1 : j < len
    case neg =>
      obtain ⟨_, _, _, _, _, rfl, rfl, _, _, hq⟩ := hst
      have Hb := hide (OnQ.below hq)
      clear hq
      go_wp2
      go_ret
      exact ⟨rfl, Hb.out⟩
    by_cases hj2 : j < 150
    case neg =>
      obtain ⟨_, _, _, _, _, rfl, rfl, _, _, hq⟩ := hst
      have Hb := hide (OnQ.below hq)
      clear hq
      go_wp2
      go_ret
      exact ⟨rfl, Hb.out⟩
    obtain ⟨AL, m, c, g, ys, rfl, rfl, hg, ht, hq⟩ := hst
    obtain ⟨a, ha⟩ : ∃ a, xs[j]? = some a := ⟨_, List.getElem?_eq_getElem (by rw [Hlen.out]; exact hj1)⟩
    obtain ⟨ab, ao, rfl, hat⟩ : ∃ ab ao, A = some ⟨ab, ao, none⟩ ∧ ActDAt w ab (ao + j * 3) a := by
      rcases Hx.out with h | ⟨g, o, h1, h2⟩
      · rw [h] at ha; simp at ha
      · exact ⟨g, o, h1, h2 j a ha⟩
    have hat2 := hat.below (OnQ.below hq)
    have Hr := hide hat2.range
    have hkw := hat.kindwf
    have hnw := hat.nwf
    have za := zeroA
    have hnq : wr.heap.size ≠ S.q := by have := (OnQ.at_ hq).blk.lt; simp only at this; omega
    have hnc : wr.heap.size ≠ S.c := by have := (OnQ.at_ hq).ch.lt; simp only at this; omega
    have hq0 : PQ w (wr.alloc (.cells (actCells a).toArray 32)) S g ys := OnQ.fr (F := fun _ => False) hq ((Fr.refl _ _).alloc _) (fun _ h => h.elim)
    have ht0 := ht.alloc (.cells (actCells a).toArray 32)
    have hb0 := Blk.new wr 32 (actCells a).toArray
    have Hq0 := hide hq0
    have Ht0 := hide ht0
    have Hb0 := hide hb0
    have Hm := hide ht.1
    have hmn : m ≤ S.cap := by have := (PQ.room hq).1; rw [ht.1] at this; exact this
    have Hnq := hide hnq
    have Hnc := hide hnc
    clear hat hat2 ha ht hq hq0 ht0 hb0 hnq hnc
    rw [Hcap.out] at hmn
    go_upto_region 12 with (first
      | (refine wpList_load_mid rfl 32 (.tmp 61) rfl ab (ao + j * 3) rfl _ _ Hr.out Try.underlying32 rfl infoAct ?_)
      | (refine wpList_store_mid rfl 32 (.tmp 12) (.tmp 62) rfl wr.heap.size 0 _ rfl rfl (there_new _ _ _ _ (by show 3 ≤ 3; omega)) (show _ = some (actCells a).toArray.size from infoAct) (all_oneCell_toArray (actCells_one a)) ?_
         rw [List.toList_toArray, setCells_new _ _ _ _ (by rfl)]))
    obtain ⟨wa, hwa⟩ : ∃ wa, wa = wr.alloc (.cells (actCells a).toArray 32) := ⟨_, rfl⟩
    rw [← hwa] at Hq0 Ht0 Hb0 ⊢
    generalize wr.heap.size = ga at Hb0 Hnq Hnc ⊢
    clear hwa za Hr
    have hin : SwIn w wa S gn j n ga a AL m c g ys := ⟨Hq0.out, Ht0.out, Hb0.out, Hcap.out, hmn, hn2, hgn, hj2, hg, Hnq.out, Hnc.out, hkw, hnw⟩
    have Hin := hide hin
    clear hin hkw hnw Hq0 Ht0 Hnq Hnc Hm
    have k0 : wa.cell? ⟨ga, 0, none⟩ = some (.int .u8 a.kind) := Hb0.out.cell 0
    have hk0 := Hin.out.k.1
    have hk1 := Hin.out.k.2
    clear Hb0
    go_upto_block 2 with fail
    clear k0 hk0 hk1
    refine sw_any w wa S gn j n ga a AL m c g ys _ _ _ _ _ _ _ _ _ _ _ _ _ _ _ _ _ _ _ _ _ _ _ _ _ _ _ _ _ _ _ _ _ _ _ _ _ _ _ _ _ _ _ _ _ _ _ _ _ _ _ _ _ _ _ _ _ _ _ _ _ _ _ _ _ _ _ _ _ _ _ _ _ _ _ _ _ _ _ _ _ _ _ _ _ _ _ _ _ _ _ _ _ _ _ _ _ _ _ _ _ _ _ _ _ _ _ _ _ _ _ _ _ _ _ _ _ _ _ _ _ _ _ _ _ _ _ _ _ _ _ _ _ _ _ _ _ _ _ _ _ _ _ _ _ _ _ _ _ _ _ _ _ _ _ _ _ _ _ _ _ _ _ _ _ _ _ _ _ _ _ _ _ _ _ _ _ _ _ _ _ _ _ _ _ _ _ _ _ _ _ _ _ _ _ _ _ _ _ _ _ _ _ _ _ _ _ _ _ _ _ _ _ _ _ _ _ _ _ _ _ _ _ _ _ Hin.out _ _ ?_
    intro a' wc hR
    unfold SwR at hR
    obtain ⟨u6, hR⟩ := hR
    obtain ⟨u9, hR⟩ := hR
    obtain ⟨u10, hR⟩ := hR
    obtain ⟨u14, hR⟩ := hR
    obtain ⟨u15, hR⟩ := hR
    obtain ⟨u16, hR⟩ := hR
    obtain ⟨u17, hR⟩ := hR
    obtain ⟨u18, hR⟩ := hR
    obtain ⟨u19, hR⟩ := hR
    obtain ⟨u20, hR⟩ := hR
    obtain ⟨u21, hR⟩ := hR
    obtain ⟨u49, hR⟩ := hR
    obtain ⟨u50, hR⟩ := hR
    obtain ⟨u51, hR⟩ := hR
    obtain ⟨u52, hR⟩ := hR
    obtain ⟨u53, hR⟩ := hR
    obtain ⟨u54, hR⟩ := hR
    obtain ⟨u55, hR⟩ := hR
    obtain ⟨u56, hR⟩ := hR
    obtain ⟨u57, hR⟩ := hR
    obtain ⟨u58, hR⟩ := hR
    obtain ⟨u59, hR⟩ := hR
    obtain ⟨u60, hR⟩ := hR
    obtain ⟨u61, hR⟩ := hR
    obtain ⟨u62, hR⟩ := hR
    obtain ⟨u63, hR⟩ := hR
    obtain ⟨u64, hR⟩ := hR
    obtain ⟨u65, hR⟩ := hR
    obtain ⟨u66, hR⟩ := hR
    obtain ⟨u67, hR⟩ := hR
    obtain ⟨u68, hR⟩ := hR
    obtain ⟨u69, hR⟩ := hR
    obtain ⟨u70, hR⟩ := hR
    obtain ⟨u71, hR⟩ := hR
    obtain ⟨u72, hR⟩ := hR
    obtain ⟨u73, hR⟩ := hR
    obtain ⟨u74, hR⟩ := hR
    obtain ⟨u75, hR⟩ := hR
    obtain ⟨u76, hR⟩ := hR
    obtain ⟨u77, hR⟩ := hR
    obtain ⟨u78, hR⟩ := hR
    obtain ⟨u79, hR⟩ := hR
    obtain ⟨u80, hR⟩ := hR
    obtain ⟨u81, hR⟩ := hR
    obtain ⟨u82, hR⟩ := hR
    obtain ⟨u83, hR⟩ := hR
    obtain ⟨u84, hR⟩ := hR
    obtain ⟨u85, hR⟩ := hR
    obtain ⟨u86, hR⟩ := hR
    obtain ⟨u87, hR⟩ := hR
    obtain ⟨u88, hR⟩ := hR
    obtain ⟨u89, hR⟩ := hR
    obtain ⟨u90, hR⟩ := hR
    obtain ⟨u91, hR⟩ := hR
    obtain ⟨u92, hR⟩ := hR
    obtain ⟨u93, hR⟩ := hR
    obtain ⟨u94, hR⟩ := hR
    obtain ⟨u95, hR⟩ := hR
    obtain ⟨u96, hR⟩ := hR
    obtain ⟨u97, hR⟩ := hR
    obtain ⟨u98, hR⟩ := hR
    obtain ⟨u99, hR⟩ := hR
    obtain ⟨u100, hR⟩ := hR
    obtain ⟨u101, hR⟩ := hR
    obtain ⟨u102, hR⟩ := hR
    obtain ⟨u103, hR⟩ := hR
    obtain ⟨u104, hR⟩ := hR
    obtain ⟨u105, hR⟩ := hR
    obtain ⟨u106, hR⟩ := hR
    obtain ⟨u107, hR⟩ := hR
    obtain ⟨u108, hR⟩ := hR
    obtain ⟨u109, hR⟩ := hR
    obtain ⟨u110, hR⟩ := hR
    obtain ⟨u111, hR⟩ := hR
    obtain ⟨u112, hR⟩ := hR
    obtain ⟨u113, hR⟩ := hR
    obtain ⟨u114, hR⟩ := hR
    obtain ⟨u115, hR⟩ := hR
    obtain ⟨u116, hR⟩ := hR
    obtain ⟨u117, hR⟩ := hR
    obtain ⟨u118, hR⟩ := hR
    obtain ⟨u119, hR⟩ := hR
    obtain ⟨u120, hR⟩ := hR
    obtain ⟨u121, hR⟩ := hR
    obtain ⟨u122, hR⟩ := hR
    obtain ⟨u123, hR⟩ := hR
    obtain ⟨u124, hR⟩ := hR
    obtain ⟨u125, hR⟩ := hR
    obtain ⟨u126, hR⟩ := hR
    obtain ⟨u127, hR⟩ := hR
    obtain ⟨u128, hR⟩ := hR
    obtain ⟨u129, hR⟩ := hR
    obtain ⟨u130, hR⟩ := hR
    obtain ⟨u131, hR⟩ := hR
    obtain ⟨u132, hR⟩ := hR
    obtain ⟨u133, hR⟩ := hR
    obtain ⟨u134, hR⟩ := hR
    obtain ⟨u135, hR⟩ := hR
    obtain ⟨u136, hR⟩ := hR
    obtain ⟨u137, hR⟩ := hR
    obtain ⟨u138, hR⟩ := hR
    obtain ⟨u139, hR⟩ := hR
    obtain ⟨u140, hR⟩ := hR
    obtain ⟨u141, hR⟩ := hR
    obtain ⟨u142, hR⟩ := hR
    obtain ⟨u143, hR⟩ := hR
    obtain ⟨u144, hR⟩ := hR
    obtain ⟨u145, hR⟩ := hR
    obtain ⟨u146, hR⟩ := hR
    obtain ⟨u147, hR⟩ := hR
    obtain ⟨u148, hR⟩ := hR
    obtain ⟨u149, hR⟩ := hR
    obtain ⟨u150, hR⟩ := hR
    obtain ⟨u151, hR⟩ := hR
    obtain ⟨u152, hR⟩ := hR
    obtain ⟨u153, hR⟩ := hR
    obtain ⟨u154, hR⟩ := hR
    obtain ⟨u155, hR⟩ := hR
    obtain ⟨u156, hR⟩ := hR
    obtain ⟨u157, hR⟩ := hR
    obtain ⟨u158, hR⟩ := hR
    obtain ⟨u159, hR⟩ := hR
    obtain ⟨u160, hR⟩ := hR
    obtain ⟨u161, hR⟩ := hR
    obtain ⟨u162, hR⟩ := hR
    obtain ⟨u163, hR⟩ := hR
    obtain ⟨u164, hR⟩ := hR
    obtain ⟨u165, hR⟩ := hR
    obtain ⟨u166, hR⟩ := hR
    obtain ⟨u167, hR⟩ := hR
    obtain ⟨u168, hR⟩ := hR
    obtain ⟨u169, hR⟩ := hR
    obtain ⟨u170, hR⟩ := hR
    obtain ⟨u171, hR⟩ := hR
    obtain ⟨u172, hR⟩ := hR
    obtain ⟨u173, hR⟩ := hR
    obtain ⟨u174, hR⟩ := hR
    obtain ⟨u175, hR⟩ := hR
    obtain ⟨u176, hR⟩ := hR
    obtain ⟨u177, hR⟩ := hR
    obtain ⟨u178, hR⟩ := hR
    obtain ⟨u179, hR⟩ := hR
    obtain ⟨u180, hR⟩ := hR
    obtain ⟨u181, hR⟩ := hR
    obtain ⟨u182, hR⟩ := hR
    obtain ⟨u183, hR⟩ := hR
    obtain ⟨u184, hR⟩ := hR
    obtain ⟨u185, hR⟩ := hR
    obtain ⟨u186, hR⟩ := hR
    obtain ⟨u187, hR⟩ := hR
    obtain ⟨u188, hR⟩ := hR
    obtain ⟨u189, hR⟩ := hR
    obtain ⟨u190, hR⟩ := hR
    obtain ⟨u191, hR⟩ := hR
    obtain ⟨u192, hR⟩ := hR
    obtain ⟨u193, hR⟩ := hR
    obtain ⟨hcut, ha'⟩ := hR
    subst ha'
    clear Hin
    obtain ⟨A5, m5, c5, g5, ys5, rfl, rfl, hg5, ht5, hq5⟩ := hcut
    have Hq5 := hide hq5
    have Ht5 := hide ht5
    have Hm5 := hide ht5.1
    have hmn5 : m5 ≤ S.cap := by have := (PQ.room hq5).1; rw [ht5.1] at this; exact this
    rw [Hcap.out] at hmn5
    clear hq5 ht5
    go_wp2_with fail
    refine (Hq5.out.all).mono ?_
    rintro e w6 ⟨A6, c6, rfl, hall, hq6, hf6⟩
    rw [Hm5.out]
    have Hq6 := hide hq6
    have Ht6 := hide (Ht5.out.call hf6)
    have Hall := hide hall
    clear hq6 hf6 hall
    go_wp2_with (first
      | (go_at_call 15; refine (Hq6.out.len).mono ?_; rintro e w7 ⟨rfl, rfl⟩; rw [Hm5.out])
      | (go_at_call 16; refine (Hq6.out.gone).mono ?_; rintro e w7 ⟨rfl, rfl⟩))
    go_loopw [23] (fun kv wr => ∃ k : Nat, k ≤ m5 ∧ kv = .int .i64 (k : Int) ∧ PQ w wr S g5 ys5 ∧ TRow w wr S A5 m5 c5 ys5 ∧ AllS wr A6 ys5) (fun kv _ => m5 - (intOf kv).toNat)
    case atStart => exact ⟨0, Nat.zero_le _, rfl, Hq6.out, Ht6.out, Hall.out⟩
    case round =>
      obtain ⟨k, hk, rfl, hq7, ht7, hall7⟩ := hrel
      by_cases hkm : k < m5
      · obtain ⟨s, hs⟩ : ∃ s, ys5[k]? = some s := ⟨_, List.getElem?_eq_getElem (by rw [Hm5.out]; exact hkm)⟩
        obtain ⟨b1, o1, rfl, hc1⟩ : ∃ b o, A6 = some ⟨b, o, none⟩ ∧ wr.cell? ⟨b, o + k, none⟩ = some (.string s) := by
          rcases hall7 with h | ⟨b, o, h1, h2⟩
          · rw [h] at hs; simp at hs
          · exact ⟨b, o, h1, h2 k s hs⟩
        obtain ⟨b2, o2, rfl, hc2⟩ : ∃ b o, A5 = some ⟨b, o, none⟩ ∧ wr.cell? ⟨b, o + k, none⟩ = some (.string s) := by
          rcases ht7.all with h | ⟨b, o, h1, h2⟩
          · rw [h] at hs; simp at hs
          · exact ⟨b, o, h1, h2 k s hs⟩
        have Hq7 := hide hq7
        have Ht7 := hide ht7
        have Hall7 := hide hall7
        clear hq7 ht7 hall7 hs
        go_upto_region 50 with fail
        go_quiet (fail)
        go_wp2
        go_roundw
        case rel => first | exact ⟨k + 1, by omega, by go_num, Hq7.out.drewN _, Ht7.out.drewN _, Hall7.out.drewN _⟩ | ((repeat apply Exists.intro); exact ⟨⟨k + 1, by omega, by go_num, Hq7.out.drewN _, Ht7.out.drewN _, Hall7.out.drewN _⟩, rfl⟩)
        case measure => simp [intOf]; omega
      · obtain rfl : k = m5 := by omega
        have Hq7 := hide hq7
        have Ht7 := hide ht7
        clear hq7 ht7 hall7
        go_wp2
        go_roundw
        case rel => first | exact ⟨j + 1, by omega, by go_num, _, _, _, _, _, rfl, rfl, hg5, Ht7.out, Hq7.out⟩ | ((repeat apply Exists.intro); exact ⟨⟨j + 1, by omega, by go_num, _, _, _, _, _, rfl, rfl, hg5, Ht7.out, Hq7.out⟩, rfl⟩)
        case measure => simp [intOf]; omega

set_option maxRecDepth 100000 in
theorem queuePlays_lifted (os : Os) (started : os.Started) (H : Type) (enc : TypeId × Value → H) :
    ReturnsInHanded {} Try.checked os 3 .any (Rows.queuePlaysSpec.pre6 enc Try.prog Try.f3 Rows.queuePlaysRow.domain false) (Rows.queuePlaysSpec.post enc Try.prog Try.f3 false true false false) := by
  refine returnsInHanded_of_change (C := Try.checked) own0 started (by kernel_rfl) Try.func3
    (ChangeSpec.witness6 (enc := enc) (C := Try.checked) false ⟨#[], #[.int .i64 0, .int .u32 0, .slice none 0 0], []⟩ 8 (by kernel_rfl) (by kernel_rfl) (by kernel_rfl) (by kernel_rfl)) ?_
  intro W base args ds gs before hval0 hW _ _
  have hval : ∀ (j : Nat) t v, Try.f3.params[j]? = some t → args[j]? = some v → Value.okWide Try.prog W .any base t v := hval0
  have hW' := hW
  obtain ⟨p, q, hA0, hV, rfl, hfz, hnd⟩ := hW
  have hA : DataW.TrodAll enc Try.prog W 0 (fun _ => true) true Try.f3.params.toList args.toList ds p := hA0
  rw [Try.params3] at hA hval
  obtain ⟨v0, v1, v2, d0, d1, d2, p0, p1, p2, rfl, rfl, rfl, h0, h1, h2⟩ := trodAll_three hA
  obtain ⟨rfl, rfl⟩ := trodVars_none hV
  obtain ⟨x0, rfl, rfl, rfl, w0⟩ := open_int Try.underlying3 (hval 0 3 v0 rfl rfl) h0
  obtain ⟨x1, rfl, rfl, rfl, w1⟩ := open_int Try.underlying22 (hval 1 22 v1 rfl rfl) h1
  obtain ⟨A2, c2, l2, rfl, b2, m2⟩ := open_ActD (hval 2 23 v2 rfl rfl) h2
  obtain ⟨gn, rfl, hgn⟩ := u32_of_wf w1
  clear hA0 hval0
  refine (qplays_any x0 gn A2 c2 l2 W (i64_of_wf w0).1 (i64_of_wf w0).2 hgn b2 m2).mono fun e W' ⟨he, hb⟩ => ?_
  subst he
  exact ⟨_, rfl, law_close laid0 Try.underlying4 rfl rfl (by rw [Try.params3]; decide +kernel) hW' (fun gs hg => by subst hg; rfl) hb⟩

theorem queuePlays_holds : Rows.QueuePlaysSaid :=
  OpenClaim.holds_of_wide 3 Try.f3 rfl rfl rfl rfl rfl rfl rfl ⟨rfl, rfl, rfl, rfl, rfl⟩ rfl rfl rfl rfl rfl (by kernel_rfl) Try.func3 (by kernel_rfl)
    (of_decide_eq_true (by kernel_rfl)) (by unfold Func.isWrapper; first | (rw [if_pos (by decide +kernel)]; kernel_rfl) | (rw [if_neg (by decide +kernel)]; exact ⟨rfl, rfl⟩))
    (fun os started H enc _ => queuePlays_lifted os started H enc)
end Go.Proofs.Ythmaodpmbmiadaa
