/- QueuePlays: the switch's other cases. -/
import Derived.Test.YthmaodpmbmiadaaQpA
namespace Go.Proofs.Ythmaodpmbmiadaa
open Go.RowKit

set_option maxRecDepth 1000000 in
set_option maxHeartbeats 8000000 in
theorem sw_dropE (w wa : World) (S : QS) (gn j n ga : Nat) (a : ActD) (AL : Option Addr) (m c g : Nat) (ys : List ByteArray) (v1 v2 v3 v4 v5 v6 v8 v11 v14 v15 v16 v17 v18 v19 v20 v21 v22 v23 v24 v25 v26 v27 v28 v29 v30 v31 v32 v33 v34 v35 v36 v37 v38 v39 v40 v41 v42 v43 v44 v45 v46 v47 v48 v49 v50 v51 v52 v53 v54 v55 v56 v57 v58 v59 v60 v61 v62 v63 v64 v65 v66 v67 v68 v69 v70 v71 v72 v73 v74 v75 v76 v77 v78 v79 v80 v81 v82 v83 v84 v85 v86 v87 v88 v89 v90 v91 v92 v93 v94 v95 v96 v97 v98 v99 v100 v101 v102 v103 v104 v105 v106 v107 v108 v109 v110 v111 v112 v113 v114 v115 v116 v117 v118 v119 v120 v121 v122 v123 v124 v125 v126 v127 v128 v129 v130 v131 v132 v133 v134 v135 v136 v137 v138 v139 v140 v141 v142 v143 v144 v145 v146 v147 v148 v149 v150 v151 v152 v153 v154 v155 v156 v157 v158 v159 v160 v161 v162 v163 v164 v165 v166 v167 v168 v169 v170 v171 v172 v173 v174 v175 v176 v177 v178 v179 v180 v181 v182 v183 v184 v185 v186 v187 v188 v189 v190 v191 v192 v193 v194 v195 v196 v197 v198 v199 v200 v201 v202 v203 v204 v205 v206 v207 v208 v209 v210 v211 v212 v213 v214 v215 v216 v217 v218 v219 v220 v221 v222 v223 v224 v225 v226 v227 v228 v229 v230 : Value) (h : SwIn w wa S gn j n ga a AL m c g ys) (hc : ¬ a.kind % 7 < 4 ∧ ¬ a.kind % 7 < 6) (hs : ¬ a.n % 9 = 0)
    (K : Act → World → Prop) (Q0 : Exit → Act → World → Prop) (hK : ∀ a' w', SwR w S gn j n ga a v1 v2 v3 v4 v5 v8 v11 v22 v23 v24 v25 v26 v27 v28 v29 v30 v31 v32 v33 v34 v35 v36 v37 v38 v39 v40 v41 v42 v43 v44 v45 v46 v47 v48 v194 v195 v196 v197 v198 v199 v200 v201 v202 v203 v204 v205 v206 v207 v208 v209 v210 v211 v212 v213 v214 v215 v216 v217 v218 v219 v220 v221 v222 v223 v224 v225 v226 v227 v228 v229 v230 a' w' → K a' w') :
    Code.wp Try.prog swBody (Exit.then K Q0) ⟨#[.int .i64 (n : Int), v1, v2, v3, v4, v5, v6, .pointer (some ⟨S.q, 0, none⟩), v8, .slice AL m c, .int .u64 (g : Int), v11, .pointer (some ⟨ga, 0, none⟩), .int .u8 (a.kind % 7), v14, v15, v16, v17, v18, v19, v20, v21, v22, v23, v24, v25, v26, v27, v28, v29, v30, v31, v32, v33, v34, v35, v36, v37, v38, v39, v40, v41, v42, v43, v44, v45, v46, v47, v48, v49, v50, v51, v52, v53, v54, v55, v56, v57, v58, v59, v60, v61, v62, v63, v64, v65, v66, v67, v68, v69, v70, v71, v72, v73, v74, v75, v76, v77, v78, v79, v80, v81, v82, v83, v84, v85, v86, v87, v88, v89, v90, v91, v92, v93, v94, v95, v96, v97, v98, v99, v100, v101, v102, v103, v104, v105, v106, v107, v108, v109, v110, v111, v112, v113, v114, v115, v116, v117, v118, v119, v120, v121, v122, v123, v124, v125, v126, v127, v128, v129, v130, v131, v132, v133, v134, v135, v136, v137, v138, v139, v140, v141, v142, v143, v144, v145, v146, v147, v148, v149, v150, v151, v152, v153, v154, v155, v156, v157, v158, v159, v160, v161, v162, v163, v164, v165, v166, v167, v168, v169, v170, v171, v172, v173, v174, v175, v176, v177, v178, v179, v180, v181, v182, v183, v184, v185, v186, v187, v188, v189, v190, v191, v192, v193, v194, v195, v196, v197, v198, v199, v200, v201, v202, v203, v204, v205, v206, v207, v208, v209, v210, v211, v212, v213, v214, v215, v216, v217, v218, v219, v220, v221, v222, v223, v224, v225, v226, v227, v228, v229, v230], []⟩ wa := by
  conv => arg 2; whnf
  have Hq := hide h.q
  have Ht := hide h.t
  have Hm := hide h.t.1
  have Hb0 := hide h.b
  have Hcap := hide h.cap
  have hmn := h.mn
  have hn2 := h.n64
  have hgn := h.gnb
  have hj2 := h.jb
  have hg := h.gb
  have Hnq := hide h.nq
  have Hnc := hide h.nc
  have hk0 := h.k.1
  have hk1 := h.k.2
  have hnw0 := h.d.1
  have hnw1 := h.d.2
  have k0 : wa.cell? ⟨ga, 0, none⟩ = some (.int .u8 a.kind) := Hb0.out.cell 0
  have k1 : wa.cell? ⟨ga, 1, none⟩ = some (.string a.x) := Hb0.out.cell 1
  have k2 : wa.cell? ⟨ga, 2, none⟩ = some (.int .u8 a.n) := Hb0.out.cell 2
  have HK := hide hK
  clear hK h
  have hc1 := hc.1
  have hc2 := hc.2
  clear hc
  obtain ⟨dn, hdn⟩ : ∃ dn : Nat, a.n = (dn : Int) := ⟨a.n.toNat, by omega⟩
  rw [hdn] at k2 hnw1 hs
  have hs1 : ¬ ((dn : Int) % 9 = 0) := hs
  clear hs
  go_wp2_with fail
  obtain ⟨tz, htz⟩ : ∃ tz : Nat, (g : Int) + (dn : Int) % 70 = (tz : Int) := ⟨g + dn % 70, by omega⟩
  have htzb : tz ≤ 100000000000 := by omega
  rw [htz]
  clear htz k0 k1 k2 hnw0 hnw1 hdn
  by_cases hta : tz ≤ g + m
  · refine (Hq.out.drop (by omega) (by rw [Hm.out]; exact hta)).mono ?_
    rintro e w2 ⟨rfl, hq2, hf2⟩
    have Hq2 := hide hq2
    have Ht2 := hide (Ht.out.call hf2)
    clear hq2 hf2
    obtain ⟨k, hk⟩ : ∃ k, tz - g = k := ⟨_, rfl⟩
    rw [hk] at Hq2 ⊢
    by_cases htg : g < tz
    · have hsub : (tz : Int) - (g : Int) = (k : Int) := by omega
      have hgt : (g : Int) < (tz : Int) := by omega
      have hkm : k ≤ m := by omega
      have hk63 : k < 1000 := by omega
      clear hk htg
      go_wp2_with (refine wpList_slice_from (n := m) (m := k) rfl (.tmp 121) (.tmp 122) 30 rfl Try.underlying30 (by kernel_rfl) rfl rfl hkm Ht2.out ?_; intro A9 ht9; have Ht9 := hide ht9; clear ht9)
      refine HK.out _ _ ?_
      unfold SwR
      (repeat apply Exists.intro)
      exact ⟨⟨_, _, _, g + k, _, rfl, by go_num, by omega, Ht9.out, Hq2.out⟩, rfl⟩
    · obtain rfl : k = 0 := by omega
      clear hk
      go_wp2_with (refine wpList_slice_from (n := m) (m := 0) rfl (.tmp 121) (.tmp 122) 30 rfl Try.underlying30 (by kernel_rfl) rfl rfl (Nat.zero_le _) Ht2.out ?_; intro A9 ht9; have Ht9 := hide ht9; clear ht9)
      refine HK.out _ _ ?_
      unfold SwR
      (repeat apply Exists.intro)
      exact ⟨⟨_, _, _, g + 0, _, rfl, by go_num, by omega, Ht9.out, Hq2.out⟩, rfl⟩
  · refine (Hq.out.dropArg (by omega) (by rw [Hm.out]; omega)).mono ?_
    rintro e w2 ⟨rfl, hq2, hf2⟩
    have Hq2 := hide hq2
    have Ht2 := hide (Ht.out.call hf2)
    clear hq2 hf2
    go_wp2
    refine HK.out _ _ ?_
    unfold SwR
    (repeat apply Exists.intro)
    exact ⟨⟨_, _, _, g, _, rfl, rfl, by omega, Ht2.out, Hq2.out⟩, rfl⟩
end Go.Proofs.Ythmaodpmbmiadaa
