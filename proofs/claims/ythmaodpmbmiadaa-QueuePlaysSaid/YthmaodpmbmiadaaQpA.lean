/- QueuePlays: one call of the script (the switch), each case apart. -/
import Derived.Test.YthmaodpmbmiadaaQp
import Derived.Deep.CutRange
import Derived.Deep.CutBlock
namespace Go.Proofs.Ythmaodpmbmiadaa
open Go.RowKit

def findBlock (n : Nat) : Code → Option Code
  | .block m c => if m = n then some (.block m c) else findBlock n c
  | .seq a b => (findBlock n a).orElse fun _ => findBlock n b
  | .loop c => findBlock n c
  | .scope c => findBlock n c
  | .cond _ a b => (findBlock n a).orElse fun _ => findBlock n b
  | _ => none
noncomputable def swBody : Code := ((Try.f3.body.bind (findBlock 2)).getD .skip)

def actCells (a : ActD) : List Value := [.int .u8 a.kind, .string a.x, .int .u8 a.n]
theorem actCells_one (a : ActD) : ∀ v ∈ actCells a, v.oneCell' = true := by
  intro v hv
  simp only [actCells, List.mem_cons, List.not_mem_nil, or_false] at hv
  rcases hv with rfl | rfl | rfl <;> rfl
theorem ActDAt.range {w : World} {g o : Nat} {a : ActD} (h : ActDAt w g o a) : w.rangeAt g o (actCells a) := by
  intro j v hv
  match j, hv with
  | 0, hv => simp [actCells] at hv; subst hv; exact h.kind
  | 1, hv => simp [actCells] at hv; subst hv; exact h.x
  | 2, hv => simp [actCells] at hv; subst hv; exact h.n
theorem infoAct : (Try.prog.info? 32).map (·.size) = some 3 := by kernel_rfl
theorem zeroA (w : World) : (zeroValue 32).run Try.prog w = .ok (.agg #[.int .u8 0, .string ⟨#[]⟩, .int .u8 0]) w := by
  have h : (Try.prog.info? 32).map (·.zero) = some (some (.agg #[.int .u8 0, .string ⟨#[]⟩, .int .u8 0])) := by kernel_rfl
  obtain ⟨i, hi, hz⟩ := Option.map_eq_some_iff.1 h
  simp [zeroValue, typeInfo, hi, hz]

def PqSt (w0 : World) (S : QS) (gn j : Nat) (lv nv : Value) (wr : World) : Prop := ∃ (A : Option Addr) (m c g : Nat) (ys : List ByteArray), lv = .slice A m c ∧ nv = .int .u64 (g : Int) ∧ g ≤ gn + 70 * j ∧ TRow w0 wr S A m c ys ∧ PQ w0 wr S g ys
theorem PqSt.mono {w0 : World} {S : QS} {gn j : Nat} {lv nv : Value} {wr : World} (h : PqSt w0 S gn j lv nv wr) : PqSt w0 S gn (j + 1) lv nv wr := by
  obtain ⟨A, m, c, g, ys, h1, h2, h3, h4⟩ := h
  exact ⟨A, m, c, g, ys, h1, h2, by omega, h4⟩


set_option maxRecDepth 1000000 in
/-- What the switch leaves. -/
def SwR (w0 : World) (S : QS) (gn j n ga : Nat) (a : ActD) (v1 v2 v3 v4 v5 v8 v11 v22 v23 v24 v25 v26 v27 v28 v29 v30 v31 v32 v33 v34 v35 v36 v37 v38 v39 v40 v41 v42 v43 v44 v45 v46 v47 v48 v194 v195 v196 v197 v198 v199 v200 v201 v202 v203 v204 v205 v206 v207 v208 v209 v210 v211 v212 v213 v214 v215 v216 v217 v218 v219 v220 v221 v222 v223 v224 v225 v226 v227 v228 v229 v230 : Value) (a' : Act) (w' : World) : Prop := ∃ u6 u9 u10 u14 u15 u16 u17 u18 u19 u20 u21 u49 u50 u51 u52 u53 u54 u55 u56 u57 u58 u59 u60 u61 u62 u63 u64 u65 u66 u67 u68 u69 u70 u71 u72 u73 u74 u75 u76 u77 u78 u79 u80 u81 u82 u83 u84 u85 u86 u87 u88 u89 u90 u91 u92 u93 u94 u95 u96 u97 u98 u99 u100 u101 u102 u103 u104 u105 u106 u107 u108 u109 u110 u111 u112 u113 u114 u115 u116 u117 u118 u119 u120 u121 u122 u123 u124 u125 u126 u127 u128 u129 u130 u131 u132 u133 u134 u135 u136 u137 u138 u139 u140 u141 u142 u143 u144 u145 u146 u147 u148 u149 u150 u151 u152 u153 u154 u155 u156 u157 u158 u159 u160 u161 u162 u163 u164 u165 u166 u167 u168 u169 u170 u171 u172 u173 u174 u175 u176 u177 u178 u179 u180 u181 u182 u183 u184 u185 u186 u187 u188 u189 u190 u191 u192 u193 : Value, PqSt w0 S gn (j + 1) u9 u10 w' ∧ a' = ⟨#[.int .i64 (n : Int), v1, v2, v3, v4, v5, u6, .pointer (some ⟨S.q, 0, none⟩), v8, u9, u10, v11, .pointer (some ⟨ga, 0, none⟩), .int .u8 (a.kind % 7), u14, u15, u16, u17, u18, u19, u20, u21, v22, v23, v24, v25, v26, v27, v28, v29, v30, v31, v32, v33, v34, v35, v36, v37, v38, v39, v40, v41, v42, v43, v44, v45, v46, v47, v48, u49, u50, u51, u52, u53, u54, u55, u56, u57, u58, u59, u60, u61, u62, u63, u64, u65, u66, u67, u68, u69, u70, u71, u72, u73, u74, u75, u76, u77, u78, u79, u80, u81, u82, u83, u84, u85, u86, u87, u88, u89, u90, u91, u92, u93, u94, u95, u96, u97, u98, u99, u100, u101, u102, u103, u104, u105, u106, u107, u108, u109, u110, u111, u112, u113, u114, u115, u116, u117, u118, u119, u120, u121, u122, u123, u124, u125, u126, u127, u128, u129, u130, u131, u132, u133, u134, u135, u136, u137, u138, u139, u140, u141, u142, u143, u144, u145, u146, u147, u148, u149, u150, u151, u152, u153, u154, u155, u156, u157, u158, u159, u160, u161, u162, u163, u164, u165, u166, u167, u168, u169, u170, u171, u172, u173, u174, u175, u176, u177, u178, u179, u180, u181, u182, u183, u184, u185, u186, u187, u188, u189, u190, u191, u192, u193, v194, v195, v196, v197, v198, v199, v200, v201, v202, v203, v204, v205, v206, v207, v208, v209, v210, v211, v212, v213, v214, v215, v216, v217, v218, v219, v220, v221, v222, v223, v224, v225, v226, v227, v228, v229, v230], []⟩
/-- What a round holds ahead of the switch. -/
structure SwIn (w wa : World) (S : QS) (gn j n ga : Nat) (a : ActD) (AL : Option Addr) (m c g : Nat) (ys : List ByteArray) : Prop where
  q : PQ w wa S g ys
  t : TRow w wa S AL m c ys
  b : Blk wa ga 32 (actCells a).toArray
  cap : S.cap = n
  mn : m ≤ n
  n64 : n ≤ 64
  gnb : gn < 4294967296
  jb : j < 150
  gb : g ≤ gn + 70 * j
  nq : ga ≠ S.q
  nc : ga ≠ S.c
  k : 0 ≤ a.kind ∧ a.kind ≤ 255
  d : 0 ≤ a.n ∧ a.n ≤ 255

set_option maxRecDepth 1000000 in
set_option maxHeartbeats 8000000 in
theorem sw_put (w wa : World) (S : QS) (gn j n ga : Nat) (a : ActD) (AL : Option Addr) (m c g : Nat) (ys : List ByteArray) (v1 v2 v3 v4 v5 v6 v8 v11 v14 v15 v16 v17 v18 v19 v20 v21 v22 v23 v24 v25 v26 v27 v28 v29 v30 v31 v32 v33 v34 v35 v36 v37 v38 v39 v40 v41 v42 v43 v44 v45 v46 v47 v48 v49 v50 v51 v52 v53 v54 v55 v56 v57 v58 v59 v60 v61 v62 v63 v64 v65 v66 v67 v68 v69 v70 v71 v72 v73 v74 v75 v76 v77 v78 v79 v80 v81 v82 v83 v84 v85 v86 v87 v88 v89 v90 v91 v92 v93 v94 v95 v96 v97 v98 v99 v100 v101 v102 v103 v104 v105 v106 v107 v108 v109 v110 v111 v112 v113 v114 v115 v116 v117 v118 v119 v120 v121 v122 v123 v124 v125 v126 v127 v128 v129 v130 v131 v132 v133 v134 v135 v136 v137 v138 v139 v140 v141 v142 v143 v144 v145 v146 v147 v148 v149 v150 v151 v152 v153 v154 v155 v156 v157 v158 v159 v160 v161 v162 v163 v164 v165 v166 v167 v168 v169 v170 v171 v172 v173 v174 v175 v176 v177 v178 v179 v180 v181 v182 v183 v184 v185 v186 v187 v188 v189 v190 v191 v192 v193 v194 v195 v196 v197 v198 v199 v200 v201 v202 v203 v204 v205 v206 v207 v208 v209 v210 v211 v212 v213 v214 v215 v216 v217 v218 v219 v220 v221 v222 v223 v224 v225 v226 v227 v228 v229 v230 : Value) (h : SwIn w wa S gn j n ga a AL m c g ys) (hc : a.kind % 7 < 4) (hfull : m < n)
    (K : Act → World → Prop) (Q0 : Exit → Act → World → Prop) (hK : ∀ a' w', SwR w S gn j n ga a v1 v2 v3 v4 v5 v8 v11 v22 v23 v24 v25 v26 v27 v28 v29 v30 v31 v32 v33 v34 v35 v36 v37 v38 v39 v40 v41 v42 v43 v44 v45 v46 v47 v48 v194 v195 v196 v197 v198 v199 v200 v201 v202 v203 v204 v205 v206 v207 v208 v209 v210 v211 v212 v213 v214 v215 v216 v217 v218 v219 v220 v221 v222 v223 v224 v225 v226 v227 v228 v229 v230 a' w' → K a' w') :
    Code.wp Try.prog swBody (Exit.then K Q0) ⟨#[.int .i64 (n : Int), v1, v2, v3, v4, v5, v6, .pointer (some ⟨S.q, 0, none⟩), v8, .slice AL m c, .int .u64 (g : Int), v11, .pointer (some ⟨ga, 0, none⟩), .int .u8 (a.kind % 7), v14, v15, v16, v17, v18, v19, v20, v21, v22, v23, v24, v25, v26, v27, v28, v29, v30, v31, v32, v33, v34, v35, v36, v37, v38, v39, v40, v41, v42, v43, v44, v45, v46, v47, v48, v49, v50, v51, v52, v53, v54, v55, v56, v57, v58, v59, v60, v61, v62, v63, v64, v65, v66, v67, v68, v69, v70, v71, v72, v73, v74, v75, v76, v77, v78, v79, v80, v81, v82, v83, v84, v85, v86, v87, v88, v89, v90, v91, v92, v93, v94, v95, v96, v97, v98, v99, v100, v101, v102, v103, v104, v105, v106, v107, v108, v109, v110, v111, v112, v113, v114, v115, v116, v117, v118, v119, v120, v121, v122, v123, v124, v125, v126, v127, v128, v129, v130, v131, v132, v133, v134, v135, v136, v137, v138, v139, v140, v141, v142, v143, v144, v145, v146, v147, v148, v149, v150, v151, v152, v153, v154, v155, v156, v157, v158, v159, v160, v161, v162, v163, v164, v165, v166, v167, v168, v169, v170, v171, v172, v173, v174, v175, v176, v177, v178, v179, v180, v181, v182, v183, v184, v185, v186, v187, v188, v189, v190, v191, v192, v193, v194, v195, v196, v197, v198, v199, v200, v201, v202, v203, v204, v205, v206, v207, v208, v209, v210, v211, v212, v213, v214, v215, v216, v217, v218, v219, v220, v221, v222, v223, v224, v225, v226, v227, v228, v229, v230], []⟩ wa := by
  conv => arg 2; whnf
  have Hq := hide h.q
  have Ht := hide h.t
  have Hm := hide h.t.1
  have Hb0 := hide h.b
  have Hcap := hide h.cap
  have hmn := h.mn
  have hn2 := h.n64
  have hgn := h.gnb
  have hj2 := h.jb
  have hg := h.gb
  have Hnq := hide h.nq
  have Hnc := hide h.nc
  have hk0 := h.k.1
  have hk1 := h.k.2
  have hnw0 := h.d.1
  have hnw1 := h.d.2
  have k0 : wa.cell? ⟨ga, 0, none⟩ = some (.int .u8 a.kind) := Hb0.out.cell 0
  have k1 : wa.cell? ⟨ga, 1, none⟩ = some (.string a.x) := Hb0.out.cell 1
  have k2 : wa.cell? ⟨ga, 2, none⟩ = some (.int .u8 a.n) := Hb0.out.cell 2
  have HK := hide hK
  clear hK h
  have hc1 := hc
  clear hc
  have hlt : ys.length < S.cap := by rw [Hm.out, Hcap.out]; exact hfull
  have Hlt := hide hlt
  clear hlt
  go_wp2_with fail
  refine (Hq.out.put a.x Hlt.out (by omega)).mono ?_
  rintro e w2 ⟨rfl, hq2, hf2⟩
  rw [Hm.out]
  have k1' : w2.cell? ⟨ga, 1, none⟩ = some (.string a.x) := (Hb0.out.fr hf2 (fun h => h.elim Hnq.out Hnc.out)).cell 1
  have Hq2 := hide (show PQ w (w2.alloc (.cells #[.string a.x] 9)) S g (ys ++ [a.x]) from OnQ.fr (F := fun _ => False) hq2 ((Fr.refl _ _).alloc _) (fun _ h => h.elim))
  have Ht2 := hide ((Ht.out.call hf2).alloc (.cells #[.string a.x] 9))
  have Hsrc := hide (show (w2.alloc (.cells #[.string a.x] 9)).cell? ⟨w2.heap.size, 0, none⟩ = some (.string a.x) from (Blk.new w2 9 #[.string a.x]).cell 0)
  clear hq2 hf2 k0 k1 k2
  have hg1 : g + m + 1 < 18446744073709551616 := by omega
  go_wp2_with (refine wpList_append_trow rfl (.tmp 148) (.tmp 151) 30 rfl Try.underlying30 infoStr Hq2.out Ht2.out rfl (by omega) w2.heap.size a.x rfl Hsrc.out ?_; intro A3 c3 w3 ht3 hf3; have Ht3 := hide ht3; have Hf3 := hide hf3; clear ht3 hf3)
  refine HK.out _ _ ?_
  unfold SwR
  (repeat apply Exists.intro)
  exact ⟨⟨_, _, _, g, _, rfl, rfl, by omega, Ht3.out, OnQ.fr Hq2.out Hf3.out (fun k hk => ⟨hk.1, fun h => h.elim hk.2.1 hk.2.2⟩)⟩, rfl⟩

set_option maxRecDepth 1000000 in
set_option maxHeartbeats 8000000 in
theorem sw_full (w wa : World) (S : QS) (gn j n ga : Nat) (a : ActD) (AL : Option Addr) (m c g : Nat) (ys : List ByteArray) (v1 v2 v3 v4 v5 v6 v8 v11 v14 v15 v16 v17 v18 v19 v20 v21 v22 v23 v24 v25 v26 v27 v28 v29 v30 v31 v32 v33 v34 v35 v36 v37 v38 v39 v40 v41 v42 v43 v44 v45 v46 v47 v48 v49 v50 v51 v52 v53 v54 v55 v56 v57 v58 v59 v60 v61 v62 v63 v64 v65 v66 v67 v68 v69 v70 v71 v72 v73 v74 v75 v76 v77 v78 v79 v80 v81 v82 v83 v84 v85 v86 v87 v88 v89 v90 v91 v92 v93 v94 v95 v96 v97 v98 v99 v100 v101 v102 v103 v104 v105 v106 v107 v108 v109 v110 v111 v112 v113 v114 v115 v116 v117 v118 v119 v120 v121 v122 v123 v124 v125 v126 v127 v128 v129 v130 v131 v132 v133 v134 v135 v136 v137 v138 v139 v140 v141 v142 v143 v144 v145 v146 v147 v148 v149 v150 v151 v152 v153 v154 v155 v156 v157 v158 v159 v160 v161 v162 v163 v164 v165 v166 v167 v168 v169 v170 v171 v172 v173 v174 v175 v176 v177 v178 v179 v180 v181 v182 v183 v184 v185 v186 v187 v188 v189 v190 v191 v192 v193 v194 v195 v196 v197 v198 v199 v200 v201 v202 v203 v204 v205 v206 v207 v208 v209 v210 v211 v212 v213 v214 v215 v216 v217 v218 v219 v220 v221 v222 v223 v224 v225 v226 v227 v228 v229 v230 : Value) (h : SwIn w wa S gn j n ga a AL m c g ys) (hc : a.kind % 7 < 4) (hfull : ¬ m < n)
    (K : Act → World → Prop) (Q0 : Exit → Act → World → Prop) (hK : ∀ a' w', SwR w S gn j n ga a v1 v2 v3 v4 v5 v8 v11 v22 v23 v24 v25 v26 v27 v28 v29 v30 v31 v32 v33 v34 v35 v36 v37 v38 v39 v40 v41 v42 v43 v44 v45 v46 v47 v48 v194 v195 v196 v197 v198 v199 v200 v201 v202 v203 v204 v205 v206 v207 v208 v209 v210 v211 v212 v213 v214 v215 v216 v217 v218 v219 v220 v221 v222 v223 v224 v225 v226 v227 v228 v229 v230 a' w' → K a' w') :
    Code.wp Try.prog swBody (Exit.then K Q0) ⟨#[.int .i64 (n : Int), v1, v2, v3, v4, v5, v6, .pointer (some ⟨S.q, 0, none⟩), v8, .slice AL m c, .int .u64 (g : Int), v11, .pointer (some ⟨ga, 0, none⟩), .int .u8 (a.kind % 7), v14, v15, v16, v17, v18, v19, v20, v21, v22, v23, v24, v25, v26, v27, v28, v29, v30, v31, v32, v33, v34, v35, v36, v37, v38, v39, v40, v41, v42, v43, v44, v45, v46, v47, v48, v49, v50, v51, v52, v53, v54, v55, v56, v57, v58, v59, v60, v61, v62, v63, v64, v65, v66, v67, v68, v69, v70, v71, v72, v73, v74, v75, v76, v77, v78, v79, v80, v81, v82, v83, v84, v85, v86, v87, v88, v89, v90, v91, v92, v93, v94, v95, v96, v97, v98, v99, v100, v101, v102, v103, v104, v105, v106, v107, v108, v109, v110, v111, v112, v113, v114, v115, v116, v117, v118, v119, v120, v121, v122, v123, v124, v125, v126, v127, v128, v129, v130, v131, v132, v133, v134, v135, v136, v137, v138, v139, v140, v141, v142, v143, v144, v145, v146, v147, v148, v149, v150, v151, v152, v153, v154, v155, v156, v157, v158, v159, v160, v161, v162, v163, v164, v165, v166, v167, v168, v169, v170, v171, v172, v173, v174, v175, v176, v177, v178, v179, v180, v181, v182, v183, v184, v185, v186, v187, v188, v189, v190, v191, v192, v193, v194, v195, v196, v197, v198, v199, v200, v201, v202, v203, v204, v205, v206, v207, v208, v209, v210, v211, v212, v213, v214, v215, v216, v217, v218, v219, v220, v221, v222, v223, v224, v225, v226, v227, v228, v229, v230], []⟩ wa := by
  conv => arg 2; whnf
  have Hq := hide h.q
  have Ht := hide h.t
  have Hm := hide h.t.1
  have Hb0 := hide h.b
  have Hcap := hide h.cap
  have hmn := h.mn
  have hn2 := h.n64
  have hgn := h.gnb
  have hj2 := h.jb
  have hg := h.gb
  have Hnq := hide h.nq
  have Hnc := hide h.nc
  have hk0 := h.k.1
  have hk1 := h.k.2
  have hnw0 := h.d.1
  have hnw1 := h.d.2
  have k0 : wa.cell? ⟨ga, 0, none⟩ = some (.int .u8 a.kind) := Hb0.out.cell 0
  have k1 : wa.cell? ⟨ga, 1, none⟩ = some (.string a.x) := Hb0.out.cell 1
  have k2 : wa.cell? ⟨ga, 2, none⟩ = some (.int .u8 a.n) := Hb0.out.cell 2
  have HK := hide hK
  clear hK h
  have hc1 := hc
  clear hc
  have hge : S.cap ≤ ys.length := by rw [Hm.out, Hcap.out]; omega
  have Hge := hide hge
  clear hge
  go_wp2_with fail
  refine (Hq.out.full a.x Hge.out).mono ?_
  rintro e w2 ⟨rfl, rfl⟩
  go_wp2
  refine HK.out _ _ ?_
  unfold SwR
  (repeat apply Exists.intro)
  exact ⟨⟨_, _, _, g, _, rfl, rfl, by omega, Ht.out, Hq.out⟩, rfl⟩
end Go.Proofs.Ythmaodpmbmiadaa
