/-
  WHAT IS PROVED: the law AirPlays' round, an act of one kind. Conditions: those typed in each theorem. · the law AirPlays' round, an act of one kind. Conditions: those typed in each theorem. · the law AirPlays' round, an act of one kind. Conditions: those typed in each theorem.
-/
import Derived.Test.YtdfifcgpjeojlaaGQ8
namespace Go.Proofs.Ytdfifcgpjeojlaa
open Go.RowKit

set_option maxRecDepth 100000 in
set_option maxHeartbeats 4000000 in
theorem air_kind5 {p base q : Nat} {w w3 : World} {B : Option Addr} {m d : Nat} {a : List Pc} {x : Ap} {v0 v1 v2 v5 v9 v10 v11 v12 v13 v14 v15 v16 v17 v18 v19 v20 v21 v22 v23 v24 v25 v26 v27 v28 v29 v30 v31 v32 v33 v34 v35 v36 v37 v38 v39 v40 v41 v42 v43 v44 v46 v47 v48 v49 v50 v51 v52 v53 v54 v55 v56 v57 v58 v59 v60 v61 v62 v63 v64 v65 v66 v67 v68 v69 v70 v71 v72 v73 v74 v75 v76 v77 v78 v79 v80 v81 v82 v83 v84 v85 v86 v87 v88 v89 v90 v91 v92 v93 v94 v95 v96 v97 v98 v99 v100 v101 v102 v103 v104 v105 v106 v107 v108 v109 v110 v111 v112 v113 v114 v115 v116 v117 v118 v119 v120 v121 v122 v123 v124 v125 v126 v127 v128 v129 v130 v131 v132 v133 v134 v135 v136 v137 v138 v139 v140 v141 v142 v143 v144 v145 v146 v147 v148 v149 v150 v151 v152 v153 v154 v155 v156 v157 v158 v159 v160 v161 v162 v163 v164 v165 v166 v167 v168 v169 v170 v171 v172 v173 v174 v175 v176 v177 v178 v179 v180 v181 v182 v183 v184 v185 v186 v187 v188 v189 v190 v191 v192 v193 v194 v195 v196 v197 v198 v199 v200 v201 v202 v203 v204 v205 v206 v207 v208 v209 v210 v211 v212 v213 v214 v215 v216 v217 v218 v219 v220 v221 v222 v223 v224 v225 v226 : Value} {Q : Exit → Act → World → Prop} {code : Code} (hcode : blkOf 2 (Try.f4.body.getD .skip) = some code) (hk : x.a.k = 5) (hK3 : KX base p w w3 a B m d a [] [q]) (hX3 : Blk w3 q x.a.cells tAct) (HFx : Hid (∀ W : World, Below base w W → FlIn W x.fl)) (HFr : Hid (x.fl.b ≠ [] → ∀ ad, x.fl.A = some ad → ad.block < base)) (hn100 : x.a.n ≤ 100)
    (HQ : Hid (∀ {y2 y9 y10 y11 y12 y13 y14 y15 y16 y46 y47 y48 y49 y50 y51 y52 y53 y54 y55 y56 y57 y58 y59 y60 y61 y62 y63 y64 y65 y66 y67 y68 y69 y70 y71 y72 y73 y74 y75 y76 y77 y78 y79 y80 y81 y82 y83 y84 y85 y86 y87 y88 y89 y90 y91 y92 y93 y94 y95 y96 y97 y98 y99 y100 y101 y102 y103 y104 y105 y106 y107 y108 y109 y110 y111 y112 y113 y114 y115 y116 y117 y118 y119 y120 y121 y122 y123 y124 y125 y126 y127 y128 y129 y130 y131 y132 y133 y134 y135 y136 y137 y138 y139 y140 y141 y142 y143 y144 y145 y146 y147 y148 y149 y150 y151 y152 y153 y154 y155 y156 y157 y158 y159 y160 y161 y162 y163 y164 y165 : Value} {wx : World} {B' : Option Addr} {m' d' : Nat} {aT : List Pc} {zE : Int}, KX base p w wx aT B' m' d' aT [] [] → Q .normal ⟨List.toArray (v0 :: v1 :: (y2) :: (.pointer (some ⟨p, 0, none⟩)) :: (.slice B' m' d') :: v5 :: (.pointer (some ⟨q, 0, none⟩)) :: (.int .i64 zE) :: (.int .i64 zE) :: (y9) :: (y10) :: (y11) :: (y12) :: (y13) :: (y14) :: (y15) :: (y16) :: v17 :: v18 :: v19 :: v20 :: v21 :: v22 :: v23 :: v24 :: v25 :: v26 :: v27 :: v28 :: v29 :: v30 :: v31 :: v32 :: v33 :: v34 :: v35 :: v36 :: v37 :: v38 :: v39 :: v40 :: v41 :: v42 :: v43 :: v44 :: (.int .i64 x.a.k) :: (y46) :: (y47) :: (y48) :: (y49) :: (y50) :: (y51) :: (y52) :: (y53) :: (y54) :: (y55) :: (y56) :: (y57) :: (y58) :: (y59) :: (y60) :: (y61) :: (y62) :: (y63) :: (y64) :: (y65) :: (y66) :: (y67) :: (y68) :: (y69) :: (y70) :: (y71) :: (y72) :: (y73) :: (y74) :: (y75) :: (y76) :: (y77) :: (y78) :: (y79) :: (y80) :: (y81) :: (y82) :: (y83) :: (y84) :: (y85) :: (y86) :: (y87) :: (y88) :: (y89) :: (y90) :: (y91) :: (y92) :: (y93) :: (y94) :: (y95) :: (y96) :: (y97) :: (y98) :: (y99) :: (y100) :: (y101) :: (y102) :: (y103) :: (y104) :: (y105) :: (y106) :: (y107) :: (y108) :: (y109) :: (y110) :: (y111) :: (y112) :: (y113) :: (y114) :: (y115) :: (y116) :: (y117) :: (y118) :: (y119) :: (y120) :: (y121) :: (y122) :: (y123) :: (y124) :: (y125) :: (y126) :: (y127) :: (y128) :: (y129) :: (y130) :: (y131) :: (y132) :: (y133) :: (y134) :: (y135) :: (y136) :: (y137) :: (y138) :: (y139) :: (y140) :: (y141) :: (y142) :: (y143) :: (y144) :: (y145) :: (y146) :: (y147) :: (y148) :: (y149) :: (y150) :: (y151) :: (y152) :: (y153) :: (y154) :: (y155) :: (y156) :: (y157) :: (y158) :: (y159) :: (y160) :: (y161) :: (y162) :: (y163) :: (y164) :: (y165) :: v166 :: v167 :: v168 :: v169 :: v170 :: v171 :: v172 :: v173 :: v174 :: v175 :: v176 :: v177 :: v178 :: v179 :: v180 :: v181 :: v182 :: v183 :: v184 :: v185 :: v186 :: v187 :: v188 :: v189 :: v190 :: v191 :: v192 :: v193 :: v194 :: v195 :: v196 :: v197 :: v198 :: v199 :: v200 :: v201 :: v202 :: v203 :: v204 :: v205 :: v206 :: v207 :: v208 :: v209 :: v210 :: v211 :: v212 :: v213 :: v214 :: v215 :: v216 :: v217 :: v218 :: v219 :: v220 :: v221 :: v222 :: v223 :: v224 :: v225 :: v226 :: []), []⟩ wx)) : Code.wp Try.prog code Q ⟨List.toArray (v0 :: v1 :: v2 :: (.pointer (some ⟨p, 0, none⟩)) :: (.slice B m d) :: v5 :: (.pointer (some ⟨q, 0, none⟩)) :: (.int .i64 0) :: (.int .i64 0) :: v9 :: v10 :: v11 :: v12 :: v13 :: v14 :: v15 :: v16 :: v17 :: v18 :: v19 :: v20 :: v21 :: v22 :: v23 :: v24 :: v25 :: v26 :: v27 :: v28 :: v29 :: v30 :: v31 :: v32 :: v33 :: v34 :: v35 :: v36 :: v37 :: v38 :: v39 :: v40 :: v41 :: v42 :: v43 :: v44 :: (.int .i64 x.a.k) :: v46 :: v47 :: v48 :: v49 :: v50 :: v51 :: v52 :: v53 :: v54 :: v55 :: v56 :: v57 :: v58 :: v59 :: v60 :: v61 :: v62 :: v63 :: v64 :: v65 :: v66 :: v67 :: v68 :: v69 :: v70 :: v71 :: v72 :: v73 :: v74 :: v75 :: v76 :: v77 :: v78 :: v79 :: v80 :: v81 :: v82 :: v83 :: v84 :: v85 :: v86 :: v87 :: v88 :: v89 :: v90 :: v91 :: v92 :: v93 :: v94 :: v95 :: v96 :: v97 :: v98 :: v99 :: v100 :: v101 :: v102 :: v103 :: v104 :: v105 :: v106 :: v107 :: v108 :: v109 :: v110 :: v111 :: v112 :: v113 :: v114 :: v115 :: v116 :: v117 :: v118 :: v119 :: v120 :: v121 :: v122 :: v123 :: v124 :: v125 :: v126 :: v127 :: v128 :: v129 :: v130 :: v131 :: v132 :: v133 :: v134 :: v135 :: v136 :: v137 :: v138 :: v139 :: v140 :: v141 :: v142 :: v143 :: v144 :: v145 :: v146 :: v147 :: v148 :: v149 :: v150 :: v151 :: v152 :: v153 :: v154 :: v155 :: v156 :: v157 :: v158 :: v159 :: v160 :: v161 :: v162 :: v163 :: v164 :: v165 :: v166 :: v167 :: v168 :: v169 :: v170 :: v171 :: v172 :: v173 :: v174 :: v175 :: v176 :: v177 :: v178 :: v179 :: v180 :: v181 :: v182 :: v183 :: v184 :: v185 :: v186 :: v187 :: v188 :: v189 :: v190 :: v191 :: v192 :: v193 :: v194 :: v195 :: v196 :: v197 :: v198 :: v199 :: v200 :: v201 :: v202 :: v203 :: v204 :: v205 :: v206 :: v207 :: v208 :: v209 :: v210 :: v211 :: v212 :: v213 :: v214 :: v215 :: v216 :: v217 :: v218 :: v219 :: v220 :: v221 :: v222 :: v223 :: v224 :: v225 :: v226 :: []), []⟩ w3 := by
  injection hcode with hcode
  subst hcode
  have e1 : (x.a.k == 1) = false := by rw [hk]; rfl
  have e2 : (x.a.k == 2) = false := by rw [hk]; rfl
  have e3 : (x.a.k == 3) = false := by rw [hk]; rfl
  have e4 : (x.a.k == 4) = false := by rw [hk]; rfl
  have e5 : (x.a.k == 5) = true := by rw [hk]; rfl
  have H5 := Lib.hid hk
  clear hk
  go_upto_region 11 with fail
  refine wp_region_lit ?_
  refine fl_start ?_
  generalize ha : Act.mk _ _ = a0
  have hn : a0.tmps.size = 227 := by rw [← ha]; kernel_rfl
  have h45 : (fr a0 []).eval (.tmp 45) = .int .i64 x.a.k := by rw [← ha]; kernel_rfl
  refine fl_know hn rfl h45 ?_
  clear h45
  refine g_eql hn ?_
  refine g_as hn ?_
  refine fl_end ?_
  clear hn
  subst ha
  dsimp only [fr, cnd, Act.put, cond_true]
  simp only [List.setIfInBounds_toArray, List.set_cons_zero, List.set_cons_succ]
  simp only [e1]
  go_upto_region 21 with fail
  refine wp_region_lit ?_
  refine fl_start ?_
  generalize ha : Act.mk _ _ = a0
  have hn : a0.tmps.size = 227 := by rw [← ha]; kernel_rfl
  have h45 : (fr a0 []).eval (.tmp 45) = .int .i64 x.a.k := by rw [← ha]; kernel_rfl
  refine fl_know hn rfl h45 ?_
  clear h45
  refine g_eql hn ?_
  refine g_as hn ?_
  refine fl_end ?_
  clear hn
  subst ha
  dsimp only [fr, cnd, Act.put, cond_true]
  simp only [List.setIfInBounds_toArray, List.set_cons_zero, List.set_cons_succ]
  simp only [e2]
  go_upto_region 22 with fail
  refine wp_region_lit ?_
  refine fl_start ?_
  generalize ha : Act.mk _ _ = a0
  have hn : a0.tmps.size = 227 := by rw [← ha]; kernel_rfl
  have h45 : (fr a0 []).eval (.tmp 45) = .int .i64 x.a.k := by rw [← ha]; kernel_rfl
  refine fl_know hn rfl h45 ?_
  clear h45
  refine g_eql hn ?_
  refine g_as hn ?_
  refine fl_end ?_
  clear hn
  subst ha
  dsimp only [fr, cnd, Act.put, cond_true]
  simp only [List.setIfInBounds_toArray, List.set_cons_zero, List.set_cons_succ]
  simp only [e3]
  go_upto_region 31 with fail
  refine wp_region_lit ?_
  refine fl_start ?_
  generalize ha : Act.mk _ _ = a0
  have hn : a0.tmps.size = 227 := by rw [← ha]; kernel_rfl
  have h45 : (fr a0 []).eval (.tmp 45) = .int .i64 x.a.k := by rw [← ha]; kernel_rfl
  refine fl_know hn rfl h45 ?_
  clear h45
  refine g_eql hn ?_
  refine g_as hn ?_
  refine fl_end ?_
  clear hn
  subst ha
  dsimp only [fr, cnd, Act.put, cond_true]
  simp only [List.setIfInBounds_toArray, List.set_cons_zero, List.set_cons_succ]
  simp only [e4]
  go_upto_region 34 with fail
  refine wp_region_lit ?_
  refine fl_start ?_
  generalize ha : Act.mk _ _ = a0
  have hn : a0.tmps.size = 227 := by rw [← ha]; kernel_rfl
  have h45 : (fr a0 []).eval (.tmp 45) = .int .i64 x.a.k := by rw [← ha]; kernel_rfl
  refine fl_know hn rfl h45 ?_
  clear h45
  refine g_eql hn ?_
  refine g_as hn ?_
  refine fl_end ?_
  clear hn
  subst ha
  dsimp only [fr, cnd, Act.put, cond_true]
  simp only [List.setIfInBounds_toArray, List.set_cons_zero, List.set_cons_succ]
  simp only [e5]
  obtain ⟨rP, hrP⟩ : ∃ r, r = trnP a x.a.i x.a.b := ⟨_, rfl⟩
  have f1 := acf1 w3 q
  have l1 := ld_in (hX3.cell 1)
  have f2 := acf2 w3 q
  have l2 := ld_in (hX3.cell 2)
  have cD := kx_turn hK3 x.a.i x.a.b
  rw [← hrP] at cD
  go_upto_region 35 with fail
  refine wp_region_lit ?_
  refine fl_start ?_
  generalize ha : Act.mk _ _ = a0
  have hn : a0.tmps.size = 227 := by rw [← ha]; kernel_rfl
  have h3 : (fr a0 []).eval (.tmp 3) = .pointer (some ⟨p, 0, none⟩) := by rw [← ha]; kernel_rfl
  refine fl_know hn rfl h3 ?_
  clear h3
  have h6 : (fr a0 [(3, true, .pointer (some ⟨p, 0, none⟩))]).eval (.tmp 6) = .pointer (some ⟨q, 0, none⟩) := by rw [← ha]; kernel_rfl
  refine fl_know hn rfl h6 ?_
  clear h6
  refine g_mv hn ?_
  refine g_fd hn ?_
  refine g_ld hn ?_
  refine g_fd hn ?_
  refine g_ld hn ?_
  refine fl_callx (R := fun v w4 => v = .int .i64 rP.2 ∧ KX base p w w4 rP.1 B m d a [] [q] ∧ KeepX [] [q] w3 w4) hn rfl rfl rfl (fun hk => call3_is en_spinney_air_Air_Turn _ _ _ _ _ _ _ _ _ _ (.pointer (some ⟨p, 0, none⟩)) (.int .i64 x.a.i) (.int .i64 x.a.b) (lk_at hk (i := 128) rfl (fun _ => rfl) rfl) (lk_at hk (i := 130) rfl (fun _ => rfl) rfl) (lk_at hk (i := 132) rfl (fun _ => rfl) rfl) rfl) (cD.mono fun _ _ ⟨he, h1, h2⟩ => ⟨_, he, rfl, h1, h2⟩) ?_
  rintro v w4 ⟨rfl, hK4, hKp4⟩
  refine g_as hn ?_
  refine fl_end ?_
  clear hn f1 l1 f2 l2 cD
  subst ha
  dsimp only [fr, cnd, Act.put, cond_true]
  simp only [List.setIfInBounds_toArray, List.set_cons_zero, List.set_cons_succ]
  have hXq4 := hKp4.blk (List.mem_singleton_self q) hX3
  clear hX3 hK3 hKp4
  have f1 := acf1 w4 q
  have l1 := ld_in (hXq4.cell 1)
  have f2 := acf2 w4 q
  have l2 := ld_in (hXq4.cell 2)
  have cR := kr_turn hK4 x.a.i x.a.b
  rw [← hrP] at cR
  go_upto_region 36 with fail
  refine wp_region_lit ?_
  refine fl_start ?_
  generalize ha : Act.mk _ _ = a0
  have hn : a0.tmps.size = 227 := by rw [← ha]; kernel_rfl
  have h4 : (fr a0 []).eval (.tmp 4) = .slice B m d := by rw [← ha]; kernel_rfl
  refine fl_know hn rfl h4 ?_
  clear h4
  have h6 : (fr a0 [(4, true, .slice B m d)]).eval (.tmp 6) = .pointer (some ⟨q, 0, none⟩) := by rw [← ha]; kernel_rfl
  refine fl_know hn rfl h6 ?_
  clear h6
  refine g_mv hn ?_
  refine g_fd hn ?_
  refine g_ld hn ?_
  refine g_fd hn ?_
  refine g_ld hn ?_
  refine fl_callx (R := fun v wT => ∃ (B' : Option Addr) (m' d' : Nat), v = .tuple #[.slice B' m' d', .int .i64 rP.2] ∧ KX base p w wT rP.1 B' m' d' rP.1 [] [q]) hn rfl rfl rfl (fun hk => call3_is en_spinney_spinneyref22_Turn _ _ _ _ _ _ _ _ _ _ (.slice B m d) (.int .i64 x.a.i) (.int .i64 x.a.b) (lk_at hk (i := 135) rfl (fun _ => rfl) rfl) (lk_at hk (i := 137) rfl (fun _ => rfl) rfl) (lk_at hk (i := 139) rfl (fun _ => rfl) rfl) rfl) (cR.mono fun _ _ ⟨B', m', d', he, h1, h2⟩ => ⟨_, he, B', m', d', rfl, h1⟩) ?_
  rintro v wT ⟨B', m', d', rfl, hT⟩
  refine g_mv hn ?_
  refine g_ex hn ?_
  refine g_ex hn ?_
  refine g_as hn ?_
  refine g_as hn ?_
  refine fl_end ?_
  clear hn f1 l1 f2 l2 cR
  subst ha
  dsimp only [fr, cnd, Act.put, cond_true]
  simp only [List.setIfInBounds_toArray, List.set_cons_zero, List.set_cons_succ]
  clear hK4 hXq4
  (try clear hrP)
  go_wp2_with fail
  exact HQ.out hT.less
end Go.Proofs.Ytdfifcgpjeojlaa

namespace Go.Proofs.Ytdfifcgpjeojlaa
open Go.RowKit

set_option maxRecDepth 100000 in
set_option maxHeartbeats 4000000 in
theorem air_kind6 {p base q : Nat} {w w3 : World} {B : Option Addr} {m d : Nat} {a : List Pc} {x : Ap} {v0 v1 v2 v5 v9 v10 v11 v12 v13 v14 v15 v16 v17 v18 v19 v20 v21 v22 v23 v24 v25 v26 v27 v28 v29 v30 v31 v32 v33 v34 v35 v36 v37 v38 v39 v40 v41 v42 v43 v44 v46 v47 v48 v49 v50 v51 v52 v53 v54 v55 v56 v57 v58 v59 v60 v61 v62 v63 v64 v65 v66 v67 v68 v69 v70 v71 v72 v73 v74 v75 v76 v77 v78 v79 v80 v81 v82 v83 v84 v85 v86 v87 v88 v89 v90 v91 v92 v93 v94 v95 v96 v97 v98 v99 v100 v101 v102 v103 v104 v105 v106 v107 v108 v109 v110 v111 v112 v113 v114 v115 v116 v117 v118 v119 v120 v121 v122 v123 v124 v125 v126 v127 v128 v129 v130 v131 v132 v133 v134 v135 v136 v137 v138 v139 v140 v141 v142 v143 v144 v145 v146 v147 v148 v149 v150 v151 v152 v153 v154 v155 v156 v157 v158 v159 v160 v161 v162 v163 v164 v165 v166 v167 v168 v169 v170 v171 v172 v173 v174 v175 v176 v177 v178 v179 v180 v181 v182 v183 v184 v185 v186 v187 v188 v189 v190 v191 v192 v193 v194 v195 v196 v197 v198 v199 v200 v201 v202 v203 v204 v205 v206 v207 v208 v209 v210 v211 v212 v213 v214 v215 v216 v217 v218 v219 v220 v221 v222 v223 v224 v225 v226 : Value} {Q : Exit → Act → World → Prop} {code : Code} (hcode : blkOf 2 (Try.f4.body.getD .skip) = some code) (hk : x.a.k = 6) (hK3 : KX base p w w3 a B m d a [] [q]) (hX3 : Blk w3 q x.a.cells tAct) (HFx : Hid (∀ W : World, Below base w W → FlIn W x.fl)) (HFr : Hid (x.fl.b ≠ [] → ∀ ad, x.fl.A = some ad → ad.block < base)) (hn100 : x.a.n ≤ 100)
    (HQ : Hid (∀ {y2 y9 y10 y11 y12 y13 y14 y15 y16 y46 y47 y48 y49 y50 y51 y52 y53 y54 y55 y56 y57 y58 y59 y60 y61 y62 y63 y64 y65 y66 y67 y68 y69 y70 y71 y72 y73 y74 y75 y76 y77 y78 y79 y80 y81 y82 y83 y84 y85 y86 y87 y88 y89 y90 y91 y92 y93 y94 y95 y96 y97 y98 y99 y100 y101 y102 y103 y104 y105 y106 y107 y108 y109 y110 y111 y112 y113 y114 y115 y116 y117 y118 y119 y120 y121 y122 y123 y124 y125 y126 y127 y128 y129 y130 y131 y132 y133 y134 y135 y136 y137 y138 y139 y140 y141 y142 y143 y144 y145 y146 y147 y148 y149 y150 y151 y152 y153 y154 y155 y156 y157 y158 y159 y160 y161 y162 y163 y164 y165 : Value} {wx : World} {B' : Option Addr} {m' d' : Nat} {aT : List Pc} {zE : Int}, KX base p w wx aT B' m' d' aT [] [] → Q .normal ⟨List.toArray (v0 :: v1 :: (y2) :: (.pointer (some ⟨p, 0, none⟩)) :: (.slice B' m' d') :: v5 :: (.pointer (some ⟨q, 0, none⟩)) :: (.int .i64 zE) :: (.int .i64 zE) :: (y9) :: (y10) :: (y11) :: (y12) :: (y13) :: (y14) :: (y15) :: (y16) :: v17 :: v18 :: v19 :: v20 :: v21 :: v22 :: v23 :: v24 :: v25 :: v26 :: v27 :: v28 :: v29 :: v30 :: v31 :: v32 :: v33 :: v34 :: v35 :: v36 :: v37 :: v38 :: v39 :: v40 :: v41 :: v42 :: v43 :: v44 :: (.int .i64 x.a.k) :: (y46) :: (y47) :: (y48) :: (y49) :: (y50) :: (y51) :: (y52) :: (y53) :: (y54) :: (y55) :: (y56) :: (y57) :: (y58) :: (y59) :: (y60) :: (y61) :: (y62) :: (y63) :: (y64) :: (y65) :: (y66) :: (y67) :: (y68) :: (y69) :: (y70) :: (y71) :: (y72) :: (y73) :: (y74) :: (y75) :: (y76) :: (y77) :: (y78) :: (y79) :: (y80) :: (y81) :: (y82) :: (y83) :: (y84) :: (y85) :: (y86) :: (y87) :: (y88) :: (y89) :: (y90) :: (y91) :: (y92) :: (y93) :: (y94) :: (y95) :: (y96) :: (y97) :: (y98) :: (y99) :: (y100) :: (y101) :: (y102) :: (y103) :: (y104) :: (y105) :: (y106) :: (y107) :: (y108) :: (y109) :: (y110) :: (y111) :: (y112) :: (y113) :: (y114) :: (y115) :: (y116) :: (y117) :: (y118) :: (y119) :: (y120) :: (y121) :: (y122) :: (y123) :: (y124) :: (y125) :: (y126) :: (y127) :: (y128) :: (y129) :: (y130) :: (y131) :: (y132) :: (y133) :: (y134) :: (y135) :: (y136) :: (y137) :: (y138) :: (y139) :: (y140) :: (y141) :: (y142) :: (y143) :: (y144) :: (y145) :: (y146) :: (y147) :: (y148) :: (y149) :: (y150) :: (y151) :: (y152) :: (y153) :: (y154) :: (y155) :: (y156) :: (y157) :: (y158) :: (y159) :: (y160) :: (y161) :: (y162) :: (y163) :: (y164) :: (y165) :: v166 :: v167 :: v168 :: v169 :: v170 :: v171 :: v172 :: v173 :: v174 :: v175 :: v176 :: v177 :: v178 :: v179 :: v180 :: v181 :: v182 :: v183 :: v184 :: v185 :: v186 :: v187 :: v188 :: v189 :: v190 :: v191 :: v192 :: v193 :: v194 :: v195 :: v196 :: v197 :: v198 :: v199 :: v200 :: v201 :: v202 :: v203 :: v204 :: v205 :: v206 :: v207 :: v208 :: v209 :: v210 :: v211 :: v212 :: v213 :: v214 :: v215 :: v216 :: v217 :: v218 :: v219 :: v220 :: v221 :: v222 :: v223 :: v224 :: v225 :: v226 :: []), []⟩ wx)) : Code.wp Try.prog code Q ⟨List.toArray (v0 :: v1 :: v2 :: (.pointer (some ⟨p, 0, none⟩)) :: (.slice B m d) :: v5 :: (.pointer (some ⟨q, 0, none⟩)) :: (.int .i64 0) :: (.int .i64 0) :: v9 :: v10 :: v11 :: v12 :: v13 :: v14 :: v15 :: v16 :: v17 :: v18 :: v19 :: v20 :: v21 :: v22 :: v23 :: v24 :: v25 :: v26 :: v27 :: v28 :: v29 :: v30 :: v31 :: v32 :: v33 :: v34 :: v35 :: v36 :: v37 :: v38 :: v39 :: v40 :: v41 :: v42 :: v43 :: v44 :: (.int .i64 x.a.k) :: v46 :: v47 :: v48 :: v49 :: v50 :: v51 :: v52 :: v53 :: v54 :: v55 :: v56 :: v57 :: v58 :: v59 :: v60 :: v61 :: v62 :: v63 :: v64 :: v65 :: v66 :: v67 :: v68 :: v69 :: v70 :: v71 :: v72 :: v73 :: v74 :: v75 :: v76 :: v77 :: v78 :: v79 :: v80 :: v81 :: v82 :: v83 :: v84 :: v85 :: v86 :: v87 :: v88 :: v89 :: v90 :: v91 :: v92 :: v93 :: v94 :: v95 :: v96 :: v97 :: v98 :: v99 :: v100 :: v101 :: v102 :: v103 :: v104 :: v105 :: v106 :: v107 :: v108 :: v109 :: v110 :: v111 :: v112 :: v113 :: v114 :: v115 :: v116 :: v117 :: v118 :: v119 :: v120 :: v121 :: v122 :: v123 :: v124 :: v125 :: v126 :: v127 :: v128 :: v129 :: v130 :: v131 :: v132 :: v133 :: v134 :: v135 :: v136 :: v137 :: v138 :: v139 :: v140 :: v141 :: v142 :: v143 :: v144 :: v145 :: v146 :: v147 :: v148 :: v149 :: v150 :: v151 :: v152 :: v153 :: v154 :: v155 :: v156 :: v157 :: v158 :: v159 :: v160 :: v161 :: v162 :: v163 :: v164 :: v165 :: v166 :: v167 :: v168 :: v169 :: v170 :: v171 :: v172 :: v173 :: v174 :: v175 :: v176 :: v177 :: v178 :: v179 :: v180 :: v181 :: v182 :: v183 :: v184 :: v185 :: v186 :: v187 :: v188 :: v189 :: v190 :: v191 :: v192 :: v193 :: v194 :: v195 :: v196 :: v197 :: v198 :: v199 :: v200 :: v201 :: v202 :: v203 :: v204 :: v205 :: v206 :: v207 :: v208 :: v209 :: v210 :: v211 :: v212 :: v213 :: v214 :: v215 :: v216 :: v217 :: v218 :: v219 :: v220 :: v221 :: v222 :: v223 :: v224 :: v225 :: v226 :: []), []⟩ w3 := by
  injection hcode with hcode
  subst hcode
  have e1 : (x.a.k == 1) = false := by rw [hk]; rfl
  have e2 : (x.a.k == 2) = false := by rw [hk]; rfl
  have e3 : (x.a.k == 3) = false := by rw [hk]; rfl
  have e4 : (x.a.k == 4) = false := by rw [hk]; rfl
  have e5 : (x.a.k == 5) = false := by rw [hk]; rfl
  have e6 : (x.a.k == 6) = true := by rw [hk]; rfl
  have H6 := Lib.hid hk
  clear hk
  go_upto_region 11 with fail
  refine wp_region_lit ?_
  refine fl_start ?_
  generalize ha : Act.mk _ _ = a0
  have hn : a0.tmps.size = 227 := by rw [← ha]; kernel_rfl
  have h45 : (fr a0 []).eval (.tmp 45) = .int .i64 x.a.k := by rw [← ha]; kernel_rfl
  refine fl_know hn rfl h45 ?_
  clear h45
  refine g_eql hn ?_
  refine g_as hn ?_
  refine fl_end ?_
  clear hn
  subst ha
  dsimp only [fr, cnd, Act.put, cond_true]
  simp only [List.setIfInBounds_toArray, List.set_cons_zero, List.set_cons_succ]
  simp only [e1]
  go_upto_region 21 with fail
  refine wp_region_lit ?_
  refine fl_start ?_
  generalize ha : Act.mk _ _ = a0
  have hn : a0.tmps.size = 227 := by rw [← ha]; kernel_rfl
  have h45 : (fr a0 []).eval (.tmp 45) = .int .i64 x.a.k := by rw [← ha]; kernel_rfl
  refine fl_know hn rfl h45 ?_
  clear h45
  refine g_eql hn ?_
  refine g_as hn ?_
  refine fl_end ?_
  clear hn
  subst ha
  dsimp only [fr, cnd, Act.put, cond_true]
  simp only [List.setIfInBounds_toArray, List.set_cons_zero, List.set_cons_succ]
  simp only [e2]
  go_upto_region 22 with fail
  refine wp_region_lit ?_
  refine fl_start ?_
  generalize ha : Act.mk _ _ = a0
  have hn : a0.tmps.size = 227 := by rw [← ha]; kernel_rfl
  have h45 : (fr a0 []).eval (.tmp 45) = .int .i64 x.a.k := by rw [← ha]; kernel_rfl
  refine fl_know hn rfl h45 ?_
  clear h45
  refine g_eql hn ?_
  refine g_as hn ?_
  refine fl_end ?_
  clear hn
  subst ha
  dsimp only [fr, cnd, Act.put, cond_true]
  simp only [List.setIfInBounds_toArray, List.set_cons_zero, List.set_cons_succ]
  simp only [e3]
  go_upto_region 31 with fail
  refine wp_region_lit ?_
  refine fl_start ?_
  generalize ha : Act.mk _ _ = a0
  have hn : a0.tmps.size = 227 := by rw [← ha]; kernel_rfl
  have h45 : (fr a0 []).eval (.tmp 45) = .int .i64 x.a.k := by rw [← ha]; kernel_rfl
  refine fl_know hn rfl h45 ?_
  clear h45
  refine g_eql hn ?_
  refine g_as hn ?_
  refine fl_end ?_
  clear hn
  subst ha
  dsimp only [fr, cnd, Act.put, cond_true]
  simp only [List.setIfInBounds_toArray, List.set_cons_zero, List.set_cons_succ]
  simp only [e4]
  go_upto_region 34 with fail
  refine wp_region_lit ?_
  refine fl_start ?_
  generalize ha : Act.mk _ _ = a0
  have hn : a0.tmps.size = 227 := by rw [← ha]; kernel_rfl
  have h45 : (fr a0 []).eval (.tmp 45) = .int .i64 x.a.k := by rw [← ha]; kernel_rfl
  refine fl_know hn rfl h45 ?_
  clear h45
  refine g_eql hn ?_
  refine g_as hn ?_
  refine fl_end ?_
  clear hn
  subst ha
  dsimp only [fr, cnd, Act.put, cond_true]
  simp only [List.setIfInBounds_toArray, List.set_cons_zero, List.set_cons_succ]
  simp only [e5]
  go_upto_region 37 with fail
  refine wp_region_lit ?_
  refine fl_start ?_
  generalize ha : Act.mk _ _ = a0
  have hn : a0.tmps.size = 227 := by rw [← ha]; kernel_rfl
  have h45 : (fr a0 []).eval (.tmp 45) = .int .i64 x.a.k := by rw [← ha]; kernel_rfl
  refine fl_know hn rfl h45 ?_
  clear h45
  refine g_eql hn ?_
  refine g_as hn ?_
  refine fl_end ?_
  clear hn
  subst ha
  dsimp only [fr, cnd, Act.put, cond_true]
  simp only [List.setIfInBounds_toArray, List.set_cons_zero, List.set_cons_succ]
  simp only [e6]
  obtain ⟨N6, hN6⟩ : ∃ N6, N6 = (x.a.i % 18446744073709551616).toNat % 250 := ⟨_, rfl⟩
  have hN6l : N6 < 250 := by rw [hN6]; exact Nat.mod_lt _ (by decide)
  have HN6 := Lib.hid hN6
  clear hN6
  go_upto_region 38 with fail
  refine wp_region_lit ?_
  refine fl_start ?_
  generalize ha : Act.mk _ _ = a0
  have hn : a0.tmps.size = 227 := by rw [← ha]; kernel_rfl
  refine g_ac hn ?_
  refine fl_end ?_
  clear hn
  subst ha
  dsimp only [fr, cnd, Act.put, cond_true]
  simp only [List.setIfInBounds_toArray, List.set_cons_zero, List.set_cons_succ]
  go_wp2_with fail
  go_loopw [4, 16] (fun t4 i wr => ∃ (j : Nat) (a6 : List Pc) (B6 : Option Addr) (m6 d6 : Nat), j ≤ N6 ∧ i = .int .i64 j ∧ t4 = .slice B6 m6 d6 ∧ KX base p w wr a6 B6 m6 d6 a6 [] [q] ∧ Blk wr q x.a.cells tAct) (fun _ i _ => N6 - (intOf i).toNat)
  case atStart => exact ⟨0, a, B, m, d, Nat.zero_le _, rfl, rfl, hK3, hX3⟩
  case round =>
    clear hK3 hX3
    obtain ⟨j, a6, B6, m6, d6, hj, rfl, rfl, hK6, hX6⟩ := hrel
    have f1 := acf1 wr q
    have l1 := ld_in (hX6.cell 1)
    have q1 := cvUA wr x.a.i
    have q2 := remUA wr 148 (x.a.i % 18446744073709551616).toNat (by omega)
    rw [← HN6.out] at q2
    have q3 := cvUI wr N6 (by omega)
    go_upto_region 39 with fail
    refine wp_region_lit ?_
    refine fl_start ?_
    generalize ha : Act.mk _ _ = a0
    have hn : a0.tmps.size = 227 := by rw [← ha]; kernel_rfl
    have h6 : (fr a0 []).eval (.tmp 6) = .pointer (some ⟨q, 0, none⟩) := by rw [← ha]; kernel_rfl
    refine fl_know hn rfl h6 ?_
    clear h6
    have h16 : (fr a0 [(6, true, .pointer (some ⟨q, 0, none⟩))]).eval (.tmp 16) = .int .i64 (j : Nat) := by rw [← ha]; kernel_rfl
    refine fl_know hn rfl h16 ?_
    clear h16
    refine g_mv hn ?_
    refine g_fd hn ?_
    refine g_ld hn ?_
    refine g_cv hn ?_ (hr := q1)
    refine g_bc hn ?_ (hr := q2)
    refine g_cv hn ?_ (hr := q3)
    refine g_lss2 hn ?_
    refine fl_end ?_
    clear hn f1 l1 q1 q2 q3
    subst ha
    dsimp only [fr, cnd, Act.put, cond_true]
    simp only [List.setIfInBounds_toArray, List.set_cons_zero, List.set_cons_succ]
    by_cases hjl : j < N6
    · have i6 : (j : Int) < (N6 : Int) := by omega
      obtain ⟨rP, hrP⟩ : ∃ r, r = sndP a6 x.fl.pc := ⟨_, rfl⟩
      have hF6 := HFx.out wr hK6.below
      have cS := kx_send hK6 x.fl hF6 hn100
      rw [show sndP a6 ⟨x.fl.f, x.fl.t, false, x.fl.b⟩ = rP from hrP.symm] at cS
      have f3 := acf3 wr q
      have lP := ldPQ hX6
      go_upto_region 41 with fail
      refine wp_region_lit ?_
      refine fl_start ?_
      generalize ha : Act.mk _ _ = a0
      have hn : a0.tmps.size = 227 := by rw [← ha]; kernel_rfl
      have h3 : (fr a0 []).eval (.tmp 3) = .pointer (some ⟨p, 0, none⟩) := by rw [← ha]; kernel_rfl
      refine fl_know hn rfl h3 ?_
      clear h3
      have h6 : (fr a0 [(3, true, .pointer (some ⟨p, 0, none⟩))]).eval (.tmp 6) = .pointer (some ⟨q, 0, none⟩) := by rw [← ha]; kernel_rfl
      refine fl_know hn rfl h6 ?_
      clear h6
      refine g_mv hn ?_
      refine g_fd hn ?_
      refine g_ld hn ?_
      refine g_c2x en_spinney_air_Air_Send hn (R := fun v w7 => KX base p w w7 rP.1 B6 m6 d6 a6 [] [q] ∧ KeepX [] [q] wr w7) (cS.mono fun _ _ ⟨he, h1, h2⟩ => ⟨_, he, h1, h2⟩) ?_
      rintro v w7 ⟨hK7, hKp7⟩
      refine fl_end ?_
      clear hn f3 lP cS
      subst ha
      dsimp only [fr, cnd, Act.put, cond_true]
      simp only [List.setIfInBounds_toArray, List.set_cons_zero, List.set_cons_succ]
      have hX7 := hKp7.blk (List.mem_singleton_self q) hX6
      clear hK6 hX6 hKp7 hF6
      have f3 := acf3 w7 q
      have lP := ldPQ hX7
      have cR := parcel_any x.fl w7
      go_upto_region 42 with fail
      refine wp_region_lit ?_
      refine fl_start ?_
      generalize ha : Act.mk _ _ = a0
      have hn : a0.tmps.size = 227 := by rw [← ha]; kernel_rfl
      have h4 : (fr a0 []).eval (.tmp 4) = .slice B6 m6 d6 := by rw [← ha]; kernel_rfl
      refine fl_know hn rfl h4 ?_
      clear h4
      have h6 : (fr a0 [(4, true, .slice B6 m6 d6)]).eval (.tmp 6) = .pointer (some ⟨q, 0, none⟩) := by rw [← ha]; kernel_rfl
      refine fl_know hn rfl h6 ?_
      clear h6
      refine g_mv hn ?_
      refine g_fd hn ?_
      refine g_ld hn ?_
      refine g_c1x en_spinney_spinneylaw22_parcel hn (R := fun v w10 => v = .agg x.fl.cells ∧ Below w7.heap.size w7 w10) (cR.mono fun _ _ ⟨he, hb⟩ => ⟨_, he, rfl, hb⟩) ?_
      rintro v w10 ⟨rfl, hb10⟩
      have hK10 := hK7.keep hb10
      have hF10 := HFx.out w10 hK10.below
      have cT := kr_send hK10 x.fl hF10 hn100 HFr.out
      rw [← hrP] at cT
      refine g_c2x en_spinney_spinneyref22_Send hn (R := fun v w11 => ∃ (B' : Option Addr) (m' d' : Nat), v = .tuple #[.slice B' m' d', .int .i64 rP.2] ∧ KX base p w w11 rP.1 B' m' d' rP.1 [] [q] ∧ KeepX [] [q] w10 w11) (cT.mono fun _ _ ⟨B', m', d', he, h1, h2⟩ => ⟨_, he, B', m', d', rfl, h1, h2⟩) ?_
      rintro v w11 ⟨B', m', d', rfl, hK11, hKp11⟩
      refine g_mv hn ?_
      refine g_ex hn ?_
      refine g_ex hn ?_
      refine g_as hn ?_
      refine fl_end ?_
      clear hn f3 lP cR cT
      subst ha
      dsimp only [fr, cnd, Act.put, cond_true]
      simp only [List.setIfInBounds_toArray, List.set_cons_zero, List.set_cons_succ]
      have hX11 := hKp11.blk (List.mem_singleton_self q) (hX7.keep hb10)
      clear hK7 hX7 hb10 hK10 hKp11 hF10
      go_wp2_with fail
      refine ⟨?_, ?_⟩
      · first
        | exact ⟨j + 1, _, B', m', d', by omega, by go_num, rfl, hK11, hX11⟩
        | repeat apply Exists.intro
          refine ⟨?_, rfl⟩
          exact ⟨j + 1, _, B', m', d', by omega, by go_num, rfl, hK11, hX11⟩
        | repeat apply Exists.intro
          refine ⟨?_, rfl, rfl, rfl, rfl⟩
          exact ⟨j + 1, _, B', m', d', by omega, by go_num, rfl, hK11, hX11⟩
        | repeat apply Exists.intro
          refine ⟨?_, rfl, rfl, rfl⟩
          exact ⟨j + 1, _, B', m', d', by omega, by go_num, rfl, hK11, hX11⟩
        | repeat apply Exists.intro
          refine ⟨?_, rfl, rfl⟩
          exact ⟨j + 1, _, B', m', d', by omega, by go_num, rfl, hK11, hX11⟩
        | repeat apply Exists.intro
          refine ⟨?_, rfl, rfl, rfl, rfl, rfl⟩
          exact ⟨j + 1, _, B', m', d', by omega, by go_num, rfl, hK11, hX11⟩
        | repeat apply Exists.intro
          refine ⟨?_, rfl, rfl, rfl, rfl, rfl, rfl⟩
          exact ⟨j + 1, _, B', m', d', by omega, by go_num, rfl, hK11, hX11⟩
      · simp [intOf]; omega
    · have i6 : ¬ (j : Int) < (N6 : Int) := by omega
      obtain ⟨wT, hwT⟩ : ∃ wT, wT = wr := ⟨_, rfl⟩
      have hT := hK6
      clear hK6 hX6
      rw [← hwT] at hT ⊢
      clear hwT
      (try clear hrP)
      go_wp2_with fail
      exact HQ.out hT.less
end Go.Proofs.Ytdfifcgpjeojlaa

namespace Go.Proofs.Ytdfifcgpjeojlaa
open Go.RowKit

set_option maxRecDepth 100000 in
set_option maxHeartbeats 4000000 in
theorem air_kind7 {p base q : Nat} {w w3 : World} {B : Option Addr} {m d : Nat} {a : List Pc} {x : Ap} {v0 v1 v2 v5 v9 v10 v11 v12 v13 v14 v15 v16 v17 v18 v19 v20 v21 v22 v23 v24 v25 v26 v27 v28 v29 v30 v31 v32 v33 v34 v35 v36 v37 v38 v39 v40 v41 v42 v43 v44 v46 v47 v48 v49 v50 v51 v52 v53 v54 v55 v56 v57 v58 v59 v60 v61 v62 v63 v64 v65 v66 v67 v68 v69 v70 v71 v72 v73 v74 v75 v76 v77 v78 v79 v80 v81 v82 v83 v84 v85 v86 v87 v88 v89 v90 v91 v92 v93 v94 v95 v96 v97 v98 v99 v100 v101 v102 v103 v104 v105 v106 v107 v108 v109 v110 v111 v112 v113 v114 v115 v116 v117 v118 v119 v120 v121 v122 v123 v124 v125 v126 v127 v128 v129 v130 v131 v132 v133 v134 v135 v136 v137 v138 v139 v140 v141 v142 v143 v144 v145 v146 v147 v148 v149 v150 v151 v152 v153 v154 v155 v156 v157 v158 v159 v160 v161 v162 v163 v164 v165 v166 v167 v168 v169 v170 v171 v172 v173 v174 v175 v176 v177 v178 v179 v180 v181 v182 v183 v184 v185 v186 v187 v188 v189 v190 v191 v192 v193 v194 v195 v196 v197 v198 v199 v200 v201 v202 v203 v204 v205 v206 v207 v208 v209 v210 v211 v212 v213 v214 v215 v216 v217 v218 v219 v220 v221 v222 v223 v224 v225 v226 : Value} {Q : Exit → Act → World → Prop} {code : Code} (hcode : blkOf 2 (Try.f4.body.getD .skip) = some code) (h1 : x.a.k ≠ 1) (h2 : x.a.k ≠ 2) (h3 : x.a.k ≠ 3) (h4 : x.a.k ≠ 4) (h5 : x.a.k ≠ 5) (h6 : x.a.k ≠ 6) (hK3 : KX base p w w3 a B m d a [] [q]) (hX3 : Blk w3 q x.a.cells tAct) (HFx : Hid (∀ W : World, Below base w W → FlIn W x.fl)) (HFr : Hid (x.fl.b ≠ [] → ∀ ad, x.fl.A = some ad → ad.block < base)) (hn100 : x.a.n ≤ 100)
    (HQ : Hid (∀ {y2 y9 y10 y11 y12 y13 y14 y15 y16 y46 y47 y48 y49 y50 y51 y52 y53 y54 y55 y56 y57 y58 y59 y60 y61 y62 y63 y64 y65 y66 y67 y68 y69 y70 y71 y72 y73 y74 y75 y76 y77 y78 y79 y80 y81 y82 y83 y84 y85 y86 y87 y88 y89 y90 y91 y92 y93 y94 y95 y96 y97 y98 y99 y100 y101 y102 y103 y104 y105 y106 y107 y108 y109 y110 y111 y112 y113 y114 y115 y116 y117 y118 y119 y120 y121 y122 y123 y124 y125 y126 y127 y128 y129 y130 y131 y132 y133 y134 y135 y136 y137 y138 y139 y140 y141 y142 y143 y144 y145 y146 y147 y148 y149 y150 y151 y152 y153 y154 y155 y156 y157 y158 y159 y160 y161 y162 y163 y164 y165 : Value} {wx : World} {B' : Option Addr} {m' d' : Nat} {aT : List Pc} {zE : Int}, KX base p w wx aT B' m' d' aT [] [] → Q .normal ⟨List.toArray (v0 :: v1 :: (y2) :: (.pointer (some ⟨p, 0, none⟩)) :: (.slice B' m' d') :: v5 :: (.pointer (some ⟨q, 0, none⟩)) :: (.int .i64 zE) :: (.int .i64 zE) :: (y9) :: (y10) :: (y11) :: (y12) :: (y13) :: (y14) :: (y15) :: (y16) :: v17 :: v18 :: v19 :: v20 :: v21 :: v22 :: v23 :: v24 :: v25 :: v26 :: v27 :: v28 :: v29 :: v30 :: v31 :: v32 :: v33 :: v34 :: v35 :: v36 :: v37 :: v38 :: v39 :: v40 :: v41 :: v42 :: v43 :: v44 :: (.int .i64 x.a.k) :: (y46) :: (y47) :: (y48) :: (y49) :: (y50) :: (y51) :: (y52) :: (y53) :: (y54) :: (y55) :: (y56) :: (y57) :: (y58) :: (y59) :: (y60) :: (y61) :: (y62) :: (y63) :: (y64) :: (y65) :: (y66) :: (y67) :: (y68) :: (y69) :: (y70) :: (y71) :: (y72) :: (y73) :: (y74) :: (y75) :: (y76) :: (y77) :: (y78) :: (y79) :: (y80) :: (y81) :: (y82) :: (y83) :: (y84) :: (y85) :: (y86) :: (y87) :: (y88) :: (y89) :: (y90) :: (y91) :: (y92) :: (y93) :: (y94) :: (y95) :: (y96) :: (y97) :: (y98) :: (y99) :: (y100) :: (y101) :: (y102) :: (y103) :: (y104) :: (y105) :: (y106) :: (y107) :: (y108) :: (y109) :: (y110) :: (y111) :: (y112) :: (y113) :: (y114) :: (y115) :: (y116) :: (y117) :: (y118) :: (y119) :: (y120) :: (y121) :: (y122) :: (y123) :: (y124) :: (y125) :: (y126) :: (y127) :: (y128) :: (y129) :: (y130) :: (y131) :: (y132) :: (y133) :: (y134) :: (y135) :: (y136) :: (y137) :: (y138) :: (y139) :: (y140) :: (y141) :: (y142) :: (y143) :: (y144) :: (y145) :: (y146) :: (y147) :: (y148) :: (y149) :: (y150) :: (y151) :: (y152) :: (y153) :: (y154) :: (y155) :: (y156) :: (y157) :: (y158) :: (y159) :: (y160) :: (y161) :: (y162) :: (y163) :: (y164) :: (y165) :: v166 :: v167 :: v168 :: v169 :: v170 :: v171 :: v172 :: v173 :: v174 :: v175 :: v176 :: v177 :: v178 :: v179 :: v180 :: v181 :: v182 :: v183 :: v184 :: v185 :: v186 :: v187 :: v188 :: v189 :: v190 :: v191 :: v192 :: v193 :: v194 :: v195 :: v196 :: v197 :: v198 :: v199 :: v200 :: v201 :: v202 :: v203 :: v204 :: v205 :: v206 :: v207 :: v208 :: v209 :: v210 :: v211 :: v212 :: v213 :: v214 :: v215 :: v216 :: v217 :: v218 :: v219 :: v220 :: v221 :: v222 :: v223 :: v224 :: v225 :: v226 :: []), []⟩ wx)) : Code.wp Try.prog code Q ⟨List.toArray (v0 :: v1 :: v2 :: (.pointer (some ⟨p, 0, none⟩)) :: (.slice B m d) :: v5 :: (.pointer (some ⟨q, 0, none⟩)) :: (.int .i64 0) :: (.int .i64 0) :: v9 :: v10 :: v11 :: v12 :: v13 :: v14 :: v15 :: v16 :: v17 :: v18 :: v19 :: v20 :: v21 :: v22 :: v23 :: v24 :: v25 :: v26 :: v27 :: v28 :: v29 :: v30 :: v31 :: v32 :: v33 :: v34 :: v35 :: v36 :: v37 :: v38 :: v39 :: v40 :: v41 :: v42 :: v43 :: v44 :: (.int .i64 x.a.k) :: v46 :: v47 :: v48 :: v49 :: v50 :: v51 :: v52 :: v53 :: v54 :: v55 :: v56 :: v57 :: v58 :: v59 :: v60 :: v61 :: v62 :: v63 :: v64 :: v65 :: v66 :: v67 :: v68 :: v69 :: v70 :: v71 :: v72 :: v73 :: v74 :: v75 :: v76 :: v77 :: v78 :: v79 :: v80 :: v81 :: v82 :: v83 :: v84 :: v85 :: v86 :: v87 :: v88 :: v89 :: v90 :: v91 :: v92 :: v93 :: v94 :: v95 :: v96 :: v97 :: v98 :: v99 :: v100 :: v101 :: v102 :: v103 :: v104 :: v105 :: v106 :: v107 :: v108 :: v109 :: v110 :: v111 :: v112 :: v113 :: v114 :: v115 :: v116 :: v117 :: v118 :: v119 :: v120 :: v121 :: v122 :: v123 :: v124 :: v125 :: v126 :: v127 :: v128 :: v129 :: v130 :: v131 :: v132 :: v133 :: v134 :: v135 :: v136 :: v137 :: v138 :: v139 :: v140 :: v141 :: v142 :: v143 :: v144 :: v145 :: v146 :: v147 :: v148 :: v149 :: v150 :: v151 :: v152 :: v153 :: v154 :: v155 :: v156 :: v157 :: v158 :: v159 :: v160 :: v161 :: v162 :: v163 :: v164 :: v165 :: v166 :: v167 :: v168 :: v169 :: v170 :: v171 :: v172 :: v173 :: v174 :: v175 :: v176 :: v177 :: v178 :: v179 :: v180 :: v181 :: v182 :: v183 :: v184 :: v185 :: v186 :: v187 :: v188 :: v189 :: v190 :: v191 :: v192 :: v193 :: v194 :: v195 :: v196 :: v197 :: v198 :: v199 :: v200 :: v201 :: v202 :: v203 :: v204 :: v205 :: v206 :: v207 :: v208 :: v209 :: v210 :: v211 :: v212 :: v213 :: v214 :: v215 :: v216 :: v217 :: v218 :: v219 :: v220 :: v221 :: v222 :: v223 :: v224 :: v225 :: v226 :: []), []⟩ w3 := by
  injection hcode with hcode
  subst hcode
  have e1 : (x.a.k == 1) = false := by rw [beq_eq_false_iff_ne]; exact h1
  have e2 : (x.a.k == 2) = false := by rw [beq_eq_false_iff_ne]; exact h2
  have e3 : (x.a.k == 3) = false := by rw [beq_eq_false_iff_ne]; exact h3
  have e4 : (x.a.k == 4) = false := by rw [beq_eq_false_iff_ne]; exact h4
  have e5 : (x.a.k == 5) = false := by rw [beq_eq_false_iff_ne]; exact h5
  have e6 : (x.a.k == 6) = false := by rw [beq_eq_false_iff_ne]; exact h6
  clear h1 h2 h3 h4 h5 h6
  go_upto_region 11 with fail
  refine wp_region_lit ?_
  refine fl_start ?_
  generalize ha : Act.mk _ _ = a0
  have hn : a0.tmps.size = 227 := by rw [← ha]; kernel_rfl
  have h45 : (fr a0 []).eval (.tmp 45) = .int .i64 x.a.k := by rw [← ha]; kernel_rfl
  refine fl_know hn rfl h45 ?_
  clear h45
  refine g_eql hn ?_
  refine g_as hn ?_
  refine fl_end ?_
  clear hn
  subst ha
  dsimp only [fr, cnd, Act.put, cond_true]
  simp only [List.setIfInBounds_toArray, List.set_cons_zero, List.set_cons_succ]
  simp only [e1]
  go_upto_region 21 with fail
  refine wp_region_lit ?_
  refine fl_start ?_
  generalize ha : Act.mk _ _ = a0
  have hn : a0.tmps.size = 227 := by rw [← ha]; kernel_rfl
  have h45 : (fr a0 []).eval (.tmp 45) = .int .i64 x.a.k := by rw [← ha]; kernel_rfl
  refine fl_know hn rfl h45 ?_
  clear h45
  refine g_eql hn ?_
  refine g_as hn ?_
  refine fl_end ?_
  clear hn
  subst ha
  dsimp only [fr, cnd, Act.put, cond_true]
  simp only [List.setIfInBounds_toArray, List.set_cons_zero, List.set_cons_succ]
  simp only [e2]
  go_upto_region 22 with fail
  refine wp_region_lit ?_
  refine fl_start ?_
  generalize ha : Act.mk _ _ = a0
  have hn : a0.tmps.size = 227 := by rw [← ha]; kernel_rfl
  have h45 : (fr a0 []).eval (.tmp 45) = .int .i64 x.a.k := by rw [← ha]; kernel_rfl
  refine fl_know hn rfl h45 ?_
  clear h45
  refine g_eql hn ?_
  refine g_as hn ?_
  refine fl_end ?_
  clear hn
  subst ha
  dsimp only [fr, cnd, Act.put, cond_true]
  simp only [List.setIfInBounds_toArray, List.set_cons_zero, List.set_cons_succ]
  simp only [e3]
  go_upto_region 31 with fail
  refine wp_region_lit ?_
  refine fl_start ?_
  generalize ha : Act.mk _ _ = a0
  have hn : a0.tmps.size = 227 := by rw [← ha]; kernel_rfl
  have h45 : (fr a0 []).eval (.tmp 45) = .int .i64 x.a.k := by rw [← ha]; kernel_rfl
  refine fl_know hn rfl h45 ?_
  clear h45
  refine g_eql hn ?_
  refine g_as hn ?_
  refine fl_end ?_
  clear hn
  subst ha
  dsimp only [fr, cnd, Act.put, cond_true]
  simp only [List.setIfInBounds_toArray, List.set_cons_zero, List.set_cons_succ]
  simp only [e4]
  go_upto_region 34 with fail
  refine wp_region_lit ?_
  refine fl_start ?_
  generalize ha : Act.mk _ _ = a0
  have hn : a0.tmps.size = 227 := by rw [← ha]; kernel_rfl
  have h45 : (fr a0 []).eval (.tmp 45) = .int .i64 x.a.k := by rw [← ha]; kernel_rfl
  refine fl_know hn rfl h45 ?_
  clear h45
  refine g_eql hn ?_
  refine g_as hn ?_
  refine fl_end ?_
  clear hn
  subst ha
  dsimp only [fr, cnd, Act.put, cond_true]
  simp only [List.setIfInBounds_toArray, List.set_cons_zero, List.set_cons_succ]
  simp only [e5]
  go_upto_region 37 with fail
  refine wp_region_lit ?_
  refine fl_start ?_
  generalize ha : Act.mk _ _ = a0
  have hn : a0.tmps.size = 227 := by rw [← ha]; kernel_rfl
  have h45 : (fr a0 []).eval (.tmp 45) = .int .i64 x.a.k := by rw [← ha]; kernel_rfl
  refine fl_know hn rfl h45 ?_
  clear h45
  refine g_eql hn ?_
  refine g_as hn ?_
  refine fl_end ?_
  clear hn
  subst ha
  dsimp only [fr, cnd, Act.put, cond_true]
  simp only [List.setIfInBounds_toArray, List.set_cons_zero, List.set_cons_succ]
  simp only [e6]
  have hT := hK3
  clear hK3 hX3
  obtain ⟨wT, hwT⟩ : ∃ wT, wT = w3 := ⟨_, rfl⟩
  rw [← hwT] at hT ⊢
  clear hwT
  (try clear hrP)
  go_wp2_with fail
  exact HQ.out hT.less
end Go.Proofs.Ytdfifcgpjeojlaa
