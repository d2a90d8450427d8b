/-
  WHAT IS PROVED: the law AirPlays' round, an act of one kind. Conditions: those typed in each theorem. · the law AirPlays' round, an act of one kind. Conditions: those typed in each theorem. · the law AirPlays' round, an act of one kind. Conditions: those typed in each theorem. · the law AirPlays' round, an act of one kind. Conditions: those typed in each theorem.
-/
import Derived.Test.YtdfifcgpjeojlaaGQ8
namespace Go.Proofs.Ytdfifcgpjeojlaa
open Go.RowKit

set_option maxRecDepth 100000 in
set_option maxHeartbeats 4000000 in
theorem air_kind1 {p base q : Nat} {w w3 : World} {B : Option Addr} {m d : Nat} {a : List Pc} {x : Ap} {v0 v1 v2 v5 v9 v10 v11 v12 v13 v14 v15 v16 v17 v18 v19 v20 v21 v22 v23 v24 v25 v26 v27 v28 v29 v30 v31 v32 v33 v34 v35 v36 v37 v38 v39 v40 v41 v42 v43 v44 v46 v47 v48 v49 v50 v51 v52 v53 v54 v55 v56 v57 v58 v59 v60 v61 v62 v63 v64 v65 v66 v67 v68 v69 v70 v71 v72 v73 v74 v75 v76 v77 v78 v79 v80 v81 v82 v83 v84 v85 v86 v87 v88 v89 v90 v91 v92 v93 v94 v95 v96 v97 v98 v99 v100 v101 v102 v103 v104 v105 v106 v107 v108 v109 v110 v111 v112 v113 v114 v115 v116 v117 v118 v119 v120 v121 v122 v123 v124 v125 v126 v127 v128 v129 v130 v131 v132 v133 v134 v135 v136 v137 v138 v139 v140 v141 v142 v143 v144 v145 v146 v147 v148 v149 v150 v151 v152 v153 v154 v155 v156 v157 v158 v159 v160 v161 v162 v163 v164 v165 v166 v167 v168 v169 v170 v171 v172 v173 v174 v175 v176 v177 v178 v179 v180 v181 v182 v183 v184 v185 v186 v187 v188 v189 v190 v191 v192 v193 v194 v195 v196 v197 v198 v199 v200 v201 v202 v203 v204 v205 v206 v207 v208 v209 v210 v211 v212 v213 v214 v215 v216 v217 v218 v219 v220 v221 v222 v223 v224 v225 v226 : Value} {Q : Exit → Act → World → Prop} {code : Code} (hcode : blkOf 2 (Try.f4.body.getD .skip) = some code) (hk : x.a.k = 1) (hK3 : KX base p w w3 a B m d a [] [q]) (hX3 : Blk w3 q x.a.cells tAct) (HFx : Hid (∀ W : World, Below base w W → FlIn W x.fl)) (HFr : Hid (x.fl.b ≠ [] → ∀ ad, x.fl.A = some ad → ad.block < base)) (hn100 : x.a.n ≤ 100)
    (HQ : Hid (∀ {y2 y9 y10 y11 y12 y13 y14 y15 y16 y46 y47 y48 y49 y50 y51 y52 y53 y54 y55 y56 y57 y58 y59 y60 y61 y62 y63 y64 y65 y66 y67 y68 y69 y70 y71 y72 y73 y74 y75 y76 y77 y78 y79 y80 y81 y82 y83 y84 y85 y86 y87 y88 y89 y90 y91 y92 y93 y94 y95 y96 y97 y98 y99 y100 y101 y102 y103 y104 y105 y106 y107 y108 y109 y110 y111 y112 y113 y114 y115 y116 y117 y118 y119 y120 y121 y122 y123 y124 y125 y126 y127 y128 y129 y130 y131 y132 y133 y134 y135 y136 y137 y138 y139 y140 y141 y142 y143 y144 y145 y146 y147 y148 y149 y150 y151 y152 y153 y154 y155 y156 y157 y158 y159 y160 y161 y162 y163 y164 y165 : Value} {wx : World} {B' : Option Addr} {m' d' : Nat} {aT : List Pc} {zE : Int}, KX base p w wx aT B' m' d' aT [] [] → Q .normal ⟨List.toArray (v0 :: v1 :: (y2) :: (.pointer (some ⟨p, 0, none⟩)) :: (.slice B' m' d') :: v5 :: (.pointer (some ⟨q, 0, none⟩)) :: (.int .i64 zE) :: (.int .i64 zE) :: (y9) :: (y10) :: (y11) :: (y12) :: (y13) :: (y14) :: (y15) :: (y16) :: v17 :: v18 :: v19 :: v20 :: v21 :: v22 :: v23 :: v24 :: v25 :: v26 :: v27 :: v28 :: v29 :: v30 :: v31 :: v32 :: v33 :: v34 :: v35 :: v36 :: v37 :: v38 :: v39 :: v40 :: v41 :: v42 :: v43 :: v44 :: (.int .i64 x.a.k) :: (y46) :: (y47) :: (y48) :: (y49) :: (y50) :: (y51) :: (y52) :: (y53) :: (y54) :: (y55) :: (y56) :: (y57) :: (y58) :: (y59) :: (y60) :: (y61) :: (y62) :: (y63) :: (y64) :: (y65) :: (y66) :: (y67) :: (y68) :: (y69) :: (y70) :: (y71) :: (y72) :: (y73) :: (y74) :: (y75) :: (y76) :: (y77) :: (y78) :: (y79) :: (y80) :: (y81) :: (y82) :: (y83) :: (y84) :: (y85) :: (y86) :: (y87) :: (y88) :: (y89) :: (y90) :: (y91) :: (y92) :: (y93) :: (y94) :: (y95) :: (y96) :: (y97) :: (y98) :: (y99) :: (y100) :: (y101) :: (y102) :: (y103) :: (y104) :: (y105) :: (y106) :: (y107) :: (y108) :: (y109) :: (y110) :: (y111) :: (y112) :: (y113) :: (y114) :: (y115) :: (y116) :: (y117) :: (y118) :: (y119) :: (y120) :: (y121) :: (y122) :: (y123) :: (y124) :: (y125) :: (y126) :: (y127) :: (y128) :: (y129) :: (y130) :: (y131) :: (y132) :: (y133) :: (y134) :: (y135) :: (y136) :: (y137) :: (y138) :: (y139) :: (y140) :: (y141) :: (y142) :: (y143) :: (y144) :: (y145) :: (y146) :: (y147) :: (y148) :: (y149) :: (y150) :: (y151) :: (y152) :: (y153) :: (y154) :: (y155) :: (y156) :: (y157) :: (y158) :: (y159) :: (y160) :: (y161) :: (y162) :: (y163) :: (y164) :: (y165) :: v166 :: v167 :: v168 :: v169 :: v170 :: v171 :: v172 :: v173 :: v174 :: v175 :: v176 :: v177 :: v178 :: v179 :: v180 :: v181 :: v182 :: v183 :: v184 :: v185 :: v186 :: v187 :: v188 :: v189 :: v190 :: v191 :: v192 :: v193 :: v194 :: v195 :: v196 :: v197 :: v198 :: v199 :: v200 :: v201 :: v202 :: v203 :: v204 :: v205 :: v206 :: v207 :: v208 :: v209 :: v210 :: v211 :: v212 :: v213 :: v214 :: v215 :: v216 :: v217 :: v218 :: v219 :: v220 :: v221 :: v222 :: v223 :: v224 :: v225 :: v226 :: []), []⟩ wx)) : Code.wp Try.prog code Q ⟨List.toArray (v0 :: v1 :: v2 :: (.pointer (some ⟨p, 0, none⟩)) :: (.slice B m d) :: v5 :: (.pointer (some ⟨q, 0, none⟩)) :: (.int .i64 0) :: (.int .i64 0) :: v9 :: v10 :: v11 :: v12 :: v13 :: v14 :: v15 :: v16 :: v17 :: v18 :: v19 :: v20 :: v21 :: v22 :: v23 :: v24 :: v25 :: v26 :: v27 :: v28 :: v29 :: v30 :: v31 :: v32 :: v33 :: v34 :: v35 :: v36 :: v37 :: v38 :: v39 :: v40 :: v41 :: v42 :: v43 :: v44 :: (.int .i64 x.a.k) :: v46 :: v47 :: v48 :: v49 :: v50 :: v51 :: v52 :: v53 :: v54 :: v55 :: v56 :: v57 :: v58 :: v59 :: v60 :: v61 :: v62 :: v63 :: v64 :: v65 :: v66 :: v67 :: v68 :: v69 :: v70 :: v71 :: v72 :: v73 :: v74 :: v75 :: v76 :: v77 :: v78 :: v79 :: v80 :: v81 :: v82 :: v83 :: v84 :: v85 :: v86 :: v87 :: v88 :: v89 :: v90 :: v91 :: v92 :: v93 :: v94 :: v95 :: v96 :: v97 :: v98 :: v99 :: v100 :: v101 :: v102 :: v103 :: v104 :: v105 :: v106 :: v107 :: v108 :: v109 :: v110 :: v111 :: v112 :: v113 :: v114 :: v115 :: v116 :: v117 :: v118 :: v119 :: v120 :: v121 :: v122 :: v123 :: v124 :: v125 :: v126 :: v127 :: v128 :: v129 :: v130 :: v131 :: v132 :: v133 :: v134 :: v135 :: v136 :: v137 :: v138 :: v139 :: v140 :: v141 :: v142 :: v143 :: v144 :: v145 :: v146 :: v147 :: v148 :: v149 :: v150 :: v151 :: v152 :: v153 :: v154 :: v155 :: v156 :: v157 :: v158 :: v159 :: v160 :: v161 :: v162 :: v163 :: v164 :: v165 :: v166 :: v167 :: v168 :: v169 :: v170 :: v171 :: v172 :: v173 :: v174 :: v175 :: v176 :: v177 :: v178 :: v179 :: v180 :: v181 :: v182 :: v183 :: v184 :: v185 :: v186 :: v187 :: v188 :: v189 :: v190 :: v191 :: v192 :: v193 :: v194 :: v195 :: v196 :: v197 :: v198 :: v199 :: v200 :: v201 :: v202 :: v203 :: v204 :: v205 :: v206 :: v207 :: v208 :: v209 :: v210 :: v211 :: v212 :: v213 :: v214 :: v215 :: v216 :: v217 :: v218 :: v219 :: v220 :: v221 :: v222 :: v223 :: v224 :: v225 :: v226 :: []), []⟩ w3 := by
  injection hcode with hcode
  subst hcode
  have e1 : (x.a.k == 1) = true := by rw [hk]; rfl
  have H1 := Lib.hid hk
  clear hk
  go_upto_region 11 with fail
  refine wp_region_lit ?_
  refine fl_start ?_
  generalize ha : Act.mk _ _ = a0
  have hn : a0.tmps.size = 227 := by rw [← ha]; kernel_rfl
  have h45 : (fr a0 []).eval (.tmp 45) = .int .i64 x.a.k := by rw [← ha]; kernel_rfl
  refine fl_know hn rfl h45 ?_
  clear h45
  refine g_eql hn ?_
  refine g_as hn ?_
  refine fl_end ?_
  clear hn
  subst ha
  dsimp only [fr, cnd, Act.put, cond_true]
  simp only [List.setIfInBounds_toArray, List.set_cons_zero, List.set_cons_succ]
  simp only [e1]
  have f3 := acf3 w3 q
  have lP := ldPQ hX3
  go_upto_region 12 with fail
  refine wp_region_lit ?_
  refine fl_start ?_
  generalize ha : Act.mk _ _ = a0
  have hn : a0.tmps.size = 227 := by rw [← ha]; kernel_rfl
  have h6 : (fr a0 []).eval (.tmp 6) = .pointer (some ⟨q, 0, none⟩) := by rw [← ha]; kernel_rfl
  refine fl_know hn rfl h6 ?_
  clear h6
  refine g_fd hn ?_
  refine g_ld hn ?_
  refine g_w (v := .pointer (some ⟨w3.heap.size, 0, none⟩)) (w2 := w3.alloc (.cells #[.int .i64 0, .int .i64 0, .slice none 0 0] 29)) hn (fun _ => x_alPc) ?_
  have hX4 := blk_new w3 #[.int .i64 0, .int .i64 0, .slice none 0 0] 29
  have hb4 := b0 w3 (.cells #[.int .i64 0, .int .i64 0, .slice none 0 0] 29)
  generalize w3.alloc (.cells #[.int .i64 0, .int .i64 0, .slice none 0 0] 29) = w4 at hX4 hb4 ⊢
  obtain ⟨qo, hqo⟩ : ∃ qo, qo = w3.heap.size := ⟨_, rfl⟩
  rw [← hqo] at hX4 ⊢
  refine g_str hX4 ?_ (h1 := pc_oneC x.fl)
  intro w5 ho5 hX5
  refine fl_end ?_
  clear hn f3 lP
  subst ha
  dsimp only [fr, cnd, Act.put, cond_true]
  simp only [List.setIfInBounds_toArray, List.set_cons_zero, List.set_cons_succ]
  have hb5 : Below w3.heap.size w3 w5 := hb4.trans (ho5.below (by omega))
  have hK5 := hK3.addY hb5 (k := qo) (by omega) hX5.lt
  have hXq5 := hX3.keep hb5
  have hqq : q ≠ qo := by have := hX3.lt; omega
  have hF5 := HFx.out w5 hK5.below
  clear hX4 hb4 ho5 hb5 hqo hX3 hK3
  go_upto_region 13 with fail
  refine wp_region_lit ?_
  refine fl_start ?_
  generalize ha : Act.mk _ _ = a0
  have hn : a0.tmps.size = 227 := by rw [← ha]; kernel_rfl
  have h6 : (fr a0 []).eval (.tmp 6) = .pointer (some ⟨q, 0, none⟩) := by rw [← ha]; kernel_rfl
  refine fl_know hn rfl h6 ?_
  clear h6
  have h9 : (fr a0 [(6, true, .pointer (some ⟨q, 0, none⟩))]).eval (.tmp 9) = .pointer (some ⟨qo, 0, none⟩) := by rw [← ha]; kernel_rfl
  refine fl_know hn rfl h9 ?_
  clear h9
  refine g_w hn (fun _ => x_bsB0) ?_
  have hb6 := b0 w5 (.cells #[] 5)
  have hE6 : OwnB w5.heap.size (w5.alloc (.cells #[] 5)) (some ⟨w5.heap.size, 0, none⟩) 0 0 [] := OwnB.lit w5 #[] [] rfl rfl (Nat.le_refl _) (Nat.zero_le _)
  have hXq6 := hXq5.keep hb6
  have hXo6 := hX5.keep hb6
  have hF6 := hF5.keep hb6
  generalize w5.alloc (.cells #[] 5) = w6 at hb6 hE6 hXq6 hXo6 hF6 ⊢
  have f3 := acf3 w6 q
  have f5 := pf2Q w6 q
  have l5 := ld_sl (hXq6.cell 5)
  refine g_fd hn ?_
  refine g_fd hn ?_
  refine g_ld hn ?_
  obtain ⟨i0, hi0, hz0, hz1, hz2⟩ := info_parts byt_info
  obtain ⟨A2, c2, w7, hr7, hO7, hb7, -⟩ := run_apB (P := Try.prog) (ty := 27) (base := w5.heap.size) (n := 0) (m := x.a.n) (d := x.a.c) w6 Try.underlying27 Try.underlying27 hi0 hz0 hz1 hz2 hE6 hF6.rd hF6.len (by omega) hb6.size
  rw [Nat.zero_add] at hr7 hO7
  rw [List.nil_append] at hO7
  refine g_w hn (fun hk => x_ap (lk_at hk (i := 50) rfl (fun _ => rfl) rfl) (lk_at hk (i := 53) rfl (fun _ => rfl) rfl) hr7) ?_
  have hb57 := hb6.trans hb7
  obtain ⟨hK7, hOB7⟩ := hK5.own hb57 hO7
  have hXo7 := hX5.keep hb57
  have hXq7 := hXq5.keep hb57
  have f2 := pp2 w7 qo
  refine g_fd hn ?_
  refine g_stt hXo7 (hr := st_sl (j := 2) hXo7 (by simp) A2 x.a.n c2) ?_
  intro w8 ho8 hX8
  refine fl_end ?_
  clear hn f3 f5 l5 f2 hr7
  subst ha
  dsimp only [fr, cnd, Act.put, cond_true]
  simp only [List.setIfInBounds_toArray, List.set_cons_zero, List.set_cons_succ]
  have hK8 := hK7.write (k := qo) (by simp) ho8
  have hOB8 := hOB7.only hXo7 (by decide) ho8
  have hXq8 := hXq7.only ho8 hqq
  have hXo8 : Blk w8 qo (⟨x.a.f, x.a.t, A2, x.a.n, c2, false, x.b⟩ : Fl).parcel 29 := hX8
  have hFX := hOB8.fl (f := x.a.f) (t := x.a.t) hO7.len hO7.nilOr hn100
  have hlb : x.b.length = x.a.n := hO7.len
  clear hb6 hE6 hXq6 hXo6 hF6 hO7 hb7 hb57 hK7 hOB7 hXo7 hXq7 hX8 ho8 hK5 hX5 hXq5 hF5
  obtain ⟨YY, hYY⟩ : ∃ YY, YY = oB A2 x.a.n ++ [qo, q] := ⟨_, rfl⟩
  have hYq : q ∈ YY := by rw [hYY]; simp
  have hYo : qo ∈ YY := by rw [hYY]; simp
  rw [← hYY] at hK8 hOB8
  clear hYY
  obtain ⟨rP, hrP⟩ : ∃ r, r = sndP a x.fl.pc := ⟨_, rfl⟩
  have cS := kx_send hK8 (⟨x.a.f, x.a.t, A2, x.a.n, c2, false, x.b⟩ : Fl) hFX hn100
  have lo := ld_pc hXo8
  rw [show sndP a ⟨((⟨x.a.f, x.a.t, A2, x.a.n, c2, false, x.b⟩ : Fl)).f, ((⟨x.a.f, x.a.t, A2, x.a.n, c2, false, x.b⟩ : Fl)).t, false, ((⟨x.a.f, x.a.t, A2, x.a.n, c2, false, x.b⟩ : Fl)).b⟩ = rP from hrP.symm] at cS
  go_upto_region 14 with fail
  refine wp_region_lit ?_
  refine fl_start ?_
  generalize ha : Act.mk _ _ = a0
  have hn : a0.tmps.size = 227 := by rw [← ha]; kernel_rfl
  have h3 : (fr a0 []).eval (.tmp 3) = .pointer (some ⟨p, 0, none⟩) := by rw [← ha]; kernel_rfl
  refine fl_know hn rfl h3 ?_
  clear h3
  have h9 : (fr a0 [(3, true, .pointer (some ⟨p, 0, none⟩))]).eval (.tmp 9) = .pointer (some ⟨qo, 0, none⟩) := by rw [← ha]; kernel_rfl
  refine fl_know hn rfl h9 ?_
  clear h9
  refine g_mv hn ?_
  refine g_ld hn ?_
  refine g_c2x en_spinney_air_Air_Send hn (R := fun v w9 => v = .int .i64 rP.2 ∧ KX base p w w9 rP.1 B m d a [] YY ∧ KeepX [] YY w8 w9) (cS.mono fun _ _ ⟨he, h1, h2⟩ => ⟨_, he, rfl, h1, h2⟩) ?_
  rintro v w9 ⟨rfl, hK9, hKp9⟩
  refine g_as hn ?_
  refine fl_end ?_
  clear hn cS lo
  subst ha
  dsimp only [fr, cnd, Act.put, cond_true]
  simp only [List.setIfInBounds_toArray, List.set_cons_zero, List.set_cons_succ]
  have hXq9 := hKp9.blk hYq hXq8
  have hXo9 := hKp9.blk hYo hXo8
  have hOB9 := hOB8.keep hKp9
  clear hK8 hXq8 hXo8 hOB8 hFX hKp9
  have f3 := acf3 w9 q
  have lP := ldPQ hXq9
  have cR := parcel_any x.fl w9
  go_upto_region 15 with fail
  refine wp_region_lit ?_
  refine fl_start ?_
  generalize ha : Act.mk _ _ = a0
  have hn : a0.tmps.size = 227 := by rw [← ha]; kernel_rfl
  have h4 : (fr a0 []).eval (.tmp 4) = .slice B m d := by rw [← ha]; kernel_rfl
  refine fl_know hn rfl h4 ?_
  clear h4
  have h6 : (fr a0 [(4, true, .slice B m d)]).eval (.tmp 6) = .pointer (some ⟨q, 0, none⟩) := by rw [← ha]; kernel_rfl
  refine fl_know hn rfl h6 ?_
  clear h6
  refine g_mv hn ?_
  refine g_fd hn ?_
  refine g_ld hn ?_
  refine g_c1x en_spinney_spinneylaw22_parcel hn (R := fun v w10 => v = .agg x.fl.cells ∧ Below w9.heap.size w9 w10) (cR.mono fun _ _ ⟨he, hb⟩ => ⟨_, he, rfl, hb⟩) ?_
  rintro v w10 ⟨rfl, hb10⟩
  have hK10 := hK9.keep hb10
  have hF10 := HFx.out w10 hK10.below
  have cT := kr_send hK10 x.fl hF10 hn100 HFr.out
  rw [← hrP] at cT
  refine g_c2x en_spinney_spinneyref22_Send hn (R := fun v w11 => ∃ (B' : Option Addr) (m' d' : Nat), v = .tuple #[.slice B' m' d', .int .i64 rP.2] ∧ KX base p w w11 rP.1 B' m' d' rP.1 [] YY ∧ KeepX [] YY w10 w11) (cT.mono fun _ _ ⟨B', m', d', he, h1, h2⟩ => ⟨_, he, B', m', d', rfl, h1, h2⟩) ?_
  rintro v w11 ⟨B', m', d', rfl, hK11, hKp11⟩
  refine g_mv hn ?_
  refine g_ex hn ?_
  refine g_ex hn ?_
  refine g_as hn ?_
  refine g_as hn ?_
  refine fl_end ?_
  clear hn f3 lP cR cT
  subst ha
  dsimp only [fr, cnd, Act.put, cond_true]
  simp only [List.setIfInBounds_toArray, List.set_cons_zero, List.set_cons_succ]
  have hXo11 := hKp11.blk hYo (hXo9.keep hb10)
  have hOB11 := (hOB9.keep (hK9.keepK hb10)).keep hKp11
  clear hK9 hK10 hXq9 hXo9 hOB9 hb10 hKp11 hF10 hrP
  have f2 := pp2 w11 qo
  have l2 := ld_sl (hXo11.cell 2)
  go_upto_region 16 with fail
  refine wp_region_lit ?_
  refine fl_start ?_
  generalize ha : Act.mk _ _ = a0
  have hn : a0.tmps.size = 227 := by rw [← ha]; kernel_rfl
  have h9 : (fr a0 []).eval (.tmp 9) = .pointer (some ⟨qo, 0, none⟩) := by rw [← ha]; kernel_rfl
  refine fl_know hn rfl h9 ?_
  clear h9
  refine g_fd hn ?_
  refine g_ld hn ?_
  refine g_ln hn ?_
  refine g_mc hn ?_
  refine fl_end ?_
  clear hn f2 l2
  subst ha
  dsimp only [fr, cnd, Act.put, cond_true]
  simp only [List.setIfInBounds_toArray, List.set_cons_zero, List.set_cons_succ]
  go_wp2_with fail
  go_loopw [70] (fun i wr => ∃ (j : Nat) (bs : List UInt8), j ≤ x.a.n ∧ i = .int .i64 j ∧ KX base p w wr rP.1 B' m' d' rP.1 [] YY ∧ OB YY wr A2 x.a.n c2 bs ∧ bs.length = x.a.n ∧ Blk wr qo (⟨x.a.f, x.a.t, A2, x.a.n, c2, false, x.b⟩ : Fl).parcel 29) (fun i _ => x.a.n - (intOf i).toNat)
  case atStart => exact ⟨0, _, Nat.zero_le _, rfl, hK11, hOB11, hlb, hXo11⟩
  case round =>
    clear hK11 hOB11 hXo11
    obtain ⟨j, bs, hj, rfl, hKj, hOBj, hlj, hXoj⟩ := hrel
    by_cases hjl : j < x.a.n
    · have i5 : (j : Int) < (x.a.n : Int) := by omega
      obtain ⟨go, rfl, hYg, hOj⟩ := hOBj (by omega)
      obtain ⟨cg, hXg⟩ := hOj.blkT rfl
      obtain ⟨v5, hv5⟩ : ∃ v5, bs[j]? = some v5 := ⟨_, List.getElem?_eq_getElem (show j < bs.length by omega)⟩
      have c8 := hOj.cellAt hv5
      have hfr := hOj.free j
      have f2 := pp2 wr qo
      have l2 := ld_sl (hXoj.cell 2)
      have ixb := bixA wr go x.a.n c2 j hjl
      have lb := ld_u8A c8
      obtain ⟨x5, hx5⟩ := inc8T wr 77 v5.toNat
      go_upto_region 19 with fail
      refine wp_region_lit ?_
      refine fl_start ?_
      generalize ha : Act.mk _ _ = a0
      have hn : a0.tmps.size = 227 := by rw [← ha]; kernel_rfl
      have h9 : (fr a0 []).eval (.tmp 9) = .pointer (some ⟨qo, 0, none⟩) := by rw [← ha]; kernel_rfl
      refine fl_know hn rfl h9 ?_
      clear h9
      have h10 : (fr a0 [(9, true, .pointer (some ⟨qo, 0, none⟩))]).eval (.tmp 10) = .int .i64 (j : Nat) := by rw [← ha]; kernel_rfl
      refine fl_know hn rfl h10 ?_
      clear h10
      refine g_fd hn ?_
      refine g_ld hn ?_
      refine g_mv hn ?_
      refine g_ix hn ?_
      refine g_ld hn ?_
      refine g_bc hn ?_ (hr := hx5)
      refine g_ix hn ?_
      refine g_stt hXg (hr := st_u8A c8 hfr _) ?_
      intro w9 ho9 hX9
      refine fl_end ?_
      clear hn f2 l2 ixb lb hx5
      subst ha
      dsimp only [fr, cnd, Act.put, cond_true]
      simp only [List.setIfInBounds_toArray, List.set_cons_zero, List.set_cons_succ]
      have hO9 := blk_of_setB hOj hXg j x5 hX9
      have hK9 := hKj.write hYg ho9
      have hgo : qo ≠ go := hXoj.neT hXg (by decide)
      have hXo9 := hXoj.only ho9 hgo
      have hOB9 : OB YY w9 (some ⟨go, 0, none⟩) x.a.n c2 (bs.set j x5) := fun _ => ⟨go, rfl, hYg, hO9⟩
      have hl9 : (bs.set j x5).length = x.a.n := by rw [List.length_set]; exact hlj
      clear hKj hOBj hXoj hOj hXg c8 hfr ho9 hX9
      go_wp2_with fail
      refine ⟨?_, ?_⟩
      · first
        | exact ⟨j + 1, _, by omega, by go_num, hK9, hOB9, hl9, hXo9⟩
        | repeat apply Exists.intro
          refine ⟨?_, rfl⟩
          exact ⟨j + 1, _, by omega, by go_num, hK9, hOB9, hl9, hXo9⟩
        | repeat apply Exists.intro
          refine ⟨?_, rfl, rfl, rfl, rfl⟩
          exact ⟨j + 1, _, by omega, by go_num, hK9, hOB9, hl9, hXo9⟩
        | repeat apply Exists.intro
          refine ⟨?_, rfl, rfl, rfl⟩
          exact ⟨j + 1, _, by omega, by go_num, hK9, hOB9, hl9, hXo9⟩
        | repeat apply Exists.intro
          refine ⟨?_, rfl, rfl⟩
          exact ⟨j + 1, _, by omega, by go_num, hK9, hOB9, hl9, hXo9⟩
        | repeat apply Exists.intro
          refine ⟨?_, rfl, rfl, rfl, rfl, rfl⟩
          exact ⟨j + 1, _, by omega, by go_num, hK9, hOB9, hl9, hXo9⟩
        | repeat apply Exists.intro
          refine ⟨?_, rfl, rfl, rfl, rfl, rfl, rfl⟩
          exact ⟨j + 1, _, by omega, by go_num, hK9, hOB9, hl9, hXo9⟩
      · simp [intOf]; omega
    · have i5 : ¬ (j : Int) < (x.a.n : Int) := by omega
      have hT := hKj
      clear hKj hOBj hXoj
      obtain ⟨wT, hwT⟩ : ∃ wT, wT = wr := ⟨_, rfl⟩
      rw [← hwT] at hT ⊢
      clear hwT
      (try clear hrP)
      go_wp2_with fail
      exact HQ.out hT.less
end Go.Proofs.Ytdfifcgpjeojlaa

namespace Go.Proofs.Ytdfifcgpjeojlaa
open Go.RowKit

set_option maxRecDepth 100000 in
set_option maxHeartbeats 4000000 in
theorem air_kind2 {p base q : Nat} {w w3 : World} {B : Option Addr} {m d : Nat} {a : List Pc} {x : Ap} {v0 v1 v2 v5 v9 v10 v11 v12 v13 v14 v15 v16 v17 v18 v19 v20 v21 v22 v23 v24 v25 v26 v27 v28 v29 v30 v31 v32 v33 v34 v35 v36 v37 v38 v39 v40 v41 v42 v43 v44 v46 v47 v48 v49 v50 v51 v52 v53 v54 v55 v56 v57 v58 v59 v60 v61 v62 v63 v64 v65 v66 v67 v68 v69 v70 v71 v72 v73 v74 v75 v76 v77 v78 v79 v80 v81 v82 v83 v84 v85 v86 v87 v88 v89 v90 v91 v92 v93 v94 v95 v96 v97 v98 v99 v100 v101 v102 v103 v104 v105 v106 v107 v108 v109 v110 v111 v112 v113 v114 v115 v116 v117 v118 v119 v120 v121 v122 v123 v124 v125 v126 v127 v128 v129 v130 v131 v132 v133 v134 v135 v136 v137 v138 v139 v140 v141 v142 v143 v144 v145 v146 v147 v148 v149 v150 v151 v152 v153 v154 v155 v156 v157 v158 v159 v160 v161 v162 v163 v164 v165 v166 v167 v168 v169 v170 v171 v172 v173 v174 v175 v176 v177 v178 v179 v180 v181 v182 v183 v184 v185 v186 v187 v188 v189 v190 v191 v192 v193 v194 v195 v196 v197 v198 v199 v200 v201 v202 v203 v204 v205 v206 v207 v208 v209 v210 v211 v212 v213 v214 v215 v216 v217 v218 v219 v220 v221 v222 v223 v224 v225 v226 : Value} {Q : Exit → Act → World → Prop} {code : Code} (hcode : blkOf 2 (Try.f4.body.getD .skip) = some code) (hk : x.a.k = 2) (hK3 : KX base p w w3 a B m d a [] [q]) (hX3 : Blk w3 q x.a.cells tAct) (HFx : Hid (∀ W : World, Below base w W → FlIn W x.fl)) (HFr : Hid (x.fl.b ≠ [] → ∀ ad, x.fl.A = some ad → ad.block < base)) (hn100 : x.a.n ≤ 100)
    (HQ : Hid (∀ {y2 y9 y10 y11 y12 y13 y14 y15 y16 y46 y47 y48 y49 y50 y51 y52 y53 y54 y55 y56 y57 y58 y59 y60 y61 y62 y63 y64 y65 y66 y67 y68 y69 y70 y71 y72 y73 y74 y75 y76 y77 y78 y79 y80 y81 y82 y83 y84 y85 y86 y87 y88 y89 y90 y91 y92 y93 y94 y95 y96 y97 y98 y99 y100 y101 y102 y103 y104 y105 y106 y107 y108 y109 y110 y111 y112 y113 y114 y115 y116 y117 y118 y119 y120 y121 y122 y123 y124 y125 y126 y127 y128 y129 y130 y131 y132 y133 y134 y135 y136 y137 y138 y139 y140 y141 y142 y143 y144 y145 y146 y147 y148 y149 y150 y151 y152 y153 y154 y155 y156 y157 y158 y159 y160 y161 y162 y163 y164 y165 : Value} {wx : World} {B' : Option Addr} {m' d' : Nat} {aT : List Pc} {zE : Int}, KX base p w wx aT B' m' d' aT [] [] → Q .normal ⟨List.toArray (v0 :: v1 :: (y2) :: (.pointer (some ⟨p, 0, none⟩)) :: (.slice B' m' d') :: v5 :: (.pointer (some ⟨q, 0, none⟩)) :: (.int .i64 zE) :: (.int .i64 zE) :: (y9) :: (y10) :: (y11) :: (y12) :: (y13) :: (y14) :: (y15) :: (y16) :: v17 :: v18 :: v19 :: v20 :: v21 :: v22 :: v23 :: v24 :: v25 :: v26 :: v27 :: v28 :: v29 :: v30 :: v31 :: v32 :: v33 :: v34 :: v35 :: v36 :: v37 :: v38 :: v39 :: v40 :: v41 :: v42 :: v43 :: v44 :: (.int .i64 x.a.k) :: (y46) :: (y47) :: (y48) :: (y49) :: (y50) :: (y51) :: (y52) :: (y53) :: (y54) :: (y55) :: (y56) :: (y57) :: (y58) :: (y59) :: (y60) :: (y61) :: (y62) :: (y63) :: (y64) :: (y65) :: (y66) :: (y67) :: (y68) :: (y69) :: (y70) :: (y71) :: (y72) :: (y73) :: (y74) :: (y75) :: (y76) :: (y77) :: (y78) :: (y79) :: (y80) :: (y81) :: (y82) :: (y83) :: (y84) :: (y85) :: (y86) :: (y87) :: (y88) :: (y89) :: (y90) :: (y91) :: (y92) :: (y93) :: (y94) :: (y95) :: (y96) :: (y97) :: (y98) :: (y99) :: (y100) :: (y101) :: (y102) :: (y103) :: (y104) :: (y105) :: (y106) :: (y107) :: (y108) :: (y109) :: (y110) :: (y111) :: (y112) :: (y113) :: (y114) :: (y115) :: (y116) :: (y117) :: (y118) :: (y119) :: (y120) :: (y121) :: (y122) :: (y123) :: (y124) :: (y125) :: (y126) :: (y127) :: (y128) :: (y129) :: (y130) :: (y131) :: (y132) :: (y133) :: (y134) :: (y135) :: (y136) :: (y137) :: (y138) :: (y139) :: (y140) :: (y141) :: (y142) :: (y143) :: (y144) :: (y145) :: (y146) :: (y147) :: (y148) :: (y149) :: (y150) :: (y151) :: (y152) :: (y153) :: (y154) :: (y155) :: (y156) :: (y157) :: (y158) :: (y159) :: (y160) :: (y161) :: (y162) :: (y163) :: (y164) :: (y165) :: v166 :: v167 :: v168 :: v169 :: v170 :: v171 :: v172 :: v173 :: v174 :: v175 :: v176 :: v177 :: v178 :: v179 :: v180 :: v181 :: v182 :: v183 :: v184 :: v185 :: v186 :: v187 :: v188 :: v189 :: v190 :: v191 :: v192 :: v193 :: v194 :: v195 :: v196 :: v197 :: v198 :: v199 :: v200 :: v201 :: v202 :: v203 :: v204 :: v205 :: v206 :: v207 :: v208 :: v209 :: v210 :: v211 :: v212 :: v213 :: v214 :: v215 :: v216 :: v217 :: v218 :: v219 :: v220 :: v221 :: v222 :: v223 :: v224 :: v225 :: v226 :: []), []⟩ wx)) : Code.wp Try.prog code Q ⟨List.toArray (v0 :: v1 :: v2 :: (.pointer (some ⟨p, 0, none⟩)) :: (.slice B m d) :: v5 :: (.pointer (some ⟨q, 0, none⟩)) :: (.int .i64 0) :: (.int .i64 0) :: v9 :: v10 :: v11 :: v12 :: v13 :: v14 :: v15 :: v16 :: v17 :: v18 :: v19 :: v20 :: v21 :: v22 :: v23 :: v24 :: v25 :: v26 :: v27 :: v28 :: v29 :: v30 :: v31 :: v32 :: v33 :: v34 :: v35 :: v36 :: v37 :: v38 :: v39 :: v40 :: v41 :: v42 :: v43 :: v44 :: (.int .i64 x.a.k) :: v46 :: v47 :: v48 :: v49 :: v50 :: v51 :: v52 :: v53 :: v54 :: v55 :: v56 :: v57 :: v58 :: v59 :: v60 :: v61 :: v62 :: v63 :: v64 :: v65 :: v66 :: v67 :: v68 :: v69 :: v70 :: v71 :: v72 :: v73 :: v74 :: v75 :: v76 :: v77 :: v78 :: v79 :: v80 :: v81 :: v82 :: v83 :: v84 :: v85 :: v86 :: v87 :: v88 :: v89 :: v90 :: v91 :: v92 :: v93 :: v94 :: v95 :: v96 :: v97 :: v98 :: v99 :: v100 :: v101 :: v102 :: v103 :: v104 :: v105 :: v106 :: v107 :: v108 :: v109 :: v110 :: v111 :: v112 :: v113 :: v114 :: v115 :: v116 :: v117 :: v118 :: v119 :: v120 :: v121 :: v122 :: v123 :: v124 :: v125 :: v126 :: v127 :: v128 :: v129 :: v130 :: v131 :: v132 :: v133 :: v134 :: v135 :: v136 :: v137 :: v138 :: v139 :: v140 :: v141 :: v142 :: v143 :: v144 :: v145 :: v146 :: v147 :: v148 :: v149 :: v150 :: v151 :: v152 :: v153 :: v154 :: v155 :: v156 :: v157 :: v158 :: v159 :: v160 :: v161 :: v162 :: v163 :: v164 :: v165 :: v166 :: v167 :: v168 :: v169 :: v170 :: v171 :: v172 :: v173 :: v174 :: v175 :: v176 :: v177 :: v178 :: v179 :: v180 :: v181 :: v182 :: v183 :: v184 :: v185 :: v186 :: v187 :: v188 :: v189 :: v190 :: v191 :: v192 :: v193 :: v194 :: v195 :: v196 :: v197 :: v198 :: v199 :: v200 :: v201 :: v202 :: v203 :: v204 :: v205 :: v206 :: v207 :: v208 :: v209 :: v210 :: v211 :: v212 :: v213 :: v214 :: v215 :: v216 :: v217 :: v218 :: v219 :: v220 :: v221 :: v222 :: v223 :: v224 :: v225 :: v226 :: []), []⟩ w3 := by
  injection hcode with hcode
  subst hcode
  have e1 : (x.a.k == 1) = false := by rw [hk]; rfl
  have e2 : (x.a.k == 2) = true := by rw [hk]; rfl
  have H2 := Lib.hid hk
  clear hk
  go_upto_region 11 with fail
  refine wp_region_lit ?_
  refine fl_start ?_
  generalize ha : Act.mk _ _ = a0
  have hn : a0.tmps.size = 227 := by rw [← ha]; kernel_rfl
  have h45 : (fr a0 []).eval (.tmp 45) = .int .i64 x.a.k := by rw [← ha]; kernel_rfl
  refine fl_know hn rfl h45 ?_
  clear h45
  refine g_eql hn ?_
  refine g_as hn ?_
  refine fl_end ?_
  clear hn
  subst ha
  dsimp only [fr, cnd, Act.put, cond_true]
  simp only [List.setIfInBounds_toArray, List.set_cons_zero, List.set_cons_succ]
  simp only [e1]
  go_upto_region 21 with fail
  refine wp_region_lit ?_
  refine fl_start ?_
  generalize ha : Act.mk _ _ = a0
  have hn : a0.tmps.size = 227 := by rw [← ha]; kernel_rfl
  have h45 : (fr a0 []).eval (.tmp 45) = .int .i64 x.a.k := by rw [← ha]; kernel_rfl
  refine fl_know hn rfl h45 ?_
  clear h45
  refine g_eql hn ?_
  refine g_as hn ?_
  refine fl_end ?_
  clear hn
  subst ha
  dsimp only [fr, cnd, Act.put, cond_true]
  simp only [List.setIfInBounds_toArray, List.set_cons_zero, List.set_cons_succ]
  simp only [e2]
  obtain ⟨rP, hrP⟩ : ∃ r, r = tkP a x.a.i := ⟨_, rfl⟩
  have f1 := acf1 w3 q
  have l1 := ld_in (hX3.cell 1)
  have cT := kr_take hK3 x.a.i
  rw [← hrP] at cT
  go_upto_region 23 with fail
  refine wp_region_lit ?_
  refine fl_start ?_
  generalize ha : Act.mk _ _ = a0
  have hn : a0.tmps.size = 227 := by rw [← ha]; kernel_rfl
  have h4 : (fr a0 []).eval (.tmp 4) = .slice B m d := by rw [← ha]; kernel_rfl
  refine fl_know hn rfl h4 ?_
  clear h4
  have h6 : (fr a0 [(4, true, .slice B m d)]).eval (.tmp 6) = .pointer (some ⟨q, 0, none⟩) := by rw [← ha]; kernel_rfl
  refine fl_know hn rfl h6 ?_
  clear h6
  refine g_mv hn ?_
  refine g_fd hn ?_
  refine g_ld hn ?_
  refine g_c2x en_spinney_spinneyref22_Take hn (R := fun v w4 => ∃ (B' : Option Addr) (m' d' : Nat) (y : Fl), v = .tuple #[.slice B' m' d', .agg y.cells, .int .i64 rP.2] ∧ y.pc = wantP a x.a.i ∧ FlIn w4 y ∧ KX base p w w4 a B' m' d' rP.1 (wX y ++ []) [q] ∧ KeepX [] [q] w3 w4) (cT.mono fun _ _ ⟨B', m', d', y, he, h1, h2, h3, h4⟩ => ⟨_, he, B', m', d', y, rfl, h1, h2, h3, h4⟩) ?_
  rintro v w4 ⟨B', m', d', y, rfl, hyw, hFy4, hK4, hKp4⟩
  refine g_mv hn ?_
  refine g_ex hn ?_
  refine g_ex hn ?_
  refine g_ex hn ?_
  refine g_w (v := .pointer (some ⟨w4.heap.size, 0, none⟩)) (w2 := w4.alloc (.cells zFl 45)) hn (fun _ => x_alRf) ?_
  have hX5 := blk_new w4 zFl 45
  have hb5 := b0 w4 (.cells zFl 45)
  generalize w4.alloc (.cells zFl 45) = w5 at hX5 hb5 ⊢
  obtain ⟨qw, hqw⟩ : ∃ qw, qw = w4.heap.size := ⟨_, rfl⟩
  rw [← hqw] at hX5 ⊢
  refine g_as hn ?_
  refine g_str hX5 ?_ (h1 := fl_oneC y)
  intro w6 ho6 hX6
  refine g_as hn ?_
  refine fl_end ?_
  clear hn f1 l1 cT
  subst ha
  dsimp only [fr, cnd, Act.put, cond_true]
  simp only [List.setIfInBounds_toArray, List.set_cons_zero, List.set_cons_succ]
  have hb6 : Below w4.heap.size w4 w6 := hb5.trans (ho6.below (by omega))
  have hXq6 := (hKp4.blk (List.mem_singleton_self q) hX3).keep hb6
  have hK6 := hK4.addY hb6 (k := qw) (by omega) hX6.lt
  have hFy6 := hFy4.keep hb6
  have HY := Lib.hid hyw
  clear hX5 hb5 ho6 hb6 hqw hX3 hK3 hKp4 hK4 hFy4 hyw
  go_upto_region 24 with fail
  refine wp_region_lit ?_
  refine fl_start ?_
  generalize ha : Act.mk _ _ = a0
  have hn : a0.tmps.size = 227 := by rw [← ha]; kernel_rfl
  have h11 : (fr a0 []).eval (.tmp 11) = .slice B' m' d' := by rw [← ha]; kernel_rfl
  refine fl_know hn rfl h11 ?_
  clear h11
  have h13 : (fr a0 [(11, true, .slice B' m' d')]).eval (.tmp 13) = .int .i64 rP.2 := by rw [← ha]; kernel_rfl
  refine fl_know hn rfl h13 ?_
  clear h13
  refine g_mv hn ?_
  refine g_mv hn ?_
  refine g_as hn ?_
  refine g_as hn ?_
  refine fl_end ?_
  clear hn
  subst ha
  dsimp only [fr, cnd, Act.put, cond_true]
  simp only [List.setIfInBounds_toArray, List.set_cons_zero, List.set_cons_succ]
  have f0 := acf0 w6 q
  have l0 := ld_in (hXq6.cell 0)
  go_upto_region 25 with fail
  refine wp_region_lit ?_
  refine fl_start ?_
  generalize ha : Act.mk _ _ = a0
  have hn : a0.tmps.size = 227 := by rw [← ha]; kernel_rfl
  have h6 : (fr a0 []).eval (.tmp 6) = .pointer (some ⟨q, 0, none⟩) := by rw [← ha]; kernel_rfl
  refine fl_know hn rfl h6 ?_
  clear h6
  refine g_fd hn ?_
  refine g_ld hn ?_
  refine g_eql hn ?_
  refine fl_end ?_
  clear hn f0 l0
  subst ha
  dsimp only [fr, cnd, Act.put, cond_true]
  simp only [List.setIfInBounds_toArray, List.set_cons_zero, List.set_cons_succ]
  have e33 : (x.a.k == 3) = false := by rw [H2.out]; rfl
  simp only [e33]
  have f1 := acf1 w6 q
  have l1 := ld_in (hXq6.cell 1)
  have cT := kx_take hK6 x.a.i
  rw [← hrP] at cT
  go_upto_region 27 with fail
  refine wp_region_lit ?_
  refine fl_start ?_
  generalize ha : Act.mk _ _ = a0
  have hn : a0.tmps.size = 227 := by rw [← ha]; kernel_rfl
  have h3 : (fr a0 []).eval (.tmp 3) = .pointer (some ⟨p, 0, none⟩) := by rw [← ha]; kernel_rfl
  refine fl_know hn rfl h3 ?_
  clear h3
  have h6 : (fr a0 [(3, true, .pointer (some ⟨p, 0, none⟩))]).eval (.tmp 6) = .pointer (some ⟨q, 0, none⟩) := by rw [← ha]; kernel_rfl
  refine fl_know hn rfl h6 ?_
  clear h6
  refine g_mv hn ?_
  refine g_fd hn ?_
  refine g_ld hn ?_
  refine g_c2x en_spinney_air_Air_Take hn (R := fun v w7 => ∃ x7 : Fl, v = .tuple #[.agg x7.parcel, .int .i64 rP.2] ∧ x7.pc = wantP a x.a.i ∧ FlIn w7 x7 ∧ KX base p w w7 rP.1 B' m' d' rP.1 (wX y ++ []) [qw, q] ∧ KeepX (wX y ++ []) [qw, q] w6 w7) (cT.mono fun _ _ ⟨x7, he, h1, h2, h3, h4⟩ => ⟨_, he, x7, rfl, h1, h2, h3, h4⟩) ?_
  rintro v w7 ⟨x7, rfl, hx7, hF7, hK7, hKp7⟩
  refine g_mv hn ?_
  refine g_ex hn ?_
  refine g_ex hn ?_
  refine g_w (v := .pointer (some ⟨w7.heap.size, 0, none⟩)) (w2 := w7.alloc (.cells #[.int .i64 0, .int .i64 0, .slice none 0 0] 29)) hn (fun _ => x_alPc) ?_
  have hX8 := blk_new w7 #[.int .i64 0, .int .i64 0, .slice none 0 0] 29
  have hb8 := b0 w7 (.cells #[.int .i64 0, .int .i64 0, .slice none 0 0] 29)
  generalize w7.alloc (.cells #[.int .i64 0, .int .i64 0, .slice none 0 0] 29) = w8 at hX8 hb8 ⊢
  obtain ⟨qp, hqp⟩ : ∃ qp, qp = w7.heap.size := ⟨_, rfl⟩
  rw [← hqp] at hX8 ⊢
  refine g_str hX8 ?_ (h1 := pc_oneC x7)
  intro w9 ho9 hX9
  refine g_as hn ?_
  refine fl_end ?_
  clear hn f1 l1 cT
  subst ha
  dsimp only [fr, cnd, Act.put, cond_true]
  simp only [List.setIfInBounds_toArray, List.set_cons_zero, List.set_cons_succ]
  have hb9 : Below w7.heap.size w7 w9 := hb8.trans (ho9.below (by omega))
  have hK9 := hK7.keep hb9
  have hF9 := hF7.keep hb9
  have hFy9 := (hFy6.keepX hKp7).keep hb9
  have hXw9 := (hKp7.blk (by simp : qw ∈ [qw, q]) hX6).keep hb9
  have hxy : x7.pc = y.pc := by rw [hx7, HY.out]
  clear hX8 hb8 ho9 hb9 hqp hK7 hKp7 hF7 hFy6 hK6 hX6 hXq6 hx7
  go_upto_region 28 with fail
  refine wp_region_lit ?_
  refine fl_start ?_
  generalize ha : Act.mk _ _ = a0
  have hn : a0.tmps.size = 227 := by rw [← ha]; kernel_rfl
  have h15 : (fr a0 []).eval (.tmp 15) = .int .i64 rP.2 := by rw [← ha]; kernel_rfl
  refine fl_know hn rfl h15 ?_
  clear h15
  refine g_mv hn ?_
  refine g_as hn ?_
  refine fl_end ?_
  clear hn
  subst ha
  dsimp only [fr, cnd, Act.put, cond_true]
  simp only [List.setIfInBounds_toArray, List.set_cons_zero, List.set_cons_succ]
  have lp := ld_pc hX9
  have lw := ld_rf hXw9
  have cE := same_any (C := w9.heap.size) (C2 := w9.heap.size) x7 y w9 (congrArg Pc.f hxy) (congrArg Pc.t hxy) (congrArg Pc.b hxy) hF9.rd hF9.len hFy9.rd hFy9.len (Nat.le_refl _) (Nat.le_refl _)
  go_upto_region 29 with fail
  refine wp_region_lit ?_
  refine fl_start ?_
  generalize ha : Act.mk _ _ = a0
  have hn : a0.tmps.size = 227 := by rw [← ha]; kernel_rfl
  have h12 : (fr a0 []).eval (.tmp 12) = .pointer (some ⟨qw, 0, none⟩) := by rw [← ha]; kernel_rfl
  refine fl_know hn rfl h12 ?_
  clear h12
  have h14 : (fr a0 [(12, true, .pointer (some ⟨qw, 0, none⟩))]).eval (.tmp 14) = .pointer (some ⟨qp, 0, none⟩) := by rw [← ha]; kernel_rfl
  refine fl_know hn rfl h14 ?_
  clear h14
  refine g_ld hn ?_
  refine g_ld hn ?_
  refine g_c2x en_spinney_spinneylaw22_same hn (R := fun v wT => v = .bool true ∧ Below w9.heap.size w9 wT) (cE.mono fun _ _ ⟨he, hb⟩ => ⟨_, he, rfl, hb⟩) ?_
  rintro v wT ⟨rfl, hbT⟩
  refine g_nt hn ?_
  refine fl_end ?_
  clear hn lp lw cE
  subst ha
  dsimp only [fr, cnd, Act.put, cond_true]
  simp only [List.setIfInBounds_toArray, List.set_cons_zero, List.set_cons_succ]
  have hT := hK9.keep hbT
  clear hK9 hbT hX9 hXw9 hF9 hFy9 hxy
  (try clear hrP)
  go_wp2_with fail
  exact HQ.out hT.less
end Go.Proofs.Ytdfifcgpjeojlaa

namespace Go.Proofs.Ytdfifcgpjeojlaa
open Go.RowKit

set_option maxRecDepth 100000 in
set_option maxHeartbeats 4000000 in
theorem air_kind3 {p base q : Nat} {w w3 : World} {B : Option Addr} {m d : Nat} {a : List Pc} {x : Ap} {v0 v1 v2 v5 v9 v10 v11 v12 v13 v14 v15 v16 v17 v18 v19 v20 v21 v22 v23 v24 v25 v26 v27 v28 v29 v30 v31 v32 v33 v34 v35 v36 v37 v38 v39 v40 v41 v42 v43 v44 v46 v47 v48 v49 v50 v51 v52 v53 v54 v55 v56 v57 v58 v59 v60 v61 v62 v63 v64 v65 v66 v67 v68 v69 v70 v71 v72 v73 v74 v75 v76 v77 v78 v79 v80 v81 v82 v83 v84 v85 v86 v87 v88 v89 v90 v91 v92 v93 v94 v95 v96 v97 v98 v99 v100 v101 v102 v103 v104 v105 v106 v107 v108 v109 v110 v111 v112 v113 v114 v115 v116 v117 v118 v119 v120 v121 v122 v123 v124 v125 v126 v127 v128 v129 v130 v131 v132 v133 v134 v135 v136 v137 v138 v139 v140 v141 v142 v143 v144 v145 v146 v147 v148 v149 v150 v151 v152 v153 v154 v155 v156 v157 v158 v159 v160 v161 v162 v163 v164 v165 v166 v167 v168 v169 v170 v171 v172 v173 v174 v175 v176 v177 v178 v179 v180 v181 v182 v183 v184 v185 v186 v187 v188 v189 v190 v191 v192 v193 v194 v195 v196 v197 v198 v199 v200 v201 v202 v203 v204 v205 v206 v207 v208 v209 v210 v211 v212 v213 v214 v215 v216 v217 v218 v219 v220 v221 v222 v223 v224 v225 v226 : Value} {Q : Exit → Act → World → Prop} {code : Code} (hcode : blkOf 2 (Try.f4.body.getD .skip) = some code) (hk : x.a.k = 3) (hK3 : KX base p w w3 a B m d a [] [q]) (hX3 : Blk w3 q x.a.cells tAct) (HFx : Hid (∀ W : World, Below base w W → FlIn W x.fl)) (HFr : Hid (x.fl.b ≠ [] → ∀ ad, x.fl.A = some ad → ad.block < base)) (hn100 : x.a.n ≤ 100)
    (HQ : Hid (∀ {y2 y9 y10 y11 y12 y13 y14 y15 y16 y46 y47 y48 y49 y50 y51 y52 y53 y54 y55 y56 y57 y58 y59 y60 y61 y62 y63 y64 y65 y66 y67 y68 y69 y70 y71 y72 y73 y74 y75 y76 y77 y78 y79 y80 y81 y82 y83 y84 y85 y86 y87 y88 y89 y90 y91 y92 y93 y94 y95 y96 y97 y98 y99 y100 y101 y102 y103 y104 y105 y106 y107 y108 y109 y110 y111 y112 y113 y114 y115 y116 y117 y118 y119 y120 y121 y122 y123 y124 y125 y126 y127 y128 y129 y130 y131 y132 y133 y134 y135 y136 y137 y138 y139 y140 y141 y142 y143 y144 y145 y146 y147 y148 y149 y150 y151 y152 y153 y154 y155 y156 y157 y158 y159 y160 y161 y162 y163 y164 y165 : Value} {wx : World} {B' : Option Addr} {m' d' : Nat} {aT : List Pc} {zE : Int}, KX base p w wx aT B' m' d' aT [] [] → Q .normal ⟨List.toArray (v0 :: v1 :: (y2) :: (.pointer (some ⟨p, 0, none⟩)) :: (.slice B' m' d') :: v5 :: (.pointer (some ⟨q, 0, none⟩)) :: (.int .i64 zE) :: (.int .i64 zE) :: (y9) :: (y10) :: (y11) :: (y12) :: (y13) :: (y14) :: (y15) :: (y16) :: v17 :: v18 :: v19 :: v20 :: v21 :: v22 :: v23 :: v24 :: v25 :: v26 :: v27 :: v28 :: v29 :: v30 :: v31 :: v32 :: v33 :: v34 :: v35 :: v36 :: v37 :: v38 :: v39 :: v40 :: v41 :: v42 :: v43 :: v44 :: (.int .i64 x.a.k) :: (y46) :: (y47) :: (y48) :: (y49) :: (y50) :: (y51) :: (y52) :: (y53) :: (y54) :: (y55) :: (y56) :: (y57) :: (y58) :: (y59) :: (y60) :: (y61) :: (y62) :: (y63) :: (y64) :: (y65) :: (y66) :: (y67) :: (y68) :: (y69) :: (y70) :: (y71) :: (y72) :: (y73) :: (y74) :: (y75) :: (y76) :: (y77) :: (y78) :: (y79) :: (y80) :: (y81) :: (y82) :: (y83) :: (y84) :: (y85) :: (y86) :: (y87) :: (y88) :: (y89) :: (y90) :: (y91) :: (y92) :: (y93) :: (y94) :: (y95) :: (y96) :: (y97) :: (y98) :: (y99) :: (y100) :: (y101) :: (y102) :: (y103) :: (y104) :: (y105) :: (y106) :: (y107) :: (y108) :: (y109) :: (y110) :: (y111) :: (y112) :: (y113) :: (y114) :: (y115) :: (y116) :: (y117) :: (y118) :: (y119) :: (y120) :: (y121) :: (y122) :: (y123) :: (y124) :: (y125) :: (y126) :: (y127) :: (y128) :: (y129) :: (y130) :: (y131) :: (y132) :: (y133) :: (y134) :: (y135) :: (y136) :: (y137) :: (y138) :: (y139) :: (y140) :: (y141) :: (y142) :: (y143) :: (y144) :: (y145) :: (y146) :: (y147) :: (y148) :: (y149) :: (y150) :: (y151) :: (y152) :: (y153) :: (y154) :: (y155) :: (y156) :: (y157) :: (y158) :: (y159) :: (y160) :: (y161) :: (y162) :: (y163) :: (y164) :: (y165) :: v166 :: v167 :: v168 :: v169 :: v170 :: v171 :: v172 :: v173 :: v174 :: v175 :: v176 :: v177 :: v178 :: v179 :: v180 :: v181 :: v182 :: v183 :: v184 :: v185 :: v186 :: v187 :: v188 :: v189 :: v190 :: v191 :: v192 :: v193 :: v194 :: v195 :: v196 :: v197 :: v198 :: v199 :: v200 :: v201 :: v202 :: v203 :: v204 :: v205 :: v206 :: v207 :: v208 :: v209 :: v210 :: v211 :: v212 :: v213 :: v214 :: v215 :: v216 :: v217 :: v218 :: v219 :: v220 :: v221 :: v222 :: v223 :: v224 :: v225 :: v226 :: []), []⟩ wx)) : Code.wp Try.prog code Q ⟨List.toArray (v0 :: v1 :: v2 :: (.pointer (some ⟨p, 0, none⟩)) :: (.slice B m d) :: v5 :: (.pointer (some ⟨q, 0, none⟩)) :: (.int .i64 0) :: (.int .i64 0) :: v9 :: v10 :: v11 :: v12 :: v13 :: v14 :: v15 :: v16 :: v17 :: v18 :: v19 :: v20 :: v21 :: v22 :: v23 :: v24 :: v25 :: v26 :: v27 :: v28 :: v29 :: v30 :: v31 :: v32 :: v33 :: v34 :: v35 :: v36 :: v37 :: v38 :: v39 :: v40 :: v41 :: v42 :: v43 :: v44 :: (.int .i64 x.a.k) :: v46 :: v47 :: v48 :: v49 :: v50 :: v51 :: v52 :: v53 :: v54 :: v55 :: v56 :: v57 :: v58 :: v59 :: v60 :: v61 :: v62 :: v63 :: v64 :: v65 :: v66 :: v67 :: v68 :: v69 :: v70 :: v71 :: v72 :: v73 :: v74 :: v75 :: v76 :: v77 :: v78 :: v79 :: v80 :: v81 :: v82 :: v83 :: v84 :: v85 :: v86 :: v87 :: v88 :: v89 :: v90 :: v91 :: v92 :: v93 :: v94 :: v95 :: v96 :: v97 :: v98 :: v99 :: v100 :: v101 :: v102 :: v103 :: v104 :: v105 :: v106 :: v107 :: v108 :: v109 :: v110 :: v111 :: v112 :: v113 :: v114 :: v115 :: v116 :: v117 :: v118 :: v119 :: v120 :: v121 :: v122 :: v123 :: v124 :: v125 :: v126 :: v127 :: v128 :: v129 :: v130 :: v131 :: v132 :: v133 :: v134 :: v135 :: v136 :: v137 :: v138 :: v139 :: v140 :: v141 :: v142 :: v143 :: v144 :: v145 :: v146 :: v147 :: v148 :: v149 :: v150 :: v151 :: v152 :: v153 :: v154 :: v155 :: v156 :: v157 :: v158 :: v159 :: v160 :: v161 :: v162 :: v163 :: v164 :: v165 :: v166 :: v167 :: v168 :: v169 :: v170 :: v171 :: v172 :: v173 :: v174 :: v175 :: v176 :: v177 :: v178 :: v179 :: v180 :: v181 :: v182 :: v183 :: v184 :: v185 :: v186 :: v187 :: v188 :: v189 :: v190 :: v191 :: v192 :: v193 :: v194 :: v195 :: v196 :: v197 :: v198 :: v199 :: v200 :: v201 :: v202 :: v203 :: v204 :: v205 :: v206 :: v207 :: v208 :: v209 :: v210 :: v211 :: v212 :: v213 :: v214 :: v215 :: v216 :: v217 :: v218 :: v219 :: v220 :: v221 :: v222 :: v223 :: v224 :: v225 :: v226 :: []), []⟩ w3 := by
  injection hcode with hcode
  subst hcode
  have e1 : (x.a.k == 1) = false := by rw [hk]; rfl
  have e2 : (x.a.k == 2) = false := by rw [hk]; rfl
  have e3 : (x.a.k == 3) = true := by rw [hk]; rfl
  have H3 := Lib.hid hk
  clear hk
  go_upto_region 11 with fail
  refine wp_region_lit ?_
  refine fl_start ?_
  generalize ha : Act.mk _ _ = a0
  have hn : a0.tmps.size = 227 := by rw [← ha]; kernel_rfl
  have h45 : (fr a0 []).eval (.tmp 45) = .int .i64 x.a.k := by rw [← ha]; kernel_rfl
  refine fl_know hn rfl h45 ?_
  clear h45
  refine g_eql hn ?_
  refine g_as hn ?_
  refine fl_end ?_
  clear hn
  subst ha
  dsimp only [fr, cnd, Act.put, cond_true]
  simp only [List.setIfInBounds_toArray, List.set_cons_zero, List.set_cons_succ]
  simp only [e1]
  go_upto_region 21 with fail
  refine wp_region_lit ?_
  refine fl_start ?_
  generalize ha : Act.mk _ _ = a0
  have hn : a0.tmps.size = 227 := by rw [← ha]; kernel_rfl
  have h45 : (fr a0 []).eval (.tmp 45) = .int .i64 x.a.k := by rw [← ha]; kernel_rfl
  refine fl_know hn rfl h45 ?_
  clear h45
  refine g_eql hn ?_
  refine g_as hn ?_
  refine fl_end ?_
  clear hn
  subst ha
  dsimp only [fr, cnd, Act.put, cond_true]
  simp only [List.setIfInBounds_toArray, List.set_cons_zero, List.set_cons_succ]
  simp only [e2]
  go_upto_region 22 with fail
  refine wp_region_lit ?_
  refine fl_start ?_
  generalize ha : Act.mk _ _ = a0
  have hn : a0.tmps.size = 227 := by rw [← ha]; kernel_rfl
  have h45 : (fr a0 []).eval (.tmp 45) = .int .i64 x.a.k := by rw [← ha]; kernel_rfl
  refine fl_know hn rfl h45 ?_
  clear h45
  refine g_eql hn ?_
  refine g_as hn ?_
  refine fl_end ?_
  clear hn
  subst ha
  dsimp only [fr, cnd, Act.put, cond_true]
  simp only [List.setIfInBounds_toArray, List.set_cons_zero, List.set_cons_succ]
  simp only [e3]
  obtain ⟨rP, hrP⟩ : ∃ r, r = tkP a x.a.i := ⟨_, rfl⟩
  have f1 := acf1 w3 q
  have l1 := ld_in (hX3.cell 1)
  have cT := kr_take hK3 x.a.i
  rw [← hrP] at cT
  go_upto_region 23 with fail
  refine wp_region_lit ?_
  refine fl_start ?_
  generalize ha : Act.mk _ _ = a0
  have hn : a0.tmps.size = 227 := by rw [← ha]; kernel_rfl
  have h4 : (fr a0 []).eval (.tmp 4) = .slice B m d := by rw [← ha]; kernel_rfl
  refine fl_know hn rfl h4 ?_
  clear h4
  have h6 : (fr a0 [(4, true, .slice B m d)]).eval (.tmp 6) = .pointer (some ⟨q, 0, none⟩) := by rw [← ha]; kernel_rfl
  refine fl_know hn rfl h6 ?_
  clear h6
  refine g_mv hn ?_
  refine g_fd hn ?_
  refine g_ld hn ?_
  refine g_c2x en_spinney_spinneyref22_Take hn (R := fun v w4 => ∃ (B' : Option Addr) (m' d' : Nat) (y : Fl), v = .tuple #[.slice B' m' d', .agg y.cells, .int .i64 rP.2] ∧ y.pc = wantP a x.a.i ∧ FlIn w4 y ∧ KX base p w w4 a B' m' d' rP.1 (wX y ++ []) [q] ∧ KeepX [] [q] w3 w4) (cT.mono fun _ _ ⟨B', m', d', y, he, h1, h2, h3, h4⟩ => ⟨_, he, B', m', d', y, rfl, h1, h2, h3, h4⟩) ?_
  rintro v w4 ⟨B', m', d', y, rfl, hyw, hFy4, hK4, hKp4⟩
  refine g_mv hn ?_
  refine g_ex hn ?_
  refine g_ex hn ?_
  refine g_ex hn ?_
  refine g_w (v := .pointer (some ⟨w4.heap.size, 0, none⟩)) (w2 := w4.alloc (.cells zFl 45)) hn (fun _ => x_alRf) ?_
  have hX5 := blk_new w4 zFl 45
  have hb5 := b0 w4 (.cells zFl 45)
  generalize w4.alloc (.cells zFl 45) = w5 at hX5 hb5 ⊢
  obtain ⟨qw, hqw⟩ : ∃ qw, qw = w4.heap.size := ⟨_, rfl⟩
  rw [← hqw] at hX5 ⊢
  refine g_as hn ?_
  refine g_str hX5 ?_ (h1 := fl_oneC y)
  intro w6 ho6 hX6
  refine g_as hn ?_
  refine fl_end ?_
  clear hn f1 l1 cT
  subst ha
  dsimp only [fr, cnd, Act.put, cond_true]
  simp only [List.setIfInBounds_toArray, List.set_cons_zero, List.set_cons_succ]
  have hb6 : Below w4.heap.size w4 w6 := hb5.trans (ho6.below (by omega))
  have hXq6 := (hKp4.blk (List.mem_singleton_self q) hX3).keep hb6
  have hK6 := hK4.addY hb6 (k := qw) (by omega) hX6.lt
  have hFy6 := hFy4.keep hb6
  have HY := Lib.hid hyw
  clear hX5 hb5 ho6 hb6 hqw hX3 hK3 hKp4 hK4 hFy4 hyw
  go_upto_region 24 with fail
  refine wp_region_lit ?_
  refine fl_start ?_
  generalize ha : Act.mk _ _ = a0
  have hn : a0.tmps.size = 227 := by rw [← ha]; kernel_rfl
  have h11 : (fr a0 []).eval (.tmp 11) = .slice B' m' d' := by rw [← ha]; kernel_rfl
  refine fl_know hn rfl h11 ?_
  clear h11
  have h13 : (fr a0 [(11, true, .slice B' m' d')]).eval (.tmp 13) = .int .i64 rP.2 := by rw [← ha]; kernel_rfl
  refine fl_know hn rfl h13 ?_
  clear h13
  refine g_mv hn ?_
  refine g_mv hn ?_
  refine g_as hn ?_
  refine g_as hn ?_
  refine fl_end ?_
  clear hn
  subst ha
  dsimp only [fr, cnd, Act.put, cond_true]
  simp only [List.setIfInBounds_toArray, List.set_cons_zero, List.set_cons_succ]
  have f0 := acf0 w6 q
  have l0 := ld_in (hXq6.cell 0)
  go_upto_region 25 with fail
  refine wp_region_lit ?_
  refine fl_start ?_
  generalize ha : Act.mk _ _ = a0
  have hn : a0.tmps.size = 227 := by rw [← ha]; kernel_rfl
  have h6 : (fr a0 []).eval (.tmp 6) = .pointer (some ⟨q, 0, none⟩) := by rw [← ha]; kernel_rfl
  refine fl_know hn rfl h6 ?_
  clear h6
  refine g_fd hn ?_
  refine g_ld hn ?_
  refine g_eql hn ?_
  refine fl_end ?_
  clear hn f0 l0
  subst ha
  dsimp only [fr, cnd, Act.put, cond_true]
  simp only [List.setIfInBounds_toArray, List.set_cons_zero, List.set_cons_succ]
  have e33 : (x.a.k == 3) = true := by rw [H3.out]; rfl
  simp only [e33]
  have f1 := acf1 w6 q
  have l1 := ld_in (hXq6.cell 1)
  have cL := kx_lose hK6 x.a.i
  rw [← hrP] at cL
  go_upto_region 26 with fail
  refine wp_region_lit ?_
  refine fl_start ?_
  generalize ha : Act.mk _ _ = a0
  have hn : a0.tmps.size = 227 := by rw [← ha]; kernel_rfl
  have h3 : (fr a0 []).eval (.tmp 3) = .pointer (some ⟨p, 0, none⟩) := by rw [← ha]; kernel_rfl
  refine fl_know hn rfl h3 ?_
  clear h3
  have h6 : (fr a0 [(3, true, .pointer (some ⟨p, 0, none⟩))]).eval (.tmp 6) = .pointer (some ⟨q, 0, none⟩) := by rw [← ha]; kernel_rfl
  refine fl_know hn rfl h6 ?_
  clear h6
  refine g_mv hn ?_
  refine g_fd hn ?_
  refine g_ld hn ?_
  refine g_c2x en_spinney_air_Air_Lose hn (R := fun v wT => v = .int .i64 rP.2 ∧ KX base p w wT rP.1 B' m' d' rP.1 (wX y ++ []) [qw, q]) (cL.mono fun _ _ ⟨he, h1, h2⟩ => ⟨_, he, rfl, h1⟩) ?_
  rintro v wT ⟨rfl, hT⟩
  refine g_as hn ?_
  refine fl_end ?_
  clear hn f1 l1 cL
  subst ha
  dsimp only [fr, cnd, Act.put, cond_true]
  simp only [List.setIfInBounds_toArray, List.set_cons_zero, List.set_cons_succ]
  clear hK6 hXq6 hX6 hFy6
  (try clear hrP)
  go_wp2_with fail
  exact HQ.out hT.less
end Go.Proofs.Ytdfifcgpjeojlaa

namespace Go.Proofs.Ytdfifcgpjeojlaa
open Go.RowKit

set_option maxRecDepth 100000 in
set_option maxHeartbeats 4000000 in
theorem air_kind4 {p base q : Nat} {w w3 : World} {B : Option Addr} {m d : Nat} {a : List Pc} {x : Ap} {v0 v1 v2 v5 v9 v10 v11 v12 v13 v14 v15 v16 v17 v18 v19 v20 v21 v22 v23 v24 v25 v26 v27 v28 v29 v30 v31 v32 v33 v34 v35 v36 v37 v38 v39 v40 v41 v42 v43 v44 v46 v47 v48 v49 v50 v51 v52 v53 v54 v55 v56 v57 v58 v59 v60 v61 v62 v63 v64 v65 v66 v67 v68 v69 v70 v71 v72 v73 v74 v75 v76 v77 v78 v79 v80 v81 v82 v83 v84 v85 v86 v87 v88 v89 v90 v91 v92 v93 v94 v95 v96 v97 v98 v99 v100 v101 v102 v103 v104 v105 v106 v107 v108 v109 v110 v111 v112 v113 v114 v115 v116 v117 v118 v119 v120 v121 v122 v123 v124 v125 v126 v127 v128 v129 v130 v131 v132 v133 v134 v135 v136 v137 v138 v139 v140 v141 v142 v143 v144 v145 v146 v147 v148 v149 v150 v151 v152 v153 v154 v155 v156 v157 v158 v159 v160 v161 v162 v163 v164 v165 v166 v167 v168 v169 v170 v171 v172 v173 v174 v175 v176 v177 v178 v179 v180 v181 v182 v183 v184 v185 v186 v187 v188 v189 v190 v191 v192 v193 v194 v195 v196 v197 v198 v199 v200 v201 v202 v203 v204 v205 v206 v207 v208 v209 v210 v211 v212 v213 v214 v215 v216 v217 v218 v219 v220 v221 v222 v223 v224 v225 v226 : Value} {Q : Exit → Act → World → Prop} {code : Code} (hcode : blkOf 2 (Try.f4.body.getD .skip) = some code) (hk : x.a.k = 4) (hK3 : KX base p w w3 a B m d a [] [q]) (hX3 : Blk w3 q x.a.cells tAct) (HFx : Hid (∀ W : World, Below base w W → FlIn W x.fl)) (HFr : Hid (x.fl.b ≠ [] → ∀ ad, x.fl.A = some ad → ad.block < base)) (hn100 : x.a.n ≤ 100)
    (HQ : Hid (∀ {y2 y9 y10 y11 y12 y13 y14 y15 y16 y46 y47 y48 y49 y50 y51 y52 y53 y54 y55 y56 y57 y58 y59 y60 y61 y62 y63 y64 y65 y66 y67 y68 y69 y70 y71 y72 y73 y74 y75 y76 y77 y78 y79 y80 y81 y82 y83 y84 y85 y86 y87 y88 y89 y90 y91 y92 y93 y94 y95 y96 y97 y98 y99 y100 y101 y102 y103 y104 y105 y106 y107 y108 y109 y110 y111 y112 y113 y114 y115 y116 y117 y118 y119 y120 y121 y122 y123 y124 y125 y126 y127 y128 y129 y130 y131 y132 y133 y134 y135 y136 y137 y138 y139 y140 y141 y142 y143 y144 y145 y146 y147 y148 y149 y150 y151 y152 y153 y154 y155 y156 y157 y158 y159 y160 y161 y162 y163 y164 y165 : Value} {wx : World} {B' : Option Addr} {m' d' : Nat} {aT : List Pc} {zE : Int}, KX base p w wx aT B' m' d' aT [] [] → Q .normal ⟨List.toArray (v0 :: v1 :: (y2) :: (.pointer (some ⟨p, 0, none⟩)) :: (.slice B' m' d') :: v5 :: (.pointer (some ⟨q, 0, none⟩)) :: (.int .i64 zE) :: (.int .i64 zE) :: (y9) :: (y10) :: (y11) :: (y12) :: (y13) :: (y14) :: (y15) :: (y16) :: v17 :: v18 :: v19 :: v20 :: v21 :: v22 :: v23 :: v24 :: v25 :: v26 :: v27 :: v28 :: v29 :: v30 :: v31 :: v32 :: v33 :: v34 :: v35 :: v36 :: v37 :: v38 :: v39 :: v40 :: v41 :: v42 :: v43 :: v44 :: (.int .i64 x.a.k) :: (y46) :: (y47) :: (y48) :: (y49) :: (y50) :: (y51) :: (y52) :: (y53) :: (y54) :: (y55) :: (y56) :: (y57) :: (y58) :: (y59) :: (y60) :: (y61) :: (y62) :: (y63) :: (y64) :: (y65) :: (y66) :: (y67) :: (y68) :: (y69) :: (y70) :: (y71) :: (y72) :: (y73) :: (y74) :: (y75) :: (y76) :: (y77) :: (y78) :: (y79) :: (y80) :: (y81) :: (y82) :: (y83) :: (y84) :: (y85) :: (y86) :: (y87) :: (y88) :: (y89) :: (y90) :: (y91) :: (y92) :: (y93) :: (y94) :: (y95) :: (y96) :: (y97) :: (y98) :: (y99) :: (y100) :: (y101) :: (y102) :: (y103) :: (y104) :: (y105) :: (y106) :: (y107) :: (y108) :: (y109) :: (y110) :: (y111) :: (y112) :: (y113) :: (y114) :: (y115) :: (y116) :: (y117) :: (y118) :: (y119) :: (y120) :: (y121) :: (y122) :: (y123) :: (y124) :: (y125) :: (y126) :: (y127) :: (y128) :: (y129) :: (y130) :: (y131) :: (y132) :: (y133) :: (y134) :: (y135) :: (y136) :: (y137) :: (y138) :: (y139) :: (y140) :: (y141) :: (y142) :: (y143) :: (y144) :: (y145) :: (y146) :: (y147) :: (y148) :: (y149) :: (y150) :: (y151) :: (y152) :: (y153) :: (y154) :: (y155) :: (y156) :: (y157) :: (y158) :: (y159) :: (y160) :: (y161) :: (y162) :: (y163) :: (y164) :: (y165) :: v166 :: v167 :: v168 :: v169 :: v170 :: v171 :: v172 :: v173 :: v174 :: v175 :: v176 :: v177 :: v178 :: v179 :: v180 :: v181 :: v182 :: v183 :: v184 :: v185 :: v186 :: v187 :: v188 :: v189 :: v190 :: v191 :: v192 :: v193 :: v194 :: v195 :: v196 :: v197 :: v198 :: v199 :: v200 :: v201 :: v202 :: v203 :: v204 :: v205 :: v206 :: v207 :: v208 :: v209 :: v210 :: v211 :: v212 :: v213 :: v214 :: v215 :: v216 :: v217 :: v218 :: v219 :: v220 :: v221 :: v222 :: v223 :: v224 :: v225 :: v226 :: []), []⟩ wx)) : Code.wp Try.prog code Q ⟨List.toArray (v0 :: v1 :: v2 :: (.pointer (some ⟨p, 0, none⟩)) :: (.slice B m d) :: v5 :: (.pointer (some ⟨q, 0, none⟩)) :: (.int .i64 0) :: (.int .i64 0) :: v9 :: v10 :: v11 :: v12 :: v13 :: v14 :: v15 :: v16 :: v17 :: v18 :: v19 :: v20 :: v21 :: v22 :: v23 :: v24 :: v25 :: v26 :: v27 :: v28 :: v29 :: v30 :: v31 :: v32 :: v33 :: v34 :: v35 :: v36 :: v37 :: v38 :: v39 :: v40 :: v41 :: v42 :: v43 :: v44 :: (.int .i64 x.a.k) :: v46 :: v47 :: v48 :: v49 :: v50 :: v51 :: v52 :: v53 :: v54 :: v55 :: v56 :: v57 :: v58 :: v59 :: v60 :: v61 :: v62 :: v63 :: v64 :: v65 :: v66 :: v67 :: v68 :: v69 :: v70 :: v71 :: v72 :: v73 :: v74 :: v75 :: v76 :: v77 :: v78 :: v79 :: v80 :: v81 :: v82 :: v83 :: v84 :: v85 :: v86 :: v87 :: v88 :: v89 :: v90 :: v91 :: v92 :: v93 :: v94 :: v95 :: v96 :: v97 :: v98 :: v99 :: v100 :: v101 :: v102 :: v103 :: v104 :: v105 :: v106 :: v107 :: v108 :: v109 :: v110 :: v111 :: v112 :: v113 :: v114 :: v115 :: v116 :: v117 :: v118 :: v119 :: v120 :: v121 :: v122 :: v123 :: v124 :: v125 :: v126 :: v127 :: v128 :: v129 :: v130 :: v131 :: v132 :: v133 :: v134 :: v135 :: v136 :: v137 :: v138 :: v139 :: v140 :: v141 :: v142 :: v143 :: v144 :: v145 :: v146 :: v147 :: v148 :: v149 :: v150 :: v151 :: v152 :: v153 :: v154 :: v155 :: v156 :: v157 :: v158 :: v159 :: v160 :: v161 :: v162 :: v163 :: v164 :: v165 :: v166 :: v167 :: v168 :: v169 :: v170 :: v171 :: v172 :: v173 :: v174 :: v175 :: v176 :: v177 :: v178 :: v179 :: v180 :: v181 :: v182 :: v183 :: v184 :: v185 :: v186 :: v187 :: v188 :: v189 :: v190 :: v191 :: v192 :: v193 :: v194 :: v195 :: v196 :: v197 :: v198 :: v199 :: v200 :: v201 :: v202 :: v203 :: v204 :: v205 :: v206 :: v207 :: v208 :: v209 :: v210 :: v211 :: v212 :: v213 :: v214 :: v215 :: v216 :: v217 :: v218 :: v219 :: v220 :: v221 :: v222 :: v223 :: v224 :: v225 :: v226 :: []), []⟩ w3 := by
  injection hcode with hcode
  subst hcode
  have e1 : (x.a.k == 1) = false := by rw [hk]; rfl
  have e2 : (x.a.k == 2) = false := by rw [hk]; rfl
  have e3 : (x.a.k == 3) = false := by rw [hk]; rfl
  have e4 : (x.a.k == 4) = true := by rw [hk]; rfl
  have H4 := Lib.hid hk
  clear hk
  go_upto_region 11 with fail
  refine wp_region_lit ?_
  refine fl_start ?_
  generalize ha : Act.mk _ _ = a0
  have hn : a0.tmps.size = 227 := by rw [← ha]; kernel_rfl
  have h45 : (fr a0 []).eval (.tmp 45) = .int .i64 x.a.k := by rw [← ha]; kernel_rfl
  refine fl_know hn rfl h45 ?_
  clear h45
  refine g_eql hn ?_
  refine g_as hn ?_
  refine fl_end ?_
  clear hn
  subst ha
  dsimp only [fr, cnd, Act.put, cond_true]
  simp only [List.setIfInBounds_toArray, List.set_cons_zero, List.set_cons_succ]
  simp only [e1]
  go_upto_region 21 with fail
  refine wp_region_lit ?_
  refine fl_start ?_
  generalize ha : Act.mk _ _ = a0
  have hn : a0.tmps.size = 227 := by rw [← ha]; kernel_rfl
  have h45 : (fr a0 []).eval (.tmp 45) = .int .i64 x.a.k := by rw [← ha]; kernel_rfl
  refine fl_know hn rfl h45 ?_
  clear h45
  refine g_eql hn ?_
  refine g_as hn ?_
  refine fl_end ?_
  clear hn
  subst ha
  dsimp only [fr, cnd, Act.put, cond_true]
  simp only [List.setIfInBounds_toArray, List.set_cons_zero, List.set_cons_succ]
  simp only [e2]
  go_upto_region 22 with fail
  refine wp_region_lit ?_
  refine fl_start ?_
  generalize ha : Act.mk _ _ = a0
  have hn : a0.tmps.size = 227 := by rw [← ha]; kernel_rfl
  have h45 : (fr a0 []).eval (.tmp 45) = .int .i64 x.a.k := by rw [← ha]; kernel_rfl
  refine fl_know hn rfl h45 ?_
  clear h45
  refine g_eql hn ?_
  refine g_as hn ?_
  refine fl_end ?_
  clear hn
  subst ha
  dsimp only [fr, cnd, Act.put, cond_true]
  simp only [List.setIfInBounds_toArray, List.set_cons_zero, List.set_cons_succ]
  simp only [e3]
  go_upto_region 31 with fail
  refine wp_region_lit ?_
  refine fl_start ?_
  generalize ha : Act.mk _ _ = a0
  have hn : a0.tmps.size = 227 := by rw [← ha]; kernel_rfl
  have h45 : (fr a0 []).eval (.tmp 45) = .int .i64 x.a.k := by rw [← ha]; kernel_rfl
  refine fl_know hn rfl h45 ?_
  clear h45
  refine g_eql hn ?_
  refine g_as hn ?_
  refine fl_end ?_
  clear hn
  subst ha
  dsimp only [fr, cnd, Act.put, cond_true]
  simp only [List.setIfInBounds_toArray, List.set_cons_zero, List.set_cons_succ]
  simp only [e4]
  obtain ⟨rP, hrP⟩ : ∃ r, r = dblP a x.a.i := ⟨_, rfl⟩
  have f1 := acf1 w3 q
  have l1 := ld_in (hX3.cell 1)
  have cD := kx_double hK3 x.a.i
  rw [← hrP] at cD
  go_upto_region 32 with fail
  refine wp_region_lit ?_
  refine fl_start ?_
  generalize ha : Act.mk _ _ = a0
  have hn : a0.tmps.size = 227 := by rw [← ha]; kernel_rfl
  have h3 : (fr a0 []).eval (.tmp 3) = .pointer (some ⟨p, 0, none⟩) := by rw [← ha]; kernel_rfl
  refine fl_know hn rfl h3 ?_
  clear h3
  have h6 : (fr a0 [(3, true, .pointer (some ⟨p, 0, none⟩))]).eval (.tmp 6) = .pointer (some ⟨q, 0, none⟩) := by rw [← ha]; kernel_rfl
  refine fl_know hn rfl h6 ?_
  clear h6
  refine g_mv hn ?_
  refine g_fd hn ?_
  refine g_ld hn ?_
  refine g_c2x en_spinney_air_Air_Double hn (R := fun v w4 => v = .int .i64 rP.2 ∧ KX base p w w4 rP.1 B m d a [] [q] ∧ KeepX [] [q] w3 w4) (cD.mono fun _ _ ⟨he, h1, h2⟩ => ⟨_, he, rfl, h1, h2⟩) ?_
  rintro v w4 ⟨rfl, hK4, hKp4⟩
  refine g_as hn ?_
  refine fl_end ?_
  clear hn f1 l1 cD
  subst ha
  dsimp only [fr, cnd, Act.put, cond_true]
  simp only [List.setIfInBounds_toArray, List.set_cons_zero, List.set_cons_succ]
  have hXq4 := hKp4.blk (List.mem_singleton_self q) hX3
  clear hX3 hK3 hKp4
  have f1 := acf1 w4 q
  have l1 := ld_in (hXq4.cell 1)
  have cR := kr_double hK4 x.a.i
  rw [← hrP] at cR
  go_upto_region 33 with fail
  refine wp_region_lit ?_
  refine fl_start ?_
  generalize ha : Act.mk _ _ = a0
  have hn : a0.tmps.size = 227 := by rw [← ha]; kernel_rfl
  have h4 : (fr a0 []).eval (.tmp 4) = .slice B m d := by rw [← ha]; kernel_rfl
  refine fl_know hn rfl h4 ?_
  clear h4
  have h6 : (fr a0 [(4, true, .slice B m d)]).eval (.tmp 6) = .pointer (some ⟨q, 0, none⟩) := by rw [← ha]; kernel_rfl
  refine fl_know hn rfl h6 ?_
  clear h6
  refine g_mv hn ?_
  refine g_fd hn ?_
  refine g_ld hn ?_
  refine g_c2x en_spinney_spinneyref22_Double hn (R := fun v wT => ∃ (B' : Option Addr) (m' d' : Nat), v = .tuple #[.slice B' m' d', .int .i64 rP.2] ∧ KX base p w wT rP.1 B' m' d' rP.1 [] [q]) (cR.mono fun _ _ ⟨B', m', d', he, h1, h2⟩ => ⟨_, he, B', m', d', rfl, h1⟩) ?_
  rintro v wT ⟨B', m', d', rfl, hT⟩
  refine g_mv hn ?_
  refine g_ex hn ?_
  refine g_ex hn ?_
  refine g_as hn ?_
  refine g_as hn ?_
  refine fl_end ?_
  clear hn f1 l1 cR
  subst ha
  dsimp only [fr, cnd, Act.put, cond_true]
  simp only [List.setIfInBounds_toArray, List.set_cons_zero, List.set_cons_succ]
  clear hK4 hXq4
  (try clear hrP)
  go_wp2_with fail
  exact HQ.out hT.less
end Go.Proofs.Ytdfifcgpjeojlaa
