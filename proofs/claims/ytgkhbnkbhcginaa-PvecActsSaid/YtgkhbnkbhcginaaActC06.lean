/- PvecActs' walk: one more, one fewer, one that is owned no more -/
import Derived.Test.YtgkhbnkbhcginaaReg06
import Derived.Test.YtgkhbnkbhcginaaDelete06
import Derived.Test.YtgkhbnkbhcginaaDoes06
import Derived.Test.YtgkhbnkbhcginaaFits06
import Derived.Deep.RegionHeldLaw
import Derived.Deep.RegionHeld3
import Derived.Deep.RegionWith
import Derived.Deep.CutRange
import Derived.Deep.CutBlock
namespace Go.Proofs.Ytgkhbnkbhcginaa
set_option maxRecDepth 100000
set_option linter.unusedSimpArgs false
set_option linter.unusedVariables false
open Go.RowKit

set_option maxHeartbeats 100000000 in
set_option linter.unusedVariables false in
theorem act_k3 (w2 wx : World) (za xb g cp j k : Nat) (la : Int) (a : Ac) (l : List Ac) (E : List En) (M : Cells) (F : Nat → Prop) (e : En) (hin : In6 w2 wx w2.heap.size za xb a g cp E.length (2 * sumN (l.take j) + 602 * j) M F E) (he : E[k]? = some e) (hE : 1 ≤ E.length ∧ E.length ≤ 13)
    (hk0 : k < E.length) (hla0 : 0 ≤ la) (hla1 : la ≤ j) (hz0 : w2.heap.size ≤ za) (hlen : l.length ≤ 60) (h1 : j < l.length) (hsum : sumN l ≤ 3000) (hat : l[j]? = some a) (hfa : a.Fits) (hkd : a.kd.tmod 7 = 3) (c : Code) (hc : Try.f3.body.bind (Code.blk 2) = some c)
    (u0 u1 u2 u4 u7 u11 u12 u13 u14 u15 u16 u17 u18 u19 u20 u21 u22 u23 u24 u25 u26 u27 u28 u29 u30 u31 u32 u33 u34 u35 u36 u37 u38 u39 u40 u41 u42 u43 u44 u45 u46 u47 u48 u49 u50 u51 u52 u53 u54 u55 u56 u58 u59 u60 u61 u62 u63 u64 u65 u66 u67 u68 u69 u70 u71 u72 u73 u74 u75 u76 u77 u78 u79 u80 u81 u82 u83 u84 u85 u86 u87 u88 u89 u90 u91 u92 u93 u94 u95 u96 u97 u98 u99 u100 u101 u102 u103 u104 u105 u106 u107 u108 u109 u110 u111 u112 u113 u114 u115 u116 u117 u118 u119 u120 u121 u122 u123 u124 u125 u126 u127 u128 u129 u130 u131 u132 u133 u134 u135 u136 u137 u138 u139 u140 u141 u142 u143 u144 u145 u146 u147 u148 u149 u150 u151 u152 u153 u154 u155 u156 u157 u158 u159 u160 u161 u162 u163 u164 u165 u166 u167 u168 u169 u170 u171 u172 u173 u174 u175 u176 u177 u178 u179 u180 u181 u182 u183 u184 u185 u186 u187 u188 u189 u190 u191 u192 u193 u194 u195 u196 u197 u198 u199 u200 u201 u202 u203 u204 u205 u206 u207 u208 u209 u210 u211 u212 u213 u214 u215 u216 u217 u218 u219 u220 u221 u222 u223 u224 u225 u226 u227 u228 u229 u230 u231 u232 u233 u234 u235 u236 u237 u238 u239 u240 u241 u242 u243 u244 u245 u246 u247 u248 u249 u250 u251 u252 u253 u254 u255 u256 u257 u258 u259 u260 u261 u262 u263 u264 u265 u266 u267 : Value) (Q : Exit → Act → World → Prop)
    (hQ : ∀ (v2 v5 v6 v10 v11 v12 v13 v14 v15 v16 v17 v18 v19 v20 v57 v58 v59 v60 v61 v62 v63 v64 v65 v66 v67 v68 v69 v70 v71 v72 v73 v74 v75 v76 v77 v78 v79 v80 v81 v82 v83 v84 v85 v86 v87 v88 v89 v90 v91 v92 v93 v94 v95 v96 v97 v98 v99 v100 v101 v102 v103 v104 v105 v106 v107 v108 v109 v110 v111 v112 v113 v114 v115 v116 v117 v118 v119 v120 v121 v122 v123 v124 v125 v126 v127 v128 v129 v130 v131 v132 v133 v134 v135 v136 v137 v138 v139 v140 v141 v142 v143 v144 v145 v146 v147 v148 v149 v150 v151 v152 v153 v154 v155 v156 v157 v158 v159 v160 v161 v162 v163 v164 v165 v166 v167 v168 v169 v170 v171 v172 v173 v174 v175 v176 v177 v178 v179 v180 v181 v182 v183 v184 v185 v186 v187 v188 v189 v190 v191 v192 v193 v194 v195 v196 v197 v198 v199 v200 v201 v202 v203 v204 v205 v206 v207 v208 v209 v210 v211 v212 v213 v214 v215 v216 v217 v218 v219 v220 v221 v222 v223 v224 v225 v226 v227 v228 v229 v230 v231 v232 v233 v234 v235 v236 : Value) (W : World), (v10 = .bool true ∧ W.cell? ⟨xb, 2, none⟩ = some (.int .i64 a.n) ∧ ∃ la' : Int, v6 = .int .u32 la' ∧ 0 ≤ la' ∧ la' ≤ (j + 1 : Nat) ∧ Mid w2 w2.heap.size za l (j + 1) v5 W) → Q .normal ⟨#[u0, u1, v2, .pointer (some ⟨za, 0, none⟩), u4, v5, v6, u7, .pointer (some ⟨xb, 0, none⟩), .int .i64 (k : Nat), v10, v11, v12, v13, v14, v15, v16, v17, v18, v19, v20, u21, u22, u23, u24, u25, u26, u27, u28, u29, u30, u31, u32, u33, u34, u35, u36, u37, u38, u39, u40, u41, u42, u43, u44, u45, u46, u47, u48, u49, u50, u51, u52, u53, u54, u55, u56, v57, v58, v59, v60, v61, v62, v63, v64, v65, v66, v67, v68, v69, v70, v71, v72, v73, v74, v75, v76, v77, v78, v79, v80, v81, v82, v83, v84, v85, v86, v87, v88, v89, v90, v91, v92, v93, v94, v95, v96, v97, v98, v99, v100, v101, v102, v103, v104, v105, v106, v107, v108, v109, v110, v111, v112, v113, v114, v115, v116, v117, v118, v119, v120, v121, v122, v123, v124, v125, v126, v127, v128, v129, v130, v131, v132, v133, v134, v135, v136, v137, v138, v139, v140, v141, v142, v143, v144, v145, v146, v147, v148, v149, v150, v151, v152, v153, v154, v155, v156, v157, v158, v159, v160, v161, v162, v163, v164, v165, v166, v167, v168, v169, v170, v171, v172, v173, v174, v175, v176, v177, v178, v179, v180, v181, v182, v183, v184, v185, v186, v187, v188, v189, v190, v191, v192, v193, v194, v195, v196, v197, v198, v199, v200, v201, v202, v203, v204, v205, v206, v207, v208, v209, v210, v211, v212, v213, v214, v215, v216, v217, v218, v219, v220, v221, v222, v223, v224, v225, v226, v227, v228, v229, v230, v231, v232, v233, v234, v235, v236, u237, u238, u239, u240, u241, u242, u243, u244, u245, u246, u247, u248, u249, u250, u251, u252, u253, u254, u255, u256, u257, u258, u259, u260, u261, u262, u263, u264, u265, u266, u267], []⟩ W)
    (hX : ∀ (v2 v10 v11 v12 v13 v14 v15 v16 v17 v18 v19 v20 v57 v58 v59 v60 v61 v62 v63 v64 v65 v66 v67 v68 v69 v70 v71 v72 v73 v74 v75 v76 v77 v78 v79 v80 v81 v82 v83 v84 v85 v86 v87 v88 v89 v90 v91 v92 v93 v94 v95 v96 v97 v98 v99 v100 v101 v102 v103 v104 v105 v106 v107 v108 v109 v110 v111 v112 v113 v114 v115 v116 v117 v118 v119 v120 v121 v122 v123 v124 v125 v126 v127 v128 v129 v130 v131 v132 v133 v134 v135 v136 v137 v138 v139 v140 v141 v142 v143 v144 v145 v146 v147 v148 v149 v150 v151 v152 v153 v154 v155 v156 v157 v158 v159 v160 v161 v162 v163 v164 v165 v166 v167 v168 v169 v170 v171 v172 v173 v174 v175 v176 v177 v178 v179 v180 v181 v182 v183 v184 v185 v186 v187 v188 v189 v190 v191 v192 v193 v194 v195 v196 v197 v198 v199 v200 v201 v202 v203 v204 v205 v206 v207 v208 v209 v210 v211 v212 v213 v214 v215 v216 v217 v218 v219 v220 v221 v222 v223 v224 v225 v226 v227 v228 v229 v230 v231 v232 v233 v234 v235 v236 : Value) (W : World), Mid w2 w2.heap.size za l (j + 1) (.slice (some ⟨g, 0, none⟩) E.length cp) W → Q (.exit 1) ⟨#[u0, u1, v2, .pointer (some ⟨za, 0, none⟩), u4, .slice (some ⟨g, 0, none⟩) E.length cp, .int .u32 la, u7, .pointer (some ⟨xb, 0, none⟩), .int .i64 (k : Nat), v10, v11, v12, v13, v14, v15, v16, v17, v18, v19, v20, u21, u22, u23, u24, u25, u26, u27, u28, u29, u30, u31, u32, u33, u34, u35, u36, u37, u38, u39, u40, u41, u42, u43, u44, u45, u46, u47, u48, u49, u50, u51, u52, u53, u54, u55, u56, v57, v58, v59, v60, v61, v62, v63, v64, v65, v66, v67, v68, v69, v70, v71, v72, v73, v74, v75, v76, v77, v78, v79, v80, v81, v82, v83, v84, v85, v86, v87, v88, v89, v90, v91, v92, v93, v94, v95, v96, v97, v98, v99, v100, v101, v102, v103, v104, v105, v106, v107, v108, v109, v110, v111, v112, v113, v114, v115, v116, v117, v118, v119, v120, v121, v122, v123, v124, v125, v126, v127, v128, v129, v130, v131, v132, v133, v134, v135, v136, v137, v138, v139, v140, v141, v142, v143, v144, v145, v146, v147, v148, v149, v150, v151, v152, v153, v154, v155, v156, v157, v158, v159, v160, v161, v162, v163, v164, v165, v166, v167, v168, v169, v170, v171, v172, v173, v174, v175, v176, v177, v178, v179, v180, v181, v182, v183, v184, v185, v186, v187, v188, v189, v190, v191, v192, v193, v194, v195, v196, v197, v198, v199, v200, v201, v202, v203, v204, v205, v206, v207, v208, v209, v210, v211, v212, v213, v214, v215, v216, v217, v218, v219, v220, v221, v222, v223, v224, v225, v226, v227, v228, v229, v230, v231, v232, v233, v234, v235, v236, u237, u238, u239, u240, u241, u242, u243, u244, u245, u246, u247, u248, u249, u250, u251, u252, u253, u254, u255, u256, u257, u258, u259, u260, u261, u262, u263, u264, u265, u266, u267], []⟩ W) :
    Code.wp Try.prog c Q ⟨#[u0, u1, u2, .pointer (some ⟨za, 0, none⟩), u4, .slice (some ⟨g, 0, none⟩) E.length cp, .int .u32 la, u7, .pointer (some ⟨xb, 0, none⟩), .int .i64 (k : Nat), .bool true, u11, u12, u13, u14, u15, u16, u17, u18, u19, u20, u21, u22, u23, u24, u25, u26, u27, u28, u29, u30, u31, u32, u33, u34, u35, u36, u37, u38, u39, u40, u41, u42, u43, u44, u45, u46, u47, u48, u49, u50, u51, u52, u53, u54, u55, u56, .int .u8 (a.kd.tmod 7), u58, u59, u60, u61, u62, u63, u64, u65, u66, u67, u68, u69, u70, u71, u72, u73, u74, u75, u76, u77, u78, u79, u80, u81, u82, u83, u84, u85, u86, u87, u88, u89, u90, u91, u92, u93, u94, u95, u96, u97, u98, u99, u100, u101, u102, u103, u104, u105, u106, u107, u108, u109, u110, u111, u112, u113, u114, u115, u116, u117, u118, u119, u120, u121, u122, u123, u124, u125, u126, u127, u128, u129, u130, u131, u132, u133, u134, u135, u136, u137, u138, u139, u140, u141, u142, u143, u144, u145, u146, u147, u148, u149, u150, u151, u152, u153, u154, u155, u156, u157, u158, u159, u160, u161, u162, u163, u164, u165, u166, u167, u168, u169, u170, u171, u172, u173, u174, u175, u176, u177, u178, u179, u180, u181, u182, u183, u184, u185, u186, u187, u188, u189, u190, u191, u192, u193, u194, u195, u196, u197, u198, u199, u200, u201, u202, u203, u204, u205, u206, u207, u208, u209, u210, u211, u212, u213, u214, u215, u216, u217, u218, u219, u220, u221, u222, u223, u224, u225, u226, u227, u228, u229, u230, u231, u232, u233, u234, u235, u236, u237, u238, u239, u240, u241, u242, u243, u244, u245, u246, u247, u248, u249, u250, u251, u252, u253, u254, u255, u256, u257, u258, u259, u260, u261, u262, u263, u264, u265, u266, u267], []⟩ wx := by
  rw [show Try.f3.body.bind (Code.blk 2) = some _ from rfl] at hc
  obtain rfl := Option.some.inj hc
  clear hc
  have HIN := Lib.hid hin
  have HE := Lib.hid he
  have HEE := Lib.hid hE
  have HQ := Lib.hid hQ
  have HX := Lib.hid hX
  have HTK := Lib.hid (sumN_next hat)
  have HB0 := Lib.hid (show sumN (l.take j) ≤ 3000 from Nat.le_trans (sumN_take_le l j) hsum)
  have hz := HIN.out.ca
  have x0 := HIN.out.x0
  have x2 := HIN.out.x2
  have x3 := HIN.out.x3
  have x4 := HIN.out.x4
  have x5 := HIN.out.x5
  have y5 : (0 : Int) ≤ (k : Int) := by omega
  have y6 : (k : Int) < (E.length : Int) := by omega
  have hE1 : 1 ≤ E.length := hE.1
  have hE2 : E.length ≤ 13 := hE.2
  clear hin he hE hQ hX hsum hat hfa
  have r5 := row5 HIN.out.wd.all HE.out
  obtain ⟨a0, _⟩ := r5 0 _ (by decide) rfl
  obtain ⟨a1, _⟩ := r5 1 _ (by decide) rfl
  obtain ⟨a2, _⟩ := r5 2 _ (by decide) rfl
  obtain ⟨a3, _⟩ := r5 3 _ (by decide) rfl
  obtain ⟨a4, _⟩ := r5 4 _ (by decide) rfl
  rw [Nat.add_zero] at a0
  have hm := List.mem_of_getElem? HE.out
  have HR := Lib.hid (HIN.out.wd.row e hm)
  obtain ⟨A5, c5, e5, _⟩ := HR.out.form
  obtain ⟨⟨vn, vr, vt⟩, l5, s5, ow⟩ := e
  simp only at e5
  subst e5
  simp only at a0 a1 a2 a3 a4
  clear r5 hm
  go_upto_region 46 with fail
  by_cases how : ow = 0
  · subst how
    by_cases h12 : (12 : Int) < (E.length : Int)
    · go_wp2_with fail
      exact HX.out _ _ _ _ _ _ _ _ _ _ _ _ _ _ _ _ _ _ _ _ _ _ _ _ _ _ _ _ _ _ _ _ _ _ _ _ _ _ _ _ _ _ _ _ _ _ _ _ _ _ _ _ _ _ _ _ _ _ _ _ _ _ _ _ _ _ _ _ _ _ _ _ _ _ _ _ _ _ _ _ _ _ _ _ _ _ _ _ _ _ _ _ _ _ _ _ _ _ _ _ _ _ _ _ _ _ _ _ _ _ _ _ _ _ _ _ _ _ _ _ _ _ _ _ _ _ _ _ _ _ _ _ _ _ _ _ _ _ _ _ _ _ _ _ _ _ _ _ _ _ _ _ _ _ _ _ _ _ _ _ _ _ _ _ _ _ _ _ _ _ _ _ _ _ _ _ _ _ _ _ _ _ _ _ _ _ _ _ _ _ _ _ _ ((HIN.out.below ((Below.refl _ wx).alloc (Nat.le_refl _) _)).mid HEE.out.1 HEE.out.2 (by rw [HTK.out]; omega) hz0)
    · obtain ⟨wy, hwy⟩ : ∃ wy, wy = wx.alloc (.cells #[.int .i64 (vn : Int), .int .i64 (vr : Int), .int .i64 (vt : Int), .slice A5 l5.length c5, .int .u32 0] 34) := ⟨_, rfl⟩
      obtain ⟨zy, hzy⟩ : ∃ zy, zy = wx.heap.size := ⟨_, rfl⟩
      have hc5 : C5 wy zy 34 (.int .i64 (vn : Int)) (.int .i64 (vr : Int)) (.int .i64 (vt : Int)) (.slice A5 l5.length c5) (.int .u32 0) := by rw [hwy, hzy]; exact C5.new _ _ _ _ _ _ _
      have hby : Below wx.heap.size wx wy := by rw [hwy]; exact (Below.refl _ wx).alloc (Nat.le_refl _) _
      have HC5 := Lib.hid hc5
      have HBY := Lib.hid hby
      have HZY := Lib.hid hzy
      go_upto_region 48 with fail
      rw [← hwy, ← hzy]
      clear hwy hzy hby
      obtain ⟨b0, b1, b2, b3, b4, _⟩ := hc5.all
      clear hc5 a0 a1 a2 a3 a4 x0 x2 x3 x4 x5
      have hzc := (HIN.out.below HBY.out).ca
      go_wp2_with fail
      refine (keep_bk ⟨vn, vr, vt⟩ wy (HIN.out.wd.lone.ar.below HBY.out) (by decide) (holds_bound (k := k) (show E.length ≤ 1000 by have := HEE.out.2; omega)) (HIN.out.wd.lend HE.out)).mono ?_
      rintro x w6 ⟨rfl, M6, hb6, hp6, hl6, hs6⟩
      have HB6 := Lib.hid (And.intro hb6 (And.intro hp6 hl6))
      have HR6 := Lib.hid ((Rn.below HIN.out.wd.lone.ar HBY.out).stp hs6)
      have NY := Lib.hid (show ¬ Fn F wy w6 zy from fun hf => hf.elim (fun hf => by have := HIN.out.wd.lone.ar.lt hf; have := HZY.out; omega) (fun hf => by have := HC5.out.lt; have := hf.1; omega))
      have HC6 := Lib.hid (HC5.out.kp hs6.kp (fun hf => by have := HIN.out.wd.lone.ar.lt hf; have := HZY.out; omega))
      have X6 := Lib.hid (hs6.kp.cell (HIN.out.below HBY.out).x0 HIN.out.nF.2.2.1)
      have HSZ := Lib.hid (show wx.heap.size ≤ w6.heap.size from Nat.le_trans HBY.out.size hs6.kp.size)
      clear hb6 hp6 hl6 hs6 b0 b1 b2 b3 b4 hzc
      have x0 := X6.out
      obtain ⟨b0, b1, b2, b3, b4, _, _, _, _, z4⟩ := HC6.out.all
      have HC7 := Lib.hid HC6.out
      have HR7 := Lib.hid HR6.out
      obtain ⟨i1, hi1, hy0, hy1, hy2⟩ := info_parts oinfo
      have HALL := Lib.hid (show w6.ownsRow w2.heap.size 34 5 (.slice (some ⟨g, 0, none⟩) E.length cp) E.length (E.flatMap cells5) from HR7.out.kp.own HIN.out.wd.all HIN.out.wd.own)
      have HHI := Lib.hid hi1
      have HB7 := Lib.hid (show w2.heap.size ≤ w6.heap.size from Nat.le_trans HIN.out.wd.lone.bel.size HR7.out.kp.size)
      clear hi1
      go_wp2_with (at_builtin; refine wpList_append_rd rfl _ _ 35 rfl w2.heap.size 34 i1 _ 5 56 Try.underlying35 HHI.out hy0 hy1 hy2 rfl (by decide) (.slice (some ⟨g, 0, none⟩) E.length cp) E.length (E.flatMap cells5) rfl (HALL.out.alloc _) _ 1 [.int .i64 (vn : Int), .int .i64 (vr : Int), .int .i64 (vt : Int), .slice A5 l5.length c5, .int .u32 0] rfl (rd_lit5 _ _ _ _ _ _ _) rfl (by simp [Value.oneCell']) (by unfold maxLen; have := HEE.out.2; omega) (by have := HEE.out.2; omega) (by simp; have := HB7.out; omega) ?_)
      intro v2 w8 hown hgr hat
      obtain ⟨g2, cp2, rfl, _⟩ := own_form1 hown (by rw [List.length_append]; simp)
      have hcut2 : w8.ownsRow w2.heap.size 34 5 (.slice (some ⟨g2, 0, none⟩) (E.length + 1) cp2) (E.length + 1) ((E ++ [(⟨⟨vn, vr, vt⟩, l5, .slice A5 l5.length c5, 0⟩ : En)]).flatMap cells5) := by rw [List.flatMap_append]; exact hown
      have HI8 := Lib.hid (HIN.out.snoc HE.out 0 (HR7.out.mine (G := fun _ => False) ((Kp.refl _ w6).alloc _) (fun _ h => h.elim)) HB6.out.1 HB6.out.2.1 (by rw [HB6.out.2.2]; exact HIN.out.lv) hcut2 hgr (hat.imp (fun e => Option.some.inj e) (fun e => (Option.some.inj e).trans (by simp))))
      clear hown hgr hat hcut2 b0 b1 b2 b3 b4
      go_wp2_with fail
      exact HQ.out _ _ _ _ _ _ _ _ _ _ _ _ _ _ _ _ _ _ _ _ _ _ _ _ _ _ _ _ _ _ _ _ _ _ _ _ _ _ _ _ _ _ _ _ _ _ _ _ _ _ _ _ _ _ _ _ _ _ _ _ _ _ _ _ _ _ _ _ _ _ _ _ _ _ _ _ _ _ _ _ _ _ _ _ _ _ _ _ _ _ _ _ _ _ _ _ _ _ _ _ _ _ _ _ _ _ _ _ _ _ _ _ _ _ _ _ _ _ _ _ _ _ _ _ _ _ _ _ _ _ _ _ _ _ _ _ _ _ _ _ _ _ _ _ _ _ _ _ _ _ _ _ _ _ _ _ _ _ _ _ _ _ _ _ _ _ _ _ _ _ _ _ _ _ _ _ _ _ _ _ _ _ _ _ _ _ _ _ _ _ _ _ _ _ _ ⟨rfl, HI8.out.x2, la, rfl, by omega, by omega, HI8.out.mid (by omega) (by omega) (by rw [HTK.out]; omega) hz0⟩
  · go_wp2_with fail
    exact HX.out _ _ _ _ _ _ _ _ _ _ _ _ _ _ _ _ _ _ _ _ _ _ _ _ _ _ _ _ _ _ _ _ _ _ _ _ _ _ _ _ _ _ _ _ _ _ _ _ _ _ _ _ _ _ _ _ _ _ _ _ _ _ _ _ _ _ _ _ _ _ _ _ _ _ _ _ _ _ _ _ _ _ _ _ _ _ _ _ _ _ _ _ _ _ _ _ _ _ _ _ _ _ _ _ _ _ _ _ _ _ _ _ _ _ _ _ _ _ _ _ _ _ _ _ _ _ _ _ _ _ _ _ _ _ _ _ _ _ _ _ _ _ _ _ _ _ _ _ _ _ _ _ _ _ _ _ _ _ _ _ _ _ _ _ _ _ _ _ _ _ _ _ _ _ _ _ _ _ _ _ _ _ _ _ _ _ _ _ _ _ _ _ _ ((HIN.out.below ((Below.refl _ wx).alloc (Nat.le_refl _) _)).mid HEE.out.1 HEE.out.2 (by rw [HTK.out]; omega) hz0)
set_option maxHeartbeats 100000000 in
set_option linter.unusedVariables false in
theorem act_k4 (w2 wx : World) (za xb g cp j k : Nat) (la : Int) (a : Ac) (l : List Ac) (E : List En) (M : Cells) (F : Nat → Prop) (e : En) (hin : In6 w2 wx w2.heap.size za xb a g cp E.length (2 * sumN (l.take j) + 602 * j) M F E) (he : E[k]? = some e) (hE : 1 ≤ E.length ∧ E.length ≤ 13)
    (hk0 : k < E.length) (hla0 : 0 ≤ la) (hla1 : la ≤ j) (hz0 : w2.heap.size ≤ za) (hlen : l.length ≤ 60) (h1 : j < l.length) (hsum : sumN l ≤ 3000) (hat : l[j]? = some a) (hfa : a.Fits) (hkd : a.kd.tmod 7 = 4) (c : Code) (hc : Try.f3.body.bind (Code.blk 2) = some c)
    (u0 u1 u2 u4 u7 u11 u12 u13 u14 u15 u16 u17 u18 u19 u20 u21 u22 u23 u24 u25 u26 u27 u28 u29 u30 u31 u32 u33 u34 u35 u36 u37 u38 u39 u40 u41 u42 u43 u44 u45 u46 u47 u48 u49 u50 u51 u52 u53 u54 u55 u56 u58 u59 u60 u61 u62 u63 u64 u65 u66 u67 u68 u69 u70 u71 u72 u73 u74 u75 u76 u77 u78 u79 u80 u81 u82 u83 u84 u85 u86 u87 u88 u89 u90 u91 u92 u93 u94 u95 u96 u97 u98 u99 u100 u101 u102 u103 u104 u105 u106 u107 u108 u109 u110 u111 u112 u113 u114 u115 u116 u117 u118 u119 u120 u121 u122 u123 u124 u125 u126 u127 u128 u129 u130 u131 u132 u133 u134 u135 u136 u137 u138 u139 u140 u141 u142 u143 u144 u145 u146 u147 u148 u149 u150 u151 u152 u153 u154 u155 u156 u157 u158 u159 u160 u161 u162 u163 u164 u165 u166 u167 u168 u169 u170 u171 u172 u173 u174 u175 u176 u177 u178 u179 u180 u181 u182 u183 u184 u185 u186 u187 u188 u189 u190 u191 u192 u193 u194 u195 u196 u197 u198 u199 u200 u201 u202 u203 u204 u205 u206 u207 u208 u209 u210 u211 u212 u213 u214 u215 u216 u217 u218 u219 u220 u221 u222 u223 u224 u225 u226 u227 u228 u229 u230 u231 u232 u233 u234 u235 u236 u237 u238 u239 u240 u241 u242 u243 u244 u245 u246 u247 u248 u249 u250 u251 u252 u253 u254 u255 u256 u257 u258 u259 u260 u261 u262 u263 u264 u265 u266 u267 : Value) (Q : Exit → Act → World → Prop)
    (hQ : ∀ (v2 v5 v6 v10 v11 v12 v13 v14 v15 v16 v17 v18 v19 v20 v57 v58 v59 v60 v61 v62 v63 v64 v65 v66 v67 v68 v69 v70 v71 v72 v73 v74 v75 v76 v77 v78 v79 v80 v81 v82 v83 v84 v85 v86 v87 v88 v89 v90 v91 v92 v93 v94 v95 v96 v97 v98 v99 v100 v101 v102 v103 v104 v105 v106 v107 v108 v109 v110 v111 v112 v113 v114 v115 v116 v117 v118 v119 v120 v121 v122 v123 v124 v125 v126 v127 v128 v129 v130 v131 v132 v133 v134 v135 v136 v137 v138 v139 v140 v141 v142 v143 v144 v145 v146 v147 v148 v149 v150 v151 v152 v153 v154 v155 v156 v157 v158 v159 v160 v161 v162 v163 v164 v165 v166 v167 v168 v169 v170 v171 v172 v173 v174 v175 v176 v177 v178 v179 v180 v181 v182 v183 v184 v185 v186 v187 v188 v189 v190 v191 v192 v193 v194 v195 v196 v197 v198 v199 v200 v201 v202 v203 v204 v205 v206 v207 v208 v209 v210 v211 v212 v213 v214 v215 v216 v217 v218 v219 v220 v221 v222 v223 v224 v225 v226 v227 v228 v229 v230 v231 v232 v233 v234 v235 v236 : Value) (W : World), (v10 = .bool true ∧ W.cell? ⟨xb, 2, none⟩ = some (.int .i64 a.n) ∧ ∃ la' : Int, v6 = .int .u32 la' ∧ 0 ≤ la' ∧ la' ≤ (j + 1 : Nat) ∧ Mid w2 w2.heap.size za l (j + 1) v5 W) → Q .normal ⟨#[u0, u1, v2, .pointer (some ⟨za, 0, none⟩), u4, v5, v6, u7, .pointer (some ⟨xb, 0, none⟩), .int .i64 (k : Nat), v10, v11, v12, v13, v14, v15, v16, v17, v18, v19, v20, u21, u22, u23, u24, u25, u26, u27, u28, u29, u30, u31, u32, u33, u34, u35, u36, u37, u38, u39, u40, u41, u42, u43, u44, u45, u46, u47, u48, u49, u50, u51, u52, u53, u54, u55, u56, v57, v58, v59, v60, v61, v62, v63, v64, v65, v66, v67, v68, v69, v70, v71, v72, v73, v74, v75, v76, v77, v78, v79, v80, v81, v82, v83, v84, v85, v86, v87, v88, v89, v90, v91, v92, v93, v94, v95, v96, v97, v98, v99, v100, v101, v102, v103, v104, v105, v106, v107, v108, v109, v110, v111, v112, v113, v114, v115, v116, v117, v118, v119, v120, v121, v122, v123, v124, v125, v126, v127, v128, v129, v130, v131, v132, v133, v134, v135, v136, v137, v138, v139, v140, v141, v142, v143, v144, v145, v146, v147, v148, v149, v150, v151, v152, v153, v154, v155, v156, v157, v158, v159, v160, v161, v162, v163, v164, v165, v166, v167, v168, v169, v170, v171, v172, v173, v174, v175, v176, v177, v178, v179, v180, v181, v182, v183, v184, v185, v186, v187, v188, v189, v190, v191, v192, v193, v194, v195, v196, v197, v198, v199, v200, v201, v202, v203, v204, v205, v206, v207, v208, v209, v210, v211, v212, v213, v214, v215, v216, v217, v218, v219, v220, v221, v222, v223, v224, v225, v226, v227, v228, v229, v230, v231, v232, v233, v234, v235, v236, u237, u238, u239, u240, u241, u242, u243, u244, u245, u246, u247, u248, u249, u250, u251, u252, u253, u254, u255, u256, u257, u258, u259, u260, u261, u262, u263, u264, u265, u266, u267], []⟩ W)
    (hX : ∀ (v2 v10 v11 v12 v13 v14 v15 v16 v17 v18 v19 v20 v57 v58 v59 v60 v61 v62 v63 v64 v65 v66 v67 v68 v69 v70 v71 v72 v73 v74 v75 v76 v77 v78 v79 v80 v81 v82 v83 v84 v85 v86 v87 v88 v89 v90 v91 v92 v93 v94 v95 v96 v97 v98 v99 v100 v101 v102 v103 v104 v105 v106 v107 v108 v109 v110 v111 v112 v113 v114 v115 v116 v117 v118 v119 v120 v121 v122 v123 v124 v125 v126 v127 v128 v129 v130 v131 v132 v133 v134 v135 v136 v137 v138 v139 v140 v141 v142 v143 v144 v145 v146 v147 v148 v149 v150 v151 v152 v153 v154 v155 v156 v157 v158 v159 v160 v161 v162 v163 v164 v165 v166 v167 v168 v169 v170 v171 v172 v173 v174 v175 v176 v177 v178 v179 v180 v181 v182 v183 v184 v185 v186 v187 v188 v189 v190 v191 v192 v193 v194 v195 v196 v197 v198 v199 v200 v201 v202 v203 v204 v205 v206 v207 v208 v209 v210 v211 v212 v213 v214 v215 v216 v217 v218 v219 v220 v221 v222 v223 v224 v225 v226 v227 v228 v229 v230 v231 v232 v233 v234 v235 v236 : Value) (W : World), Mid w2 w2.heap.size za l (j + 1) (.slice (some ⟨g, 0, none⟩) E.length cp) W → Q (.exit 1) ⟨#[u0, u1, v2, .pointer (some ⟨za, 0, none⟩), u4, .slice (some ⟨g, 0, none⟩) E.length cp, .int .u32 la, u7, .pointer (some ⟨xb, 0, none⟩), .int .i64 (k : Nat), v10, v11, v12, v13, v14, v15, v16, v17, v18, v19, v20, u21, u22, u23, u24, u25, u26, u27, u28, u29, u30, u31, u32, u33, u34, u35, u36, u37, u38, u39, u40, u41, u42, u43, u44, u45, u46, u47, u48, u49, u50, u51, u52, u53, u54, u55, u56, v57, v58, v59, v60, v61, v62, v63, v64, v65, v66, v67, v68, v69, v70, v71, v72, v73, v74, v75, v76, v77, v78, v79, v80, v81, v82, v83, v84, v85, v86, v87, v88, v89, v90, v91, v92, v93, v94, v95, v96, v97, v98, v99, v100, v101, v102, v103, v104, v105, v106, v107, v108, v109, v110, v111, v112, v113, v114, v115, v116, v117, v118, v119, v120, v121, v122, v123, v124, v125, v126, v127, v128, v129, v130, v131, v132, v133, v134, v135, v136, v137, v138, v139, v140, v141, v142, v143, v144, v145, v146, v147, v148, v149, v150, v151, v152, v153, v154, v155, v156, v157, v158, v159, v160, v161, v162, v163, v164, v165, v166, v167, v168, v169, v170, v171, v172, v173, v174, v175, v176, v177, v178, v179, v180, v181, v182, v183, v184, v185, v186, v187, v188, v189, v190, v191, v192, v193, v194, v195, v196, v197, v198, v199, v200, v201, v202, v203, v204, v205, v206, v207, v208, v209, v210, v211, v212, v213, v214, v215, v216, v217, v218, v219, v220, v221, v222, v223, v224, v225, v226, v227, v228, v229, v230, v231, v232, v233, v234, v235, v236, u237, u238, u239, u240, u241, u242, u243, u244, u245, u246, u247, u248, u249, u250, u251, u252, u253, u254, u255, u256, u257, u258, u259, u260, u261, u262, u263, u264, u265, u266, u267], []⟩ W) :
    Code.wp Try.prog c Q ⟨#[u0, u1, u2, .pointer (some ⟨za, 0, none⟩), u4, .slice (some ⟨g, 0, none⟩) E.length cp, .int .u32 la, u7, .pointer (some ⟨xb, 0, none⟩), .int .i64 (k : Nat), .bool true, u11, u12, u13, u14, u15, u16, u17, u18, u19, u20, u21, u22, u23, u24, u25, u26, u27, u28, u29, u30, u31, u32, u33, u34, u35, u36, u37, u38, u39, u40, u41, u42, u43, u44, u45, u46, u47, u48, u49, u50, u51, u52, u53, u54, u55, u56, .int .u8 (a.kd.tmod 7), u58, u59, u60, u61, u62, u63, u64, u65, u66, u67, u68, u69, u70, u71, u72, u73, u74, u75, u76, u77, u78, u79, u80, u81, u82, u83, u84, u85, u86, u87, u88, u89, u90, u91, u92, u93, u94, u95, u96, u97, u98, u99, u100, u101, u102, u103, u104, u105, u106, u107, u108, u109, u110, u111, u112, u113, u114, u115, u116, u117, u118, u119, u120, u121, u122, u123, u124, u125, u126, u127, u128, u129, u130, u131, u132, u133, u134, u135, u136, u137, u138, u139, u140, u141, u142, u143, u144, u145, u146, u147, u148, u149, u150, u151, u152, u153, u154, u155, u156, u157, u158, u159, u160, u161, u162, u163, u164, u165, u166, u167, u168, u169, u170, u171, u172, u173, u174, u175, u176, u177, u178, u179, u180, u181, u182, u183, u184, u185, u186, u187, u188, u189, u190, u191, u192, u193, u194, u195, u196, u197, u198, u199, u200, u201, u202, u203, u204, u205, u206, u207, u208, u209, u210, u211, u212, u213, u214, u215, u216, u217, u218, u219, u220, u221, u222, u223, u224, u225, u226, u227, u228, u229, u230, u231, u232, u233, u234, u235, u236, u237, u238, u239, u240, u241, u242, u243, u244, u245, u246, u247, u248, u249, u250, u251, u252, u253, u254, u255, u256, u257, u258, u259, u260, u261, u262, u263, u264, u265, u266, u267], []⟩ wx := by
  rw [show Try.f3.body.bind (Code.blk 2) = some _ from rfl] at hc
  obtain rfl := Option.some.inj hc
  clear hc
  have HIN := Lib.hid hin
  have HE := Lib.hid he
  have HEE := Lib.hid hE
  have HQ := Lib.hid hQ
  have HX := Lib.hid hX
  have HTK := Lib.hid (sumN_next hat)
  have HB0 := Lib.hid (show sumN (l.take j) ≤ 3000 from Nat.le_trans (sumN_take_le l j) hsum)
  have hz := HIN.out.ca
  have x0 := HIN.out.x0
  have x2 := HIN.out.x2
  have x3 := HIN.out.x3
  have x4 := HIN.out.x4
  have x5 := HIN.out.x5
  have y5 : (0 : Int) ≤ (k : Int) := by omega
  have y6 : (k : Int) < (E.length : Int) := by omega
  have hE1 : 1 ≤ E.length := hE.1
  have hE2 : E.length ≤ 13 := hE.2
  clear hin he hE hQ hX hsum hat hfa
  have r5 := row5 HIN.out.wd.all HE.out
  obtain ⟨a0, _⟩ := r5 0 _ (by decide) rfl
  obtain ⟨a1, _⟩ := r5 1 _ (by decide) rfl
  obtain ⟨a2, _⟩ := r5 2 _ (by decide) rfl
  rw [Nat.add_zero] at a0
  clear r5 x0 x2 x3 x4 x5
  go_upto_region 54 with fail
  clear hkd
  by_cases h1n : (1 : Int) < (E.length : Int)
  · go_upto_region 55 with fail
    go_cut [5] from 58 to 236 (fun s5 wc => s5 = .slice (some ⟨g, 0, none⟩) E.length cp ∧ ∃ M', Bk (65536 + 1) M' [] (fun j => (holds (E.eraseIdx k)).count j) [] ∧ Keeps (fun j => (holds (E.eraseIdx k)).count j) M M' ∧ live (65536 + 1) M' ≤ live (65536 + 1) M ∧ Stp wx wc w2.heap.size 65536 M' F)
    case first =>
      have HD := Lib.hid (drop_bk e.v wx.drew (HIN.out.wd.lone.ar.below (Below.refl _ _).drew) (by decide) (holds_bound (k := k) (show E.length ≤ 1000 by have := HEE.out.2; omega)) (HIN.out.wd.lend HE.out))
      refine wp_region_noPanic ?_
      go_region_with ((go_at_call 20; refine HD.out.mono ?_; rintro x w6 ⟨rfl, M6, hb6, hk6, hl6, hs6⟩))
      all_goals
        refine NoPanic.normal ?_
        go_wp2_with fail
        go_meet
        exact ⟨rfl, M6, hb6, hk6, hl6, Stp.from (fun q hq => HIN.out.wd.lone.ar.lt hq) (Below.refl _ _).drew hs6⟩
    case rest =>
      obtain ⟨rfl, M6, hb6, hk6, hl6, hs6⟩ := hcut
      have HRN := Lib.hid (show Rn wx wc w2.heap.size 65536 M6 F (Fn F wx wc) from (Rn.below HIN.out.wd.lone.ar (Below.refl _ _)).stp hs6)
      have HBK := Lib.hid (And.intro hb6 (And.intro hk6 hl6))
      have hO := HRN.out.kp.own HIN.out.wd.all HIN.out.wd.own
      have HDEL := Lib.hid (delete_one g cp k w2.heap.size E wc (by rw [HIN.out.len] at hO; exact hO) hk0 (show E.length ≤ 1000 by have := HEE.out.2; omega) (fun e he => by
        obtain ⟨A, c, h, _⟩ := (HIN.out.wd.row e he).form
        rw [h]; rfl))
      clear hb6 hk6 hl6 hs6 hO
      have y7 : IntKind.i64.wrap ((k : Int) + 1) = (k : Int) + 1 := IntWalk.i64_in _ (by have := HEE.out.2; omega)
      go_wp2_with fail
      refine HDEL.out.mono ?_
      rintro x w7 ⟨rfl, hown, hkg⟩
      have HI2 := Lib.hid (HIN.out.erase HE.out HRN.out HBK.out.1 HBK.out.2.1 (Nat.le_trans HBK.out.2.2 HIN.out.lv) hown hkg)
      clear hown hkg
      go_wp2_with fail
      exact HQ.out _ _ _ _ _ _ _ _ _ _ _ _ _ _ _ _ _ _ _ _ _ _ _ _ _ _ _ _ _ _ _ _ _ _ _ _ _ _ _ _ _ _ _ _ _ _ _ _ _ _ _ _ _ _ _ _ _ _ _ _ _ _ _ _ _ _ _ _ _ _ _ _ _ _ _ _ _ _ _ _ _ _ _ _ _ _ _ _ _ _ _ _ _ _ _ _ _ _ _ _ _ _ _ _ _ _ _ _ _ _ _ _ _ _ _ _ _ _ _ _ _ _ _ _ _ _ _ _ _ _ _ _ _ _ _ _ _ _ _ _ _ _ _ _ _ _ _ _ _ _ _ _ _ _ _ _ _ _ _ _ _ _ _ _ _ _ _ _ _ _ _ _ _ _ _ _ _ _ _ _ _ _ _ _ _ _ _ _ _ _ _ _ _ _ _ ⟨rfl, HI2.out.x2, la, rfl, hla0, by omega, HI2.out.mid (by omega) (by have := HEE.out.2; omega) (by rw [HTK.out]; omega) hz0⟩
  · go_wp2_with fail
    exact HQ.out _ _ _ _ _ _ _ _ _ _ _ _ _ _ _ _ _ _ _ _ _ _ _ _ _ _ _ _ _ _ _ _ _ _ _ _ _ _ _ _ _ _ _ _ _ _ _ _ _ _ _ _ _ _ _ _ _ _ _ _ _ _ _ _ _ _ _ _ _ _ _ _ _ _ _ _ _ _ _ _ _ _ _ _ _ _ _ _ _ _ _ _ _ _ _ _ _ _ _ _ _ _ _ _ _ _ _ _ _ _ _ _ _ _ _ _ _ _ _ _ _ _ _ _ _ _ _ _ _ _ _ _ _ _ _ _ _ _ _ _ _ _ _ _ _ _ _ _ _ _ _ _ _ _ _ _ _ _ _ _ _ _ _ _ _ _ _ _ _ _ _ _ _ _ _ _ _ _ _ _ _ _ _ _ _ _ _ _ _ _ _ _ _ _ _ ⟨rfl, HIN.out.x2, la, rfl, hla0, by omega, HIN.out.mid HEE.out.1 HEE.out.2 (by rw [HTK.out]; omega) hz0⟩
set_option maxHeartbeats 100000000 in
set_option linter.unusedVariables false in
theorem act_k5 (w2 wx : World) (za xb g cp j k : Nat) (la : Int) (a : Ac) (l : List Ac) (E : List En) (M : Cells) (F : Nat → Prop) (e : En) (hin : In6 w2 wx w2.heap.size za xb a g cp E.length (2 * sumN (l.take j) + 602 * j) M F E) (he : E[k]? = some e) (hE : 1 ≤ E.length ∧ E.length ≤ 13)
    (hk0 : k < E.length) (hla0 : 0 ≤ la) (hla1 : la ≤ j) (hz0 : w2.heap.size ≤ za) (hlen : l.length ≤ 60) (h1 : j < l.length) (hsum : sumN l ≤ 3000) (hat : l[j]? = some a) (hfa : a.Fits) (hkd : a.kd.tmod 7 = 5) (c : Code) (hc : Try.f3.body.bind (Code.blk 2) = some c)
    (u0 u1 u2 u4 u7 u11 u12 u13 u14 u15 u16 u17 u18 u19 u20 u21 u22 u23 u24 u25 u26 u27 u28 u29 u30 u31 u32 u33 u34 u35 u36 u37 u38 u39 u40 u41 u42 u43 u44 u45 u46 u47 u48 u49 u50 u51 u52 u53 u54 u55 u56 u58 u59 u60 u61 u62 u63 u64 u65 u66 u67 u68 u69 u70 u71 u72 u73 u74 u75 u76 u77 u78 u79 u80 u81 u82 u83 u84 u85 u86 u87 u88 u89 u90 u91 u92 u93 u94 u95 u96 u97 u98 u99 u100 u101 u102 u103 u104 u105 u106 u107 u108 u109 u110 u111 u112 u113 u114 u115 u116 u117 u118 u119 u120 u121 u122 u123 u124 u125 u126 u127 u128 u129 u130 u131 u132 u133 u134 u135 u136 u137 u138 u139 u140 u141 u142 u143 u144 u145 u146 u147 u148 u149 u150 u151 u152 u153 u154 u155 u156 u157 u158 u159 u160 u161 u162 u163 u164 u165 u166 u167 u168 u169 u170 u171 u172 u173 u174 u175 u176 u177 u178 u179 u180 u181 u182 u183 u184 u185 u186 u187 u188 u189 u190 u191 u192 u193 u194 u195 u196 u197 u198 u199 u200 u201 u202 u203 u204 u205 u206 u207 u208 u209 u210 u211 u212 u213 u214 u215 u216 u217 u218 u219 u220 u221 u222 u223 u224 u225 u226 u227 u228 u229 u230 u231 u232 u233 u234 u235 u236 u237 u238 u239 u240 u241 u242 u243 u244 u245 u246 u247 u248 u249 u250 u251 u252 u253 u254 u255 u256 u257 u258 u259 u260 u261 u262 u263 u264 u265 u266 u267 : Value) (Q : Exit → Act → World → Prop)
    (hQ : ∀ (v2 v5 v6 v10 v11 v12 v13 v14 v15 v16 v17 v18 v19 v20 v57 v58 v59 v60 v61 v62 v63 v64 v65 v66 v67 v68 v69 v70 v71 v72 v73 v74 v75 v76 v77 v78 v79 v80 v81 v82 v83 v84 v85 v86 v87 v88 v89 v90 v91 v92 v93 v94 v95 v96 v97 v98 v99 v100 v101 v102 v103 v104 v105 v106 v107 v108 v109 v110 v111 v112 v113 v114 v115 v116 v117 v118 v119 v120 v121 v122 v123 v124 v125 v126 v127 v128 v129 v130 v131 v132 v133 v134 v135 v136 v137 v138 v139 v140 v141 v142 v143 v144 v145 v146 v147 v148 v149 v150 v151 v152 v153 v154 v155 v156 v157 v158 v159 v160 v161 v162 v163 v164 v165 v166 v167 v168 v169 v170 v171 v172 v173 v174 v175 v176 v177 v178 v179 v180 v181 v182 v183 v184 v185 v186 v187 v188 v189 v190 v191 v192 v193 v194 v195 v196 v197 v198 v199 v200 v201 v202 v203 v204 v205 v206 v207 v208 v209 v210 v211 v212 v213 v214 v215 v216 v217 v218 v219 v220 v221 v222 v223 v224 v225 v226 v227 v228 v229 v230 v231 v232 v233 v234 v235 v236 : Value) (W : World), (v10 = .bool true ∧ W.cell? ⟨xb, 2, none⟩ = some (.int .i64 a.n) ∧ ∃ la' : Int, v6 = .int .u32 la' ∧ 0 ≤ la' ∧ la' ≤ (j + 1 : Nat) ∧ Mid w2 w2.heap.size za l (j + 1) v5 W) → Q .normal ⟨#[u0, u1, v2, .pointer (some ⟨za, 0, none⟩), u4, v5, v6, u7, .pointer (some ⟨xb, 0, none⟩), .int .i64 (k : Nat), v10, v11, v12, v13, v14, v15, v16, v17, v18, v19, v20, u21, u22, u23, u24, u25, u26, u27, u28, u29, u30, u31, u32, u33, u34, u35, u36, u37, u38, u39, u40, u41, u42, u43, u44, u45, u46, u47, u48, u49, u50, u51, u52, u53, u54, u55, u56, v57, v58, v59, v60, v61, v62, v63, v64, v65, v66, v67, v68, v69, v70, v71, v72, v73, v74, v75, v76, v77, v78, v79, v80, v81, v82, v83, v84, v85, v86, v87, v88, v89, v90, v91, v92, v93, v94, v95, v96, v97, v98, v99, v100, v101, v102, v103, v104, v105, v106, v107, v108, v109, v110, v111, v112, v113, v114, v115, v116, v117, v118, v119, v120, v121, v122, v123, v124, v125, v126, v127, v128, v129, v130, v131, v132, v133, v134, v135, v136, v137, v138, v139, v140, v141, v142, v143, v144, v145, v146, v147, v148, v149, v150, v151, v152, v153, v154, v155, v156, v157, v158, v159, v160, v161, v162, v163, v164, v165, v166, v167, v168, v169, v170, v171, v172, v173, v174, v175, v176, v177, v178, v179, v180, v181, v182, v183, v184, v185, v186, v187, v188, v189, v190, v191, v192, v193, v194, v195, v196, v197, v198, v199, v200, v201, v202, v203, v204, v205, v206, v207, v208, v209, v210, v211, v212, v213, v214, v215, v216, v217, v218, v219, v220, v221, v222, v223, v224, v225, v226, v227, v228, v229, v230, v231, v232, v233, v234, v235, v236, u237, u238, u239, u240, u241, u242, u243, u244, u245, u246, u247, u248, u249, u250, u251, u252, u253, u254, u255, u256, u257, u258, u259, u260, u261, u262, u263, u264, u265, u266, u267], []⟩ W)
    (hX : ∀ (v2 v10 v11 v12 v13 v14 v15 v16 v17 v18 v19 v20 v57 v58 v59 v60 v61 v62 v63 v64 v65 v66 v67 v68 v69 v70 v71 v72 v73 v74 v75 v76 v77 v78 v79 v80 v81 v82 v83 v84 v85 v86 v87 v88 v89 v90 v91 v92 v93 v94 v95 v96 v97 v98 v99 v100 v101 v102 v103 v104 v105 v106 v107 v108 v109 v110 v111 v112 v113 v114 v115 v116 v117 v118 v119 v120 v121 v122 v123 v124 v125 v126 v127 v128 v129 v130 v131 v132 v133 v134 v135 v136 v137 v138 v139 v140 v141 v142 v143 v144 v145 v146 v147 v148 v149 v150 v151 v152 v153 v154 v155 v156 v157 v158 v159 v160 v161 v162 v163 v164 v165 v166 v167 v168 v169 v170 v171 v172 v173 v174 v175 v176 v177 v178 v179 v180 v181 v182 v183 v184 v185 v186 v187 v188 v189 v190 v191 v192 v193 v194 v195 v196 v197 v198 v199 v200 v201 v202 v203 v204 v205 v206 v207 v208 v209 v210 v211 v212 v213 v214 v215 v216 v217 v218 v219 v220 v221 v222 v223 v224 v225 v226 v227 v228 v229 v230 v231 v232 v233 v234 v235 v236 : Value) (W : World), Mid w2 w2.heap.size za l (j + 1) (.slice (some ⟨g, 0, none⟩) E.length cp) W → Q (.exit 1) ⟨#[u0, u1, v2, .pointer (some ⟨za, 0, none⟩), u4, .slice (some ⟨g, 0, none⟩) E.length cp, .int .u32 la, u7, .pointer (some ⟨xb, 0, none⟩), .int .i64 (k : Nat), v10, v11, v12, v13, v14, v15, v16, v17, v18, v19, v20, u21, u22, u23, u24, u25, u26, u27, u28, u29, u30, u31, u32, u33, u34, u35, u36, u37, u38, u39, u40, u41, u42, u43, u44, u45, u46, u47, u48, u49, u50, u51, u52, u53, u54, u55, u56, v57, v58, v59, v60, v61, v62, v63, v64, v65, v66, v67, v68, v69, v70, v71, v72, v73, v74, v75, v76, v77, v78, v79, v80, v81, v82, v83, v84, v85, v86, v87, v88, v89, v90, v91, v92, v93, v94, v95, v96, v97, v98, v99, v100, v101, v102, v103, v104, v105, v106, v107, v108, v109, v110, v111, v112, v113, v114, v115, v116, v117, v118, v119, v120, v121, v122, v123, v124, v125, v126, v127, v128, v129, v130, v131, v132, v133, v134, v135, v136, v137, v138, v139, v140, v141, v142, v143, v144, v145, v146, v147, v148, v149, v150, v151, v152, v153, v154, v155, v156, v157, v158, v159, v160, v161, v162, v163, v164, v165, v166, v167, v168, v169, v170, v171, v172, v173, v174, v175, v176, v177, v178, v179, v180, v181, v182, v183, v184, v185, v186, v187, v188, v189, v190, v191, v192, v193, v194, v195, v196, v197, v198, v199, v200, v201, v202, v203, v204, v205, v206, v207, v208, v209, v210, v211, v212, v213, v214, v215, v216, v217, v218, v219, v220, v221, v222, v223, v224, v225, v226, v227, v228, v229, v230, v231, v232, v233, v234, v235, v236, u237, u238, u239, u240, u241, u242, u243, u244, u245, u246, u247, u248, u249, u250, u251, u252, u253, u254, u255, u256, u257, u258, u259, u260, u261, u262, u263, u264, u265, u266, u267], []⟩ W) :
    Code.wp Try.prog c Q ⟨#[u0, u1, u2, .pointer (some ⟨za, 0, none⟩), u4, .slice (some ⟨g, 0, none⟩) E.length cp, .int .u32 la, u7, .pointer (some ⟨xb, 0, none⟩), .int .i64 (k : Nat), .bool true, u11, u12, u13, u14, u15, u16, u17, u18, u19, u20, u21, u22, u23, u24, u25, u26, u27, u28, u29, u30, u31, u32, u33, u34, u35, u36, u37, u38, u39, u40, u41, u42, u43, u44, u45, u46, u47, u48, u49, u50, u51, u52, u53, u54, u55, u56, .int .u8 (a.kd.tmod 7), u58, u59, u60, u61, u62, u63, u64, u65, u66, u67, u68, u69, u70, u71, u72, u73, u74, u75, u76, u77, u78, u79, u80, u81, u82, u83, u84, u85, u86, u87, u88, u89, u90, u91, u92, u93, u94, u95, u96, u97, u98, u99, u100, u101, u102, u103, u104, u105, u106, u107, u108, u109, u110, u111, u112, u113, u114, u115, u116, u117, u118, u119, u120, u121, u122, u123, u124, u125, u126, u127, u128, u129, u130, u131, u132, u133, u134, u135, u136, u137, u138, u139, u140, u141, u142, u143, u144, u145, u146, u147, u148, u149, u150, u151, u152, u153, u154, u155, u156, u157, u158, u159, u160, u161, u162, u163, u164, u165, u166, u167, u168, u169, u170, u171, u172, u173, u174, u175, u176, u177, u178, u179, u180, u181, u182, u183, u184, u185, u186, u187, u188, u189, u190, u191, u192, u193, u194, u195, u196, u197, u198, u199, u200, u201, u202, u203, u204, u205, u206, u207, u208, u209, u210, u211, u212, u213, u214, u215, u216, u217, u218, u219, u220, u221, u222, u223, u224, u225, u226, u227, u228, u229, u230, u231, u232, u233, u234, u235, u236, u237, u238, u239, u240, u241, u242, u243, u244, u245, u246, u247, u248, u249, u250, u251, u252, u253, u254, u255, u256, u257, u258, u259, u260, u261, u262, u263, u264, u265, u266, u267], []⟩ wx := by
  rw [show Try.f3.body.bind (Code.blk 2) = some _ from rfl] at hc
  obtain rfl := Option.some.inj hc
  clear hc
  have HIN := Lib.hid hin
  have HE := Lib.hid he
  have HEE := Lib.hid hE
  have HQ := Lib.hid hQ
  have HX := Lib.hid hX
  have HTK := Lib.hid (sumN_next hat)
  have HB0 := Lib.hid (show sumN (l.take j) ≤ 3000 from Nat.le_trans (sumN_take_le l j) hsum)
  have hz := HIN.out.ca
  have x0 := HIN.out.x0
  have x2 := HIN.out.x2
  have x3 := HIN.out.x3
  have x4 := HIN.out.x4
  have x5 := HIN.out.x5
  have y5 : (0 : Int) ≤ (k : Int) := by omega
  have y6 : (k : Int) < (E.length : Int) := by omega
  have hE1 : 1 ≤ E.length := hE.1
  have hE2 : E.length ≤ 13 := hE.2
  clear hin he hE hQ hX hsum hat hfa
  have r5 := row5 HIN.out.wd.all HE.out
  obtain ⟨a0, _⟩ := r5 0 _ (by decide) rfl
  obtain ⟨a1, _⟩ := r5 1 _ (by decide) rfl
  obtain ⟨a2, _⟩ := r5 2 _ (by decide) rfl
  obtain ⟨a3, _⟩ := r5 3 _ (by decide) rfl
  obtain ⟨a4, _⟩ := r5 4 _ (by decide) rfl
  rw [Nat.add_zero] at a0
  have hm := List.mem_of_getElem? HE.out
  have HR := Lib.hid (HIN.out.wd.row e hm)
  obtain ⟨A5, c5, e5, _⟩ := HR.out.form
  obtain ⟨⟨vn, vr, vt⟩, l5, s5, ow⟩ := e
  simp only at e5
  subst e5
  simp only at a0 a1 a2 a3 a4
  clear r5 hm
  go_upto_region 46 with fail
  by_cases how : ow = 0
  · subst how
    by_cases h12 : (12 : Int) < (E.length : Int)
    · go_wp2_with fail
      exact HX.out _ _ _ _ _ _ _ _ _ _ _ _ _ _ _ _ _ _ _ _ _ _ _ _ _ _ _ _ _ _ _ _ _ _ _ _ _ _ _ _ _ _ _ _ _ _ _ _ _ _ _ _ _ _ _ _ _ _ _ _ _ _ _ _ _ _ _ _ _ _ _ _ _ _ _ _ _ _ _ _ _ _ _ _ _ _ _ _ _ _ _ _ _ _ _ _ _ _ _ _ _ _ _ _ _ _ _ _ _ _ _ _ _ _ _ _ _ _ _ _ _ _ _ _ _ _ _ _ _ _ _ _ _ _ _ _ _ _ _ _ _ _ _ _ _ _ _ _ _ _ _ _ _ _ _ _ _ _ _ _ _ _ _ _ _ _ _ _ _ _ _ _ _ _ _ _ _ _ _ _ _ _ _ _ _ _ _ _ _ _ _ _ _ ((HIN.out.below ((Below.refl _ wx).alloc (Nat.le_refl _) _)).mid HEE.out.1 HEE.out.2 (by rw [HTK.out]; omega) hz0)
    · obtain ⟨wy, hwy⟩ : ∃ wy, wy = wx.alloc (.cells #[.int .i64 (vn : Int), .int .i64 (vr : Int), .int .i64 (vt : Int), .slice A5 l5.length c5, .int .u32 0] 34) := ⟨_, rfl⟩
      obtain ⟨zy, hzy⟩ : ∃ zy, zy = wx.heap.size := ⟨_, rfl⟩
      have hc5 : C5 wy zy 34 (.int .i64 (vn : Int)) (.int .i64 (vr : Int)) (.int .i64 (vt : Int)) (.slice A5 l5.length c5) (.int .u32 0) := by rw [hwy, hzy]; exact C5.new _ _ _ _ _ _ _
      have hby : Below wx.heap.size wx wy := by rw [hwy]; exact (Below.refl _ wx).alloc (Nat.le_refl _) _
      have HC5 := Lib.hid hc5
      have HBY := Lib.hid hby
      have HZY := Lib.hid hzy
      go_upto_region 48 with fail
      rw [← hwy, ← hzy]
      clear hwy hzy hby
      obtain ⟨b0, b1, b2, b3, b4, _⟩ := hc5.all
      clear hc5 a0 a1 a2 a3 a4 x0 x2 x3 x4 x5
      have hzc := (HIN.out.below HBY.out).ca
      go_wp2_with fail
      refine (keep_bk ⟨vn, vr, vt⟩ wy (HIN.out.wd.lone.ar.below HBY.out) (by decide) (holds_bound (k := k) (show E.length ≤ 1000 by have := HEE.out.2; omega)) (HIN.out.wd.lend HE.out)).mono ?_
      rintro x w6 ⟨rfl, M6, hb6, hp6, hl6, hs6⟩
      have HB6 := Lib.hid (And.intro hb6 (And.intro hp6 hl6))
      have HR6 := Lib.hid ((Rn.below HIN.out.wd.lone.ar HBY.out).stp hs6)
      have NY := Lib.hid (show ¬ Fn F wy w6 zy from fun hf => hf.elim (fun hf => by have := HIN.out.wd.lone.ar.lt hf; have := HZY.out; omega) (fun hf => by have := HC5.out.lt; have := hf.1; omega))
      have HC6 := Lib.hid (HC5.out.kp hs6.kp (fun hf => by have := HIN.out.wd.lone.ar.lt hf; have := HZY.out; omega))
      have X6 := Lib.hid (hs6.kp.cell (HIN.out.below HBY.out).x0 HIN.out.nF.2.2.1)
      have HSZ := Lib.hid (show wx.heap.size ≤ w6.heap.size from Nat.le_trans HBY.out.size hs6.kp.size)
      clear hb6 hp6 hl6 hs6 b0 b1 b2 b3 b4 hzc
      have x0 := X6.out
      obtain ⟨b0, b1, b2, b3, b4, _, _, _, _, z4⟩ := HC6.out.all
      go_upto_region 52 with fail
      obtain ⟨w7, hw7⟩ : ∃ w7, w7 = w6.setCell ⟨zy, 4, none⟩ (.int .u32 (la + 1)) := ⟨_, rfl⟩
      have HC7 := Lib.hid (show C5 w7 zy 34 (.int .i64 (vn : Int)) (.int .i64 (vr : Int)) (.int .i64 (vt : Int)) (.slice A5 l5.length c5) (.int .u32 (la + 1)) by rw [hw7]; exact HC6.out.set4 _)
      have HR7 := Lib.hid (show Rn wx w7 w2.heap.size 65536 M6 F (Fn F wy w6) by rw [hw7]; exact HR6.out.mine (Kp.one w6 zy 4 _) (fun q e => by rw [e]; exact ⟨Nat.le_of_eq HZY.out.symm, NY.out⟩))
      rw [← hw7]
      clear hw7 b0 b1 b2 b3 b4 z4 x0
      obtain ⟨b0, b1, b2, b3, b4, _⟩ := HC7.out.all
      obtain ⟨i1, hi1, hy0, hy1, hy2⟩ := info_parts oinfo
      have HALL := Lib.hid (show w7.ownsRow w2.heap.size 34 5 (.slice (some ⟨g, 0, none⟩) E.length cp) E.length (E.flatMap cells5) from HR7.out.kp.own HIN.out.wd.all HIN.out.wd.own)
      have HHI := Lib.hid hi1
      have HB7 := Lib.hid (show w2.heap.size ≤ w7.heap.size from Nat.le_trans HIN.out.wd.lone.bel.size HR7.out.kp.size)
      clear hi1
      go_wp2_with (at_builtin; refine wpList_append_rd rfl _ _ 35 rfl w2.heap.size 34 i1 _ 5 56 Try.underlying35 HHI.out hy0 hy1 hy2 rfl (by decide) (.slice (some ⟨g, 0, none⟩) E.length cp) E.length (E.flatMap cells5) rfl (HALL.out.alloc _) _ 1 [.int .i64 (vn : Int), .int .i64 (vr : Int), .int .i64 (vt : Int), .slice A5 l5.length c5, .int .u32 (la + 1)] rfl (rd_lit5 _ _ _ _ _ _ _) rfl (by simp [Value.oneCell']) (by unfold maxLen; have := HEE.out.2; omega) (by have := HEE.out.2; omega) (by simp; have := HB7.out; omega) ?_)
      intro v2 w8 hown hgr hat
      obtain ⟨g2, cp2, rfl, _⟩ := own_form1 hown (by rw [List.length_append]; simp)
      have hcut2 : w8.ownsRow w2.heap.size 34 5 (.slice (some ⟨g2, 0, none⟩) (E.length + 1) cp2) (E.length + 1) ((E ++ [(⟨⟨vn, vr, vt⟩, l5, .slice A5 l5.length c5, (la + 1)⟩ : En)]).flatMap cells5) := by rw [List.flatMap_append]; exact hown
      have HI8 := Lib.hid (HIN.out.snoc HE.out (la + 1) (HR7.out.mine (G := fun _ => False) ((Kp.refl _ w7).alloc _) (fun _ h => h.elim)) HB6.out.1 HB6.out.2.1 (by rw [HB6.out.2.2]; exact HIN.out.lv) hcut2 hgr (hat.imp (fun e => Option.some.inj e) (fun e => (Option.some.inj e).trans (by simp))))
      clear hown hgr hat hcut2 b0 b1 b2 b3 b4
      go_wp2_with fail
      exact HQ.out _ _ _ _ _ _ _ _ _ _ _ _ _ _ _ _ _ _ _ _ _ _ _ _ _ _ _ _ _ _ _ _ _ _ _ _ _ _ _ _ _ _ _ _ _ _ _ _ _ _ _ _ _ _ _ _ _ _ _ _ _ _ _ _ _ _ _ _ _ _ _ _ _ _ _ _ _ _ _ _ _ _ _ _ _ _ _ _ _ _ _ _ _ _ _ _ _ _ _ _ _ _ _ _ _ _ _ _ _ _ _ _ _ _ _ _ _ _ _ _ _ _ _ _ _ _ _ _ _ _ _ _ _ _ _ _ _ _ _ _ _ _ _ _ _ _ _ _ _ _ _ _ _ _ _ _ _ _ _ _ _ _ _ _ _ _ _ _ _ _ _ _ _ _ _ _ _ _ _ _ _ _ _ _ _ _ _ _ _ _ _ _ _ _ _ ⟨rfl, HI8.out.x2, la + 1, rfl, by omega, by omega, HI8.out.mid (by omega) (by omega) (by rw [HTK.out]; omega) hz0⟩
  · go_wp2_with fail
    exact HX.out _ _ _ _ _ _ _ _ _ _ _ _ _ _ _ _ _ _ _ _ _ _ _ _ _ _ _ _ _ _ _ _ _ _ _ _ _ _ _ _ _ _ _ _ _ _ _ _ _ _ _ _ _ _ _ _ _ _ _ _ _ _ _ _ _ _ _ _ _ _ _ _ _ _ _ _ _ _ _ _ _ _ _ _ _ _ _ _ _ _ _ _ _ _ _ _ _ _ _ _ _ _ _ _ _ _ _ _ _ _ _ _ _ _ _ _ _ _ _ _ _ _ _ _ _ _ _ _ _ _ _ _ _ _ _ _ _ _ _ _ _ _ _ _ _ _ _ _ _ _ _ _ _ _ _ _ _ _ _ _ _ _ _ _ _ _ _ _ _ _ _ _ _ _ _ _ _ _ _ _ _ _ _ _ _ _ _ _ _ _ _ _ _ ((HIN.out.below ((Below.refl _ wx).alloc (Nat.le_refl _) _)).mid HEE.out.1 HEE.out.2 (by rw [HTK.out]; omega) hz0)
set_option maxHeartbeats 100000000 in
set_option linter.unusedVariables false in
theorem act_k6 (w2 wx : World) (za xb g cp j k : Nat) (la : Int) (a : Ac) (l : List Ac) (E : List En) (M : Cells) (F : Nat → Prop) (e : En) (hin : In6 w2 wx w2.heap.size za xb a g cp E.length (2 * sumN (l.take j) + 602 * j) M F E) (he : E[k]? = some e) (hE : 1 ≤ E.length ∧ E.length ≤ 13)
    (hk0 : k < E.length) (hla0 : 0 ≤ la) (hla1 : la ≤ j) (hz0 : w2.heap.size ≤ za) (hlen : l.length ≤ 60) (h1 : j < l.length) (hsum : sumN l ≤ 3000) (hat : l[j]? = some a) (hfa : a.Fits) (hkd : a.kd.tmod 7 = 6) (c : Code) (hc : Try.f3.body.bind (Code.blk 2) = some c)
    (u0 u1 u2 u4 u7 u11 u12 u13 u14 u15 u16 u17 u18 u19 u20 u21 u22 u23 u24 u25 u26 u27 u28 u29 u30 u31 u32 u33 u34 u35 u36 u37 u38 u39 u40 u41 u42 u43 u44 u45 u46 u47 u48 u49 u50 u51 u52 u53 u54 u55 u56 u58 u59 u60 u61 u62 u63 u64 u65 u66 u67 u68 u69 u70 u71 u72 u73 u74 u75 u76 u77 u78 u79 u80 u81 u82 u83 u84 u85 u86 u87 u88 u89 u90 u91 u92 u93 u94 u95 u96 u97 u98 u99 u100 u101 u102 u103 u104 u105 u106 u107 u108 u109 u110 u111 u112 u113 u114 u115 u116 u117 u118 u119 u120 u121 u122 u123 u124 u125 u126 u127 u128 u129 u130 u131 u132 u133 u134 u135 u136 u137 u138 u139 u140 u141 u142 u143 u144 u145 u146 u147 u148 u149 u150 u151 u152 u153 u154 u155 u156 u157 u158 u159 u160 u161 u162 u163 u164 u165 u166 u167 u168 u169 u170 u171 u172 u173 u174 u175 u176 u177 u178 u179 u180 u181 u182 u183 u184 u185 u186 u187 u188 u189 u190 u191 u192 u193 u194 u195 u196 u197 u198 u199 u200 u201 u202 u203 u204 u205 u206 u207 u208 u209 u210 u211 u212 u213 u214 u215 u216 u217 u218 u219 u220 u221 u222 u223 u224 u225 u226 u227 u228 u229 u230 u231 u232 u233 u234 u235 u236 u237 u238 u239 u240 u241 u242 u243 u244 u245 u246 u247 u248 u249 u250 u251 u252 u253 u254 u255 u256 u257 u258 u259 u260 u261 u262 u263 u264 u265 u266 u267 : Value) (Q : Exit → Act → World → Prop)
    (hQ : ∀ (v2 v5 v6 v10 v11 v12 v13 v14 v15 v16 v17 v18 v19 v20 v57 v58 v59 v60 v61 v62 v63 v64 v65 v66 v67 v68 v69 v70 v71 v72 v73 v74 v75 v76 v77 v78 v79 v80 v81 v82 v83 v84 v85 v86 v87 v88 v89 v90 v91 v92 v93 v94 v95 v96 v97 v98 v99 v100 v101 v102 v103 v104 v105 v106 v107 v108 v109 v110 v111 v112 v113 v114 v115 v116 v117 v118 v119 v120 v121 v122 v123 v124 v125 v126 v127 v128 v129 v130 v131 v132 v133 v134 v135 v136 v137 v138 v139 v140 v141 v142 v143 v144 v145 v146 v147 v148 v149 v150 v151 v152 v153 v154 v155 v156 v157 v158 v159 v160 v161 v162 v163 v164 v165 v166 v167 v168 v169 v170 v171 v172 v173 v174 v175 v176 v177 v178 v179 v180 v181 v182 v183 v184 v185 v186 v187 v188 v189 v190 v191 v192 v193 v194 v195 v196 v197 v198 v199 v200 v201 v202 v203 v204 v205 v206 v207 v208 v209 v210 v211 v212 v213 v214 v215 v216 v217 v218 v219 v220 v221 v222 v223 v224 v225 v226 v227 v228 v229 v230 v231 v232 v233 v234 v235 v236 : Value) (W : World), (v10 = .bool true ∧ W.cell? ⟨xb, 2, none⟩ = some (.int .i64 a.n) ∧ ∃ la' : Int, v6 = .int .u32 la' ∧ 0 ≤ la' ∧ la' ≤ (j + 1 : Nat) ∧ Mid w2 w2.heap.size za l (j + 1) v5 W) → Q .normal ⟨#[u0, u1, v2, .pointer (some ⟨za, 0, none⟩), u4, v5, v6, u7, .pointer (some ⟨xb, 0, none⟩), .int .i64 (k : Nat), v10, v11, v12, v13, v14, v15, v16, v17, v18, v19, v20, u21, u22, u23, u24, u25, u26, u27, u28, u29, u30, u31, u32, u33, u34, u35, u36, u37, u38, u39, u40, u41, u42, u43, u44, u45, u46, u47, u48, u49, u50, u51, u52, u53, u54, u55, u56, v57, v58, v59, v60, v61, v62, v63, v64, v65, v66, v67, v68, v69, v70, v71, v72, v73, v74, v75, v76, v77, v78, v79, v80, v81, v82, v83, v84, v85, v86, v87, v88, v89, v90, v91, v92, v93, v94, v95, v96, v97, v98, v99, v100, v101, v102, v103, v104, v105, v106, v107, v108, v109, v110, v111, v112, v113, v114, v115, v116, v117, v118, v119, v120, v121, v122, v123, v124, v125, v126, v127, v128, v129, v130, v131, v132, v133, v134, v135, v136, v137, v138, v139, v140, v141, v142, v143, v144, v145, v146, v147, v148, v149, v150, v151, v152, v153, v154, v155, v156, v157, v158, v159, v160, v161, v162, v163, v164, v165, v166, v167, v168, v169, v170, v171, v172, v173, v174, v175, v176, v177, v178, v179, v180, v181, v182, v183, v184, v185, v186, v187, v188, v189, v190, v191, v192, v193, v194, v195, v196, v197, v198, v199, v200, v201, v202, v203, v204, v205, v206, v207, v208, v209, v210, v211, v212, v213, v214, v215, v216, v217, v218, v219, v220, v221, v222, v223, v224, v225, v226, v227, v228, v229, v230, v231, v232, v233, v234, v235, v236, u237, u238, u239, u240, u241, u242, u243, u244, u245, u246, u247, u248, u249, u250, u251, u252, u253, u254, u255, u256, u257, u258, u259, u260, u261, u262, u263, u264, u265, u266, u267], []⟩ W)
    (hX : ∀ (v2 v10 v11 v12 v13 v14 v15 v16 v17 v18 v19 v20 v57 v58 v59 v60 v61 v62 v63 v64 v65 v66 v67 v68 v69 v70 v71 v72 v73 v74 v75 v76 v77 v78 v79 v80 v81 v82 v83 v84 v85 v86 v87 v88 v89 v90 v91 v92 v93 v94 v95 v96 v97 v98 v99 v100 v101 v102 v103 v104 v105 v106 v107 v108 v109 v110 v111 v112 v113 v114 v115 v116 v117 v118 v119 v120 v121 v122 v123 v124 v125 v126 v127 v128 v129 v130 v131 v132 v133 v134 v135 v136 v137 v138 v139 v140 v141 v142 v143 v144 v145 v146 v147 v148 v149 v150 v151 v152 v153 v154 v155 v156 v157 v158 v159 v160 v161 v162 v163 v164 v165 v166 v167 v168 v169 v170 v171 v172 v173 v174 v175 v176 v177 v178 v179 v180 v181 v182 v183 v184 v185 v186 v187 v188 v189 v190 v191 v192 v193 v194 v195 v196 v197 v198 v199 v200 v201 v202 v203 v204 v205 v206 v207 v208 v209 v210 v211 v212 v213 v214 v215 v216 v217 v218 v219 v220 v221 v222 v223 v224 v225 v226 v227 v228 v229 v230 v231 v232 v233 v234 v235 v236 : Value) (W : World), Mid w2 w2.heap.size za l (j + 1) (.slice (some ⟨g, 0, none⟩) E.length cp) W → Q (.exit 1) ⟨#[u0, u1, v2, .pointer (some ⟨za, 0, none⟩), u4, .slice (some ⟨g, 0, none⟩) E.length cp, .int .u32 la, u7, .pointer (some ⟨xb, 0, none⟩), .int .i64 (k : Nat), v10, v11, v12, v13, v14, v15, v16, v17, v18, v19, v20, u21, u22, u23, u24, u25, u26, u27, u28, u29, u30, u31, u32, u33, u34, u35, u36, u37, u38, u39, u40, u41, u42, u43, u44, u45, u46, u47, u48, u49, u50, u51, u52, u53, u54, u55, u56, v57, v58, v59, v60, v61, v62, v63, v64, v65, v66, v67, v68, v69, v70, v71, v72, v73, v74, v75, v76, v77, v78, v79, v80, v81, v82, v83, v84, v85, v86, v87, v88, v89, v90, v91, v92, v93, v94, v95, v96, v97, v98, v99, v100, v101, v102, v103, v104, v105, v106, v107, v108, v109, v110, v111, v112, v113, v114, v115, v116, v117, v118, v119, v120, v121, v122, v123, v124, v125, v126, v127, v128, v129, v130, v131, v132, v133, v134, v135, v136, v137, v138, v139, v140, v141, v142, v143, v144, v145, v146, v147, v148, v149, v150, v151, v152, v153, v154, v155, v156, v157, v158, v159, v160, v161, v162, v163, v164, v165, v166, v167, v168, v169, v170, v171, v172, v173, v174, v175, v176, v177, v178, v179, v180, v181, v182, v183, v184, v185, v186, v187, v188, v189, v190, v191, v192, v193, v194, v195, v196, v197, v198, v199, v200, v201, v202, v203, v204, v205, v206, v207, v208, v209, v210, v211, v212, v213, v214, v215, v216, v217, v218, v219, v220, v221, v222, v223, v224, v225, v226, v227, v228, v229, v230, v231, v232, v233, v234, v235, v236, u237, u238, u239, u240, u241, u242, u243, u244, u245, u246, u247, u248, u249, u250, u251, u252, u253, u254, u255, u256, u257, u258, u259, u260, u261, u262, u263, u264, u265, u266, u267], []⟩ W) :
    Code.wp Try.prog c Q ⟨#[u0, u1, u2, .pointer (some ⟨za, 0, none⟩), u4, .slice (some ⟨g, 0, none⟩) E.length cp, .int .u32 la, u7, .pointer (some ⟨xb, 0, none⟩), .int .i64 (k : Nat), .bool true, u11, u12, u13, u14, u15, u16, u17, u18, u19, u20, u21, u22, u23, u24, u25, u26, u27, u28, u29, u30, u31, u32, u33, u34, u35, u36, u37, u38, u39, u40, u41, u42, u43, u44, u45, u46, u47, u48, u49, u50, u51, u52, u53, u54, u55, u56, .int .u8 (a.kd.tmod 7), u58, u59, u60, u61, u62, u63, u64, u65, u66, u67, u68, u69, u70, u71, u72, u73, u74, u75, u76, u77, u78, u79, u80, u81, u82, u83, u84, u85, u86, u87, u88, u89, u90, u91, u92, u93, u94, u95, u96, u97, u98, u99, u100, u101, u102, u103, u104, u105, u106, u107, u108, u109, u110, u111, u112, u113, u114, u115, u116, u117, u118, u119, u120, u121, u122, u123, u124, u125, u126, u127, u128, u129, u130, u131, u132, u133, u134, u135, u136, u137, u138, u139, u140, u141, u142, u143, u144, u145, u146, u147, u148, u149, u150, u151, u152, u153, u154, u155, u156, u157, u158, u159, u160, u161, u162, u163, u164, u165, u166, u167, u168, u169, u170, u171, u172, u173, u174, u175, u176, u177, u178, u179, u180, u181, u182, u183, u184, u185, u186, u187, u188, u189, u190, u191, u192, u193, u194, u195, u196, u197, u198, u199, u200, u201, u202, u203, u204, u205, u206, u207, u208, u209, u210, u211, u212, u213, u214, u215, u216, u217, u218, u219, u220, u221, u222, u223, u224, u225, u226, u227, u228, u229, u230, u231, u232, u233, u234, u235, u236, u237, u238, u239, u240, u241, u242, u243, u244, u245, u246, u247, u248, u249, u250, u251, u252, u253, u254, u255, u256, u257, u258, u259, u260, u261, u262, u263, u264, u265, u266, u267], []⟩ wx := by
  rw [show Try.f3.body.bind (Code.blk 2) = some _ from rfl] at hc
  obtain rfl := Option.some.inj hc
  clear hc
  have HIN := Lib.hid hin
  have HE := Lib.hid he
  have HEE := Lib.hid hE
  have HQ := Lib.hid hQ
  have HX := Lib.hid hX
  have HTK := Lib.hid (sumN_next hat)
  have HB0 := Lib.hid (show sumN (l.take j) ≤ 3000 from Nat.le_trans (sumN_take_le l j) hsum)
  have hz := HIN.out.ca
  have x0 := HIN.out.x0
  have x2 := HIN.out.x2
  have x3 := HIN.out.x3
  have x4 := HIN.out.x4
  have x5 := HIN.out.x5
  have y5 : (0 : Int) ≤ (k : Int) := by omega
  have y6 : (k : Int) < (E.length : Int) := by omega
  have hE1 : 1 ≤ E.length := hE.1
  have hE2 : E.length ≤ 13 := hE.2
  clear hin he hE hQ hX hsum hat hfa
  obtain ⟨a4, b4⟩ := row5 HIN.out.wd.all HE.out 4 _ (by decide) rfl
  go_wp2_with fail
  exact HQ.out _ _ _ _ _ _ _ _ _ _ _ _ _ _ _ _ _ _ _ _ _ _ _ _ _ _ _ _ _ _ _ _ _ _ _ _ _ _ _ _ _ _ _ _ _ _ _ _ _ _ _ _ _ _ _ _ _ _ _ _ _ _ _ _ _ _ _ _ _ _ _ _ _ _ _ _ _ _ _ _ _ _ _ _ _ _ _ _ _ _ _ _ _ _ _ _ _ _ _ _ _ _ _ _ _ _ _ _ _ _ _ _ _ _ _ _ _ _ _ _ _ _ _ _ _ _ _ _ _ _ _ _ _ _ _ _ _ _ _ _ _ _ _ _ _ _ _ _ _ _ _ _ _ _ _ _ _ _ _ _ _ _ _ _ _ _ _ _ _ _ _ _ _ _ _ _ _ _ _ _ _ _ _ _ _ _ _ _ _ _ _ _ _ _ _ ⟨rfl, (HIN.out.free HE.out).x2, la, rfl, hla0, by omega, (HIN.out.free HE.out).mid HEE.out.1 HEE.out.2 (by rw [HTK.out]; omega) hz0⟩

end Go.Proofs.Ytgkhbnkbhcginaa
